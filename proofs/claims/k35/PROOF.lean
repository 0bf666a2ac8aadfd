import PyProof.Rows.All
import Wide.All
import OpenK.AllK
import Wide.FinOn
import Lean
import PyProof.EqAt
import PyProof.EqKinds
import PyProof.TupleCall
import PyProof.P3Statements
import KE.KSortTup
import PyProof.AttrMissHeap
import PyProof.ZipIter
import PyProof.Draws
import PyProof.ListMulRoad
import Wide.Seal
import PySem.Challenge.RW_doorwatch_k35_whole_walkers_at_a_box
set_option Elab.async false
set_option linter.all false
set_option maxRecDepth 100000
set_option maxHeartbeats 0
open PySem.W renaming Frag → y00, keepIn → y08, findIn → y0d, fnOf → y0i, nsIn → y0s, mg_of → y12, mg_none_of → y1d, emptyDict → y1o, instObj → y22
open Option renaming bind_eq_some_iff → y01, map_eq_some_iff → y07, bind_some → y0p, map_some → y1t
open PySem renaming wpAny_bind → y02, Shared → y04, wpAny_pure → y06, starEach → y0a, FuncData → y0b, sizeLine → y0j, mainGlobals → y0n, Program → y0q, wpAny → y0u, wpAny_mono → y1e, mem_of_lookup → y2h
open PySem.Heap renaming get?_push_of_some → y03, lt_size → y0c, get?_push_size → y0l, size_push → y18
open List renaming mem_cons_of_mem → y05, mem_cons → y09, map_cons → y0e, mem_cons_self → y0f, replicate → y0g, size_toArray → y0h, getElem?_eq_some_iff → y0k, mem_map → y0m, nodup_cons → y0r, getElem?_eq_getElem → y0v, length_cons → y0w, mem_singleton → y0z, mem_append → y11, length_map → y14, getElem?_map → y15, pairwise_cons → y19, map_nil → y1a, mem_append_right → y1b, lookup_cons → y1g, set_cons_zero → y1j, lookup → y1l, set_cons_succ → y1m, getElem?_append_right → y1n, nodup_append → y1p, getElem?_append_left → y1q, find?_cons → y1u, replicate_succ → y1v, mem_of_getElem? → y1y, append_nil → y23, zip_cons_cons → y26, length_append → y27, length_filter_le → y2c, getElem?_set → y2d, flatten_cons → y2e, not_mem_nil → y2g, getElem?_cons_zero → y2i, getElem?_cons_succ → y2j, length_nil → y2l, append_assoc → y2p, nil_append → y2q, cons_append → y2r, map_map → y2s
open Nat renaming le_refl → y0o, lt_of_lt_of_le → y0x, ne_of_lt → y0y, ne_of_gt → y16, le_trans → y1s, zero_le → y29, le_succ → y2m
open PySem.Builtin.SmallTypes renaming nextOf → y0t, ownedTupleIsFree → y10
open PySem.Builtin.Tuple renaming tupleExact → y13
open Function renaming comp_def → y17
open Bool renaming and_eq_true → y1c, false_eq_true → y1x, false_ne_true → y28
open PySem.PyData renaming depthAll → y1f, canLayAll0 → y1h, str → y20, eqv → y25, depth → y2a
open PyProof.Rows renaming slot_tuple_getitem → y1i, callWith_type1 → y1w
open PySem.Builtin.Slice renaming slicePlaces → y1k
open Array renaming getElem?_eq_getElem → y1r, length_toList → y24
open PySem.Around renaming under_plainId → y1z
open False renaming elim → y21
open PySem.PassesOwn renaming never → y2b
open PySem.F renaming slot_tuple_iterator_next → y2f
open Option.some renaming inj → y2k
open Int renaming emod_nonneg → y2n, emod_lt_of_pos → y2o
namespace PySem.W.Fast
def tw12673887467916587481:=0
def tw17979426507678765207:=0
def tw9794895564838140612:=0
def tw9919696656634945090:=0
def tw8039639382232896018:=0
def tw4830343709528463833:=0
def tw7745545463857043006:=0
def tw16347756579701743787:=0
def tw1730391472580482763:=0
def tw3387303430227614679:=0
def tw4388965104458075495:=0
def tw6980159913750900208:=0
def tw4131235463709822971:=0
def tw9090680486046367406:=0
def tw14957194766524128964:=0
def tw9518958215795478719:=0
def tw15205550578180686021:=0
def tw18351866046114037899:=0
def tw7335405567254113310:=0
def tw5827325953864608984:=0
def tw3741710596652202072:=0
def tw5905992607262787359:=0
def tw12828651286546491201:=0
def tw7007373697310196420:=0
def tw1567407477183337118:=0
def tw9365279032719416430:=0
def tw4213532467319973044:=0
def tw7933136769538949717:=0
def tw5633951956594079191:=0
def tw17861949866001121826:=0
def tw11590951278091127646:=0
def tw8873142811080115000:=0
def tw14655688645931478140:=0
def tw6059440533279271803:=0
def tw17207453824756273409:=0
def tw12422299928121870620:=0
def tw16457145386362131502:=0
def tw7951747512467410894:=0
def tw7483388688270579347:=0
def tw15332255258624905985:=0
def tw17957082894973715223:=0
def tw15188942746946455150:=0
def tw657552391117623761:=0
def tw2195336322881190872:=0
def tw12021075559605850794:=0
def tw4829859478603050323:=0
def tw13260889582428130099:=0
def tw4746502540886072284:=0
def tw12683411000263055231:=0
def tw9708130172596858981:=0
def tw3141420294033946112:=0
def tw1768378141564713919:=0
def tw8790542370520182656:=0
def tw12816238887201726812:=0
def tw12186292892412791591:=0
def tw14448257857878363591:=0
def tw3780172100742752668:=0
def tw16540543057414643923:=0
def tw18001578106034715036:=0
def tw16990331785120736552:=0
def tw12152455709551571024:=0
def tw2834776015692489615:=0
def tw2011960961168518227:=0
def tw3042823792817829666:=0
def tw14253768791429206560:=0
def tw9839724269798614548:=0
def tw14797030678457576963:=0
def tw13139247243696430402:=0
def tw4575865025448469245:=0
def tw11789383068580117263:=0
def tw6091031317661858662:=0
def tw4166840318832645876:=0
def tw13863151434579128021:=0
def tw2934465326414890258:=0
def tw15572407691034145625:=0
def tw11973781747251948239:=0
def tw9346393139771475177:=0
def tw9025946777722089926:=0
def tw12880654356072015706:=0
def tw14326624597775459015:=0
def tw3702614669223786934:=0
def tw17401162668394273311:=0
def tw17387631733289014455:=0
def tw2908802643002470737:=0
def tw7838761581551913:=0
def tw15359026375787528801:=0
def tw4675119226270796335:=0
def tw17943737679191797552:=0
def tw5241735974063925858:=0
def tw11752576720156462468:=0
def tw5220665623213909121:=0
def tw12708987448351645289:=0
def tw5514035065992166357:=0
def tw333874262213759723:=0
def tw4775983982182837265:=0
def tw6773995063956002270:=0
def tw4798913649620203086:=0
def tw11722852853219301397:=0
def tw2383380126554282753:=0
def tw18325030825715364552:=0
def tw7531516171068288116:=0
def tw3750081686827266582:=0
def tw16141792886085044250:=0
def tw98840491772228496:=0
def tw15796668775713419657:=0
def tw2357927751828488311:=0
def tw14605956370863877910:=0
def tw11112543435134805727:=0
def tw365220920454028120:=0
def tw4253048885348800845:=0
def tw2040802960555706019:=0
def tw7990616694681942519:=0
def tw766930320244955188:=0
def tw12757115629468851961:=0
def tw5037242572522527196:=0
def tw13471362236933559625:=0
def tw10063200076542271778:=0
def tw13176342577395619919:=0
def tw6339253450043291416:=0
def tw7607570841560146716:=0
def tw13632687206412227381:=0
def tw2177059104649326743:=0
def tw4587271624005957593:=0
def tw18332709142828281431:=0
def tw17165321875048832170:=0
def tw7875647339555248411:=0
def tw17887675514070242834:=0
def tw9976740261984451099:=0
def tw5365025485623937196:=0
def tw7867021550185257914:=0
def tw11366158617032072598:=0
def tw18051803653953664569:=0
def tw14126246530990441337:=0
def tw7882638708739925047:=0
end PySem.W.Fast
noncomputable section
section
namespace L2
open PySem PySem.Spec PyProof.Rows
abbrev Key:=Sum Int Str
def zih:Key->Value->Bool
 | .inl k,v=>Value.isInt k v
 | .inr x,v=>Value.isStrOf x v
def keyH (w:World):Key->Int
 | .inl k=>hashInt k
 | .inr x=>hashStr w x
theorem z1q:∀{k:Key} {v:Value},zih k v=true->(∃i t,k=Sum.inl i/\v=Value.int i t)\/(∃x t,k=Sum.inr x/\v=Value.str x t)
 | .inl i,v,h=>by
  obtain⟨t,e⟩:=Value.isInt_shape (k:=i) (v:=v) h
  exact .inl ⟨i,t,rfl,e⟩
 | .inr x,v,h=>by
  obtain⟨t,e⟩:=Value.isStrOf_shape (x:=x) (v:=v) h
  exact .inr ⟨x,t,rfl,e⟩
theorem zp8 (i:Int) (t:Tok):zih (.inl i) (.int i t)=true:=by simp[zih,Value.isInt]
theorem zp7 (x:Str) (t:Tok):zih (.inr x) (.str x t)=true:=by simp[zih,Value.isStrOf]
theorem zxl (a b:Int):decide ((Sum.inl a:Key)=Sum.inl b)=(a == b):=by
 by_cases e:a=b
 ·subst e;simp
 ·have h:¬(Sum.inl a:Key)=Sum.inl b:=fun q=>e (Sum.inl.inj q)
  rw[decide_eq_false h]
  exact (beq_eq_false_iff_ne.mpr e).symm
theorem zxi (a b:Str):decide ((Sum.inr a:Key)=Sum.inr b)=decide (a=b):=by
 by_cases e:a=b
 ·subst e;simp
 ·have h:¬(Sum.inr a:Key)=Sum.inr b:=fun q=>e (Sum.inr.inj q)
  rw[decide_eq_false h,decide_eq_false e]
theorem zxk (a:Int) (b:Str):decide ((Sum.inl a:Key)=Sum.inr b)=false:=decide_eq_false (fun q=>nomatch q)
theorem zxj (a:Str) (b:Int):decide ((Sum.inr a:Key)=Sum.inl b)=false:=decide_eq_false (fun q=>nomatch q)
noncomputable def z1i (prog:y0q) (w:World):PySem.KeyKind prog w Key where
 is:=zih
 hash:=keyH w
 inj:=fun v a b ha hb=>by
  rcases z1q ha with ⟨i,t,rfl,rfl⟩|⟨x,t,rfl,rfl⟩
  ·rcases z1q hb with ⟨j,u,rfl,e⟩|⟨y,u,rfl,e⟩
   ·injection e with e1 _;rw[e1]
   ·exact nomatch e
  ·rcases z1q hb with ⟨j,u,rfl,e⟩|⟨y,u,rfl,e⟩
   ·exact nomatch e
   ·injection e with e1 _;rw[e1]
 byValue:=fun k v h=>by
  rcases z1q h with ⟨i,t,rfl,rfl⟩|⟨x,t,rfl,rfl⟩ <;> rfl
 pyHash:=fun hv h=>by
  rcases z1q hv with ⟨i,t,rfl,rfl⟩|⟨x,t,rfl,rfl⟩
  ·exact wpAny_pyHash_int h
  ·exact wpAny_pyHash_str h
 eqBool:=fun hu hv h=>by
  rcases z1q hu with ⟨i,t,rfl,rfl⟩|⟨x,t,rfl,rfl⟩
  ·rcases z1q hv with ⟨j,u,rfl,rfl⟩|⟨y,u,rfl,rfl⟩
   ·rw[zxl] at h;exact wpAny_eqBool_int h
   ·rw[zxk] at h;exact SeqAt.EqAt.int_str i t y u _ _ _ _ h
  ·rcases z1q hv with ⟨j,u,rfl,rfl⟩|⟨y,u,rfl,rfl⟩
   ·rw[zxj] at h;exact SeqAt.EqAt.str_int x t j u _ _ _ _ h
   ·rw[zxi] at h;exact wpAny_eqBool_str h
 «strs»:=fun k x t v h=>by
  rcases z1q h with ⟨i,u,rfl,e⟩|⟨y,u,rfl,e⟩
  ·exact nomatch e
  ·injection e with e1 _
   subst e1
   cases v <;> rfl
theorem zfi (prog:y0q) (w:World) (k:Key) (v:Value):(z1i prog w).is k v=zih k v:=rfl
theorem zdt (prog:y0q) (w:World) (i:Int) (t:Tok):(z1i prog w).is (.inl i) (.int i t)=true:=zp8 i t
theorem zds (prog:y0q) (w:World) (x:Str) (t:Tok):(z1i prog w).is (.inr x) (.str x t)=true:=zp7 x t
end L2
namespace L2
open PySem PySem.Spec PyProof.Rows
inductive V where
 | non|bl (b:Bool)|int (i:Int)|str (x:Str)|byt (b:Array UInt8)|flt (b:UInt64)|ref (a:Addr)|ty (n:String)
 deriving DecidableEq
noncomputable def RelV:V->Value->Prop
 | .non,u=>u=Value.none
 | .bl b,u=>u=Value.bool b
 | .int i,u=>∃t,u=Value.int i t
 | .str x,u=>∃t,u=Value.str x t
 | .byt b,u=>∃t,u=Value.bytes b t
 | .flt b,u=>∃t,u=Value.float b t
 | .ref a,u=>u=Value.ref a
 | .ty n,u=>u=Value.type n
abbrev Vals:List V->List Value->Prop:=Paired RelV
theorem Vals.length {xs:List V} {us:List Value} (r:Vals xs us):xs.length=us.length:=Paired.length r
theorem Vals.get:∀{xs:List V} {us:List Value} {i:Nat} {x:V},Vals xs us->xs[i]?=some x->∃u,us[i]?=some u/\RelV x u
 | _,_,_,_,.nil,e=>by simp at e
 | _,_,0,_,.cons r _,e=>by simp at e;subst e;exact⟨_,rfl,r⟩
 | _,_,i+1,x,.cons _ t,e=>by
  obtain⟨u,h1,h2⟩:=Vals.get (i:=i) (x:=x) t (by simpa using e)
  exact⟨u,by simpa using h1,h2⟩
theorem Vals.append:∀{xs ys:List V} {us ws:List Value},Vals xs us->Vals ys ws->Vals (xs++ys) (us++ws)
 | _,_,_,_,.nil,s=>s
 | _,_,_,_,.cons r t,s=>.cons r (Vals.append t s)
theorem Vals.take:∀{xs:List V} {us:List Value} (n:Nat),Vals xs us->Vals (xs.take n) (us.take n)
 | _,_,0,_=>.nil
 | _,_,_+1,.nil=>.nil
 | _,_,n+1,.cons r t=>.cons r (Vals.take n t)
theorem Vals.drop:∀{xs:List V} {us:List Value} (n:Nat),Vals xs us->Vals (xs.drop n) (us.drop n)
 | _,_,0,r=>r
 | _,_,_+1,.nil=>.nil
 | _,_,n+1,.cons _ t=>Vals.drop n t
noncomputable def RelO:Option V->Option Value->Prop
 | some v,some u=>RelV v u
 | none,none=>True
 | _,_=>False
noncomputable def KV {κ:Type}:List (κ×V)->List (κ×Value)->Prop:=Paired fun (p:κ×V) (q:κ×Value)=>p.1=q.1/\RelV p.2 q.2
def kV:Key->V
 | .inl i=>.int i
 | .inr x=>.str x
inductive HO where
 | lst (xs:List V)
 | tup (xs:List V)
 | dK (kvs:List (Key×V))|dT (kvs:List (List Key×V))
 | set (S:Int->Bool) (n:Nat)
 | ins (C dx:Addr) (fs:List (Str×V))
 | own (x:Addr)
 | xd (fs:List (Str×V))
 | met (f x:Addr)
 | rng (lo hi:Int)
 | frz (o:Obj) (u:HO)
 | tbl (ps:Array Value)
 | ext (φ:Heap->Prop)
abbrev Hp:=Addr->Option HO
def upd (H:Hp) (a:Addr) (o:HO):Hp:=fun b=>if b=a then some o else H b
theorem z0e {H:Hp} {a:Addr} {o:HO}:upd H a o a=some o:=by unfold upd;rw[if_pos rfl]
theorem z0c {H:Hp} {a b:Addr} {o:HO} (h:b≠a):upd H a o b=H b:=by unfold upd;rw[if_neg h]
theorem zyx {H:Hp} {a b:Addr} {o u:HO} (h:H a=some o) (h':H b=some u) (d:o≠u):a≠b:=by
 intro e;subst e;rw[h] at h';exact d (y2k h')
theorem z0j {H:Hp} {a b:Addr} {o:HO} (h:H a=some o) (h':H b=none):a≠b:=by
 intro e;subst e;rw[h] at h';cases h'
section
variable (P:y0q) (w:World)
noncomputable def z6j (H:Hp) (h:Heap) (a:Addr):HO->Prop
 | .lst xs=>xs.length<=y0j/\∃(its:List Value) (n:Nat),Vals xs its/\h.get? a=some { cls:=.type "list",data:=.seq its.toArray n }
 | .tup xs=>xs.length<=y0j/\∃its:List Value,Vals xs its/\IsTup h a its.toArray
 | .dK kvs=>kvs.length<=y0j/\(a == sysModules)=false/\∃vs,KV kvs vs/\h.DictOf (z1i P w) a vs
 | .dT kvs=>kvs.length<=y0j/\(a == sysModules)=false/\∃xs:List (List Key×Addr×Value),
   Paired (fun (p:List Key×V) (q:List Key×Addr×Value)=>p.1=q.1/\H q.2.1=some (.tup (p.1.map kV))/\RelV p.2 q.2.2) kvs xs /\
   ∃o es ep,h.get? a=some o/\o.ExactDict/\o.data=.dict es ep/\es.toList=xs.map (entryOfKey (tupleKind (z1i P w)))/\(xs.map (·.1)).Nodup
 | .set S n=>h.SetOf (intKind P w) a S n
 | .ins C dx fs=>H dx=some (.own a)/\fs.length<=1000/\dx≠a/\h.get? a=some (y22 C dx) /\
   ∃mA,h.Ns1 dx mA/\(∀f,RelO (fs.lookup f) (mA f))/\PySem.Within mA (fs.map (·.1))
 | .own _=>∃o,h.get? a=some o
 | .xd fs=>∃mA,h.Ns1 a mA/\∀f,RelO (fs.lookup f) (mA f)
 | .rng lo hi=>∃t u v,h.get? a=some { cls:=.type "range",data:=.fields #[.int lo t,.int hi u,.int 1 v] }
 | .frz o u=>h.get? a=some o/\z6j H h a u
 | .tbl ps=>h.get? a=some { cls:=.none,data:=.fields ps }
 | .met f x=>h.get? a=some (PySem.W.methodObj (.ref f) (.ref x))
 | .ext φ=>φ h/\(∃o,h.get? a=some o)/\∀h1 h2:Heap,φ h1->(∀o,h1.get? a=some o->h2.get? a=some o)->φ h2
def HOk (H:Hp) (h:Heap):Prop:=∀a o,H a=some o->z6j P w H h a o
end
section
variable {P:y0q} {w:World} {H H':Hp} {h h':Heap} {a:Addr} {o:HO}
theorem z6j.lt (x:z6j P w H h a o):a<h.objs.size:=by
 cases o with
 | lst xs=>obtain⟨_,_,_,_,e⟩:=x;exact y0c e
 | tup xs=>obtain⟨_,_,_,p⟩:=x;exact p.lt
 | dK kvs=>obtain⟨_,_,_,_,o,_,_,e,_⟩:=x;exact y0c e
 | dT kvs=>obtain⟨_,_,_,_,o,_,_,e,_⟩:=x;exact y0c e
 | set S n=>obtain⟨o,_,_,_,e,_⟩:=x;exact y0c e
 | ins C dx fs=>obtain⟨_,_,_,e,_⟩:=x;exact y0c e
 | own y=>obtain⟨_,e⟩:=x;exact y0c e
 | xd fs=>obtain⟨_,⟨_,_,_,e,_⟩,_⟩:=x;exact y0c e
 | rng lo hi=>obtain⟨_,_,_,e⟩:=x;exact y0c e
 | frz ob u=>obtain⟨e,_⟩:=x;exact y0c e
 | tbl ps=>exact y0c (show h.get? a=some _ from x)
 | met f y=>exact y0c (show h.get? a=some _ from x)
 | ext φ=>obtain⟨_,⟨_,e⟩,_⟩:=x;exact y0c e
theorem Paired.mapP {α β:Type} {F G:α->β->Prop}:∀{l₁:List α} {l₂:List β},Paired F l₁ l₂->(∀a b,F a b->G a b)->Paired G l₁ l₂
 | _,_,.nil,_=>.nil
 | _,_,.cons r t,f=>.cons (f _ _ r) (Paired.mapP t f)
theorem z6j.stay (x:z6j P w H h a o) (k:∀b u,(b=a\/H b=some (.own a))->h.get? b=some u->h'.get? b=some u)
  (ho:∀b,H b=some (.own a)->H' b=some (.own a)) (ht:∀b xs,H b=some (.tup xs)->H' b=some (.tup xs)):z6j P w H' h' a o:=by
 induction o with
 | lst xs=>obtain⟨z,its,n,r,e⟩:=x;exact⟨z,its,n,r,k _ _ (.inl rfl) e⟩
 | tup xs=>obtain⟨z,its,r,ob,e,c⟩:=x;exact⟨z,its,r,ob,k _ _ (.inl rfl) e,c⟩
 | dK kvs=>obtain⟨z,y,vs,r,ob,es,ep,e,c⟩:=x;exact⟨z,y,vs,r,ob,es,ep,k _ _ (.inl rfl) e,c⟩
 | dT kvs =>
  obtain⟨z,y,xs,r,ob,es,ep,e,c⟩:=x
  exact⟨z,y,xs,Paired.mapP r fun p q z=>⟨z.1,ht _ _ z.2.1,z.2.2⟩,ob,es,ep,k _ _ (.inl rfl) e,c⟩
 | set S n=>obtain⟨ob,es,ep,t,e,c⟩:=x;exact⟨ob,es,ep,t,k _ _ (.inl rfl) e,c⟩
 | ins C dx fs =>
  obtain⟨d,z,ne,e,mA,⟨od,es,ep,e2,c⟩,r⟩:=x
  exact⟨ho _ d,z,ne,k _ _ (.inl rfl) e,mA,⟨od,es,ep,k _ _ (.inr d) e2,c⟩,r⟩
 | own y=>obtain⟨ob,e⟩:=x;exact⟨ob,k _ _ (.inl rfl) e⟩
 | xd fs=>obtain⟨mA,⟨od,es,ep,e,c⟩,r⟩:=x;exact⟨mA,⟨od,es,ep,k _ _ (.inl rfl) e,c⟩,r⟩
 | rng lo hi=>obtain⟨t,u,v,e⟩:=x;exact⟨t,u,v,k _ _ (.inl rfl) e⟩
 | frz ob u ih=>obtain⟨e,q⟩:=x;exact⟨k _ _ (.inl rfl) e,ih q⟩
 | tbl ps =>
  have e:h.get? a=some { cls:=.none,data:=.fields ps }:=x
  show h'.get? a=some { cls:=.none,data:=.fields ps }
  exact k a _ (.inl rfl) e
 | met f y =>
  have e:h.get? a=some (PySem.W.methodObj (.ref f) (.ref y)):=x
  show h'.get? a=some (PySem.W.methodObj (.ref f) (.ref y))
  exact k a _ (.inl rfl) e
 | ext φ=>obtain⟨p,⟨o,e⟩,st⟩:=x;exact⟨st _ _ p fun o q=>k _ _ (.inl rfl) q,⟨o,k _ _ (.inl rfl) e⟩,st⟩
theorem HOk.lt (x:HOk P w H h) (e:H a=some o):a<h.objs.size:=(x a o e).lt
theorem HOk.fresh (x:HOk P w H h) (e:h.objs.size<=a):H a=none:=by
 cases q:H a with
 | none=>rfl
 | some u=>exact absurd (y0x (x.lt q) e) (Nat.lt_irrefl _)
theorem HOk.kept (x:HOk P w H h) (k:∀b u,h.get? b=some u->h'.get? b=some u):HOk P w H h':=fun a o e =>
 (x a o e).stay (fun b u _ q=>k b u q) (fun _ q=>q) fun _ _ q=>q
theorem HOk.laid (x:HOk P w H h) (k:∀b u,h.get? b=some u->h'.get? b=some u) (hp:h.objs.size<=a) (new:z6j P w (upd H a o) h' a o):HOk P w (upd H a o) h':=fun b u e=>by
 have hn:=x.fresh hp
 by_cases hb:b=a
 ·subst hb;rw[z0e] at e;cases e;exact new
 ·rw[z0c hb] at e
  exact (x b u e).stay (fun c v _ q=>k c v q) (fun c q=>by rw[z0c (z0j q hn)];exact q) fun c xs q=>by rw[z0c (z0j q hn)];exact q
end
def Rd (H:Hp) (a:Addr) (u:HO):Prop:=H a=some u\/∃o,H a=some (.frz o u)
theorem Rd.ok {P:y0q} {w:World} {H:Hp} {h:Heap} {a:Addr} {u:HO} (r:Rd H a u) (x:HOk P w H h):z6j P w H h a u:=by
 rcases r with r|⟨o,r⟩
 ·exact x a u r
 ·obtain⟨_,q⟩:=x a _ r
  exact q
noncomputable def Mut:Option HO->Prop
 | some (.lst _)=>True
 | some (.dK _)=>True
 | some (.dT _)=>True
 | some (.set _ _)=>True
 | some (.ins _ _ _)=>True
 | some (.ext _)=>True
 | _=>False
section
variable {P:y0q} {w:World} {H:Hp} {h h':Heap} {x e:Addr} {o':HO}
theorem HOk.write (ok:HOk P w H h) (mu:Mut (H x)) (he:e=x\/H e=some (.own x)) (k:∀b u,b≠e->h.get? b=some u->h'.get? b=some u) (heo:∃u,h'.get? e=some u)
  (new:z6j P w (upd H x o') h' x o'):HOk P w (upd H x o') h':=fun b u q=>by
 have nown:∀c y,H c=some (.own y)->c≠x:=fun c y r z=>by subst z;rw[r] at mu;exact mu
 have ntup:∀c xs,H c=some (.tup xs)->c≠x:=fun c xs r z=>by subst z;rw[r] at mu;exact mu
 by_cases hb:b=x
 ·subst hb;rw[z0e] at q;cases q;exact new
 ·rw[z0c hb] at q
  by_cases hbe:b=e
  ·have q':H b=some (.own x):=by
    rcases he with z|z
    ·exact absurd (hbe.trans z) hb
    ·rw[hbe];exact z
   rw[q] at q';cases q'
   obtain⟨v,hv⟩:=heo
   exact⟨v,by rw[hbe];exact hv⟩
  ·refine (ok b u q).stay (fun c v hc r=>k c v ?_ r) (fun c r=>by rw[z0c (nown c b r)];exact r) fun c xs r=>by rw[z0c (ntup c xs r)];exact r
   rcases hc with rfl|hc
   ·exact hbe
   ·rintro rfl
    rcases he with z|z
    ·exact nown c b hc z
    ·rw[hc] at z;cases z;exact hb rfl
end
structure Un (fs ex:List Addr) (H H':Hp) (h h':Heap):Prop where
 keep:∀b o,h.get? b=some o->H b=none->b∉fs->b∉ex->h'.get? b=some o
 slot:∀b o,h.get? b=some o->H b=none->b∈fs->b∉ex->∃sl,h'.get? b=some { o with slots:=sl }
 free:∀b o,h.get? b=some o->H b=none->b∉ex->H' b=none
 there:∀b o,h.get? b=some o->b∉ex->∃o',h'.get? b=some o'
 tups:∀b xs,H b=some (.tup xs)->H' b=some (.tup xs)
 frzs:∀b o u,H b=some (.frz o u)->H' b=some (.frz o u)
 tbls:∀b ps,H b=some (.tbl ps)->∃more,H' b=some (.tbl (ps++more))
section
variable {fs fs' ex ex':List Addr} {H H1 H2:Hp} {h h1 h2 h':Heap} {a x e:Addr} {o:HO}
theorem Un.any (u:Un fs ex H H1 h h1) {b:Addr} {ob:Obj} (q:h.get? b=some ob) (n:H b=none) (hx:b∉ex):∃sl,h1.get? b=some { ob with slots:=sl }:=by
 by_cases hb:b∈fs
 ·exact u.slot b ob q n hb hx
 ·exact⟨ob.slots,u.keep b ob q n hb hx⟩
theorem Un.kept (k:∀b u,h.get? b=some u->h'.get? b=some u):Un fs ex H H h h' :=
 ⟨fun b ob q _ _ _=>k b ob q,fun b ob q _ _ _=>⟨ob.slots,k b ob q⟩,fun _ _ _ n _=>n,fun b ob q _=>⟨ob,k b ob q⟩,fun _ _ q=>q,fun _ _ _ q=>q,fun _ ps q=>⟨#[],by rw[q];simp⟩⟩
theorem Un.refl:Un fs ex H H h h:=Un.kept fun _ _ q=>q
theorem Un.laid (k:∀b u,h.get? b=some u->h'.get? b=some u) (hp:h.objs.size<=a) (hn:H a=none):Un fs ex H (upd H a o) h h' where
 keep:=fun b u q _ _ _=>k b u q
 slot:=fun b u q _ _ _=>⟨u.slots,k b u q⟩
 free:=fun b u q n _=>by rw[z0c (y0y (y0x (y0c q) hp))];exact n
 there:=fun b u q _=>⟨u,k b u q⟩
 tups:=fun b xs q=>by rw[z0c (z0j q hn)];exact q
 frzs:=fun b u xs q=>by rw[z0c (z0j q hn)];exact q
 tbls:=fun b ps q=>⟨#[],by rw[z0c (z0j q hn),q];simp⟩
theorem Un.write (mu:Mut (H x)) (he:e=x\/H e=some (.own x)) (k:∀b u,b≠e->h.get? b=some u->h'.get? b=some u) (heo:∃u,h'.get? e=some u):Un fs ex H (upd H x o) h h':=by
 have hx:∀b,H b=none->b≠x:=fun b n z=>by subst z;rw[n] at mu;exact mu
 have hb:∀b,H b=none->b≠e:=fun b n z=>by
  subst z
  rcases he with r|r
  ·exact hx b n r
  ·rw[n] at r;cases r
 have hm:∀b u,H b=some u->¬Mut (some u)->b≠x:=fun b u q nm z=>by subst z;rw[q] at mu;exact nm mu
 refine⟨fun b u q n _ _=>k b u (hb b n) q,fun b u q n _ _=>⟨u.slots,k b u (hb b n) q⟩,fun b u q n _=>by rw[z0c (hx b n)];exact n,fun b u q _=>?_,
  fun b xs q=>by rw[z0c (hm b _ q fun z=>z)];exact q,fun b u xs q=>by rw[z0c (hm b _ q fun z=>z)];exact q,fun b ps q=>⟨#[],by rw[z0c (hm b _ q fun z=>z),q];simp⟩⟩
 by_cases hbe:b=e
 ·subst hbe;exact heo
 ·exact⟨u,k b u hbe q⟩
end
def trk (h:Heap) (H:Hp):List Addr:=(List.range h.objs.size).filter fun a=>(H a).isSome
def hidT (h:Heap) (H:Hp):Heap:=PySem.W.hideAll h (trk h H)
theorem zpi (h:Heap) (H:Hp):(hidT h H).objs.size=h.objs.size:=PySem.W.hideAll_size _ _
theorem zs9 {h:Heap} {H:Hp} {b:Addr} {o:Obj} (e:h.get? b=some o) (n:H b=none):(hidT h H).get? b=some o :=
 PySem.W.hideAll_get _ e fun hm=>by
  have q:(H b).isSome=true:=(List.mem_filter.mp hm).2
  rw[n] at q;simp at q
theorem zv8 {h:Heap} {H:Hp} {b:Addr} {o:Obj} (e:(hidT h H).get? b=some o):h.get? b=some o/\H b=none:=by
 have e':h.get? b=some o:=PySem.W.of_hideAll (trk h H) e
 refine⟨e',?_⟩
 cases q:H b with
 | none=>rfl
 | some x =>
  have hm:b∈trk h H:=List.mem_filter.mpr ⟨List.mem_range.mpr (y0c e'),by simp[q]⟩
  have z:(hidT h H).get? b=none:=PySem.W.hideAll_none (trk h H) hm
  rw[z] at e;cases e
noncomputable def zw2 (g h:Heap) (L:Addr):List (Addr×Obj):=(List.range h.objs.size).filterMap fun a=>if a=L\/(g.get? a).isSome=true then none else (h.get? a).map fun o=>(a,o)
noncomputable def rest (g h:Heap) (L d:Addr):List (Addr×Obj):=(zw2 g h L).filter fun p=>decide (p.1≠d)
end L2
namespace L2
open PySem PySem.Spec PyProof.Rows
structure Mod (K:y00) (mg:Str->Option Value) (base:Heap):Prop where
 kin:K.In base
 glob:base.Ns y0n mg
 blt:∃mb,base.Ns builtinsNs mb/\∀x:Str,x≠"__name__"->mb x=bootBuiltins x
 nolimit:base.NoLimit
structure Cx where
 prog:y0q
 w:World
 K:y00
 mg:Str->Option Value
 base:Heap
 A:Around
 N:List Str
 s₀:y04
 H₀:Hp
 env:Env
 outer:List Env
 stack:List Env
 ex:List Addr
 fn:Str->Bool
 calm:Bool
 pn:List (Addr×Obj)
 xe:Value->y04->Prop
def frs (l:List Env):List Addr:=l.filterMap (·.frame)
abbrev Cx.fs (X:Cx):List Addr:=frs X.outer
noncomputable def Vis (sc:Scope) (x:Str):Prop:=sc.names.lookup x=some .local\/sc.names.lookup x=some .cell\/sc.names.lookup x=some .free
noncomputable def Loc (sc:Scope) (x:Str):Prop:=sc.names.lookup x=some .local\/sc.names.lookup x=some .cell
noncomputable def Look (env:Env) (h:Heap) (m:Str->Option Value) (x:Str) (u:Value):Prop :=
 (env.kindOf x=some .local/\m x=some u)\/((env.kindOf x=some .cell\/env.kindOf x=some .free)/\∃c,env.cells.lookup x=some c/\h.IsCell c (some u))
structure Cx.Ok (X:Cx):Prop where
 mod:Mod X.K X.mg X.base
 kind:X.env.scope.kind=.function
 glob:X.env.globals=y0n
 blt:X.env.builtins=builtinsNs
 above:X.s₀.heap.objs.size<=X.env.locals
 inj:∀x y c,X.env.cells.lookup x=some c->X.env.cells.lookup y=some c->x=y
 has:∀x,(X.env.kindOf x=some .cell\/X.env.kindOf x=some .free)->∃c,X.env.cells.lookup x=some c
 cab:∀x c,X.fn x=true->X.env.cells.lookup x=some c->X.s₀.heap.objs.size<=c
 hd:X.calm=true->X.A.handled=none
 frames:X.A.frames=some X.stack
 stk:X.stack=X.outer\/(X.stack=X.env::X.outer/\X.env.frame=some X.env.locals)
 exf:∀b∈X.ex,b≠X.env.locals/\∀x c,X.env.cells.lookup x=some c->c≠b
 bs:∀b o,X.base.get? b=some o->X.s₀.heap.get? b=some o/\X.H₀ b=none
 bsz:X.base.objs.size<=X.s₀.heap.objs.size
 noex:∀b o,X.base.get? b=some o->b∉X.ex
 exfs:∀b∈X.ex,b∉X.fs
 funs:X.s₀.heap.FunFrames X.base X.outer
 frf:∀b∈X.fs,X.H₀ b=none
structure Inv (X:Cx) (pins:List (Addr×Obj)) (σ:List (Option V)) (H:Hp) (s:y04):Prop where
 ok:X.Ok
 os:s.os=X.s₀.os
 bare:AllBare s.gens
 base:Un X.fs X.ex X.H₀ H X.s₀.heap s.heap
 loc:∃m,s.heap.Ns X.env.locals m/\∀(i:Nat) (x:Str) (v:V),X.N[i]?=some x->σ[i]?=some (some v)->Vis X.env.scope x->∃u,RelV v u/\Look X.env s.heap m x u
 cell:∀x c,X.env.cells.lookup x=some c->∃v,s.heap.IsCell c v
 free:H X.env.locals=none
 freeC:∀x c,X.env.cells.lookup x=some c->H c=none
 pin:∀p∈X.pn++pins,s.heap.get? p.1=some p.2/\H p.1=none/\p.1≠X.env.locals/\p.1∉X.fs/\∀v,p.2.data≠.cell v
 hok:HOk X.prog X.w H s.heap
 len:σ.length=X.N.length
section
variable {X:Cx} {pins:List (Addr×Obj)} {σ:List (Option V)} {H H':Hp} {s:y04} {h':Heap}
theorem Cx.Ok.nofr (ok:X.Ok) {b:Addr} {o:Obj} (e:X.base.get? b=some o):b∉X.fs:=fun hb=>by
 have:=(ok.funs.mem hb).1
 rw[e] at this;cases this
theorem Inv.bs (I:Inv X pins σ H s):∀b o,X.base.get? b=some o->s.heap.get? b=some o/\H b=none:=fun b o e =>
 ⟨I.base.keep b o (I.ok.bs b o e).1 (I.ok.bs b o e).2 (I.ok.nofr e) (I.ok.noex b o e),I.base.free b o (I.ok.bs b o e).1 (I.ok.bs b o e).2 (I.ok.noex b o e)⟩
theorem Inv.bk (I:Inv X pins σ H s):∀b o,X.base.get? b=some o->s.heap.get? b=some o:=fun b o e=>(I.bs b o e).1
theorem Inv.mod (I:Inv X pins σ H s):Mod X.K X.mg X.base:=I.ok.mod
theorem Inv.kIn (I:Inv X pins σ H s):X.K.In s.heap:=I.ok.mod.kin.keeps I.bk
theorem Inv.lt (I:Inv X pins σ H s):X.env.locals<s.heap.objs.size:=let ⟨_,hn,_⟩:=I.loc;hn.lt
theorem Inv.sz (I:Inv X pins σ H s):X.s₀.heap.objs.size<=s.heap.objs.size:=y1s I.ok.above (Nat.le_of_lt I.lt)
theorem Inv.nofs (I:Inv X pins σ H s) {a:Addr} (h:s.heap.objs.size<=a):a∉X.fs:=fun hb=>by
 obtain⟨_,o,ho,_⟩:=I.ok.funs.mem hb
 exact absurd (y0x (y0c ho) (y1s I.sz h)) (Nat.lt_irrefl _)
theorem Inv.cne (I:Inv X pins σ H s):∀x c,X.env.cells.lookup x=some c->c≠X.env.locals:=fun x c e z=>by
 obtain⟨v,o,ho,hd⟩:=I.cell x c e
 obtain⟨m,⟨o',es,ep,ho',hd',_⟩,_⟩:=I.loc
 rw[z,ho'] at ho;cases ho;rw[hd'] at hd;cases hd
theorem Inv.funs (I:Inv X pins σ H s):s.heap.FunFrames X.base X.outer:=by
 have all:∀(l:List Env),(∀b∈frs l,b∈X.fs)->X.s₀.heap.FunFrames X.base l->s.heap.FunFrames X.base l:=by
  intro l
  induction l with
  | nil=>intro _ _;trivial
  | cons env r ih =>
   intro hs hl
   obtain⟨hk,⟨L,o,hf,hn,ho,hd⟩,hr⟩:=hl
   have hL:L∈X.fs:=hs L (by unfold frs;rw[List.filterMap_cons,hf];exact y0f)
   obtain⟨sl,e⟩:=I.base.slot L o ho (I.ok.frf L hL) hL fun z=>I.ok.exfs L z hL
   exact⟨hk,⟨L,_,hf,hn,e,hd⟩,ih (fun b hb=>hs b (by unfold frs;rw[List.filterMap_cons,hf];exact y05 _ hb)) hr⟩
 exact all X.outer (fun _ hb=>hb) I.ok.funs
theorem Inv.stack (I:Inv X pins σ H s):s.heap.FunFrames X.base X.stack:=by
 rcases I.ok.stk with e|⟨e,hf⟩
 ·rw[e];exact I.funs
 ·rw[e]
  obtain⟨m,hn,_⟩:=I.loc
  refine .cons (by rw[I.ok.kind];decide) hf hn ?_ I.funs
  exact Heap.get?_none_of_le (y1s I.ok.bsz I.ok.above)
theorem Inv.stkSub (I:Inv X pins σ H s):∀b∈frs X.stack,b∈X.env.locals::X.fs:=fun b hb=>by
 rcases I.ok.stk with e|⟨e,hf⟩
 ·rw[e] at hb;exact y05 _ hb
 ·rw[e] at hb
  unfold frs at hb
  rw[List.filterMap_cons,hf] at hb
  exact hb
theorem Inv.stkFree (I:Inv X pins σ H s):∀b∈frs X.stack,H b=none:=fun b hb=>by
 rcases y09.mp (I.stkSub b hb) with e|hb
 ·rw[e];exact I.free
 ·obtain⟨_,o,ho,_⟩:=I.ok.funs.mem hb
  exact I.base.free b o ho (I.ok.frf b hb) fun z=>I.ok.exfs b z hb
theorem Inv.step {g':Array GenState} {t':Nat} {d':Drawn} {ch:List Addr} (I:Inv X pins σ H s)
  (hch:∀b∈ch,(b∈X.ex\/X.s₀.heap.objs.size<=b)/\b≠X.env.locals/\(∀x c,X.env.cells.lookup x=some c->c≠b)/\∀p∈X.pn++pins,p.1≠b)
  (keep:∀b o,b≠X.env.locals->b∉X.fs->b∉ch->s.heap.get? b=some o->H b=none->h'.get? b=some o)
  (slot:∀b o,b≠X.env.locals->b∈X.fs->b∉ch->s.heap.get? b=some o->H b=none->∃sl,h'.get? b=some { o with slots:=sl }) (free:∀b o,b∉ch->s.heap.get? b=some o->H b=none->H' b=none)
  (there:∀b o,b∉ch->s.heap.get? b=some o->∃o',h'.get? b=some o')
  (tups:∀b xs,H b=some (.tup xs)->H' b=some (.tup xs)) (frzs:∀b o u,H b=some (.frz o u)->H' b=some (.frz o u)) (tbls:∀b ps,H b=some (.tbl ps)->∃more,H' b=some (.tbl (ps++more)))
  (ns:∀m,s.heap.Ns X.env.locals m->h'.Ns X.env.locals m) (hok:HOk X.prog X.w H' h') (hg:AllBare g') :
  Inv X pins σ H' { s with heap:=h',gens:=g',drawn:=d',toks:=t' }:=by
 have neL:∀b o,X.s₀.heap.get? b=some o->b≠X.env.locals:=fun b o e=>y0y (y0x (y0c e) I.ok.above)
 have neC:∀b o,X.s₀.heap.get? b=some o->b∉X.ex->b∉ch:=fun b o e hx hb=>by
  rcases (hch b hb).1 with z|z
  ·exact hx z
  ·exact absurd (y0x (y0c e) z) (Nat.lt_irrefl _)
 have cellK:∀x c,X.env.cells.lookup x=some c->∀v,s.heap.IsCell c v->h'.IsCell c v:=fun x c e v ⟨o,ho,hd⟩=>by
  have nch:c∉ch:=fun z=>(hch c z).2.2.1 x c e rfl
  by_cases hc:c∈X.fs
  ·obtain⟨sl,q⟩:=slot c o (I.cne x c e) hc nch ho (I.freeC x c e)
   exact⟨_,q,hd⟩
  ·exact⟨o,keep c o (I.cne x c e) hc nch ho (I.freeC x c e),hd⟩
 refine⟨I.ok,I.os,hg,⟨fun b o e n hb hx=>?_,fun b o e n hb hx=>?_,fun b o e n hx=>?_,fun b o e hx=>?_,fun b xs e=>tups b xs (I.base.tups b xs e),fun b o xs e=>frzs b o xs (I.base.frzs b o xs e),fun b ps e=>?_⟩,?_,fun x c e=>?_,?_,fun x c e=>?_,fun p hp=>?_,hok,I.len⟩
 ·exact keep b o (neL b o e) hb (neC b o e hx) (I.base.keep b o e n hb hx) (I.base.free b o e n hx)
 ·obtain⟨sl,e1⟩:=I.base.slot b o e n hb hx
  obtain⟨sl',e2⟩:=slot b _ (neL b o e) hb (neC b o e hx) e1 (I.base.free b o e n hx)
  exact⟨sl',e2⟩
 ·obtain⟨o',e1⟩:=I.base.there b o e hx
  exact free b o' (neC b o e hx) e1 (I.base.free b o e n hx)
 ·obtain⟨o',e1⟩:=I.base.there b o e hx
  exact there b o' (neC b o e hx) e1
 ·obtain⟨m1,e1⟩:=I.base.tbls b ps e
  obtain⟨m2,e2⟩:=tbls b _ e1
  exact⟨m1++m2,by rw[e2,Array.append_assoc]⟩
 ·obtain⟨m,hn,hl⟩:=I.loc
  refine⟨m,ns m hn,fun i x v e1 e2 e3=>?_⟩
  obtain⟨u,r,l⟩:=hl i x v e1 e2 e3
  refine⟨u,r,?_⟩
  rcases l with l|⟨k,c,e,z⟩
  ·exact .inl l
  ·exact .inr ⟨k,c,e,cellK x c e _ z⟩
 ·obtain⟨v,z⟩:=I.cell x c e
  exact⟨v,cellK x c e v z⟩
 ·obtain⟨m,⟨o,_,_,ho,_⟩,_⟩:=I.loc
  exact free _ o (fun z=>(hch _ z).2.1 rfl) ho I.free
 ·obtain⟨v,o,ho,hd⟩:=I.cell x c e
  exact free c o (fun z=>(hch c z).2.2.1 x c e rfl) ho (I.freeC x c e)
 ·obtain⟨e,n,ne,nf,d⟩:=I.pin p hp
  have nch:p.1∉ch:=fun z=>(hch p.1 z).2.2.2 p hp rfl
  exact⟨keep p.1 p.2 ne nf nch e n,free p.1 p.2 nch e n,ne,nf,d⟩
theorem Inv.un {t':Nat} (I:Inv X pins σ H s) (u:Un X.fs [] H H' s.heap h') (hok:HOk X.prog X.w H' h'):Inv X pins σ H' { s with heap:=h',toks:=t' }:=by
 obtain⟨m,⟨o,es,ep,ho,r⟩,_⟩:=id I.loc
 obtain⟨sl,hL⟩:=u.any ho I.free (by simp)
 exact I.step (g':=s.gens) (d':=s.drawn) (ch:=[]) (fun _ z=>nomatch z) (fun b o _ hb _ e n=>u.keep b o e n hb (by simp)) (fun b o _ hb _ e n=>u.slot b o e n hb (by simp)) (fun b o _ e n=>u.free b o e n (by simp)) (fun b o _ e=>u.there b o e (by simp)) u.tups u.frzs u.tbls (fun m' hm=>by
  obtain⟨o',es',ep',ho',r'⟩:=hm
  rw[ho] at ho';cases ho'
  exact⟨_,es',ep',hL,r'⟩) hok I.bare
theorem Inv.call {g':Array GenState} {t':Nat} {d':Drawn} {ch:List Addr} (I:Inv X pins σ H s) (u:Un (frs X.stack) ch H H' s.heap h') (hok:HOk X.prog X.w H' h') (hg:AllBare g')
  (hch:∀b∈ch,(b∈X.ex\/X.s₀.heap.objs.size<=b)/\b≠X.env.locals/\(∀x c,X.env.cells.lookup x=some c->c≠b)/\∀p∈X.pn++pins,p.1≠b) :
  Inv X pins σ H' { s with heap:=h',gens:=g',drawn:=d',toks:=t' }:=by
 obtain⟨m,⟨o,es,ep,ho,r⟩,_⟩:=id I.loc
 obtain⟨sl,hL⟩:=u.any ho I.free fun z=>(hch _ z).2.1 rfl
 exact I.step (ch:=ch) hch (fun b o hL hb hc e n=>u.keep b o e n (fun z=>(y09.mp (I.stkSub b z)).elim hL hb) hc) (fun b o _ _ hc e n=>u.any e n hc) (fun b o hc e n=>u.free b o e n hc) (fun b o hc e=>u.there b o e hc) u.tups u.frzs u.tbls (fun m' hm=>by
  obtain⟨o',es',ep',ho',r'⟩:=hm
  rw[ho] at ho';cases ho'
  exact⟨_,es',ep',hL,r'⟩) hok hg
theorem Inv.turned {t':Nat} {it:Addr} (I:Inv X pins σ H s) (k:∀b o,b≠it->s.heap.get? b=some o->h'.get? b=some o) (hn:H it=none) (hL:it≠X.env.locals)
  (h1:it∈X.ex\/X.s₀.heap.objs.size<=it) (h2:∀x c,X.env.cells.lookup x=some c->c≠it) (h3:∀p∈X.pn++pins,p.1≠it):Inv X pins σ H { s with heap:=h',toks:=t' }:=by
 have nit:∀b u,H b=some u->b≠it:=fun b u e z=>by rw[z,hn] at e;cases e
 refine I.step (g':=s.gens) (d':=s.drawn) (ch:=[it]) (fun b hb=>?_) (fun b o _ _ hc e _=>k b o (fun z=>hc (by simp[z])) e) (fun b o _ _ hc e _=>⟨o.slots,k b o (fun z=>hc (by simp[z])) e⟩) (fun _ _ _ _ n=>n)
  (fun b o hc e=>⟨o,k b o (fun z=>hc (by simp[z])) e⟩) (fun _ _ e=>e) (fun _ _ _ e=>e) (fun b ps e=>⟨#[],by rw[e];simp⟩) (fun m hm=>?_) (fun b u e=>?_) I.bare
 ·have e:b=it:=by simpa using hb
  subst e
  exact⟨h1,hL,h2,h3⟩
 ·obtain⟨o,es,ep,ho,r⟩:=hm
  exact⟨o,es,ep,k _ o (Ne.symm hL) ho,r⟩
 ·refine (I.hok b u e).stay (fun c v hc q=>k c v ?_ q) (fun _ q=>q) fun _ _ q=>q
  rcases hc with z|z
  ·rw[z];exact nit b u e
  ·exact nit c _ z
theorem Inv.tok (I:Inv X pins σ H s) (t:Nat):Inv X pins σ H { s with toks:=t }:=I.un (h':=s.heap) (t':=t) Un.refl I.hok
theorem Inv.kept {t':Nat} (I:Inv X pins σ H s) (k:∀b u,s.heap.get? b=some u->h'.get? b=some u):Inv X pins σ H { s with heap:=h',toks:=t' }:=I.un (Un.kept k) (I.hok.kept k)
theorem Inv.laid {a:Addr} {o:HO} {t':Nat} (I:Inv X pins σ H s) (k:∀b u,s.heap.get? b=some u->h'.get? b=some u) (hp:s.heap.objs.size<=a) (new:z6j X.prog X.w (upd H a o) h' a o) :
  Inv X pins σ (upd H a o) { s with heap:=h',toks:=t' }:=I.un (Un.laid k hp (I.hok.fresh hp)) (I.hok.laid k hp new)
theorem Inv.write {x e:Addr} {o:HO} {t':Nat} (I:Inv X pins σ H s) (mu:Mut (H x)) (he:e=x\/H e=some (.own x)) (k:∀b u,b≠e->s.heap.get? b=some u->h'.get? b=some u) (heo:∃u,h'.get? e=some u)
  (new:z6j X.prog X.w (upd H x o) h' x o):Inv X pins σ (upd H x o) { s with heap:=h',toks:=t' }:=I.un (Un.write mu he k heo) (I.hok.write mu he k heo new)
theorem Inv.pins_of {pins':List (Addr×Obj)} (I:Inv X pins σ H s) (h:∀p∈pins',s.heap.get? p.1=some p.2/\H p.1=none/\p.1≠X.env.locals/\p.1∉X.fs/\∀v,p.2.data≠.cell v):Inv X pins' σ H s :=
 ⟨I.ok,I.os,I.bare,I.base,I.loc,I.cell,I.free,I.freeC,fun p hp=>(y11.mp hp).elim (fun z=>I.pin p (List.mem_append_left _ z)) (h p),I.hok,I.len⟩
theorem zlk {N:List Str} (hN:N.Nodup) {i j:Nat} {x:Str} (a:N[i]?=some x) (b:N[j]?=some x):i=j:=by
 obtain⟨h1,e1⟩:=y0k.mp a
 obtain⟨h2,e2⟩:=y0k.mp b
 exact (List.getElem_inj hN).mp (e1.trans e2.symm)
theorem zhk {M:Model} {A:Around} {E:Value->y04->Prop} {i:Nat} {x:Str} {v:V} {u:Value} {Q:Unit->y04->Prop} (I:Inv X pins σ H s) (hN:X.N.Nodup) (hi:X.N[i]?=some x) (hx:Loc X.env.scope x) (r:RelV v u)
  (h:∀s',Inv X pins (σ.set i (some v)) H s'->(∃a,Heap.SameBut a s.heap s'.heap/\(a=X.env.locals\/X.env.cells.lookup x=some a))->Q () s') (hf:X.fn x=true\/X.env.scope.names.lookup x=some .local:=by first|exact .inl rfl|exact .inr rfl|assumption):y0u M A (storeName X.env x u) Q E s:=by
 obtain⟨m,hn,hl⟩:=id I.loc
 have hcls:(X.env.scope.kind == .class || (X.env.scope.kind == .module && X.env.locals != X.env.globals))=false:=by rw[I.ok.kind];rfl
 have hiσ:i<σ.length:=by rw[I.len];exact (y0k.mp hi).1
 have cne:=I.cne
 have tracked:∀{a:Addr} {h':Heap},(∃o,s.heap.get? a=some o/\H a=none)->Heap.SameBut a s.heap h'->HOk X.prog X.w H h':=fun {a h'} ha hs b ob e=>by
  obtain⟨_,_,hfree⟩:=ha
  refine (I.hok b ob e).stay (fun c w' hc q=>(hs.2 c ?_).trans q) (fun _ q=>q) fun _ _ q=>q
  rintro rfl
  rcases hc with rfl|hc
  ·rw[hfree] at e;cases e
  ·rw[hfree] at hc;cases hc
 rcases hx with hk|hk
 ·refine wpAny_storeName_local hk hn (fun h' hn' hs=>?_) hcls
  obtain⟨oL,_,_,hoL,_⟩:=id hn
  refine h _ ⟨I.ok,I.os,I.bare,⟨fun b o e n hb hx=>?_,fun b o e n hb hx=>?_,I.base.free,fun b o e hx=>?_,I.base.tups,I.base.frzs,I.base.tbls⟩,⟨_,hn',fun j y v' e1 e2 e3=>?_⟩,fun y c e=>?_,I.free,I.freeC,fun p hp=>?_,tracked ⟨oL,hoL,I.free⟩ hs,by simpa using I.len⟩ ⟨_,hs,.inl rfl⟩
  ·exact (hs.2 b (y0y (y0x (y0c e) I.ok.above))).trans (I.base.keep b o e n hb hx)
  ·obtain⟨sl,e1⟩:=I.base.slot b o e n hb hx
   exact⟨sl,(hs.2 b (y0y (y0x (y0c e) I.ok.above))).trans e1⟩
  ·obtain⟨o',e1⟩:=I.base.there b o e hx
   exact⟨o',(hs.2 b (y0y (y0x (y0c e) I.ok.above))).trans e1⟩
  ·by_cases hj:j=i
   ·subst hj
    rw[hi] at e1;cases e1
    rw[List.getElem?_set_self hiσ] at e2
    cases e2
    exact⟨u,r,.inl ⟨hk,by simp⟩⟩
   ·rw[List.getElem?_set_ne (Ne.symm hj)] at e2
    obtain⟨u',r',q⟩:=hl j y v' e1 e2 e3
    refine⟨u',r',?_⟩
    rcases q with ⟨k,e⟩|⟨k,c,e,z⟩
    ·refine .inl ⟨k,?_⟩
     have:y≠x:=fun e=>hj (zlk hN e1 (e▸hi))
     simp[this,e]
    ·exact .inr ⟨k,c,e,z.sameBut hs (cne y c e)⟩
  ·obtain⟨w',z⟩:=I.cell y c e
   exact⟨w',z.sameBut hs (cne y c e)⟩
  ·obtain⟨e,n,ne,nf,d⟩:=I.pin p hp
   exact⟨(hs.2 p.1 ne).trans e,n,ne,nf,d⟩
 ·have hfn:X.fn x=true:=by
   rcases hf with z|z
   ·exact z
   ·rw[z] at hk;cases hk
  obtain⟨c,hc⟩:=I.ok.has x (.inl hk)
  obtain⟨w',z⟩:=I.cell x c hc
  refine wpAny_storeName_cell I.ok.kind hk hc z (fun h' hc' hs=>?_)
  obtain⟨oc,hoc,hocd⟩:=id z
  refine h { s with heap:=h' } ⟨I.ok,I.os,I.bare,⟨fun b o e n hb hx=>?_,fun b o e n hb hx=>?_,I.base.free,fun b o e hx=>?_,I.base.tups,I.base.frzs,I.base.tbls⟩,⟨m,hn.sameBut hs (Ne.symm (cne x c hc)),fun j y v' e1 e2 e3=>?_⟩,fun y c' e=>?_,I.free,I.freeC,fun p hp=>?_,tracked ⟨oc,hoc,I.freeC x c hc⟩ hs,by simpa using I.len⟩ ⟨c,hs,.inr hc⟩
  ·exact (hs.2 b (y0y (y0x (y0c e) (I.ok.cab x c hfn hc)))).trans (I.base.keep b o e n hb hx)
  ·obtain⟨sl,e1⟩:=I.base.slot b o e n hb hx
   exact⟨sl,(hs.2 b (y0y (y0x (y0c e) (I.ok.cab x c hfn hc)))).trans e1⟩
  ·obtain⟨o',e1⟩:=I.base.there b o e hx
   exact⟨o',(hs.2 b (y0y (y0x (y0c e) (I.ok.cab x c hfn hc)))).trans e1⟩
  ·by_cases hj:j=i
   ·subst hj
    rw[hi] at e1;cases e1
    rw[List.getElem?_set_self hiσ] at e2
    cases e2
    exact⟨u,r,.inr ⟨.inl hk,c,hc,hc'⟩⟩
   ·rw[List.getElem?_set_ne (Ne.symm hj)] at e2
    obtain⟨u',r',q⟩:=hl j y v' e1 e2 e3
    refine⟨u',r',?_⟩
    rcases q with q|⟨k,c',e,z'⟩
    ·exact .inl q
    ·refine .inr ⟨k,c',e,z'.sameBut hs ?_⟩
     rintro rfl
     exact hj (zlk hN e1 (I.ok.inj _ _ _ e hc▸hi))
  ·by_cases hcc:c'=c
   ·subst hcc;exact⟨_,hc'⟩
   ·obtain⟨w2,z2⟩:=I.cell y c' e
    exact⟨w2,z2.sameBut hs hcc⟩
  ·obtain⟨e,n,ne,nf,d⟩:=I.pin p hp
   refine⟨(hs.2 p.1 ?_).trans e,n,ne,nf,d⟩
   intro q
   rw[q,hoc] at e
   have q':oc=p.2:=y2k e
   exact d w' (by rw[<- q'];exact hocd)
theorem zl5 {M:Model} {A:Around} {E:Value->y04->Prop} {i:Nat} {x:Str} {v:V} {u:Value} {Q:Unit->y04->Prop} (I:Inv X pins σ H s) (hN:X.N.Nodup) (hi:X.N[i]?=some x) (hx:Loc X.env.scope x) (r:RelV v u)
  (h:∀s',Inv X pins (σ.set i (some v)) H s'->Q () s') (hf:X.fn x=true\/X.env.scope.names.lookup x=some .local:=by first|exact .inl rfl|exact .inr rfl|assumption):y0u M A (storeName X.env x u) Q E s :=
 zhk I hN hi hx r (fun s' I' _=>h s' I') hf
end
abbrev XK:=Value->Option Addr->Hp->Prop
abbrev St:=List (Option V)
abbrev VK:=V->Hp->Prop
abbrev TE:=St->Hp->VK->Prop
abbrev TT:=St->Hp->(Bool->Hp->Prop)->Prop
abbrev TA:=St->Hp->(List V->Hp->Prop)->Prop
structure Ends where
 nx:St->Hp->Prop
 rt:VK
 bk:St->Hp->Prop:=fun _ _=>False
 ct:St->Hp->Prop:=fun _ _=>False
abbrev TS:=Ends->St->Hp->Prop
noncomputable def EP (X:Cx) (pins:List (Addr×Obj)) (σ:St) (Q:VK) (u:Value) (s':y04):Prop:=∃v H',Inv X pins σ H' s'/\RelV v u/\Q v H'
noncomputable def TP (X:Cx) (pins:List (Addr×Obj)) (σ:St) (Q:Bool->Hp->Prop) (b:Bool) (s':y04):Prop:=∃H',Inv X pins σ H' s'/\Q b H'
noncomputable def AP (X:Cx) (pins:List (Addr×Obj)) (σ:St) (Q:List V->Hp->Prop) (us:List Value) (s':y04):Prop:=∃vs H',Inv X pins σ H' s'/\Vals vs us/\Q vs H'
noncomputable def SP (X:Cx) (pins:List (Addr×Obj)) (D:Ends) (f:Flow) (s':y04):Prop :=
 match f with
 | .next=>∃σ' H',Inv X pins σ' H' s'/\D.nx σ' H'
 | .brk=>∃σ' H',Inv X pins σ' H' s'/\D.bk σ' H'
 | .cont=>∃σ' H',Inv X pins σ' H' s'/\D.ct σ' H'
 | .ret u=>∃v σ' H',Inv X pins σ' H' s'/\RelV v u/\D.rt v H'
noncomputable def PE (X:Cx) (e:Expr) (t:TE):Prop :=
 ∀(pins:List (Addr×Obj)) (s:y04) (σ:St) (H:Hp) (Q:VK),Inv X pins σ H s->t σ H Q->y0u (model X.prog X.w) X.A (eval e X.env) (EP X pins σ Q) X.xe s
noncomputable def PT (X:Cx) (e:Expr) (t:TT):Prop :=
 ∀(pins:List (Addr×Obj)) (s:y04) (σ:St) (H:Hp) (Q:Bool->Hp->Prop),Inv X pins σ H s->t σ H Q->y0u (model X.prog X.w) X.A (isTrue e X.env (eval e X.env)) (TP X pins σ Q) X.xe s
noncomputable def PW (X:Cx) (e:Expr) (t:TT):Prop :=
 ∀(whole:Sem Value) (pins:List (Addr×Obj)) (s:y04) (σ:St) (H:Hp) (Q:Bool->Hp->Prop),Inv X pins σ H s->t σ H Q->y0u (model X.prog X.w) X.A (isTrue e X.env whole) (TP X pins σ Q) X.xe s
theorem PW.pt {X:Cx} {e:Expr} {t:TT} (h:PW X e t):PT X e t:=h _
noncomputable def PA (X:Cx) (es:List Expr) (t:TA):Prop :=
 ∀(pos:Pos) (pins:List (Addr×Obj)) (s:y04) (σ:St) (H:Hp) (Q:List V->Hp->Prop),Inv X pins σ H s->t σ H Q->y0u (model X.prog X.w) X.A (spliced (backTo pos (y0a es X.env))) (AP X pins σ Q) X.xe s
noncomputable def PS (X:Cx) (st:Stmt) (t:TS):Prop :=
 ∀(pins:List (Addr×Obj)) (s:y04) (σ:St) (H:Hp) (D:Ends),Inv X pins σ H s->t D σ H->y0u (model X.prog X.w) X.A (exec st X.env) (SP X pins D) X.xe s
noncomputable def PSs (X:Cx) (st:List Stmt) (t:TS):Prop :=
 ∀(pins:List (Addr×Obj)) (s:y04) (σ:St) (H:Hp) (D:Ends),Inv X pins σ H s->t D σ H->y0u (model X.prog X.w) X.A (execs st X.env) (SP X pins D) X.xe s
theorem thn {α:Type} {t:Sem α} {Q Q':α->y04->Prop} {M:Model} {A:Around} {E:Value->y04->Prop} {s:y04} (h:y0u M A t Q E s) (hQ:∀a s,Q a s->Q' a s):y0u M A t Q' E s:=y1e h hQ fun _ _ x=>x
end L2
namespace L2
open PySem PySem.Spec PyProof.Rows
section
variable {X:Cx}
def tVar (i:Nat):TE:=fun σ H Q=>∃v,σ[i]?=some (some v)/\Q v H
def tC (v:V):TE:=fun _ H Q=>Q v H
theorem zx3 {i:Nat} {x:Str} {pos:Pos} (hN:X.N[i]?=some x) (hv:Vis X.env.scope x) (hd:(x == ("__debug__":Str))=false:=by decide) (hcd:(x == ("__classdict__":Str))=false:=by decide):PE X (.Name x pos) (tVar i):=by
 intro pins s σ H Q I h
 obtain⟨v,e,h⟩:=h
 obtain⟨m,hn,hl⟩:=I.loc
 obtain⟨u,r,l⟩:=hl i x v hN e hv
 have fin:EP X pins σ Q u s:=⟨v,H,I,r,h⟩
 rcases l with ⟨hk,hm⟩|⟨hk,c,hc,hcell⟩
 ·exact wpAny_Name (wpAny_loadName_local I.ok.kind hk hn hm fin) hd
 ·rcases hk with hk|hk
  ·exact wpAny_Name (wpAny_loadName_cell I.ok.kind hk hc hcell fin) hd
  ·exact wpAny_Name (wpAny_loadName_free I.ok.kind hk hc hcell fin hcd) hd
theorem zta {i j pos}:PE X (.Constant (.int i) j pos) (tC (.int i)):=fun _ _ _ H _ I h=>wpAny_Constant_int ⟨.int i,H,I.tok _,⟨_,rfl⟩,h⟩
theorem zyv {b j pos}:PE X (.Constant (.bool b) j pos) (tC (.bl b)):=fun _ _ _ H _ I h=>Constant_bool ⟨.bl b,H,I,rfl,h⟩
theorem zx6 {j pos}:PE X (.Constant .none j pos) (tC .non):=fun _ _ _ H _ I h=>Constant_none ⟨.non,H,I,rfl,h⟩
theorem zx5 {x j pos}:PE X (.Constant (.str x) j pos) (tC (.str x)):=fun _ _ _ H _ I h=>Calls.Constant_str ⟨.str x,H,I.tok _,⟨_,rfl⟩,h⟩
def Gl (X:Cx) (x:Str):Prop:=X.env.kindOf x=some .globalImplicit
theorem zk9 {E:Value->y04->Prop} {pins:List (Addr×Obj)} {s:y04} {σ:St} {H:Hp} {x:Str} {u:Value} {pos:Pos} {Q:Value->y04->Prop} (I:Inv X pins σ H s) (hg:Gl X x) (hm:X.mg x=some u) (h:Q u s)
  (hd:(x == ("__debug__":Str))=false:=by decide):y0u (model X.prog X.w) X.A (eval (.Name x pos) X.env) Q E s :=
 Calls.Name_function_global I.ok.kind hg (Calls.loadGlobal_global (by rw[I.ok.glob];exact I.mod.glob.keeps I.bk) hm h) hd
theorem zcd {E:Value->y04->Prop} {pins:List (Addr×Obj)} {s:y04} {σ:St} {H:Hp} {x:Str} {u:Value} {pos:Pos} {Q:Value->y04->Prop} (I:Inv X pins σ H s) (hg:Gl X x) (hm:X.mg x=none) (hv:bootBuiltins x=some u) (h:Q u s)
  (hn:x≠"__name__":=by decide) (hd:(x == ("__debug__":Str))=false:=by decide):y0u (model X.prog X.w) X.A (eval (.Name x pos) X.env) Q E s:=by
 obtain⟨mb,h1,h2⟩:=I.mod.blt
 exact Calls.Name_function_global I.ok.kind hg (Calls.loadGlobal_builtin (by rw[I.ok.glob];exact I.mod.glob.keeps I.bk) hm (by rw[I.ok.blt];exact h1.keeps I.bk) ((h2 x hn).trans hv) h) hd
theorem zok {x:Str} {v:V} {u:Value} {pos:Pos} (hg:Gl X x) (hm:X.mg x=some u) (r:RelV v u) (hd:(x == ("__debug__":Str))=false:=by decide):PE X (.Name x pos) (tC v) :=
 fun _ _ _ H _ I h=>zk9 I hg hm ⟨v,H,I,r,h⟩ hd
variable {a b:Expr} {ta tb:TE} {pos:Pos}
noncomputable def PC (X:Cx) (op:CmpOp) (a b:Expr) (t:TE):Prop :=
 ∀(pins:List (Addr×Obj)) (s:y04) (σ:St) (H:Hp) (Q:VK),Inv X pins σ H s->t σ H Q ->
  y0u (model X.prog X.w) X.A (eval a X.env) (fun v s₁=>y0u (model X.prog X.w) X.A (eval b X.env) (fun u s₂=>y0u (model X.prog X.w) X.A (compareOp op v u) (EP X pins σ Q) X.xe s₂) X.xe s₁) X.xe s
theorem zrw (b:Expr) {op:CmpOp} (h:op≠.In) (h2:op≠.NotIn):behindInMarks op b=false:=by
 have e1:(op == CmpOp.In)=false:=by cases op <;> first|rfl|exact absurd rfl h
 have e2:(op == CmpOp.NotIn)=false:=by cases op <;> first|rfl|exact absurd rfl h2
 cases b <;> simp[behindInMarks,e1,e2]
def tIsN (ta:TE):TE:=fun σ H Q=>ta σ H fun x H1=>Q (.bl (decide (x=.non))) H1
def zy7 (ta:TE):TE:=fun σ H Q=>ta σ H fun x H1=>Q (.bl (!decide (x=.non))) H1
theorem RelV.none_iff {x:V} {v:Value} (r:RelV x v):(v == Value.none)=decide (x=.non):=by
 cases x with
 | non=>cases r;rfl
 | bl _=>cases r;rfl
 | int _=>obtain⟨t,rfl⟩:=r;rfl
 | str _=>obtain⟨t,rfl⟩:=r;rfl
 | byt _=>obtain⟨t,rfl⟩:=r;rfl
 | flt _=>obtain⟨t,rfl⟩:=r;rfl
 | ref _=>cases r;rfl
 | ty _=>cases r;rfl
theorem zx9 {j pos'} (ha:PE X a ta):PC X .Is a (.Constant .none j pos') (tIsN ta):=by
 intro pins s σ H Q I h
 refine thn (ha pins s σ H _ I h) fun v s1 ⟨x,H1,I1,r1,q1⟩=>?_
 exact Constant_none (is_none_gen ⟨.bl _,H1,I1,by rw[r1.none_iff];rfl,q1⟩)
theorem zuz {j pos'} (ha:PE X a ta):PC X .IsNot a (.Constant .none j pos') (zy7 ta):=by
 intro pins s σ H Q I h
 refine thn (ha pins s σ H _ I h) fun v s1 ⟨x,H1,I1,r1,q1⟩=>?_
 exact Constant_none (isnot_none_gen ⟨.bl _,H1,I1,by rw[r1.none_iff];rfl,q1⟩)
def tB (t:TE):TT:=fun σ H Q=>t σ H fun x H1=>∃c,x=.bl c/\Q c H1
theorem zt8 {op:CmpOp} {t:TE} (h:PC X op a b t) (h1:behindInMarks op b=false:=by first|exact zrw _ (by decide) (by decide)|rfl):PT X (.Compare a [op] [b] pos) (tB t):=by
 intro pins s σ H Q I hw
 refine wpAny_isTrue_Compare1 (thn (h pins s σ H _ I hw) fun v s1 h1=>thn h1 fun u s2 h2=>thn h2 fun c s3 ⟨x,H1,I1,r1,q1⟩=>?_) h1
 obtain⟨d,rfl,q⟩:=q1
 cases r1
 exact wpAny_truthy_bool ⟨H1,I1,q⟩
theorem zwx {e:Expr} {t:TE} (h:PE X e t) (he:∀whole,isTrue e X.env whole=(do let v <- whole;standAt e.pos;holding [v] (truthy v)):=by intro _;rfl):PT X e (tB t):=by
 intro pins s σ H Q I hw
 refine isTrue_plain (thn (h pins s σ H _ I hw) fun v s1 ⟨x,H1,I1,r1,q1⟩=>?_) (he _)
 obtain⟨d,rfl,q⟩:=q1
 cases r1
 exact wpAny_truthy_bool ⟨H1,I1,q⟩
variable {tA tB':TT} {rest:List Expr}
def tAnd (t u:TT):TT:=fun σ H Q=>t σ H fun c H1=>if c=true then u σ H1 Q else Q false H1
def tOr (t u:TT):TT:=fun σ H Q=>t σ H fun c H1=>if c=true then Q true H1 else u σ H1 Q
def tNot (t:TT):TT:=fun σ H Q=>t σ H fun c H1=>Q (!c) H1
theorem zuj (ha:PT X a tA):PW X (.BoolOp .And [a] pos) tA:=by
 intro wh pins s σ H Q I h
 refine isTrue_and (thn (ha pins s σ H Q I h) fun c s1 e=>?_)
 cases c with
 | true=>exact isTrue_and_nil e
 | false=>exact e
theorem zwt (ha:PT X a tA):PW X (.BoolOp .Or [a] pos) tA:=by
 intro wh pins s σ H Q I h
 refine isTrue_or (thn (ha pins s σ H Q I h) fun c s1 e=>?_)
 cases c with
 | false=>exact isTrue_or_nil e
 | true=>exact e
theorem zwu (ha:PT X a tA) (hb:PW X (.BoolOp .And (b::rest) pos) tB'):PW X (.BoolOp .And (a::b::rest) pos) (tAnd tA tB'):=by
 intro wh pins s σ H Q I h
 refine isTrue_and (thn (ha pins s σ H _ I h) fun c s1 ⟨H1,I1,q1⟩=>?_)
 cases c with
 | true=>exact hb wh pins s1 σ H1 Q I1 q1
 | false=>exact⟨H1,I1,q1⟩
theorem zyp (ha:PT X a tA) (hb:PW X (.BoolOp .Or (b::rest) pos) tB'):PW X (.BoolOp .Or (a::b::rest) pos) (tOr tA tB'):=by
 intro wh pins s σ H Q I h
 refine isTrue_or (thn (ha pins s σ H _ I h) fun c s1 ⟨H1,I1,q1⟩=>?_)
 cases c with
 | true=>exact⟨H1,I1,q1⟩
 | false=>exact hb wh pins s1 σ H1 Q I1 q1
theorem zwy (ha:PT X a tA):PT X (.UnaryOp .Not a pos) (tNot tA):=by
 intro pins s σ H Q I h
 exact isTrue_not (ha pins s σ H (fun c H1=>Q (!c) H1) I h)
noncomputable def zye (ta tb:TE):TE:=fun σ H Q=>ta σ H fun x H1=>∃c,x=.bl c/\if c=true then tb σ H1 Q else Q (.bl false) H1
noncomputable def tOrV (ta tb:TE):TE:=fun σ H Q=>ta σ H fun x H1=>∃c,x=.bl c/\if c=true then Q (.bl true) H1 else tb σ H1 Q
theorem zt9 {op} {t:TE} (h:PE X a t):PE X (.BoolOp op [a] pos) t:=fun pins s σ H Q I hw=>BoolOp_one (h pins s σ H Q I hw)
theorem zx8 (ha:PE X a ta) (hb:PE X (.BoolOp .And (b::rest) pos) tb):PE X (.BoolOp .And (a::b::rest) pos) (zye ta tb):=by
 intro pins s σ H Q I h
 refine BoolOp_and (thn (ha pins s σ H _ I h) fun v s1 ⟨x,H1,I1,r1,q1⟩=>?_)
 obtain⟨c,rfl,q1⟩:=q1
 cases r1
 refine wpAny_truthy_bool ?_
 cases c with
 | true=>exact hb pins s1 σ H1 Q I1 q1
 | false=>exact⟨.bl false,H1,I1,rfl,q1⟩
theorem zyt (ha:PE X a ta) (hb:PE X (.BoolOp .Or (b::rest) pos) tb):PE X (.BoolOp .Or (a::b::rest) pos) (tOrV ta tb):=by
 intro pins s σ H Q I h
 refine BoolOp_or (thn (ha pins s σ H _ I h) fun v s1 ⟨x,H1,I1,r1,q1⟩=>?_)
 obtain⟨c,rfl,q1⟩:=q1
 cases r1
 refine wpAny_truthy_bool ?_
 cases c with
 | false=>exact hb pins s1 σ H1 Q I1 q1
 | true=>exact⟨.bl true,H1,I1,rfl,q1⟩
noncomputable def tIf (t:TT) (ta tb:TE):TE:=fun σ H Q=>t σ H fun c H1=>if c=true then ta σ H1 Q else tb σ H1 Q
theorem zrn {c:Expr} (hc:PT X c tA) (ha:PE X a ta) (hb:PE X b tb):PE X (.IfExp c a b pos) (tIf tA ta tb):=by
 intro pins s σ H Q I h
 refine wpAny_IfExp (thn (hc pins s σ H _ I h) fun d s1 ⟨H1,I1,q1⟩=>?_)
 cases d with
 | true=>exact ha pins s1 σ H1 Q I1 q1
 | false=>exact hb pins s1 σ H1 Q I1 q1
end
end L2
namespace L2
open PySem PySem.Spec PyProof.Rows
noncomputable def SqL (K:y00) (H:Hp) (a:Addr) (xs:List V):Prop :=
 Rd H a (.lst xs) \/
  ∃(o:Obj) (its:Array Value) (n:Nat),K.lookup a=some o/\o.cls=.type "list"/\o.dict=none/\o.data=.seq its n/\its.size<=y0j/\Vals xs its.toList
noncomputable def SqT (K:y00) (H:Hp) (a:Addr) (xs:List V):Prop :=
 Rd H a (.tup xs) \/
  ∃(o:Obj) (its:Array Value) (n:Nat),K.lookup a=some o/\o.cls=.type "tuple"/\o.data=.seq its n/\its.size<=y0j/\Vals xs its.toList
noncomputable def absV:Value->Option V
 | .none=>some .non
 | .bool b=>some (.bl b)
 | .int i _=>some (.int i)
 | .str x _=>some (.str x)
 | .bytes b _=>some (.byt b)
 | .float b _=>some (.flt b)
 | .ref a=>some (.ref a)
 | .type n=>some (.ty n)
 | _=>none
theorem RelV.abs {x:V} {u:Value} (r:RelV x u):absV u=some x:=by
 cases x with
 | non=>cases r;rfl
 | bl _=>cases r;rfl
 | int _=>obtain⟨t,rfl⟩:=r;rfl
 | str _=>obtain⟨t,rfl⟩:=r;rfl
 | byt _=>obtain⟨t,rfl⟩:=r;rfl
 | flt _=>obtain⟨t,rfl⟩:=r;rfl
 | ref _=>cases r;rfl
 | ty _=>cases r;rfl
theorem RelV.inj {x y:V} {u:Value} (r:RelV x u) (q:RelV y u):x=y:=y2k (r.abs.symm.trans q.abs)
theorem Vals.inj:∀{xs ys:List V} {us:List Value},Vals xs us->Vals ys us->xs=ys
 | _,_,_,.nil,.nil=>rfl
 | _,_,_,.cons r t,.cons r' t'=>by rw[r.inj r',Vals.inj t t']
section
variable {X:Cx} {pins:List (Addr×Obj)} {σ:St} {H:Hp} {s:y04} {a:Addr} {xs ys:List V}
theorem SqL.of {K:y00} (h:H a=some (.lst xs)):SqL K H a xs:=.inl (.inl h)
theorem SqT.of {K:y00} (h:H a=some (.tup xs)):SqT K H a xs:=.inl (.inl h)
theorem Inv.list (I:Inv X pins σ H s) (h:SqL X.K H a xs):∃its:List Value,Vals xs its/\PlainL s.heap a its.toArray/\xs.length<=y0j:=by
 rcases h with h|⟨o,its,n,hk,hc,hd,hs,hz,r⟩
 ·obtain⟨z,its,n,r,e⟩:=h.ok I.hok
  exact⟨its,r,⟨_,n,e,rfl,rfl,rfl⟩,z⟩
 ·refine⟨its.toList,r,⟨o,n,I.kIn a o hk,hc,hd,by simpa using hs⟩,?_⟩
  have e:=r.length
  simp only[y24] at e
  omega
theorem Inv.tuple (I:Inv X pins σ H s) (h:SqT X.K H a xs):∃its:List Value,Vals xs its/\IsTup s.heap a its.toArray/\xs.length<=y0j:=by
 rcases h with h|⟨o,its,n,hk,hc,hs,hz,r⟩
 ·obtain⟨z,its,r,p⟩:=h.ok I.hok
  exact⟨its,r,p,z⟩
 ·refine⟨its.toList,r,⟨o,I.kIn a o hk,hc,n,by simpa using hs⟩,?_⟩
  have e:=r.length
  simp only[y24] at e
  omega
theorem Inv.list_inj (I:Inv X pins σ H s) (h:SqL X.K H a xs) (h':SqL X.K H a ys):xs=ys:=by
 obtain⟨its,r,⟨o,n,e,_,_,d⟩,_⟩:=I.list h
 obtain⟨its',r',⟨o',n',e',_,_,d'⟩,_⟩:=I.list h'
 rw[e] at e';cases e'
 rw[d] at d'
 injection d' with d1 _
 have:its=its':=by simpa using congrArg Array.toList d1
 subst this
 exact r.inj r'
theorem Inv.tuple_inj (I:Inv X pins σ H s) (h:SqT X.K H a xs) (h':SqT X.K H a ys):xs=ys:=by
 obtain⟨its,r,⟨o,e,_,n,d⟩,_⟩:=I.tuple h
 obtain⟨its',r',⟨o',e',_,n',d'⟩,_⟩:=I.tuple h'
 rw[e] at e';cases e'
 rw[d] at d'
 injection d' with d1 _
 have:its=its':=by simpa using congrArg Array.toList d1
 subst this
 exact r.inj r'
end
abbrev Cx.wish (X:Cx) (E:Value->y04->Prop):Cx:={ X with xe:=E }
abbrev Cx.nox (X:Cx):Cx:=X.wish fun _ _=>False
theorem Cx.Ok.wish {X:Cx} (ok:X.Ok) (E:Value->y04->Prop):(X.wish E).Ok :=
 ⟨ok.mod,ok.kind,ok.glob,ok.blt,ok.above,ok.inj,ok.has,ok.cab,ok.hd,ok.frames,ok.stk,ok.exf,ok.bs,ok.bsz,ok.noex,ok.exfs,ok.funs,ok.frf⟩
theorem Cx.Ok.unwish {X:Cx} {E:Value->y04->Prop} (ok:(X.wish E).Ok):X.Ok :=
 ⟨ok.mod,ok.kind,ok.glob,ok.blt,ok.above,ok.inj,ok.has,ok.cab,ok.hd,ok.frames,ok.stk,ok.exf,ok.bs,ok.bsz,ok.noex,ok.exfs,ok.funs,ok.frf⟩
section
variable {X:Cx} {pins:List (Addr×Obj)} {σ:St} {H:Hp} {s:y04} {E:Value->y04->Prop}
theorem Inv.wish (I:Inv X pins σ H s) (E:Value->y04->Prop):Inv (X.wish E) pins σ H s:=⟨I.ok.wish E,I.os,I.bare,I.base,I.loc,I.cell,I.free,I.freeC,I.pin,I.hok,I.len⟩
theorem Inv.unwish (I:Inv (X.wish E) pins σ H s):Inv X pins σ H s:=⟨I.ok.unwish,I.os,I.bare,I.base,I.loc,I.cell,I.free,I.freeC,I.pin,I.hok,I.len⟩
theorem SP.unwish {D:Ends} {f:Flow} {s':y04} (h:SP (X.wish E) pins D f s'):SP X pins D f s':=by
 cases f with
 | next=>obtain⟨σ',H',I,q⟩:=h;exact⟨σ',H',I.unwish,q⟩
 | brk=>obtain⟨σ',H',I,q⟩:=h;exact⟨σ',H',I.unwish,q⟩
 | cont=>obtain⟨σ',H',I,q⟩:=h;exact⟨σ',H',I.unwish,q⟩
 | ret u=>obtain⟨v,σ',H',I,r,q⟩:=h;exact⟨v,σ',H',I.unwish,r,q⟩
theorem PSs.nox {st:List Stmt} {t:TS} (h:PSs X.nox st t):PSs X st t:=fun pins s σ H D I hw =>
 y1e (h pins s σ H D (I.wish _) hw) (fun _ _ q=>q.unwish) fun _ _ z=>y21 z
end
section
variable {X:Cx} {st:Stmt} {rest:List Stmt} {t u:TS} {e:Expr} {te:TE} {pos:Pos}
def zy8:TS:=fun D σ H=>D.nx σ H
def tSeq (t u:TS):TS:=fun D σ H=>t { D with nx:=u D } σ H
theorem zum:PSs X [] zy8:=fun _ _ σ H _ I h=>wpAny_execs_nil ⟨σ,H,I,h⟩
theorem zri (h1:PS X st t) (h2:PSs X rest u):PSs X (st::rest) (tSeq t u):=by
 intro pins s σ H D I h
 refine wpAny_execs_cons (thn (h1 pins s σ H { D with nx:=u D } I h) fun f s1 q=>?_)
 cases f with
 | next =>
  obtain⟨σ',H',I',q⟩:=q
  exact h2 pins s1 σ' H' D I' q
 | ret v=>exact q
 | brk=>exact q
 | cont=>exact q
theorem zul (h1:PS X st t):PSs X [st] t:=by
 intro pins s σ H D I h
 refine wpAny_execs_cons (thn (h1 pins s σ H D I h) fun f s1 q=>?_)
 cases f with
 | next=>exact wpAny_execs_nil q
 | ret v=>exact q
 | brk=>exact q
 | cont=>exact q
theorem Inv.quiet {pins:List (Addr×Obj)} {σ:St} {H:Hp} {s:y04} (I:Inv X pins σ H s):interactive X.env=false:=by simp[interactive,I.ok.kind]
def zya (te:TE):TS:=fun D σ H=>te σ H fun _ H1=>D.nx σ H1
theorem z9y (he:PE X e te) (hs:swapsWith e none pos.line X.env=pure false:=by rfl):PS X (.Expr e pos) (zya te):=by
 intro pins s σ H D I h
 exact wpAny_Expr_any (thn (he pins s σ H _ I h) fun v s1 ⟨x,H1,I1,r1,q1⟩=>⟨σ,H1,I1,q1⟩) I.quiet hs
def tRet (te:TE):TS:=fun D σ H=>te σ H D.rt
theorem zi2 (he:PE X e te):PS X (.Return (some e) pos) (tRet te):=by
 intro pins s σ H D I h
 exact wpAny_Return_some (thn (he pins s σ H _ I h) fun v s1 ⟨x,H1,I1,r1,q1⟩=>⟨x,σ,H1,I1,r1,q1⟩)
def zy5:TS:=fun D _ H=>D.rt .non H
theorem zun:PS X (.Return none pos) zy5:=fun _ _ σ H _ I h=>wpAny_Return_none ⟨.non,σ,H,I,rfl,h⟩
noncomputable def tIfS (c:TT) (t u:TS):TS:=fun D σ H=>c σ H fun b H1=>if b=true then t D σ H1 else u D σ H1
theorem zyq {c:Expr} {a b:List Stmt} {tc:TT} (hc:PT X c tc) (ha:PSs X a t) (hb:PSs X b u):PS X (.If c a b pos) (tIfS tc t u):=by
 intro pins s σ H D I h
 refine wpAny_If (thn (hc pins s σ H _ I h) fun d s1 ⟨H1,I1,q1⟩=>?_)
 cases d with
 | true=>exact ha pins s1 σ H1 D I1 q1
 | false=>exact hb pins s1 σ H1 D I1 q1
end
abbrev TG:=V->St->Hp->(St->Hp->Prop)->Prop
abbrev TGs:=List V->St->Hp->(St->Hp->Prop)->Prop
noncomputable def PG (X:Cx) (target:Expr) (t:TG):Prop :=
 ∀(pins:List (Addr×Obj)) (s:y04) (σ:St) (H:Hp) (v:V) (u:Value) (Q:St->Hp->Prop),Inv X pins σ H s->RelV v u->t v σ H Q ->
  y0u (model X.prog X.w) X.A (assign target X.env u) (fun _ s'=>∃σ' H',Inv X pins σ' H' s'/\Q σ' H') X.xe s
noncomputable def PGs (X:Cx) (ts:List Expr) (t:TGs):Prop :=
 ∀(pins:List (Addr×Obj)) (s:y04) (σ:St) (H:Hp) (vs:List V) (us:List Value) (Q:St->Hp->Prop),Inv X pins σ H s->Vals vs us->t vs σ H Q ->
  y0u (model X.prog X.w) X.A (assignInOrder ((assignEach ts X.env).map (·.2)) us) (fun _ s'=>∃σ' H',Inv X pins σ' H' s'/\Q σ' H') X.xe s
section
variable {X:Cx} {pos:Pos}
def zxs (i:Nat):TG:=fun v σ H Q=>Q (σ.set i (some v)) H
theorem zuv {i:Nat} {x:Str} (hN:X.N.Nodup) (hi:X.N[i]?=some x) (hx:Loc X.env.scope x) (hf:X.fn x=true\/X.env.scope.names.lookup x=some .local:=by first|exact .inl rfl|exact .inr rfl|assumption):PG X (.Name x pos) (zxs i):=by
 intro pins s σ H v u Q I r h
 exact wpAny_assign_Name (zl5 I hN hi hx r (fun s' I'=>⟨_,H,I',h⟩) hf)
def gNil:TGs:=fun vs σ H Q=>vs=[]/\Q σ H
noncomputable def zz1 (t:TG) (u:TGs):TGs:=fun vs σ H Q=>∃v r,vs=v::r/\t v σ H fun σ' H'=>u r σ' H' Q
theorem zuu:PGs X [] gNil:=by
 intro pins s σ H vs us Q I r h
 obtain⟨e,h⟩:=h
 subst e
 cases r
 exact assignInOrder_nil ⟨σ,H,I,h⟩
theorem zrl {e:Expr} {es:List Expr} {t:TG} {u:TGs} (h1:PG X e t) (h2:PGs X es u)
  (hs:(assignEach (e::es) X.env).map (·.2)=assign e X.env::(assignEach es X.env).map (·.2):=by rfl):PGs X (e::es) (zz1 t u):=by
 intro pins s σ H vs us Q I r h
 obtain⟨v,vr,e1,h⟩:=h
 subst e1
 cases r with
 | cons r rr =>
  rw[hs]
  refine assignInOrder_cons (thn (h1 pins s σ H _ _ _ I r h) fun _ s1 ⟨σ1,H1,I1,q1⟩=>?_)
  exact h2 pins s1 σ1 H1 _ _ Q I1 rr q1
noncomputable def gTup (K:y00) (n:Nat) (t:TGs):TG:=fun v σ H Q=>∃a xs,v=.ref a/\SqT K H a xs/\xs.length=n/\t xs σ H Q
theorem zx2 {es:List Expr} {k:Nat} {t:TGs} {n:Nat} (hc:X.calm=true) (h:PGs X es t)
  (hn:(assignEach es X.env).length=n:=by rfl) (hst:(assignEach es X.env).findIdx? (·.1)=none:=by rfl):PG X (.Tuple es k pos) (gTup X.K n t):=by
 intro pins s σ H v u Q I r hw
 obtain⟨a,xs,e1,hq,hl,hw⟩:=hw
 subst e1
 cases r
 obtain⟨its,rv,ht,hz⟩:=I.tuple hq
 refine assign_Tuple_tuple (I.ok.hd hc) ht (by simp[hn,<- hl,rv.length]) hst fun h' hx=>?_
 have I1:Inv X pins σ H { s with heap:=h' }:=I.kept (t':=s.toks) fun b o e=>hx b o (y0y (y0c e)) e
 exact h pins _ σ H xs _ Q I1 (by simpa using rv) hw
def tAsg (te:TE) (g:TG):TS:=fun D σ H=>te σ H fun x H1=>g x σ H1 D.nx
theorem zx0 {tg e:Expr} {te:TE} {g:TG} (he:PE X e te) (hg:PG X tg g) (hs:swapsWithSole [tg] e pos.line X.env=pure false:=by rfl) (hw:swappedStores [tg] e X.env=pure none:=by rfl)
  (h1:(assignEach [tg] X.env).map (·.2)=[assign tg X.env]:=by rfl):PS X (.Assign [tg] e pos) (tAsg te g):=by
 intro pins s σ H D I h
 refine wpAny_Assign_stores (thn (he pins s σ H _ I h) fun v s1 ⟨x,H1,I1,r1,q1⟩=>?_) hs hw
 rw[h1]
 exact thn (hg pins s1 σ H1 x v _ I1 r1 q1) fun _ s2 q=>q
theorem zlh {i:Nat} {x:Str} {e:Expr} {te:TE} {pos':Pos} (hN:X.N.Nodup) (hi:X.N[i]?=some x) (hx:Loc X.env.scope x) (he:PE X e te) (hs:swapsWith e (some (.Name x pos')) pos.line X.env=pure false:=by rfl) (hf:X.fn x=true\/X.env.scope.names.lookup x=some .local:=by first|exact .inl rfl|exact .inr rfl|assumption) :
  PS X (.Assign [.Name x pos'] e pos) (tAsg te (zxs i)):=by
 intro pins s σ H D I h
 refine wpAny_Assign_Name (thn (he pins s σ H _ I h) fun v s1 ⟨y,H1,I1,r1,q1⟩=>?_) hs
 exact zl5 I1 hN hi hx r1 (fun s2 I2=>⟨_,H1,I2,q1⟩) hf
end
section
variable {X:Cx} {pos:Pos}
end
structure It where
 go:Nat->Hp->Prop
 yld:Nat->Hp->V->Hp->Prop
 stop:Nat->Hp->Prop
noncomputable def FpOk (X:Cx) (pins:List (Addr×Obj)) (H:Hp) (b:Addr):Prop :=
 H b=none/\b≠X.env.locals/\b∉X.fs/\(b∈X.ex\/X.s₀.heap.objs.size<=b)/\(∀x c,X.env.cells.lookup x=some c->c≠b)/\∀p∈X.pn++pins,p.1≠b
theorem Inv.fpOk {X:Cx} {pins:List (Addr×Obj)} {σ:St} {H H':Hp} {s:y04} {b:Addr} (I:Inv X pins σ H s) (hb:s.heap.objs.size<=b) (hn:H' b=none):FpOk X pins H' b:=by
 refine⟨hn,y16 (y0x I.lt hb),I.nofs hb,.inr (y1s I.sz hb),fun x c e z=>?_,fun p hp z=>?_⟩
 ·obtain⟨v,q⟩:=I.cell x c e
  exact absurd (y0x q.lt (by rw[z];exact hb)) (Nat.lt_irrefl _)
 ·exact absurd (y0x (y0c (I.pin p hp).1) (by rw[z];exact hb)) (Nat.lt_irrefl _)
structure Turn (P:y0q) (w:World) (K:y00) (tg:Expr) (J:It) (fp:List Addr) (it:Addr) (tn:Nat->Heap->Prop):Prop where
 mem:it∈fp
 obj:∀i h,tn i h->∀b∈fp,∃o,h.get? b=some o/\∀v,o.data≠.cell v
 keep:∀i h h',tn i h->(∀b∈fp,∀o,h.get? b=some o->h'.get? b=some o)->tn i h'
 item:∀(X:Cx),X.prog=P->X.w=w->X.K=K->X.calm=true->∀(i:Nat) (pins:List (Addr×Obj)) (s:y04) (σ:St) (H:Hp) (E:Value->y04->Prop),Inv X pins σ H s->(∀b∈fp,FpOk X pins H b)->tn i s.heap->J.go i H ->
  y0u (model P w) X.A (pyNext (.ref it)) (fun r s1=>∃u,r=some u /\
   y0u (model P w) X.A (letOwnedTupleGo tg (.ref it) u) (fun _ s2=>∃x H',Inv X pins σ H' s2/\RelV x u/\J.yld i H x H'/\tn (i+1) s2.heap/\∀b∈fp,H' b=none) E s1) E s
 done:∀(X:Cx),X.prog=P->X.w=w->X.K=K->X.calm=true->∀(i:Nat) (pins:List (Addr×Obj)) (s:y04) (σ:St) (H:Hp) (E:Value->y04->Prop),Inv X pins σ H s->(∀b∈fp,FpOk X pins H b)->tn i s.heap->J.stop i H ->
  y0u (model P w) X.A (pyNext (.ref it)) (fun r s1=>r=none/\Inv X pins σ H s1) E s
 self:∀(A:Around) (i:Nat) (s:y04) (Q:Value->y04->Prop) (E:Value->y04->Prop),tn i s.heap->Q (.ref it) s->y0u (model P w) A (pyIter (.ref it)) Q E s
abbrev TI:=St->Hp->(It->Hp->Prop)->Prop
noncomputable def PIE (X:Cx) (pins:List (Addr×Obj)) (σ:St) (tg:Expr) (R:It->Hp->Prop) (itv:Value) (s2:y04):Prop :=
 ∃(it:Addr) (fp:List Addr) (tn:Nat->Heap->Prop) (J:It) (H':Hp),itv=.ref it/\Inv X pins σ H' s2/\Turn X.prog X.w X.K tg J fp it tn/\tn 0 s2.heap/\(∀b∈fp,FpOk X pins H' b)/\R J H'
noncomputable def PI (X:Cx) (tg iter:Expr) (wi:TI):Prop :=
 ∀(pins:List (Addr×Obj)) (s:y04) (σ:St) (H:Hp) (R:It->Hp->Prop),Inv X pins σ H s->wi σ H R ->
  y0u (model X.prog X.w) X.A (eval iter X.env) (fun v s1=>y0u (model X.prog X.w) X.A (pyIter v) (PIE X pins σ tg R) X.xe s1) X.xe s
theorem zvn {M:Model} {A:Around} {E:Value->y04->Prop} {s:y04} {tg:Expr} {it:Addr} {u:Value} {o:Obj} {n:String} {vs:Array Value} {Q:Unit->y04->Prop} (ho:s.heap.get? it=some o) (hc:o.cls=.type n) (hd:o.data=.fields vs)
    (hn:["enumerate","zip","dict_itemiterator","dict_reverseitemiterator","odict_iterator","itertools.zip_longest","itertools.pairwise"].contains n=false) (hQ:Q () s):y0u M A (letOwnedTupleGo tg (.ref it) u) Q E s:=by
  unfold letOwnedTupleGo
  cases tg <;> first
    | exact y06 hQ
    | (cases u <;> first
        | exact y06 hQ
        | (refine y02 (wpAny_load ho ?_)
           rw[hc,hd]
           show y0u M A (if (["enumerate","zip","dict_itemiterator","dict_reverseitemiterator","odict_iterator","itertools.zip_longest","itertools.pairwise"].contains n && vs[0]? == some (rawInt _))=true then _ else _) Q E s
           rw[if_neg (by intro h;rw[hn,Bool.false_and] at h;cases h)]
           exact y06 hQ))
noncomputable def Itl (K:y00) (a:Addr):It :=
 ⟨fun i H=>∃xs x,SqL K H a xs/\xs[i]?=some x,fun i H x H'=>H'=H/\∀xs,SqL K H a xs->xs[i]?=some x,fun i H=>∃xs,SqL K H a xs/\xs.length<=i⟩
noncomputable def Itt (K:y00) (a:Addr):It :=
 ⟨fun i H=>∃xs x,SqT K H a xs/\xs[i]?=some x,fun i H x H'=>H'=H/\∀xs,SqT K H a xs->xs[i]?=some x,fun i H=>∃xs,SqT K H a xs/\xs.length<=i⟩
noncomputable def Itr (lo:Int) (n:Nat):It:=⟨fun i _=>i<n,fun i H x H'=>H'=H/\x=.int (lo+i),fun i _=>n<=i⟩
theorem znq {P:y0q} {w:World} {K:y00} {tg:Expr} (a it:Addr):Turn P w K tg (Itl K a) [it] it (fun i h=>h.IsListIter it a i) where
 mem:=by simp
 obj:=fun i h st b hb=>by
  have e:b=it:=by simpa using hb
  subst e
  obtain⟨o,e,c,d⟩:=st
  exact⟨o,e,fun v z=>by rw[d] at z;cases z⟩
 keep:=fun i h h' st k=>st.at fun o e=>k it (by simp) o e
 item:=by
  intro X hP hw hK hc i pins s σ H E I hf st hg
  subst hP hw hK
  obtain⟨xs,x,hq,hx⟩:=hg
  obtain⟨its,rv,p,hz⟩:=I.list hq
  obtain⟨u,hu,ru⟩:=rv.get hx
  obtain⟨f0,f1,f2,f3,f4,f5⟩:=hf it (by simp)
  refine wpAny_pyNext_list_item st p.isList (x:=u) (by simpa using hu) fun h' st' sb=>?_
  have I1:Inv X pins σ H { s with heap:=h' }:=I.turned (t':=s.toks) (fun b o hb e=>(sb.2 b hb).trans e) f0 f1 f3 f4 f5
  obtain⟨o,e,c,d⟩:=id st'
  exact⟨u,rfl,zvn (s:={ s with heap:=h' }) e c d (by decide) ⟨x,H,I1,ru,⟨rfl,fun ys hy=>by rw[I.list_inj hy hq];exact hx⟩,st',fun b hb=>(hf b hb).1⟩⟩
 done:=by
  intro X hP hw hK hc i pins s σ H E I hf st hg
  subst hP hw hK
  obtain⟨xs,hq,hx⟩:=hg
  obtain⟨its,rv,p,hz⟩:=I.list hq
  obtain⟨f0,f1,f2,f3,f4,f5⟩:=hf it (by simp)
  have hl:=rv.length
  exact wpAny_pyNext_list_end (I.ok.hd hc) st p.isList (by simp;omega) fun h' eb=>⟨rfl,I.turned (t':=s.toks) (fun b o hb e=>eb b o hb e) f0 f1 f3 f4 f5⟩
 self:=fun _ _ _ _ _ st h=>wpAny_pyIter_listiter st h
theorem zma {P:y0q} {w:World} {K:y00} {tg:Expr} (a it:Addr):Turn P w K tg (Itt K a) [it] it (fun i h=>h.IsTupleIter it a i) where
 mem:=by simp
 obj:=fun i h st b hb=>by
  have e:b=it:=by simpa using hb
  subst e
  obtain⟨o,e,c,d⟩:=st
  exact⟨o,e,fun v z=>by rw[d] at z;cases z⟩
 keep:=fun i h h' st k=>st.at fun o e=>k it (by simp) o e
 item:=by
  intro X hP hw hK hc i pins s σ H E I hf st hg
  subst hP hw hK
  obtain⟨xs,x,hq,hx⟩:=hg
  obtain⟨its,rv,p,hz⟩:=I.tuple hq
  obtain⟨u,hu,ru⟩:=rv.get hx
  obtain⟨f0,f1,f2,f3,f4,f5⟩:=hf it (by simp)
  refine wpAny_pyNext_tuple_item st (show s.heap.IsTuple a its.toArray from p) (x:=u) (by simpa using hu) fun h' st' sb=>?_
  have I1:Inv X pins σ H { s with heap:=h' }:=I.turned (t':=s.toks) (fun b o hb e=>(sb.2 b hb).trans e) f0 f1 f3 f4 f5
  obtain⟨o,e,c,d⟩:=id st'
  exact⟨u,rfl,zvn (s:={ s with heap:=h' }) e c d (by decide) ⟨x,H,I1,ru,⟨rfl,fun ys hy=>by rw[I.tuple_inj hy hq];exact hx⟩,st',fun b hb=>(hf b hb).1⟩⟩
 done:=by
  intro X hP hw hK hc i pins s σ H E I hf st hg
  subst hP hw hK
  obtain⟨xs,hq,hx⟩:=hg
  obtain⟨its,rv,p,hz⟩:=I.tuple hq
  obtain⟨f0,f1,f2,f3,f4,f5⟩:=hf it (by simp)
  have hl:=rv.length
  exact wpAny_pyNext_tuple_end (I.ok.hd hc) st (show s.heap.IsTuple a its.toArray from p) (by simp;omega) fun h' eb=>⟨rfl,I.turned (t':=s.toks) (fun b o hb e=>eb b o hb e) f0 f1 f3 f4 f5⟩
 self:=fun _ _ _ _ _ st h=>wpAny_pyIter_tupleiter st h
theorem zmb {P:y0q} {w:World} {K:y00} {tg:Expr} (it:Addr) (lo:Int) (n:Nat):Turn P w K tg (Itr lo n) [it] it (fun i h=>IsRangeIter h it (lo+(i:Nat)*1) ((n:Int) - (i:Nat)) 1) where
 mem:=by simp
 obj:=fun i h st b hb=>by
  have e:b=it:=by simpa using hb
  subst e
  exact⟨_,st,fun v z=>by
   have z':Data.fields _=Data.cell v:=z
   cases z'⟩
 keep:=fun i h h' st k=>k it (by simp) _ st
 item:=by
  intro X hP hw hK hc i pins s σ H E I hf st hg
  subst hP hw hK
  obtain⟨f0,f1,f2,f3,f4,f5⟩:=hf it (by simp)
  have W:=Walks.range (prog:=X.prog) (w:=X.w) (I.ok.hd hc) it lo 1 n
  refine W.item i s _ _ hg st fun v h' tk hv st' kk=>?_
  obtain⟨t,rfl⟩:=hv
  have I1:Inv X pins σ H { s with heap:=h',toks:=tk }:=I.turned (fun b o hb e=>kk b o (by simpa using hb) e) f0 f1 f3 f4 f5
  refine⟨_,rfl,zvn (s:={ s with heap:=h',toks:=tk }) (n:="range_iterator") st' rfl rfl (by decide) ⟨.int (lo+i),H,I1,⟨t,?_⟩,⟨rfl,rfl⟩,st',fun b hb=>(hf b hb).1⟩⟩
  rw[Int.mul_one]
 done:=by
  intro X hP hw hK hc i pins s σ H E I hf st hg
  subst hP hw hK
  obtain⟨f0,f1,f2,f3,f4,f5⟩:=hf it (by simp)
  exact wpAny_pyNext_range_end (I.ok.hd hc) st (by have:n<=i:=hg;omega) fun h' eb=>⟨rfl,I.turned (t':=s.toks) (fun b o hb e=>eb b o hb e) f0 f1 f3 f4 f5⟩
 self:=fun _ _ _ _ _ st h=>wpAny_pyIter_rangeiter st h
end L2
namespace L2
open PySem PySem.Spec PyProof.Rows
section
variable {X:Cx} {tg:Expr}
theorem zrb {pins:List (Addr×Obj)} {σ:St} {H:Hp} {s:y04} {R:It->Hp->Prop} {E:Value->y04->Prop} {lo hi:Int} {t u v:Tok} {tk:Nat} (I:Inv X pins σ H s) (h1:-(2 ^ 62)<=lo) (h2:lo<2 ^ 62) (h3:-(2 ^ 62)<=hi) (h4:hi<2 ^ 62)
  (q:R (Itr lo (hi - lo).toNat) H):y0u (model X.prog X.w) X.A (pyIter (.ref s.heap.objs.size)) (PIE X pins σ tg R) E { s with heap:=s.heap.push { cls:=.type "range",data:=.fields #[.int lo t,.int hi u,.int 1 v] },toks:=tk }:=by
 refine wpAny_pyIter_range (IsRange.new ..) (small_one h1 h2 h3 h4) ?_
 have I1:Inv X pins σ H { s with heap:=s.heap.push { cls:=.type "range",data:=.fields #[.int lo t,.int hi u,.int 1 v] },toks:=tk }:=I.kept fun b o e=>y03 _ e
 refine⟨(s.heap.push { cls:=.type "range",data:=.fields #[.int lo t,.int hi u,.int 1 v] }).objs.size,[(s.heap.push { cls:=.type "range",data:=.fields #[.int lo t,.int hi u,.int 1 v] }).objs.size],_,_,H,rfl,
  I1.kept (t':=tk) fun b o e=>y03 _ e,zmb _ lo (hi - lo).toNat,?_,fun b hb=>?_,q⟩
 ·have e1:lo+((0:Nat):Int)*1=lo:=by simp
  have e2:(((hi - lo).toNat:Nat):Int) - ((0:Nat):Int)=Builtin.Range.rangeSize lo hi 1:=by rw[rangeSize_one];split <;> omega
  show IsRangeIter _ _ (lo+((0:Nat):Int)*1) ((((hi - lo).toNat:Nat):Int) - ((0:Nat):Int)) 1
  rw[e1,e2]
  exact y0l _ rfl
 ·have e:b=(s.heap.push { cls:=.type "range",data:=.fields #[.int lo t,.int hi u,.int 1 v] }).objs.size:=by simpa using hb
  subst e
  exact I1.fpOk (y0o _) (I1.hok.fresh (y0o _))
noncomputable def zyz (ta:TA):TI:=fun σ H R=>ta σ H fun vs H1=>∃j:Int,vs=[.int j]/\-(2 ^ 62)<=j/\j<2 ^ 62/\R (Itr 0 j.toNat) H1
theorem zoi {a:Expr} {ta:TA} {p pos:Pos} (hg:Gl X "range") (hm:X.mg "range"=none) (ha:PA X [a] ta) (hs:y0a [a] X.env=[(false,eval a X.env)]:=by rfl):PI X tg (.Call (.Name "range" p) [a] [] pos) (zyz ta):=by
 intro pins s σ H R I h
 refine Call_ (zcd I hg hm boot_range (y1w (thn (ha pos pins s σ H _ I h) fun us s1 ⟨vs,H1,I1,r1,q1⟩=>?_) hs rfl))
 obtain⟨j,e,q1,q2,q⟩:=q1
 subst e
 cases r1 with
 | cons r rr =>
  cases rr
  obtain⟨t,rfl⟩:=r
  exact call_range_1 (zrb I1 (by omega) (by omega) q1 q2 (by simpa using q))
noncomputable def tFor (wi:TI) (g:TG) (tb:TS):TS:=fun D σ H=>wi σ H fun J H1=>∃W:Nat->Nat->St->Hp->Prop,(∃m,W 0 m σ H1)/\∀i m σ H,W i m σ H ->
 (J.stop i H/\D.nx σ H)\/(J.go i H/\∃N:St->Hp->Prop,(∀σ' H',N σ' H'->∃m',m'<m/\W (i+1) m' σ' H')/\∀x H',J.yld i H x H'->g x σ H' fun σ2 H2=>tb { D with nx:=N,ct:=N,bk:=D.nx } σ2 H2)
noncomputable def zi3 (fp:List Addr) (h:Heap):List (Addr×Obj):=fp.filterMap fun b=>(h.get? b).map fun o=>(b,o)
theorem z94 {fp:List Addr} {h:Heap} {b:Addr} {o:Obj} (hb:b∈fp) (e:h.get? b=some o):(b,o)∈zi3 fp h:=List.mem_filterMap.mpr ⟨b,hb,by rw[e];rfl⟩
theorem zov {fp:List Addr} {h:Heap} {p:Addr×Obj} (hp:p∈zi3 fp h):p.1∈fp/\h.get? p.1=some p.2:=by
 obtain⟨b,hb,e⟩:=List.mem_filterMap.mp hp
 cases q:h.get? b with
 | none=>rw[q] at e;cases e
 | some o =>
  rw[q] at e
  have e':(b,o)=p:=y2k e
  subst e'
  exact⟨hb,q⟩
theorem Inv.pinned {pins:List (Addr×Obj)} {σ:St} {H:Hp} {s:y04} {fp:List Addr} (I:Inv X pins σ H s) (hf:∀b∈fp,FpOk X pins H b) (ho:∀b∈fp,∃o,s.heap.get? b=some o/\∀v,o.data≠.cell v):Inv X (pins++zi3 fp s.heap) σ H s :=
 I.pins_of fun p hp=>(y11.mp hp).elim (fun z=>I.pin p (y1b _ z)) fun z=>by
  obtain⟨hb,e⟩:=zov z
  obtain⟨f0,f1,f2,_⟩:=hf p.1 hb
  obtain⟨o,e',d⟩:=ho p.1 hb
  rw[e] at e';cases e'
  exact⟨e,f0,f1,f2,d⟩
theorem Inv.unpinned {pins pl:List (Addr×Obj)} {σ:St} {H:Hp} {s:y04} (I:Inv X (pins++pl) σ H s):Inv X pins σ H s:=I.pins_of fun p hp=>I.pin p (y1b _ (List.mem_append_left _ hp))
theorem zwz {iter:Expr} {body:List Stmt} {wi:TI} {g:TG} {tb:TS} {pos:Pos} (hp:PassesOwn (model X.prog X.w) X.A X.env X.xe) (hc:X.calm=true) (hi:PI X tg iter wi) (hg:PG X tg g) (hb:PSs X body tb)
  (hs:∀x,foldedSetIterable iter X.env x=pure x:=by intro _;rfl):PS X (.For tg iter body [] pos) (tFor wi g tb):=by
 intro pins s σ H D I h
 refine wpAny_For (thn (hi pins s σ H _ I h) fun v s1 h1=>thn h1 fun itv s2 h2=>?_) hs
 obtain⟨it,fp,tn,J,H2,e,I2,T,st2,f2,W,⟨m0,w0⟩,turn⟩:=h2
 subst e
 have stat:∀{H':Hp},(∀b∈fp,H' b=none)->∀b∈fp,FpOk X pins H' b:=fun hn b hb=>⟨hn b hb,(f2 b hb).2⟩
 refine codeAny_forLoop_any (fun n s'=>∃i σ' H',Inv X pins σ' H' s'/\tn i s'.heap/\(∀b∈fp,H' b=none)/\W i n σ' H') ?_ m0 ⟨0,σ,H2,I2,st2,fun b hb=>(f2 b hb).1,w0⟩
 rintro n s3 ⟨i,σ3,H3,I3,st3,fr3,w3⟩
 rcases turn i n σ3 H3 w3 with ⟨stop,qn⟩|⟨go,N,hN,step⟩
 ·refine wpAny_passesOwn hp (thn (T.done X rfl rfl rfl hc i pins s3 σ3 H3 X.xe I3 (stat fr3) st3 stop) fun r s4 ⟨hr,I4⟩=>?_)
  subst hr
  exact wpAny_execs_nil ⟨σ3,H3,I4,qn⟩
 ·refine wpAny_passesOwn hp (thn (T.item X rfl rfl rfl hc i pins s3 σ3 H3 X.xe I3 (stat fr3) st3 go) fun r s4 ⟨u,hr,h4⟩=>?_)
  subst hr
  refine wpAny_passesOwn hp (thn h4 fun _ s5 ⟨x,H5,I5,r5,y5,st5,fr5⟩=>?_)
  have I5':=I5.pinned (stat fr5) (T.obj _ _ st5)
  refine wpAny_passesOwn hp (thn (hg _ s5 σ3 H5 x u _ I5' r5 (step x H5 y5)) fun _ s6 ⟨σ6,H6,I6,q6⟩=>?_)
  refine wpAny_passesOwn hp (thn (hb _ s6 σ6 H6 _ I6 q6) fun f s7 q7=>?_)
  have again:∀{σ7:St} {H7:Hp},Inv X (pins++zi3 fp s5.heap) σ7 H7 s7->N σ7 H7->∃m,m<n/\∃i σ' H',Inv X pins σ' H' s7/\tn i s7.heap/\(∀b∈fp,H' b=none)/\W i m σ' H':=fun {σ7 H7} I7 n7=>by
   obtain⟨m',hm,w7⟩:=hN σ7 H7 n7
   refine⟨m',hm,i+1,σ7,H7,I7.unpinned,T.keep _ _ _ st5 fun b hb o e=>(I7.pin (b,o) (y1b _ (y1b _ (z94 hb e)))).1,fun b hb=>?_,w7⟩
   obtain⟨o,e,d⟩:=T.obj _ _ st5 b hb
   exact (I7.pin (b,o) (y1b _ (y1b _ (z94 hb e)))).2.1
  cases f with
  | next=>obtain⟨σ7,H7,I7,n7⟩:=q7;exact again I7 n7
  | cont=>obtain⟨σ7,H7,I7,n7⟩:=q7;exact again I7 n7
  | brk=>obtain⟨σ7,H7,I7,q7⟩:=q7;exact⟨σ7,H7,I7.unpinned,q7⟩
  | ret v=>obtain⟨x7,σ7,H7,I7,r7,q7⟩:=q7;exact⟨x7,σ7,H7,I7.unpinned,r7,q7⟩
end
end L2
namespace L2
open PySem PySem.Spec PyProof.Rows
abbrev R2:=V->V->Hp->VK->Prop
noncomputable def OpR (X:Cx) (f:Value->Value->Sem Value) (r:R2):Prop :=
 ∀(pins:List (Addr×Obj)) (s:y04) (σ:St) (H:Hp) (x y:V) (v u:Value) (Q:VK),Inv X pins σ H s->RelV x v->RelV y u->r x y H Q ->
  y0u (model X.prog X.w) X.A (f v u) (EP X pins σ Q) X.xe s
noncomputable def UnR (X:Cx) (f:Value->Sem Value) (r:V->Hp->VK->Prop):Prop :=
 ∀(pins:List (Addr×Obj)) (s:y04) (σ:St) (H:Hp) (x:V) (v:Value) (Q:VK),Inv X pins σ H s->RelV x v->r x H Q ->
  y0u (model X.prog X.w) X.A (f v) (EP X pins σ Q) X.xe s
noncomputable def zac (X:Cx) (f:Value) (r:List V->Hp->VK->Prop):Prop :=
 ∀(pins:List (Addr×Obj)) (s:y04) (σ:St) (H:Hp) (xs:List V) (us:List Value) (Q:VK),Inv X pins σ H s->Vals xs us->r xs H Q ->
  y0u (model X.prog X.w) X.A (call f us) (EP X pins σ Q) X.xe s
noncomputable def TruR (X:Cx) (r:V->Hp->(Bool->Hp->Prop)->Prop):Prop :=
 ∀(pins:List (Addr×Obj)) (s:y04) (σ:St) (H:Hp) (x:V) (v:Value) (Q:Bool->Hp->Prop),Inv X pins σ H s->RelV x v->r x H Q ->
  y0u (model X.prog X.w) X.A (truthy v) (TP X pins σ Q) X.xe s
def tOp (r:R2) (ta tb:TE):TE:=fun σ H Q=>ta σ H fun x H1=>tb σ H1 fun y H2=>r x y H2 Q
def tUn (r:V->Hp->VK->Prop) (ta:TE):TE:=fun σ H Q=>ta σ H fun x H1=>r x H1 Q
noncomputable def rI (C:Int->Int->Prop) (g:Int->Int->V):R2:=fun x y H Q=>∃i j,x=.int i/\y=.int j/\C i j/\Q (g i j) H
def rI0 (g:Int->Int->V):R2:=fun x y H Q=>∃i j,x=.int i/\y=.int j/\Q (g i j) H
def rU (g:Int->V):V->Hp->VK->Prop:=fun x H Q=>∃i,x=.int i/\Q (g i) H
section
variable {X:Cx} {a b c:Expr} {ta tb tc:TE} {pos:Pos}
theorem binT (ha:PE X a ta) (hb:PE X b tb) {pins:List (Addr×Obj)} {s:y04} {σ:St} {H:Hp} {R:V->V->Hp->Prop} (I:Inv X pins σ H s)
  (h:ta σ H fun x H1=>tb σ H1 fun y H2=>R x y H2) {Q:Value->y04->Prop} {f:Value->Value->Sem Value}
  (hf:∀v u s2 x y H2,Inv X pins σ H2 s2->RelV x v->RelV y u->R x y H2->y0u (model X.prog X.w) X.A (f v u) Q X.xe s2) :
  y0u (model X.prog X.w) X.A (eval a X.env) (fun v s₁=>y0u (model X.prog X.w) X.A (eval b X.env) (fun u s₂=>y0u (model X.prog X.w) X.A (f v u) Q X.xe s₂) X.xe s₁) X.xe s:=by
 refine thn (ha pins s σ H _ I h) fun v s1 ⟨x,H1,I1,r1,q1⟩=>?_
 refine thn (hb pins s1 σ H1 _ I1 q1) fun u s2 ⟨y,H2,I2,r2,q2⟩=>?_
 exact hf v u s2 x y H2 I2 r1 r2 q2
theorem zml {op:Operator} {r:R2} (ho:OpR X (binaryOp op) r) (ha:PE X a ta) (hb:PE X b tb):PE X (.BinOp a op b pos) (tOp r ta tb):=by
 intro pins s σ H Q I h
 exact wpAny_BinOp (binT ha hb I h fun v u s2 x y H2 I2 rx ry q=>ho pins s2 σ H2 x y v u Q I2 rx ry q)
theorem zys {op:UnaryOp} {r:V->Hp->VK->Prop} (ho:UnR X (unaryOp op) r) (ha:PE X a ta):PE X (.UnaryOp op a pos) (tUn r ta):=by
 intro pins s σ H Q I h
 exact UnaryOp_ (thn (ha pins s σ H _ I h) fun v s1 ⟨x,H1,I1,r1,q1⟩=>ho pins s1 σ H1 x v Q I1 r1 q1)
theorem opI {f:Value->Value->Sem Value} {C:Int->Int->Prop} {g:Int->Int->Int}
  (rule:∀(i j:Int) (t u:Tok) (s:y04) (Q:Value->y04->Prop) (E:Value->y04->Prop),C i j->Q (.int (g i j) s.toks) { s with toks:=s.toks+1 }->y0u (model X.prog X.w) X.A (f (.int i t) (.int j u)) Q E s) :
  OpR X f (rI C fun i j=>.int (g i j)):=by
 intro pins s σ H x y v u Q I rx ry h
 obtain⟨i,j,rfl,rfl,hc,q⟩:=h
 obtain⟨t,rfl⟩:=rx
 obtain⟨t',rfl⟩:=ry
 exact rule i j t t' s _ _ hc ⟨.int (g i j),H,I.tok _,⟨_,rfl⟩,q⟩
theorem opI0 {f:Value->Value->Sem Value} {g:Int->Int->Int}
  (rule:∀(i j:Int) (t u:Tok) (s:y04) (Q:Value->y04->Prop) (E:Value->y04->Prop),Q (.int (g i j) s.toks) { s with toks:=s.toks+1 }->y0u (model X.prog X.w) X.A (f (.int i t) (.int j u)) Q E s) :
  OpR X f (rI0 fun i j=>.int (g i j)):=by
 intro pins s σ H x y v u Q I rx ry h
 obtain⟨i,j,rfl,rfl,q⟩:=h
 obtain⟨t,rfl⟩:=rx
 obtain⟨t',rfl⟩:=ry
 exact rule i j t t' s _ _ ⟨.int (g i j),H,I.tok _,⟨_,rfl⟩,q⟩
theorem opB0 {f:Value->Value->Sem Value} {g:Int->Int->Bool}
  (rule:∀(i j:Int) (t u:Tok) (s:y04) (Q:Value->y04->Prop) (E:Value->y04->Prop),Q (.bool (g i j)) s->y0u (model X.prog X.w) X.A (f (.int i t) (.int j u)) Q E s) :
  OpR X f (rI0 fun i j=>.bl (g i j)):=by
 intro pins s σ H x y v u Q I rx ry h
 obtain⟨i,j,rfl,rfl,q⟩:=h
 obtain⟨t,rfl⟩:=rx
 obtain⟨t',rfl⟩:=ry
 exact rule i j t t' s _ _ ⟨.bl (g i j),H,I,rfl,q⟩
def CDiv (i j:Int):Prop:=0<j/\j<1073741824
def CMul (i j:Int):Prop:=(-(2 ^ 64)<i/\i<2 ^ 64)\/(-(2 ^ 64)<j/\j<2 ^ 64)
theorem CMul.ok {i j:Int} (h:CMul i j):IntMulOk i j:=by
 rcases h with ⟨h1,h2⟩|⟨h1,h2⟩
 ·exact .of_left (intBits_le_64 h1 h2)
 ·exact .of_right (intBits_le_64 h1 h2)
theorem zxe:OpR X (binaryOp .Add) (rI0 fun i j=>.int (i+j)):=opI0 fun _ _ _ _ _ _ _ q=>add_int q
theorem zxa:OpR X (binaryOp .Sub) (rI0 fun i j=>.int (i - j)):=opI0 fun _ _ _ _ _ _ _ q=>sub_int q
theorem zxb:OpR X (binaryOp .Mult) (rI CMul fun i j=>.int (i*j)):=opI fun _ _ _ _ _ _ _ hc q=>mul_int q hc.ok
theorem zv4:OpR X (binaryOp .FloorDiv) (rI CDiv fun i j=>.int (i / j)):=opI fun i j _ _ _ _ _ hc q=>by
 have h1:(0:Int)<j:=hc.1
 have h2:j<1073741824:=hc.2
 exact floordiv_int (by omega) (by rw[Int.fdiv_eq_ediv_of_nonneg i (by omega)];exact q) (.inl (PyProof.noPylong_small (by omega)))
theorem zxc:OpR X (binaryOp .Mod) (rI (fun _ j=>0<j) fun i j=>.int (i % j)):=opI fun i j _ _ _ _ _ hc q=>by
 have h1:(0:Int)<j:=hc
 exact mod_int' (by omega) (by rw[Int.fmod_eq_emod_of_nonneg i (by omega)];exact q)
theorem unI {f:Value->Sem Value} {g:Int->Int}
  (rule:∀(i:Int) (t:Tok) (s:y04) (Q:Value->y04->Prop) (E:Value->y04->Prop),Q (.int (g i) s.toks) { s with toks:=s.toks+1 }->y0u (model X.prog X.w) X.A (f (.int i t)) Q E s) :
  UnR X f (rU fun i=>.int (g i)):=by
 intro pins s σ H x v Q I rx h
 obtain⟨i,rfl,q⟩:=h
 obtain⟨t,rfl⟩:=rx
 exact rule i t s _ _ ⟨.int (g i),H,I.tok _,⟨_,rfl⟩,q⟩
theorem zw7:UnR X (unaryOp .USub) (rU fun i=>.int (-i)):=unI fun _ _ _ _ _ q=>neg_int q
end
section
variable {X:Cx} {a b c:Expr} {ta tb tc:TE} {pos:Pos}
theorem zls {pins:List (Addr×Obj)} {σ:St} {H:Hp} {s:y04} {Q:VK} {k k':Bool} (I:Inv X pins σ H s) (q:Q (.bl k) H) (e:k=k'):EP X pins σ Q (.bool k') s:=by
 subst e
 exact⟨.bl k,H,I,rfl,q⟩
theorem zom:OpR X (compareOp .Lt) (rI0 fun i j=>.bl (decide (i<j))):=opB0 fun _ _ _ _ _ _ _ q=>lt_int q
theorem zv3:OpR X (compareOp .LtE) (rI0 fun i j=>.bl (decide (i<=j))):=opB0 fun _ _ _ _ _ _ _ q=>le_int q
theorem zmo:OpR X (compareOp .Gt) (rI0 fun i j=>.bl (decide (j<i))):=opB0 fun _ _ _ _ _ _ _ q=>gt_int q
theorem zxd:OpR X (compareOp .GtE) (rI0 fun i j=>.bl (decide (j<=i))):=opB0 fun _ _ _ _ _ _ _ q=>ge_int q
theorem z8d:OpR X (compareOp .Lt) (fun x y H Q=>∃i j,x=.str i/\y=.str j/\Q (.bl (decide (i.cps.toList<j.cps.toList))) H):=by
 intro pins s σ H x y v u Q I rx ry h
 obtain⟨i,j,rfl,rfl,q⟩:=h
 obtain⟨t,rfl⟩:=rx
 obtain⟨t',rfl⟩:=ry
 exact lt_str (zls I q rfl)
theorem OpR.or {f:Value->Value->Sem Value} {r r':R2} (h:OpR X f r) (h':OpR X f r'):OpR X f (fun x y H Q=>r x y H Q\/r' x y H Q):=by
 intro pins s σ H x y v u Q I rx ry q
 rcases q with q|q
 ·exact h pins s σ H x y v u Q I rx ry q
 ·exact h' pins s σ H x y v u Q I rx ry q
theorem ztk (b:Expr) {op:CmpOp} (h:op≠.In:=by decide) (h2:op≠.NotIn:=by decide):behindInMarks op b=false:=by
 have e1:(op == CmpOp.In)=false:=by cases op <;> first|rfl|exact absurd rfl h
 have e2:(op == CmpOp.NotIn)=false:=by cases op <;> first|rfl|exact absurd rfl h2
 cases b <;> simp[behindInMarks,e1,e2]
theorem zuy {op:CmpOp} {r:R2} (ho:OpR X (compareOp op) r) (ha:PE X a ta) (hb:PE X b tb) (hm:behindInMarks op b=false):PE X (.Compare a [op] [b] pos) (tOp r ta tb):=by
 intro pins s σ H Q I h
 exact wpAny_Compare1 (binT ha hb I h fun v u s2 x y H2 I2 rx ry q=>ho pins s2 σ H2 x y v u Q I2 rx ry q) hm
def zy4 (t:TE):TT:=fun σ H Q=>t σ H fun x H'=>∃k,x=.bl k/\Q k H'
theorem zuk {op:CmpOp} {r:R2} (ho:OpR X (compareOp op) r) (ha:PE X a ta) (hb:PE X b tb) (hm:behindInMarks op b=false):PT X (.Compare a [op] [b] pos) (zy4 (tOp r ta tb)):=by
 intro pins s σ H Q I h
 refine wpAny_isTrue_Compare1 (thn (ha pins s σ H _ I h) fun v s1 ⟨x,H1,I1,r1,q1⟩=>thn (hb pins s1 σ H1 _ I1 q1) fun u s2 ⟨y,H2,I2,r2,q2⟩ =>
  thn (ho pins s2 σ H2 x y v u _ I2 r1 r2 q2) fun c s3 ⟨z,H3,I3,r3,k,e,q3⟩=>?_) hm
 subst e
 cases r3
 exact wpAny_truthy_bool ⟨H3,I3,q3⟩
noncomputable def TruV (K:y00) (x:V) (H:Hp) (k:Bool):Prop :=
 match x with
 | .non=>k=false
 | .bl b=>k=b
 | .int i=>k=(i != 0)
 | .str y=>y.length<=y0j/\k=((y.length:Int) != 0)
 | .byt y=>y.size<=y0j/\k=((y.size:Int) != 0)
 | .ref p=>(∃xs,SqL K H p xs/\k=!xs.isEmpty)\/(∃xs,SqT K H p xs/\k=!xs.isEmpty)\/∃kvs,H p=some (.dK kvs)/\k=!kvs.isEmpty
 | _=>False
theorem zmz {κ:Type} {kvs:List (κ×V)} {vs:List (κ×Value)} (r:KV kvs vs):(!vs.isEmpty)=!kvs.isEmpty:=by
 cases r <;> rfl
theorem zfm {xs:List V} {its:List Value} (r:Vals xs its):(!its.toArray.isEmpty)=!xs.isEmpty:=by
 cases r <;> simp
theorem zfl:(y0j:Nat)<2 ^ 63:=by rw[sizeLine_eq];decide
theorem zw8:TruR X (fun x H Q=>∃k,TruV X.K x H k/\Q k H):=by
 intro pins s σ H x v Q I rx h
 obtain⟨k,e,q⟩:=h
 have hl:=zfl
 have hs:y0j=16777216:=sizeLine_eq
 cases x with
 | non =>
  cases rx
  have e':k=false:=e
  subst e'
  exact truthy_none ⟨H,I,q⟩
 | bl b =>
  cases rx
  have e':k=b:=e
  subst e'
  exact wpAny_truthy_bool ⟨H,I,q⟩
 | int i =>
  obtain⟨t,rfl⟩:=rx
  have e':k=(i != 0):=e
  subst e'
  exact PySem.P.truthy_int ⟨H,I,q⟩
 | str y =>
  obtain⟨t,rfl⟩:=rx
  obtain⟨hy,e'⟩:y.length<=y0j/\k=((y.length:Int) != 0):=e
  subst e'
  exact PySem.P.truthy_str (by omega) ⟨H,I.tok _,q⟩
 | byt y =>
  obtain⟨t,rfl⟩:=rx
  obtain⟨hy,e'⟩:y.size<=y0j/\k=((y.size:Int) != 0):=e
  subst e'
  exact PySem.W.truthy_bytes (by omega) ⟨H,I.tok _,q⟩
 | ref p =>
  cases rx
  have e':(∃xs,SqL X.K H p xs/\k=!xs.isEmpty)\/(∃xs,SqT X.K H p xs/\k=!xs.isEmpty)\/∃kvs,H p=some (.dK kvs)/\k=!kvs.isEmpty:=e
  rcases e' with ⟨xs,hx,e'⟩|⟨xs,hx,e'⟩|⟨kvs,hx,e'⟩
  ·subst e'
   obtain⟨its,r,pl,hz⟩:=I.list hx
   have hlen:=r.length
   exact wpAny_truthy_list pl.isList (by simp only[y0h];omega) ⟨H,I.tok _,by rw[zfm r];exact q⟩
  ·subst e'
   obtain⟨its,r,pl,hz⟩:=I.tuple hx
   have hlen:=r.length
   exact truthy_tuple pl (by simp only[y0h];omega) ⟨H,I.tok _,by rw[zfm r];exact q⟩
  ·subst e'
   obtain⟨hz,hS,vs,r,m⟩:kvs.length<=y0j/\(p == sysModules)=false/\∃vs,KV kvs vs/\s.heap.DictOf (z1i X.prog X.w) p vs:=I.hok p _ hx
   have hlen:kvs.length=vs.length:=Paired.length r
   exact wpAny_truthy_dict hS m (by omega) ⟨H,I.tok _,by rw[zmz r];exact q⟩
 | _=>exact (show False from e).elim
theorem zrh (ha:PE X a ta) (he:∀whole,isTrue a X.env whole=(do let v <- whole;standAt a.pos;holding [v] (truthy v))) :
  PT X a (fun σ H Q=>ta σ H fun x H'=>∃k,TruV X.K x H' k/\Q k H'):=by
 intro pins s σ H Q I h
 exact isTrue_plain (thn (ha pins s σ H _ I h) fun v s1 ⟨x,H1,I1,r1,q1⟩=>zw8 pins s1 σ H1 x v Q I1 r1 q1) (he _)
theorem zmp:OpR X (binaryOp .Add) (fun x y H Q=>∃i j,x=.str i/\y=.str j/\i.length+j.length<=y0j/\Q (.str (i++j)) H):=by
 intro pins s σ H x y v u Q I rx ry h
 obtain⟨i,j,rfl,rfl,hz,q⟩:=h
 obtain⟨t,rfl⟩:=rx
 obtain⟨t',rfl⟩:=ry
 exact add_str (fun t' tk=>⟨.str (i++j),H,I.tok _,⟨_,rfl⟩,q⟩) hz
theorem zhg {x:V} {us:List Value} (r:Vals [x] us):∃u,us=[u]/\RelV x u:=by
 cases r with
 | cons r1 r2=>cases r2;exact⟨_,rfl,r1⟩
theorem zw5 {x y:V} {us:List Value} (r:Vals [x,y] us):∃u w',us=[u,w']/\RelV x u/\RelV y w':=by
 cases r with
 | cons r1 r2 =>
  cases r2 with
  | cons r3 r4=>cases r4;exact⟨_,_,rfl,r1,r3⟩
theorem zq8 (hc:X.calm=true):zac X (.builtin "max") (fun xs H Q=>∃i j,xs=[.int i,.int j]/\Q (.int (if j > i then j else i)) H):=by
 intro pins s σ H xs us Q I r h
 obtain⟨i,j,rfl,q⟩:=h
 obtain⟨u,w',rfl,⟨t,rfl⟩,⟨t',rfl⟩⟩:=zw5 r
 refine max_two_ints (I.ok.hd hc) fun h' tk k=>⟨_,H,I.kept k,?_,q⟩
 by_cases hj:j > i
 ·rw[if_pos hj,if_pos hj];exact⟨_,rfl⟩
 ·rw[if_neg hj,if_neg hj];exact⟨_,rfl⟩
theorem zq7 (hc:X.calm=true):zac X (.builtin "min") (fun xs H Q=>∃i j,xs=[.int i,.int j]/\Q (.int (if j<i then j else i)) H):=by
 intro pins s σ H xs us Q I r h
 obtain⟨i,j,rfl,q⟩:=h
 obtain⟨u,w',rfl,⟨t,rfl⟩,⟨t',rfl⟩⟩:=zw5 r
 refine min_two_ints (I.ok.hd hc) fun h' tk k=>⟨_,H,I.kept k,?_,q⟩
 by_cases hj:j<i
 ·rw[if_pos hj,if_pos hj];exact⟨_,rfl⟩
 ·rw[if_neg hj,if_neg hj];exact⟨_,rfl⟩
theorem zq9:zac X (.type "int") (fun xs H Q=>(∃i,xs=[.int i]/\Q (.int i) H)\/∃k,xs=[.bl k]/\Q (.int (if k then 1 else 0)) H):=by
 intro pins s σ H xs us Q I r h
 rcases h with ⟨i,rfl,q⟩|⟨k,rfl,q⟩
 ·obtain⟨u,rfl,t,rfl⟩:=zhg r
  exact call_int_int ⟨.int i,H,I,⟨_,rfl⟩,q⟩
 ·obtain⟨u,rfl,r1⟩:=zhg r
  cases r1
  exact call_int_bool ⟨.int (if k then 1 else 0),H,I.tok _,⟨_,rfl⟩,q⟩
end
end L2
namespace L2
open PySem PySem.Spec PyProof.Rows
structure ObjM (h:Heap) (x dx C:Addr) (mA:Str->Option Value):Prop where
 obj:h.get? x=some (y22 C dx)
 ns:h.Ns1 dx mA
 ne:dx≠x
theorem zp1 {h:Heap} {dx:Addr} {mA:Str->Option Value} (n:h.Ns1 dx mA):∃od,h.get? dx=some od/\∀name,PySem.W.lookIn name od=some (mA name):=by
 obtain⟨o,es,ep,ho,hd,hk,_,hm⟩:=n
 refine⟨o,ho,fun name=>?_⟩
 have e:=hm name
 unfold nsFind findBy at e
 rw[<- Array.find?_toList] at e
 unfold PySem.W.lookIn
 rw[hd]
 dsimp only
 split
 ·rename_i y q
  rw[q] at e
  exact congrArg some e
 ·rename_i q
  rw[q] at e
  have a:es.toList.any (·.refKey)=false:=by
   rw[List.any_eq_false]
   intro y hy
   obtain⟨z,t,hkey⟩:=hk y (Array.mem_toList_iff.mp hy)
   simp[DictEntry.refKey,hkey]
  have a':¬es.toList.any (·.refKey)=true:=by rw[a];exact y28
  rw[if_neg a']
  exact congrArg some e
theorem ObjM.look {h:Heap} {x dx C:Addr} {mA:Str->Option Value} (I:ObjM h x dx C mA):∃od,PySem.W.InstAt h x (y22 C dx) C (some od)/\∀name,PySem.W.lookIn name od=some (mA name) :=
 let ⟨od,ho,hl⟩:=zp1 I.ns
 ⟨od,⟨I.obj,rfl,rfl,ho⟩,hl⟩
section
variable {prog:y0q} {w:World} {A:Around} {E:Value->y04->Prop} {s:y04} {K:y00} {x dx C f:Addr} {mA:Str->Option Value} {name:Str} {v:Value}
theorem zvo {expr:Bool} {Q:Value->y04->Prop} (X:K.In s.heap) (I:ObjM s.heap x dx C mA) (hg:PySem.W.plainGet K C name=true) (hh:PySem.W.hasDictIn K C=true)
  (ha:y0d K (.ref C) name=some none) (hv:mA name=some v) (hv':PySem.W.handedIn v=true) (h:Q v { s with toks:=s.toks+1 }) :
  y0u (model prog w) A (getAttr (.ref x) name expr) Q E s:=by
 obtain⟨od,J,hl⟩:=I.look
 exact PySem.W.get_value X J (PySem.W.plainGet_of hg).1 (PySem.W.findObj_own hh ha rfl (by rw[hl,hv])) hv' h
theorem zsb {pl:Sem Bool} {Q:Value×List Value->y04->Prop} (X:K.In s.heap) (I:ObjM s.heap x dx C mA) (hg:PySem.W.plainGet K C name=true)
  (hf:y0d K (.ref C) name=some (some (.ref f))) (ht:PySem.W.isFn K (.ref f)=true) (hv:mA name=none) (h:Q (.ref f,[.ref x]) s) :
  y0u (model prog w) A (getMethod (.ref x) name pl) Q E s:=by
 obtain⟨od,J,hl⟩:=I.look
 exact PySem.W.method_fn X J (PySem.W.plainGet_of hg).1 (PySem.W.plainGet_of hg).2 hf (beq_iff_eq.mp ht) (by show (PySem.W.lookIn name od).map (·.isSome)=some false;rw[hl,hv];rfl) h
theorem zu8 {ns:List Str} {Q:Unit->y04->Prop} (X:K.In s.heap) (I:ObjM s.heap x dx C mA)
  (hs:y0d K (.ref C) "__setattr__"=some (some (.builtin "object.__setattr__"))) (hp:PySem.W.plainOver K C=true) (ht:PySem.W.takerIn K C name=some none) (hh:PySem.W.hasDictIn K C=true)
  (hw:PySem.Within mA ns) (hsz:ns.length<=y0j)
  (h:∀h',ObjM h' x dx C (fun y=>if y=name then some v else mA y)->Heap.SameBut dx s.heap h'->Q () { s with heap:=h',toks:=s.toks+2 }) :
  y0u (model prog w) A (setAttr (.ref x) name v) Q E s:=by
 obtain⟨od,J,hl⟩:=I.look
 refine PySem.W.set_plain X J hs (PySem.W.osa_open (s:={ s with toks:=s.toks+1 }) (r:=none) X J hp ht fun b=>?_)
 obtain⟨cd,hc,hd'⟩:=PySem.W.any_some hh
 have hx:s.heap.get? x=some ⟨.ref C,some dx,.plain,#[]⟩:=I.obj
 refine y02 (y06 (y02 (y02 (wpAny_loadPart hx (y02 (PySem.W.Looks.here (s:={ s with toks:=s.toks+1 }) (PySem.W.looks_clsIn X hc) ?_))))))
 rw[hd']
 refine y06 (a:=some dx) (y02 (y06 (y02 ?_)))
 refine wpAny_nsSet1 (s:={ s with toks:=s.toks+1 }) I.ns fun h' hn2 hs2=>?_
 obtain⟨oD,esD,epD,hoD,hdD,hcD⟩:=hn2.count (PySem.Within.cons name v hw)
 refine y02 (wpAny_lookBehind hoD (by rw[hdD];exact pastItsLine_dict (y1s hcD (by rw[y0w];omega))) ?_)
 exact y06 (h _ ⟨(hs2.2 _ (Ne.symm I.ne)).trans I.obj,hn2,I.ne⟩ hs2)
theorem zry {R:Result->y04->Prop} {vs:List Value} {kw:List (Str×Value)} (X:K.In s.heap) (hm:PySem.W.makesIn K C=true)
  (hi:y0d K (.ref C) "__init__"=some (some (.ref f))) (hf:PySem.W.typeIn K (.ref f)=some (.type "function"))
  (h:codeAny (model prog w) (A.under (.builtin "type.__call__" ⟨.ref C::vs,kw⟩)) (.call (.ref f) ⟨.ref (s.heap.objs.size+1)::vs,kw⟩) (PySem.W.InitBack (s.heap.objs.size+1) R)
   { s with heap:=(s.heap.push y1o).push (y22 C s.heap.objs.size) }) :
  codeAny (model prog w) A (.call (.ref C) ⟨vs,kw⟩) R s:=by
 obtain⟨hh,g,d,t,os⟩:=s
 exact PySem.W.make_core (PySem.W.makes_of X hm) (PySem.W.looks_findIn X hi) (fun self=>PySem.W.bind_fn X self hf) (.inl rfl) h
end
noncomputable def putF (f:Str) (v:V):List (Str×V)->List (Str×V)
  | []=>[(f,v)]
  | (g,x)::r=>if g=f then (g,v)::r else (g,x)::putF f v r
theorem zdv (f g:Str) (v:V):∀fs:List (Str×V),(putF f v fs).lookup g=if g=f then some v else fs.lookup g
  | []=>by
    show y1l g [(f,v)]=_
    by_cases h:g=f
    · have hb:(g == f)=true:=beq_iff_eq.mpr h
      simp only[y1l,hb,if_pos h]
    · have hb:(g == f)=false:=beq_eq_false_iff_ne.mpr h
      simp only[y1l,hb,if_neg h]
  | (k,x)::r=>by
    have ih:=zdv f g v r
    rw[show putF f v ((k,x)::r)=(if k=f then (k,v)::r else (k,x)::putF f v r) from rfl]
    by_cases hk:k=f
    · rw[if_pos hk]
      by_cases h:g=k
      · have hb:(g == k)=true:=beq_iff_eq.mpr h
        simp only[y1l,hb,if_pos (h.trans hk)]
      · have hb:(g == k)=false:=beq_eq_false_iff_ne.mpr h
        simp only[y1l,hb,if_neg (fun e:g=f=>h (e.trans hk.symm))]
    · rw[if_neg hk]
      by_cases h:g=k
      · have hb:(g == k)=true:=beq_iff_eq.mpr h
        simp only[y1l,hb,if_neg (fun e:g=f=>hk (h.symm.trans e))]
      · have hb:(g == k)=false:=beq_eq_false_iff_ne.mpr h
        simp only[y1l,hb]
        exact ih
theorem ze0 (f:Str) (v:V):∀fs:List (Str×V),f∈(putF f v fs).map (·.1)/\∀g,g∈fs.map (·.1)->g∈(putF f v fs).map (·.1)
  | []=>⟨by simp[putF],fun g h=>by simp at h⟩
  | (k,x)::r=>by
    obtain⟨i1,i2⟩:=ze0 f v r
    rw[show putF f v ((k,x)::r)=(if k=f then (k,v)::r else (k,x)::putF f v r) from rfl]
    by_cases hk:k=f
    · rw[if_pos hk]
      subst hk
      exact⟨by simp,fun g h=>by simpa using h⟩
    · rw[if_neg hk]
      refine⟨?_,fun g h=>?_⟩
      · rw[y0e]
        exact y05 _ i1
      · rw[y0e] at h ⊢
        rcases y09.mp h with e|e
        · exact y09.mpr (.inl e)
        · exact y05 _ (i2 g e)
theorem zdy (f:Str) (v:V):∀fs:List (Str×V),(putF f v fs).length<=fs.length+1
  | []=>by simp[putF]
  | (k,x)::r=>by
    have ih:=zdy f v r
    rw[show putF f v ((k,x)::r)=(if k=f then (k,v)::r else (k,x)::putF f v r) from rfl]
    by_cases hk:k=f
    · rw[if_pos hk,y0w,y0w];omega
    · rw[if_neg hk,y0w,y0w];omega
theorem RelO.some_of {v:V} {o:Option Value} (r:RelO (some v) o):∃u,o=some u/\RelV v u:=by
 cases o with
 | none=>exact (show False from r).elim
 | some u=>exact⟨u,rfl,r⟩
theorem RelO.none_of {o:Option Value} (r:RelO none o):o=none:=by
 cases o with
 | none=>rfl
 | some u=>exact (show False from r).elim
theorem zpl {v:V} {u:Value} (r:RelV v u):PySem.W.handedIn u=true:=by
 cases v with
 | non=>cases (show u=Value.none from r);rfl
 | bl b=>cases (show u=Value.bool b from r);rfl
 | int i=>obtain⟨t,e⟩:=(show ∃t,u=Value.int i t from r);cases e;rfl
 | str x=>obtain⟨t,e⟩:=(show ∃t,u=Value.str x t from r);cases e;rfl
 | byt b=>obtain⟨t,e⟩:=(show ∃t,u=Value.bytes b t from r);cases e;rfl
 | flt b=>obtain⟨t,e⟩:=(show ∃t,u=Value.float b t from r);cases e;rfl
 | ref a=>cases (show u=Value.ref a from r);rfl
 | ty n=>cases (show u=Value.type n from r);rfl
section
variable {P:y0q} {w:World} {H H':Hp} {h h':Heap} {a C dx:Addr} {fs fs':List (Str×V)}
theorem zka (hok:HOk P w H h) (e:H a=some (.ins C dx fs)):∃mA,ObjM h a dx C mA/\(∀f,RelO (fs.lookup f) (mA f))/\PySem.Within mA (fs.map (·.1))/\fs.length<=1000/\H dx=some (.own a):=by
 obtain⟨d,z,ne,ob,mA,n,r,q⟩:=(show z6j P w H h a (.ins C dx fs) from hok a _ e)
 exact⟨mA,⟨ob,n,ne⟩,r,q,z,d⟩
end
structure Cls (K:y00) (C:Addr):Prop where
 pg:PySem.W.plainGet K C Str.empty=true
 hd:PySem.W.hasDictIn K C=true
 po:PySem.W.plainOver K C=true
 sa:y0d K (.ref C) "__setattr__"=some (some (.builtin "object.__setattr__"))
theorem Cls.get {K:y00} {C:Addr} (c:Cls K C) (f:Str):PySem.W.plainGet K C f=true:=c.pg
def zbc (K:y00) (C:Addr) (f:Str):Prop:=y0d K (.ref C) f=some none
theorem zbc.taker {K:y00} {C:Addr} {f:Str} (n:zbc K C f):PySem.W.takerIn K C f=some none:=by
 unfold PySem.W.takerIn
 rw[show y0d K (.ref C) f=some none from n]
 rfl
structure Meth (K:y00) (C:Addr) (m:Str) (f:Addr):Prop where
 at_:y0d K (.ref C) m=some (some (.ref f))
 fn:PySem.W.isFn K (.ref f)=true
 kp:y08 K (.ref f)=true
section
variable {X:Cx} {pins:List (Addr×Obj)} {σ:St} {H:Hp} {s:y04} {a C dx:Addr} {fs:List (Str×V)} {f:Str} {v:V} {A:Around} {E:Value->y04->Prop}
theorem zfq {b:Bool} {Q:Value->y04->Prop} (I:Inv X pins σ H s) (e:H a=some (.ins C dx fs)) (c:Cls X.K C) (n:zbc X.K C f) (l:fs.lookup f=some v)
  (h:∀u s',Inv X pins σ H s'->RelV v u->Q u s'):y0u (model X.prog X.w) A (getAttr (.ref a) f b) Q E s:=by
 obtain⟨mA,O,r,_,_,_⟩:=zka I.hok e
 obtain⟨u,hu,ru⟩:=RelO.some_of (v:=v) (o:=mA f) (by rw[<- l];exact r f)
 exact zvo I.kIn O (c.get f) c.hd n hu (zpl ru) (h u _ (I.tok _) ru)
theorem zfp {m:Str} {g:Addr} {pl:Sem Bool} {Q:Value×List Value->y04->Prop} (I:Inv X pins σ H s) (e:H a=some (.ins C dx fs)) (c:Cls X.K C) (k:Meth X.K C m g) (l:fs.lookup m=none)
  (h:Q (.ref g,[.ref a]) s):y0u (model X.prog X.w) A (getMethod (.ref a) m pl) Q E s:=by
 obtain⟨mA,O,r,_,_,_⟩:=zka I.hok e
 have hn:mA m=none:=RelO.none_of (by rw[<- l];exact r m)
 exact zsb I.kIn O (c.get m) k.at_ k.fn hn h
theorem zex {y:V} {u:Value} {Q:Unit->y04->Prop} (I:Inv X pins σ H s) (e:H a=some (.ins C dx fs)) (c:Cls X.K C) (n:zbc X.K C f) (hl:fs.length<1000) (ry:RelV y u)
  (h:∀s',Inv X pins σ (upd H a (.ins C dx (putF f y fs))) s'->Q () s'):y0u (model X.prog X.w) A (setAttr (.ref a) f u) Q E s:=by
 obtain⟨mA,O,r,wi,_,ho⟩:=zka I.hok e
 have hz:(fs.map (·.1)).length<=y0j:=by rw[y14,sizeLine_eq];omega
 refine zu8 I.kIn O c.sa c.po n.taker c.hd wi hz fun h' O' sb=>h _ ?_
 have hd:∃o,h'.get? dx=some o:=let ⟨o,_,_,e',_⟩:=O'.ns;⟨o,e'⟩
 refine I.write (x:=a) (e:=dx) (by rw[e];exact True.intro) (.inr ho) (fun b q hb z=>(sb.2 b hb).trans z) hd ?_
 refine⟨by rw[z0c O.ne];exact ho,?_,O.ne,O'.obj,_,O'.ns,fun g=>?_,fun g hg=>?_⟩
 ·have:=zdy f y fs;omega
 ·show RelO ((putF f y fs).lookup g) (if g=f then some u else mA g)
  rw[zdv]
  by_cases q:g=f
  ·rw[if_pos q,if_pos q];exact ry
  ·rw[if_neg q,if_neg q];exact r g
 ·by_cases q:g=f
  ·rw[q];exact (ze0 f y fs).1
  ·refine (ze0 f y fs).2 g (wi g fun z=>hg ?_)
   show (if g=f then some u else mA g)=none
   rw[if_neg q];exact z
theorem Inv.made (I:Inv X pins σ H s):Inv X pins σ (upd (upd H s.heap.objs.size (.own (s.heap.objs.size+1))) (s.heap.objs.size+1) (.ins C s.heap.objs.size []))
  { s with heap:=(s.heap.push y1o).push (y22 C s.heap.objs.size) }:=by
 have e1:(s.heap.push y1o).get? s.heap.objs.size=some y1o:=y0l s.heap rfl
 have e2:((s.heap.push y1o).push (y22 C s.heap.objs.size)).get? (s.heap.objs.size+1)=some (y22 C s.heap.objs.size):=by
  have:=y0l (s.heap.push y1o) (o:=y22 C s.heap.objs.size) rfl
  rwa [y18] at this
 have e3:(s.heap.push y1o).Ns s.heap.objs.size (fun _=>none):=⟨y1o,#[],_,e1,rfl,(fun e he=>absurd he (by simp)),fun _=>rfl⟩
 have I1:=I.laid (a:=s.heap.objs.size) (o:=.own (s.heap.objs.size+1)) (h':=s.heap.push y1o) (t':=s.toks) (fun b u q=>y03 _ q) (y0o _) ⟨_,e1⟩
 refine I1.laid (a:=s.heap.objs.size+1) (o:=.ins C s.heap.objs.size []) (t':=s.toks) (fun b u q=>y03 _ q) (Nat.le_of_eq (y18 _ _)) ?_
 have ne:s.heap.objs.size≠s.heap.objs.size+1:=y0y (Nat.lt_succ_self _)
 refine⟨by rw[z0c ne,z0e],y29 _,ne,e2,fun _=>none,(Heap.Ns1.of_empty e3).at fun o q=>y03 _ q,fun _=>True.intro,fun y hy=>absurd rfl hy⟩
theorem zw0 {prog:y0q} {w:World} {env:Env} {e:Expr} {f:Str} {pos:Pos} {s:y04} {Q:Value->y04->Prop} (hb:attributeBase e f env (eval e env)=eval e env)
  (h:y0u (model prog w) A (eval e env) (fun o s₁=>y0u (model prog w) A (getAttr o f true) Q E s₁) E s):y0u (model prog w) A (eval (.Attribute e f pos) env) Q E s :=
 Attribute_any_ h (by rw[arm_eval_Attribute,hb])
end
noncomputable def tFld (K:y00) (ta:TE) (f:Str):TE:=fun σ H Q=>ta σ H fun x H1=>∃a C dx fs v,x=.ref a/\H1 a=some (.ins C dx fs)/\Cls K C/\zbc K C f/\fs.lookup f=some v/\Q v H1
noncomputable def sFld (K:y00) (ta tv:TE) (f:Str):TS:=fun D σ H=>tv σ H fun y H1=>ta σ H1 fun x H2=>∃a C dx fs,x=.ref a/\H2 a=some (.ins C dx fs)/\Cls K C/\zbc K C f/\fs.length<1000 /\
 D.nx σ (upd H2 a (.ins C dx (putF f y fs)))
noncomputable def InOp (X:Cx) (op:Operator) (rd:V->V->Hp->VK->Prop):Prop :=
 ∀(pins:List (Addr×Obj)) (s:y04) (σ:St) (H:Hp) (x y:V) (u v:Value) (Q:VK),Inv X pins σ H s->RelV x u->RelV y v->rd x y H Q->y0u (model X.prog X.w) X.A (inplaceOp op u v) (EP X pins σ Q) X.xe s
noncomputable def zud (K:y00) (ta tv:TE) (rd:V->V->Hp->VK->Prop) (f:Str):TS:=fun D σ H=>ta σ H fun x H1=>∃a C dx fs v,x=.ref a/\H1 a=some (.ins C dx fs)/\Cls K C/\zbc K C f/\fs.lookup f=some v /\
 tv σ H1 fun y H2=>rd v y H2 fun z H3=>∃dx' fs',H3 a=some (.ins C dx' fs')/\fs'.length<1000/\D.nx σ (upd H3 a (.ins C dx' (putF f z fs')))
section
variable {X:Cx} {o e value:Expr} {f:Str} {pos pos' tpos:Pos} {ta tv:TE}
theorem z9p (he:PE X e ta) (hb:attributeBase e f X.env (eval e X.env)=eval e X.env):PE X (.Attribute e f pos) (tFld X.K ta f):=by
 intro pins s σ H Q I h
 refine zw0 hb (thn (he pins s σ H _ I h) fun u s1 ⟨x,H1,I1,rx,a,C,dx,fs,v,ex,ea,c,n,l,q⟩=>?_)
 subst ex
 obtain rfl:u=Value.ref a:=rx
 exact zfq I1 ea c n l fun u' s2 I2 ru=>⟨v,H1,I2,ru,q⟩
theorem zog (ha:PE X o ta) (hv:PE X value tv) (hs:swapsWith value (some (.Attribute o f pos')) pos.line X.env=pure false):PS X (.Assign [.Attribute o f pos'] value pos) (sFld X.K ta tv f):=by
 intro pins s σ H D I h
 refine plainObj_wpAny_Assign_Attribute (thn (hv pins s σ H _ I h) fun u s1 ⟨y,H1,I1,ry,q⟩=>thn (ha pins s1 σ H1 _ I1 q) fun ov s2 ⟨x,H2,I2,rx,a,C,dx,fs,ex,ea,c,n,l,q2⟩=>?_) hs
 subst ex
 obtain rfl:ov=Value.ref a:=rx
 exact zex I2 ea c n l ry fun s3 I3=>⟨σ,_,I3,q2⟩
theorem zof {op:Operator} {rd:V->V->Hp->VK->Prop} (ha:PE X o ta) (hv:PE X value tv) (hop:InOp X op rd):PS X (.AugAssign (.Attribute o f tpos) op value pos) (zud X.K ta tv rd f):=by
 intro pins s σ H D I h
 refine wpAny_AugAssign_AttributeAny (thn (ha pins s σ H _ I h) fun ov s1 ⟨x,H1,I1,rx,a,C,dx,fs,v,ex,ea,c,n,l,q⟩=>?_)
 subst ex
 obtain rfl:ov=Value.ref a:=rx
 refine zfq I1 ea c n l fun u s2 I2 ru=>thn (hv pins s2 σ H1 _ I2 q) fun w3 s3 ⟨y,H2,I3,ry,q3⟩=>thn (hop pins s3 σ H2 v y u w3 _ I3 ru ry q3) fun w4 s4 ⟨z,H3,I4,rz,dx',fs',ea',l',q4⟩=>?_
 exact zex I4 ea' c n l' rz fun s5 I5=>⟨σ,_,I5,q4⟩
noncomputable def rAdd:V->V->Hp->VK->Prop:=fun x y H Q=>∃i j,x=.int i/\y=.int j/\Q (.int (i+j)) H
theorem ztq:InOp X .Add rAdd:=by
 rintro pins s σ H x y u v Q I rx ry ⟨i,j,rfl,rfl,q⟩
 obtain⟨t,rfl⟩:=(show ∃t,u=Value.int i t from rx)
 obtain⟨t',rfl⟩:=(show ∃t',v=Value.int j t' from ry)
 exact PyProof.Rows.iadd_int ⟨.int (i+j),H,I.tok _,⟨_,rfl⟩,q⟩
end
section
variable {X:Cx} {pins:List (Addr×Obj)} {σ:St} {H:Hp} {s:y04} {A:Around} {E:Value->y04->Prop} {Q:Value->y04->Prop} {c:Value} {b:Bool}
end
end L2
namespace L2
open PySem PySem.Spec PyProof.Rows
structure Room (k:Nat) (A:Around):Prop where
 hd:A.handled=none
 dp:A.depth+3*k+5<recursionLimit
 un:A.units+16*k+200<cLine
theorem Room.mono {j k:Nat} {A:Around} (r:Room k A) (h:j<=k):Room j A:=⟨r.hd,by have:=r.dp;omega,by have:=r.un;omega⟩
theorem Room.deeper {k:Nat} {A:Around} (r:Room (k+1) A) (env:Env):Room k (A.deeper env) :=
 ⟨r.hd,by have:=r.dp;show A.depth+1+3*k+5<_;omega,by have:=r.un;show A.units+3+16*k+200<_;omega⟩
theorem zmw {A:Around} {C:Addr} {us:List Value} {kw:List (Str×Value)}:(A.under (.builtin "type.__call__" ⟨.ref C::us,kw⟩)).depth=A.depth+1:=by
 first|rfl|simp[Around.under,Code.weight,Code.isCreation,Code.isGuard,Code.isCaller,Code.frames,Code.isFrame,guardIds]
theorem zmv {A:Around} {C:Addr} {us:List Value} {kw:List (Str×Value)}:(A.under (.builtin "type.__call__" ⟨.ref C::us,kw⟩)).units=A.units+1:=by
 first|rfl|simp[Around.under,Code.cUnits,Code.frames,Code.isFrame]
theorem Room.make {k:Nat} {A:Around} (r:Room (k+1) A) (C:Addr) (us:List Value) (kw:List (Str×Value)):Room k (A.under (.builtin "type.__call__" ⟨.ref C::us,kw⟩)) :=
 ⟨r.hd,by have:=r.dp;rw[zmw];omega,by have:=r.un;rw[zmv];omega⟩
theorem Room.depth {k:Nat} {A:Around} (r:Room k A):A.depth<recursionLimit:=by have:=r.dp;omega
theorem Room.units {k:Nat} {A:Around} (r:Room k A):A.units+64<cLine:=by have:=r.un;omega
def tNil:TA:=fun _ H Q=>Q [] H
noncomputable def zyc (ta:TE) (tr:TA):TA:=fun σ H Q=>ta σ H fun x H1=>tr σ H1 fun xs H2=>Q (x::xs) H2
section
variable {X:Cx} {e:Expr} {es:List Expr} {te:TE} {t:TA} {pos:Pos}
theorem z6o:PA X [] tNil:=fun _ _ _ _ H Q I h=>Calls.spliced_nil ⟨[],H,I,.nil,h⟩
theorem z2y (ha:PE X e te) (hr:PA X es t) (hs:y0a (e::es) X.env=(false,eval e X.env)::y0a es X.env:=by rfl):PA X (e::es) (zyc te t):=by
 intro pos pins s σ H Q I h
 rw[hs]
 show y0u _ _ (spliced ((false,eval e X.env)::backTo pos (y0a es X.env))) _ _ s
 refine Calls.spliced_cons (thn (ha pins s σ H _ I h) fun u s1 ⟨x,H1,I1,r1,q1⟩=>?_)
 exact thn (hr pos pins s1 σ H1 _ I1 q1) fun us s2 ⟨xs,H2,I2,r2,q2⟩=>⟨x::xs,H2,I2,.cons r1 r2,q2⟩
noncomputable def tTup (t:TA):TE:=fun σ H Q=>t σ H fun xs H1=>xs.length<=y0j/\∀p,H1 p=none->Q (.ref p) (upd H1 p (.tup xs))
noncomputable def tLst (t:TA):TE:=fun σ H Q=>t σ H fun xs H1=>xs.length<=y0j/\∀p,H1 p=none->Q (.ref p) (upd H1 p (.lst xs))
theorem zx4 {x1} (h:PA X es t):PE X (.Tuple es x1 pos) (tTup t):=by
 intro pins s σ H Q I hq
 refine wpAny_Tuple_spliced (thn (h pos pins s σ H _ I hq) fun us s1 ⟨xs,H1,I1,r,z,q⟩=>⟨by rw[<- r.length];exact z,?_⟩)
 have hf:H1 s1.heap.objs.size=none:=I1.hok.fresh (y0o _)
 refine⟨.ref s1.heap.objs.size,upd H1 s1.heap.objs.size (.tup xs),I1.laid (t':=s1.toks) (fun b u e=>y03 _ e) (y0o _) ?_,rfl,q _ hf⟩
 exact⟨z,us,r,⟨_,y0l _ rfl,rfl,_,rfl⟩⟩
theorem zx7 (h:PA X es t):PE X (.List es pos) (tLst t):=by
 intro pins s σ H Q I hq
 refine wpAny_List_spliced (thn (h pos pins s σ H _ I hq) fun us s1 ⟨xs,H1,I1,r,z,q⟩=>⟨by rw[<- r.length];exact z,?_⟩)
 have hf:H1 s1.heap.objs.size=none:=I1.hok.fresh (y0o _)
 refine⟨.ref s1.heap.objs.size,upd H1 s1.heap.objs.size (.lst xs),I1.laid (t':=s1.toks) (fun b u e=>y03 _ e) (y0o _) ?_,rfl,q _ hf⟩
 exact⟨z,us,0,r,y0l _ rfl⟩
end
abbrev Sp:=List V->Hp->VK->XK->Prop
abbrev CXT:=List Env->Hp->y04->XK->Value->y04->Prop
structure Env0 (P:y0q) (w:World) (K:y00) (mg:Str->Option Value) (base:Heap) (A:Around) (outer:List Env) (s:y04) (H:Hp):Prop where
 frames:A.frames=some outer
 mod:Mod K mg base
 bs:∀b o,base.get? b=some o->s.heap.get? b=some o/\H b=none
 bsz:base.objs.size<=s.heap.objs.size
 funs:s.heap.FunFrames base outer
 frf:∀b∈frs outer,H b=none
 hok:HOk P w H s.heap
 bare:AllBare s.gens
noncomputable def CE (outer:List Env) (P:y0q) (w:World) (H:Hp) (s:y04) (Q:VK) (u:Value) (s':y04):Prop :=
 ∃v H',s'.os=s.os/\AllBare s'.gens/\Un (frs outer) [] H H' s.heap s'.heap/\HOk P w H' s'.heap/\RelV v u/\Q v H'
noncomputable def CR (CX:CXT) (outer:List Env) (P:y0q) (w:World) (H:Hp) (s:y04) (Q:VK) (E:XK) (r:Result) (s':y04):Prop :=
 match r with
 | .ok (.ret u)=>CE outer P w H s Q u s'
 | .ok _=>False
 | .error e=>CX outer H s E e s'
structure FnOk (P:y0q) (w:World) (K:y00) (mg:Str->Option Value) (base:Heap) (CX:CXT) (k:Nat) (f:Addr) (fd:y0b) (ps:List Str) (sp:Sp):Prop where
 len:∀vs H Q E,sp vs H Q E->vs.length=ps.length
 run:∀(A:Around) (outer:List Env) (s:y04) (H:Hp) (args:Args) (us:List Value) (vs:List V) (Q:VK) (E:XK),Room k A->Env0 P w K mg base A outer s H->BindsTo s fd args (ps.zip us)->Vals vs us->sp vs H Q E ->
  codeAny (model P w) A (.call (.ref f) args) (CR CX outer P w H s Q E) s
theorem FnOk.mono {P:y0q} {w:World} {K:y00} {mg:Str->Option Value} {base:Heap} {CX:CXT} {j k:Nat} {f:Addr} {fd:y0b} {ps:List Str} {sp:Sp} (F:FnOk P w K mg base CX j f fd ps sp) (h:j<=k) :
  FnOk P w K mg base CX k f fd ps sp:=⟨F.len,fun A outer s H args us vs Q E hr=>F.run A outer s H args us vs Q E (hr.mono h)⟩
theorem FnOk.imp {P:y0q} {w:World} {K:y00} {mg:Str->Option Value} {base:Heap} {CX:CXT} {k:Nat} {f:Addr} {fd:y0b} {ps:List Str} {sp sp':Sp} (F:FnOk P w K mg base CX k f fd ps sp)
  (h:∀vs H Q E,sp' vs H Q E->sp vs H Q E):FnOk P w K mg base CX k f fd ps sp' :=
 ⟨fun vs H Q E q=>F.len vs H Q E (h _ _ _ _ q),fun A outer s H args us vs Q E hr he hb hv hs=>F.run A outer s H args us vs Q E hr he hb hv (h _ _ _ _ hs)⟩
theorem Env0.make {P:y0q} {w:World} {K:y00} {mg:Str->Option Value} {base:Heap} {A:Around} {outer:List Env} {s:y04} {H:Hp} (e:Env0 P w K mg base A outer s H) (C:Addr) (us:List Value) (kw:List (Str×Value)) :
  Env0 P w K mg base (A.under (.builtin "type.__call__" ⟨.ref C::us,kw⟩)) outer s H:=⟨by first|exact e.frames|(simpa [Around.under,Code.envs,Code.isFrame,pushEnvs] using e.frames),e.mod,e.bs,e.bsz,e.funs,e.frf,e.hok,e.bare⟩
section
variable {X:Cx} {pins:List (Addr×Obj)} {σ:St} {H:Hp} {s s':y04}
theorem Inv.env0 (I:Inv X pins σ H s):Env0 X.prog X.w X.K X.mg X.base X.A X.stack s H :=
 ⟨I.ok.frames,I.ok.mod,I.bs,y1s I.ok.bsz I.sz,I.stack,I.stkFree,I.hok,I.bare⟩
theorem Inv.after {Q:VK} {u:Value} (I:Inv X pins σ H s) (h:CE X.stack X.prog X.w H s Q u s'):EP X pins σ Q u s':=by
 obtain⟨v,H',os,bare,un,hok,r,q⟩:=h
 obtain⟨hh,g,d,t,os'⟩:=s'
 obtain rfl:os'=s.os:=os
 exact⟨v,H',I.call (h':=hh) (g':=g) (d':=d) (t':=t) (ch:=[]) un hok bare (fun b z=>absurd z (by simp)),r,q⟩
end
noncomputable def zyd (sp:Sp) (dvs:List V) (E:XK) (t:TA):TE:=fun σ H Q=>t σ H fun vs H1=>sp (vs++dvs) H1 Q E
noncomputable def zw9 (C:Addr) (m:Str) (sp:Sp) (dvs:List V) (E:XK) (ta:TE) (t:TA):TE:=fun σ H Q=>ta σ H fun x H1=>∃a dx fs,x=.ref a/\H1 a=some (.ins C dx fs)/\fs.lookup m=none /\
 t σ H1 fun vs H2=>sp (x::(vs++dvs)) H2 Q E
noncomputable def zy9 (C:Addr) (sp:Sp) (dvs:List V) (E:XK) (t:TA):TE:=fun σ H Q=>t σ H fun vs H1=>∀x dx,H1 x=none->H1 dx=none->dx≠x ->
 sp (.ref x::(vs++dvs)) (upd (upd H1 dx (.own x)) x (.ins C dx [])) (fun v H2=>v=.non/\Q (.ref x) H2) E
noncomputable def z5h (K:y00) (fd:y0b) (ps:List Str) (ds:List Value):Prop :=
 ∀(s:y04) (us:List Value),K.In s.heap->(us++ds).length=ps.length->BindsTo s fd ⟨us,[]⟩ (ps.zip (us++ds))
theorem z5h.all {K:y00} {fd:y0b} {ps:List Str} (h:∀us:List Value,us.length=ps.length->bindArgs fd ⟨us,[]⟩=pure (ps.zip us)):z5h K fd ps []:=fun s us _ hl=>by
 rw[y23] at hl ⊢
 exact .of_eq (h us hl)
noncomputable def zeh (CX:CXT) (X:Cx) (E:XK):Prop:=∀(pins:List (Addr×Obj)) (σ:St) (H:Hp) (s:y04) (e:Value) (s':y04),Inv X pins σ H s->CX X.stack H s E e s'->X.xe e s'
section
variable {X:Cx} {CX:CXT} {k:Nat} {f C:Addr} {fd:y0b} {ps:List Str} {sp:Sp} {dvs:List V} {ds:List Value} {E:XK} {x m:Str} {p pos apos:Pos} {e o:Expr} {es:List Expr} {ta:TE} {t:TA}
theorem zo6 {pins:List (Addr×Obj)} {σ:St} {H:Hp} {s:y04} {Q:VK} {us:List Value} {vs:List V} (F:FnOk X.prog X.w X.K X.mg X.base CX k f fd ps sp) (hr:Room k X.A) (hb:z5h X.K fd ps ds) (hd:Vals dvs ds) (hx:zeh CX X E)
  (I:Inv X pins σ H s) (r:Vals vs us) (h:sp (vs++dvs) H Q E):y0u (model X.prog X.w) X.A (call (.ref f) us) (EP X pins σ Q) X.xe s:=by
 have r2:Vals (vs++dvs) (us++ds):=r.append hd
 have hl:(us++ds).length=ps.length:=by rw[<- r2.length];exact F.len _ _ _ _ h
 refine wpAny_call (codeAny_mono (F.run X.A X.stack s H ⟨us,[]⟩ (us++ds) (vs++dvs) Q E hr I.env0 (hb s us I.kIn hl) r2 h) fun r s' hq=>?_)
 cases r with
 | error e=>exact hx pins σ H s e s' I hq
 | ok fl =>
  cases fl with
  | ret u=>exact I.after hq
  | next=>exact y21 hq
  | brk=>exact y21 hq
  | cont=>exact y21 hq
theorem zk3 (F:FnOk X.prog X.w X.K X.mg X.base CX k f fd ps sp) (hr:Room k X.A) (hg:Gl X x) (hm:X.mg x=some (.ref f)) (hk:y08 X.K (.ref f)=true) (hb:z5h X.K fd ps ds) (hd:Vals dvs ds) (hx:zeh CX X E)
  (ha:PA X (e::es) t) (hdb:(x == ("__debug__":Str))=false:=by decide) (he:y0a (e::es) X.env=(false,eval e X.env)::y0a es X.env:=by rfl) (hpl:(backTo pos (y0a es X.env)).any (·.1)=false:=by rfl) :
  PE X (.Call (.Name x p) (e::es) [] pos) (zyd sp dvs E t):=by
 intro pins s σ H Q I h
 refine wpAny_Call_Name_kw (zk9 I hg hm ?_ hdb)
 refine PySem.W.callWith_K (h₀:=X.base) I.ok.mod.kin hk (thn (ha pos pins s σ H _ I h) fun us s1 ⟨vs,H1,I1,r,q⟩=>⟨I1.kIn,?_⟩) he hpl
 exact zo6 F hr hb hd hx I1 r q
theorem zoj {pl:Sem Bool} (he:PE X o ta) (c:Cls X.K C) (hm:Meth X.K C m f) (F:FnOk X.prog X.w X.K X.mg X.base CX k f fd ps sp) (hr:Room k X.A) (hb:z5h X.K fd ps ds) (hd:Vals dvs ds) (hx:zeh CX X E) (ha:PA X (e::es) t)
  (hst:y0a (e::es) X.env=(false,eval e X.env)::y0a es X.env:=by rfl) (hpl:(backTo pos (y0a es X.env)).any (·.1)=false:=by rfl)
  (ht:eval (.Call (.Attribute o m apos) (e::es) [] pos) X.env=(do
   let ov <- eval o X.env
   standAt apos.atName
   let (f,first) <- holding [ov] (getMethod ov m pl)
   callWith pos f first (backTo pos (y0a (e::es) X.env)) (backToKw pos (keywordEach [] X.env))):=by rfl) :
  PE X (.Call (.Attribute o m apos) (e::es) [] pos) (zw9 C m sp dvs E ta t):=by
 intro pins s σ H Q I h
 refine PySem.W.methodCall_KW (pl:=pl) (thn (he pins s σ H _ I h) fun u s1 ⟨x,H1,I1,rx,a,dx,fs,ex,ea,l,q⟩=>?_) ht
 subst ex
 obtain rfl:u=Value.ref a:=rx
 refine zfp I1 ea c hm l ?_
 refine PySem.W.callWith_K (first:=[.ref a]) (h₀:=X.base) I.ok.mod.kin hm.kp (thn (ha pos pins s1 σ H1 _ I1 q) fun us s2 ⟨vs,H2,I2,r,q2⟩=>⟨I2.kIn,?_⟩) hst hpl
 exact zo6 (us:=.ref a::us) (vs:=.ref a::vs) F hr hb hd hx I2 (.cons rfl r) q2
theorem zgk {pl:Sem Bool} (he:PE X o ta) (c:Cls X.K C) (hm:Meth X.K C m f) (F:FnOk X.prog X.w X.K X.mg X.base CX k f fd ps sp) (hr:Room k X.A) (hb:z5h X.K fd ps ds) (hd:Vals dvs ds) (hx:zeh CX X E)
  (ht:eval (.Call (.Attribute o m apos) [] [] pos) X.env=(do
   let ov <- eval o X.env
   standAt apos.atName
   let (f,first) <- holding [ov] (getMethod ov m pl)
   callWith pos f first (backTo pos (y0a [] X.env)) (backToKw pos (keywordEach [] X.env))):=by rfl) :
  PE X (.Call (.Attribute o m apos) [] [] pos) (zw9 C m sp dvs E ta tNil):=by
 intro pins s σ H Q I h
 refine PySem.W.methodCall_KW (pl:=pl) (thn (he pins s σ H _ I h) fun u s1 ⟨x,H1,I1,rx,a,dx,fs,ex,ea,l,q⟩=>?_) ht
 subst ex
 obtain rfl:u=Value.ref a:=rx
 refine zfp I1 ea c hm l ?_
 exact PySem.W.callWith_K0 (first:=[.ref a]) I1.kIn hm.kp (zo6 (us:=[.ref a]) (vs:=[.ref a]) F hr hb hd hx I1 (.cons rfl .nil) q)
structure Mk (K:y00) (C f:Addr):Prop where
 makes:PySem.W.makesIn K C=true
 init:y0d K (.ref C) "__init__"=some (some (.ref f))
 fn:PySem.W.isFn K (.ref f)=true
 kp:y08 K (.ref C)=true
theorem zr8 {pins:List (Addr×Obj)} {σ:St} {H:Hp} {s:y04} {Q:VK} {us:List Value} {vs:List V} (M:Mk X.K C f) (F:FnOk X.prog X.w X.K X.mg X.base CX k f fd ps sp) (hr:Room (k+1) X.A) (hb:z5h X.K fd ps ds) (hd:Vals dvs ds)
  (hx:zeh CX X E) (I:Inv X pins σ H s) (r:Vals vs us)
  (h:∀x dx,H x=none->H dx=none->dx≠x->sp (.ref x::(vs++dvs)) (upd (upd H dx (.own x)) x (.ins C dx [])) (fun v H2=>v=.non/\Q (.ref x) H2) E) :
  y0u (model X.prog X.w) X.A (call (.ref C) us) (EP X pins σ Q) X.xe s:=by
 have hq:=h (s.heap.objs.size+1) s.heap.objs.size (I.hok.fresh (y2m _)) (I.hok.fresh (y0o _)) (y0y (Nat.lt_succ_self _))
 have I2:=Inv.made (C:=C) I
 have r2:Vals (V.ref (s.heap.objs.size+1)::(vs++dvs)) (Value.ref (s.heap.objs.size+1)::(us++ds)):=.cons rfl (r.append hd)
 have hl:(Value.ref (s.heap.objs.size+1)::us++ds).length=ps.length:=by
  have e:=r2.length
  rw[F.len _ _ _ _ hq] at e
  exact e.symm
 refine wpAny_call (zry (f:=f) I.kIn M.makes M.init (beq_iff_eq.mp M.fn) (codeAny_mono (F.run _ X.stack _ _ ⟨Value.ref (s.heap.objs.size+1)::us,[]⟩ (Value.ref (s.heap.objs.size+1)::(us++ds)) _ _ E (hr.make C us [])
  (I2.env0.make C us []) (hb _ (Value.ref (s.heap.objs.size+1)::us) I2.kIn hl) r2 hq) fun r s' hq'=>?_))
 cases r with
 | error e=>exact hx pins σ _ _ e s' I2 hq'
 | ok fl =>
  cases fl with
  | ret u =>
   obtain⟨v,H',I3,rv,ev,q3⟩:=I2.after hq'
   subst ev
   exact⟨rv,⟨V.ref (s.heap.objs.size+1),H',I3,rfl,q3⟩⟩
  | next=>exact y21 hq'
  | brk=>exact y21 hq'
  | cont=>exact y21 hq'
theorem zuw (M:Mk X.K C f) (F:FnOk X.prog X.w X.K X.mg X.base CX k f fd ps sp) (hr:Room (k+1) X.A) (hg:Gl X x) (hm:X.mg x=some (.ref C)) (hb:z5h X.K fd ps ds) (hd:Vals dvs ds) (hx:zeh CX X E)
  (ha:PA X (e::es) t) (hdb:(x == ("__debug__":Str))=false:=by decide) (he:y0a (e::es) X.env=(false,eval e X.env)::y0a es X.env:=by rfl) (hpl:(backTo pos (y0a es X.env)).any (·.1)=false:=by rfl) :
  PE X (.Call (.Name x p) (e::es) [] pos) (zy9 C sp dvs E t):=by
 intro pins s σ H Q I h
 refine wpAny_Call_Name_kw (zk9 I hg hm ?_ hdb)
 refine PySem.W.callWith_K (h₀:=X.base) I.ok.mod.kin M.kp (thn (ha pos pins s σ H _ I h) fun us s1 ⟨vs,H1,I1,r,q⟩=>⟨I1.kIn,?_⟩) he hpl
 exact zr8 M F hr hb hd hx I1 r q
end
section
variable {X:Cx} {CX:CXT} {k:Nat} {f C:Addr} {fd:y0b} {ps ks:List Str} {sp:Sp} {E:XK} {x m:Str} {p pos apos kpos:Pos} {e o:Expr} {es:List Expr} {kws:List Keyword} {te ta:TE} {t tk:TA} {nm:Option Str}
variable {g:List Value->List Value->List Value} {gV:List V->List V->List V}
end
structure FnScope (N P:List Str) (sc:Scope):Prop where
 kind:sc.kind=.function
 co:sc.isCoroutine=false
 gen:sc.isGenerator=false
 nd:N.Nodup
 pre:N.take P.length=P
 par:∀x∈P,sc.names.lookup x=some .local\/sc.names.lookup x=some .cell
 nofree:∀y∈sc.names,y.2≠.free
theorem zj9 {kindOf:Str->Option NameKind} {x:Str}:∀{binds:List (Str×Value)} {m:Str->Option Value},(∀v,(x,v)∉binds)->bindL kindOf binds m x=m x
  | [],_,_=>rfl
  | (n,v)::r,m,h=>by
    unfold bindL
    rw[zj9 fun w hw=>h w (y05 _ hw)]
    split
    · have:x≠n:=by rintro rfl;exact h v y0f
      simp[this]
    · rfl
theorem zjb {kindOf:Str->Option NameKind} {x:Str}:∀{binds:List (Str×Value)} {m:Str->Option Value},(∀v,(x,v)∉binds)->bindC kindOf binds m x=m x
  | [],_,_=>rfl
  | (n,v)::r,m,h=>by
    unfold bindC
    rw[zjb fun w hw=>h w (y05 _ hw)]
    split
    · rfl
    · have:x≠n:=by rintro rfl;exact h v y0f
      simp[this]
theorem zja {kindOf:Str->Option NameKind} {x:Str} {v:Value}:∀{P:List Str} {vs:List Value} {i:Nat} {m:Str->Option Value},P.Nodup->P[i]?=some x->vs[i]?=some v->kindOf x=some .local ->
  bindL kindOf (P.zip vs) m x=some v
 | [],_,_,_,_,h,_,_=>by simp at h
 | _::_,[],_,_,_,_,h,_=>by simp at h
 | p::P,w::vs,0,m,nd,h1,h2,hk=>by
  simp at h1 h2;subst h1;subst h2
  show bindL kindOf ((p,w)::P.zip vs) m p=_
  unfold bindL
  rw[zj9 fun v hv=>(y0r.mp nd).1 (List.of_mem_zip hv).1,if_pos hk]
  simp
 | p::P,w::vs,i+1,m,nd,h1,h2,hk=>by
  show bindL kindOf ((p,w)::P.zip vs) m x=_
  unfold bindL
  exact zja (i:=i) (y0r.mp nd).2 (by simpa using h1) (by simpa using h2) hk
theorem zjc {kindOf:Str->Option NameKind} {x:Str} {v:Value}:∀{P:List Str} {vs:List Value} {i:Nat} {m:Str->Option Value},P.Nodup->P[i]?=some x->vs[i]?=some v->kindOf x≠some .local ->
  bindC kindOf (P.zip vs) m x=some v
 | [],_,_,_,_,h,_,_=>by simp at h
 | _::_,[],_,_,_,_,h,_=>by simp at h
 | p::P,w::vs,0,m,nd,h1,h2,hk=>by
  simp at h1 h2;subst h1;subst h2
  show bindC kindOf ((p,w)::P.zip vs) m p=_
  unfold bindC
  rw[zjb fun v hv=>(y0r.mp nd).1 (List.of_mem_zip hv).1,if_neg hk]
  simp
 | p::P,w::vs,i+1,m,nd,h1,h2,hk=>by
  show bindC kindOf ((p,w)::P.zip vs) m x=_
  unfold bindC
  exact zjc (i:=i) (y0r.mp nd).2 (by simpa using h1) (by simpa using h2) hk
def start (N:List Str) (vs:List V):St:=vs.map some++y0g (N.length - vs.length) none
noncomputable def cxOf (CX:CXT) (P:y0q) (w:World) (K:y00) (mg:Str->Option Value) (base:Heap) (N:List Str) (qual:Str) (scope:Scope) (f:Addr) (cd:Value) (A:Around) (outer:List Env) (s:y04) (H:Hp) (E:XK):Cx where
 prog:=P
 w:=w
 K:=K
 mg:=mg
 base:=base
 A:=A.deeper (envOfC qual scope s.heap.objs.size f cd)
 N:=N
 s₀:=s
 H₀:=H
 env:=envOfC qual scope s.heap.objs.size f cd
 outer:=outer
 stack:=envOfC qual scope s.heap.objs.size f cd::outer
 ex:=[]
 calm:=true
 fn:=fun _=>true
 pn:=[]
 xe:=fun e s'=>y0u (model P w) (A.deeper (envOfC qual scope s.heap.objs.size f cd)) (leaving (envOfC qual scope s.heap.objs.size f cd) e) (fun _ s''=>CX outer H s E e s'') (fun e' s''=>CX outer H s E e' s'') s'
theorem zlz {sc:Scope} {n:Nat} {x:Str} (h:sc.names.lookup x=some .cell):∃c,(cellsFrom n sc.names []).lookup x=some c:=by
 have q:=PySem.W.cellsFrom_some sc.names n [] (.inl h)
 exact Option.isSome_iff_exists.mp q
theorem zpd {CX:CXT} {P:y0q} {w:World} {K:y00} {mg:Str->Option Value} {base:Heap} {N ps:List Str} {qual:Str} {scope:Scope} {f:Addr} {cd:Value} {A:Around} {outer:List Env} {s s1:y04} {H:Hp} {E:XK} {us:List Value} {vs:List V}
  (S:FnScope N ps scope) (hd:A.handled=none) (e0:Env0 P w K mg base A outer s H) (hl:vs.length=ps.length) (r:Vals vs us)
  (x:InCallC s s.heap.objs.size (bindL (envOfC qual scope s.heap.objs.size f cd).kindOf (ps.zip us) fun _=>none) (cellsFrom (s.heap.objs.size+1) scope.names []) (bindC (envOfC qual scope s.heap.objs.size f cd).kindOf (ps.zip us) fun _=>none) s1) :
  Inv (cxOf CX P w K mg base N qual scope f cd A outer s H E) [] (start N vs) H s1:=by
 have hpl:ps.length<=N.length:=by have:=congrArg List.length S.pre;rw[List.length_take] at this;omega
 obtain⟨h1,tk,rfl,hk⟩:=x.done
 have noA:∀b:Addr,b∉(cxOf CX P w K mg base N qual scope f cd A outer s H E).ex:=fun b z=>absurd (show b∈([]:List Addr) from z) (by simp)
 refine⟨⟨e0.mod,S.kind,rfl,rfl,y0o _,fun y z c h1 h2=>?_,fun y hy=>?_,fun y c _ h=>?_,fun _=>hd,Around.frames_deeper e0.frames,.inr ⟨rfl,rfl⟩,fun b z=>absurd z (noA b),e0.bs,e0.bsz,fun b _ _=>noA b,fun b z=>absurd z (noA b),e0.funs,e0.frf⟩,
  rfl,e0.bare,Un.kept hk,⟨_,x.toInCall.ns,fun i y v h1 h2 h3=>?_⟩,fun y c h=>⟨_,x.cell y c h⟩,e0.hok.fresh (y0o _),fun y c h=>?_,fun p hp=>absurd (show p∈([]:List (Addr×Obj)) from hp) (by simp),e0.hok.kept hk,?_⟩
 ·exact name_of_addr x.apart (y2h h1) (y2h h2)
 ·have hy:scope.names.lookup y=some .cell\/scope.names.lookup y=some .free:=hy
  rcases hy with hy|hy
  ·exact zlz hy
  ·exact absurd rfl (S.nofree _ (y2h hy))
 ·exact Nat.le_of_lt (x.above y c (y2h h))
 ·have hi:i<vs.length:=by
   unfold start at h2
   by_cases hi:i<vs.length
   ·exact hi
   ·rw[y1n (by simpa using hi)] at h2
    rw[List.getElem?_replicate] at h2
    split at h2 <;> cases h2
  have ha:vs[i]?=some v:=by
   unfold start at h2
   rw[y1q (by simpa using hi),y15] at h2
   cases e:vs[i]? with
   | none=>rw[e] at h2;cases h2
   | some a=>rw[e] at h2;cases h2;rfl
  obtain⟨u,hu,rv⟩:=r.get ha
  have hp:ps[i]?=some y:=by
   rw[<- S.pre,List.getElem?_take_of_lt (by omega)];exact h1
  have ndP:ps.Nodup:=by rw[<- S.pre];exact S.nd.sublist (List.take_sublist _ _)
  refine⟨u,rv,?_⟩
  rcases S.par y (y1y hp) with k|k
  ·exact .inl ⟨k,zja ndP hp hu k⟩
  ·obtain⟨c,e⟩:=zlz (n:=s.heap.objs.size+1) k
   refine .inr ⟨.inl k,c,e,?_⟩
   have q:=x.cell y c e
   rw[zjc ndP hp hu (by show scope.names.lookup y≠_;rw[k];decide)] at q
   exact q
 ·exact e0.hok.fresh (Nat.le_of_lt (x.above y c (y2h h)))
 ·unfold start
  show _=N.length
  rw[y27,y14,List.length_replicate]
  omega
theorem zz2 {CX:CXT} {P:y0q} {w:World} {K:y00} {mg:Str->Option Value} {base:Heap} {k:Nat} {f:Addr} {name qual:Str} {params:Arguments} {body:List Stmt} {scope:Scope} {dV kV doc pm cdv ct oc:Value} {an od:Option Addr}
  {osl:Array (Option Value)} {N ps:List Str} {sp:Sp} (lk:K.lookup f=some ⟨oc,od,.func (y0i name qual params body scope dV kV doc pm an cdv ct),osl⟩) (hcd:PySem.W.codeIn K cdv qual=true) (S:FnScope N ps scope)
  (len:∀vs H Q E,sp vs H Q E->vs.length=ps.length)
  (hbody:∀(A:Around) (outer:List Env) (s:y04) (H:Hp) (vs:List V) (Q:VK) (E:XK),Room k (A.deeper (envOfC qual scope s.heap.objs.size f cdv))->sp vs H Q E ->
   ∃t,PSs (cxOf CX P w K mg base N qual scope f cdv A outer s H E) body t/\t { nx:=fun _ H'=>Q .non H',rt:=Q } (start N vs) H) :
  FnOk P w K mg base CX (k+1) f (y0i name qual params body scope dV kV doc pm an cdv ct) ps sp:=by
 refine⟨len,fun A outer s H args us vs Q E hr e0 hb r hsp=>?_⟩
 have hl:=len _ _ _ _ hsp
 have KX:K.In s.heap:=e0.mod.kin.keeps fun b o e=>(e0.bs b o e).1
 have lim:s.heap.NoLimit:=e0.mod.nolimit.keeps fun b o e=>(e0.bs b o e).1
 have hkind:∀y∈ps.zip us,scope.names.lookup y.1=some .local\/(scope.names.lookup y.1=some .cell/\((cellsFrom (s.heap.objs.size+1) scope.names []).lookup y.1).isSome=true):=fun⟨n,v⟩ hy=>by
  rcases S.par n (List.of_mem_zip hy).1 with q|q
  ·exact .inl q
  ·exact .inr ⟨q,PySem.W.cellsFrom_some _ _ _ (.inl q)⟩
 refine codeAny_call_function hr.depth (KX _ _ lk) rfl S.co S.gen rfl (PySem.W.codeRec_of KX hcd) (hb _ _ _ _ ?_)
 refine wpAny_newFunctionEnv_cells S.kind hkind fun env he s1 x=>?_
 subst he
 refine⟨lim.keeps x.toInCall.keep,codeAny_func ?_⟩
 obtain⟨t,ht,hq⟩:=hbody A outer s H vs Q E (hr.deeper _) hsp
 have I:Inv (cxOf CX P w K mg base N qual scope f cdv A outer s H E) [] (start N vs) H s1:=zpd S hr.hd e0 hl r x
 refine y1e (ht [] s1 (start N vs) H _ I hq) (fun fl s' hs=>?_) fun e s' hs=>hs
 have fin:∀{σ':St} {H':Hp} {v:V} {u:Value},Inv (cxOf CX P w K mg base N qual scope f cdv A outer s H E) [] σ' H' s'->RelV v u->Q v H'->CE outer P w H s Q u s' :=
  fun {σ' H' v u} J rv q=>⟨v,H',J.os,J.bare,J.base,J.hok,rv,q⟩
 cases fl with
 | ret u =>
  obtain⟨v,σ',H',J,rv,q⟩:=hs
  exact fin J rv q
 | next =>
  obtain⟨σ',H',J,q⟩:=hs
  exact fin (v:=V.non) (u:=Value.none) J rfl q
 | brk =>
  obtain⟨_,_,_,q⟩:=hs
  exact y21 q
 | cont =>
  obtain⟨_,_,_,q⟩:=hs
  exact y21 q
end L2
namespace L2
open PySem PySem.Spec PyProof.Rows
section
variable {X:Cx} {x:Str} {p pos:Pos} {e:Expr} {es:List Expr} {t:TA} {id T:String} {r:List V->Hp->VK->Prop}
def tCB (r:List V->Hp->VK->Prop) (t:TA):TE:=fun σ H Q=>t σ H fun vs H1=>r vs H1 Q
theorem zcr (hc:zac X (.builtin id) r) (hg:Gl X x) (hm:X.mg x=none) (hv:bootBuiltins x=some (.builtin id)) (ha:PA X (e::es) t) (hn:x≠"__name__":=by decide) (hdb:(x == ("__debug__":Str))=false:=by decide)
  (he:y0a (e::es) X.env=(false,eval e X.env)::y0a es X.env:=by rfl) (hpl:(backTo pos (y0a es X.env)).any (·.1)=false:=by rfl):PE X (.Call (.Name x p) (e::es) [] pos) (tCB r t):=by
 intro pins s σ H Q I h
 refine wpAny_Call_Name_kw (zcd I hg hm hv ?_ hn hdb)
 exact PyProof.Rows.callWith_builtin1 (thn (ha pos pins s σ H _ I h) fun us s1 ⟨vs,H1,I1,r1,q1⟩=>hc pins s1 σ H1 vs us Q I1 r1 q1) he hpl
theorem zau (hc:zac X (.type T) r) (hg:Gl X x) (hm:X.mg x=none) (hv:bootBuiltins x=some (.type T)) (ha:PA X (e::es) t) (hn:x≠"__name__":=by decide) (hdb:(x == ("__debug__":Str))=false:=by decide)
  (he:y0a (e::es) X.env=(false,eval e X.env)::y0a es X.env:=by rfl) (hpl:(backTo pos (y0a es X.env)).any (·.1)=false:=by rfl):PE X (.Call (.Name x p) (e::es) [] pos) (tCB r t):=by
 intro pins s σ H Q I h
 refine wpAny_Call_Name_kw (zcd I hg hm hv ?_ hn hdb)
 exact y1w (thn (ha pos pins s σ H _ I h) fun us s1 ⟨vs,H1,I1,r1,q1⟩=>hc pins s1 σ H1 vs us Q I1 r1 q1) he hpl
end
end L2
namespace HT
open PySem PyProof.Rows
section
open PySem.SeqAt
open PySem.AutoSeq1 (wpAny_loadPart')
open PySem.MeetsSeq PySem.MeetsSeq2 PySem.MeetsSeq3
end
section
variable {prog:y0q} {w:World} {A:Around} {E:Value->y04->Prop} {s:y04}
theorem cat_tup {t b:Addr} {vs ws:List Value} {Q:Value->y04->Prop} (ht:IsTup s.heap t vs.toArray) (hb:IsTup s.heap b ws.toArray) (hv:vs≠[])
  (h1:ws=[]->Q (.ref t) s) (h2:ws≠[]->Q (.ref s.heap.objs.size) { s with heap:=s.heap.push { cls:=.type "tuple",data:=.seq (vs++ws).toArray } })
  (hsz:vs.length+ws.length<=y0j):y0u (model prog w) A (binaryOp .Add (.ref t) (.ref b)) Q E s:=by
 obtain⟨⟨cls,dd,data,sl⟩,ho,hc,n,hd⟩:=id ht
 obtain⟨⟨cls2,dd2,data2,sl2⟩,ho2,hc2,n2,hd2⟩:=id hb
 simp only at hc hd hc2 hd2
 subst hc hd hc2 hd2
 have e:vs.toArray++ws.toArray=(vs++ws).toArray:=by simp
 by_cases hw:ws=[]
 ·exact concat_meets ⟨_,ho,rfl⟩ ⟨_,ho2,rfl⟩ noFill_tuple_add seq_tuple_add PySem.F.slot_tuple_add PySem.F.entry_tuple_add (PySem.F.args_tuple_add_2 _ _)
   (tuple_addW1 t b vs.toArray ws.toArray n n2 dd dd2 sl sl2 (by simpa using hv) (by simp[hw])) ⟨ho,ho2,h1 hw⟩
 ·refine concat_meets ⟨_,ho,rfl⟩ ⟨_,ho2,rfl⟩ noFill_tuple_add seq_tuple_add PySem.F.slot_tuple_add PySem.F.entry_tuple_add (PySem.F.args_tuple_add_2 _ _)
   (tuple_addW2 t b vs.toArray ws.toArray n n2 dd dd2 sl sl2 (by simpa using hv) (by simpa using hw) (by rw[y0h,y0h];exact hsz)) ⟨ho,ho2,?_⟩
  rw[e]
  exact h2 hw
noncomputable def sIx (n d:Nat):Option Int->Nat
 | none=>d
 | some v=>if v<0 then (v+(n:Int)).toNat else min v.toNat n
theorem zwh (n d:Nat) (hd:d<=n) (o:Option Int):sIx n d o<=n:=by
 cases o with
 | none=>exact hd
 | some v =>
  show (if v<0 then (v+(n:Int)).toNat else min v.toNat n)<=n
  by_cases hv:v<0
  ·rw[if_pos hv];omega
  ·rw[if_neg hv];exact Nat.min_le_right _ _
theorem zq4 (v:Int) (n d:Nat):(if v<0 then max (v+(n:Int)) 0 else min v (n:Int))=((sIx n d (some v):Nat):Int):=by
 show (if v<0 then max (v+(n:Int)) 0 else min v (n:Int))=(((if v<0 then (v+(n:Int)).toNat else min v.toNat n):Nat):Int)
 by_cases hv:v<0
 ·simp only[if_pos hv];omega
 ·simp only[if_neg hv];omega
theorem znj (lo hi:Option Int) (n:Nat):Builtin.Slice.sliceAdjust lo hi 1 (n:Int)=(((sIx n 0 lo:Nat):Int),((sIx n n hi:Nat):Int)):=by
 have h1:¬((1:Int)<0):=by omega
 unfold Builtin.Slice.sliceAdjust
 simp only[h1,if_false]
 refine Prod.ext ?_ ?_
 ·cases lo with
  | none=>rfl
  | some v=>exact zq4 v n 0
 ·cases hi with
  | none=>rfl
  | some v=>exact zq4 v n n
theorem zmk (i j:Nat):y1k (i:Int) (j:Int) 1=j - i:=by
 unfold y1k
 have h1:(1:Int) > 0:=by omega
 simp only[h1,if_true,Int.ediv_one]
 split <;> omega
theorem zew {v:Value} {o:Option Int} {Q:Option Int->y04->Prop} (p:IsPart v o) (h:Q o s):y0u (model prog w) A (Builtin.Slice.slicePartIndex v) Q E s:=by
 cases p with
 | none=>exact slicePart_none h
 | int i t=>exact slicePart_int h
theorem sliceApplied_gen {sl:Addr} {vl vu:Value} {lo hi:Option Int} {n:Nat} {Q:Int×Int×Nat->y04->Prop} (hs:s.heap.IsSliceOf sl vl vu .none) (pl:IsPart vl lo) (pu:IsPart vu hi)
  (h:Q (((sIx n 0 lo:Nat):Int),1,sIx n n hi - sIx n 0 lo) s):y0u (model prog w) A (Builtin.Slice.sliceApplied (.ref sl) (pure (n:Int))) Q E s:=by
 obtain⟨os,hos,hcs,hds⟩:=id hs
 unfold Builtin.Slice.sliceApplied Builtin.Slice.sliceFields
 refine y02 (y02 (wpAny_field hos hds (x:=vl) rfl (y02 (wpAny_field hos hds (x:=vu) rfl (y02 (wpAny_field hos hds (x:=.none) rfl (y06 ?_)))))))
 refine y02 (slicePart_none ?_)
 show y0u _ _ (if ((1:Int) == 0)=true then _ else _) _ _ s
 rw[if_neg (by decide)]
 refine y02 (zew pl (y02 (zew pu (y02 (y06 ?_)))))
 show y0u _ _ (match Builtin.Slice.sliceAdjust lo hi 1 (n:Int) with|(lo,hi)=>pure (lo,(1:Int),y1k lo hi 1)) _ _ s
 rw[znj lo hi n]
 show y0u _ _ (pure (((sIx n 0 lo:Nat):Int),(1:Int),y1k ((sIx n 0 lo:Nat):Int) ((sIx n n hi:Nat):Int) 1)) _ _ s
 rw[zmk]
 exact y06 h
theorem zrj (xs:Array Value) (i k:Nat):((List.range k).filterMap fun (m:Nat)=>xs[((i:Int)+(m:Int)*1).toNat]?).toArray=((xs.toList.drop i).take k).toArray:=by
 have e:(fun (m:Nat)=>xs[((i:Int)+(m:Int)*1).toNat]?)=fun m=>xs[i+m]?:=by
  funext m
  have:((i:Int)+(m:Int)*1).toNat=i+m:=by omega
  rw[this]
 rw[e]
 have:=pick_run xs i k
 rw[List.filterMap_map] at this
 have e2:((fun x=>xs[x]?) ∘ fun x=>i+x)=fun m=>xs[i+m]?:=rfl
 rw[e2] at this
 rw[this]
theorem getItem_tuple_cut {t sl:Addr} {items:Array Value} {vl vu:Value} {lo hi:Option Int} {Q:Value->y04->Prop} (ht:IsTup s.heap t items) (hs:s.heap.IsSliceOf sl vl vu .none) (pl:IsPart vl lo) (pu:IsPart vu hi)
  (hw:¬(sIx items.size 0 lo=0/\sIx items.size items.size hi=items.size))
  (h:Q (.ref s.heap.objs.size) { s with heap:=s.heap.push { cls:=.type "tuple",data:=.seq ((items.toList.drop (sIx items.size 0 lo)).take (sIx items.size items.size hi - sIx items.size 0 lo)).toArray } })
  (hsz:items.size<=y0j):y0u (model prog w) A (getItem (.ref t) (.ref sl)) Q E s:=by
 have htake:sizeOk (.seq ((items.toList.drop (sIx items.size 0 lo)).take (sIx items.size items.size hi - sIx items.size 0 lo)).toArray):=by
  show ((items.toList.drop (sIx items.size 0 lo)).take (sIx items.size items.size hi - sIx items.size 0 lo)).toArray.size<=y0j
  rw[y0h,List.length_take,List.length_drop,y24]
  omega
 have hj:sIx items.size items.size hi<=items.size:=zwh _ _ (y0o _) hi
 obtain⟨os,hos,hcs,hds⟩:=id hs
 have hTs:s.TypeIs (.ref sl) "slice":=⟨os,hos,hcs⟩
 unfold getItem
 try with_reducible refine wpAny_holding ?_
 first|refine y02 (y06 ?_)|skip
 refine y02 (wpAny_sequenceKey ht.typeIs (by decide) ?_)
 refine y02 (wpAny_callSpecial?_slot (name:=Str.ofString "__getitem__") ht.typeIs y1i
  (wpAny_call_entry y1i ht.typeIs entry_tuple_getitem ?_ (args_tuple_getitem _ _)))
 show y0u _ _ (Builtin.Tuple.tupleItemsOf (.ref t) >>= _) _ _ s
 refine y02 (tupleItemsOf_ ht ?_)
 refine y02 (wpAny_typeOf hTs ?_)
 rw[if_pos (by decide)]
 refine y02 (sliceApplied_gen hs pl pu ?_)
 have hno:¬((((sIx items.size 0 lo:Nat):Int) == 0 && (1:Int) == 1 && (sIx items.size items.size hi - sIx items.size 0 lo) == items.size)=true):=by
  intro q
  rw[y1c,y1c] at q
  have q1:((sIx items.size 0 lo:Nat):Int)=0:=eq_of_beq q.1.1
  have q2:sIx items.size items.size hi - sIx items.size 0 lo=items.size:=eq_of_beq q.2
  exact hw ⟨by omega,by omega⟩
 show y0u _ _ (if (((sIx items.size 0 lo:Nat):Int) == 0 && (1:Int) == 1 && (sIx items.size items.size hi - sIx items.size 0 lo) == items.size)=true then _ else _) _ _ s
 rw[if_neg hno,zrj]
 first
  | exact y02 (m:=y13 _) (wpAny_newObj_type (y06 ⟨_,rfl,y06 h⟩) htake)
  | exact y02 (m:=y13 _) (wpAny_newObj_type (y02 (y06 (y06 ⟨_,rfl,y06 h⟩))) htake)
  | exact y02 (y02 (m:=y13 _) (wpAny_newObj_type (y06 (y06 ⟨_,rfl,y06 h⟩)) htake))
  | exact y02 (y02 (m:=y13 _) (wpAny_newObj_type (y06 ⟨_,rfl,y06 h⟩) htake))
end
end HT
namespace L2
open PySem PySem.Spec PyProof.Rows
abbrev TO:=St->Hp->(Option Int->Hp->Prop)->Prop
noncomputable def PO (X:Cx) (e:Option Expr) (t:TO):Prop :=
 ∀(pins:List (Addr×Obj)) (s:y04) (σ:St) (H:Hp) (Q:Option Int->Hp->Prop),Inv X pins σ H s->t σ H Q ->
  y0u (model X.prog X.w) X.A (evalPart e X.env) (fun u s'=>∃o H',Inv X pins σ H' s'/\IsPart u o/\Q o H') X.xe s
def zu4:TO:=fun _ H Q=>Q none H
def zy6 (t:TE):TO:=fun σ H Q=>t σ H fun x H1=>∃i,x=.int i/\Q (some i) H1
section
variable {X:Cx} {e:Expr} {te:TE} {lo hi:Option Expr} {tl th:TO} {pos p2:Pos}
theorem zur:PO X none zu4:=by
 intro pins s σ H Q I h
 rw[evalPart_none]
 exact y06 ⟨none,H,I,.none,h⟩
theorem zuq (h:PE X e te):PO X (some e) (zy6 te):=by
 intro pins s σ H Q I hw
 rw[evalPart_some]
 refine thn (h pins s σ H _ I hw) fun u s1 ⟨x,H1,I1,r1,q1⟩=>?_
 obtain⟨i,rfl,q⟩:=q1
 obtain⟨t,rfl⟩:=r1
 exact⟨some i,H1,I1,.int i t,q⟩
noncomputable def SlR (X:Cx) (r:V->Option Int->Option Int->Hp->VK->Prop):Prop :=
 ∀(pins:List (Addr×Obj)) (s:y04) (σ:St) (H:Hp) (x:V) (v vl vu:Value) (lo hi:Option Int) (sl:Addr) (Q:VK),Inv X pins σ H s->RelV x v->s.heap.IsSliceOf sl vl vu .none->IsPart vl lo->IsPart vu hi->r x lo hi H Q ->
  ∃T id,typeLookup (.type T) "__getitem__"=pure (some (.builtin id))/\s.TypeIs v T/\y0u (model X.prog X.w) X.A (getItem v (.ref sl)) (EP X pins σ Q) X.xe s
theorem SlR.or {r r':V->Option Int->Option Int->Hp->VK->Prop} (h:SlR X r) (h':SlR X r'):SlR X (fun x lo hi H Q=>r x lo hi H Q\/r' x lo hi H Q):=by
 intro pins s σ H x v vl vu lo hi sl Q I rx hs pl pu q
 rcases q with q|q
 ·exact h pins s σ H x v vl vu lo hi sl Q I rx hs pl pu q
 ·exact h' pins s σ H x v vl vu lo hi sl Q I rx hs pl pu q
noncomputable def tSl (r:V->Option Int->Option Int->Hp->VK->Prop) (te:TE) (tl th:TO):TE:=fun σ H Q=>te σ H fun x H1=>tl σ H1 fun l H2=>th σ H2 fun u H3=>r x l u H3 Q
theorem zrm {r:V->Option Int->Option Int->Hp->VK->Prop} (hr:SlR X r) (he:PE X e te) (hl:PO X lo tl) (hu:PO X hi th):PE X (.Subscript e (.Slice lo hi none p2) pos) (tSl r te tl th):=by
 intro pins s σ H Q I h
 refine Subscript_ (thn (he pins s σ H _ I h) fun v s1 ⟨x,H1,I1,r1,q1⟩=>?_)
 refine wpAny_Slice (thn (hl pins s1 σ H1 _ I1 q1) fun vl s2 ⟨l,H2,I2,pl,q2⟩=>thn (hu pins s2 σ H2 _ I2 q2) fun vu s3 ⟨u,H3,I3,pu,q3⟩=>?_)
 rw[evalPart_none]
 refine y06 ?_
 have I4:Inv X pins σ H3 { s3 with heap:=s3.heap.push { cls:=.type "slice",data:=.fields #[vl,vu,.none] } }:=I3.kept (t':=s3.toks) fun b ob q=>y03 _ q
 obtain⟨T,id,hT,ht,hg⟩:=hr pins { s3 with heap:=s3.heap.push { cls:=.type "slice",data:=.fields #[vl,vu,.none] } } σ H3 x v vl vu l u s3.heap.objs.size Q I4 r1 (Heap.IsSliceOf.new ..) pl pu q3
 show y0u (model X.prog X.w) X.A (subscriptTail e (.Slice lo hi none p2) v (.ref s3.heap.objs.size)) (EP X pins σ Q) X.xe { s3 with heap:=s3.heap.push { cls:=.type "slice",data:=.fields #[vl,vu,.none] } }
 exact tail_any (ops:=[.ref s3.heap.objs.size,v]) ht hT hg (by with_unfolding_all rfl)
noncomputable def cutV (xs:List V) (lo hi:Option Int):List V:=(xs.drop (HT.sIx xs.length 0 lo)).take (HT.sIx xs.length xs.length hi - HT.sIx xs.length 0 lo)
theorem ze9 (xs:List V) (lo hi:Option Int):(cutV xs lo hi).length<=xs.length:=by
 unfold cutV
 rw[List.length_take,List.length_drop]
 omega
noncomputable def rSlT (K:y00):V->Option Int->Option Int->Hp->VK->Prop:=fun x lo hi H Q=>∃a xs,x=.ref a/\SqT K H a xs /\
 ¬(HT.sIx xs.length 0 lo=0/\HT.sIx xs.length xs.length hi=xs.length)/\∀p,H p=none->Q (.ref p) (upd H p (.tup (cutV xs lo hi)))
theorem zwa:SlR X (rSlT X.K):=by
 intro pins s σ H x v vl vu lo hi sl Q I rx hs pl pu h
 obtain⟨a,xs,rfl,hx,hw,q⟩:=h
 cases rx
 obtain⟨its,r,ht,hz⟩:=I.tuple hx
 have hlen:its.toArray.size=xs.length:=by rw[y0h];exact r.length.symm
 refine⟨"tuple",_,PyProof.Rows.slot_tuple_getitem.lookup,ht.typeIs,?_⟩
 refine HT.getItem_tuple_cut ht hs pl pu (by rw[hlen];exact hw) ?_ (by rw[hlen];exact hz)
 rw[hlen]
 refine⟨.ref s.heap.objs.size,_,I.laid (t':=s.toks) (o:=.tup (cutV xs lo hi)) (fun b ob q=>y03 _ q) (y0o _) ?_,rfl,q _ (I.hok.fresh (y0o _))⟩
 exact⟨y1s (ze9 xs lo hi) hz,_,(r.drop (HT.sIx xs.length 0 lo)).take (HT.sIx xs.length xs.length hi - HT.sIx xs.length 0 lo),IsTup.new _ _⟩
noncomputable def zyj (K:y00):R2:=fun x y H Q=>∃a b xs ys,x=.ref a/\y=.ref b/\SqT K H a xs/\SqT K H b ys/\xs≠[]/\xs.length+ys.length<=y0j /\
 (ys=[]->Q (.ref a) H)/\(ys≠[]->∀p,H p=none->Q (.ref p) (upd H p (.tup (xs++ys))))
theorem Vals.nil_iff {xs:List V} {us:List Value} (r:Vals xs us):us=[] <-> xs=[]:=by
 cases r with
 | nil=>simp
 | cons _ _=>simp
theorem zv5:OpR X (binaryOp .Add) (zyj X.K):=by
 intro pins s σ H x y v u Q I rx ry h
 obtain⟨a,b,xs,ys,rfl,rfl,ha,hb,hx,hz,q1,q2⟩:=h
 cases rx
 cases ry
 obtain⟨its,r1,p1,_⟩:=I.tuple ha
 obtain⟨its2,r2,p2,_⟩:=I.tuple hb
 refine HT.cat_tup p1 p2 (fun z=>hx (r1.nil_iff.mp z)) (fun z=>⟨.ref a,H,I,rfl,q1 (r2.nil_iff.mp z)⟩) (fun z=>?_) (by rw[<- r1.length,<- r2.length];exact hz)
 refine⟨.ref s.heap.objs.size,_,I.laid (t':=s.toks) (o:=.tup (xs++ys)) (fun b ob q=>y03 _ q) (y0o _) ?_,rfl,q2 (fun w=>z (r2.nil_iff.mpr w)) _ (I.hok.fresh (y0o _))⟩
 exact⟨by rw[y27];exact hz,_,r1.append r2,IsTup.new _ _⟩
end
end L2
namespace L2
open PySem PySem.Spec PyProof.Rows
noncomputable def ixN (n:Nat) (i:Int):Option Nat:=if 0<=i then (if i<n then some i.toNat else none) else if -(n:Int)<=i then some (i+n).toNat else none
def atI {α:Type} (xs:List α) (i:Int):Option α:=(ixN xs.length i).bind fun j=>xs[j]?
theorem zvi {n:Nat} {i:Int} {j:Nat} (h:ixN n i=some j):seqIndex? i n=some j/\j<n/\-(n:Int)<=i/\i<n:=by
 unfold ixN at h
 by_cases h0:0<=i
 ·rw[if_pos h0] at h
  by_cases h1:i<n
  ·rw[if_pos h1] at h
   have e:i.toNat=j:=y2k h
   exact⟨by rw[seqIndex_of h0 h1,e],by omega,by omega,h1⟩
  ·rw[if_neg h1] at h;cases h
 ·rw[if_neg h0] at h
  by_cases h1:-(n:Int)<=i
  ·rw[if_pos h1] at h
   have e:(i+n).toNat=j:=y2k h
   exact⟨by rw[seqIndex_neg (by omega) h1,e],by omega,h1,by omega⟩
  ·rw[if_neg h1] at h;cases h
theorem zku {α:Type} {xs:List α} {i:Int} {v:α} (h:atI xs i=some v):∃j,seqIndex? i xs.length=some j/\xs[j]?=some v/\j<xs.length/\-(xs.length:Int)<=i/\i<xs.length:=by
 unfold atI at h
 cases e:ixN xs.length i with
 | none=>rw[e] at h;cases h
 | some j =>
  rw[e] at h
  obtain⟨h1,h2,h3,h4⟩:=zvi e
  exact⟨j,h1,h,h2,h3,h4⟩
def zqn (b:Expr):Prop:=∀o i,subscripted b false o i=operate [o,i] (getItem o i)
noncomputable def IxR (X:Cx) (r:R2):Prop :=
 ∀(value slice:Expr) (pins:List (Addr×Obj)) (s:y04) (σ:St) (H:Hp) (x y:V) (v u:Value) (Q:VK),Inv X pins σ H s->RelV x v->RelV y u->r x y H Q ->
  subscripted slice false v u=operate [v,u] (getItem v u)->y0u (model X.prog X.w) X.A (subscriptTail value slice v u) (EP X pins σ Q) X.xe s
noncomputable def MtR (X:Cx) (id:String) (r:V->List V->Hp->VK->Prop):Prop :=
 ∀(pins:List (Addr×Obj)) (s:y04) (σ:St) (H:Hp) (x:V) (xs:List V) (v:Value) (us:List Value) (Q:VK),Inv X pins σ H s->RelV x v->Vals xs us->r x xs H Q ->
  y0u (model X.prog X.w) X.A (call (.builtin id) (v::us)) (EP X pins σ Q) X.xe s
section
variable {X:Cx} {a b:Expr} {ta tb:TE} {pos:Pos}
theorem IxR.or {r r':R2} (h:IxR X r) (h':IxR X r'):IxR X (fun x y H Q=>r x y H Q\/r' x y H Q):=by
 intro value slice pins s σ H x y v u Q I rx ry q hs
 rcases q with q|q
 ·exact h value slice pins s σ H x y v u Q I rx ry q hs
 ·exact h' value slice pins s σ H x y v u Q I rx ry q hs
theorem zyu {r:R2} (hr:IxR X r) (ha:PE X a ta) (hb:PE X b tb) (hs:zqn b):PE X (.Subscript a b pos) (tOp r ta tb):=by
 intro pins s σ H Q I h
 exact Subscript_ (binT ha hb I h fun v u s2 x y H2 I2 rx ry q=>hr a b pins s2 σ H2 x y v u Q I2 rx ry q (hs _ _))
noncomputable def rIxL (K:y00):R2:=fun x y H Q=>∃p xs i v,x=.ref p/\y=.int i/\SqL K H p xs/\atI xs i=some v/\Q v H
noncomputable def rIxT (K:y00):R2:=fun x y H Q=>∃p xs i v,x=.ref p/\y=.int i/\SqT K H p xs/\atI xs i=some v/\Q v H
noncomputable def rIxS:R2:=fun x y H Q=>∃z i c,x=.str z/\y=.int i/\z.length<=y0j/\atI z.cps.toList i=some c/\Q (.str ⟨#[c]⟩) H
theorem zvg:IxR X (rIxL X.K):=by
 intro value slice pins s σ H x y v u Q I rx ry h hs
 obtain⟨p,xs,i,z,rfl,rfl,hq,he,q⟩:=h
 cases rx
 obtain⟨t,rfl⟩:=ry
 obtain⟨its,r,pl,hz⟩:=I.list hq
 obtain⟨j,h1,h2,h3,h4,h5⟩:=zku he
 obtain⟨w,ew,rw'⟩:=r.get h2
 have hl:=r.length
 have hn:=zfl
 have fin:EP X pins σ Q w s:=⟨z,H,I,rw',q⟩
 by_cases h0:0<=i
 ·have hj:i.toNat=j:=by
   rw[seqIndex_of h0 h5] at h1
   exact y2k h1
  exact item_listR pl.isList h0 (by omega) (by rw[hj];simpa using ew) fin hs
 ·have hj:(i+(its.toArray.size:Int)).toNat=j:=by
   rw[seqIndex_neg (by omega) h4] at h1
   rw[y0h,<- hl]
   exact y2k h1
  exact subscriptTail_builtinR (x:=w) pl.isList.typeIs slot_list_getitem.lookup
   (wpAny_getItem_list_neg (Q:=fun r s'=>r=w/\EP X pins σ Q r s') pl.isList (by omega) (by rw[y0h] <;> omega) (by omega) (by rw[hj];simpa using ew) ⟨rfl,fin⟩) hs
theorem zxm:IxR X (rIxT X.K):=by
 intro value slice pins s σ H x y v u Q I rx ry h hs
 obtain⟨p,xs,i,z,rfl,rfl,hq,he,q⟩:=h
 cases rx
 obtain⟨t,rfl⟩:=ry
 obtain⟨its,r,pl,hz⟩:=I.tuple hq
 obtain⟨j,h1,h2,h3,h4,h5⟩:=zku he
 obtain⟨w,ew,rw'⟩:=r.get h2
 have hl:=r.length
 have hn:=zfl
 have fin:EP X pins σ Q w s:=⟨z,H,I,rw',q⟩
 exact subscriptTail_builtinR (x:=w) pl.typeIs slot_tuple_getitem.lookup
  (getItem_tuple (j:=j) (Q:=fun r s'=>r=w/\EP X pins σ Q r s') pl (by omega) (by omega) (by rw[y0h,<- hl];exact h1) (by simpa using ew) ⟨rfl,fin⟩) hs
theorem zxn:IxR X rIxS:=by
 intro value slice pins s σ H x y v u Q I rx ry h hs
 obtain⟨z,i,c,rfl,rfl,hz,he,q⟩:=h
 obtain⟨t,rfl⟩:=rx
 obtain⟨t',rfl⟩:=ry
 obtain⟨j,h1,h2,h3,h4,h5⟩:=zku he
 have hl:z.cps.toList.length=z.length:=by simp[Str.length]
 rw[hl] at h1 h4 h5
 have hn:=zfl
 exact tail_any (typeIs_str s z t) slot_str_getitem.lookup (getItem_str (c:=c) (by
  have e1:decide (i < -(2 ^ 63:Int))=false:=decide_eq_false (by omega)
  have e2:decide (i >= 2 ^ 63)=false:=decide_eq_false (by omega)
  rw[e1,e2,Bool.or_false]) (by rw[h1];simpa using h2) ⟨.str ⟨#[c]⟩,H,I.tok _,⟨_,rfl⟩,q⟩) hs
def rIx (K:y00):R2:=fun x y H Q=>rIxL K x y H Q\/rIxT K x y H Q\/rIxS x y H Q
theorem zxo:IxR X (rIx X.K):=zvg.or (zxm.or zxn)
theorem zhn (lo hi:Option Int) (n:Nat):(sliceBounds lo hi none n).1=((HT.sIx n 0 lo:Nat):Int)/\(sliceBounds lo hi none n).2.1=((HT.sIx n n hi:Nat):Int)/\(sliceBounds lo hi none n).2.2=1:=by
 refine⟨?_,?_,rfl⟩
 ·cases lo with
  | none=>simp[sliceBounds,HT.sIx]
  | some i =>
   simp only[sliceBounds,HT.sIx,Option.getD_none,show (1:Int) > 0 by decide,if_true]
   by_cases h:i<0
   ·simp only[h,if_true] <;> omega
   ·simp only[h,if_false] <;> omega
 ·cases hi with
  | none=>simp[sliceBounds,HT.sIx]
  | some i =>
   simp only[sliceBounds,HT.sIx,Option.getD_none,show (1:Int) > 0 by decide,if_true]
   by_cases h:i<0
   ·simp only[h,if_true] <;> omega
   ·simp only[h,if_false] <;> omega
theorem zgb (its:List Value) (lo hi:Option Int):slicePick its.toArray lo hi none=((its.drop (HT.sIx its.length 0 lo)).take (HT.sIx its.length its.length hi - HT.sIx its.length 0 lo)).toArray:=by
 obtain⟨h1,h2,h3⟩:=zhn lo hi its.toArray.size
 unfold slicePick
 rw[h1,h2,h3]
 simp only[sliceRange_one,pick_run,y0h] <;> rfl
noncomputable def rSlL (K:y00):V->Option Int->Option Int->Hp->VK->Prop:=fun x lo hi H Q=>∃a xs,x=.ref a/\SqL K H a xs/\∀p,H p=none->Q (.ref p) (upd H p (.lst (cutV xs lo hi)))
theorem zu7:SlR X (rSlL X.K):=by
 intro pins s σ H x v vl vu lo hi sl Q I rx hs pl pu h
 obtain⟨a,xs,rfl,hx,q⟩:=h
 cases rx
 obtain⟨its,r,ht,hz⟩:=I.list hx
 have hlen:=r.length
 refine⟨"list",_,slot_list_getitem.lookup,ht.isList.typeIs,?_⟩
 refine wpAny_getItem_list_slice ht.isList hs pl pu .none (by simp) ?_ (by rw[y0h] <;> omega)
 rw[zgb,<- hlen]
 refine⟨.ref s.heap.objs.size,_,I.laid (t':=s.toks) (o:=.lst (cutV xs lo hi)) (fun b ob q=>y03 _ q) (y0o _) ?_,rfl,q _ (I.hok.fresh (y0o _))⟩
 exact⟨y1s (ze9 xs lo hi) hz,_,0,(r.drop (HT.sIx xs.length 0 lo)).take (HT.sIx xs.length xs.length hi - HT.sIx xs.length 0 lo),y0l _ rfl⟩
theorem zj6:zac X (.builtin "len") (fun xs H Q=>∃p ys,xs=[.ref p]/\(SqL X.K H p ys\/SqT X.K H p ys)/\Q (.int ys.length) H):=by
 intro pins s σ H xs us Q I r h
 obtain⟨p,ys,rfl,hq,q⟩:=h
 obtain⟨u,rfl,rx⟩:=zhg r
 cases rx
 have hn:=zfl
 rcases hq with hq|hq
 ·obtain⟨its,r',pl,hz⟩:=I.list hq
  have hlen:=r'.length
  exact Calls.call_len_list pl.isList (by simp only[y0h] <;> omega) ⟨.int ys.length,H,I.tok _,⟨s.toks+1,by rw[y0h,hlen]⟩,q⟩
 ·obtain⟨its,r',pl,hz⟩:=I.tuple hq
  have hlen:=r'.length
  exact len_tuple pl (by simp only[y0h] <;> omega) ⟨.int ys.length,H,I.tok _,⟨s.toks+1,by rw[y0h,hlen]⟩,q⟩
theorem zj5:zac X (.builtin "len") (fun xs H Q=>∃z,xs=[.str z]/\z.length<=y0j/\Q (.int z.length) H):=by
 intro pins s σ H xs us Q I r h
 obtain⟨z,rfl,hz,q⟩:=h
 obtain⟨u,rfl,t,rfl⟩:=zhg r
 have hn:=zfl
 exact len_str (by omega) ⟨.int z.length,H,I.tok _,⟨_,rfl⟩,q⟩
theorem zac.or {f:Value} {r r':List V->Hp->VK->Prop} (h:zac X f r) (h':zac X f r'):zac X f (fun xs H Q=>r xs H Q\/r' xs H Q):=by
 intro pins s σ H xs us Q I rs q
 rcases q with q|q
 ·exact h pins s σ H xs us Q I rs q
 ·exact h' pins s σ H xs us Q I rs q
theorem zj4:zac X (.type "list") (fun xs H Q=>∃p ys,xs=[.ref p]/\(SqL X.K H p ys\/SqT X.K H p ys)/\∀l,H l=none->Q (.ref l) (upd H l (.lst ys))):=by
 intro pins s σ H xs us Q I r h
 obtain⟨p,ys,rfl,hq,q⟩:=h
 obtain⟨u,rfl,rx⟩:=zhg r
 cases rx
 have fin:∀(its:List Value),Vals ys its->ys.length<=y0j->∀(h':Heap) (c':Nat),(∀b o',s.heap.get? b=some o'->h'.get? b=some o') ->
   h'.get? s.heap.objs.size=some { cls:=.type "list",dict:=none,data:=.seq its.toArray c',slots:=#[] }->EP X pins σ Q (.ref s.heap.objs.size) { s with heap:=h' }:=fun its r' hz h' c' kp e =>
  ⟨.ref s.heap.objs.size,_,I.laid (t':=s.toks) kp (y0o _) (show z6j X.prog X.w _ h' _ (.lst ys) from ⟨hz,its,c',r',e⟩),rfl,q _ (I.hok.fresh (y0o _))⟩
 rcases hq with hq|hq
 ·obtain⟨its,r',pl,hz⟩:=I.list hq
  have hlen:=r'.length
  obtain⟨o,ho,hc,n,hd⟩:=pl.isList
  exact call_list_seq p (.inl rfl) ho hc hd (fun h' c' kp e=>fin its r' hz h' c' kp e) (by simp only[y0h] <;> omega)
 ·obtain⟨its,r',pl,hz⟩:=I.tuple hq
  have hlen:=r'.length
  obtain⟨o,ho,hc,n,hd⟩:=pl
  exact call_list_seq p (.inr rfl) ho hc hd (fun h' c' kp e=>fin its r' hz h' c' kp e) (by simp only[y0h] <;> omega)
theorem zh3:zac X (.type "tuple") (fun xs H Q=>∃p ys,xs=[.ref p]/\((SqL X.K H p ys/\∀l,H l=none->Q (.ref l) (upd H l (.tup ys)))\/(SqT X.K H p ys/\Q (.ref p) H))):=by
 intro pins s σ H xs us Q I r h
 obtain⟨p,ys,rfl,h⟩:=h
 obtain⟨u,rfl,rx⟩:=zhg r
 cases rx
 rcases h with ⟨hq,q⟩|⟨hq,q⟩
 ·obtain⟨its,r',pl,hz⟩:=I.list hq
  have hlen:=r'.length
  refine call_tuple_list pl.isList (fun h' kp=>?_) (by simp only[y0h] <;> omega)
  have I1:Inv X pins σ H { s with heap:=h' }:=I.kept (t':=s.toks) kp
  have I2:Inv X pins σ (upd H h'.objs.size (.tup ys)) { s with heap:=h'.push { cls:=.type "tuple",data:=.seq its.toArray } } :=
   I1.laid (t':=s.toks) (fun b o e=>y03 _ e) (y0o _) (show z6j X.prog X.w _ _ _ (.tup ys) from ⟨hz,its,r',IsTup.new _ _⟩)
  exact⟨.ref h'.objs.size,_,I2,rfl,q _ (I1.hok.fresh (y0o _))⟩
 ·obtain⟨its,r',pl,hz⟩:=I.tuple hq
  exact call_tuple_same pl ⟨.ref p,H,I,rfl,q⟩
noncomputable def tyV (K:y00) (T:String) (x:V) (H:Hp):Prop:=match x with
 | .str _=>T="str"
 | .int _=>T="int"
 | .ref p=>(T="list"/\∃xs,SqL K H p xs)\/(T="tuple"/\∃o,K.lookup p=some o/\o.cls=.type "tuple"/\o.dict=none) \/
   (T="dict"/\((∃kvs,H p=some (.dK kvs))\/∃kvs,H p=some (.dT kvs)))\/(T="set"/\∃S n,H p=some (.set S n))
 | _=>False
theorem zsz {pins:List (Addr×Obj)} {σ:St} {H:Hp} {s:y04} {T:String} {x:V} {v:Value} (I:Inv X pins σ H s) (r:RelV x v) (ty:tyV X.K T x H) :
  s.TypeIs v T/\∀a,v=.ref a->∃ob,s.heap.get? a=some ob/\ob.dict=none:=by
 cases x with
 | str z =>
  obtain⟨t,rfl⟩:=r
  cases (show T="str" from ty)
  exact⟨typeIs_str s z t,fun _ e=>nomatch e⟩
 | int i =>
  obtain⟨t,rfl⟩:=r
  cases (show T="int" from ty)
  exact⟨typeIs_int s i t,fun _ e=>nomatch e⟩
 | ref p =>
  cases r
  rcases ty with ⟨rfl,xs,hq⟩|⟨rfl,o,hk,hc,hd⟩|⟨rfl,hk⟩|⟨rfl,S,n,hk⟩
  ·obtain⟨its,_,pl,_⟩:=I.list hq
   refine⟨pl.isList.typeIs,fun a e=>?_⟩
   cases e
   obtain⟨o,n,e,c,hd,_⟩:=pl
   exact⟨o,e,hd⟩
  ·refine⟨⟨o,I.kIn p o hk,hc⟩,fun a e=>?_⟩
   cases e
   exact⟨o,I.kIn _ o hk,hd⟩
  ·have z:∃o,s.heap.get? p=some o/\o.ExactDict:=by
    rcases hk with ⟨kvs,hk⟩|⟨kvs,hk⟩
    ·obtain⟨_,_,_,_,o,_,_,e,ex,_⟩:=I.hok p _ hk
     exact⟨o,e,ex⟩
    ·obtain⟨_,_,_,_,o,_,_,e,ex,_⟩:=I.hok p _ hk
     exact⟨o,e,ex⟩
   obtain⟨o,e,ex⟩:=z
   refine⟨⟨o,e,ex.1⟩,fun a e2=>?_⟩
   cases e2
   exact⟨o,e,ex.2.1⟩
  ·obtain⟨o,_,_,_,e,ex,_⟩:=I.hok p _ hk
   refine⟨⟨o,e,ex.1⟩,fun a e2=>?_⟩
   cases e2
   exact⟨o,e,ex.2.1⟩
 | _=>exact y21 ty
noncomputable def tBM0 (K:y00) (T:String) (r:V->List V->Hp->VK->Prop) (to:TE):TE:=fun σ H Q=>to σ H fun x H1=>tyV K T x H1/\r x [] H1 Q
noncomputable def tBM (K:y00) (T:String) (r:V->List V->Hp->VK->Prop) (to:TE) (t:TA):TE:=fun σ H Q=>to σ H fun x H1=>tyV K T x H1/\t σ H1 fun xs H2=>r x xs H2 Q
variable {o e:Expr} {es:List Expr} {to:TE} {t:TA} {name:Str} {apos cpos:Pos} {T id:String} {r:V->List V->Hp->VK->Prop}
theorem ztb (pa:PlainAttrs T) (slot:Slot T name id) (hty:typeOf (.builtin id)=pure (.type "method_descriptor")) (hm:MtR X id r) (ho:PE X o to)
  (hbase:attributeBase o name X.env (eval o X.env)=eval o X.env:=by rfl) (hline:(apos.endLine == cpos.line)=true:=by rfl):PE X (.Call (.Attribute o name apos) [] [] cpos) (tBM0 X.K T r to):=by
 intro pins s σ H Q I h
 refine wpAny_Call_method0_late hbase hline (thn (ho pins s σ H _ I h) fun v s1 ⟨x,H1,I1,r1,ty,q1⟩=>?_)
 obtain⟨h1,h2⟩:=zsz I1 r1 ty
 exact⟨T,id,pa,slot,hty,h1,h2,Calls.callWith_builtin rfl (PySem.evalArgs_none (hm pins s1 σ H1 x [] v [] Q I1 r1 .nil q1))⟩
theorem zro (pa:PlainAttrs T) (slot:Slot T name id) (hty:typeOf (.builtin id)=pure (.type "method_descriptor")) (hm:MtR X id r) (ho:PE X o to) (ha:PA X (e::es) t)
  (hbase:attributeBase o name X.env (eval o X.env)=eval o X.env:=by rfl)
  (hfew:((backTo cpos (y0a (e::es) X.env)).all (fun x=>!x.1) && (backToKw cpos (keywordEach [] X.env)).all (fun x=>x.1.isSome)
   && decide ((e::es).length+([]:List Keyword).length+(if ([]:List Keyword).isEmpty then 0 else 1)<30))=true:=by rfl)
  (hline:(apos.endLine == cpos.line)=true:=by rfl) (hs:y0a (e::es) X.env=(false,eval e X.env)::y0a es X.env:=by rfl) (hplain:(backTo cpos (y0a es X.env)).any (·.1)=false:=by rfl) :
  PE X (.Call (.Attribute o name apos) (e::es) [] cpos) (tBM X.K T r to t):=by
 intro pins s σ H Q I h
 refine wpAny_Call_method_late hbase hfew hline rfl (thn (ho pins s σ H _ I h) fun v s1 ⟨x,H1,I1,r1,ty,q1⟩=>?_)
 obtain⟨h1,h2⟩:=zsz I1 r1 ty
 refine⟨T,id,pa,slot,hty,h1,h2,?_⟩
 have hA:=ha cpos pins s1 σ H1 _ I1 q1
 rw[hs] at hA ⊢
 refine Calls.callWith_builtin (by show (false || (backTo cpos (y0a es X.env)).any (·.1))=false;rw[hplain] <;> rfl) (Calls.evalArgs_plain ?_)
 exact thn hA fun us s2 ⟨vs,H2,I2,r2,q2⟩=>hm pins s2 σ H2 x vs v us Q I2 r1 r2 q2
end
end L2
namespace L2
open PySem PySem.Spec PyProof.Rows
noncomputable def MtM (X:Cx) (id:String) (r:V->List V->Hp->VK->Prop):Prop :=
 ∀(pins:List (Addr×Obj)) (s:y04) (σ:St) (H:Hp) (x:V) (xs:List V) (v:Value) (us:List Value) (Q:VK),Inv X pins σ H s->RelV x v->Vals xs us->r x xs H Q ->
  y0u (model X.prog X.w) X.A (call (.builtin id) (v::us)) (EP X pins σ Q) X.xe s
theorem Vals.one:∀{x:V} {us:List Value},Vals [x] us->∃u,us=[u]/\RelV x u
 | _,_,.cons r .nil=>⟨_,rfl,r⟩
theorem Vals.two:∀{x y:V} {us:List Value},Vals [x,y] us->∃u v,us=[u,v]/\RelV x u/\RelV y v
 | _,_,_,.cons r (.cons q .nil)=>⟨_,_,rfl,r,q⟩
theorem Vals.zero:∀{us:List Value},Vals [] us->us=[]
 | _,.nil=>rfl
theorem Vals.dropLast {xs:List V} {us:List Value} (h:Vals xs us):Vals xs.dropLast us.dropLast:=by
 induction h with
 | nil=>exact .nil
 | cons r t ih =>
  cases t with
  | nil=>exact .nil
  | cons q t'=>exact .cons r ih
theorem Vals.eraseIdx:∀{xs:List V} {us:List Value} (i:Nat),Vals xs us->Vals (xs.eraseIdx i) (us.eraseIdx i)
 | _,_,_,.nil=>.nil
 | _,_,0,.cons _ t=>t
 | _,_,i+1,.cons r t=>.cons r (Vals.eraseIdx i t)
theorem Vals.rep {xs:List V} {us:List Value} (h:Vals xs us):∀k:Nat,Vals (y0g k xs).flatten (y0g k us).flatten
 | 0=>.nil
 | k+1=>by
  rw[y1v,y1v,y2e,y2e]
  exact Vals.append h (Vals.rep h k)
theorem zn3 {α:Type} (l:List α):l.eraseIdx (l.length - 1)=l.dropLast:=by
 induction l with
 | nil=>rfl
 | cons a r ih =>
  cases r with
  | nil=>rfl
  | cons b r =>
   have e:(a::b::r).length - 1=((b::r).length - 1)+1:=by
    have h1:(a::b::r).length=r.length+2:=rfl
    have h2:(b::r).length=r.length+1:=rfl
    omega
   rw[e,List.eraseIdx_cons_succ,ih]
   all_goals rfl
theorem zif {α:Type}:∀(l:List α) (i:Nat),(l.eraseIdx i).length<=l.length
 | [],_=>y0o _
 | _::_,0=>y2m _
 | _::r,i+1=>Nat.succ_le_succ (zif r i)
theorem zb0 (its:List Value):∀(k:Nat) (acc:List Value),
  List.foldl (fun x1 x2=>x1++x2) acc.toArray (y0g k its.toArray)=(acc++(y0g k its).flatten).toArray
 | 0,acc=>by simp
 | k+1,acc=>by
  have e:acc.toArray++its.toArray=(acc++its).toArray:=by simp
  have e2:(acc++its)++(y0g k its).flatten=acc++(y0g (k+1) its).flatten:=by
   rw[y1v,y2e,y2p]
  rw[<- e2,<- zb0 its k (acc++its),<- e,y1v,List.foldl_cons]
section
variable {X:Cx} {pins:List (Addr×Obj)} {σ:St} {H:Hp} {s:y04} {l b:Addr} {xs ys zs:List V}
theorem Inv.lset {its its':List Value} {n:Nat} {f:Array Value->Array Value} {t':Nat} (I:Inv X pins σ H s) (hH:H l=some (.lst xs))
  (e:s.heap.get? l=some { cls:=.type "list",data:=.seq its.toArray n }) (hf:f its.toArray=its'.toArray) (hv:Vals ys its') (hz:ys.length<=y0j) :
  Inv X pins σ (upd H l (.lst ys)) { s with heap:=s.heap.update l (Obj.mapSeq f),toks:=t' }:=by
 have q:=PySem.IsL.update e f
 rw[hf] at q
 refine I.write (x:=l) (e:=l) (by rw[hH];exact trivial) (.inl rfl) (fun b' u hb hu=>(Heap.get?_update_other s.heap (Obj.mapSeq f) (Ne.symm hb)).trans hu) ⟨_,q⟩ ?_
 exact⟨hz,its',_,hv,q⟩
theorem Inv.lnew {its:List Value} {t':Nat} (I:Inv X pins σ H s) (hv:Vals ys its) (hz:ys.length<=y0j) :
  Inv X pins σ (upd H s.heap.objs.size (.lst ys)) { s with heap:=s.heap.push { cls:=.type "list",data:=.seq its.toArray },toks:=t' } :=
 I.laid (fun _ _ q=>y03 _ q) (y0o _) ⟨hz,its,0,hv,y0l _ rfl⟩
theorem Inv.fresh (I:Inv X pins σ H s):H s.heap.objs.size=none:=I.hok.fresh (y0o _)
theorem Inv.lstM (I:Inv X pins σ H s) (hH:H l=some (.lst xs)):xs.length<=y0j/\∃(its:List Value) (n:Nat),Vals xs its/\xs.length=its.length/\s.heap.get? l=some { cls:=.type "list",data:=.seq its.toArray n }:=by
 obtain⟨z,its,n,r,e⟩:=I.hok l _ hH
 exact⟨z,its,n,r,r.length,e⟩
theorem zgq {n:Nat} (h:n<=y0j):Builtin.List.listTooLong n=false:=by
 unfold Builtin.List.listTooLong
 exact decide_eq_false (by omega)
end
section
variable {X:Cx}
noncomputable def zui:V->List V->Hp->VK->Prop:=fun x vs H Q=>∃l xs y,x=.ref l/\vs=[y]/\H l=some (.lst xs)/\xs.length<y0j/\Q .non (upd H l (.lst (xs++[y])))
theorem zid:MtM X "list.append" zui:=by
 intro pins s σ H x vs v us Q I rx rv h
 obtain⟨l,xs,y,rfl,rfl,hH,hz,q⟩:=h
 cases rx
 obtain⟨u,rfl,ru⟩:=rv.one
 obtain⟨z,its,n,r,hl,e⟩:=I.lstM hH
 refine call_meets F.slot_list_append ⟨_,e,rfl⟩ F.entry_list_append (F.args_list_append_2 _ _) (PySem.list_append l its.toArray n u (by rw[y0h];omega)) ⟨e,?_⟩
 refine⟨.non,_,I.lset (its':=its++[u]) hH e (by simp) (r.append (.cons ru .nil)) ?_,rfl,q⟩
 rw[y27,List.length_singleton]
 omega
noncomputable def rPop:V->List V->Hp->VK->Prop:=fun x vs H Q=>∃l xs y,x=.ref l/\vs=[]/\H l=some (.lst xs)/\xs[xs.length - 1]?=some y/\Q y (upd H l (.lst xs.dropLast))
theorem zxh:MtM X "list.pop" rPop:=by
 intro pins s σ H x vs v us Q I rx rv h
 obtain⟨l,xs,y,rfl,rfl,hH,hy,q⟩:=h
 cases rx
 have hus:=rv.zero
 subst hus
 obtain⟨z,its,n,r,hl,e⟩:=I.lstM hH
 obtain⟨u,hu,ru⟩:=r.get hy
 have hy':its.toArray[its.toArray.size - 1]?=some u:=by
  show its.toArray[its.length - 1]?=some u
  rw[<- Array.getElem?_toList,<- hl]
  exact hu
 refine call_meets F.slot_list_pop ⟨_,e,rfl⟩ F.entry_list_pop (F.args_list_pop_1 _) (MeetsSeq.list_pop_last l its.toArray n u hy' (by rw[y0h];omega)) ⟨e,?_⟩
 refine⟨y,_,I.lset (its':=its.dropLast) hH e ?_ r.dropLast ?_,ru,q⟩
 ·show its.toArray.eraseIdxIfInBounds (its.toArray.size - 1)=its.dropLast.toArray
  rw[y0h,List.eraseIdxIfInBounds_toArray,zn3]
 ·rw[List.length_dropLast]
  omega
theorem zk8 {α:Type} (xs:List α) (k:Nat):(y0g k xs).flatten.length=k*xs.length:=by
 induction k with
 | zero=>simp
 | succ k ih=>rw[y1v,y2e,y27,ih,Nat.succ_mul,Nat.add_comm]
end
section
variable {prog:y0q} {w:World} {A:Around} {E:Value->y04->Prop} {s:y04}
end
section
variable {X:Cx}
end
end L2
namespace Att
open PySem PySem.W PySem.Calls PyProof.Rows
theorem ze4 {P:Params} {h:Heap}:∀(ns:List Int) (vs:List Value),WellAll P h vs (ns.map WData.int)->IntsAre vs ns:=by
 intro ns
 induction ns with
 | nil =>
  intro vs w
  rw[y1a] at w
  cases w
  exact .nil
 | cons n ns ih =>
  intro vs w
  rw[y0e] at w
  cases w with
  | cons a b =>
   cases a
   exact .cons _ _ (ih _ b)
theorem zo0 {l:OpenLaw} {n:Nat} (hn:l.most=some n) {P:Params} {h:Heap} {args:List WData} {vals:List Value}
    (hpre:l.row.toRowW.claim.pre args=true) (hwl:WellAll P h vals args) :
    ∃a vs ns,vals=[Value.ref a]/\args=[WData.list (ns.map WData.int)]/\h.get? a=some { cls:=.type "list",data:=.seq vs.toArray }/\IntsAre vs ns/\ns.length<=n:=by
  have hsh:WShape.hasAll [] args [.list .int]=true:=(pre_splitW hpre).1
  have hc:l.pre.holds [] { args:=args }=true:=(pre_splitW hpre).2
  obtain⟨d,r,rfl,h1,h2⟩:=hasAllW_cons hsh
  obtain rfl:=hasAllW_nil h2
  obtain⟨xs,rfl,h3⟩:=hasW_list h1
  obtain⟨ns,rfl⟩:=items_int h3
  have hlen:ns.length<=n:=by
    unfold OpenLaw.pre at hc
    have h4:(WTm.not (.lt (.lit (.int (n:Int))) (.len (.arg 0)))).holds [] { args:=[.list (ns.map .int)] }=true:=by
      have h4:=(holds_andW hc).1
      rw[hn] at h4
      exact h4
    have h5:=condW_of h4 (w_not (w_lt w_lit (w_len_list (w_arg rfl))))
    rw[y14] at h5
    refine Nat.le_of_not_lt fun q=>?_
    have q':(n:Int)<((ns.length:Nat):Int):=by omega
    first
      | (rw[decide_eq_true q'] at h5;exact absurd h5 (by decide))
      | (simp at h5;omega)
  cases hwl with
  | cons w1 w2 =>
    cases w2
    cases w1 with
    | list ho hall=>exact⟨_,_,ns,rfl,rfl,ho,ze4 ns _ hall,hlen⟩
theorem zoh (l:OpenLaw) (args:List WData):l.row.toRowW.claim.post args (.bool true) args=true :=
 postW_of (r:=l.row.toRowW) (X:=(true == true))
  (show WShape.has [] (.bool true) .bool=true by first|rfl|decide|simp[WShape.has,WShape.arms,WShape.armsAll])
  (show (WTm.eq .res (.lit (.bool true))).value [] { args:=args,res:=some (.bool true),after:=args }=some (.bool (true == true)) from w_eq_bool (w_res rfl) w_lit) rfl
theorem attach_call {l:OpenLaw} {n:Nat} {q:y0q} {loose:List Str} {XP:(Str->Option Value)->Heap->Prop} {YP:World->Heap->Prop} {d:DefRec}
  (hn:l.most=some n) (hdf:d.params.defaults=[])
  (call:∀(w:World) (s₀ s₁:y04) (mg mb:Str->Option Value) (fa:Addr) (o:Obj) (pm cd doc:Value) (a:Addr) (vs:List Value) (ns:List Int),
   Ground q loose [] XP w s₀ mg mb s₁.heap->YP w s₁.heap ->
   s₁.heap.get? fa=some o->o.data=.func (docDef d.name d.params d.body d.scope pm cd doc)->s₁.heap.CodeRec cd d.name->mg d.name=some (.ref fa) ->
   s₁.heap.get? a=some { cls:=.type "list",data:=.seq vs.toArray }->IntsAre vs ns->ns.length<=n->s₁.gens=#[] ->
   codeAny (model l.prog w) callerA (.call (.ref fa) ⟨[.ref a],[]⟩) (fun r s'=>r=.ok (.ret (.bool true))/\OldK s₁.heap s'.heap/\s'.os=s₁.os/\AllBare s'.gens) s₁) :
  WalkO q loose XP YP l.row.toRowW d [] (fun f vs=>PySem.call f vs):=by
 intro w s₀ s₁ mg mb G Y fa o pm cd doc dV kV ho hd hcd hD hmg hg args vals as hpre hlay hrd hwl hlo
 obtain rfl:dV=.none:=Dflts.none hD hdf
 obtain rfl:kV=.none:=Dflts.noKw hD
 obtain⟨a,vs,ns,rfl,rfl,hobj,hints,hlen⟩:=zo0 hn hpre hwl
 refine enter_call (codeAny_mono (call w s₀ s₁ mg mb fa o pm cd doc a vs ns G Y ho (fd_plain hd) hcd hmg hobj hints hlen hg) fun r s' hq=>?_)
 obtain⟨rfl,h2,h3,h4⟩:=hq
 exact⟨.inl ⟨.bool true,.bool true,[],rfl,fun _=>rfl,.bool true,zoh l _,fun _=>⟨List.Pairwise.nil,fun _ hm=>(nomatch hm)⟩⟩,h2,h3,h4⟩
section
variable {prog:y0q} {w:World} {A:Around} {E:Value->y04->Prop} {s:y04} {K:Frag}
end
end Att
namespace L2
open PySem PySem.Spec PyProof.Rows
theorem zhf:∀{vs:List Value} {ns:List Int},IntsAre vs ns->Vals (ns.map V.int) vs
 | _,_,.nil=>.nil
 | _,_,.cons n t h=>.cons ⟨t,rfl⟩ (zhf h)
def Only (H:Hp):Prop:=∀b,H b=none\/∃o xs,H b=some (.frz o (.lst xs))
theorem zs2 {P:y0q} {w:World} {K:y00} {mg mb:Str->Option Value} {CX:CXT} {k:Nat} {fa a:Addr} {fd:y0b} {x:Str} {sp:Sp} {s₁:y04} {vs:List Value} {ns:List Int}
  (KX:K.In s₁.heap) (hns:s₁.heap.Ns y0n mg) (hb:s₁.heap.Ns builtinsNs mb) (hbb:∀x:Str,x≠"__name__"->mb x=bootBuiltins x) (hlim:s₁.heap.NoLimit) (hg:s₁.gens=#[])
  (ha:s₁.heap.get? a=some { cls:=.type "list",data:=.seq vs.toArray }) (hi:IntsAre vs ns) (hl:ns.length<=y0j) (hr:Room k callerA)
  (F:∀base:Heap,K.In base->base.Ns y0n mg->FnOk P w K mg base CX k fa fd [x] sp) (hbind:∀(s:y04) (u:Value),BindsTo s fd ⟨[u],[]⟩ [(x,u)])
  (hsp:∀H:Hp,Only H->SqL K H a (ns.map V.int)->sp [.ref a] H (fun v _=>v=.bl true) fun _ _ _=>False)
  (hCX:∀H e s',CX [] H s₁ (fun _ _ _=>False) e s'->False) :
  codeAny (model P w) callerA (.call (.ref fa) ⟨[.ref a],[]⟩) (fun r s'=>r=.ok (.ret (.bool true))/\OldK s₁.heap s'.heap/\s'.os=s₁.os/\AllBare s'.gens) s₁:=by
 have rv:=zhf hi
 have lenV:=hi.length
 have core:∀H:Hp,Only H->SqL K H a (ns.map V.int)->HOk P w H s₁.heap->(∀b,H b≠none->b=a)->(H a≠none->K.lookup a=none) ->
   codeAny (model P w) callerA (.call (.ref fa) ⟨[.ref a],[]⟩) (fun r s'=>r=.ok (.ret (.bool true))/\OldK s₁.heap s'.heap/\s'.os=s₁.os/\AllBare s'.gens) s₁:=by
  intro H hO hS hok hA hK
  have base_of:∀{b:Addr} {o:Obj},s₁.heap.get? b=some o->H b=none->(hidT s₁.heap H).get? b=some o:=fun e n=>zs9 e n
  have noA:∀{b:Addr} {o:Obj} {es:Array DictEntry} {ep:Nat},s₁.heap.get? b=some o->o.data=.dict es ep->H b=none:=fun {b o es ep} e d=>by
   cases q:H b with
   | none=>rfl
   | some u =>
    have e':b=a:=hA b (by rw[q];simp)
    subst e'
    rw[ha] at e;cases e
    have d':Data.seq vs.toArray _=Data.dict es ep:=d
    cases d'
  have nsK:∀{b:Addr} {m:Str->Option Value},s₁.heap.Ns b m->(hidT s₁.heap H).Ns b m:=fun {b m} ⟨o,es,ep,e,d,r⟩=>⟨o,es,ep,base_of e (noA e d),d,r⟩
  have hKb:K.In (hidT s₁.heap H):=fun b o e=>base_of (KX b o e) (by
   cases q:H b with
   | none=>rfl
   | some u =>
    have e':b=a:=hA b (by rw[q];simp)
    subst e'
    rw[hK (by rw[q];simp)] at e;cases e)
  have hM:Mod K mg (hidT s₁.heap H):=⟨hKb,nsK hns,⟨mb,nsK hb,hbb⟩,let ⟨mc,h1,h2⟩:=hlim;⟨mc,nsK h1,h2⟩⟩
  have e0:Env0 P w K mg (hidT s₁.heap H) callerA [] s₁ H:=⟨rfl,hM,fun b o e=>zv8 e,Nat.le_of_eq (zpi _ _),trivial,fun b hb=>absurd (show b∈([]:List Addr) from hb) (by simp),hok,.of_eq hg⟩
  refine codeAny_mono ((F _ hKb (nsK hns)).run callerA [] s₁ H ⟨[.ref a],[]⟩ [.ref a] [.ref a] _ _ hr e0 (hbind s₁ (.ref a)) (.cons rfl .nil) (hsp H hO hS)) fun r s' h=>?_
  cases r with
  | error e=>exact (hCX H e s' h).elim
  | ok fl =>
   cases fl with
   | next=>exact y21 h
   | brk=>exact y21 h
   | cont=>exact y21 h
   | ret u =>
    obtain⟨v,H',os,bare,un,hok',r',q⟩:=h
    have q':v=.bl true:=q
    subst q'
    obtain rfl:u=Value.bool true:=r'
    refine⟨rfl,OldK.of_keep fun b o e=>?_,os,bare⟩
    cases q:H b with
    | none=>exact un.keep b o e q (by intro z;exact absurd (show b∈([]:List Addr) from z) (by simp)) (by simp)
    | some u =>
     rcases hO b with z|⟨ob,xs,z⟩
     ·rw[q] at z;cases z
     ·have z2:=un.frzs b ob _ z
      obtain⟨e1,_⟩:=hok b _ z
      obtain⟨e2,_⟩:=hok' b _ z2
      rw[e] at e1;cases e1
      exact e2
 cases hk:K.lookup a with
 | some o =>
  have e:=KX a o hk
  rw[ha] at e
  cases e
  refine core (fun _=>none) (fun _=>.inl rfl) (.inr ⟨_,vs.toArray,_,hk,rfl,rfl,rfl,by rw[y0h,lenV];exact hl,by simpa using rv⟩) (fun b u z=>by have z':(none:Option HO)=some u:=z;cases z') (fun b z=>absurd rfl z) fun z=>absurd rfl z
 | none =>
  refine core (fun b=>if b=a then some (.frz { cls:=.type "list",data:=.seq vs.toArray } (.lst (ns.map V.int))) else none) (fun b=>?_) (.inl (.inr ⟨{ cls:=.type "list",data:=.seq vs.toArray },if_pos rfl⟩)) (fun b u z=>?_) (fun b z=>?_) fun _=>hk
  ·by_cases hb:b=a
   ·exact .inr ⟨_,_,if_pos hb⟩
   ·exact .inl (if_neg hb)
  ·by_cases hb:b=a
   ·have z':=(if_pos hb).symm.trans z
    cases z'
    subst hb
    exact⟨ha,by rw[y14];exact hl,vs,_,rv,ha⟩
   ·have z':=(if_neg hb).symm.trans z
    cases z'
  ·by_cases hb:b=a
   ·exact hb
   ·exact absurd (if_neg hb) z
end L2
namespace L2
open PySem PySem.Spec PyProof.Rows
theorem walk_of {l:PySem.W.OpenLaw} {n k:Nat} {q:y0q} {loose:List Str} {XP:(Str->Option Value)->Heap->Prop} {YP:World->Heap->Prop} {d:DefRec} {K:Params->y00} {CX:World->CXT} {sp:World->Sp} {x:Str}
  (hn:l.most=some n) (hn2:n<=y0j) (hdf:d.params.defaults=[]) (hr:Room k callerA)
  (hY:∀(w:World) (h:Heap),YP w h->(K w.params).In h)
  (F:∀(w:World) (mg:Str->Option Value) (fa:Addr) (h:Heap),(K w.params).In h->h.Ns y0n mg->mg d.name=some (.ref fa) ->
   ∃fd:y0b,(∀(s:y04) (u:Value),BindsTo s fd ⟨[u],[]⟩ [(x,u)]) /\
    ∀base:Heap,(K w.params).In base->base.Ns y0n mg->FnOk l.prog w (K w.params) mg base (CX w) k fa fd [x] (sp w))
  (hsp:∀(w:World) (H:Hp) (a:Addr) (ns:List Int),ns.length<=n->Only H->SqL (K w.params) H a (ns.map V.int)->sp w [.ref a] H (fun v _=>v=.bl true) fun _ _ _=>False)
  (hCX:∀(w:World) (H:Hp) (s:y04) (e:Value) (s':y04),CX w [] H s (fun _ _ _=>False) e s'->False) :
  PySem.W.WalkO q loose XP YP l.row.toRowW d [] (fun f vs=>PySem.call f vs):=by
 refine Att.attach_call hn hdf fun w s₀ s₁ mg mb fa o pm cd doc a vs ns G Y ho hd hcd hmg hobj hints hlen hg=>?_
 have KX:=hY w _ Y
 obtain⟨fd,hb,hF⟩:=F w mg fa _ KX G.T.g hmg
 exact zs2 KX G.T.g G.T.b G.T.builtins G.T.nolimit hg hobj hints (y1s hlen hn2) hr hF hb (fun H hO hS=>hsp w H a ns hlen hO hS) fun H e s'=>hCX w H s₁ e s'
end L2
namespace L2
open PySem PySem.Spec PyProof.Rows
noncomputable def z0o (s:Stmt) (j:Nat):Stmt:=match s with
 | .ClassDef _ _ _ body _ _ _ _ _ _ _=>body.getD j (.Pass ⟨0,0,0,0⟩)
 | _=>.Pass ⟨0,0,0,0⟩
noncomputable def zbq (s:Stmt):Arguments:=match s with
 | .FunctionDef _ a _ _ _ _ _ _ _ _=>a
 | _=>{ posonlyargs:=[],args:=[],vararg:=none,kwonlyargs:=[],kw_defaults:=[],kwarg:=none,defaults:=[] }
noncomputable def z2v (s:Stmt):List Stmt:=match s with
 | .FunctionDef _ _ b _ _ _ _ _ _ _=>b
 | _=>[]
noncomputable def z02 (s:Stmt):Scope:=match s with
 | .FunctionDef _ _ _ _ _ _ sc _ _ _=>sc
 | _=>{ kind:=.function,names:=[],isGenerator:=false,isCoroutine:=false }
abbrev CX0:CXT:=fun _ _ _ _ _ _=>False
abbrev E0:XK:=fun _ _ _=>False
theorem zgl {X:Cx}:zeh CX0 X E0:=fun _ _ _ _ _ _ _ h=>h.elim
structure Fun (K:y00) (x qual:Str) (st:Stmt) (f:Addr) (fd:y0b):Prop where
 ex:∃(oc:Value) (od:Option Addr) (kV doc pm:Value) (an:Option Addr) (cdv ct:Value) (osl:Array (Option Value)),
  fd=y0i x qual (zbq st) (z2v st) (z02 st) .none kV doc pm an cdv ct/\K.lookup f=some ⟨oc,od,.func fd,osl⟩/\PySem.W.codeIn K cdv qual=true
 kp:y08 K (.ref f)=true
section
variable {P:y0q} {w:World} {K:y00} {mg:Str->Option Value} {base:Heap}
theorem Fun.ok {x qual:Str} {st:Stmt} {f:Addr} {fd:y0b} {N ps:List Str} {k:Nat} {sp:Sp} (F:Fun K x qual st f fd) (S:FnScope N ps (z02 st)) (len:∀vs H Q E,sp vs H Q E->vs.length=ps.length)
  (hbody:∀(cdv:Value) (A:Around) (outer:List Env) (s:y04) (H:Hp) (vs:List V) (Q:VK) (E:XK),Room k (A.deeper (envOfC qual (z02 st) s.heap.objs.size f cdv))->sp vs H Q E ->
   ∃t,PSs (cxOf CX0 P w K mg base N qual (z02 st) f cdv A outer s H E).nox (z2v st) t/\t { nx:=fun _ H'=>Q .non H',rt:=Q } (start N vs) H):FnOk P w K mg base CX0 (k+1) f fd ps sp:=by
 obtain⟨oc,od,kV,doc,pm,an,cdv,ct,osl,rfl,lk,hcd⟩:=F.ex
 refine zz2 lk hcd S len fun A outer s H vs Q E hr hsp=>?_
 obtain⟨t,h,q⟩:=hbody cdv A outer s H vs Q E hr hsp
 exact⟨t,h.nox,q⟩
theorem Fun.binds {x qual:Str} {st:Stmt} {f:Addr} {fd:y0b} {ps:List Str} (F:Fun K x qual st f fd)
  (h:∀(kV doc pm:Value) (an:Option Addr) (cdv ct:Value) (us:List Value),us.length=ps.length->bindArgs (y0i x qual (zbq st) (z2v st) (z02 st) .none kV doc pm an cdv ct) ⟨us,[]⟩=pure (ps.zip us)):z5h K fd ps []:=by
 obtain⟨oc,od,kV,doc,pm,an,cdv,ct,osl,rfl,lk,hcd⟩:=F.ex
 exact .all (h kV doc pm an cdv ct)
theorem z0f {x qual:Str} {st:Stmt} {f:Addr} {oc:Value} {od an:Option Addr} {osl:Array (Option Value)} {kV doc pm cdv ct:Value} (l:K.lookup f=some ⟨oc,od,.func (y0i x qual (zbq st) (z2v st) (z02 st) .none kV doc pm an cdv ct),osl⟩)
  (c:PySem.W.codeIn K cdv qual=true) (k:y08 K (.ref f)=true):Fun K x qual st f (y0i x qual (zbq st) (z2v st) (z02 st) .none kV doc pm an cdv ct):=⟨⟨oc,od,kV,doc,pm,an,cdv,ct,osl,rfl,l,c⟩,k⟩
end
theorem zph {A:Around} {k:Nat} (hr:Room k A):A.units+1<cLine:=Nat.lt_of_le_of_lt (Nat.add_le_add_left (by decide:1<=64) _) hr.units
section
variable {X:Cx}
theorem pv (i:Nat) {x:Str} {pos:Pos} (hN:X.N[i]?=some x:=by rfl) (hv:Vis X.env.scope x:=by first|exact Or.inl rfl|exact Or.inr (Or.inl rfl)|exact Or.inr (Or.inr rfl)) (hd:(x == ("__debug__":Str))=false:=by decide)
  (hcd:(x == ("__classdict__":Str))=false:=by decide):PE X (.Name x pos) (tVar i):=zx3 hN hv hd hcd
end
theorem iteF {A B:Prop} (h:B):if false=true then A else B:=by
 rw[if_neg y28]
 exact h
theorem iteT {A B:Prop} (h:A):if true=true then A else B:=by
 rw[if_pos rfl]
 exact h
def Same (H H':Hp):Prop:=∀b o,H b=some o->H' b=some o
end L2
end
section
namespace D
open PySem
abbrev T:=PyData
def okT (a:T):Bool:=a.canLay0 && decide (a.depth<=60)
def okL (as:List T):Bool:=y1h as && decide (y1f as<=60)
abbrev Key:=Sum Int Str
inductive Md where
 | ro|own|lent
 deriving DecidableEq
inductive Sl where
 | imm (t:T)|own (ts:List T)|dic (kvs:List (Key×T))|obj (m:Md) (c:Nat) (fs:List Sl)
abbrev Ev:=List (Option Sl)
inductive Out where
 | nx (ε:Ev)|rt (t:T)|bk (ε:Ev)|ct (ε:Ev)|rtm (t:T) (ε:Ev)|rto (s:Sl)
abbrev Fe:=Ev->Option T
abbrev Ft:=Ev->Option Bool
abbrev Fs:=Ev->Option Out
abbrev Fi:=Ev->Option (List T)
abbrev Fg:=T->Ev->Option Ev
def big:Nat:=16777216
noncomputable def oAdd:T->T->Option T
 | .int i,.int j=>some (.int (i+j))
 | .str x,.str y=>if x.length+y.length<=big then some (.str (x++y)) else none
 | .tuple xs,.tuple ys=>if xs.length+ys.length<=big then some (.tuple (xs++ys)) else none
 | .list xs,.list ys=>if xs.length+ys.length<=big then some (.list (xs++ys)) else none
 | _,_=>none
def oSub:T->T->Option T
 | .int i,.int j=>some (.int (i - j))
 | _,_=>none
noncomputable def zmr (i j:Int):Bool:=(decide (-(2 ^ 64)<i) && decide (i<2 ^ 64)) || (decide (-(2 ^ 64)<j) && decide (j<2 ^ 64))
noncomputable def oMul:T->T->Option T
 | .int i,.int j=>if zmr i j then some (.int (i*j)) else none
 | _,_=>none
noncomputable def oDiv:T->T->Option T
 | .int i,.int j=>if 0<j/\j<1073741824 then some (.int (i / j)) else none
 | _,_=>none
noncomputable def oMod:T->T->Option T
 | .int i,.int j=>if 0<j then some (.int (i % j)) else none
 | _,_=>none
def oNeg:T->Option T
 | .int i=>some (.int (-i))
 | _=>none
noncomputable def ixOf (n:Nat) (i:Int):Option Nat:=if 0<=i then (if i<n then some i.toNat else none) else if -(n:Int)<=i then some (i+n).toNat else none
def atZ {α:Type} (xs:List α) (i:Int):Option α:=(ixOf xs.length i).bind fun j=>xs[j]?
noncomputable def oIx:T->T->Option T
 | .tuple xs,.int i=>atZ xs i
 | .list xs,.int i=>atZ xs i
 | .str x,.int i=>if x.length<=big then (atZ x.cps.toList i).map fun c=>.str ⟨#[c]⟩ else none
 | _,_=>none
def oEq (a b:T):Option T:=if okT a && okT b then some (.bool (y25 a b)) else none
def oNe (a b:T):Option T:=if okT a && okT b then some (.bool (!PyData.eqv a b)) else none
def oIsN (a:T):Option T:=some (.bool (match a with|.none=>true|_=>false))
def z3j (a:T):Option T:=some (.bool (match a with|.none=>false|_=>true))
def z6h (x y:Str):Bool:=decide (x.cps.toList<y.cps.toList)
noncomputable def oLt:T->T->Option T
 | .int i,.int j=>some (.bool (decide (i<j)))
 | .str x,.str y=>some (.bool (z6h x y))
 | _,_=>none
noncomputable def oLe:T->T->Option T
 | .int i,.int j=>some (.bool (decide (i<=j)))
 | .str x,.str y=>some (.bool (!z6h y x))
 | _,_=>none
noncomputable def oGt:T->T->Option T
 | .int i,.int j=>some (.bool (decide (j<i)))
 | .str x,.str y=>some (.bool (z6h y x))
 | _,_=>none
noncomputable def oGe:T->T->Option T
 | .int i,.int j=>some (.bool (decide (j<=i)))
 | .str x,.str y=>some (.bool (!z6h x y))
 | _,_=>none
def hasT (x:T) (ts:List T):Bool:=ts.any fun y=>y25 y x
noncomputable def oIn (neg:Bool):T->T->Option T
 | x,.tuple ys=>if okT x && okL ys then some (.bool (if neg then !hasT x ys else hasT x ys)) else none
 | x,.list ys=>if okT x && okL ys then some (.bool (if neg then !hasT x ys else hasT x ys)) else none
 | _,_=>none
noncomputable def oLen:List T->Option T
 | [.tuple xs]=>some (.int xs.length)
 | [.list xs]=>some (.int xs.length)
 | [.str x]=>if x.length<=big then some (.int x.length) else none
 | _=>none
noncomputable def oMin:List T->Option T
 | [.int i,.int j]=>some (.int (if j<i then j else i))
 | _=>none
noncomputable def oMax:List T->Option T
 | [.int i,.int j]=>some (.int (if j > i then j else i))
 | _=>none
noncomputable def z1k:List T->Option T
 | [.tuple xs]=>some (.tuple xs)
 | [.list xs]=>some (.tuple xs)
 | _=>none
noncomputable def zrv:List T->Option T
 | [.tuple xs]=>some (.list xs)
 | [.list xs]=>some (.list xs)
 | _=>none
noncomputable def oInt:List T->Option T
 | [.int i]=>some (.int i)
 | [.bool b]=>some (.int (if b then 1 else 0))
 | _=>none
noncomputable def sIx (n d:Nat):Option Int->Nat
 | none=>d
 | some v=>(if v<0 then max (v+n) 0 else min v n).toNat
noncomputable def cutZ {α:Type} (xs:List α) (lo hi:Option Int):List α:=(xs.drop (sIx xs.length 0 lo)).take (sIx xs.length xs.length hi - sIx xs.length 0 lo)
noncomputable def oSl (t:T) (lo hi:Option Int):Option T:=match t with
 | .tuple xs=>some (.tuple (cutZ xs lo hi))
 | .list xs=>some (.list (cutZ xs lo hi))
 | _=>none
noncomputable def zd6:List T->Option (List Str)
 | []=>some []
 | .str x::ts=>(zd6 ts).map fun r=>x::r
 | _::_=>none
noncomputable def insI (x:Int):List Int->List Int
 | []=>[x]
 | y::ys=>if x<=y then x::y::ys else y::insI x ys
def zhm:List Int->List Int
 | []=>[]
 | x::xs=>insI x (zhm xs)
noncomputable def insS (x:Str):List Str->List Str
 | []=>[x]
 | y::ys=>if !z6h y x then x::y::ys else y::insS x ys
def z87:List Str->List Str
 | []=>[]
 | x::xs=>insS x (z87 xs)
def z6i:T->Option Key
 | .int i=>some (.inl i)
 | .str x=>some (.inr x)
 | _=>none
noncomputable def putD (kvs:List (Key×T)) (k:Key) (v:T):List (Key×T):=if kvs.any (fun p=>decide (p.1=k)) then kvs.map fun p=>if p.1=k then (k,v) else p else kvs++[(k,v)]
noncomputable def getD (kvs:List (Key×T)) (k:Key):Option T:=(kvs.find? fun p=>decide (p.1=k)).map (·.2)
def cst (t:T):Fe:=fun _=>some t
noncomputable def nm (i:Nat):Fe:=fun ε=>match ε[i]? with
 | some (some (.imm t))=>some t
 | some (some (.own ts))=>some (.list ts)
 | _=>none
def nmV (i:Nat):Fe:=fun ε=>match ε[i]? with
 | some (some (.imm t))=>some t
 | _=>none
def op1 (o:T->Option T) (f:Fe):Fe:=fun ε=>(f ε).bind o
noncomputable def op2 (o:T->T->Option T) (f g:Fe):Fe:=fun ε=>(f ε).bind fun x=>(g ε).bind fun y=>o x y
noncomputable def args:List Fe->Ev->Option (List T)
 | [],_=>some []
 | f::fs,ε=>(f ε).bind fun t=>(args fs ε).map fun ts=>t::ts
def opN (o:List T->Option T) (fs:List Fe):Fe:=fun ε=>(args fs ε).bind o
noncomputable def z06 (fs:List Fe):Fe:=fun ε=>(args fs ε).bind fun ts=>if ts.length<=big then some (.tuple ts) else none
noncomputable def z29 (fs:List Fe):Fe:=fun ε=>(args fs ε).bind fun ts=>if ts.length<=big then some (.list ts) else none
noncomputable def opt (f:Fe):Ev->Option (Option Int):=fun ε=>(f ε).bind fun t=>match t with|.int i=>some (some i)|_=>none
def optN:Ev->Option (Option Int):=fun _=>some none
noncomputable def slice (f:Fe) (lo hi:Ev->Option (Option Int)):Fe:=fun ε=>(f ε).bind fun t=>(lo ε).bind fun l=>(hi ε).bind fun h=>oSl t l h
noncomputable def andV (f g:Fe):Fe:=fun ε=>(f ε).bind fun t=>match t with|.bool true=>g ε|.bool false=>some (.bool false)|_=>none
noncomputable def orV (f g:Fe):Fe:=fun ε=>(f ε).bind fun t=>match t with|.bool false=>g ε|.bool true=>some (.bool true)|_=>none
noncomputable def z33 (o p:T->T->Option T) (f g h:Fe):Fe:=fun ε=>(f ε).bind fun x=>(g ε).bind fun y=>(o x y).bind fun r=>match r with
 | .bool true=>(h ε).bind fun z=>p y z
 | .bool false=>some (.bool false)
 | _=>none
def tstB (f:Fe):Ft:=fun ε=>(f ε).bind fun t=>match t with|.bool b=>some b|_=>none
noncomputable def tstL (f:Fe):Ft:=fun ε=>(f ε).bind fun t=>match t with|.list ts=>some (!ts.isEmpty)|.tuple ts=>some (!ts.isEmpty)|_=>none
def andT (f g:Ft):Ft:=fun ε=>(f ε).bind fun b=>if b then g ε else some false
def orT (f g:Ft):Ft:=fun ε=>(f ε).bind fun b=>if b then some true else g ε
def notT (f:Ft):Ft:=fun ε=>(f ε).map fun b=>!b
def ifE (c:Ft) (f g:Fe):Fe:=fun ε=>(c ε).bind fun b=>if b then f ε else g ε
def cstT (b:Bool):Ft:=fun _=>some b
def ofT (c:Ft):Fe:=fun ε=>(c ε).map .bool
noncomputable def z0v (f:Fe):Fi:=fun ε=>(f ε).bind fun t=>match t with|.tuple ts=>some ts|.list ts=>some ts|_=>none
noncomputable def z31 (f:Fe):Fi:=fun ε=>(f ε).bind fun t=>match t with|.tuple ts=>some ts|_=>none
noncomputable def rng (lo hi:Int):List T:=(List.range (hi - lo).toNat).map fun (k:Nat)=>.int (lo+(k:Int))
def z6w (i:Int):Bool:=decide (-(2 ^ 62)<=i) && decide (i<2 ^ 62)
noncomputable def z2w (f:Fe):Fi:=fun ε=>(f ε).bind fun t=>match t with|.int j=>if z6w j then some (rng 0 j) else none|_=>none
def enum (ts:List T):List T:=ts.zipIdx.map fun p=>.tuple [.int p.2,p.1]
def z3f (f:Fi):Fi:=fun ε=>(f ε).map enum
def gNm (i:Nat):Fg:=fun t ε=>some (ε.set i (some (.imm t)))
noncomputable def gAll:List Fg->List T->Ev->Option Ev
 | [],[],ε=>some ε
 | g::gs,t::ts,ε=>(g t ε).bind fun ε'=>gAll gs ts ε'
 | _,_,_=>none
def gTu (gs:List Fg):Fg:=fun t ε=>match t with|.tuple ts=>gAll gs ts ε|_=>none
noncomputable def z3m (g:Fg) (c:Ft) (e:Fe):List T->Ev->Option (List T)
 | [],_=>some []
 | t::ts,ε=>(g t ε).bind fun ε1=>(c ε1).bind fun b=>if b then (e ε1).bind fun y=>(z3m g c e ts ε1).map fun ys=>y::ys else z3m g c e ts ε1
noncomputable def z2h (own:Nat) (caps:List Nat) (ε:Ev):Ev:=y0g own none++caps.map fun i=>(ε[i]?).join
noncomputable def comp (own:Nat) (caps:List Nat) (it:Fi) (g:Fg) (c:Ft) (e:Fe):Fe:=fun ε=>(it ε).bind fun ts=>if ts.length<=big then (z3m g c e ts (z2h own caps ε)).map .list else none
def skip:Fs:=fun ε=>some (.nx ε)
def seq (a b:Fs):Fs:=fun ε=>(a ε).bind fun o=>match o with|.nx ε'=>b ε'|o=>some o
def asg (i:Nat) (f:Fe):Fs:=fun ε=>(f ε).map fun t=>.nx (ε.set i (some (.imm t)))
noncomputable def asgN (i:Nat) (f:Fe):Fs:=fun ε=>(f ε).bind fun t=>match t with|.list ts=>some (.nx (ε.set i (some (.own ts))))|_=>none
def asgT (g:Fg) (f:Fe):Fs:=fun ε=>(f ε).bind fun t=>(g t ε).map .nx
def rtn (f:Fe):Fs:=fun ε=>(f ε).map .rt
def iff (c:Ft) (a b:Fs):Fs:=fun ε=>(c ε).bind fun x=>if x then a ε else b ε
def brk:Fs:=fun ε=>some (.bk ε)
noncomputable def forL (g:Fg) (b:Fs):List T->Ev->Option Out
 | [],ε=>some (.nx ε)
 | t::ts,ε=>(g t ε).bind fun ε1=>(b ε1).bind fun o=>match o with
  | .nx ε2=>forL g b ts ε2
  | .ct ε2=>forL g b ts ε2
  | .bk ε2=>some (.nx ε2)
  | .rt t=>some (.rt t)
  | .rtm t ε2=>some (.rtm t ε2)
  | .rto s=>some (.rto s)
def for_ (it:Fi) (g:Fg) (b:Fs):Fs:=fun ε=>(it ε).bind fun ts=>forL g b ts ε
noncomputable def ext (i:Nat) (f:Fe):Fs:=fun ε=>match ε[i]? with
 | some (some (.own ts))=>(f ε).bind fun t=>match t with
  | .list us=>if ts.length+us.length<=big then some (.nx (ε.set i (some (.own (ts++us))))) else none
  | _=>none
 | _=>none
noncomputable def pop (i j:Nat):Fs:=fun ε=>match ε[j]? with
 | some (some (.own ts))=>(ts.getLast?).bind fun t=>if i=j then none else some (.nx ((ε.set j (some (.own ts.dropLast))).set i (some (.imm t))))
 | _=>none
noncomputable def par (i j:Nat) (own:Bool) (f g:Fe):Fs:=fun ε=>(f ε).bind fun t=>(g ε).bind fun u=>if own then (match u with|.list us=>some (.nx ((ε.set i (some (.imm t))).set j (some (.own us))))|_=>none) else some (.nx ((ε.set i (some (.imm t))).set j (some (.imm u))))
noncomputable def runF (b:Fs) (n:Nat) (as:List T):Option T:=(b ((as.map fun t=>some (.imm t))++y0g (n - as.length) none)).bind fun o=>match o with
 | .rt t=>some t
 | .nx _=>some .none
 | _=>none
end D
end
section
namespace D
open PySem PySem.Spec PyProof.Rows L2
section
mutual
noncomputable def Rep (K:y00) (F:Addr->Prop) (H:Hp):T->V->Prop
 | .none,v=>v=.non
 | .bool b,v=>v=.bl b
 | .int i,v=>v=.int i
 | .str x,v=>v=.str x
 | .dict _,_=>False
 | .tuple ts,v=>∃a vs,v=.ref a/\SqT K H a vs/\RepL K F H ts vs
 | .list ts,v=>∃a vs,v=.ref a/\F a/\Rd H a (.lst vs)/\RepL K F H ts vs
noncomputable def RepL (K:y00) (F:Addr->Prop) (H:Hp):List T->List V->Prop
 | [],vs=>vs=[]
 | t::ts,vs=>∃v r,vs=v::r/\Rep K F H t v/\RepL K F H ts r
end
section
variable {K:y00} {F F':Addr->Prop} {H H':Hp}
mutual
theorem Rep.keep (h1:∀b xs,SqT K H b xs->SqT K H' b xs) (h2:∀b xs,F b->Rd H b (.lst xs)->F' b/\Rd H' b (.lst xs)):∀{t:T} {v:V},Rep K F H t v->Rep K F' H' t v
 | .none,v,h=>by simpa [Rep] using h
 | .bool _,v,h=>by simpa [Rep] using h
 | .dict _,v,h=>by simp[Rep] at h
 | .int _,v,h=>by simpa [Rep] using h
 | .str _,v,h=>by simpa [Rep] using h
 | .tuple ts,v,h=>by
  simp only[Rep] at h ⊢
  obtain⟨a,vs,e,q,r⟩:=h
  exact⟨a,vs,e,h1 _ _ q,RepL.keep h1 h2 r⟩
 | .list ts,v,h=>by
  simp only[Rep] at h ⊢
  obtain⟨a,vs,e,f,q,r⟩:=h
  exact⟨a,vs,e,(h2 _ _ f q).1,(h2 _ _ f q).2,RepL.keep h1 h2 r⟩
theorem RepL.keep (h1:∀b xs,SqT K H b xs->SqT K H' b xs) (h2:∀b xs,F b->Rd H b (.lst xs)->F' b/\Rd H' b (.lst xs)):∀{ts:List T} {vs:List V},RepL K F H ts vs->RepL K F' H' ts vs
 | [],vs,h=>by simpa [RepL] using h
 | t::ts,vs,h=>by
  simp only[RepL] at h ⊢
  obtain⟨v,r,e,q,z⟩:=h
  exact⟨v,r,e,Rep.keep h1 h2 q,RepL.keep h1 h2 z⟩
end
theorem RepL.nil:RepL K F H [] []:=by simp[RepL]
theorem RepL.cons {t:T} {v:V} {ts:List T} {vs:List V} (h:Rep K F H t v) (r:RepL K F H ts vs):RepL K F H (t::ts) (v::vs):=by
 simp only[RepL]
 exact⟨v,vs,rfl,h,r⟩
theorem RepL.length:∀{ts:List T} {vs:List V},RepL K F H ts vs->ts.length=vs.length
 | [],vs,h=>by
  simp only[RepL] at h
  subst h
  rfl
 | t::ts,vs,h=>by
  simp only[RepL] at h
  obtain⟨v,r,e,q,z⟩:=h
  subst e
  simp[RepL.length z]
theorem RepL.get:∀{ts:List T} {vs:List V} {i:Nat} {t:T},RepL K F H ts vs->ts[i]?=some t->∃v,vs[i]?=some v/\Rep K F H t v
 | [],vs,i,t,h,e=>by simp at e
 | x::ts,vs,0,t,h,e=>by
  simp only[RepL] at h
  obtain⟨v,r,rfl,q,z⟩:=h
  simp at e
  subst e
  exact⟨v,rfl,q⟩
 | x::ts,vs,i+1,t,h,e=>by
  simp only[RepL] at h
  obtain⟨v,r,rfl,q,z⟩:=h
  obtain⟨u,h1,h2⟩:=RepL.get (i:=i) (t:=t) z (by simpa using e)
  exact⟨u,by simpa using h1,h2⟩
theorem RepL.append:∀{ts us:List T} {vs ws:List V},RepL K F H ts vs->RepL K F H us ws->RepL K F H (ts++us) (vs++ws)
 | [],us,vs,ws,h,r=>by
  simp only[RepL] at h
  subst h
  exact r
 | t::ts,us,vs,ws,h,r=>by
  simp only[RepL] at h
  obtain⟨v,z,rfl,q,y⟩:=h
  exact RepL.cons q (RepL.append y r)
theorem RepL.take:∀{ts:List T} {vs:List V} (n:Nat),RepL K F H ts vs->RepL K F H (ts.take n) (vs.take n)
 | [],vs,n,h=>by
  simp only[RepL] at h
  subst h
  simpa using RepL.nil
 | t::ts,vs,0,h=>by simpa using RepL.nil
 | t::ts,vs,n+1,h=>by
  simp only[RepL] at h
  obtain⟨v,z,rfl,q,y⟩:=h
  simpa using RepL.cons q (RepL.take n y)
theorem RepL.drop:∀{ts:List T} {vs:List V} (n:Nat),RepL K F H ts vs->RepL K F H (ts.drop n) (vs.drop n)
 | [],vs,n,h=>by
  simp only[RepL] at h
  subst h
  simpa using RepL.nil
 | t::ts,vs,0,h=>by simpa using h
 | t::ts,vs,n+1,h=>by
  simp only[RepL] at h
  obtain⟨v,z,rfl,q,y⟩:=h
  simpa using RepL.drop n y
end
class Tbl where
 tb:List (Addr×Str)
 cn:Nat->List Str
 ck:Nat->Option Addr
noncomputable def TbG (H:Hp) (b:Addr) (q:Str):Prop:=∃ps:Array Value,H b=some (.tbl ps)/\TriplesOk ps.toList/\∀pos cv,codeAmong pos ps.toList=some cv->∃c,cv=.ref c/\H c=some (.ext fun h=>h.CodeRec (.ref c) q)
def TbS [t:Tbl] (H:Hp):Prop:=∀p∈t.tb,TbG H p.1 p.2
theorem TbG.keep {H H':Hp} {b:Addr} {q:Str} (h:TbG H b q) (k1:∀a ps,H a=some (.tbl ps)->H' a=some (.tbl ps)) (k2:∀a φ,H a=some (.ext φ)->H' a=some (.ext φ)):TbG H' b q:=by
 obtain⟨ps,h1,h2,h3⟩:=h
 refine⟨ps,k1 _ _ h1,h2,fun pos cv e=>?_⟩
 obtain⟨c,e1,e2⟩:=h3 pos cv e
 exact⟨c,e1,k2 _ _ e2⟩
variable [Tbl]
def HoM (u:HO):Prop:=(∃xs,u=.lst xs)\/(∃xs,u=.dK xs)\/∃C dx fs,u=.ins C dx fs
theorem HoM.cases {P:Prop} {u:HO} (h:HoM u) (h1:∀xs,u=.lst xs->P) (h2:∀xs,u=.dK xs->P) (h3:∀C dx fs,u=.ins C dx fs->P):P:=by
 rcases h with ⟨xs,e⟩|⟨xs,e⟩|⟨C,dx,fs,e⟩
 ·exact h1 xs e
 ·exact h2 xs e
 ·exact h3 C dx fs e
theorem TbS.updM {H:Hp} (h:TbS H) {p:Addr} {o:HO} (hp:∀u,H p=some u->HoM u):TbS (upd H p o):=fun b hb =>
 (h b hb).keep (fun a ps e=>by
  have nb:a≠p:=by
   rintro rfl
   exact (hp _ e).cases (fun _ z=>by cases z) (fun _ z=>by cases z) (fun _ _ _ z=>by cases z)
  rw[z0c nb];exact e) fun a φ e=>by
  have nb:a≠p:=by
   rintro rfl
   exact (hp _ e).cases (fun _ z=>by cases z) (fun _ z=>by cases z) (fun _ _ _ z=>by cases z)
  rw[z0c nb];exact e
theorem TbS.upd {H:Hp} (h:TbS H) {p:Addr} {o:HO} (hp:∀u,H p=some u->(∃xs,u=.lst xs)\/∃xs,u=.dK xs):TbS (upd H p o):=h.updM fun u e=>by
 rcases hp u e with z|z
 ·exact .inl z
 ·exact .inr (.inl z)
theorem TbS.new {H:Hp} (h:TbS H) {p:Addr} {o:HO} (hp:H p=none):TbS (L2.upd H p o):=h.upd fun u e=>by rw[hp] at e;cases e
structure Dom (F:Addr->Prop) (H:Hp):Prop where
 dm:∀a,F a->∃o,H a=some o
 tgs:TbS H
instance {F:Addr->Prop} {H:Hp}:CoeFun (Dom F H) fun _=>∀a,F a->∃o,H a=some o:=⟨Dom.dm⟩
noncomputable def z9l (H H':Hp):Prop:=∀b o,H b=some o->H' b=some o\/∃ps ps',o=.tbl ps/\H' b=some (.tbl ps')
theorem z9l.refl (H:Hp):z9l H H:=fun _ _ h=>.inl h
theorem z9l.ne {H H':Hp} (s:z9l H H') {b:Addr} {o:HO} (e:H b=some o):∃u,H' b=some u:=by
 rcases s b o e with h|⟨_,_,_,h⟩
 ·exact⟨_,h⟩
 ·exact⟨_,h⟩
theorem z9l.none {H H':Hp} (s:z9l H H') {b:Addr} (e:H' b=none):H b=none:=by
 cases z:H b with
 | none=>rfl
 | some o =>
  obtain⟨u,q⟩:=s.ne z
  rw[e] at q
  cases q
theorem z9l.get {H H':Hp} (s:z9l H H') {b:Addr} {o:HO} (e:H b=some o) (n:∀ps,o≠.tbl ps:=by intro _ z;cases z):H' b=some o:=by
 rcases s b o e with h|⟨_,_,z,_⟩
 ·exact h
 ·exact absurd z (n _)
theorem z9l.trans {H H1 H2:Hp} (a:z9l H H1) (b:z9l H1 H2):z9l H H2:=fun c o h=>by
 rcases a c o h with q|⟨ps,ps1,z,q⟩
 ·exact b c o q
 ·rcases b c _ q with q2|⟨_,ps2,z2,q2⟩
  ·exact .inr ⟨ps,ps1,z,q2⟩
  ·exact .inr ⟨ps,ps2,z,q2⟩
structure Ext (F:Addr->Prop) (H:Hp) (F':Addr->Prop) (H':Hp):Prop where
 same:z9l H H'
 sub:∀a,F a->F' a
 new:∀a,F' a->F a\/H a=none
 dom:Dom F' H'
section
variable {K:y00} {F F1 F2:Addr->Prop} {H H1 H2:Hp}
theorem Ext.refl (d:Dom F H):Ext F H F H:=⟨z9l.refl H,fun _ h=>h,fun _ h=>.inl h,d⟩
theorem Ext.trans (a:Ext F H F1 H1) (b:Ext F1 H1 F2 H2):Ext F H F2 H2 :=
 ⟨a.same.trans b.same,fun x h=>b.sub x (a.sub x h),fun x h=>(b.new x h).elim (fun z=>a.new x z) fun z=>.inr (a.same.none z),b.dom⟩
theorem Rd.same {a:Addr} {u:HO} (s:z9l H H1) (r:Rd H a u) (n:∀ps,u≠.tbl ps:=by intro _ z;cases z):Rd H1 a u:=by
 rcases r with r|⟨o,r⟩
 ·exact .inl (s.get r n)
 ·exact .inr ⟨o,s.get r⟩
theorem SqT.same {a:Addr} {xs:List V} (s:z9l H H1) (r:SqT K H a xs):SqT K H1 a xs:=by
 rcases r with r|r
 ·exact .inl (Rd.same s r)
 ·exact .inr r
theorem Rep.ext {t:T} {v:V} (r:Rep K F H t v) (x:Ext F H F1 H1):Rep K F1 H1 t v:=r.keep (fun _ _ q=>SqT.same x.same q) fun b _ f q=>⟨x.sub b f,Rd.same x.same q⟩
theorem RepL.ext {t:List T} {v:List V} (r:RepL K F H t v) (x:Ext F H F1 H1):RepL K F1 H1 t v:=r.keep (fun _ _ q=>SqT.same x.same q) fun b _ f q=>⟨x.sub b f,Rd.same x.same q⟩
theorem Ext.laid {p:Addr} {o:HO} (d:Dom F H) (hp:H p=none):Ext F H F (upd H p o) :=
 ⟨fun b u q=>.inl (same_new' hp o b u q),fun _ h=>h,fun _ h=>.inl h,⟨fun a h=>by
  obtain⟨u,e⟩:=d a h
  exact⟨u,same_new' hp o a u e⟩,d.tgs.new hp⟩⟩
where same_new' {H:Hp} {p:Addr} (h:H p=none) (o:HO):Same H (upd H p o):=fun b u q=>by rw[z0c (z0j q h)];exact q
theorem Ext.laidF {p:Addr} {o:HO} (d:Dom F H) (hp:H p=none):Ext F H (fun a=>F a\/a=p) (upd H p o) :=
 ⟨fun b u q=>.inl (Ext.laid.same_new' hp o b u q),fun _ h=>.inl h,fun a h=>by
  rcases h with h|rfl
  ·exact .inl h
  ·exact .inr hp,⟨fun a h=>by
  rcases h with h|rfl
  ·obtain⟨u,e⟩:=d a h
   exact⟨u,Ext.laid.same_new' hp o a u e⟩
  ·exact⟨o,z0e⟩,d.tgs.new hp⟩⟩
end
structure Kp (K:y00) (F:Addr->Prop) (H:Hp) (F':Addr->Prop) (H':Hp):Prop where
 tup:∀b xs,SqT K H b xs->SqT K H' b xs
 lst:∀b xs,F b->Rd H b (.lst xs)->F' b/\Rd H' b (.lst xs)
section
variable {K:y00} {F F1 F2:Addr->Prop} {H H1 H2:Hp}
theorem Kp.refl:Kp K F H F H:=⟨fun _ _ h=>h,fun _ _ f h=>⟨f,h⟩⟩
theorem Kp.trans (a:Kp K F H F1 H1) (b:Kp K F1 H1 F2 H2):Kp K F H F2 H2:=⟨fun x xs h=>b.tup x xs (a.tup x xs h),fun x xs f h=>b.lst x xs (a.lst x xs f h).1 (a.lst x xs f h).2⟩
theorem Ext.kp (x:Ext F H F1 H1):Kp K F H F1 H1:=⟨fun _ _ q=>SqT.same x.same q,fun b _ f q=>⟨x.sub b f,Rd.same x.same q⟩⟩
theorem Rep.kp {t:T} {v:V} (r:Rep K F H t v) (x:Kp K F H F1 H1):Rep K F1 H1 t v:=r.keep x.tup x.lst
theorem RepL.kp {t:List T} {v:List V} (r:RepL K F H t v) (x:Kp K F H F1 H1):RepL K F1 H1 t v:=r.keep x.tup x.lst
end
noncomputable def RepR (K:y00) (O F:Addr->Prop) (H:Hp) (t:T) (v:V):Prop :=
 Rep K F H t v\/∃ts a vs,t=.list ts/\v=.ref a/\H a=some (.lst vs)/\RepL K F H ts vs
section
variable {K:y00} {O F F1:Addr->Prop} {H H1:Hp} {v:V}
theorem RepR.ext {t:T} (r:RepR K O F H t v) (x:Ext F H F1 H1):RepR K O F1 H1 t v:=by
 rcases r with r|⟨ts,a,vs,e1,e2,e4,r⟩
 ·exact .inl (r.ext x)
 ·exact .inr ⟨ts,a,vs,e1,e2,x.same.get e4,r.ext x⟩
theorem RepR.non (r:RepR K O F H .none v):v=.non:=by
 rcases r with r|⟨ts,a,vs,e1,_⟩
 ·simpa [Rep] using r
 ·cases e1
theorem RepR.bl {b:Bool} (r:RepR K O F H (.bool b) v):v=.bl b:=by
 rcases r with r|⟨ts,a,vs,e1,_⟩
 ·simpa [Rep] using r
 ·cases e1
theorem RepR.int {i:Int} (r:RepR K O F H (.int i) v):v=.int i:=by
 rcases r with r|⟨ts,a,vs,e1,_⟩
 ·simpa [Rep] using r
 ·cases e1
theorem RepR.str {x:Str} (r:RepR K O F H (.str x) v):v=.str x:=by
 rcases r with r|⟨ts,a,vs,e1,_⟩
 ·simpa [Rep] using r
 ·cases e1
theorem RepR.tup {ts:List T} (r:RepR K O F H (.tuple ts) v):∃a vs,v=.ref a/\SqT K H a vs/\RepL K F H ts vs:=by
 rcases r with r|⟨ts,a,vs,e1,_⟩
 ·simpa [Rep] using r
 ·cases e1
theorem RepR.lst {ts:List T} (r:RepR K O F H (.list ts) v):∃a vs,v=.ref a/\Rd H a (.lst vs)/\RepL K F H ts vs:=by
 rcases r with r|⟨us,a,vs,e1,e2,e4,r⟩
 ·simp only[Rep] at r
  obtain⟨a,vs,e,_,q,z⟩:=r
  exact⟨a,vs,e,q,z⟩
 ·cases e1
  exact⟨a,vs,e2,.inl e4,r⟩
end
noncomputable def RepD (K:y00) (F:Addr->Prop) (H:Hp):List (D.Key×T)->List (D.Key×V)->Prop
 | [],vs=>vs=[]
 | p::ts,vs=>∃v r,vs=(p.1,v)::r/\Rep K F H p.2 v/\RepD K F H ts r
theorem RepD.kp {K:y00} {F F':Addr->Prop} {H H':Hp} (x:Kp K F H F' H'):∀{ts:List (D.Key×T)} {vs:List (D.Key×V)},RepD K F H ts vs->RepD K F' H' ts vs
 | [],vs,h=>h
 | p::ts,vs,h=>by
  obtain⟨v,r,e,q,z⟩:=h
  exact⟨v,r,e,q.kp x,RepD.kp x z⟩
structure En where
 h:Hp
 la:Addr
def rf:V->List Addr
 | .ref a=>[a]
 | _=>[]
def fp0:Sl->V->List Addr
 | .imm _,_=>[]
 | _,v=>rf v
def fpF:List Sl->List V->List Addr
 | s::ss,v::vs=>fp0 s v++fpF ss vs
 | _,_=>[]
noncomputable def zl0 (H:Hp):V->List V
 | .ref a=>(match H a with
  | some (.ins _ _ kvs)=>kvs.map (·.2)
  | some (.dK kvs)=>kvs.map (·.2)
  | _=>[])
 | _=>[]
noncomputable def fpS (H:Hp):Sl->V->List Addr
 | .imm _,_=>[]
 | .own _,v=>rf v
 | .dic _,v=>rf v
 | .obj _ _ fs,v=>rf v++fpF fs (zl0 H v)
noncomputable def z6k (H:Hp) (a:Addr) (c:Nat) (vs:List V):Prop:=vs.length<=(Tbl.cn c).length/\match Tbl.ck c with
 | some C=>∃dx,H a=some (.ins C dx ((Tbl.cn c).zip vs))
 | none=>H a=some (.dK (((Tbl.cn c).zip vs).map fun p=>(.inr p.1,p.2)))
noncomputable def zbb (K:y00) (F:Addr->Prop) (H:Hp):Sl->V->Prop
 | .imm t,v=>Rep K F H t v
 | .own ts,v=>∃b us,v=.ref b/\H b=some (.lst us)/\RepL K F H ts us
 | .dic kvs,v=>∃b us,v=.ref b/\H b=some (.dK us)/\RepD K F H kvs us
 | .obj _ _ _,_=>False
noncomputable def RelF (K:y00) (F:Addr->Prop) (H:Hp):List Sl->List V->Prop
 | [],vs=>vs=[]
 | s::ss,vs=>∃v r,vs=v::r/\zbb K F H s v/\RelF K F H ss r
noncomputable def OwnM (E:En) (O F:Addr->Prop) (m:Md) (b:Addr):Prop:=¬F b/\match m with
 | .ro=>E.h b≠none
 | _=>O b
noncomputable def z1z (K:y00) (E:En) (O F:Addr->Prop) (H:Hp):Sl->V->Prop
 | .imm t,v=>Rep K F H t v
 | .own ts,v=>∃a vs,v=.ref a/\¬F a/\O a/\H a=some (.lst vs)/\RepL K F H ts vs
 | .dic kvs,v=>∃a vs,v=.ref a/\¬F a/\O a/\H a=some (.dK vs)/\RepD K F H kvs vs
 | .obj m c fs,v=>∃a vs,v=.ref a/\z6k H a c vs/\RelF K F H fs vs/\(a::fpF fs vs).Nodup/\(∀b∈a::fpF fs vs,OwnM E O F m b)/\(m=.lent->a=E.la)
def Sl.isOwn:Sl->Bool
 | .imm _=>false
 | .obj .ro _ _=>false
 | _=>true
section
variable {K:y00} {F F' O O':Addr->Prop} {H H':Hp} {E:En}
theorem zjn {α β:Type}:∀{xs:List α} {ys:List β},ys.length<=xs.length->(xs.zip ys).map (·.2)=ys
 | xs,[],_=>by simp
 | [],y::ys,h=>by simp at h
 | x::xs,y::ys,h=>by simp[zjn (xs:=xs) (ys:=ys) (by simpa using h)]
theorem z6k.vals {a:Addr} {c:Nat} {vs:List V} (h:z6k H a c vs):zl0 H (.ref a)=vs:=by
 obtain⟨hl,h⟩:=h
 unfold zl0
 split at h
 ·obtain⟨dx,e⟩:=h
  simp only[e]
  exact zjn hl
 ·simp only[h,y2s]
  exact zjn hl
theorem z6k.mem {a:Addr} {c:Nat} {vs:List V} (h:z6k H a c vs):∃o,H a=some o/\HoM o:=by
 obtain⟨hl,h⟩:=h
 split at h
 ·obtain⟨dx,e⟩:=h
  exact⟨_,e,.inr (.inr ⟨_,_,_,rfl⟩)⟩
 ·exact⟨_,h,.inr (.inl ⟨_,rfl⟩)⟩
theorem z6k.keep {a:Addr} {c:Nat} {vs:List V} (h:z6k H a c vs) (e:H' a=H a):z6k H' a c vs:=by
 obtain⟨hl,h⟩:=h
 refine⟨hl,?_⟩
 rw[e]
 exact h
theorem zf4 {v:V} {b:Addr} (h:b∈rf v):v=.ref b:=by
 unfold rf at h
 split at h
 ·simp at h
  rw[h]
 ·simp at h
theorem zbb.at {s:Sl} {v:V} {b:Addr} (r:zbb K F H s v) (h:b∈fp0 s v):∃o,H b=some o/\HoM o:=by
 cases s with
 | imm t=>simp[fp0] at h
 | own ts =>
  obtain⟨b',us,e,eh,_⟩:=r
  have:=zf4 h
  rw[e] at this
  cases this
  exact⟨_,eh,.inl ⟨_,rfl⟩⟩
 | dic ts =>
  obtain⟨b',us,e,eh,_⟩:=r
  have:=zf4 h
  rw[e] at this
  cases this
  exact⟨_,eh,.inr (.inl ⟨_,rfl⟩)⟩
 | obj m c fs=>exact r.elim
theorem RelF.at:∀{fs:List Sl} {vs:List V} {b:Addr},RelF K F H fs vs->b∈fpF fs vs->∃o,H b=some o/\HoM o
 | [],vs,b,r,h=>by simp[fpF] at h
 | s::ss,vs,b,r,h=>by
  obtain⟨v,z,rfl,r1,r2⟩:=r
  rw[show fpF (s::ss) (v::z)=fp0 s v++fpF ss z from rfl] at h
  rcases y11.mp h with h|h
  ·exact r1.at h
  ·exact RelF.at r2 h
theorem z3g {m:Md} {c:Nat} {fs:List Sl} {a:Addr} {vs:List V} (h:z6k H a c vs):fpS H (.obj m c fs) (.ref a)=a::fpF fs vs:=by
 show rf (.ref a)++fpF fs (zl0 H (.ref a))=_
 rw[h.vals]
 rfl
theorem z1z.at {s:Sl} {v:V} {b:Addr} (r:z1z K E O F H s v) (h:b∈fpS H s v):∃o,H b=some o/\HoM o:=by
 cases s with
 | imm t=>simp[fpS] at h
 | own ts =>
  obtain⟨b',us,e,_,_,eh,_⟩:=r
  have:=zf4 h
  rw[e] at this
  cases this
  exact⟨_,eh,.inl ⟨_,rfl⟩⟩
 | dic ts =>
  obtain⟨b',us,e,_,_,eh,_⟩:=r
  have:=zf4 h
  rw[e] at this
  cases this
  exact⟨_,eh,.inr (.inl ⟨_,rfl⟩)⟩
 | obj m c fs =>
  obtain⟨a,vs,rfl,ha,hf,_⟩:=r
  rw[z3g ha] at h
  rcases y09.mp h with rfl|h
  ·exact ha.mem
  ·exact hf.at h
theorem z1z.held {s:Sl} {v:V} {b:Addr} (r:z1z K E O F H s v) (h:b∈fpS H s v):¬F b/\(s.isOwn=true->O b)/\(s.isOwn=false->E.h b≠none):=by
 cases s with
 | imm t=>simp[fpS] at h
 | own ts =>
  obtain⟨b',us,e,n,o,eh,_⟩:=r
  have:=zf4 h
  rw[e] at this
  cases this
  exact⟨n,fun _=>o,fun z=>by cases z⟩
 | dic ts =>
  obtain⟨b',us,e,n,o,eh,_⟩:=r
  have:=zf4 h
  rw[e] at this
  cases this
  exact⟨n,fun _=>o,fun z=>by cases z⟩
 | obj m c fs =>
  obtain⟨a,vs,rfl,ha,hf,nd,ow,_⟩:=r
  rw[z3g ha] at h
  obtain⟨n,q⟩:=ow b h
  refine⟨n,fun z=>?_,fun z=>?_⟩
  ·cases m with
   | ro=>cases z
   | own=>exact q
   | lent=>exact q
  ·cases m with
   | ro=>exact q
   | own=>cases z
   | lent=>cases z
theorem zbb.keep {s:Sl} {v:V} (r:zbb K F H s v) (kp:Kp K F H F' H') (hh:∀b∈fp0 s v,H' b=H b):zbb K F' H' s v:=by
 cases s with
 | imm t=>exact Rep.kp r kp
 | own ts =>
  obtain⟨b,us,rfl,eh,z⟩:=r
  exact⟨b,us,rfl,by rw[hh b (by simp[fp0,rf])];exact eh,z.kp kp⟩
 | dic ts =>
  obtain⟨b,us,rfl,eh,z⟩:=r
  exact⟨b,us,rfl,by rw[hh b (by simp[fp0,rf])];exact eh,RepD.kp kp z⟩
 | obj m c fs=>exact r.elim
theorem RelF.keep:∀{fs:List Sl} {vs:List V},RelF K F H fs vs->Kp K F H F' H'->(∀b∈fpF fs vs,H' b=H b)->RelF K F' H' fs vs
 | [],vs,r,_,_=>r
 | s::ss,vs,r,kp,hh=>by
  obtain⟨v,z,rfl,r1,r2⟩:=r
  rw[show fpF (s::ss) (v::z)=fp0 s v++fpF ss z from rfl] at hh
  exact⟨v,z,rfl,r1.keep kp fun b h=>hh b (y11.mpr (.inl h)),RelF.keep r2 kp fun b h=>hh b (y11.mpr (.inr h))⟩
theorem z1z.keep {s:Sl} {v:V} (r:z1z K E O F H s v) (kp:Kp K F H F' H') (hh:∀b∈fpS H s v,H' b=H b) (hf:∀b∈fpS H s v,F' b->F b) (ho:∀b∈fpS H s v,O b->O' b) :
  z1z K E O' F' H' s v/\fpS H' s v=fpS H s v:=by
 cases s with
 | imm t=>exact⟨Rep.kp r kp,rfl⟩
 | own ts =>
  obtain⟨a,vs,rfl,n,o,eh,z⟩:=r
  have m:a∈fpS H (.own ts) (.ref a):=by simp[fpS,rf]
  exact⟨⟨a,vs,rfl,fun f=>n (hf a m f),ho a m o,by rw[hh a m];exact eh,z.kp kp⟩,rfl⟩
 | dic ts =>
  obtain⟨a,vs,rfl,n,o,eh,z⟩:=r
  have m:a∈fpS H (.dic ts) (.ref a):=by simp[fpS,rf]
  exact⟨⟨a,vs,rfl,fun f=>n (hf a m f),ho a m o,by rw[hh a m];exact eh,RepD.kp kp z⟩,rfl⟩
 | obj m c fs =>
  obtain⟨a,vs,rfl,ha,hr,nd,ow,la⟩:=r
  rw[z3g ha] at hh hf ho
  have ha':z6k H' a c vs:=ha.keep (hh a (by simp))
  refine⟨⟨a,vs,rfl,ha',hr.keep kp fun b h=>hh b (y05 _ h),nd,fun b h=>?_,la⟩,by rw[z3g ha,z3g ha']⟩
  obtain⟨n,q⟩:=ow b h
  refine⟨fun f=>n (hf b h f),?_⟩
  cases m with
  | ro=>exact q
  | own=>exact ho b h q
  | lent=>exact ho b h q
theorem z1z.extP {s:Sl} {v:V} (r:z1z K E O F H s v) (x:Ext F H F' H'):z1z K E O F' H' s v/\fpS H' s v=fpS H s v :=
 r.keep x.kp (fun b h=>by
  obtain⟨o,e,m⟩:=r.at h
  rw[e]
  exact x.same.get e fun ps z=>by subst z;exact m.cases (fun _ z=>by cases z) (fun _ z=>by cases z) (fun _ _ _ z=>by cases z)) (fun b h f=>by
  rcases x.new b f with z|z
  ·exact z
  ·obtain⟨o,e,_⟩:=r.at h
   rw[z] at e
   cases e) fun _ _ o=>o
theorem z1z.ext {s:Sl} {v:V} (r:z1z K E O F H s v) (x:Ext F H F' H'):z1z K E O F' H' s v:=(r.extP x).1
end
structure RelE (K:y00) (F₀:Addr->Prop) (E:En) (O F:Addr->Prop) (H:Hp) (ε:Ev) (σ:L2.St):Prop where
 len:ε.length=σ.length
 val:∀(i:Nat) (s:Sl),ε[i]?=some (some s)->∃v,σ[i]?=some (some v)/\z1z K E O F H s v
 ne:∀(i j:Nat) (s u:Sl) (v w:V),i≠j->ε[i]?=some (some s)->ε[j]?=some (some u)->s.isOwn=true->u.isOwn=true->σ[i]?=some (some v)->σ[j]?=some (some w)->∀a∈fpS H s v,a∉fpS H u w
 ent:Ext F₀ E.h F H
 o0:∀a,O a->E.h a=none
 fr:∀a,H a=none->O a
section
variable {K:y00} {F₀ O F F1:Addr->Prop} {E:En} {H H1:Hp} {ε:Ev} {σ:L2.St}
theorem RelE.dom (r:RelE K F₀ E O F H ε σ):Dom F H:=r.ent.dom
theorem RelE.ext (r:RelE K F₀ E O F H ε σ) (x:Ext F H F1 H1):RelE K F₀ E O F1 H1 ε σ :=
 ⟨r.len,fun i s e=>by
  obtain⟨v,h1,h2⟩:=r.val i s e
  exact⟨v,h1,h2.ext x⟩,fun i j s u v w hij e1 e2 o1 o2 h1 h2=>by
  obtain⟨v',h1',r1⟩:=r.val i s e1
  obtain⟨w',h2',r2⟩:=r.val j u e2
  rw[h1] at h1'
  rw[h2] at h2'
  cases h1'
  cases h2'
  rw[(r1.extP x).2,(r2.extP x).2]
  exact r.ne i j s u v w hij e1 e2 o1 o2 h1 h2,r.ent.trans x,r.o0,fun a e=>r.fr a (x.same.none e)⟩
theorem z5d {α:Type} {l:List (Option α)} {i j:Nat} {x:Option α} {y:α} (h:(l.set i x)[j]?=some (some y)):(i=j/\x=some y/\j<l.length)\/(i≠j/\l[j]?=some (some y)):=by
 rw[y2d] at h
 by_cases e:i=j
 ·subst e
  rw[if_pos rfl] at h
  split at h
  next hl=>exact .inl ⟨rfl,y2k h,hl⟩
  next=>cases h
 ·rw[if_neg e] at h
  exact .inr ⟨e,h⟩
theorem zjs {α:Type} {l:List (Option α)} {i:Nat} {x:Option α} (h:i<l.length):(l.set i x)[i]?=some x:=by
 rw[y2d,if_pos rfl,if_pos h]
theorem z8w {α:Type} {l:List (Option α)} {i j:Nat} {x:Option α} (h:i≠j):(l.set i x)[j]?=l[j]?:=by
 rw[y2d,if_neg h]
theorem RelE.setG {s:Sl} {v:V} (r:RelE K F₀ E O F H ε σ) (i:Nat) (h:z1z K E O F H s v) (fr:s.isOwn=true->∀(j:Nat) (u:Sl) (w:V),i≠j->ε[j]?=some (some u)->u.isOwn=true->σ[j]?=some (some w)->∀a∈fpS H s v,a∉fpS H u w) :
  RelE K F₀ E O F H (ε.set i (some s)) (σ.set i (some v)):=by
 refine⟨by simp[r.len],fun j u e=>?_,fun j k u w vu vw hjk e1 e2 o1 o2 h1 h2=>?_,r.ent,r.o0,r.fr⟩
 ·rcases z5d e with ⟨rfl,e',hl⟩|⟨ne,e'⟩
  ·cases e'
   exact⟨_,zjs (by rw[<- r.len];exact hl),h⟩
  ·obtain⟨w,h1,h2⟩:=r.val j u e'
   exact⟨w,by rw[z8w ne];exact h1,h2⟩
 ·rcases z5d e1 with ⟨rfl,e',hl⟩|⟨ne1,e1'⟩
  ·rcases z5d e2 with ⟨rfl,_,_⟩|⟨ne2,e2'⟩
   ·exact absurd rfl hjk
   ·rw[zjs (by rw[<- r.len];exact hl)] at h1
    rw[z8w ne2] at h2
    cases h1
    cases e'
    exact fr o1 k w vw ne2 e2' o2 h2
  ·rw[z8w ne1] at h1
   rcases z5d e2 with ⟨rfl,e',hl⟩|⟨ne2,e2'⟩
   ·rw[zjs (by rw[<- r.len];exact hl)] at h2
    cases h2
    cases e'
    intro a ha hb
    exact fr o2 j u vu ne1 e1' o1 h1 a hb ha
   ·rw[z8w ne2] at h2
    exact r.ne j k u w vu vw hjk e1' e2' o1 o2 h1 h2
theorem RelE.set {t:T} {v:V} (r:RelE K F₀ E O F H ε σ) (i:Nat) (h:Rep K F H t v):RelE K F₀ E O F H (ε.set i (some (.imm t))) (σ.set i (some v)):=r.setG (s:=.imm t) i h fun z=>by cases z
theorem RelE.setNew {s:Sl} {v:V} (r:RelE K F₀ E O F H ε σ) (i:Nat) (x:Ext F H F1 H1) (h:z1z K E O F1 H1 s v) (hn:∀a∈fpS H1 s v,H a=none):RelE K F₀ E O F1 H1 (ε.set i (some s)) (σ.set i (some v)) :=
 (r.ext x).setG i h fun _ j u w _ ej _ hj a ha hb=>by
  obtain⟨w',h1,h2⟩:=r.val j u ej
  rw[hj] at h1
  cases h1
  rw[(h2.extP x).2] at hb
  obtain⟨o,e,_⟩:=h2.at hb
  rw[hn a ha] at e
  cases e
theorem zp5 {x:Addr} {o o':HO} (hn:¬F x) (hx:H x=some o) (hm:HoM o):Kp K F H F (upd H x o'):=by
 refine⟨fun b xs q=>?_,fun b xs f q=>⟨f,?_⟩⟩
 ·rcases q with q|q
  ·refine .inl ?_
   have nb:b≠x:=by
    rintro rfl
    rcases q with q|⟨_,q⟩ <;> (rw[hx] at q;cases q;exact hm.cases (fun _ z=>by cases z) (fun _ z=>by cases z) (fun _ _ _ z=>by cases z))
   rcases q with q|⟨u,q⟩
   ·exact .inl (by rw[z0c nb];exact q)
   ·exact .inr ⟨u,by rw[z0c nb];exact q⟩
  ·exact .inr q
 ·have nb:b≠x:=by
   rintro rfl
   exact hn f
  rcases q with q|⟨u,q⟩
  ·exact .inl (by rw[z0c nb];exact q)
  ·exact .inr ⟨u,by rw[z0c nb];exact q⟩
theorem zlv {x:Addr} {o o':HO} {h0:Hp} (e:Ext F₀ h0 F H) (h0x:h0 x=none) (hn:¬F x) (hx:H x=some o) (hm:HoM o):Ext F₀ h0 F (upd H x o'):=by
 refine⟨fun b u q=>?_,e.sub,e.new,⟨fun b f=>?_,e.dom.tgs.updM fun u z=>by rw[hx] at z;cases z;exact hm⟩⟩
 ·have nb:b≠x:=by
   rintro rfl
   rw[h0x] at q
   cases q
  rw[z0c nb]
  exact e.same b u q
 ·have nb:b≠x:=by
   rintro rfl
   exact hn f
  rw[z0c nb]
  exact e.dom b f
theorem RelE.mutG {s s':Sl} {v:V} {x:Addr} {o':HO} (r:RelE K F₀ E O F H ε σ) {i:Nat} (e:ε[i]?=some (some s)) (ho:s.isOwn=true) (hv:σ[i]?=some (some v)) (hx:x∈fpS H s v)
  (h:Kp K F H F (upd H x o')->z1z K E O F (upd H x o') s' v)
  (hp:∀b∈fpS (upd H x o') s' v,b∈fpS H s v\/∀(j:Nat) (u:Sl) (w:V),i≠j->ε[j]?=some (some u)->u.isOwn=true->σ[j]?=some (some w)->b∉fpS H u w) :
  Kp K F H F (upd H x o')/\RelE K F₀ E O F (upd H x o') (ε.set i (some s')) σ:=by
 obtain⟨v',hv',rs⟩:=r.val i s e
 rw[hv] at hv'
 cases hv'
 obtain⟨o,eo,hm⟩:=rs.at hx
 obtain⟨nF,hO,_⟩:=rs.held hx
 have hOx:=hO ho
 have kp:Kp K F H F (upd H x o'):=zp5 nF eo hm
 have h0:=r.o0 x hOx
 have keep:∀(j:Nat) (u:Sl) (w:V),i≠j->ε[j]?=some (some u)->σ[j]?=some (some w)->z1z K E O F H u w->z1z K E O F (upd H x o') u w/\fpS (upd H x o') u w=fpS H u w:=by
  intro j u w hij ej hj ru
  refine ru.keep kp (fun b hb=>z0c ?_) (fun _ _ f=>f) fun _ _ o=>o
  rintro rfl
  cases ou:u.isOwn with
  | true=>exact r.ne i j s u v w hij e ej ho ou hv hj b hx hb
  | false=>exact (ru.held hb).2.2 ou h0
 refine⟨kp,⟨by simp[r.len],fun j u e'=>?_,fun j k u w vu vw hjk e1 e2 o1 o2 h1 h2=>?_,zlv r.ent h0 nF eo hm,r.o0,fun b e'=>r.fr b ?_⟩⟩
 ·rcases z5d e' with ⟨rfl,e'',hl⟩|⟨ne,e''⟩
  ·cases e''
   exact⟨_,hv,h kp⟩
  ·obtain⟨w,h1,h2⟩:=r.val j u e''
   exact⟨w,h1,(keep j u w ne e'' h1 h2).1⟩
 ·rcases z5d e1 with ⟨rfl,e',hl⟩|⟨ne1,e1'⟩
  ·rcases z5d e2 with ⟨rfl,_,_⟩|⟨ne2,e2'⟩
   ·exact absurd rfl hjk
   ·cases e'
    rw[hv] at h1
    cases h1
    obtain⟨w',h2',r2⟩:=r.val k w e2'
    rw[h2] at h2'
    cases h2'
    rw[(keep k w vw ne2 e2' h2 r2).2]
    intro a ha hb
    rcases hp a ha with z|z
    ·exact r.ne i k s w v vw ne2 e e2' ho o2 hv h2 a z hb
    ·exact z k w vw ne2 e2' o2 h2 hb
  ·obtain⟨v1,h1',r1⟩:=r.val j u e1'
   rw[h1] at h1'
   cases h1'
   rw[(keep j u vu ne1 e1' h1 r1).2]
   rcases z5d e2 with ⟨rfl,e',hl⟩|⟨ne2,e2'⟩
   ·cases e'
    rw[hv] at h2
    cases h2
    intro a ha hb
    rcases hp a hb with z|z
    ·exact r.ne i j s u v vu ne1 e e1' ho o1 hv h1 a z ha
    ·exact z j u vu ne1 e1' o1 h1 ha
   ·obtain⟨w',h2',r2⟩:=r.val k w e2'
    rw[h2] at h2'
    cases h2'
    rw[(keep k w vw ne2 e2' h2 r2).2]
    exact r.ne j k u w vu vw hjk e1' e2' o1 o2 h1 h2
 ·by_cases nb:b=x
  ·subst nb
   rw[z0e] at e'
   cases e'
  ·rwa [z0c nb] at e'
theorem RelE.mut {s s':Sl} {a:Addr} {o o':HO} (r:RelE K F₀ E O F H ε σ) {i:Nat} (e:ε[i]?=some (some s)) (ho:s.isOwn=true) (hv:σ[i]?=some (some (.ref a))) (hn:¬F a) (ho':O a) (ha:H a=some o)
  (hk:(∃xs,o=.lst xs)\/∃xs,o=.dK xs) (h:Kp K F H F (upd H a o')->z1z K E O F (upd H a o') s' (.ref a)) (f1:∀H:Hp,fpS H s (.ref a)=[a]:=by intro _;rfl) (f2:∀H:Hp,fpS H s' (.ref a)=[a]:=by intro _;rfl) :
  Kp K F H F (upd H a o')/\RelE K F₀ E O F (upd H a o') (ε.set i (some s')) σ :=
 r.mutG e ho hv (by rw[f1];simp) h fun b hb=>by
  rw[f2] at hb
  rw[f1]
  exact .inl hb
end
noncomputable def tR (K:y00) (f:Fe):TE:=fun σ H Q=>∃F₀ H₀ O F ε t,RelE K F₀ H₀ O F H ε σ/\f ε=some t/\∀v F' H',Ext F H F' H'->RepR K O F' H' t v->Q v H'
noncomputable def tV (K:y00) (f:Fe):TE:=fun σ H Q=>∃F₀ H₀ O F ε t,RelE K F₀ H₀ O F H ε σ/\f ε=some t/\∀v F' H',Ext F H F' H'->Rep K F' H' t v->Q v H'
noncomputable def tN (K:y00) (f:Fe):TE:=fun σ H Q=>∃F₀ H₀ O F ε ts,RelE K F₀ H₀ O F H ε σ/\f ε=some (.list ts)/\∀a vs F' H',Ext F H F' H'->H a=none->¬F' a->H' a=some (.lst vs)->RepL K F' H' ts vs->Q (.ref a) H'
noncomputable def tT (K:y00) (f:Ft):TT:=fun σ H Q=>∃F₀ H₀ O F ε b,RelE K F₀ H₀ O F H ε σ/\f ε=some b/\∀F' H',Ext F H F' H'->Q b H'
noncomputable def tAR (K:y00) (fs:List Fe):TA:=fun σ H Q=>∃F₀ H₀ O F ε ts,RelE K F₀ H₀ O F H ε σ/\args fs ε=some ts/\∀vs F' H',Ext F H F' H'->Paired (RepR K O F' H') ts vs->Q vs H'
noncomputable def tAV (K:y00) (fs:List Fe):TA:=fun σ H Q=>∃F₀ H₀ O F ε ts,RelE K F₀ H₀ O F H ε σ/\args fs ε=some ts/\∀vs F' H',Ext F H F' H'->RepL K F' H' ts vs->Q vs H'
abbrev PEr (X:Cx) (e:Expr) (f:Fe):Prop:=PE X e (tR X.K f)
abbrev PEv (X:Cx) (e:Expr) (f:Fe):Prop:=PE X e (tV X.K f)
abbrev PEn (X:Cx) (e:Expr) (f:Fe):Prop:=PE X e (tN X.K f)
abbrev PTt (X:Cx) (e:Expr) (f:Ft):Prop:=PT X e (tT X.K f)
abbrev PWt (X:Cx) (e:Expr) (f:Ft):Prop:=PW X e (tT X.K f)
abbrev PAr (X:Cx) (es:List Expr) (fs:List Fe):Prop:=PA X es (tAR X.K fs)
abbrev PAv (X:Cx) (es:List Expr) (fs:List Fe):Prop:=PA X es (tAV X.K fs)
theorem z0x {X:Cx} {e:Expr} {t t':TE} (h:PE X e t) (k:∀σ H Q,t' σ H Q->t σ H Q):PE X e t':=fun pins s σ H Q I q=>h pins s σ H Q I (k σ H Q q)
theorem zg0 {X:Cx} {e:Expr} {t t':TT} (h:PT X e t) (k:∀σ H Q,t' σ H Q->t σ H Q):PT X e t':=fun pins s σ H Q I q=>h pins s σ H Q I (k σ H Q q)
theorem zty {X:Cx} {e:Expr} {t t':TT} (h:PW X e t) (k:∀σ H Q,t' σ H Q->t σ H Q):PW X e t':=fun w pins s σ H Q I q=>h w pins s σ H Q I (k σ H Q q)
theorem zm1 {X:Cx} {e:List Expr} {t t':TA} (h:PA X e t) (k:∀σ H Q,t' σ H Q->t σ H Q):PA X e t':=fun pos pins s σ H Q I q=>h pos pins s σ H Q I (k σ H Q q)
theorem z2i {X:Cx} {e:Stmt} {t t':TS} (h:PS X e t) (k:∀D σ H,t' D σ H->t D σ H):PS X e t':=fun pins s σ H D I q=>h pins s σ H D I (k D σ H q)
theorem zqo {X:Cx} {e:List Stmt} {t t':TS} (h:PSs X e t) (k:∀D σ H,t' D σ H->t D σ H):PSs X e t':=fun pins s σ H D I q=>h pins s σ H D I (k D σ H q)
section
variable {X:Cx} {e:Expr} {f:Fe}
theorem v2r (h:PEv X e f):PEr X e f:=z0x h fun σ H Q ⟨F₀,H₀,O,F,ε,t,r,e,k⟩=>⟨F₀,H₀,O,F,ε,t,r,e,fun v F' H' x q=>k v F' H' x (.inl q)⟩
theorem n2v (h:PEn X e f) (hf:∀ε t,f ε=some t->∃ts,t=.list ts):PEv X e f:=z0x h fun σ H Q ⟨F₀,H₀,O,F,ε,t,r,e,k⟩=>by
 obtain⟨ts,rfl⟩:=hf _ _ e
 refine⟨F₀,H₀,O,F,ε,ts,r,e,fun a vs F' H' x hn nf ha q=>?_⟩
 have y:Ext F H (fun b=>F' b\/b=a) H':=⟨x.same,fun b z=>.inl (x.sub b z),fun b z=>by
  rcases z with z|rfl
  ·exact x.new b z
  ·exact .inr hn,⟨fun b z=>by
  rcases z with z|rfl
  ·exact x.dom b z
  ·exact⟨_,ha⟩,x.dom.tgs⟩⟩
 refine k (.ref a) _ H' y ?_
 simp only[Rep]
 exact⟨a,vs,rfl,.inr rfl,.inl ha,q.keep (fun _ _ z=>z) fun b _ z w=>⟨.inl z,w⟩⟩
end
end
section
variable [Tbl]
section
variable {X:Cx} {a b c e:Expr} {f g h:Fe} {pos:Pos}
theorem zmj {t:T} {v:V} (he:PE X e (tC v)) (hr:∀F H,Rep X.K F H t v):PEv X e (cst t):=z0x he fun σ H Q ⟨F₀,H₀,O,F,ε,t',r,e,k⟩=>by
 cases e
 exact k v F H (Ext.refl r.dom) (hr _ _)
theorem z05 {i j}:PEv X (.Constant (.int i) j pos) (cst (.int i)):=zmj zta fun _ _=>by simp[Rep]
theorem q_bl {i j}:PEv X (.Constant (.bool i) j pos) (cst (.bool i)):=zmj zyv fun _ _=>by simp[Rep]
theorem z0b {i j}:PEv X (.Constant (.str i) j pos) (cst (.str i)):=zmj zx5 fun _ _=>by simp[Rep]
theorem z8c {j}:PEv X (.Constant .none j pos) (cst .none):=zmj zx6 fun _ _=>by simp[Rep]
theorem q_nm (i:Nat) {x:Str} (hN:X.N[i]?=some x:=by rfl) (hv:Vis X.env.scope x:=by first|exact Or.inl rfl|exact Or.inr (Or.inl rfl)|exact Or.inr (Or.inr rfl)) (hd:(x == ("__debug__":Str))=false:=by decide)
  (hcd:(x == ("__classdict__":Str))=false:=by decide):PEr X (.Name x pos) (nm i):=z0x (pv i hN hv hd hcd) fun σ H Q ⟨F₀,H₀,O,F,ε,t,r,e,k⟩=>by
 unfold nm at e
 split at e
 next t' he =>
  cases e
  obtain⟨v,h1,h2⟩:=r.val _ _ he
  exact⟨v,h1,k v F H (Ext.refl r.dom) (.inl h2)⟩
 next ts he =>
  cases e
  obtain⟨v,h1,a,vs,rfl,n,h0,hh,hr⟩:=r.val _ _ he
  exact⟨_,h1,k _ F H (Ext.refl r.dom) (.inr ⟨ts,a,vs,rfl,rfl,hh,hr⟩)⟩
 next=>cases e
theorem z07 (i:Nat) {x:Str} (hN:X.N[i]?=some x:=by rfl) (hv:Vis X.env.scope x:=by first|exact Or.inl rfl|exact Or.inr (Or.inl rfl)|exact Or.inr (Or.inr rfl)) (hd:(x == ("__debug__":Str))=false:=by decide)
  (hcd:(x == ("__classdict__":Str))=false:=by decide):PEv X (.Name x pos) (nmV i):=z0x (pv i hN hv hd hcd) fun σ H Q ⟨F₀,H₀,O,F,ε,t,r,e,k⟩=>by
 unfold nmV at e
 split at e
 next t' he =>
  cases e
  obtain⟨v,h1,h2⟩:=r.val _ _ he
  exact⟨v,h1,k v F H (Ext.refl r.dom) h2⟩
 next=>cases e
noncomputable def Op2 (K:y00) (o:T->T->Option T) (R:R2):Prop :=
 ∀(O F:Addr->Prop) (H:Hp) (x y t:T) (vx vy:V) (Q:VK),Dom F H->RepR K O F H x vx->RepR K O F H y vy->o x y=some t ->
  (∀v F' H',Ext F H F' H'->Rep K F' H' t v->Q v H')->R vx vy H Q
theorem z7l {o:T->T->Option T} {R:R2} (h:Op2 X.K o R):∀σ H Q,tV X.K (op2 o f g) σ H Q->tOp R (tR X.K f) (tR X.K g) σ H Q:=by
 rintro σ H Q ⟨F₀,H₀,O,F,ε,t,r,e,k⟩
 simp only[op2,y01] at e
 obtain⟨x,ex,y,ey,eo⟩:=e
 refine⟨F₀,H₀,O,F,ε,x,r,ex,fun vx F1 H1 x1 rx=>⟨F₀,H₀,O,F1,ε,y,r.ext x1,ey,fun vy F2 H2 x2 ry=>?_⟩⟩
 exact h O F2 H2 x y t vx vy Q x2.dom (rx.ext x2) ry eo fun v F' H' x3 q3=>k v F' H' ((x1.trans x2).trans x3) q3
theorem Inv.lstR {pins:List (Addr×Obj)} {σ:L2.St} {H:Hp} {s:y04} {l:Addr} {xs:List V} (I:Inv X pins σ H s) (hH:Rd H l (.lst xs)) :
  xs.length<=y0j/\∃(its:List Value) (n:Nat),Vals xs its/\xs.length=its.length/\s.heap.get? l=some { cls:=.type "list",data:=.seq its.toArray n }:=by
 obtain⟨z,its,n,r,e⟩:=hH.ok I.hok
 exact⟨z,its,n,r,r.length,e⟩
noncomputable def zyk:R2:=fun x y H Q=>∃l b xs zs,x=.ref l/\y=.ref b/\Rd H l (.lst xs)/\Rd H b (.lst zs)/\xs.length+zs.length<=y0j/\∀p,H p=none->Q (.ref p) (upd H p (.lst (xs++zs)))
theorem zv6:OpR X (binaryOp .Add) zyk:=by
 intro pins s σ H x y v u Q I rx ry h
 obtain⟨l,b,xs,zs,rfl,rfl,hH,hB,hz,q⟩:=h
 cases rx
 cases ry
 obtain⟨z,its,n,r,hl,e⟩:=Inv.lstR I hH
 obtain⟨z2,its2,n2,r2,hl2,e2⟩:=Inv.lstR I hB
 refine PySem.P.add_list e e2 ?_ (by rw[y0h,y0h];omega)
 have ea:its.toArray++its2.toArray=(its++its2).toArray:=by simp
 rw[ea]
 exact⟨.ref _,_,I.lnew (t':=s.toks) (r.append r2) (by rw[y27];omega),rfl,q _ I.fresh⟩
noncomputable def zwl (K:y00):R2:=fun x y H Q=>∃a b ys,x=.ref a/\y=.ref b/\SqT K H a []/\SqT K H b ys/\Q (.ref b) H
theorem zrp:OpR X (binaryOp .Add) (zwl X.K):=by
 intro pins s σ H x y v u Q I rx ry h
 obtain⟨a,b,ys,rfl,rfl,ha,hb,q⟩:=h
 cases rx
 cases ry
 obtain⟨its,r1,p1,_⟩:=I.tuple ha
 obtain⟨its2,r2,p2,_⟩:=I.tuple hb
 have ei:its=[]:=r1.nil_iff.mpr rfl
 subst ei
 obtain⟨⟨cls,dd,data,sl⟩,ho,hc,n,hd⟩:=id p1
 obtain⟨⟨cls2,dd2,data2,sl2⟩,ho2,hc2,n2,hd2⟩:=id p2
 simp only at hc hd hc2 hd2
 subst hc hd hc2 hd2
 exact concat_meets ⟨_,ho,rfl⟩ ⟨_,ho2,rfl⟩ noFill_tuple_add seq_tuple_add PySem.F.slot_tuple_add PySem.F.entry_tuple_add (PySem.F.args_tuple_add_2 _ _)
   (tuple_addW0 a b ([]:List Value).toArray its2.toArray n n2 dd dd2 sl sl2 (by simp)) ⟨ho,ho2,⟨.ref b,H,I,rfl,q⟩⟩
theorem z9v:y0j=big:=by rw[sizeLine_eq];rfl
theorem z3x (ha:PEr X a f) (hb:PEr X b g):PEv X (.BinOp a .Add b pos) (op2 oAdd f g) :=
 z0x (zml (zxe.or (zmp.or (zrp.or (zv5.or zv6)))) ha hb) (z7l (by
  intro O F H x y t vx vy Q d rx ry e k
  unfold oAdd at e
  split at e
  ·cases e
   rw[rx.int,ry.int]
   exact .inl ⟨_,_,rfl,rfl,k _ F H (Ext.refl d) (by simp[Rep])⟩
  ·split at e
   next hz =>
    cases e
    rw[rx.str,ry.str]
    exact .inr (.inl ⟨_,_,rfl,rfl,by rw[z9v];exact hz,k _ F H (Ext.refl d) (by simp[Rep])⟩)
   next=>cases e
  ·split at e
   next xs ys hz =>
    cases e
    obtain⟨ax,vs,rfl,hs,hr⟩:=rx.tup
    obtain⟨ay,ws,rfl,hs',hr'⟩:=ry.tup
    cases xs with
    | nil =>
     simp only[RepL] at hr
     subst hr
     refine .inr (.inr (.inl ⟨_,_,_,rfl,rfl,hs,hs',k _ F H (Ext.refl d) ?_⟩))
     simp only[Rep]
     exact⟨_,_,rfl,hs',by simpa using hr'⟩
    | cons x0 xr =>
     refine .inr (.inr (.inr (.inl ⟨_,_,_,_,rfl,rfl,hs,hs',?_,?_,fun e0=>?_,fun e0 p hp=>?_⟩)))
     ·intro z
      subst z
      have:=hr.length
      simp at this
     ·rw[z9v,<- hr.length,<- hr'.length]
      exact hz
     ·refine k _ F H (Ext.refl d) ?_
      subst e0
      have e1:ys=[]:=List.eq_nil_of_length_eq_zero (by rw[hr'.length];rfl)
      subst e1
      simp only[Rep]
      exact⟨_,_,rfl,hs,by simpa using hr⟩
     ·have x1:=Ext.laid (o:=.tup (vs++ws)) d hp
      refine k _ F _ x1 ?_
      simp only[Rep]
      exact⟨p,_,rfl,SqT.of z0e,(hr.append hr').ext x1⟩
   next=>cases e
  ·split at e
   next xs ys hz =>
    cases e
    obtain⟨ax,vs,rfl,hs,hr⟩:=rx.lst
    obtain⟨ay,ws,rfl,hs',hr'⟩:=ry.lst
    refine .inr (.inr (.inr (.inr ⟨_,_,_,_,rfl,rfl,hs,hs',by rw[z9v,<- hr.length,<- hr'.length];exact hz,fun p hp=>?_⟩)))
    have x1:=Ext.laidF (o:=.lst (vs++ws)) d hp
    refine k _ _ _ x1 ?_
    simp only[Rep]
    exact⟨p,_,rfl,.inr rfl,.inl z0e,(hr.append hr').ext x1⟩
   next=>cases e
  ·cases e))
noncomputable def zrd:V->List V->Hp->VK->Prop:=fun x vs H Q=>∃l b xs zs,x=.ref l/\vs=[.ref b]/\H l=some (.lst xs)/\Rd H b (.lst zs)/\xs.length+zs.length<=y0j/\Q .non (upd H l (.lst (xs++zs)))
theorem zmt:MtM X "list.extend" zrd:=by
 intro pins s σ H x vs v us Q I rx rv h
 obtain⟨l,b,xs,zs,rfl,rfl,hH,hB,hz,q⟩:=h
 cases rx
 obtain⟨u,rfl,ru⟩:=rv.one
 cases ru
 obtain⟨z,its,n,r,hl,e⟩:=I.lstM hH
 obtain⟨z2,its2,n2,r2,hl2,e2⟩:=Inv.lstR I hB
 have hsz:its.toArray.size+its2.toArray.size<=y0j:=by rw[y0h,y0h];omega
 have hlong:¬(!its.toArray.isEmpty && Builtin.List.listTooLong (its.toArray.size+its2.toArray.size))=true:=by
  rw[zgq hsz,Bool.and_false]
  exact y28
 refine call_meets F.slot_list_extend ⟨_,e,rfl⟩ F.entry_list_extend (F.args_list_extend_2 _ _)
  (AutoSeq1.list_extend_list_list_0 l its.toArray n b its2.toArray n2 hlong (by rw[y0h];omega) (by omega)) ⟨e,e2,?_⟩
 refine⟨.non,_,I.lset (its':=its++its2) hH e (by simp) (r.append r2) ?_,rfl,q⟩
 rw[y27]
 omega
theorem zwm (ha:PEr X a f) (hb:PEr X b g):PEv X (.BinOp a .Sub b pos) (op2 oSub f g) :=
 z0x (zml zxa ha hb) (z7l (by
  intro O F H x y t vx vy Q d rx ry e k
  unfold oSub at e
  split at e
  ·cases e
   rw[rx.int,ry.int]
   exact⟨_,_,rfl,rfl,k _ F H (Ext.refl d) (by simp[Rep])⟩
  ·cases e))
theorem zhy (ha:PEr X a f) (hb:PEr X b g):PEv X (.BinOp a .Mult b pos) (op2 oMul f g) :=
 z0x (zml zxb ha hb) (z7l (by
  intro O F H x y t vx vy Q d rx ry e k
  unfold oMul at e
  split at e
  ·split at e
   next hm =>
    cases e
    rw[rx.int,ry.int]
    refine⟨_,_,rfl,rfl,?_,k _ F H (Ext.refl d) (by simp[Rep])⟩
    simpa [zmr,CMul] using hm
   next=>cases e
  ·cases e))
theorem z54 (ha:PEr X a f) (hb:PEr X b g):PEv X (.BinOp a .FloorDiv b pos) (op2 oDiv f g) :=
 z0x (zml zv4 ha hb) (z7l (by
  intro O F H x y t vx vy Q d rx ry e k
  unfold oDiv at e
  split at e
  ·split at e
   next hm =>
    cases e
    rw[rx.int,ry.int]
    exact⟨_,_,rfl,rfl,hm,k _ F H (Ext.refl d) (by simp[Rep])⟩
   next=>cases e
  ·cases e))
theorem z3c (ha:PEr X a f) (hb:PEr X b g):PEv X (.BinOp a .Mod b pos) (op2 oMod f g) :=
 z0x (zml zxc ha hb) (z7l (by
  intro O F H x y t vx vy Q d rx ry e k
  unfold oMod at e
  split at e
  ·split at e
   next hm =>
    cases e
    rw[rx.int,ry.int]
    exact⟨_,_,rfl,rfl,hm,k _ F H (Ext.refl d) (by simp[Rep])⟩
   next=>cases e
  ·cases e))
theorem q_ix (ha:PEr X a f) (hb:PEr X b g) (hs:zqn b:=by intro _ _;rfl):PEv X (.Subscript a b pos) (op2 oIx f g) :=
 z0x (zyu zxo ha hb hs) (z7l (by
  intro O F H x y t vx vy Q d rx ry e k
  unfold oIx at e
  split at e
  ·obtain⟨ax,vs,rfl,hs,hr⟩:=rx.tup
   rw[ry.int]
   simp only[atZ,y01] at e
   obtain⟨j,hj,et⟩:=e
   obtain⟨v,hv,rv⟩:=hr.get et
   refine .inr (.inl ⟨_,_,_,v,rfl,rfl,hs,?_,k _ F H (Ext.refl d) rv⟩)
   rw[hr.length] at hj
   show (ixN _ _).bind _=_
   rw[show ixN vs.length _=some j from hj]
   exact hv
  ·obtain⟨ax,vs,rfl,hs,hr⟩:=rx.lst
   rw[ry.int]
   simp only[atZ,y01] at e
   obtain⟨j,hj,et⟩:=e
   obtain⟨v,hv,rv⟩:=hr.get et
   refine .inl ⟨_,_,_,v,rfl,rfl,.inl hs,?_,k _ F H (Ext.refl d) rv⟩
   rw[hr.length] at hj
   show (ixN _ _).bind _=_
   rw[show ixN vs.length _=some j from hj]
   exact hv
  ·split at e
   next hz =>
    rw[rx.str,ry.int]
    simp only[y07] at e
    obtain⟨c,hc,rfl⟩:=e
    exact .inr (.inr ⟨_,_,c,rfl,rfl,by rw[z9v];exact hz,hc,k _ F H (Ext.refl d) (by simp[Rep])⟩)
   next=>cases e
  ·cases e))
end
end
section
variable [Tbl]
noncomputable def DO (K:y00) (F₀:Addr->Prop) (H₀:En) (O F:Addr->Prop) (H:Hp) (D:Ends):Out->Prop
 | .nx ε'=>∀σ' F' H',Kp K F H F' H'->RelE K F₀ H₀ O F' H' ε' σ'->D.nx σ' H'
 | .rt t=>∀v F' H',Ext F₀ H₀.h F' H'->Rep K F' H' t v->D.rt v H'
 | .rtm t ε'=>∀v σ' F' H',RelE K F₀ H₀ O F' H' ε' σ'->Rep K F' H' t v->D.rt v H'
 | .rto s=>∀a F' H',Ext F₀ H₀.h F' H'->z1z K H₀ O F' H' s (.ref a)->D.rt (.ref a) H'
 | .bk ε'=>∀σ' F' H',Kp K F H F' H'->RelE K F₀ H₀ O F' H' ε' σ'->D.bk σ' H'
 | .ct ε'=>∀σ' F' H',Kp K F H F' H'->RelE K F₀ H₀ O F' H' ε' σ'->D.ct σ' H'
noncomputable def tS (K:y00) (g:Fs):TS:=fun D σ H=>∃F₀ H₀ O F ε o,RelE K F₀ H₀ O F H ε σ/\g ε=some o/\DO K F₀ H₀ O F H D o
abbrev PSt (X:Cx) (s:Stmt) (g:Fs):Prop:=PS X s (tS X.K g)
abbrev PBt (X:Cx) (s:List Stmt) (g:Fs):Prop:=PSs X s (tS X.K g)
theorem DO.kp {K:y00} {F₀ O F F1:Addr->Prop} {H₀:En} {H H1:Hp} {D:Ends} {o:Out} (h:DO K F₀ H₀ O F H D o) (x:Kp K F H F1 H1):DO K F₀ H₀ O F1 H1 D o:=by
 cases o with
 | nx ε=>exact fun σ' F' H' k r=>h σ' F' H' (x.trans k) r
 | rt t=>exact h
 | bk ε=>exact fun σ' F' H' k r=>h σ' F' H' (x.trans k) r
 | ct ε=>exact fun σ' F' H' k r=>h σ' F' H' (x.trans k) r
 | rtm t ε=>exact h
 | rto s=>exact h
section
variable {X:Cx} {e a b c:Expr} {f:Fe} {g g':Fs} {ft:Ft} {st:Stmt} {rest:List Stmt} {pos:Pos}
theorem z2q:PBt X [] skip:=zqo zum fun D σ H ⟨F₀,H₀,O,F,ε,o,r,e,k⟩=>by
 cases e
 exact k σ F H Kp.refl r
theorem z09 (h:PSt X st g):PBt X [st] g:=zul h
theorem z04 (h1:PSt X st g) (h2:PBt X rest g'):PBt X (st::rest) (seq g g'):=zqo (zri h1 h2) fun D σ H ⟨F₀,H₀,O,F,ε,o,r,e,k⟩=>by
 simp only[seq,y01] at e
 obtain⟨o1,e1,e2⟩:=e
 refine⟨F₀,H₀,O,F,ε,o1,r,e1,?_⟩
 cases o1 with
 | nx ε'=>exact fun σ' F' H' x r'=>⟨F₀,H₀,O,F',ε',o,r',e2,k.kp x⟩
 | rt t =>
  cases e2
  exact k
 | bk ε' =>
  cases e2
  exact k
 | ct ε' =>
  cases e2
  exact k
 | rtm t ε' =>
  cases e2
  exact k
 | rto s =>
  cases e2
  exact k
theorem z1h (h:PEv X e f):PSt X (.Return (some e) pos) (rtn f):=z2i (zi2 h) fun D σ H ⟨F₀,H₀,O,F,ε,o,r,e,k⟩=>by
 simp only[rtn,y07] at e
 obtain⟨t,et,rfl⟩:=e
 exact⟨F₀,H₀,O,F,ε,t,r,et,fun v F' H' x q=>k v F' H' (r.ent.trans x) q⟩
theorem zla (i:Nat) {x:Str} {npos:Pos} (hN:X.N[i]?=some x:=by rfl) (hv:Vis X.env.scope x:=by first|exact Or.inl rfl|exact Or.inr (Or.inl rfl)|exact Or.inr (Or.inr rfl)) (hd:(x == ("__debug__":Str))=false:=by decide)
  (hcd:(x == ("__classdict__":Str))=false:=by decide):PSt X (.Return (some (.Name x npos)) pos) (rtn (nm i)):=z2i (zi2 (pv i hN hv hd hcd)) fun D σ H ⟨F₀,H₀,O,F,ε,o,r,e,k⟩=>by
 simp only[rtn,y07] at e
 obtain⟨t,et,rfl⟩:=e
 unfold nm at et
 split at et
 next t' he =>
  cases et
  obtain⟨v,h1,h2⟩:=r.val _ _ he
  exact⟨v,h1,k v F H r.ent h2⟩
 next ts he =>
  cases et
  obtain⟨v,h1,a,vs,rfl,n,h0,ha,q⟩:=r.val _ _ he
  have x2:=r.ent
  have y:Ext F₀ H₀.h (fun b=>F b\/b=a) H:=⟨x2.same,fun b z=>.inl (x2.sub b z),fun b z=>by
   rcases z with z|rfl
   ·exact x2.new b z
   ·exact .inr (r.o0 _ h0),⟨fun b z=>by
   rcases z with z|rfl
   ·exact x2.dom b z
   ·exact⟨_,ha⟩,x2.dom.tgs⟩⟩
  refine⟨_,h1,k _ _ H y ?_⟩
  simp only[Rep]
  exact⟨a,vs,rfl,.inr rfl,.inl ha,q.keep (fun _ _ z=>z) fun b _ z w=>⟨.inl z,w⟩⟩
 next=>cases et
theorem s_if (hc:PTt X c ft) (ha:PBt X rest g) {els:List Stmt} (hb:PBt X els g'):PSt X (.If c rest els pos) (iff ft g g'):=z2i (zyq hc ha hb) fun D σ H ⟨F₀,H₀,O,F,ε,o,r,e,k⟩=>by
 simp only[iff,y01] at e
 obtain⟨b,eb,e⟩:=e
 refine⟨F₀,H₀,O,F,ε,b,r,eb,fun F' H' x=>?_⟩
 cases b with
 | true=>exact iteT ⟨F₀,H₀,O,F',ε,o,r.ext x,by simpa using e,k.kp x.kp⟩
 | false=>exact iteF ⟨F₀,H₀,O,F',ε,o,r.ext x,by simpa using e,k.kp x.kp⟩
theorem z0z (i:Nat) {x:Str} {pos':Pos} (hN:X.N.Nodup) (he:PEv X e f) (hi:X.N[i]?=some x:=by rfl) (hx:Loc X.env.scope x:=by first|exact Or.inl rfl|exact Or.inr rfl)
  (hs:swapsWith e (some (.Name x pos')) pos.line X.env=pure false:=by rfl) (hf:X.fn x=true\/X.env.scope.names.lookup x=some .local:=by first|exact .inl rfl|exact .inr rfl) :
  PSt X (.Assign [.Name x pos'] e pos) (asg i f):=z2i (zlh hN hi hx he hs hf) fun D σ H ⟨F₀,H₀,O,F,ε,o,r,e,k⟩=>by
 simp only[asg,y07] at e
 obtain⟨t,et,rfl⟩:=e
 refine⟨F₀,H₀,O,F,ε,t,r,et,fun v F' H' x q=>?_⟩
 exact k _ F' H' x.kp ((r.ext x).set i q)
theorem zt5 (i:Nat) {x:Str} {pos':Pos} (hN:X.N.Nodup) (he:PEn X e f) (hi:X.N[i]?=some x:=by rfl) (hx:Loc X.env.scope x:=by first|exact Or.inl rfl|exact Or.inr rfl)
  (hs:swapsWith e (some (.Name x pos')) pos.line X.env=pure false:=by rfl) (hf:X.fn x=true\/X.env.scope.names.lookup x=some .local:=by first|exact .inl rfl|exact .inr rfl) :
  PSt X (.Assign [.Name x pos'] e pos) (asgN i f):=z2i (zlh hN hi hx he hs hf) fun D σ H ⟨F₀,H₀,O,F,ε,o,r,e,k⟩=>by
 simp only[asgN,y01] at e
 obtain⟨t,et,e⟩:=e
 split at e
 next ts =>
  cases e
  refine⟨F₀,H₀,O,F,ε,ts,r,et,fun a vs F' H' x hn nf ha q=>?_⟩
  exact k _ F' H' x.kp (r.setNew (s:=.own ts) i x ⟨a,vs,rfl,nf,r.fr a hn,ha,q⟩ fun b hb=>by
   have:b=a:=by simpa [fpS,rf] using hb
   rw[this]
   exact hn)
 next=>cases e
noncomputable def tG (K:y00) (g:Fg):TG:=fun v σ H Q=>∃F₀ H₀ O F ε t ε',RelE K F₀ H₀ O F H ε σ/\Rep K F H t v/\g t ε=some ε'/\∀σ',RelE K F₀ H₀ O F H ε' σ'->Q σ' H
noncomputable def tGs (K:y00) (gs:List Fg):TGs:=fun vs σ H Q=>∃F₀ H₀ O F ε ts ε',RelE K F₀ H₀ O F H ε σ/\RepL K F H ts vs/\gAll gs ts ε=some ε'/\∀σ',RelE K F₀ H₀ O F H ε' σ'->Q σ' H
abbrev PGt (X:Cx) (e:Expr) (g:Fg):Prop:=PG X e (tG X.K g)
abbrev PGst (X:Cx) (es:List Expr) (gs:List Fg):Prop:=PGs X es (tGs X.K gs)
theorem zu0 {X:Cx} {e:Expr} {t t':TG} (h:PG X e t) (k:∀v σ H Q,t' v σ H Q->t v σ H Q):PG X e t':=fun pins s σ H v u Q I r q=>h pins s σ H v u Q I r (k v σ H Q q)
theorem zqp {X:Cx} {e:List Expr} {t t':TGs} (h:PGs X e t) (k:∀v σ H Q,t' v σ H Q->t v σ H Q):PGs X e t':=fun pins s σ H v u Q I r q=>h pins s σ H v u Q I r (k v σ H Q q)
theorem g_nm (i:Nat) {x:Str} (hN:X.N.Nodup) (hi:X.N[i]?=some x:=by rfl) (hx:Loc X.env.scope x:=by first|exact Or.inl rfl|exact Or.inr rfl)
  (hf:X.fn x=true\/X.env.scope.names.lookup x=some .local:=by first|exact .inl rfl|exact .inr rfl):PGt X (.Name x pos) (gNm i):=zu0 (zuv hN hi hx hf) fun v σ H Q ⟨F₀,H₀,O,F,ε,t,ε',r,q,e,k⟩=>by
 cases e
 exact k _ (r.set i q)
theorem zck:PGst X [] []:=zqp zuu fun vs σ H Q ⟨F₀,H₀,O,F,ε,ts,ε',r,q,e,k⟩=>by
 cases ts with
 | nil =>
  cases e
  simp only[RepL] at q
  exact⟨q,k σ r⟩
 | cons t ts=>cases e
theorem z2a {es:List Expr} {g:Fg} {gs:List Fg} (h1:PGt X e g) (h2:PGst X es gs) (hs:(assignEach (e::es) X.env).map (·.2)=assign e X.env::(assignEach es X.env).map (·.2):=by rfl):PGst X (e::es) (g::gs) :=
 zqp (zrl h1 h2 hs) fun vs σ H Q ⟨F₀,H₀,O,F,ε,ts,ε',r,q,e,k⟩=>by
 cases ts with
 | nil=>cases e
 | cons t ts =>
  simp only[gAll,y01] at e
  obtain⟨ε1,e1,e2⟩:=e
  simp only[RepL] at q
  obtain⟨v,vr,rfl,q1,q2⟩:=q
  exact⟨v,vr,rfl,F₀,H₀,O,F,ε,t,ε1,r,q1,e1,fun σ1 r1=>⟨F₀,H₀,O,F,ε1,ts,ε',r1,q2,e2,k⟩⟩
theorem zlr:∀{gs:List Fg} {ts:List T} {ε ε':Ev},gAll gs ts ε=some ε'->ts.length=gs.length
 | [],[],_,_,_=>rfl
 | [],_::_,_,_,h=>by cases h
 | _::_,[],_,_,h=>by cases h
 | g::gs,t::ts,ε,ε',h=>by
  simp only[gAll,y01] at h
  obtain⟨ε1,_,h⟩:=h
  simp[zlr h]
theorem zcj {es:List Expr} {k:Nat} {gs:List Fg} (h:PGst X es gs) (hc:X.calm=true:=by rfl) (hn:(assignEach es X.env).length=gs.length:=by rfl) (hst:(assignEach es X.env).findIdx? (·.1)=none:=by rfl) :
  PGt X (.Tuple es k pos) (gTu gs):=zu0 (zx2 hc h hn hst) fun v σ H Q ⟨F₀,H₀,O,F,ε,t,ε',r,q,e,k⟩=>by
 unfold gTu at e
 split at e
 next ts =>
  simp only[Rep] at q
  obtain⟨a,vs,rfl,hs,hr⟩:=q
  exact⟨a,vs,rfl,hs,by rw[<- hr.length];exact zlr e,F₀,H₀,O,F,ε,ts,ε',r,hr,e,k⟩
 next=>cases e
theorem zwg {tg:Expr} {g:Fg} (he:PEv X e f) (hg:PGt X tg g) (hs:swapsWithSole [tg] e pos.line X.env=pure false:=by rfl) (hw:swappedStores [tg] e X.env=pure none:=by rfl)
  (h1:(assignEach [tg] X.env).map (·.2)=[assign tg X.env]:=by rfl):PSt X (.Assign [tg] e pos) (asgT g f):=z2i (zx0 he hg hs hw h1) fun D σ H ⟨F₀,H₀,O,F,ε,o,r,e,k⟩=>by
 simp only[asgT,y01,y07] at e
 obtain⟨t,et,ε',eg,rfl⟩:=e
 refine⟨F₀,H₀,O,F,ε,t,r,et,fun v F' H' x q=>?_⟩
 exact⟨F₀,H₀,O,F',ε,t,ε',r.ext x,q,eg,fun σ' r'=>k σ' F' H' x.kp r'⟩
structure ItOk (K:y00) (J:It) (F1:Addr->Prop) (H1:Hp) (ts:List T):Prop where
 go:∀i F H t,Kp K F1 H1 F H->Dom F H->ts[i]?=some t->J.go i H
 yld:∀i F H t x H',Kp K F1 H1 F H->Dom F H->ts[i]?=some t->J.yld i H x H'->∃F',Ext F H F' H'/\Rep K F' H' t x
 stop:∀i F H,Kp K F1 H1 F H->ts.length<=i->J.stop i H
noncomputable def tI (K:y00) (f:Fi):TI:=fun σ H R=>∃F₀ H₀ O F ε ts,RelE K F₀ H₀ O F H ε σ/\f ε=some ts/\∀J F' H',Ext F H F' H'->ItOk K J F' H' ts->R J H'
abbrev PIt (X:Cx) (tg e:Expr) (f:Fi):Prop:=PI X tg e (tI X.K f)
theorem zjm {X:Cx} {tg e:Expr} {t t':TI} (h:PI X tg e t) (k:∀σ H R,t' σ H R->t σ H R):PI X tg e t':=fun pins s σ H R I q=>h pins s σ H R I (k σ H R q)
theorem zpa {K:y00} {a:Addr} {F1:Addr->Prop} {H1:Hp} {ts:List T} {vs:List V} (fa:F1 a) (hr:Rd H1 a (.lst vs)) (q:RepL K F1 H1 ts vs):ItOk K (Itl K a) F1 H1 ts where
 go:=fun i F H t kp d e=>by
  obtain⟨v,h1,_⟩:=q.get e
  exact⟨vs,v,.inl (kp.lst _ _ fa hr).2,h1⟩
 yld:=fun i F H t x H' kp d e y=>by
  obtain⟨rfl,y⟩:=y
  obtain⟨v,h1,h2⟩:=(q.kp kp).get e
  have:=y vs (.inl (kp.lst _ _ fa hr).2)
  rw[h1] at this
  cases this
  exact⟨F,Ext.refl d,h2⟩
 stop:=fun i F H kp hl=>⟨vs,.inl (kp.lst _ _ fa hr).2,by rw[<- q.length];exact hl⟩
theorem zs7 {K:y00} {a:Addr} {F1:Addr->Prop} {H1:Hp} {ts:List T} {vs:List V} (hr:SqT K H1 a vs) (q:RepL K F1 H1 ts vs):ItOk K (Itt K a) F1 H1 ts where
 go:=fun i F H t kp d e=>by
  obtain⟨v,h1,_⟩:=q.get e
  exact⟨vs,v,kp.tup _ _ hr,h1⟩
 yld:=fun i F H t x H' kp d e y=>by
  obtain⟨rfl,y⟩:=y
  obtain⟨v,h1,h2⟩:=(q.kp kp).get e
  have:=y vs (kp.tup _ _ hr)
  rw[h1] at this
  cases this
  exact⟨F,Ext.refl d,h2⟩
 stop:=fun i F H kp hl=>⟨vs,kp.tup _ _ hr,by rw[<- q.length];exact hl⟩
theorem zjz (lo hi:Int):(rng lo hi).length=(hi - lo).toNat:=by simp[rng]
theorem zs8 {K:y00} {F1:Addr->Prop} {H1:Hp} (lo hi:Int):ItOk K (Itr lo (hi - lo).toNat) F1 H1 (rng lo hi) where
 go:=fun i F H t kp d e=>by
  have h:=(y0k.mp e).1
  rw[zjz] at h
  exact h
 yld:=fun i F H t x H' kp d e y=>by
  obtain⟨rfl,rfl⟩:=y
  refine⟨F,Ext.refl d,?_⟩
  have h:=(y0k.mp e).1
  rw[zjz] at h
  unfold rng at e
  rw[y15,List.getElem?_range h] at e
  simp at e
  subst e
  simp[Rep]
 stop:=fun i F H kp hl=>by
  rw[zjz] at hl
  exact hl
noncomputable def iSq (K:y00) (tl:TE):TI:=fun σ H R=>tl σ H fun x H1=>∃a,x=.ref a/\(((∃xs,SqL K H1 a xs)/\R (Itl K a) H1)\/((∃xs,SqT K H1 a xs)/\R (Itt K a) H1))
theorem zyr {tg l:Expr} {tl:TE} (hl:PE X l tl):PI X tg l (iSq X.K tl):=by
 intro pins s σ H R I h
 refine thn (hl pins s σ H _ I h) fun v s1 ⟨x,H1,I1,r1,a,e1,q⟩=>?_
 subst e1
 cases r1
 have fp:∀b∈[s1.heap.objs.size],FpOk X pins H1 b:=fun b hb=>by
  have e:b=s1.heap.objs.size:=by simpa using hb
  subst e
  exact I1.fpOk (y0o _) (I1.hok.fresh (y0o _))
 rcases q with ⟨⟨xs,hq⟩,q⟩|⟨⟨xs,hq⟩,q⟩
 ·obtain⟨its,rv,p,hz⟩:=I1.list hq
  refine wpAny_pyIter_list p.isList ?_
  exact⟨s1.heap.objs.size,[s1.heap.objs.size],_,_,H1,rfl,I1.kept (t':=s1.toks) fun b o e=>y03 _ e,znq a _,⟨_,y0l _ rfl,rfl,rfl⟩,fp,q⟩
 ·obtain⟨its,rv,p,hz⟩:=I1.tuple hq
  refine wpAny_pyIter_tuple (show s1.heap.IsTuple a its.toArray from p) ?_
  exact⟨s1.heap.objs.size,[s1.heap.objs.size],_,_,H1,rfl,I1.kept (t':=s1.toks) fun b o e=>y03 _ e,zma a _,⟨_,y0l _ rfl,rfl,rfl⟩,fp,q⟩
theorem z75 {tg l:Expr} {f:Fe} (hl:PEv X l f):PIt X tg l (z0v f):=zjm (zyr hl) fun σ H R ⟨F₀,H₀,O,F,ε,ts,r,e,k⟩=>by
 simp only[z0v,y01] at e
 obtain⟨t,et,e⟩:=e
 split at e
 ·cases e
  refine⟨F₀,H₀,O,F,ε,_,r,et,fun v F' H' x q=>?_⟩
  simp only[Rep] at q
  obtain⟨a,vs,rfl,hs,hr⟩:=q
  exact⟨a,rfl,.inr ⟨⟨vs,hs⟩,k _ F' H' x (zs7 hs hr)⟩⟩
 ·cases e
  refine⟨F₀,H₀,O,F,ε,_,r,et,fun v F' H' x q=>?_⟩
  simp only[Rep] at q
  obtain⟨a,vs,rfl,fa,hs,hr⟩:=q
  exact⟨a,rfl,.inl ⟨⟨vs,.inl hs⟩,k _ F' H' x (zpa fa hs hr)⟩⟩
 ·cases e
theorem zln {tg a:Expr} {f:Fe} {p pos:Pos} (hm:X.mg "range"=none) (ha:PEr X a f) (hg:Gl X "range":=by rfl) (hs:y0a [a] X.env=[(false,eval a X.env)]:=by rfl) (hs2:y0a [a] X.env=(false,eval a X.env)::y0a [] X.env:=by rfl) :
  PIt X tg (.Call (.Name "range" p) [a] [] pos) (z2w f):=zjm (zoi hg hm (z2y ha z6o hs2) hs) fun σ H R ⟨F₀,H₀,O,F,ε,ts,r,e,k⟩=>by
 simp only[z2w,y01] at e
 obtain⟨t,et,e⟩:=e
 split at e
 next j =>
  split at e
  next hz =>
   cases e
   refine⟨F₀,H₀,O,F,ε,_,r,et,fun v F' H' x q=>⟨j,by rw[q.int],?_,?_,k _ F' H' x (by simpa using zs8 0 j)⟩⟩
   ·simp[z6w] at hz
    omega
   ·simp[z6w] at hz
    omega
  next=>cases e
 next=>cases e
theorem z9i {tg iter:Expr} {body:List Stmt} {it:Fi} {gg:Fg} {bb:Fs} (hp:PassesOwn (model X.prog X.w) X.A X.env X.xe) (hi:PIt X tg iter it) (hg:PGt X tg gg) (hb:PBt X body bb) (hc:X.calm=true:=by rfl)
  (hs:∀x,foldedSetIterable iter X.env x=pure x:=by intro _;rfl):PSt X (.For tg iter body [] pos) (for_ it gg bb):=z2i (zwz hp hc hi hg hb hs) fun D σ H ⟨F₀,H₀,O,F,ε,o,r,e,k⟩=>by
 simp only[for_,y01] at e
 obtain⟨ts,et,e⟩:=e
 refine⟨F₀,H₀,O,F,ε,ts,r,et,fun J F1 H1 x1 ok=>?_⟩
 refine⟨fun i m σ' H'=>m=ts.length - i/\i<=ts.length/\∃F' ε' ,Kp X.K F1 H1 F' H'/\RelE X.K F₀ H₀ O F' H' ε' σ'/\forL gg bb (ts.drop i) ε'=some o,⟨_,rfl,y29 _,F1,ε,Kp.refl,r.ext x1,by simpa using e⟩,?_⟩
 rintro i m σ' H' ⟨rfl,hi',F',ε',kp,r',e'⟩
 by_cases hlt:i<ts.length
 ·have hd:ts.drop i=ts[i]::ts.drop (i+1):=List.drop_eq_getElem_cons hlt
  have hg':ts[i]?=some ts[i]:=y0v hlt
  rw[hd] at e'
  simp only[forL,y01] at e'
  obtain⟨ε1,eg,o1,eb,e'⟩:=e'
  refine .inr ⟨ok.go i F' H' _ kp r'.dom hg',fun σ2 H2=>∃m',m'<ts.length - i/\(m'=ts.length - (i+1)/\i+1<=ts.length/\∃F2 ε2,Kp X.K F1 H1 F2 H2/\RelE X.K F₀ H₀ O F2 H2 ε2 σ2/\forL gg bb (ts.drop (i+1)) ε2=some o),fun _ _ z=>z,fun x H2 y=>?_⟩
  obtain⟨F2,x2,rx⟩:=ok.yld i F' H' _ x H2 kp r'.dom hg' y
  refine⟨F₀,H₀,O,F2,ε',_,ε1,r'.ext x2,rx,eg,fun σ3 r3=>⟨F₀,H₀,O,F2,ε1,o1,r3,eb,?_⟩⟩
  have kp2:Kp X.K F1 H1 F2 H2:=kp.trans x2.kp
  cases o1 with
  | nx ε2=>exact fun σ4 F4 H4 k4 r4=>⟨_,by omega,rfl,hlt,F4,ε2,kp2.trans k4,r4,e'⟩
  | ct ε2=>exact fun σ4 F4 H4 k4 r4=>⟨_,by omega,rfl,hlt,F4,ε2,kp2.trans k4,r4,e'⟩
  | bk ε2 =>
   cases e'
   exact fun σ4 F4 H4 k4 r4=>k σ4 F4 H4 ((x1.kp.trans kp2).trans k4) r4
  | rt t =>
   cases e'
   exact k
  | rtm t ε2 =>
   cases e'
   exact k
  | rto s =>
   cases e'
   exact k
 ·have hd:ts.drop i=[]:=List.drop_eq_nil_of_le (by omega)
  rw[hd] at e'
  cases e'
  exact .inl ⟨ok.stop i F' H' kp (by omega),k σ' F' H' (x1.kp.trans kp) r'⟩
theorem zyg (i:Nat) {x:Str} {px apos cpos:Pos} (he:PEr X e f) (hN:X.N[i]?=some x:=by rfl) (hv:Vis X.env.scope x:=by first|exact Or.inl rfl|exact Or.inr (Or.inl rfl)|exact Or.inr (Or.inr rfl)) (hd:(x == ("__debug__":Str))=false:=by decide)
  (hcd:(x == ("__classdict__":Str))=false:=by decide) (hs1:y0a [e] X.env=(false,eval e X.env)::y0a [] X.env:=by rfl)
  (hbase:attributeBase (.Name x px) "extend" X.env (eval (.Name x px) X.env)=eval (.Name x px) X.env:=by rfl)
  (hfew:((backTo cpos (y0a [e] X.env)).all (fun x=>!x.1) && (backToKw cpos (keywordEach [] X.env)).all (fun x=>x.1.isSome)
   && decide (([e]:List Expr).length+([]:List Keyword).length+(if ([]:List Keyword).isEmpty then 0 else 1)<30))=true:=by rfl)
  (hline:(apos.endLine == cpos.line)=true:=by rfl) (hplain:(backTo cpos (y0a [] X.env)).any (·.1)=false:=by rfl)
  (hsw:swapsWith (.Call (.Attribute (.Name x px) "extend" apos) [e] [] cpos) none pos.line X.env=pure false:=by rfl) :
  PSt X (.Expr (.Call (.Attribute (.Name x px) "extend" apos) [e] [] cpos) pos) (ext i f) :=
 z2i (z9y (zro PySem.F.plainAttrs_list PySem.F.slot_list_extend PySem.F.type_list_extend zmt (pv i hN hv hd hcd) (z2y he z6o hs1) hbase hfew hline hs1 hplain) hsw) fun D σ H ⟨F₀,H₀,O,F,ε,o,r,e,k⟩=>by
 unfold ext at e
 split at e
 next ts he =>
  simp only[y01] at e
  obtain⟨t,et,e⟩:=e
  split at e
  next us =>
   split at e
   next hz =>
    cases e
    obtain⟨v,h1,a,vs,rfl,n,h0,hh,hr⟩:=r.val _ _ he
    refine⟨_,h1,.inl ⟨rfl,_,SqL.of hh⟩,F₀,H₀,O,F,ε,_,r,et,fun v F' H' x q=>?_⟩
    obtain⟨b,ws,rfl,hb,hw⟩:=q.lst
    have r1:=r.ext x
    obtain⟨v1,h1',a1,vs1,e1,n1,h01,hh1,hr1⟩:=r1.val _ _ he
    rw[h1] at h1'
    cases h1'
    cases e1
    refine⟨a,b,vs1,ws,rfl,rfl,hh1,hb,by rw[z9v,<- hr1.length,<- hw.length];exact hz,?_⟩
    obtain⟨kp,r2⟩:=r1.mut (s':=.own (ts++us)) (o':=.lst (vs1++ws)) he rfl h1 n1 h0 hh1 (.inl ⟨_,rfl⟩) fun kp=>⟨a,_,rfl,n1,h0,z0e,(hr1.kp kp).append (hw.kp kp)⟩
    exact k σ F' _ (x.kp.trans kp) r2
   next=>cases e
  next=>cases e
 next=>cases e
end
end
section
variable [Tbl]
section
variable {X:Cx} {a b c e:Expr} {es:List Expr} {f g h:Fe} {fs:List Fe} {ft gt:Ft} {pos p:Pos}
theorem z3p:PAr X [] []:=zm1 z6o fun σ H Q ⟨F₀,H₀,O,F,ε,ts,r,e,k⟩=>by
 cases e
 exact k [] F H (Ext.refl r.dom) .nil
theorem z1j (ha:PEr X e f) (hr:PAr X es fs) (hs:y0a (e::es) X.env=(false,eval e X.env)::y0a es X.env:=by rfl):PAr X (e::es) (f::fs):=zm1 (z2y ha hr hs) fun σ H Q ⟨F₀,H₀,O,F,ε,ts,r,e,k⟩=>by
 simp only[args,y01,y07] at e
 obtain⟨t,et,us,eu,rfl⟩:=e
 refine⟨F₀,H₀,O,F,ε,t,r,et,fun v F1 H1 x1 q1=>⟨F₀,H₀,O,F1,ε,us,r.ext x1,eu,fun vs F2 H2 x2 q2=>?_⟩⟩
 exact k _ F2 H2 (x1.trans x2) (.cons (q1.ext x2) q2)
theorem z03:PAv X [] []:=zm1 z6o fun σ H Q ⟨F₀,H₀,O,F,ε,ts,r,e,k⟩=>by
 cases e
 exact k [] F H (Ext.refl r.dom) RepL.nil
theorem z00 (ha:PEv X e f) (hr:PAv X es fs) (hs:y0a (e::es) X.env=(false,eval e X.env)::y0a es X.env:=by rfl):PAv X (e::es) (f::fs):=zm1 (z2y ha hr hs) fun σ H Q ⟨F₀,H₀,O,F,ε,ts,r,e,k⟩=>by
 simp only[args,y01,y07] at e
 obtain⟨t,et,us,eu,rfl⟩:=e
 refine⟨F₀,H₀,O,F,ε,t,r,et,fun v F1 H1 x1 q1=>⟨F₀,H₀,O,F1,ε,us,r.ext x1,eu,fun vs F2 H2 x2 q2=>?_⟩⟩
 exact k _ F2 H2 (x1.trans x2) (RepL.cons (q1.ext x2) q2)
theorem z0n {x1} (h:PAv X es fs):PEv X (.Tuple es x1 pos) (z06 fs):=z0x (zx4 h) fun σ H Q ⟨F₀,H₀,O,F,ε,t,r,e,k⟩=>by
 simp only[z06,y01] at e
 obtain⟨ts,et,e⟩:=e
 split at e
 next hz =>
  cases e
  refine⟨F₀,H₀,O,F,ε,ts,r,et,fun vs F1 H1 x1 q1=>⟨by rw[z9v,<- q1.length];exact hz,fun p hp=>?_⟩⟩
  have x2:=Ext.laid (o:=.tup vs) x1.dom hp
  refine k _ F1 _ (x1.trans x2) ?_
  simp only[Rep]
  exact⟨p,vs,rfl,SqT.of z0e,q1.ext x2⟩
 next=>cases e
theorem zhz (h:PAv X es fs):PEn X (.List es pos) (z29 fs):=z0x (zx7 h) fun σ H Q ⟨F₀,H₀,O,F,ε,us,r,e,k⟩=>by
 simp only[z29,y01] at e
 obtain⟨ts,et,e⟩:=e
 split at e
 next hz =>
  cases e
  refine⟨F₀,H₀,O,F,ε,_,r,et,fun vs F1 H1 x1 q1=>⟨by rw[z9v,<- q1.length];exact hz,fun p hp=>?_⟩⟩
  have x2:=Ext.laid (o:=.lst vs) x1.dom hp
  refine k p vs F1 _ (x1.trans x2) ?_ ?_ z0e (q1.ext x2)
  ·exact x1.same.none hp
  ·intro fp
   obtain⟨o,eo⟩:=x1.dom p fp
   rw[hp] at eo
   cases eo
 next=>cases e
theorem zt6 (h:PAv X es fs):PEv X (.List es pos) (z29 fs):=n2v (zhz h) fun ε t e=>by
 simp only[z29,y01] at e
 obtain⟨ts,et,e⟩:=e
 split at e
 ·cases e
  exact⟨_,rfl⟩
 ·cases e
mutual
theorem zlg {F:Addr->Prop} {pins:List (Addr×Obj)} {σ:L2.St} {H:Hp} {s:y04} (I:Inv X pins σ H s):∀{t:T} {v:V} {u:Value},Rep X.K F H t v->RelV v u->∃as,Reads s.heap u t as
 | .none,v,u,h,r=>by
  simp only[Rep] at h
  subst h
  cases r
  exact⟨_,.none⟩
 | .bool b,v,u,h,r=>by
  simp only[Rep] at h
  subst h
  cases r
  exact⟨_,.bool b⟩
 | .int i,v,u,h,r=>by
  simp only[Rep] at h
  subst h
  obtain⟨t,rfl⟩:=r
  exact⟨_,.int i t⟩
 | .str x,v,u,h,r=>by
  simp only[Rep] at h
  subst h
  obtain⟨t,rfl⟩:=r
  exact⟨_,.str x t⟩
 | .dict _,v,u,h,r=>by simp[Rep] at h
 | .tuple ts,v,u,h,r=>by
  simp only[Rep] at h
  obtain⟨a,vs,rfl,hs,hr⟩:=h
  cases r
  obtain⟨its,rv,⟨o,h1,h2,n,h3⟩,hz⟩:=I.tuple hs
  obtain⟨as,ra⟩:=zar I hr rv
  exact⟨_,.tuple h1 h2 h3 (by simpa using ra)⟩
 | .list ts,v,u,h,r=>by
  simp only[Rep] at h
  obtain⟨a,vs,rfl,fa,hs,hr⟩:=h
  cases r
  obtain⟨z,its,n,rv,hl,e⟩:=Inv.lstR I hs
  obtain⟨as,ra⟩:=zar I hr rv
  exact⟨_,.list e rfl rfl (by simpa using ra)⟩
theorem zar {F:Addr->Prop} {pins:List (Addr×Obj)} {σ:L2.St} {H:Hp} {s:y04} (I:Inv X pins σ H s):∀{ts:List T} {vs:List V} {us:List Value},RepL X.K F H ts vs->Vals vs us->∃as,ReadsAll s.heap us ts as
 | [],vs,us,h,r=>by
  simp only[RepL] at h
  subst h
  cases r
  exact⟨_,.nil⟩
 | t::ts,vs,us,h,r=>by
  simp only[RepL] at h
  obtain⟨v,vr,rfl,h1,h2⟩:=h
  cases r with
  | cons r1 r2 =>
   obtain⟨as,q1⟩:=zlg I h1 r1
   obtain⟨bs,q2⟩:=zar I h2 r2
   exact⟨_,.cons q1 q2⟩
end
theorem z3i {O F:Addr->Prop} {pins:List (Addr×Obj)} {σ:L2.St} {H:Hp} {s:y04} (I:Inv X pins σ H s) {t:T} {v:V} {u:Value} (h:RepR X.K O F H t v) (r:RelV v u):∃as,Reads s.heap u t as:=by
 rcases h with h|⟨ts,a,vs,rfl,rfl,ha,h⟩
 ·exact zlg I h r
 ·cases r
  obtain⟨z,its,n,rv,hl,e⟩:=Inv.lstR I (.inl ha)
  obtain⟨as,ra⟩:=zar I h rv
  exact⟨_,.list e rfl rfl (by simpa using ra)⟩
theorem zf8 {t:T} (h:okT t=true):t.canLay0=true/\t.depth<=60:=by
 simp only[okT,y1c,decide_eq_true_eq] at h
 exact h
theorem ztg {t:List T} (h:okL t=true):y1h t=true/\y1f t<=60:=by
 simp only[okL,y1c,decide_eq_true_eq] at h
 exact h
noncomputable def zre (K:y00) (n:Bool):R2:=fun x y H Q=>∃(O F:Addr->Prop) (s t:T),RepR K O F H s x/\RepR K O F H t y/\okT s=true/\okT t=true/\Q (.bl (if n then !PyData.eqv s t else y25 s t)) H
theorem zon (hu:X.A.units+64<cLine):OpR X (compareOp .Eq) (zre X.K false):=by
 intro pins s σ H x y v u Q I rx ry ⟨O,F,d,t,h1,h2,o1,o2,q⟩
 obtain⟨as,ra⟩:=z3i I h1 rx
 obtain⟨bs,rb⟩:=z3i I h2 ry
 obtain⟨c1,l1⟩:=zf8 o1
 obtain⟨c2,l2⟩:=zf8 o2
 refine SeqAt.compareEq_reads ra rb c1 c2 (by have:=Nat.min_le_left d.depth t.depth;omega) ?_
 exact⟨.bl _,H,I,rfl,q⟩
theorem ztd (hu:X.A.units+64<cLine):OpR X (compareOp .NotEq) (zre X.K true):=by
 intro pins s σ H x y v u Q I rx ry ⟨O,F,d,t,h1,h2,o1,o2,q⟩
 obtain⟨as,ra⟩:=z3i I h1 rx
 obtain⟨bs,rb⟩:=z3i I h2 ry
 obtain⟨c1,l1⟩:=zf8 o1
 obtain⟨c2,l2⟩:=zf8 o2
 refine SeqAt.compareNe_reads ra rb c1 c2 (by have:=Nat.min_le_left d.depth t.depth;omega) ?_
 exact⟨.bl _,H,I,rfl,q⟩
theorem zel {op:CmpOp} {R:R2} {o:T->T->Option T} (ho:OpR X (compareOp op) R) (h2:Op2 X.K o R) (ha:PEr X a f) (hb:PEr X b g) (hm:behindInMarks op b=false:=by first|exact ztk _|rfl):PEv X (.Compare a [op] [b] pos) (op2 o f g):=z0x (zuy ho ha hb hm) (z7l h2)
theorem z5a {op:CmpOp} {R:R2} {o:T->T->Option T} (ho:OpR X (compareOp op) R) (h2:Op2 X.K o R) (ha:PEr X a f) (hb:PEr X b g) (hm:behindInMarks op b=false:=by first|exact ztk _|rfl):PTt X (.Compare a [op] [b] pos) (tstB (op2 o f g)) :=
 zg0 (zuk ho ha hb hm) fun σ H Q ⟨F₀,H₀,O,F,ε,b,r,e,k⟩=>by
 simp only[tstB,y01] at e
 obtain⟨t,et,e⟩:=e
 split at e
 ·cases e
  refine z7l h2 σ H _ ⟨F₀,H₀,O,F,ε,_,r,et,fun v F' H' x q=>?_⟩
  simp only[Rep] at q
  exact⟨_,q,k F' H' x⟩
 ·cases e
theorem zop:Op2 X.K oEq (zre X.K false):=by
  intro O F H x y t vx vy Q d rx ry e k
  unfold oEq at e
  split at e
  next hz =>
   cases e
   rw[y1c] at hz
   exact⟨O,F,x,y,rx,ry,hz.1,hz.2,k _ F H (Ext.refl d) (by simp[Rep])⟩
  next=>cases e
theorem zte:Op2 X.K oNe (zre X.K true):=by
  intro O F H x y t vx vy Q d rx ry e k
  unfold oNe at e
  split at e
  next hz =>
   cases e
   rw[y1c] at hz
   exact⟨O,F,x,y,rx,ry,hz.1,hz.2,k _ F H (Ext.refl d) (by simp[Rep])⟩
  next=>cases e
noncomputable def rInT (K:y00) (n:Bool):R2:=fun x y H Q=>∃(O F:Addr->Prop) (s:T) (ts:List T),RepR K O F H s x/\(RepR K O F H (.tuple ts) y\/RepR K O F H (.list ts) y)/\okT s=true/\okL ts=true/\Q (.bl (if n then !hasT s ts else hasT s ts)) H
theorem zde (hu:X.A.units+64<cLine):OpR X (compareOp .In) (rInT X.K false):=by
 intro pins s σ H x y v u Q I rx ry ⟨O,F,d,ts,h1,h2,o1,o2,q⟩
 obtain⟨as,ra⟩:=z3i I h1 rx
 obtain⟨c1,l1⟩:=zf8 o1
 obtain⟨c2,l2⟩:=ztg o2
 have hm:=Nat.min_le_left (y1f ts) d.depth
 rcases h2 with h2|h2
 ·obtain⟨bs,rb⟩:=z3i I h2 ry
  exact SeqAt.in_tuple_reads rb ra c2 c1 (by omega) ⟨.bl _,H,I,rfl,q⟩
 ·obtain⟨bs,rb⟩:=z3i I h2 ry
  exact SeqAt.in_list_reads rb ra c2 c1 (by omega) ⟨.bl _,H,I,rfl,q⟩
theorem z61 (hu:X.A.units+64<cLine):OpR X (compareOp .NotIn) (rInT X.K true):=by
 intro pins s σ H x y v u Q I rx ry ⟨O,F,d,ts,h1,h2,o1,o2,q⟩
 obtain⟨as,ra⟩:=z3i I h1 rx
 obtain⟨c1,l1⟩:=zf8 o1
 obtain⟨c2,l2⟩:=ztg o2
 have hm:=Nat.min_le_left (y1f ts) d.depth
 rcases h2 with h2|h2
 ·obtain⟨bs,rb⟩:=z3i I h2 ry
  exact SeqAt.notIn_tuple_reads rb ra c2 c1 (by omega) ⟨.bl _,H,I,rfl,q⟩
 ·obtain⟨bs,rb⟩:=z3i I h2 ry
  exact SeqAt.notIn_list_reads rb ra c2 c1 (by omega) ⟨.bl _,H,I,rfl,q⟩
theorem z6p {n:Bool}:Op2 X.K (oIn n) (rInT X.K n):=by
 intro O F H x y t vx vy Q d rx ry e k
 unfold oIn at e
 split at e
 ·split at e
  next hz =>
   cases e
   rw[y1c] at hz
   exact⟨O,F,x,_,rx,.inl ry,hz.1,hz.2,k _ F H (Ext.refl d) (by simp[Rep])⟩
  next=>cases e
 ·split at e
  next hz =>
   cases e
   rw[y1c] at hz
   exact⟨O,F,x,_,rx,.inr ry,hz.1,hz.2,k _ F H (Ext.refl d) (by simp[Rep])⟩
  next=>cases e
 ·cases e
theorem zi7:Op2 X.K oLt (fun x y H Q=>rI0 (fun i j=>.bl (decide (i<j))) x y H Q\/∃i j,x=.str i/\y=.str j/\Q (.bl (decide (i.cps.toList<j.cps.toList))) H):=by
  intro O F H x y t vx vy Q d rx ry e k
  unfold oLt at e
  split at e
  ·cases e
   rw[rx.int,ry.int]
   exact .inl ⟨_,_,rfl,rfl,k _ F H (Ext.refl d) (by simp[Rep])⟩
  ·cases e
   rw[rx.str,ry.str]
   exact .inr ⟨_,_,rfl,rfl,k _ F H (Ext.refl d) (by simp[Rep,z6h])⟩
  ·cases e
theorem zdd:OpR X (compareOp .LtE) (fun x y H Q=>∃i j,x=.str i/\y=.str j/\Q (.bl (!z6h j i)) H):=by
 intro pins s σ H x y v u Q I rx ry ⟨i,j,e1,e2,q⟩
 subst e1 e2
 obtain⟨t,rfl⟩:=rx
 obtain⟨t',rfl⟩:=ry
 exact PySem.P.le_str (zls I q (by simp[z6h]))
theorem zi6:OpR X (compareOp .GtE) (fun x y H Q=>∃i j,x=.str i/\y=.str j/\Q (.bl (!z6h i j)) H):=by
 intro pins s σ H x y v u Q I rx ry ⟨i,j,e1,e2,q⟩
 subst e1 e2
 obtain⟨t,rfl⟩:=rx
 obtain⟨t',rfl⟩:=ry
 exact PySem.P.ge_str (zls I q (by simp[z6h]))
theorem z73:OpR X (compareOp .Gt) (fun x y H Q=>∃i j,x=.str i/\y=.str j/\Q (.bl (z6h j i)) H):=by
 intro pins s σ H x y v u Q I rx ry ⟨i,j,e1,e2,q⟩
 subst e1 e2
 obtain⟨t,rfl⟩:=rx
 obtain⟨t',rfl⟩:=ry
 exact PySem.P.gt_str (zls I q (by simp[z6h]))
theorem zoo:Op2 X.K oLe (fun x y H Q=>rI0 (fun i j=>.bl (decide (i<=j))) x y H Q\/∃i j,x=.str i/\y=.str j/\Q (.bl (!z6h j i)) H):=by
 intro O F H x y t vx vy Q d rx ry e k
 unfold oLe at e
 split at e
 ·cases e
  rw[rx.int,ry.int]
  exact .inl ⟨_,_,rfl,rfl,k _ F H (Ext.refl d) (by simp[Rep])⟩
 ·cases e
  rw[rx.str,ry.str]
  exact .inr ⟨_,_,rfl,rfl,k _ F H (Ext.refl d) (by simp[Rep])⟩
 ·cases e
theorem zf7:Op2 X.K oGt (fun x y H Q=>rI0 (fun i j=>.bl (decide (j<i))) x y H Q\/∃i j,x=.str i/\y=.str j/\Q (.bl (z6h j i)) H):=by
 intro O F H x y t vx vy Q d rx ry e k
 unfold oGt at e
 split at e
 ·cases e
  rw[rx.int,ry.int]
  exact .inl ⟨_,_,rfl,rfl,k _ F H (Ext.refl d) (by simp[Rep])⟩
 ·cases e
  rw[rx.str,ry.str]
  exact .inr ⟨_,_,rfl,rfl,k _ F H (Ext.refl d) (by simp[Rep])⟩
 ·cases e
theorem ztf:Op2 X.K oGe (fun x y H Q=>rI0 (fun i j=>.bl (decide (j<=i))) x y H Q\/∃i j,x=.str i/\y=.str j/\Q (.bl (!z6h i j)) H):=by
 intro O F H x y t vx vy Q d rx ry e k
 unfold oGe at e
 split at e
 ·cases e
  rw[rx.int,ry.int]
  exact .inl ⟨_,_,rfl,rfl,k _ F H (Ext.refl d) (by simp[Rep])⟩
 ·cases e
  rw[rx.str,ry.str]
  exact .inr ⟨_,_,rfl,rfl,k _ F H (Ext.refl d) (by simp[Rep])⟩
 ·cases e
theorem zrf (ha:PEr X a f):PEv X (.UnaryOp .USub a pos) (op1 oNeg f):=z0x (zys zw7 ha) fun σ H Q ⟨F₀,H₀,O,F,ε,t,r,e,k⟩=>by
 simp only[op1,y01] at e
 obtain⟨x,ex,e⟩:=e
 unfold oNeg at e
 split at e
 ·cases e
  exact⟨F₀,H₀,O,F,ε,_,r,ex,fun v F1 H1 x1 rx=>⟨_,rx.int,k _ F1 H1 x1 (by simp[Rep])⟩⟩
 ·cases e
noncomputable def OpN (K:y00) (o:List T->Option T) (R:List V->Hp->VK->Prop):Prop :=
 ∀(O F:Addr->Prop) (H:Hp) (ts:List T) (t:T) (vs:List V) (Q:VK),Dom F H->Paired (RepR K O F H) ts vs->o ts=some t ->
  (∀v F' H',Ext F H F' H'->Rep K F' H' t v->Q v H')->R vs H Q
theorem zdf {o:List T->Option T} {R:List V->Hp->VK->Prop} (hR:OpN X.K o R):∀σ H Q,tV X.K (opN o fs) σ H Q->tCB R (tAR X.K fs) σ H Q:=by
 rintro σ H Q ⟨F₀,H₀,O,F,ε,t,r,e,k⟩
 simp only[opN,y01] at e
 obtain⟨ts,et,eo⟩:=e
 exact⟨F₀,H₀,O,F,ε,ts,r,et,fun vs F1 H1 x1 q=>hR O F1 H1 ts t vs Q x1.dom q eo fun v F' H' x3 q3=>k v F' H' (x1.trans x3) q3⟩
theorem zrg (hm:X.mg "len"=none) (ha:PAr X (e::es) fs) (hg:Gl X "len":=by rfl) (he:y0a (e::es) X.env=(false,eval e X.env)::y0a es X.env:=by rfl) (hpl:(backTo pos (y0a es X.env)).any (·.1)=false:=by rfl) :
  PEv X (.Call (.Name "len" p) (e::es) [] pos) (opN oLen fs):=z0x (zcr (zj6.or zj5) hg hm PySem.boot_len ha (he:=he) (hpl:=hpl)) (zdf (by
 intro O F H ts t vs Q d q e k
 unfold oLen at e
 split at e
 ·cases e
  cases q with
  | cons q1 q2 =>
   cases q2
   obtain⟨a,ws,rfl,hs,hr⟩:=q1.tup
   exact .inl ⟨a,ws,rfl,.inr hs,k _ F H (Ext.refl d) (by simp[Rep,hr.length])⟩
 ·cases e
  cases q with
  | cons q1 q2 =>
   cases q2
   obtain⟨a,ws,rfl,hs,hr⟩:=q1.lst
   exact .inl ⟨a,ws,rfl,.inl (.inl hs),k _ F H (Ext.refl d) (by simp[Rep,hr.length])⟩
 ·split at e
  next hz =>
   cases e
   cases q with
   | cons q1 q2 =>
    cases q2
    exact .inr ⟨_,by rw[q1.str],by rw[z9v];exact hz,k _ F H (Ext.refl d) (by simp[Rep])⟩
  next=>cases e
 ·cases e))
theorem zyn (hm:X.mg "min"=none) (ha:PAr X (e::es) fs) (hc:X.calm=true:=by rfl) (hg:Gl X "min":=by rfl) (he:y0a (e::es) X.env=(false,eval e X.env)::y0a es X.env:=by rfl) (hpl:(backTo pos (y0a es X.env)).any (·.1)=false:=by rfl) :
  PEv X (.Call (.Name "min" p) (e::es) [] pos) (opN oMin fs):=z0x (zcr (zq7 hc) hg hm (by decide +kernel) ha (he:=he) (hpl:=hpl)) (zdf (by
 intro O F H ts t vs Q d q e k
 unfold oMin at e
 split at e
 ·cases e
  cases q with
  | cons q1 q2 =>
   cases q2 with
   | cons q2 q3 =>
    cases q3
    exact⟨_,_,by rw[q1.int,q2.int],k _ F H (Ext.refl d) (by simp[Rep])⟩
 ·cases e))
theorem zwo (hm:X.mg "max"=none) (ha:PAr X (e::es) fs) (hc:X.calm=true:=by rfl) (hg:Gl X "max":=by rfl) (he:y0a (e::es) X.env=(false,eval e X.env)::y0a es X.env:=by rfl) (hpl:(backTo pos (y0a es X.env)).any (·.1)=false:=by rfl) :
  PEv X (.Call (.Name "max" p) (e::es) [] pos) (opN oMax fs):=z0x (zcr (zq8 hc) hg hm (by decide +kernel) ha (he:=he) (hpl:=hpl)) (zdf (by
 intro O F H ts t vs Q d q e k
 unfold oMax at e
 split at e
 ·cases e
  cases q with
  | cons q1 q2 =>
   cases q2 with
   | cons q2 q3 =>
    cases q3
    exact⟨_,_,by rw[q1.int,q2.int],k _ F H (Ext.refl d) (by simp[Rep])⟩
 ·cases e))
theorem z4r (hm:X.mg "tuple"=none) (ha:PAr X (e::es) fs) (hg:Gl X "tuple":=by rfl) (he:y0a (e::es) X.env=(false,eval e X.env)::y0a es X.env:=by rfl) (hpl:(backTo pos (y0a es X.env)).any (·.1)=false:=by rfl) :
  PEv X (.Call (.Name "tuple" p) (e::es) [] pos) (opN z1k fs):=z0x (zau zh3 hg hm (by decide +kernel) ha (he:=he) (hpl:=hpl)) (zdf (by
 intro O F H ts t vs Q d q e k
 unfold z1k at e
 split at e
 ·cases e
  cases q with
  | cons q1 q2 =>
   cases q2
   obtain⟨a,ws,rfl,hs,hr⟩:=q1.tup
   refine⟨a,ws,rfl,.inr ⟨hs,k _ F H (Ext.refl d) ?_⟩⟩
   simp only[Rep]
   exact⟨a,ws,rfl,hs,hr⟩
 ·cases e
  cases q with
  | cons q1 q2 =>
   cases q2
   obtain⟨a,ws,rfl,hs,hr⟩:=q1.lst
   refine⟨a,ws,rfl,.inl ⟨.inl hs,fun l hl=>?_⟩⟩
   have x1:=Ext.laid (o:=.tup ws) d hl
   refine k _ F _ x1 ?_
   simp only[Rep]
   exact⟨l,ws,rfl,SqT.of z0e,hr.ext x1⟩
 ·cases e))
theorem zwp (hm:X.mg "int"=none) (ha:PAr X (e::es) fs) (hg:Gl X "int":=by rfl) (he:y0a (e::es) X.env=(false,eval e X.env)::y0a es X.env:=by rfl) (hpl:(backTo pos (y0a es X.env)).any (·.1)=false:=by rfl) :
  PEv X (.Call (.Name "int" p) (e::es) [] pos) (opN oInt fs):=z0x (zau zq9 hg hm (by decide +kernel) ha (he:=he) (hpl:=hpl)) (zdf (by
 intro O F H ts t vs Q d q e k
 unfold oInt at e
 split at e
 ·cases e
  cases q with
  | cons q1 q2 =>
   cases q2
   exact .inl ⟨_,by rw[q1.int],k _ F H (Ext.refl d) (by simp[Rep])⟩
 ·cases e
  cases q with
  | cons q1 q2 =>
   cases q2
   exact .inr ⟨_,by rw[q1.bl],k _ F H (Ext.refl d) (by simp[Rep])⟩
 ·cases e))
theorem znt (h:PEr X e f) (he:∀whole,isTrue e X.env whole=(do let v <- whole;standAt e.pos;holding [v] (truthy v)):=by intro _;rfl):PTt X e (tstB f):=zg0 (zwx h he) fun σ H Q ⟨F₀,H₀,O,F,ε,b,r,e,k⟩=>by
 simp only[tstB,y01] at e
 obtain⟨t,et,e⟩:=e
 split at e
 ·cases e
  exact⟨F₀,H₀,O,F,ε,_,r,et,fun v F1 H1 x1 rx=>⟨_,rx.bl,k F1 H1 x1⟩⟩
 ·cases e
theorem zqx {j pos'} (ha:PEr X a f):PTt X (.Compare a [.Is] [.Constant .none j pos'] pos) (tstB (op1 oIsN f)):=zg0 (zt8 (zx9 ha)) fun σ H Q ⟨F₀,H₀,O,F,ε,t,r,e,k⟩=>by
 simp only[tstB,op1,oIsN,y01] at e
 obtain⟨_,⟨x,ex,e1⟩,e⟩:=e
 cases e1
 cases e
 refine⟨F₀,H₀,O,F,ε,x,r,ex,fun v F1 H1 x1 rx=>⟨_,?_,k F1 H1 x1⟩⟩
 cases x with
 | none=>rw[rx.non];simp
 | bool b=>rw[rx.bl];simp
 | int b=>rw[rx.int];simp
 | str b=>rw[rx.str];simp
 | tuple b=>obtain⟨_,_,e,_⟩:=rx.tup;rw[e];simp
 | list b=>obtain⟨_,_,e,_⟩:=rx.lst;rw[e];simp
 | dict b=>rcases rx with rx|⟨_,_,_,z,_⟩;simp[Rep] at rx;cases z
theorem zt0 {j pos'} (ha:PEr X a f):PTt X (.Compare a [.IsNot] [.Constant .none j pos'] pos) (tstB (op1 z3j f)):=zg0 (zt8 (zuz ha)) fun σ H Q ⟨F₀,H₀,O,F,ε,t,r,e,k⟩=>by
 simp only[tstB,op1,z3j,y01] at e
 obtain⟨_,⟨x,ex,e1⟩,e⟩:=e
 cases e1
 cases e
 refine⟨F₀,H₀,O,F,ε,x,r,ex,fun v F1 H1 x1 rx=>⟨_,?_,k F1 H1 x1⟩⟩
 cases x with
 | none=>rw[rx.non];simp
 | bool b=>rw[rx.bl];simp
 | int b=>rw[rx.int];simp
 | str b=>rw[rx.str];simp
 | tuple b=>obtain⟨_,_,e,_⟩:=rx.tup;rw[e];simp
 | list b=>obtain⟨_,_,e,_⟩:=rx.lst;rw[e];simp
 | dict b=>rcases rx with rx|⟨_,_,_,z,_⟩;simp[Rep] at rx;cases z
theorem zt1 (h:PEr X e f) (he:∀whole,isTrue e X.env whole=(do let v <- whole;standAt e.pos;holding [v] (truthy v)):=by intro _;rfl):PTt X e (tstL f):=zg0 (zrh h he) fun σ H Q ⟨F₀,H₀,O,F,ε,b,r,e,k⟩=>by
 simp only[tstL,y01] at e
 obtain⟨t,et,e⟩:=e
 have emp:∀{ts:List T} {vs:List V} {F1:Addr->Prop} {H1:Hp},RepL X.K F1 H1 ts vs->ts.isEmpty=vs.isEmpty:=fun {ts vs F1 H1} q=>by
  have:=q.length
  cases ts <;> cases vs <;> simp_all
 split at e
 ·cases e
  refine⟨F₀,H₀,O,F,ε,_,r,et,fun v F1 H1 x1 rx=>?_⟩
  obtain⟨a,vs,rfl,hs,hr⟩:=rx.lst
  exact⟨_,.inl ⟨vs,.inl hs,by rw[emp hr]⟩,k F1 H1 x1⟩
 ·cases e
  refine⟨F₀,H₀,O,F,ε,_,r,et,fun v F1 H1 x1 rx=>?_⟩
  obtain⟨a,vs,rfl,hs,hr⟩:=rx.tup
  exact⟨_,.inr (.inl ⟨vs,hs,by rw[emp hr]⟩),k F1 H1 x1⟩
 ·cases e
theorem zy2 (h:PTt X e ft):PTt X (.UnaryOp .Not e pos) (notT ft):=zg0 (zwy h) fun σ H Q ⟨F₀,H₀,O,F,ε,b,r,e,k⟩=>by
 simp only[notT,y07] at e
 obtain⟨c,ec,rfl⟩:=e
 exact⟨F₀,H₀,O,F,ε,c,r,ec,fun F1 H1 x1=>k F1 H1 x1⟩
theorem zeu (h:PTt X e ft):PWt X (.BoolOp .And [e] pos) ft:=zuj h
theorem zm6 (h:PTt X e ft):PWt X (.BoolOp .Or [e] pos) ft:=zwt h
theorem zm7 (h:PTt X a ft) (h2:PWt X (.BoolOp .And (b::es) pos) gt):PWt X (.BoolOp .And (a::b::es) pos) (andT ft gt):=zty (zwu h h2) fun σ H Q ⟨F₀,H₀,O,F,ε,b,r,e,k⟩=>by
 simp only[andT,y01] at e
 obtain⟨c,ec,e⟩:=e
 refine⟨F₀,H₀,O,F,ε,c,r,ec,fun F1 H1 x1=>?_⟩
 cases c with
 | true=>exact iteT ⟨F₀,H₀,O,F1,ε,b,r.ext x1,by simpa using e,fun F2 H2 x2=>k F2 H2 (x1.trans x2)⟩
 | false =>
  have:b=false:=by simpa using e.symm
  subst this
  exact iteF (k F1 H1 x1)
theorem w_or (h:PTt X a ft) (h2:PWt X (.BoolOp .Or (b::es) pos) gt):PWt X (.BoolOp .Or (a::b::es) pos) (orT ft gt):=zty (zyp h h2) fun σ H Q ⟨F₀,H₀,O,F,ε,b,r,e,k⟩=>by
 simp only[orT,y01] at e
 obtain⟨c,ec,e⟩:=e
 refine⟨F₀,H₀,O,F,ε,c,r,ec,fun F1 H1 x1=>?_⟩
 cases c with
 | true =>
  have:b=true:=by simpa using e.symm
  subst this
  exact iteT (k F1 H1 x1)
 | false=>exact iteF ⟨F₀,H₀,O,F1,ε,b,r.ext x1,by simpa using e,fun F2 H2 x2=>k F2 H2 (x1.trans x2)⟩
theorem w_t (h:PWt X e ft):PTt X e ft:=h.pt
end
end
section
variable [Tbl]
noncomputable def spT (K:y00) (n:Nat) (d:List T->Option T):Sp:=fun vs H Q _=>vs.length=n/\∃F ts t,Dom F H/\RepL K F H ts vs/\d ts=some t/\∀v F' H',Ext F H F' H'->Rep K F' H' t v->Q v H'
section
variable {X:Cx} {k n:Nat} {fa:Addr} {fd:y0b} {ps:List Str} {d:List T->Option T} {x:Str} {p pos:Pos} {e:Expr} {es:List Expr} {fs:List Fe}
theorem zwr (F:FnOk X.prog X.w X.K X.mg X.base CX0 k fa fd ps (spT X.K n d)) (hr:Room k X.A) (hg:Gl X x) (hm:X.mg x=some (.ref fa)) (hk:y08 X.K (.ref fa)=true) (hb:z5h X.K fd ps [])
  (ha:PAv X (e::es) fs) (hn:fs.length=n:=by rfl) (hdb:(x == ("__debug__":Str))=false:=by decide) (he:y0a (e::es) X.env=(false,eval e X.env)::y0a es X.env:=by rfl) (hpl:(backTo pos (y0a es X.env)).any (·.1)=false:=by rfl) :
  PEv X (.Call (.Name x p) (e::es) [] pos) (opN d fs):=z0x (zk3 F hr hg hm hk hb .nil zgl ha hdb he hpl) fun σ H Q ⟨F₀,H₀,O,F,ε,t,r,e,k⟩=>by
 simp only[opN,y01] at e
 obtain⟨ts,et,ed⟩:=e
 have hl:∀(gs:List Fe) (us:List T),args gs ε=some us->us.length=gs.length:=by
  intro gs
  induction gs with
  | nil=>intro us e;cases e;rfl
  | cons g gs ih =>
   intro us e
   simp only[args,y01,y07] at e
   obtain⟨t,_,vs,ev,rfl⟩:=e
   simp[ih vs ev]
 refine⟨F₀,H₀,O,F,ε,ts,r,et,fun vs F1 H1 x1 q=>⟨?_,F1,ts,t,x1.dom,by simpa using q,ed,fun v F' H' x2 q2=>k v F' H' (x1.trans x2) q2⟩⟩
 rw[y23,<- q.length,hl fs ts et,hn]
end
section
variable {P:y0q} {w:World} {K:y00} {mg:Str->Option Value} {base:Heap}
theorem zf5 {F:Addr->Prop} {H:Hp} {ts:List T} {vs:List V} {N:List Str} (dom:Dom F H) (q:RepL K F H ts vs) (n:Nat) :
  RelE K F ⟨H,0⟩ (fun a=>H a=none) F H ((ts.map fun t=>some (.imm t))++y0g n none) (vs.map some++y0g n none):=by
 have imm:∀(i:Nat) (s:Sl),((ts.map fun t=>some (Sl.imm t))++y0g n none)[i]?=some (some s)->∃t,s=.imm t/\ts[i]?=some t:=by
  intro i s e
  by_cases hi:i<ts.length
  ·rw[y1q (by simpa using hi),y15] at e
   rw[y0v hi] at e ⊢
   simp at e
   exact⟨_,e.symm,rfl⟩
  ·rw[y1n (by simpa using hi),List.getElem?_replicate] at e
   split at e <;> cases e
 refine⟨by simp[q.length],fun i s e=>?_,fun i j s u v w hij e1 e2 o1=>?_,Ext.refl dom,fun _ h=>h,fun _ h=>h⟩
 ·obtain⟨t,rfl,ht⟩:=imm i s e
  obtain⟨v,hv,rv⟩:=q.get ht
  refine⟨v,?_,rv⟩
  rw[y1q (by have:=(y0k.mp hv).1;simpa using this),y15,hv]
  rfl
 ·obtain⟨t,rfl,_⟩:=imm i s e1
  cases o1
theorem zpn {x qual:Str} {st:Stmt} {f:Addr} {fd:y0b} {N ps:List Str} {k:Nat} {b:Fs} (F:Fun K x qual st f fd) (S:FnScope N ps (z02 st))
  (hb:∀(cdv:Value) (A:Around) (outer:List Env) (s:y04) (H:Hp) (E:XK),Room k (A.deeper (envOfC qual (z02 st) s.heap.objs.size f cdv)) ->
   PBt (cxOf CX0 P w K mg base N qual (z02 st) f cdv A outer s H E).nox (z2v st) b) :
  FnOk P w K mg base CX0 (k+1) f fd ps (spT K ps.length (runF b N.length)):=by
 refine F.ok S (fun vs H Q E h=>h.1) fun cdv A outer s H vs Q E hr h=>⟨_,hb cdv A outer s H E hr,?_⟩
 obtain⟨hl,F,ts,t,dom,q,e,kq⟩:=h
 simp only[runF,y01] at e
 obtain⟨o,eo,e⟩:=e
 refine⟨F,⟨H,0⟩,fun a=>H a=none,F,_,o,?_,eo,?_⟩
 ·have:=zf5 (N:=N) dom q (N.length - ts.length)
  unfold L2.start
  rw[q.length] at this ⊢
  exact this
 ·cases o with
  | rt t' =>
   cases e
   exact fun v F' H' x q=>kq v F' H' x q
  | nx ε' =>
   cases e
   exact fun σ' F' H' _ r=>kq _ F' H' r.ent (by simp[Rep])
  | bk _=>cases e
  | ct _=>cases e
  | rtm _ _=>cases e
  | rto _=>cases e
theorem zpp {f:Addr} {fd:y0b} {ps:List Str} {k n:Nat}:FnOk P w K mg base CX0 k f fd ps (spT K n fun _=>none):=by
 have no:∀vs H Q E,¬spT K n (fun _=>none) vs H Q E:=fun vs H Q E h=>by
  obtain⟨_,_,_,_,_,_,e,_⟩:=h
  cases e
 exact⟨fun vs H Q E h=>absurd h (no vs H Q E),fun A outer s H args us vs Q E _ _ _ _ h=>absurd h (no vs H Q E)⟩
end
end
section
variable [Tbl]
noncomputable def clos (env:Env):List (Str×NameKind)->List (Str×Addr)->List (Str×Addr)
 | [],cs=>cs
 | x::r,cs=>if x.2 == .free then clos env r ((x.1,(env.cells.lookup x.1).getD 0)::cs) else clos env r cs
theorem zh2 {scope:Scope} {env:Env} (h:∀x∈scope.names,x.2=.free->∃c,env.cells.lookup x.1=some c):closureFor scope env=pure (clos env scope.names []):=by
 have go:∀(l:List (Str×NameKind)) (cs:List (Str×Addr)),(∀x∈l,x.2=.free->∃c,env.cells.lookup x.1=some c) ->
   (forIn l cs (fun x r=>(if (x.2 == NameKind.free)=true then do let a <- cellOf env x.1;pure (ForInStep.yield ((x.1,a)::r)) else pure (ForInStep.yield r)):_->_->Sem (ForInStep (List (Str×Addr)))):Sem (List (Str×Addr)))=pure (clos env l cs):=by
  intro l
  induction l with
  | nil=>intro cs _;rfl
  | cons x r ih =>
   intro cs hl
   rw[List.forIn_cons]
   have hr:=fun y hy=>hl y (y05 _ hy)
   by_cases k:x.2=.free
   ·obtain⟨c,hc⟩:=hl x y0f k
    have e1:(x.2 == NameKind.free)=true:=by simp[k]
    simp only[e1,if_true,cellOf,hc,clos,Option.getD_some]
    exact ih _ hr
   ·have e1:(x.2 == NameKind.free)=false:=by simpa using k
    simp only[e1,y1x,if_false,clos]
    exact ih _ hr
 have:=go scope.names [] h
 simp only[closureFor]
 exact congrArg (fun m=>m >>= fun cs=>pure cs) this
theorem zb4 {env:Env}:∀{l:List (Str×NameKind)} {cs:List (Str×Addr)},(∀x∈l,x.2=.free->∃c,env.cells.lookup x.1=some c)->(∀x c,cs.lookup x=some c->env.cells.lookup x=some c)->∀x c,(clos env l cs).lookup x=some c->env.cells.lookup x=some c
 | [],cs,_,h,x,c,e=>h x c e
 | y::r,cs,hl,h,x,c,e=>by
  unfold clos at e
  have hr:=fun z hz=>hl z (y05 _ hz)
  split at e
  next k =>
   refine zb4 hr (fun x c e=>?_) x c e
   rw[y1g] at e
   split at e
   next hb =>
    obtain⟨c',hc⟩:=hl y y0f (by simpa using k)
    have:x=y.1:=by simpa using hb
    subst this
    rw[hc] at e ⊢
    simpa using e
   next=>exact h x c e
  next=>exact zb4 hr h x c e
theorem zcv {env:Env}:∀{l:List (Str×NameKind)} {cs:List (Str×Addr)} {x:Str},((∃y∈l,y.2=.free/\y.1=x)\/∃c,cs.lookup x=some c)->∃c,(clos env l cs).lookup x=some c
 | [],cs,x,h=>by
  rcases h with ⟨y,hy,_⟩|h
  ·cases hy
  ·exact h
 | y::r,cs,x,h=>by
  unfold clos
  split
  next k =>
   refine zcv ?_
   rcases h with ⟨z,hz,k',e⟩|⟨c,h⟩
   ·rcases y09.mp hz with rfl|hz
    ·refine .inr ?_
     subst e
     rw[y1g]
     simp
    ·exact .inl ⟨z,hz,k',e⟩
   ·refine .inr ?_
    rw[y1g]
    split
    ·exact⟨_,rfl⟩
    ·exact⟨c,h⟩
  next k =>
   refine zcv ?_
   rcases h with ⟨z,hz,k',e⟩|h
   ·rcases y09.mp hz with rfl|hz
    ·exact absurd (by simpa using k') k
    ·exact .inl ⟨z,hz,k',e⟩
   ·exact .inr h
noncomputable def z4m (X:Cx) (N':List Str) (scope:Scope) (cl:List (Str×Addr)) (C:Addr) (s₀:y04) (H₀:Hp) (fp:List Addr) (pn:List (Addr×Obj)):Cx where
 prog:=X.prog
 w:=X.w
 K:=X.K
 mg:=X.mg
 base:=X.base
 A:=X.A
 N:=N'
 s₀:=s₀
 H₀:=H₀
 env:=compEnvC scope cl C X.env
 outer:=X.stack
 stack:=X.stack
 ex:=fp
 fn:=fun _=>false
 calm:=X.calm
 pn:=pn
 xe:=fun _ _=>False
noncomputable def PTs (X:Cx) (ifs:List Expr) (cc:Ft):Prop:=∀(pins:List (Addr×Obj)) (s:y04) (σ:L2.St) (H:Hp) (Q:Bool->Hp->Prop),L2.Inv X pins σ H s->tT X.K cc σ H Q ->
 y0u (model X.prog X.w) X.A (forIn ifs true fun c r=>if r=true then do let ok <- isTrue c X.env (eval c X.env);pure (ForInStep.yield ok) else pure (ForInStep.yield r)) (TP X pins σ Q) X.xe s
theorem z9m {X:Cx}:PTs X [] (cstT true):=fun pins s σ H Q I ⟨F₀,H₀,O,F,ε,b,r,e,k⟩=>by
 cases e
 exact wpAny_tests_nil ⟨H,I,k F H (Ext.refl r.dom)⟩
theorem zhi {X:Cx} {c:Expr} {cc:Ft} (h:PTt X c cc):PTs X [c] cc:=fun pins s σ H Q I q=>wpAny_tests_one (h pins s σ H Q I q)
section
variable {prog:y0q} {w:World} {A:Around} {R:Result->y04->Prop} {s:y04}
theorem zj0 {elt target iter:Expr} {ifs:List Expr} {scope:Scope} {pos:Pos} {it acc:Value} {env:Env} (I:Nat->y04->Prop)
  (turn:∀n s,I n s->y0u (model prog w) A (pyNext it) (fun r s₁=>match r with
   | none=>R (.ok .next) s₁
   | some v=>y0u (model prog w) A (letOwnedTupleGo target it v) (fun _ s₁'=>y0u (model prog w) A (assign target env v) (fun _ s₂ =>
     y0u (model prog w) A (forIn ifs true fun c r=>if r=true then do let ok <- isTrue c env (eval c env);pure (ForInStep.yield ok) else pure (ForInStep.yield r)) (fun ok s₃ =>
      if ok=true then y0u (model prog w) A (eval elt env) (fun x s₄ =>
       y0u (model prog w) A (call (.builtin "list.append") [acc,x]) (fun _ s₅=>∃m,m<n/\I m s₅) (fun _ _=>False) s₄) (fun _ _=>False) s₃
      else ∃m,m<n/\I m s₃) (fun _ _=>False) s₂) (fun _ _=>False) s₁') (fun _ _=>False) s₁) (fun _ _=>False) s)
  (n:Nat) (h:I n s):codeAny (model prog w) A (.compLoop (.ListComp elt [⟨target,iter,ifs,0⟩] scope pos) 0 it acc env) R s:=by
 refine codeAny_loop rfl I (fun n s hI=>?_) n h
 show y0u _ A ((compTurn (.ListComp elt [⟨target,iter,ifs,0⟩] scope pos) 0 it acc env).onRaise (fun x=>do noteFrame x env;theTreesLotGoes x)) _ _ s
 refine wpAny_noted ?_
 rw[compTurn_list]
 refine y02 (wpAny_standAt (y02 (y1e (turn n s hI) (fun r s₁ h₁=>?_) fun _ _ h'=>h'.elim)))
 cases r with
 | none=>exact y06 h₁
 | some v =>
  refine y02 (y1e h₁ (fun _ s₁' h₁'=>?_) fun _ _ h'=>h'.elim)
  refine y02 (y1e h₁' (fun _ s₂ h₂=>y02 (y1e h₂ (fun ok s₃ h₃=>?_) fun _ _ h'=>h'.elim)) fun _ _ h'=>h'.elim)
  cases ok with
  | false=>exact y06 ⟨rfl,h₃⟩
  | true =>
   exact y02 (y02 (y1e h₃ (fun x s₄ h₄=>y02 (y1e h₄ (fun _ s₅ h₅=>y06 (y06 ⟨rfl,h₅⟩)) fun _ _ h'=>h'.elim)) fun _ _ h'=>h'.elim))
end
end
section
variable [Tbl]
theorem z9r {env:Env} {k:NameKind}:∀{names:List (Str×NameKind)} {x:Str},names.lookup x=some k->∃k',(names.map fun (n,k)=>if (k == NameKind.free && env.scope.kind == .function && env.kindOf n == some .cell) then (n,NameKind.cell) else (n,k)).lookup x=some k'/\(k'=k\/(k=.free/\k'=.cell))
  | [],x,h=>by simp at h
  | (n,j)::r,x,h=>by
    have ih:=@z9r env k r x
    show ∃k',y1l x ((if (j == NameKind.free && env.scope.kind == .function && env.kindOf n == some .cell)=true then (n,NameKind.cell) else (n,j))::_)=some k'/\_
    cases hx:x == n with
    | true =>
      simp only[y1g,hx] at h
      cases h
      by_cases hc:(k == NameKind.free && env.scope.kind == .function && env.kindOf n == some .cell)=true
      · rw[if_pos hc]
        refine⟨.cell,by simp[y1g,hx],.inr ⟨?_,rfl⟩⟩
        simp only[y1c] at hc
        simpa using hc.1.1
      · rw[if_neg hc]
        exact⟨k,by simp[y1g,hx],.inl rfl⟩
    | false =>
      simp only[y1g,hx] at h
      obtain⟨k',h1,h2⟩:=ih h
      refine⟨k',?_,h2⟩
      by_cases hc:(j == NameKind.free && env.scope.kind == .function && env.kindOf n == some .cell)=true
      · rw[if_pos hc];simp only[y1g,hx];exact h1
      · rw[if_neg hc];simp only[y1g,hx];exact h1
theorem zfj {names:List (Str×NameKind)} {x:Str} {k:NameKind} (h:names.lookup x=some k):∃y∈names,y.2=k/\y.1=x:=by
 induction names with
 | nil=>simp at h
 | cons y r ih =>
  rw[y1g] at h
  split at h
  next hb =>
   cases h
   exact⟨y,y0f,rfl,by simpa using (beq_iff_eq.mp hb).symm⟩
  next =>
   obtain⟨z,hz,h1,h2⟩:=ih h
   exact⟨z,y05 _ hz,h1,h2⟩
theorem zhx {scope:Scope} {env:Env} (hcell:∀y∈scope.names,y.2≠.cell) {x:Str} (h:(relabel scope env).names.lookup x=some .cell\/(relabel scope env).names.lookup x=some .free):∃y∈scope.names,y.2=.free/\y.1=x:=by
 have go:∀{k:NameKind},(relabel scope env).names.lookup x=some k->(k=.cell\/k=.free)->∃y∈scope.names,y.2=.free/\y.1=x:=fun {k} e hk=>by
  obtain⟨y,hy,h1,h2⟩:=zfj e
  obtain⟨⟨n,j⟩,hz,e2⟩:=y0m.mp (show y∈scope.names.map _ from hy)
  by_cases hc:(j == NameKind.free && env.scope.kind == .function && env.kindOf n == some .cell)=true
  ·have e3:(n,NameKind.cell)=y:=by
    have e4:(if (j == NameKind.free && env.scope.kind == .function && env.kindOf n == some .cell)=true then (n,NameKind.cell) else (n,j))=y:=e2
    rwa [if_pos hc] at e4
   subst e3
   simp only[y1c] at hc
   exact⟨(n,j),hz,by simpa using hc.1.1,h2⟩
  ·have e3:(n,j)=y:=by
    have e4:(if (j == NameKind.free && env.scope.kind == .function && env.kindOf n == some .cell)=true then (n,NameKind.cell) else (n,j))=y:=e2
    rwa [if_neg hc] at e4
   subst e3
   rcases hk with rfl|rfl
   ·exact absurd h1 (hcell _ hz)
   ·exact⟨(n,j),hz,h1,h2⟩
 rcases h with h|h
 ·exact go h (.inl rfl)
 ·exact go h (.inr rfl)
theorem RelE.other {K:y00} {F₀ O F:Addr->Prop} {E:En} {H:Hp} {ε:Ev} {σ:L2.St} {a:Addr} {xs ys:List V} (r:RelE K F₀ E O F H ε σ) (hn:¬F a) (ho:¬O a) (h0:E.h a=none) (ha:H a=some (.lst xs)) :
  Kp K F H F (upd H a (.lst ys))/\RelE K F₀ E O F (upd H a (.lst ys)) ε σ:=by
 have hm:HoM (.lst xs):=.inl ⟨_,rfl⟩
 have kp:Kp K F H F (upd H a (.lst ys)):=zp5 hn ha hm
 have keep:∀(u:Sl) (w:V),z1z K E O F H u w->z1z K E O F (upd H a (.lst ys)) u w/\fpS (upd H a (.lst ys)) u w=fpS H u w:=by
  intro u w ru
  refine ru.keep kp (fun b hb=>z0c ?_) (fun _ _ f=>f) fun _ _ o=>o
  rintro rfl
  cases ou:u.isOwn with
  | true=>exact ho ((ru.held hb).2.1 ou)
  | false=>exact (ru.held hb).2.2 ou h0
 refine⟨kp,⟨r.len,fun j u e=>?_,fun i j s u v w hij e1 e2 o1 o2 h1 h2=>?_,zlv r.ent h0 hn ha hm,r.o0,fun b e=>r.fr b ?_⟩⟩
 ·obtain⟨v,h1,h2⟩:=r.val j u e
  exact⟨v,h1,(keep u v h2).1⟩
 ·obtain⟨v',h1',r1⟩:=r.val i s e1
  obtain⟨w',h2',r2⟩:=r.val j u e2
  rw[h1] at h1'
  rw[h2] at h2'
  cases h1'
  cases h2'
  rw[(keep s v r1).2,(keep u w r2).2]
  exact r.ne i j s u v w hij e1 e2 o1 o2 h1 h2
 ·by_cases nb:b=a
  ·subst nb
   rw[z0e] at e
   cases e
  ·rwa [z0c nb] at e
noncomputable def zsk (n:Nat) (caps:List Nat) (σ:L2.St):L2.St:=y0g n none++caps.map fun i=>(σ[i]?).join
theorem join_some {α:Type} {o:Option (Option α)} {x:α} (h:o.join=some x):o=some (some x):=by
 cases o with
 | none=>cases h
 | some o=>exact congrArg some h
theorem zbu {α:Type} {n:Nat} {caps:List Nat} {l:List (Option α)} {i:Nat} {x:α} (h:(y0g n none++caps.map fun i=>(l[i]?).join)[i]?=some (some x)):∃j,n<=i/\caps[i - n]?=some j/\l[j]?=some (some x):=by
 by_cases hi:i<n
 ·rw[y1q (by simpa using hi),List.getElem?_replicate] at h
  rw[if_pos hi] at h
  cases h
 ·rw[y1n (by simpa using hi),List.length_replicate,y15] at h
  cases e:caps[i - n]? with
  | none =>
   rw[e] at h
   cases h
  | some j =>
   rw[e] at h
   exact⟨j,by omega,rfl,join_some (y2k h)⟩
theorem zvp {α:Type} {n:Nat} {caps:List Nat} {l:List (Option α)} {i j:Nat} {x:α} (hi:n<=i) (hc:caps[i - n]?=some j) (h:l[j]?=some (some x)):(y0g n none++caps.map fun i=>(l[i]?).join)[i]?=some (some x):=by
 rw[y1n (by simpa using hi),List.length_replicate,y15,hc]
 simp[h]
theorem RelE.cap {K:y00} {F₀ O F:Addr->Prop} {E:En} {H:Hp} {ε:Ev} {σ:L2.St} {D:Addr} (r:RelE K F₀ E O F H ε σ) (n:Nat) {caps:List Nat} (nd:caps.Nodup) (hD:H D=none) :
  RelE K F₀ E (fun a=>O a/\a≠D) F (upd H D (.lst [])) (z2h n caps ε) (zsk n caps σ):=by
 have x:=Ext.laid (o:=.lst []) r.dom hD
 have keep:∀(u:Sl) (w:V),z1z K E O F H u w->z1z K E (fun a=>O a/\a≠D) F (upd H D (.lst [])) u w/\fpS (upd H D (.lst [])) u w=fpS H u w:=by
  intro u w ru
  have nb:∀b∈fpS H u w,b≠D:=fun b hb z=>by
   obtain⟨o,e,_⟩:=ru.at hb
   rw[z,hD] at e
   cases e
  exact ru.keep x.kp (fun b hb=>z0c (nb b hb)) (fun _ _ f=>f) fun b hb o=>⟨o,nb b hb⟩
 refine⟨by simp[z2h,zsk],fun i s e=>?_,fun i j s u v w hij e1 e2 o1 o2 h1 h2=>?_,r.ent.trans x,fun a h=>r.o0 a h.1,fun a h=>?_⟩
 ·obtain⟨j,hn,hc,e'⟩:=zbu e
  obtain⟨v,h1,h2⟩:=r.val j s e'
  exact⟨v,zvp hn hc h1,(keep s v h2).1⟩
 ·obtain⟨i',hi,ci,e1'⟩:=zbu e1
  obtain⟨j',hj,cj,e2'⟩:=zbu e2
  obtain⟨i2,_,ci2,h1'⟩:=zbu (l:=σ) h1
  obtain⟨j2,_,cj2,h2'⟩:=zbu (l:=σ) h2
  rw[ci] at ci2
  rw[cj] at cj2
  cases ci2
  cases cj2
  obtain⟨v',q1,r1⟩:=r.val i' s e1'
  obtain⟨w',q2,r2⟩:=r.val j' u e2'
  rw[h1'] at q1
  rw[h2'] at q2
  cases q1
  cases q2
  rw[(keep s v r1).2,(keep u w r2).2]
  refine r.ne i' j' s u v w (fun z=>?_) e1' e2' o1 o2 h1' h2'
  subst z
  obtain⟨l1,m1⟩:=y0k.mp ci
  obtain⟨l2,m2⟩:=y0k.mp cj
  have ne:i - n≠j - n:=by omega
  rcases Nat.lt_or_gt_of_ne ne with q|q
  ·exact (List.pairwise_iff_getElem.mp nd _ _ l1 l2 q) (m1.trans m2.symm)
  ·exact (List.pairwise_iff_getElem.mp nd _ _ l2 l1 q) (m2.trans m1.symm)
 ·have nd:a≠D:=by
   rintro rfl
   rw[z0e] at h
   cases h
  rw[z0c nd] at h
  exact⟨r.fr a h,nd⟩
end
section
variable [Tbl]
structure CompOk (X:Cx) (scope:Scope) (own:List Str) (caps:List (Nat×Str)):Prop where
 kind:scope.kind=.function
 names:∀y∈scope.names,y.2=.local->scope.names.lookup y.1=some .local
 cell:∀y∈scope.names,y.2≠.cell
 free:∀y∈scope.names,y.2=.free->X.env.kindOf y.1=some .cell\/X.env.kindOf y.1=some .free
 cap:∀p∈caps,X.N[p.1]?=some p.2/\scope.names.lookup p.2=some .free
 nd:(caps.map (·.1)).Nodup
 calm:X.calm=true
section
variable {X:Cx} {tg iter elt:Expr} {ifs:List Expr} {scope:Scope} {it:Fi} {gg:Fg} {cc:Ft} {ee:Fe} {pos:Pos} {own:List Str} {caps:List (Nat×Str)}
theorem zq0 {pins:List (Addr×Obj)} {σ:L2.St} {H2:Hp} {s2:y04} {fp:List Addr} (S:CompOk X scope own caps) (I2:L2.Inv X pins σ H2 s2) (f2:∀b∈fp,FpOk X pins H2 b) (hfp:∀b∈fp,b<s2.heap.objs.size) (N':List Str) :
  (z4m X N' scope (clos X.env scope.names []) (s2.heap.push { cls:=.type "list",data:=.seq ([]:List Value).toArray }).objs.size { s2 with heap:=s2.heap.push { cls:=.type "list",data:=.seq ([]:List Value).toArray } } (upd H2 s2.heap.objs.size (.lst [])) fp (X.pn++pins)).Ok:=by
 have hcl:∀x∈scope.names,x.2=.free->∃c,X.env.cells.lookup x.1=some c:=fun x hx hk=>I2.ok.has x.1 (S.free x hx hk)
 have cf:∀x c,(clos X.env scope.names []).lookup x=some c->X.env.cells.lookup x=some c:=zb4 hcl (fun x c e=>by simp at e)
 have I3:=I2.lnew (its:=[]) (ys:=[]) (t':=s2.toks) .nil (y29 _)
 have sz:(s2.heap.push { cls:=.type "list",data:=.seq ([]:List Value).toArray }).objs.size=s2.heap.objs.size+1:=y18 ..
 refine⟨I2.ok.mod,S.kind,I2.ok.glob,I2.ok.blt,y0o _,fun x y c e1 e2=>I2.ok.inj x y c (cf x c e1) (cf y c e2),fun x hx=>?_,fun x c h=>(by cases h),I2.ok.hd,I2.ok.frames,.inl rfl,fun b hb=>⟨?_,fun x c e=>(f2 b hb).2.2.2.2.1 x c (cf x c e)⟩,fun b o e=>?_,?_,fun b o e hb=>?_,fun b hb hf=>?_,I3.stack,I3.stkFree⟩
 ·exact zcv (.inl (zhx S.cell hx))
 ·show b≠(s2.heap.push { cls:=.type "list",data:=.seq ([]:List Value).toArray }).objs.size
  have h:=hfp b hb
  rw[sz]
  exact y0y (Nat.lt_succ_of_lt h)
 ·obtain⟨h1,h2⟩:=I3.bs b o e
  exact⟨h1,h2⟩
 ·have h1:=y1s I2.ok.bsz I2.sz
  show X.base.objs.size<=(s2.heap.push { cls:=.type "list",data:=.seq ([]:List Value).toArray }).objs.size
  omega
 ·rcases (f2 b hb).2.2.2.1 with q|q
  ·exact I2.ok.noex b o e q
  ·exact absurd (y0x (y0c (I2.ok.bs b o e).1) q) (Nat.lt_irrefl _)
 ·rcases y09.mp (I2.stkSub b hf) with q|q
  ·exact (f2 b hb).2.1 q
  ·exact (f2 b hb).2.2.1 q
theorem zsj {pins:List (Addr×Obj)} {σ:L2.St} {H2:Hp} {s2:y04} {fp:List Addr} (S:CompOk X scope own caps) (I2:L2.Inv X pins σ H2 s2) (f2:∀b∈fp,FpOk X pins H2 b) (hfp:∀b∈fp,b<s2.heap.objs.size) {h₁:Heap} {m:Str->Option Value} {tk:Nat}
  (hns:h₁.Ns (s2.heap.push { cls:=.type "list",data:=.seq ([]:List Value).toArray }).objs.size m) (keep:∀b u,(s2.heap.push { cls:=.type "list",data:=.seq ([]:List Value).toArray }).get? b=some u->h₁.get? b=some u) :
  L2.Inv (z4m X (own++caps.map (·.2)) scope (clos X.env scope.names []) (s2.heap.push { cls:=.type "list",data:=.seq ([]:List Value).toArray }).objs.size { s2 with heap:=s2.heap.push { cls:=.type "list",data:=.seq ([]:List Value).toArray } } (upd H2 s2.heap.objs.size (.lst [])) fp (X.pn++pins)) []
   (zsk own.length (caps.map (·.1)) σ) (upd H2 s2.heap.objs.size (.lst [])) { s2 with heap:=h₁,toks:=tk }:=by
 have hcl:∀x∈scope.names,x.2=.free->∃c,X.env.cells.lookup x.1=some c:=fun x hx hk=>I2.ok.has x.1 (S.free x hx hk)
 have cf:∀x c,(clos X.env scope.names []).lookup x=some c->X.env.cells.lookup x=some c:=zb4 hcl (fun x c e=>by simp at e)
 have I3:=I2.lnew (its:=[]) (ys:=[]) (t':=s2.toks) .nil (y29 _)
 refine⟨zq0 S I2 f2 hfp _,rfl,I2.bare,Un.kept keep,⟨m,hns,fun i x v h1 h2 hv=>?_⟩,fun x c e=>?_,?_,fun x c e=>I3.freeC x c (cf x c e),fun p hp=>?_,I3.hok.kept keep,by simp[zsk,z4m]⟩
 ·obtain⟨j,hn,hc,hj⟩:=zbu (l:=σ) h2
  have hx:(caps.map (·.2))[i - own.length]?=some x:=by
   have:(own++caps.map (·.2))[i]?=some x:=h1
   rwa [y1n hn] at this
  rw[y15] at hc hx
  cases ep:caps[i - own.length]? with
  | none=>rw[ep] at hc;cases hc
  | some p =>
   rw[ep] at hc hx
   cases hc
   cases hx
   obtain⟨hN,hf⟩:=S.cap p (y1y ep)
   obtain⟨y,hy,k1,k2⟩:=zfj hf
   have hk:=S.free y hy k1
   rw[k2] at hk
   obtain⟨m3,hn3,hl3⟩:=I3.loc
   have vis:Vis X.env.scope p.2:=by
    rcases hk with hk|hk
    ·exact .inr (.inl hk)
    ·exact .inr (.inr hk)
   obtain⟨u,ru,lu⟩:=hl3 p.1 p.2 v hN hj vis
   refine⟨u,ru,.inr ⟨?_,?_⟩⟩
   ·obtain⟨k',e1,e2⟩:=z9r (env:=X.env) hf
    rcases e2 with rfl|⟨_,rfl⟩
    ·exact .inr e1
    ·exact .inl e1
   ·rcases lu with ⟨q,_⟩|⟨_,c,hc,hcell⟩
    ·rcases hk with hk|hk
     ·rw[hk] at q;cases q
     ·rw[hk] at q;cases q
    ·obtain⟨c',hc'⟩:=zcv (env:=X.env) (l:=scope.names) (cs:=[]) (x:=p.2) (.inl ⟨y,hy,k1,k2⟩)
     have:=cf _ _ hc'
     rw[hc] at this
     cases this
     obtain⟨oc,ho,hd⟩:=hcell
     exact⟨c,hc',oc,keep _ _ ho,hd⟩
 ·obtain⟨v,oc,ho,hd⟩:=I3.cell x c (cf x c e)
  exact⟨v,oc,keep _ _ ho,hd⟩
 ·exact I3.hok.fresh (y0o _)
 ·have hp':p∈X.pn++pins:=by simpa [z4m] using hp
  obtain⟨h1,h2,h3,h4,h5⟩:=I3.pin p hp'
  refine⟨keep _ _ h1,h2,y0y (y0c h1),fun z=>?_,h5⟩
  rcases y09.mp (I2.stkSub p.1 z) with q|q
  ·exact h3 q
  ·exact h4 q
theorem zna {pins:List (Addr×Obj)} {σ σ':L2.St} {H2 H':Hp} {s2 s':y04} {fp:List Addr} {N':List Str} (I2:L2.Inv X pins σ H2 s2) (f2:∀b∈fp,FpOk X pins H2 b)
  (J:L2.Inv (z4m X N' scope (clos X.env scope.names []) (s2.heap.push { cls:=.type "list",data:=.seq ([]:List Value).toArray }).objs.size { s2 with heap:=s2.heap.push { cls:=.type "list",data:=.seq ([]:List Value).toArray } } (upd H2 s2.heap.objs.size (.lst [])) fp (X.pn++pins)) [] σ' H' s')
  {h':Heap} (sb:Heap.SameBut (s2.heap.push { cls:=.type "list",data:=.seq ([]:List Value).toArray }).objs.size s'.heap h'):L2.Inv X pins σ H' { s' with heap:=h' }:=by
 have I3:=I2.lnew (its:=[]) (ys:=[]) (t':=s2.toks) .nil (y29 _)
 have u:=J.base
 have free:H' (s2.heap.push { cls:=.type "list",data:=.seq ([]:List Value).toArray }).objs.size=none:=J.free
 have old:∀b o,(s2.heap.push { cls:=.type "list",data:=.seq ([]:List Value).toArray }).get? b=some o->b≠(s2.heap.push { cls:=.type "list",data:=.seq ([]:List Value).toArray }).objs.size:=fun b o e=>y0y (y0c e)
 have eqh:∀b,b≠(s2.heap.push { cls:=.type "list",data:=.seq ([]:List Value).toArray }).objs.size->∀o,s'.heap.get? b=some o->h'.get? b=some o:=fun b hb o e=>sb.extBut b o hb e
 have u2:Un (frs X.stack) fp (upd H2 s2.heap.objs.size (.lst [])) H' (s2.heap.push { cls:=.type "list",data:=.seq ([]:List Value).toArray }) h':=by
  refine⟨fun b o e n hf hx=>eqh b (old b o e) _ (u.keep b o e n hf hx),fun b o e n hf hx=>?_,u.free,fun b o e hx=>?_,u.tups,u.frzs,u.tbls⟩
  ·obtain⟨sl,q⟩:=u.slot b o e n hf hx
   exact⟨sl,eqh b (old b o e) _ q⟩
  ·obtain⟨o',q⟩:=u.there b o e hx
   exact⟨o',eqh b (old b o e) _ q⟩
 have hok:HOk X.prog X.w H' h':=fun b o e=>by
  refine (J.hok b o e).stay (fun c v hc q=>eqh c (fun z=>?_) v q) (fun _ q=>q) fun _ _ q=>q
  rcases hc with rfl|hc
  ·rw[z,free] at e
   cases e
  ·rw[z,free] at hc
   cases hc
 have hos:=J.os
 have hbare:=J.bare
 obtain⟨hh,g,d,t,os⟩:=s'
 obtain rfl:os=s2.os:=hos
 have fin:=I3.call (h':=h') (g':=g) (d':=d) (t':=t) (ch:=fp) u2 hok hbare fun b hb=>⟨(f2 b hb).2.2.2.1,(f2 b hb).2.1,(f2 b hb).2.2.2.2.1,(f2 b hb).2.2.2.2.2⟩
 exact fin
theorem zq1 {X':Cx} {R:Result->y04->Prop} {J:It} {fp:List Addr} {it' D:Addr} {tn:Nat->Heap->Prop} {F₀ O F1:Addr->Prop} {H₀:En} {H2:Hp} {ts ys:List T} (hx:X'.xe=fun _ _=>False) (hc:X'.calm=true) (hg:PGt X' tg gg) (ht:PTs X' ifs cc) (he:PEv X' elt ee)
  (T:Turn X'.prog X'.w X'.K tg J fp it' tn) (stat:∀H':Hp,(∀b∈fp,H' b=none)->∀b∈fp,FpOk X' [] H' b) (ok:ItOk X'.K J F1 H2 ts) (hbig:ts.length<=big) (hD2:H2 D=none) (hO:¬O D) (hH0:H₀.h D=none)
  (fin:∀σ' H' F' s1 vs,L2.Inv X' [] σ' H' s1->Ext F1 H2 F' H'->H' D=some (.lst vs)->¬F' D->RepL X'.K F' H' ys vs->R (.ok .next) s1)
  {s:y04} {σ:L2.St} {H:Hp} {F:Addr->Prop} {ε:Ev} (I:L2.Inv X' [] σ H s) (st:tn 0 s.heap) (fr:∀b∈fp,H b=none) (x:Ext F1 H2 F H) (r:RelE X'.K F₀ H₀ O F H ε σ) (hD:H D=some (.lst [])) (nD:¬F D) (ey:z3m gg cc ee ts ε=some ys) :
  codeAny (model X'.prog X'.w) X'.A (.compLoop (.ListComp elt [⟨tg,iter,ifs,0⟩] scope pos) 0 (.ref it') (.ref D) X'.env) R s:=by
 refine zj0 (fun n s'=>∃i σ' H' F' ε' dn vs,n=ts.length - i/\i<=ts.length/\L2.Inv X' [] σ' H' s'/\tn i s'.heap/\(∀b∈fp,H' b=none)/\Ext F1 H2 F' H'/\RelE X'.K F₀ H₀ O F' H' ε' σ'/\H' D=some (.lst vs)/\¬F' D/\RepL X'.K F' H' dn vs/\dn.length<=i /\
  ∃rest,z3m gg cc ee (ts.drop i) ε'=some rest/\ys=dn++rest) ?_ ts.length ⟨0,σ,H,F,ε,[],[],rfl,y29 _,I,st,fr,x,r,hD,nD,RepL.nil,y0o _,ys,by simpa using ey,by simp⟩
 rintro n s3 ⟨i,σ3,H3,F3,ε3,dn,vs,rfl,hi,I3,st3,fr3,x3,r3,hD3,nD3,q3,hl3,rest,er,es⟩
 have nf:∀{F4:Addr->Prop} {H4:Hp} {F5:Addr->Prop} {H5:Hp} {o:HO},Ext F4 H4 F5 H5->H4 D=some o->¬F4 D->¬F5 D:=fun y e n z=>by
  rcases y.new D z with q|q
  ·exact n q
  ·rw[e] at q
   cases q
 by_cases hlt:i<ts.length
 ·have hd:ts.drop i=ts[i]::ts.drop (i+1):=List.drop_eq_getElem_cons hlt
  have hg':ts[i]?=some ts[i]:=y0v hlt
  rw[hd] at er
  simp only[z3m,y01] at er
  obtain⟨ε4,eg,b,eb,er⟩:=er
  refine y1e (T.item X' rfl rfl rfl hc i [] s3 σ3 H3 (fun _ _=>False) I3 (stat H3 fr3) st3 (ok.go i F3 H3 _ x3.kp r3.dom hg')) (fun rv s4 ⟨u,hr,h4⟩=>?_) fun _ _ z=>z
  subst hr
  refine y1e h4 (fun _ s5 ⟨x',H5,I5,r5,y5,st5,fr5⟩=>?_) fun _ _ z=>z
  obtain⟨F5,x5,rx⟩:=ok.yld i F3 H3 _ x' H5 x3.kp r3.dom hg' y5
  have I5':=I5.pinned (stat H5 fr5) (T.obj _ _ st5)
  have hg2:=hg _ s5 σ3 H5 x' u (fun σ6 H6=>H6=H5/\RelE X'.K F₀ H₀ O F5 H5 ε4 σ6) I5' r5 ⟨F₀,H₀,O,F5,ε3,_,ε4,r3.ext x5,rx,eg,fun σ6 r6=>⟨rfl,r6⟩⟩
  rw[hx] at hg2
  refine y1e hg2 (fun _ s6 ⟨σ6,H6,I6,e6,r6⟩=>?_) fun _ _ z=>z
  subst e6
  have again:∀{σ7:L2.St} {H7:Hp} {s7:y04},L2.Inv X' ([]++zi3 fp s5.heap) σ7 H7 s7->tn (i+1) s7.heap/\(∀b∈fp,H7 b=none)/\L2.Inv X' [] σ7 H7 s7:=fun {σ7 H7 s7} I7=>by
   refine⟨T.keep _ _ _ st5 fun b hb o e=>(I7.pin (b,o) (y1b _ (y1b _ (z94 hb e)))).1,fun b hb=>?_,I7.unpinned⟩
   obtain⟨o,e,d⟩:=T.obj _ _ st5 b hb
   exact (I7.pin (b,o) (y1b _ (y1b _ (z94 hb e)))).2.1
  have ht2:=ht _ s6 σ6 H6 (fun b' H7=>b'=b/\∃F7,Ext F5 H6 F7 H7) I6 ⟨F₀,H₀,O,F5,ε4,b,r6,eb,fun F7 H7 x7=>⟨rfl,F7,x7⟩⟩
  rw[hx] at ht2
  refine y1e ht2 (fun ok' s7 ⟨H7,I7,e7,F7,x7⟩=>?_) fun _ _ z=>z
  subst e7
  have x37:=x5.trans x7
  have r7:=r6.ext x7
  cases ok' with
  | false =>
   simp only[y1x,if_false] at er ⊢
   obtain⟨a1,a2,a3⟩:=again I7
   exact⟨_,by omega,i+1,σ6,H7,F7,ε4,dn,vs,rfl,hlt,a3,a1,a2,x3.trans x37,r7,x37.same.get hD3,nf x37 hD3 nD3,q3.ext x37,by omega,rest,er,es⟩
  | true =>
   simp only[if_true,y01,y07] at er ⊢
   obtain⟨y,ey',rest',er',rfl⟩:=er
   have he2:=he _ s7 σ6 H7 (fun v H8=>∃F8,Ext F7 H7 F8 H8/\Rep X'.K F8 H8 y v) I7 ⟨F₀,H₀,O,F7,ε4,y,r7,ey',fun v F8 H8 x8 q8=>⟨F8,x8,q8⟩⟩
   rw[hx] at he2
   refine y1e he2 (fun u8 s8 ⟨v8,H8,I8,r8,F8,x8,q8⟩=>?_) fun _ _ z=>z
   have x38:=x37.trans x8
   have hD8:=x38.same.get hD3
   have nD8:=nf x38 hD3 nD3
   obtain⟨kp9,r9⟩:=(r7.ext x8).other (ys:=vs++[v8]) nD8 hO hH0 hD8
   have ha:=zid (X:=X') _ s8 σ6 H8 (.ref D) [v8] (.ref D) [u8] (fun _ H9=>H9=upd H8 D (.lst (vs++[v8]))) I8 rfl (.cons r8 .nil) ⟨D,vs,v8,rfl,rfl,hD8,by rw[z9v,<- q3.length];omega,rfl⟩
   rw[hx] at ha
   refine y1e ha (fun u9 s9 ⟨v9,H9,I9,r9',e9⟩=>?_) fun _ _ z=>z
   subst e9
   obtain⟨a1,a2,a3⟩:=again I9
   have x9:Ext F1 H2 F8 (upd H8 D (.lst (vs++[v8]))):=by
    have y:=x3.trans x38
    refine⟨fun b o e=>?_,y.sub,y.new,⟨fun b f=>?_,y.dom.tgs.upd fun u e=>.inl ⟨_,y2k (e.symm.trans hD8)⟩⟩⟩
    ·have nb:b≠D:=by
      rintro rfl
      rw[hD2] at e
      cases e
     rw[z0c nb]
     exact y.same b o e
    ·have nb:b≠D:=by
      rintro rfl
      exact nD8 f
     rw[z0c nb]
     exact y.dom b f
   refine⟨_,by omega,i+1,σ6,_,F8,ε4,dn++[y],vs++[v8],rfl,hlt,a3,a1,a2,x9,r9,z0e,nD8,((q3.ext x38).append (RepL.cons q8 RepL.nil)).kp kp9,by simp;omega,rest',er',by rw[es];simp⟩
 ·have hd:ts.drop i=[]:=List.drop_eq_nil_of_le (by omega)
  rw[hd] at er
  cases er
  refine y1e (T.done X' rfl rfl rfl hc i [] s3 σ3 H3 (fun _ _=>False) I3 (stat H3 fr3) st3 (ok.stop i F3 H3 x3.kp (by omega))) (fun rv s4 ⟨hr,I4⟩=>?_) fun _ _ z=>z
  subst hr
  exact fin σ3 H3 F3 s4 vs I4 x3 hD3 nD3 (by rw[es,y23];exact q3)
structure After (X:Cx) (pins:List (Addr×Obj)) (σ:L2.St) (F:Addr->Prop) (H:Hp) (ys:List T) (D C:Addr) (H':Hp) (F':Addr->Prop) (s1:y04) (vs:List V):Prop where
 inv:∀h',Heap.SameBut C s1.heap h'->L2.Inv X pins σ H' { s1 with heap:=h' }
 ns:∃m,s1.heap.Ns C m
 free:H' C=none
 above:X.s₀.heap.objs.size<=C
 cells:∀x c,X.env.cells.lookup x=some c->c≠C
 pin:∀p∈X.pn++pins,p.1≠C
 loc:C≠X.env.locals
 new:H D=none
 ext:Ext F H F' H'
 nf:¬F' D
 lst:H' D=some (.lst vs)
 rep:RepL X.K F' H' ys vs
theorem zlx {use:Option (Value->Sem Unit)} {Q:Value->y04->Prop} {p2:Pos} (S:CompOk X scope own caps) (hi:PIt X tg iter it)
  (hg:∀cl C s₀ H₀ fp pn,PGt (z4m X (own++caps.map (·.2)) scope cl C s₀ H₀ fp pn) tg gg)
  (ht:∀cl C s₀ H₀ fp pn,PTs (z4m X (own++caps.map (·.2)) scope cl C s₀ H₀ fp pn) ifs cc)
  (he:∀cl C s₀ H₀ fp pn,PEv (z4m X (own++caps.map (·.2)) scope cl C s₀ H₀ fp pn) elt ee)
  (hs:∀x,foldedSetIterable iter X.env x=pure x) {pins:List (Addr×Obj)} {s:y04} {σ:L2.St} {H:Hp} {F₀ O F:Addr->Prop} {H₀:En} {ε:Ev} {ys:List T} (I:L2.Inv X pins σ H s) (r:RelE X.K F₀ H₀ O F H ε σ)
  (e:comp own.length (caps.map (·.1)) it gg cc ee ε=some (.list ys)) (fin:∀D C H' F' s1 vs,After X pins σ F H ys D C H' F' s1 vs->compPost (model X.prog X.w) X.A X.xe use Q (.ref D) C (.ok .next) s1) :
  y0u (model X.prog X.w) X.A (comprehension (.ListComp elt [⟨tg,iter,ifs,0⟩] scope pos) scope X.env p2 (newList []) false (eval iter X.env) use) Q X.xe s:=by
 simp only[comp,y01] at e
 obtain⟨ts,et,e⟩:=e
 split at e
 case isFalse=>cases e
 next hbig =>
 simp only[y07] at e
 obtain⟨ys',ey,e⟩:=e
 cases e
 have hcl:∀x∈scope.names,x.2=.free->∃c,X.env.cells.lookup x.1=some c:=fun x hx hk=>I.ok.has x.1 (S.free x hx hk)
 refine wpAny_comprehension_free rfl hs (zh2 hcl) S.kind S.names (thn (hi pins s σ H (fun J H1=>∃F1,Ext F H F1 H1/\ItOk X.K J F1 H1 ts) I ⟨F₀,H₀,O,F,ε,ts,r,et,fun J F1 H1 x1 ok=>⟨F1,x1,ok⟩⟩) fun v s1 h1=>thn h1 fun itv s2 h2=>?_)
 obtain⟨it',fp,tn,J,H2,rfl,I2,T,st2,f2,F1,x1,ok⟩:=h2
 have hfp:∀b∈fp,b<s2.heap.objs.size:=fun b hb=>by
  obtain⟨o,ho,_⟩:=T.obj 0 _ st2 b hb
  exact y0c ho
 have hD2:H2 s2.heap.objs.size=none:=I2.fresh
 have hD:H s2.heap.objs.size=none:=x1.same.none hD2
 have sz:(s2.heap.push { cls:=.type "list",data:=.seq ([]:List Value).toArray }).objs.size=s2.heap.objs.size+1:=y18 ..
 refine wpAny_newList ?_ (y29 _)
 refine wpAny_newFunctionEnv S.cell (by intro y hy;simp at hy) (fun h₁ hns₁ hsb₁=>?_) S.kind
 have keep:∀b u,(s2.heap.push { cls:=.type "list",data:=.seq ([]:List Value).toArray }).get? b=some u->h₁.get? b=some u:=fun b u e=>hsb₁.extBut b u (y0y (y0c e)) (y03 _ e)
 have I4:=zsj (tk:=s2.toks+0) S I2 f2 hfp hns₁ keep
 have r4:=(r.ext x1).cap (D:=s2.heap.objs.size) own.length S.nd hD2
 refine codeAny_compStart_list ?loop (T.self _ 0 _ _ _ (T.keep 0 _ _ st2 fun b hb o e=>keep b o (y03 _ e)) ?loop)
 refine zq1 (X':=z4m X (own++caps.map (·.2)) scope (clos X.env scope.names []) (s2.heap.push { cls:=.type "list",data:=.seq ([]:List Value).toArray }).objs.size { s2 with heap:=s2.heap.push { cls:=.type "list",data:=.seq ([]:List Value).toArray } } (upd H2 s2.heap.objs.size (.lst [])) fp (X.pn++pins))
  rfl S.calm (hg _ _ _ _ _ _) (ht _ _ _ _ _ _) (he _ _ _ _ _ _) T (fun H' hn b hb=>?_) ok hbig hD2 (fun z=>z.2 rfl) (r.o0 _ (r.fr _ hD)) (fun σ' H' F' s1 vs J1 x' hD' nD' q'=>?_) I4 (T.keep 0 _ _ st2 fun b hb o e=>keep b o (y03 _ e)) (fun b hb=>?_) (Ext.laid x1.dom hD2) r4 z0e ?_ ey
 ·have okX:=zq0 S I2 f2 hfp (own++caps.map (·.2))
  refine⟨hn b hb,(okX.exf b hb).1,okX.exfs b hb,.inl hb,fun x c e=>(okX.exf b hb).2 x c e,fun p hp=>?_⟩
  have hp':p∈X.pn++pins:=by simpa [z4m] using hp
  exact (f2 b hb).2.2.2.2.2 p hp'
 ·obtain⟨m,hn,_⟩:=id J1.loc
  refine fin s2.heap.objs.size _ H' F' s1 vs ⟨fun h' sb=>zna I2 f2 J1 sb,⟨m,hn⟩,J1.free,?_,fun x c e z=>?_,fun p hp z=>?_,?_,hD,x1.trans x',nD',hD',q'⟩
  ·rw[sz]
   exact Nat.le_succ_of_le I2.sz
  ·obtain⟨v,q⟩:=I2.cell x c e
   have:=q.lt
   rw[z,sz] at this
   exact absurd this (Nat.not_lt.mpr (y2m _))
  ·have:=y0c (I2.pin p hp).1
   rw[z,sz] at this
   exact absurd this (Nat.not_lt.mpr (y2m _))
  ·have:=I2.lt
   rw[sz]
   exact y16 (Nat.lt_succ_of_lt this)
 ·have:=(f2 b hb).1
  rw[z0c (y0y (hfp b hb))]
  exact this
 ·intro z
  obtain⟨o,e⟩:=x1.dom _ z
  rw[hD2] at e
  cases e
theorem zwq (S:CompOk X scope own caps) (hi:PIt X tg iter it)
  (hg:∀cl C s₀ H₀ fp pn,PGt (z4m X (own++caps.map (·.2)) scope cl C s₀ H₀ fp pn) tg gg)
  (ht:∀cl C s₀ H₀ fp pn,PTs (z4m X (own++caps.map (·.2)) scope cl C s₀ H₀ fp pn) ifs cc)
  (he:∀cl C s₀ H₀ fp pn,PEv (z4m X (own++caps.map (·.2)) scope cl C s₀ H₀ fp pn) elt ee)
  (hs:∀x,foldedSetIterable iter X.env x=pure x:=by intro _;rfl):PEn X (.ListComp elt [⟨tg,iter,ifs,0⟩] scope pos) (comp own.length (caps.map (·.1)) it gg cc ee):=by
 intro pins s σ H Q I ⟨F₀,H₀,O,F,ε,ys,r,e,k⟩
 rw[eval_ListComp]
 refine zlx S hi hg ht he hs I r e fun D C H' F' s1 vs a=>?_
 obtain⟨m,hn⟩:=a.ns
 exact⟨m,hn,fun h' sb=>⟨.ref D,H',a.inv h' sb,rfl,k D vs F' H' a.ext a.new a.nf a.lst a.rep⟩⟩
theorem ziz {ε:Ev} {n:Nat} {cs:List Nat} {t:T} (e:comp n cs it gg cc ee ε=some t):∃ts,t=.list ts:=by
 simp only[comp,y01] at e
 obtain⟨ts,_,e⟩:=e
 split at e
 ·simp only[y07] at e
  obtain⟨ys,_,e⟩:=e
  exact⟨ys,e.symm⟩
 ·cases e
theorem z60 (S:CompOk X scope own caps) (hi:PIt X tg iter it)
  (hg:∀cl C s₀ H₀ fp pn,PGt (z4m X (own++caps.map (·.2)) scope cl C s₀ H₀ fp pn) tg gg)
  (ht:∀cl C s₀ H₀ fp pn,PTs (z4m X (own++caps.map (·.2)) scope cl C s₀ H₀ fp pn) ifs cc)
  (he:∀cl C s₀ H₀ fp pn,PEv (z4m X (own++caps.map (·.2)) scope cl C s₀ H₀ fp pn) elt ee)
  (hs:∀x,foldedSetIterable iter X.env x=pure x:=by intro _;rfl):PEv X (.ListComp elt [⟨tg,iter,ifs,0⟩] scope pos) (comp own.length (caps.map (·.1)) it gg cc ee) :=
 n2v (zwq S hi hg ht he hs) fun ε t e=>ziz e
theorem zlc (i:Nat) {x:Str} {px spos:Pos} (hN:X.N.Nodup) (S:CompOk X scope own caps) (hit:PIt X tg iter it)
  (hg:∀cl C s₀ H₀ fp pn,PGt (z4m X (own++caps.map (·.2)) scope cl C s₀ H₀ fp pn) tg gg)
  (ht:∀cl C s₀ H₀ fp pn,PTs (z4m X (own++caps.map (·.2)) scope cl C s₀ H₀ fp pn) ifs cc)
  (he:∀cl C s₀ H₀ fp pn,PEv (z4m X (own++caps.map (·.2)) scope cl C s₀ H₀ fp pn) elt ee)
  (hi:X.N[i]?=some x:=by rfl) (hx:Loc X.env.scope x:=by first|exact Or.inl rfl|exact Or.inr rfl)
  (hsw:swapsWith (.ListComp elt [⟨tg,iter,ifs,0⟩] scope pos) (some (.Name x px)) spos.line X.env=pure true:=by rfl)
  (hf:X.fn x=true\/X.env.scope.names.lookup x=some .local:=by first|exact .inl rfl|exact .inr rfl)
  (hs:∀x,foldedSetIterable iter X.env x=pure x:=by intro _;rfl) :
  PSt X (.Assign [.Name x px] (.ListComp elt [⟨tg,iter,ifs,0⟩] scope pos) spos) (asg i (comp own.length (caps.map (·.1)) it gg cc ee)):=by
 intro pins s σ H D I ⟨F₀,H₀,O,F,ε,o,r,e,k⟩
 simp only[asg,y07] at e
 obtain⟨t,et,rfl⟩:=e
 obtain⟨ys,rfl⟩:=ziz et
 rw[exec_Assign_Name_used _ _ _ _ hsw]
 refine y02 (wpAny_standAt (y02 ?_))
 show y0u _ X.A (do let _ <- comprehension (.ListComp elt [⟨tg,iter,ifs,0⟩] scope pos) scope X.env _ (newList []) false (eval iter X.env) (some (assign (.Name x px) X.env))) _ _ s
 refine y02 (thn (zlx (use:=some (assign (.Name x px) X.env)) (Q:=fun _ s'=>SP X pins D .next s') S hit hg ht he hs I r et fun D' C H' F' s1 vs a=>?_) fun _ s' hq=>y06 (y06 hq))
 have IX:=a.inv s1.heap (Heap.SameBut.refl ..)
 have IX':L2.Inv X pins σ H' s1:=IX
 show y0u _ X.A (assign (.Name x px) X.env (.ref D')) _ _ _
 refine wpAny_assign_Name (zhk (v:=.ref D') IX' hN hi hx rfl (fun s2 I2 ⟨b,sb,hb⟩=>?_) hf)
 obtain⟨m,hn⟩:=a.ns
 have nb:C≠b:=by
  rcases hb with rfl|hb
  ·exact a.loc
  ·exact (a.cells x b hb).symm
 refine⟨m,hn.sameBut sb nb,fun h' sb'=>?_⟩
 have I3:L2.Inv X pins (σ.set i (some (.ref D'))) H' { s2 with heap:=h' }:=I2.turned (t':=s2.toks) (it:=C) (fun b o hb e=>sb'.extBut b o hb e) a.free a.loc (.inr a.above) a.cells a.pin
 refine⟨_,H',I3,?_⟩
 have y:Ext F H (fun b=>F' b\/b=D') H':=⟨a.ext.same,fun b z=>.inl (a.ext.sub b z),fun b z=>by
  rcases z with z|rfl
  ·exact a.ext.new b z
  ·exact .inr a.new,⟨fun b z=>by
  rcases z with z|rfl
  ·exact a.ext.dom b z
  ·exact⟨_,a.lst⟩,a.ext.dom.tgs⟩⟩
 refine k _ _ H' y.kp ((r.ext y).set i ?_)
 simp only[Rep]
 exact⟨D',vs,rfl,.inr rfl,.inl a.lst,a.rep.keep (fun _ _ z=>z) fun b _ z w=>⟨.inl z,w⟩⟩
end
end
section
variable [Tbl]
open AutoSeq1 (wpAny_loadPart')
theorem z9j (l:Addr) (items:Array Value) (n:Nat) (dct:Option Addr) (sl:Array (Option Value)) :
  Meets (Builtin.«enumerate.__new__» ⟨[.type "enumerate",.ref l],[]⟩) (fun _ R s=>s.heap.get? l=some { cls:=.type "tuple",dict:=dct,data:=.seq items n,slots:=sl } /\
   R (.ok (.ret (.ref (s.heap.push { cls:=.type "tuple_iterator",data:=.fields #[.ref l,.int 0 0] }).objs.size)))
    { s with heap:=(s.heap.push { cls:=.type "tuple_iterator",data:=.fields #[.ref l,.int 0 0] }).push { cls:=.type "enumerate",data:=.fields #[.none,.bool false,.ref s.heap.objs.size,rawInt 0,.none,.none] } }) :=
 .of_wp fun prog w A R s h=>by
  obtain⟨hp,g,d,tk,os⟩:=s;obtain⟨hl,h⟩:=h
  have hsub:=sub_enumerate
  have hL:Heap.IsTuple (Shared.heap ⟨hp,g,d,tk,os⟩) l items:=⟨_,hl,rfl,n,rfl⟩
  wp_walk using wpAny_loadPart' hl
  refine wpAny_stack_any fun st=>y06 ?_
  split
  ·rename_i c _ _ _ _ _
   cases (c == Value.type "enumerate")
   ·wp_walk using wpAny_loadPart' hl,wpAny_pyIter_tuple hL
    exact⟨_,rfl,h⟩
   ·wp_walk using wpAny_loadPart' hl,wpAny_pyIter_tuple hL
    exact⟨_,rfl,h⟩
  ·wp_walk using wpAny_loadPart' hl,wpAny_pyIter_tuple hL
   exact⟨_,rfl,h⟩
section
variable {prog:y0q} {w:World} {A:Around} {E:Value->y04->Prop} {s:y04}
theorem z9k {l:Addr} {items:Array Value} {Q:Value->y04->Prop} (hL:s.heap.IsTuple l items)
  (h:∀h',IsEnum h' (s.heap.objs.size+1) s.heap.objs.size 0 .none->h'.IsTupleIter s.heap.objs.size l 0->h'.objs.size=s.heap.objs.size+2 ->
   (∀b o,s.heap.get? b=some o->h'.get? b=some o)->Q (.ref (s.heap.objs.size+1)) { s with heap:=h' }) :
  y0u (model prog w) A (call (.type "enumerate") [.ref l]) Q E s:=by
 obtain⟨⟨c,dct,dt,sl⟩,hl,hc,n,hd⟩:=hL
 replace hc:c=.type "tuple":=hc
 replace hd:dt=.seq items n:=hd
 subst hc hd
 refine callType_new F.called_enumerate (by decide) (F.typeCall_enumerate_1 _) (F.newCall_enumerate_1 _) (fun obj=>F.args_object_init_2 obj _) F.entry_enumerate_new
  (z9j l items n dct sl) ⟨hl,?_⟩
 have hz:(s.heap.push { cls:=.type "tuple_iterator",data:=.fields #[.ref l,.int 0 0] }).objs.size=s.heap.objs.size+1:=y18 ..
 show _/\_
 rw[hz]
 have he:IsEnum ((s.heap.push { cls:=.type "tuple_iterator",data:=.fields #[.ref l,.int 0 0] }).push
   { cls:=.type "enumerate",data:=.fields #[.none,.bool false,.ref s.heap.objs.size,rawInt 0,.none,.none] }) (s.heap.objs.size+1) s.heap.objs.size 0 .none:=by
  have:=y0l (s.heap.push { cls:=.type "tuple_iterator",data:=.fields #[.ref l,.int 0 0] })
   (o:={ cls:=.type "enumerate",data:=.fields #[.none,.bool false,.ref s.heap.objs.size,rawInt 0,.none,.none] }) rfl
  rw[hz] at this;exact this
 refine⟨⟨_,he,rfl⟩,h _ he ⟨_,y03 _ (y0l _ rfl),rfl,rfl⟩ (by rw[y18,hz]) fun b o x=>y03 _ (y03 _ x)⟩
theorem zbm {it l:Addr} {i:Nat} {items} {x:Value} {Q:Value->y04->Prop} (hit:s.heap.IsTupleIter it l i)
  (hl:s.heap.IsTuple l items) (hx:items[i]?=some x)
  (hQ:∀h',h'.IsTupleIter it l (i+1)->Heap.SameBut it s.heap h'->Q x { s with heap:=h' }) :
  y0u (model prog w) A (y0t (.ref it)) Q E s:=by
 obtain⟨o,ho,hc,hd⟩:=id hit
 obtain⟨ol,hol,_,nl,hdl⟩:=hl
 unfold y0t
 refine y02 (wpAny_callSpecial?_slot (name:=Str.ofString "__next__") hit.typeIs y2f
  (wpAny_call_entry y2f hit.typeIs F.entry_tuple_iterator_next ?_ (F.args_tuple_iterator_next_1 _)))
 show y0u _ _ (field (.ref it) 0 >>= _) _ _ s
 refine y02 (wpAny_field ho hd (x:=.ref l) rfl ?_)
 show y0u _ _ (if (Value.ref l == Value.none)=true then _ else _) _ _ s
 rw[if_neg (show ¬((Value.ref l == Value.none)=true) from y28)]
 show y0u _ _ (field (.ref it) 1 >>= _) _ _ s
 refine y02 (wpAny_field ho hd (x:=.int i 0) rfl ?_)
 show y0u _ _ (seqItems? (.ref l) >>= _) _ _ s
 refine y02 (wpAny_seqItems hol hdl ?_)
 simp only[Int.toNat_natCast,hx]
 refine y02 (wpAny_setField ho hd (by simp) (y06 ⟨x,rfl,y06 (hQ _ ?_ (Heap.SameBut.update ..))⟩))
 exact⟨_,Heap.get?_update_self _ ho (Obj.isFreed_of_fields (Obj.data_mapFields hd _)),(Obj.cls_mapFields ..).trans hc,by
  rw[Obj.data_mapFields hd];simp[rawInt]⟩
theorem z5b {it l:Addr} {i:Nat} {items} {Q:Value->y04->Prop} (hh:A.handled=none)
  (hit:s.heap.IsTupleIter it l i) (hl:s.heap.IsTuple l items) (hx:items[i]?=none)
  (hE:∀h' e,Heap.ExtBut it s.heap h'->(∃o,h'.get? e=some o/\o.cls=.type "StopIteration")->E (.ref e) { s with heap:=h' }) :
  y0u (model prog w) A (y0t (.ref it)) Q E s:=by
 obtain⟨o,ho,hc,hd⟩:=id hit
 obtain⟨ol,hol,_,nl,hdl⟩:=hl
 unfold y0t
 refine y02 (wpAny_callSpecial?_slot (name:=Str.ofString "__next__") hit.typeIs y2f
  (wpAny_call_entry y2f hit.typeIs F.entry_tuple_iterator_next ?_ (F.args_tuple_iterator_next_1 _)))
 show y0u _ _ (field (.ref it) 0 >>= _) _ _ s
 refine y02 (wpAny_field ho hd (x:=.ref l) rfl ?_)
 show y0u _ _ (if (Value.ref l == Value.none)=true then _ else _) _ _ s
 rw[if_neg (show ¬((Value.ref l == Value.none)=true) from y28)]
 show y0u _ _ (field (.ref it) 1 >>= _) _ _ s
 refine y02 (wpAny_field ho hd (x:=.int i 0) rfl ?_)
 show y0u _ _ (seqItems? (.ref l) >>= _) _ _ s
 refine y02 (wpAny_seqItems hol hdl ?_)
 simp only[Int.toNat_natCast,hx]
 refine y02 (wpAny_rule (y02 (wpAny_setField ho hd (by simp) ?_)))
 show y0u _ _ (newExc (.type "StopIteration") [] >>= _) _ _ _
 refine y02 ?_
 simp only[newExc,newTuple]
 refine y02 (wpAny_newObj_type ?_ (by size_fits))
 refine y02 (m:=firstArgMember _ _) (wpAny_of_eq (a:=Value.none) (by first|rfl|(simp only[firstArgMember];rfl)) ?_)
 refine wpAny_newObj_type ?_ (by size_fits)
 simp only[raiseNew]
 refine y02 (wpAny_handled ?_)
 first|rw[show A.in1.handled=none from hh]|rw[hh]
 refine y02 (y06 (wpAny_throw ?_))
 exact hE _ _ (((Heap.SameBut.update ..).extBut.push _).push _) ⟨_,y0l _ rfl,rfl⟩
end
theorem z3z {prog:y0q} {w:World} {A:Around} (hh:A.handled=none) (it l:Addr) (hne:l≠it) (items:Array Value) :
  Draws prog w A it [it,l] items.size (fun i v=>items[i]?=some v) (fun i h=>h.IsTupleIter it l i/\h.IsTuple l items) where
 live:=fun _ _ st=>let ⟨o,ho,_⟩:=st.1;⟨o,ho⟩
 frame:=fun _ _ _ st hk=>⟨st.1.at fun o e=>hk it (by simp) o e,let ⟨o,ho,r⟩:=st.2;⟨o,hk l (by simp) o ho,r⟩⟩
 item:=fun i s Q E hi st hQ=>by
  refine zbm st.1 st.2 (x:=items[i]) (by simp[hi]) fun h' hit' hs'=>?_
  exact hQ _ h' s.toks (by simp[hi]) ⟨hit',st.2.extBut hs'.extBut hne⟩ hs'
 done:=fun s Q E st hE=>z5b hh st.1 st.2 (by simp) hE
noncomputable def Ite (K:y00) (a:Addr):It :=
 ⟨fun i H=>∃xs x,SqT K H a xs/\xs[i]?=some x,fun i H x H'=>∃p v,H p=none/\x=.ref p/\H'=upd H p (.tup [.int i,v])/\∀xs,SqT K H a xs->xs[i]?=some v,fun i H=>∃xs,SqT K H a xs/\xs.length<=i⟩
theorem znr {P:y0q} {w:World} {K:y00} {es:List Expr} {k:Nat} {pos:Pos} (a it e:Addr) (hne:e≠it) (hai:a≠it) (hae:a≠e):Turn P w K (.Tuple es k pos) (Ite K a) [e,it] e (fun i h=>(∃old,IsEnum h e it i old)/\h.IsTupleIter it a i) where
 mem:=by simp
 obj:=fun i h st b hb=>by
  obtain⟨⟨old,he⟩,o,ho,hc,hd⟩:=st
  rcases y09.mp hb with rfl|hb
  ·exact⟨_,he,fun v z=>by
    have z':Data.fields _=Data.cell v:=z
    cases z'⟩
  ·have e1:b=it:=by simpa using hb
   subst e1
   exact⟨o,ho,fun v z=>by rw[hd] at z;cases z⟩
 keep:=fun i h h' st kk=>by
  obtain⟨⟨old,he⟩,st2⟩:=st
  exact⟨⟨old,kk e (by simp) _ he⟩,st2.at fun o q=>kk it (by simp) o q⟩
 item:=by
  intro X hP hw hK hc i pins s σ H E I hf st hg
  subst hP hw hK
  obtain⟨xs,x,hq,hx⟩:=hg
  obtain⟨its,rv,p,hz⟩:=I.tuple hq
  obtain⟨u,hu,ru⟩:=rv.get hx
  obtain⟨⟨old,he⟩,hit⟩:=st
  obtain⟨f0,f1,f2,f3,f4,f5⟩:=hf e (by simp)
  obtain⟨g0,g1,g2,g3,g4,g5⟩:=hf it (by simp)
  have hi:i<its.toArray.size:=by
   rw[y0h]
   exact (y0k.mp hu).1
  have hnf:e∉[it,a]:=by
   intro z
   rcases y09.mp z with z|z
   ·exact hne z
   ·have z':e=a:=by simpa using z
    exact hae z'.symm
  refine wpAny_pyNext_enum_itemD (z3z (A:=X.A.in1) (I.ok.hd hc) it a hai its.toArray) he ⟨hit,p⟩ hi hne hnf fun x' h' tk hP' ho hs' hT hsz hk=>?_
  have ex:x'=u:=by
   have:=hP'
   rw[<- Array.getElem?_toList] at this
   rw[show (its.toArray).toList=its from rfl,hu] at this
   exact (y2k this).symm
  subst ex
  refine⟨_,rfl,wpAny_letOwnedTupleGo_enum ho fun h2 he2 hs2=>?_⟩
  have helt:e<s.heap.objs.size:=y0c he
  have hilt:it<s.heap.objs.size:=by obtain⟨o,ho',_⟩:=hit;exact y0c ho'
  have k2:∀b o,b≠e->b≠it->s.heap.get? b=some o->h2.get? b=some o:=fun b o h1 h3 q=>hs2.extBut b o h1 (hk b o h1 h3 q)
  have fr:H s.heap.objs.size=none:=I.hok.fresh (y0o _)
  have hT2:h2.get? s.heap.objs.size=some { cls:=.type "tuple",data:=.seq #[.int i tk,x'] }:=hs2.extBut _ _ (y16 helt) hT
  have nH:∀b o,H b=some o->b≠e/\b≠it:=fun b o q=>⟨fun z=>(by rw[z,f0] at q;cases q),fun z=>(by rw[z,g0] at q;cases q)⟩
  have hok2:HOk X.prog X.w (upd H s.heap.objs.size (.tup [.int i,x])) h2:=by
   intro b o q
   by_cases hb:b=s.heap.objs.size
   ·subst hb
    rw[z0e] at q
    cases q
    exact⟨by show 2<=y0j;decide,[.int i tk,x'],.cons ⟨tk,rfl⟩ (.cons ru .nil),⟨_,hT2,rfl,_,rfl⟩⟩
   ·rw[z0c hb] at q
    refine (I.hok b o q).stay (fun c v hc' q'=>k2 c v ?_ ?_ q') (fun c q'=>?_) fun c ys q'=>?_
    ·rcases hc' with rfl|hc'
     ·exact (nH _ _ q).1
     ·exact (nH _ _ hc').1
    ·rcases hc' with rfl|hc'
     ·exact (nH _ _ q).2
     ·exact (nH _ _ hc').2
    ·rw[z0c (z0j q' fr)]
     exact q'
    ·rw[z0c (z0j q' fr)]
     exact q'
  have I2:L2.Inv X pins σ (upd H s.heap.objs.size (.tup [.int i,x])) { s with heap:=h2,toks:=tk+1 }:=by
   refine I.step (g':=s.gens) (d':=s.drawn) (ch:=[e,it]) (fun b hb=>?_) (fun b o _ _ hc' q _=>k2 b o (fun z=>hc' (by simp[z])) (fun z=>hc' (by simp[z])) q) (fun b o _ _ hc' q _=>⟨o.slots,k2 b o (fun z=>hc' (by simp[z])) (fun z=>hc' (by simp[z])) q⟩) (fun b o _ q n=>?_)
    (fun b o hc' q=>⟨o,k2 b o (fun z=>hc' (by simp[z])) (fun z=>hc' (by simp[z])) q⟩) (fun b ys q=>by rw[z0c (z0j q fr)];exact q) (fun b o u q=>by rw[z0c (z0j q fr)];exact q) (fun b ps q=>⟨#[],by rw[z0c (z0j q fr),q];simp⟩) (fun m hm=>?_) hok2 I.bare
   ·rcases y09.mp hb with rfl|hb
    ·exact⟨f3,f1,f4,f5⟩
    ·have:b=it:=by simpa using hb
     subst this
     exact⟨g3,g1,g4,g5⟩
   ·rw[z0c (y0y (y0c q))]
    exact n
   ·obtain⟨o,es',ep,ho',r⟩:=hm
    exact⟨o,es',ep,k2 _ o (Ne.symm f1) (Ne.symm g1) ho',r⟩
  refine⟨.ref s.heap.objs.size,_,I2,rfl,⟨s.heap.objs.size,x,fr,rfl,rfl,fun ys hy=>by rw[I.tuple_inj hy hq];exact hx⟩,⟨⟨_,by simpa using he2⟩,hs'.1.at fun o q=>(hs2.2 it hne.symm).trans q⟩,fun b hb=>?_⟩
  rcases y09.mp hb with rfl|hb
  ·rw[z0c (y0y helt)]
   exact f0
  ·have:b=it:=by simpa using hb
   subst this
   rw[z0c (y0y hilt)]
   exact g0
 done:=by
  intro X hP hw hK hc i pins s σ H E I hf st hg
  subst hP hw hK
  obtain⟨xs,hq,hx⟩:=hg
  obtain⟨its,rv,p,hz⟩:=I.tuple hq
  obtain⟨⟨old,he⟩,hit⟩:=st
  obtain⟨g0,g1,g2,g3,g4,g5⟩:=hf it (by simp)
  have hT:s.TypeIs (.ref e) "enumerate":=⟨_,he,rfl⟩
  have hl:=rv.length
  unfold pyNext
  refine y02 (wpAny_attempt (wpAny_callSpecial?_slot (name:=Str.ofString "__next__") hT F.slot_enumerate_next
   (wpAny_call_entry F.slot_enumerate_next hT F.entry_enumerate_next ?_ (F.args_enumerate_next_1 _))))
  show y0u _ _ (field (.ref e) 2 >>= _) _ _ _
  refine y02 (wpAny_field he rfl (x:=.ref it) rfl ?_)
  refine y02 (z5b (I.ok.hd hc) hit (show s.heap.IsTuple a its.toArray from p) (by simp;omega) fun h' x he' hx'=>?_)
  obtain⟨o,ho,hc'⟩:=hx'
  refine y02 (wpAny_isInstance (T:="StopIteration") (b:=true) ⟨o,ho,hc'⟩ isSubtype_stop ?_)
  exact y06 ⟨rfl,I.turned (t':=s.toks) (fun b o hb q=>he' b o hb q) g0 g1 g3 g4 g5⟩
 self:=fun _ _ _ _ _ st h=>by
  obtain⟨⟨old,he⟩,_⟩:=st
  exact wpAny_pyIter_enum he h
noncomputable def iEn (K:y00) (ta:TA):TI:=fun σ H R=>ta σ H fun vs H1=>∃a xs,vs=[.ref a]/\SqT K H1 a xs/\R (Ite K a) H1
section
variable {X:Cx} {es:List Expr} {k:Nat} {p pos p2:Pos} {a:Expr} {f:Fe}
theorem zut {ta:TA} (hg:Gl X "enumerate") (hm:X.mg "enumerate"=none) (ha:PA X [a] ta) (hs:y0a [a] X.env=[(false,eval a X.env)]:=by rfl):PI X (.Tuple es k p2) (.Call (.Name "enumerate" p) [a] [] pos) (iEn X.K ta):=by
 intro pins s σ H R I h
 refine Call_ (zcd I hg hm PyProof.Rows.boot_enumerate (y1w (thn (ha pos pins s σ H _ I h) fun us s1 ⟨vs,H1,I1,r1,q1⟩=>?_) hs rfl))
 obtain⟨a,xs,rfl,hq,q⟩:=q1
 cases r1 with
 | cons r rr =>
  cases rr
  cases r
  obtain⟨its,rv,pl,hz⟩:=I1.tuple hq
  have hal:a<s1.heap.objs.size:=by obtain⟨o,ho,_⟩:=pl;exact y0c ho
  refine z9k (show s1.heap.IsTuple a its.toArray from pl) fun h' he hit hsz hk=>wpAny_pyIter_enum he ?_
  refine⟨s1.heap.objs.size+1,[s1.heap.objs.size+1,s1.heap.objs.size],_,_,H1,rfl,I1.kept (t':=s1.toks) hk,znr a s1.heap.objs.size (s1.heap.objs.size+1) (Nat.succ_ne_self _) (y0y hal) (y0y (Nat.lt_succ_of_lt hal)),⟨⟨_,he⟩,hit⟩,fun b hb=>?_,q⟩
  have hb':s1.heap.objs.size<=b:=by
   rcases y09.mp hb with rfl|hb
   ·exact y2m _
   ·have:b=s1.heap.objs.size:=by simpa using hb
    rw[this]
    exact y0o _
  exact I1.fpOk hb' (I1.hok.fresh hb')
theorem zpb {K:y00} {a:Addr} {F1:Addr->Prop} {H1:Hp} {ts:List T} {vs:List V} (hr:SqT K H1 a vs) (q:RepL K F1 H1 ts vs):ItOk K (Ite K a) F1 H1 (enum ts) where
 go:=fun i F H t kp d e=>by
  have hi:=(y0k.mp e).1
  simp only[enum,y14,List.length_zipIdx] at hi
  obtain⟨v,h1,_⟩:=q.get (y0v hi)
  exact⟨vs,v,kp.tup _ _ hr,h1⟩
 yld:=fun i F H t x H' kp d e y=>by
  obtain⟨p,v,hp,rfl,rfl,y⟩:=y
  have hi:=(y0k.mp e).1
  simp only[enum,y14,List.length_zipIdx] at hi
  obtain⟨v',h1,h2⟩:=(q.kp kp).get (y0v hi)
  have h3:=y vs (kp.tup _ _ hr)
  rw[h1] at h3
  cases h3
  have x1:=Ext.laid (o:=.tup [.int i,v]) d hp
  refine⟨F,x1,?_⟩
  have et:t=.tuple [.int i,ts[i]]:=by
   simp only[enum,y15,List.getElem?_zipIdx,y0v hi] at e
   simpa using e.symm
  subst et
  simp only[Rep]
  exact⟨p,_,rfl,SqT.of z0e,RepL.cons (by simp[Rep]) (RepL.cons (h2.ext x1) RepL.nil)⟩
 stop:=fun i F H kp hl=>⟨vs,kp.tup _ _ hr,by
  simp only[enum,y14,List.length_zipIdx] at hl
  rw[<- q.length]
  exact hl⟩
theorem zlo (hm:X.mg "enumerate"=none) (ha:PEv X a f) (hg:Gl X "enumerate":=by rfl) (hs:y0a [a] X.env=[(false,eval a X.env)]:=by rfl) (hs2:y0a [a] X.env=(false,eval a X.env)::y0a [] X.env:=by rfl) :
  PIt X (.Tuple es k p2) (.Call (.Name "enumerate" p) [a] [] pos) (z3f (z31 f)):=zjm (zut hg hm (z2y ha z6o hs2) hs) fun σ H R ⟨F₀,H₀,O,F,ε,ts,r,e,k⟩=>by
 simp only[z3f,z31,y07,y01] at e
 obtain⟨us,⟨t,et,e⟩,rfl⟩:=e
 split at e
 ·cases e
  refine⟨F₀,H₀,O,F,ε,_,r,et,fun v F' H' x q=>?_⟩
  simp only[Rep] at q
  obtain⟨a,vs,rfl,hs,hr⟩:=q
  exact⟨a,vs,rfl,hs,k _ F' H' x (zpb hs hr)⟩
 ·cases e
end
end
section
variable [Tbl]
structure Cl (P:y0q) (w:World) (K:y00) (mg:Str->Option Value) (base:Heap) (x:Str) (k n:Nat) (d:List T->Option T):Prop where
 ex:∃fa fd ps,FnOk P w K mg base CX0 k fa fd ps (spT K n d)/\mg x=some (.ref fa)/\y08 K (.ref fa)=true/\z5h K fd ps []
section
variable {P:y0q} {w:World} {K:y00} {mg:Str->Option Value} {base:Heap} {x:Str} {k n:Nat} {d:List T->Option T}
theorem Cl.mono {j:Nat} (c:Cl P w K mg base x j n d) (h:j<=k):Cl P w K mg base x k n d:=by
 obtain⟨fa,fd,ps,F,r⟩:=c.ex
 exact⟨fa,fd,ps,F.mono h,r⟩
theorem Cl.mk' {fa:Addr} {fd:y0b} {ps:List Str} (F:FnOk P w K mg base CX0 k fa fd ps (spT K n d)) (m:mg x=some (.ref fa)) (kp:y08 K (.ref fa)=true) (b:z5h K fd ps []):Cl P w K mg base x k n d:=⟨fa,fd,ps,F,m,kp,b⟩
end
section
variable {X:Cx} {k n:Nat} {d:List T->Option T} {x:Str} {p pos:Pos} {e:Expr} {es:List Expr} {fs:List Fe}
theorem z0l (C:Cl X.prog X.w X.K X.mg X.base x k n d) (hr:Room k X.A) (ha:PAv X (e::es) fs) (hg:Gl X x:=by rfl) (hn:fs.length=n:=by rfl) (hdb:(x == ("__debug__":Str))=false:=by decide)
  (he:y0a (e::es) X.env=(false,eval e X.env)::y0a es X.env:=by rfl) (hpl:(backTo pos (y0a es X.env)).any (·.1)=false:=by rfl):PEv X (.Call (.Name x p) (e::es) [] pos) (opN d fs):=by
 obtain⟨fa,fd,ps,F,m,kp,b⟩:=C.ex
 exact zwr F hr hg m kp b ha hn hdb he hpl
theorem q_gI {i:Int} {t:Tok} (hm:X.mg x=some (.int i t)) (hg:Gl X x:=by rfl) (hd:(x == ("__debug__":Str))=false:=by decide):PEv X (.Name x pos) (cst (.int i)):=zmj (v:=.int i) (zok (v:=.int i) hg hm ⟨t,rfl⟩ hd) fun _ _=>by simp[Rep]
noncomputable def zxv (scope sc:Scope) (N:List Str) (caps:List (Nat×Str)):Bool :=
 decide (scope.kind=.function) && scope.names.all (fun y=>(decide (y.2≠.local) || decide (scope.names.lookup y.1=some .local)) && decide (y.2≠.cell) && (decide (y.2≠.free) || decide (sc.names.lookup y.1=some .cell) || decide (sc.names.lookup y.1=some .free)))
  && caps.all (fun q=>decide (N[q.1]?=some q.2) && decide (scope.names.lookup q.2=some .free)) && decide ((caps.map (·.1)).Nodup)
theorem zxu {scope sc:Scope} {own:List Str} {caps:List (Nat×Str)} (N:List Str) (hsc:X.env.scope=sc) (hN:X.N=N) (hc:X.calm=true) (h:zxv scope sc N caps=true):CompOk X scope own caps:=by
 simp only[zxv,y1c,List.all_eq_true,decide_eq_true_eq,Bool.or_eq_true] at h
 obtain⟨⟨⟨h1,h2⟩,h3⟩,h4⟩:=h
 refine⟨h1,fun y hy hl=>?_,fun y hy=>(h2 y hy).1.2,fun y hy hf=>?_,fun q hq=>by rw[hN];exact h3 q hq,h4,hc⟩
 ·rcases (h2 y hy).1.1 with z|z
  ·exact absurd hl z
  ·exact z
 ·have hk:X.env.kindOf y.1=sc.names.lookup y.1:=by rw[<- hsc];rfl
  rw[hk]
  rcases (h2 y hy).2 with (z|z)|z
  ·exact absurd hf z
  ·exact .inl z
  ·exact .inr z
end
theorem z5t {P:y0q} {w:World} {K:y00} {mg:Str->Option Value} {base:Heap} {x:Str} {st:Stmt} {f:Addr} {fd:y0b} {N ps:List Str} {k:Nat} {b:Fs} (F:Fun K x x st f fd) (S:FnScope N ps (z02 st)) (bd:z5h K fd ps []) (m:mg x=some (.ref f))
  (hb:∀(cdv:Value) (A:Around) (outer:List Env) (s:y04) (H:Hp) (E:XK),Room k (A.deeper (envOfC x (z02 st) s.heap.objs.size f cdv)) ->
   PBt (cxOf CX0 P w K mg base N x (z02 st) f cdv A outer s H E).nox (z2v st) b):Cl P w K mg base x (k+1) ps.length (runF b N.length):=.mk' (zpn F S hb) m F.kp bd
end
end D
end
section
namespace L2
open PySem PySem.Spec PyProof.Rows
section
variable {κ:Type} [DecidableEq κ]
noncomputable def valV (kvs:List (κ×V)) (k:κ):Option V:=(kvs.find? fun kv=>decide (kv.1=k)).map (·.2)
noncomputable def putK (kvs:List (κ×V)) (k:κ) (v:V):List (κ×V) :=
 if (kvs.any fun kv=>decide (kv.1=k))=true then kvs.map (fun kv=>if kv.1=k then (kv.1,v) else kv) else kvs++[(k,v)]
theorem zg3 {p:κ×V} {r:List (κ×V)} {k:κ} (e:p.1=k):valV (p::r) k=some p.2:=by simp[valV,y1u,e]
theorem zg4 {p:κ×V} {r:List (κ×V)} {k:κ} (e:¬p.1=k):valV (p::r) k=valV r k:=by simp[valV,y1u,e]
theorem zl1 (k:κ):∀kvs:List (κ×V),(kvs.any fun kv=>decide (kv.1=k))=(valV kvs k).isSome
 | []=>rfl
 | p::r=>by
  rw[List.any_cons]
  by_cases e:p.1=k
  ·simp only[zg3 e,decide_eq_true e,Bool.true_or,Option.isSome_some]
  ·rw[zg4 e,decide_eq_false e,Bool.false_or];exact zl1 k r
theorem zdx (kvs:List (κ×V)) (k:κ) (v:V):(putK kvs k v).length<=kvs.length+1:=by
 unfold putK
 split
 ·rw[y14];omega
 ·rw[y27,y0w,y2l];omega
theorem RelO.isSome_eq {o:Option V} {u:Option Value} (r:RelO o u):o.isSome=u.isSome:=by
 cases o with
 | none=>cases u with
  | none=>rfl
  | some _=>exact (show False from r).elim
 | some _=>cases u with
  | none=>exact (show False from r).elim
  | some _=>rfl
theorem KV.val {kvs:List (κ×V)} {vs:List (κ×Value)} (r:KV kvs vs) (k:κ):RelO (valV kvs k) (valueAt vs k):=by
 unfold KV at r
 induction r with
 | nil=>exact True.intro
 | @cons p q ps qs h t ih =>
  obtain⟨h1,h2⟩:=h
  by_cases e:p.1=k
  ·have e':q.1=k:=h1.symm.trans e
   have b:valueAt (q::qs) k=some q.2:=by simp[valueAt,y1u,e']
   rw[zg3 e,b];exact h2
  ·have e':¬q.1=k:=fun z=>e (h1.trans z)
   have b:valueAt (q::qs) k=valueAt qs k:=by simp[valueAt,y1u,e']
   rw[zg4 e,b];exact ih
theorem KV.any {kvs:List (κ×V)} {vs:List (κ×Value)} (r:KV kvs vs) (k:κ):(kvs.any fun kv=>decide (kv.1=k))=vs.any fun kv=>decide (kv.1=k):=by
 unfold KV at r
 induction r with
 | nil=>rfl
 | cons h t ih=>rw[List.any_cons,List.any_cons,ih,h.1]
theorem KV.repl {kvs:List (κ×V)} {vs:List (κ×Value)} (r:KV kvs vs) (k:κ) {y:V} {u:Value} (ry:RelV y u) :
  KV (kvs.map fun kv=>if kv.1=k then (kv.1,y) else kv) (vs.map fun kv=>if kv.1=k then (kv.1,u) else kv):=by
 unfold KV at r ⊢
 induction r with
 | nil=>exact .nil
 | @cons p q ps qs h t ih =>
  rw[y0e,y0e]
  refine .cons ?_ ih
  obtain⟨h1,h2⟩:=h
  by_cases e:p.1=k
  ·rw[if_pos e,if_pos (h1.symm.trans e)];exact⟨h1,ry⟩
  ·rw[if_neg e,if_neg (fun z=>e (h1.trans z))];exact⟨h1,h2⟩
theorem KV.put {kvs:List (κ×V)} {vs:List (κ×Value)} (r:KV kvs vs) (k:κ) {y:V} {u:Value} (ry:RelV y u):KV (putK kvs k y) (stored vs k u):=by
 unfold putK stored
 rw[r.any k]
 by_cases e:(vs.any fun kv=>decide (kv.1=k))=true
 ·rw[if_pos e,if_pos e];exact r.repl k ry
 ·rw[if_neg e,if_neg e];exact Paired.snoc r ⟨rfl,ry⟩
theorem KV.length {kvs:List (κ×V)} {vs:List (κ×Value)} (r:KV kvs vs):kvs.length=vs.length:=Paired.length r
end
theorem zs3 {P:y0q} {w:World} {k:Key} {u:Value} (r:RelV (kV k) u):(z1i P w).is k u=true:=by
 cases k with
 | inl i=>obtain⟨t,e⟩:=(show ∃t,u=Value.int i t from r);subst e;exact zdt P w i t
 | inr x=>obtain⟨t,e⟩:=(show ∃t,u=Value.str x t from r);subst e;exact zds P w x t
theorem zii {P:y0q} {w:World}:∀{ks:List Key} {us:List Value},Vals (ks.map kV) us->ItemsAre (z1i P w) ks us
 | [],_,r=>by rw[y1a] at r;cases r;exact .nil
 | k::ks,_,r=>by
  rw[y0e] at r
  cases r with
  | cons h t=>exact .cons (zs3 h) (zii t)
abbrev KT (H:Hp):List (List Key×V)->List (List Key×Addr×Value)->Prop:=Paired fun p q=>p.1=q.1/\H q.2.1=some (.tup (p.1.map kV))/\RelV p.2 q.2.2
theorem KT.val {H:Hp} {kvs:List (List Key×V)} {xs:List (List Key×Addr×Value)} (r:KT H kvs xs) (k:List Key):RelO (valV kvs k) ((atKey xs k).map (·.2)):=by
 induction r with
 | nil=>exact True.intro
 | @cons p q ps qs h t ih =>
  obtain⟨h1,_,h2⟩:=h
  by_cases e:p.1=k
  ·have e':q.1=k:=h1.symm.trans e
   have b:atKey (q::qs) k=some q.2:=by simp[atKey,y1u,e']
   rw[zg3 e,b];exact h2
  ·have e':¬q.1=k:=fun z=>e (h1.trans z)
   have b:atKey (q::qs) k=atKey qs k:=by simp[atKey,y1u,e']
   rw[zg4 e,b];exact ih
theorem KT.repl {H:Hp} {kvs:List (List Key×V)} {xs:List (List Key×Addr×Value)} (r:KT H kvs xs) (k:List Key) {y:V} {u:Value} (ry:RelV y u) :
  KT H (kvs.map fun kv=>if kv.1=k then (kv.1,y) else kv) (xs.map (putAt k u)):=by
 induction r with
 | nil=>exact .nil
 | @cons p q ps qs h t ih =>
  rw[y0e,y0e]
  refine .cons ?_ ih
  obtain⟨h1,h2,h3⟩:=h
  unfold putAt
  by_cases e:p.1=k
  ·rw[if_pos e,if_pos (h1.symm.trans e)];exact⟨h1,h2,ry⟩
  ·rw[if_neg e,if_neg (fun z=>e (h1.trans z))];exact⟨h1,h2,h3⟩
theorem KT.put {H:Hp} {kvs:List (List Key×V)} {xs:List (List Key×Addr×Value)} (r:KT H kvs xs) (k:List Key) {b:Addr} {y:V} {u:Value} (hb:H b=some (.tup (k.map kV))) (ry:RelV y u) :
  KT H (putK kvs k y) (storedH xs k b u):=by
 have e:(kvs.any fun kv=>decide (kv.1=k))=(atKey xs k).isSome:=by
  rw[zl1,(r.val k).isSome_eq,Option.isSome_map]
 unfold putK storedH
 rw[e]
 by_cases q:(atKey xs k).isSome=true
 ·rw[if_pos q,if_pos q];exact r.repl k ry
 ·rw[if_neg q,if_neg q];exact Paired.snoc r ⟨rfl,hb,ry⟩
theorem KT.keeps {H H':Hp} {kvs:List (List Key×V)} {xs:List (List Key×Addr×Value)} (r:KT H kvs xs) (ht:∀b ys,H b=some (.tup ys)->H' b=some (.tup ys)):KT H' kvs xs :=
 Paired.mapP r fun _ _ z=>⟨z.1,ht _ _ z.2.1,z.2.2⟩
section
variable {P:y0q} {w:World} {H:Hp} {h:Heap} {a:Addr}
theorem zwk {u:HO} (ok:HOk P w H h) (e:Rd H a u):z6j P w H h a u:=e.ok ok
theorem zvu {kvs:List (Key×V)} (ok:HOk P w H h) (e:Rd H a (.dK kvs)):kvs.length<=y0j/\(a == sysModules)=false/\∃vs,KV kvs vs/\h.DictOf (z1i P w) a vs :=
 show z6j P w H h a (.dK kvs) from zwk ok e
theorem zz5 {kvs:List (Key×V)} (ok:HOk P w H h) (e:H a=some (.dK kvs)):kvs.length<=y0j/\(a == sysModules)=false/\∃vs,KV kvs vs/\h.DictOf (z1i P w) a vs:=zvu ok (.inl e)
theorem zp6 {ks:List Key} (ok:HOk P w H h) (e:H a=some (.tup (ks.map kV))):(tupleKind (z1i P w)).is h ks a:=by
 obtain⟨_,its,r,o,h1,h2,n,h3⟩:=(show z6j P w H h a (.tup (ks.map kV)) from ok a _ e)
 exact⟨o,its.toArray,n,h1,h2,h3,by simpa using zii r⟩
theorem zvt {kvs:List (List Key×V)} (ok:HOk P w H h) (e:Rd H a (.dT kvs)):kvs.length<=y0j/\(a == sysModules)=false /\
  ∃xs,KT H kvs xs/\h.DictOfH (tupleKind (z1i P w)) a xs:=by
 obtain⟨z,y,xs,r,o,es,ep,h1,h2,h3,h4,h5⟩:=(show z6j P w H h a (.dT kvs) from zwk ok e)
 refine⟨z,y,xs,r,o,es,ep,h1,h2,h3,h4,fun x hx=>?_,h5⟩
 have all:∀{l:List (List Key×V)} {m:List (List Key×Addr×Value)},KT H l m->∀x∈m,(tupleKind (z1i P w)).is h x.1 x.2.1:=by
  intro l m q
  induction q with
  | nil=>intro x hx;exact nomatch hx
  | @cons p q ps qs hq t ih =>
   intro x hx
   rcases y09.mp hx with e|hx
   ·subst e
    exact zp6 ok (by rw[<- hq.1];exact hq.2.1)
   ·exact ih x hx
 exact all r x hx
theorem zz4 {kvs:List (List Key×V)} (ok:HOk P w H h) (e:H a=some (.dT kvs)):kvs.length<=y0j/\(a == sysModules)=false /\
  ∃xs,KT H kvs xs/\h.DictOfH (tupleKind (z1i P w)) a xs:=zvt ok (.inl e)
end
noncomputable def DGet (H:Hp) (a:Addr) (y:V) (r:Option V):Prop :=
 (∃kvs k,Rd H a (.dK kvs)/\y=kV k/\r=valV kvs k)\/∃kvs k b,Rd H a (.dT kvs)/\y=.ref b/\H b=some (.tup (k.map kV))/\r=valV kvs k
noncomputable def DPut (H:Hp) (a:Addr) (y v:V) (H':Hp):Prop :=
 (∃kvs k,H a=some (.dK kvs)/\y=kV k/\kvs.length<y0j/\H'=upd H a (.dK (putK kvs k v))) \/
 ∃kvs k b,H a=some (.dT kvs)/\y=.ref b/\H b=some (.tup (k.map kV))/\kvs.length<y0j/\H'=upd H a (.dT (putK kvs k v))
theorem DGet.k {H:Hp} {a:Addr} {kvs:List (Key×V)} {k:Key} (e:H a=some (.dK kvs)):DGet H a (kV k) (valV kvs k):=.inl ⟨kvs,k,.inl e,rfl,rfl⟩
theorem DPut.k {H:Hp} {a:Addr} {kvs:List (Key×V)} {k:Key} {v:V} (e:H a=some (.dK kvs)) (hl:kvs.length<y0j):DPut H a (kV k) v (upd H a (.dK (putK kvs k v))):=.inl ⟨kvs,k,e,rfl,hl,rfl⟩
section
variable {X:Cx} {pins:List (Addr×Obj)} {σ:St} {H:Hp} {s:y04} {a:Addr} {y v:V} {u r:Value} {o:Option V} {A:Around} {E:Value->y04->Prop}
theorem Inv.big (I:Inv X pins σ H s):sysModules<s.heap.objs.size:=by
 have h:y0n<s.heap.objs.size:=(I.mod.glob.keeps I.bk).lt
 exact Nat.lt_trans (by decide) h
theorem ziy {Q:Value->y04->Prop} (hu:A.units+1<cLine) (I:Inv X pins σ H s) (g:DGet H a y (some v)) (ry:RelV y u) (h:∀w' s',Inv X pins σ H s'->RelV v w'->Q w' s') :
  y0u (model X.prog X.w) A (getItem (.ref a) u) Q E s:=by
 rcases g with ⟨kvs,k,e,ey,l⟩|⟨kvs,k,b,e,ey,eb,l⟩
 ·subst ey
  obtain⟨z,hd,vs,rel,dd⟩:=zvu I.hok e
  obtain⟨w',hw,rw'⟩:=RelO.some_of (v:=v) (o:=valueAt vs k) (by rw[l];exact rel.val k)
  exact wpAny_getItem_of (zs3 ry) dd.mapOf hw (h w' _ (I.tok _) rw')
 ·subst ey
  cases (show u=Value.ref b from ry)
  obtain⟨z,hd,xs,rel,dd⟩:=zvt I.hok e
  obtain⟨w',hw,rw'⟩:=RelO.some_of (v:=v) (o:=(atKey xs k).map (·.2)) (by rw[l];exact rel.val k)
  obtain⟨p,hp,hp2⟩:=y07.mp hw
  refine wpAny_getItem_heap (tupleKind_room_in1 hu) (zp6 I.hok eb) dd hp ?_
  rw[hp2]
  exact h w' _ (I.tok _) rw'
theorem zpy {h':Heap} {t':Nat} {ob:HO} (I:Inv X pins σ H s) (mu:Mut (H a)) (hs:Heap.SameBut a s.heap h') (he:∃q,h'.get? a=some q) (new:z6j X.prog X.w (upd H a ob) h' a ob) :
  Inv X pins σ (upd H a ob) { s with heap:=h',toks:=t' } :=
 I.write (x:=a) (e:=a) mu (.inl rfl) (fun b q hb z=>(hs.2 b hb).trans z) he new
theorem zxt {P:y0q} {w:World} {H':Hp} {h':Heap} {kvs:List (Key×V)} {vs:List (Key×Value)} (z:kvs.length<=y0j) (hd:(a == sysModules)=false) (rel:KV kvs vs) (dd:h'.DictOf (z1i P w) a vs) :
  z6j P w H' h' a (.dK kvs):=⟨z,hd,vs,rel,dd⟩
theorem ziw {H':Hp} {Q:Unit->y04->Prop} (hu:A.units+1<cLine) (I:Inv X pins σ H s) (g:DPut H a y v H') (ry:RelV y u) (rv:RelV v r) (h:∀s',Inv X pins σ H' s'->Q () s') :
  y0u (model X.prog X.w) A (setItem (.ref a) u r) Q E s:=by
 rcases g with ⟨kvs,k,e,ey,l,eH⟩|⟨kvs,k,b,e,ey,eb,l,eH⟩
 ·subst ey eH
  obtain⟨z,hd,vs,rel,dd⟩:=zz5 I.hok e
  have hz:vs.length<=y0j:=by rw[<- rel.length];exact z
  have hl:(putK kvs k v).length<=y0j:=by have:=zdx kvs k v;omega
  refine wpAny_setItem_pairs (hsz:=hz) (zs3 ry) dd fun h' dd' hs=>h _ ?_
  have he:∃q,h'.get? a=some q:=let ⟨q,_,_,hq,_⟩:=dd';⟨q,hq⟩
  exact zpy I (by rw[e];exact True.intro) hs he (zxt hl hd (rel.put k rv) dd')
 ·subst ey eH
  cases (show u=Value.ref b from ry)
  obtain⟨z,hd,xs,rel,dd⟩:=zz4 I.hok e
  have hz:xs.length<=y0j:=by rw[<- Paired.length rel];exact z
  have hl:(putK kvs k v).length<=y0j:=by have:=zdx kvs k v;omega
  refine wpAny_setItem_heap (hsz:=hz) (tupleKind_room_in1 hu) (zp6 I.hok eb) dd fun h' dd' hs=>h _ ?_
  obtain⟨q,es,ep,hq,h2,h3,h4,_,h5⟩:=dd'
  refine zpy I (by rw[e];exact True.intro) hs ⟨q,hq⟩ ⟨hl,hd,_,(rel.put k eb rv).keeps fun c ys ec=>?_,q,es,ep,hq,h2,h3,h4,h5⟩
  rw[z0c (zyx ec e (fun z=>nomatch z))]
  exact ec
end
section
variable {X:Cx} {pins:List (Addr×Obj)} {σ:St} {H:Hp} {s:y04} {a:Addr} {kvs:List (Key×V)} {k:Key} {u:Value} {A:Around} {E:Value->y04->Prop}
end
def NoSl (i:Expr):Prop:=∀ov iv,subscripted i false ov iv=operate [ov,iv] (getItem ov iv)
theorem zu5 {prog:y0q} {w:World} {A:Around} {E:Value->y04->Prop} {s:y04} {env:Env} {value slice:Expr} {pos:Pos} {T id:String} {Q:Value->y04->Prop}
  (hl:typeLookup (.type T) "__getitem__"=pure (some (.builtin id))) (hs:NoSl slice)
  (h:y0u (model prog w) A (eval value env) (fun o s₁=>y0u (model prog w) A (eval slice env) (fun i s₂=>s₂.TypeIs o T/\y0u (model prog w) A (getItem o i) Q E s₂) E s₁) E s) :
  y0u (model prog w) A (eval (.Subscript value slice pos) env) Q E s:=by
 refine Subscript_ (y1e h (fun o s₁ h₁=>y1e h₁ (fun i s₂ h₂=>?_) fun _ _ x=>x) fun _ _ x=>x)
 obtain⟨hT,h₂⟩:=h₂
 unfold subscriptTail
 refine y02 ?_
 rw[getitemInPython_of_ne hT.not_modules]
 refine y02 (wpAny_specialOf hT hl ?_)
 have fin:y0u (model prog w) A (subscripted slice false o i) (fun r s₃=>y0u (model prog w) A (letTemporaryGo value o r >>= fun _=>pure r) Q E s₃) E s₂:=by
  rw[hs o i]
  exact wpAny_operating (y1e h₂ (fun r s₃ h₃=>y02 (wpAny_letTemporaryGo (y06 h₃))) fun _ _ x=>x)
 first
  | exact y06 (y02 fin)
  | exact y02 (y06 (y02 fin))
  | exact y02 fin
theorem zki {X:Cx} {pins:List (Addr×Obj)} {σ:St} {H:Hp} {s:y04} {a:Addr} {y:V} {o:Option V} (I:Inv X pins σ H s) (g:DGet H a y o):s.TypeIs (.ref a) "dict":=by
 rcases g with ⟨kvs,k,e,_,_⟩|⟨kvs,k,b,e,_,_,_⟩
 ·obtain⟨_,_,vs,_,dd⟩:=zvu I.hok e
  exact dd.typeIs
 ·obtain⟨_,_,xs,_,dd⟩:=zvt I.hok e
  exact dd.typeIs
noncomputable def zyb (td ty:TE):TE:=fun σ H Q=>td σ H fun x H1=>ty σ H1 fun y H2=>∃a v,x=.ref a/\DGet H2 a y (some v)/\Q v H2
noncomputable def zyh (td ty tv:TE):TS:=fun D σ H=>tv σ H fun v H1=>td σ H1 fun x H2=>ty σ H2 fun y H3=>∃a H4,x=.ref a/\DPut H3 a y v H4/\D.nx σ H4
noncomputable def zyi (td ty tv:TE) (rd:V->V->Hp->VK->Prop):TS:=fun D σ H=>td σ H fun x H1=>ty σ H1 fun y H2=>∃a v,x=.ref a/\DGet H2 a y (some v) /\
 tv σ H2 fun y2 H3=>rd v y2 H3 fun z H4=>∃H5,DPut H4 a y z H5/\D.nx σ H5
section
variable {X:Cx} {o i e value:Expr} {pos pos' tpos:Pos} {td ty tv:TE}
theorem zux (hu:X.A.units+1<cLine) (ho:PE X o td) (hi:PE X i ty) (hs:NoSl i):PE X (.Subscript o i pos) (zyb td ty):=by
 intro pins s σ H Q I h
 refine zu5 PySem.F.slot_dict_getitem.lookup hs (thn (ho pins s σ H _ I h) fun u s1 ⟨x,H1,I1,rx,q1⟩=>thn (hi pins s1 σ H1 _ I1 q1) fun iv s2 ⟨y,H2,I2,ry,a,v,ex,g,q2⟩=>?_)
 subst ex
 obtain rfl:u=Value.ref a:=rx
 exact⟨zki I2 g,ziy hu I2 g ry fun w' s3 I3 rw'=>⟨v,H2,I3,rw',q2⟩⟩
theorem zuo (hu:X.A.units+1<cLine) (ho:PE X o td) (hi:PE X i ty) (hv:PE X value tv) (hs:swapsWith value (some (.Subscript o i pos')) pos.line X.env=pure false) :
  PS X (.Assign [.Subscript o i pos'] value pos) (zyh td ty tv):=by
 intro pins s σ H D I h
 refine wpAny_Assign_Subscript (thn (hv pins s σ H _ I h) fun r s1 ⟨v,H1,I1,rv,q1⟩=>thn (ho pins s1 σ H1 _ I1 q1) fun u s2 ⟨x,H2,I2,rx,q2⟩=>thn (hi pins s2 σ H2 _ I2 q2) fun iv s3 ⟨y,H3,I3,ry,a,H4,ex,g,q3⟩=>?_) hs
 subst ex
 obtain rfl:u=Value.ref a:=rx
 exact ziw hu I3 g ry rv fun s4 I4=>⟨σ,H4,I4,q3⟩
theorem zup {op:Operator} {rd:V->V->Hp->VK->Prop} (hu:X.A.units+1<cLine) (ho:PE X o td) (hi:PE X i ty) (hv:PE X value tv) (hop:InOp X op rd)
  (ha:∀ov iv new,augStore i ov iv new=(do holding [new,ov,iv] (setItem ov iv new);release [new,ov,iv] [];pure .next)):PS X (.AugAssign (.Subscript o i tpos) op value pos) (zyi td ty tv rd):=by
 intro pins s σ H D I h
 refine wpAny_AugAssign_SubscriptAny (thn (ho pins s σ H _ I h) fun u s1 ⟨x,H1,I1,rx,q1⟩=>thn (hi pins s1 σ H1 _ I1 q1) fun iv s2 ⟨y,H2,I2,ry,a,v,ex,g,q2⟩=>?_) ha
 subst ex
 obtain rfl:u=Value.ref a:=rx
 refine ziy hu I2 g ry fun w' s3 I3 rw'=>thn (hv pins s3 σ H2 _ I3 q2) fun w2 s4 ⟨y2,H3,I4,ry2,q3⟩=>thn (hop pins s4 σ H3 v y2 w' w2 _ I4 rw' ry2 q3) fun w3 s5 ⟨z,H4,I5,rz,H5,g5,q4⟩=>?_
 exact ziw hu I5 g5 ry rz fun s6 I6=>⟨σ,H5,I6,q4⟩
end
section
variable {X:Cx} {pos:Pos}
end
section
variable {X:Cx} {pins:List (Addr×Obj)} {σ:St} {H:Hp} {s:y04} {a:Addr} {y d:V} {u r:Value} {o:Option V} {A:Around} {E:Value->y04->Prop}
end
section
variable {X:Cx} {o e f:Expr} {apos cpos:Pos} {td ty tx:TE}
end
section
variable {X:Cx} {pins:List (Addr×Obj)} {σ:St} {H:Hp} {s:y04} {a:Addr} {kvs:List (Key×V)} {A:Around} {E:Value->y04->Prop}
end
section
variable {X:Cx} {pins:List (Addr×Obj)} {σ:St} {H:Hp} {s:y04} {a:Addr} {y:V} {u:Value} {A:Around} {E:Value->y04->Prop}
end
end L2
end
section
namespace D
open PySem PySem.Spec PyProof.Rows L2
variable [Tbl]
section
variable {K:y00} {F:Addr->Prop} {H:Hp}
theorem RepD.get {k:D.Key} {t:T}:∀{kvs:List (D.Key×T)} {vs:List (D.Key×V)},RepD K F H kvs vs->D.getD kvs k=some t->∃v,valV vs k=some v/\Rep K F H t v
 | [],vs,h,e=>by cases e
 | p::r,vs,h,e=>by
  obtain⟨v,w,rfl,q,z⟩:=h
  simp only[D.getD,valV,y1u] at e ⊢
  by_cases e':p.1=k
  ·simp[e'] at e ⊢
   subst e
   exact q
  ·simp[e'] at e ⊢
   have:=RepD.get (k:=k) (t:=t) z (by simpa [D.getD] using e)
   simpa [valV] using this
theorem RepD.length:∀{kvs:List (D.Key×T)} {vs:List (D.Key×V)},RepD K F H kvs vs->kvs.length=vs.length
 | [],vs,h=>by
  have:vs=[]:=h
  subst this
  rfl
 | p::r,vs,h=>by
  obtain⟨v,w,rfl,q,z⟩:=h
  simp[RepD.length z]
theorem RepD.append:∀{kvs us:List (D.Key×T)} {vs ws:List (D.Key×V)},RepD K F H kvs vs->RepD K F H us ws->RepD K F H (kvs++us) (vs++ws)
 | [],us,vs,ws,h,r=>by
  have:vs=[]:=h
  subst this
  exact r
 | p::q,us,vs,ws,h,r=>by
  obtain⟨v,w,rfl,q',z⟩:=h
  exact⟨v,w++ws,rfl,q',RepD.append z r⟩
theorem RepD.mapPut {k:D.Key} {t:T} {v:V}:∀{kvs:List (D.Key×T)} {vs:List (D.Key×V)},RepD K F H kvs vs->Rep K F H t v->RepD K F H (kvs.map fun p=>if p.1=k then (k,t) else p) (vs.map fun kv=>if kv.1=k then (kv.1,v) else kv)
 | [],vs,h,q=>by
  have:vs=[]:=h
  subst this
  rfl
 | p::r,vs,h,q=>by
  obtain⟨v',w,rfl,q',z⟩:=h
  simp only[y0e]
  by_cases e:p.1=k
  ·rw[if_pos e,if_pos e]
   exact⟨v,_,by rw[e],q,RepD.mapPut z q⟩
  ·rw[if_neg e,if_neg e]
   exact⟨v',_,rfl,q',RepD.mapPut z q⟩
theorem RepD.put {k:D.Key} {t:T} {v:V} {kvs:List (D.Key×T)} {vs:List (D.Key×V)} (h:RepD K F H kvs vs) (q:Rep K F H t v):RepD K F H (putD kvs k t) (putK vs k v):=by
 have ha:(kvs.any fun p=>decide (p.1=k))=(vs.any fun kv=>decide (kv.1=k)):=by
  clear q
  induction kvs generalizing vs with
  | nil =>
   have:vs=[]:=h
   subst this
   rfl
  | cons p r ih =>
   obtain⟨v,w,rfl,q',z⟩:=h
   simp only[List.any_cons,ih z]
 unfold putD putK
 rw[ha]
 split
 ·exact RepD.mapPut h q
 ·exact h.append ⟨v,[],rfl,q,rfl⟩
theorem za2 {t:T} {k:D.Key} {v:V} {O:Addr->Prop} (e:z6i t=some k) (r:RepR K O F H t v):v=kV k:=by
 unfold z6i at e
 split at e
 ·cases e
  exact r.int
 ·cases e
  exact r.str
 ·cases e
end
section
variable {X:Cx} {a b e:Expr} {f g:Fe} {pos:Pos}
variable {x:Str} {px:Pos}
end
end D
end
section
namespace D
open PySem
variable [Tbl]
end D
end
section
namespace D
open PySem PySem.Spec PyProof.Rows L2
section
variable [Tbl]
theorem ztc {α β:Type} {R:α->β->Prop}:∀{l:List α} {ks:List β},Paired R l ks->l.length=ks.length
 | _,_,.nil=>rfl
 | _,_,.cons a b=>by simp[ztc b]
section
variable {prog:y0q} {w:World} {K:Type} [DecidableEq K] (knd:PySem.KeyKind prog w K)
variable {knd} {A:Around} {E:Value->y04->Prop} {s:y04}
noncomputable def IsV (knd:PySem.KeyKind prog w K) (v:Value) (k:K):Prop:=knd.is k v=true/\v.scannable=true
section
variable {R:Result->y04->Prop} {I:Addr} {fp wr:List Addr} {G:Array GenState->Array GenState->Prop} {St:Nat->y04->Prop} {items:Array Value}
end
end
end
section
variable [Tbl]
section
variable {prog:y0q} {w:World} {A:Around} {E:Value->y04->Prop} {s:y04}
end
section
variable {prog:y0q} {w:World} {A:Around} {E:Value->y04->Prop} {s:y04}
variable {a I:Addr} {es:Array (Int×Value)} {ep:Nat} {t:SetTable}
end
end
section
variable [Tbl]
section
variable {prog:y0q} {w:World} {A:Around} {E:Value->y04->Prop} {s:y04}
variable {a I:Addr} {es:Array (Int×Value)} {ep:Nat} {t:SetTable}
end
end
section
variable [Tbl]
section
variable {prog:y0q} {w:World} {K:Type} [DecidableEq K] {knd:PySem.KeyKind prog w K} {A:Around} {E:Value->y04->Prop} {s:y04} {a:Addr} {ks:List K}
theorem zkm {R:List Value->y04->Prop} {T:String} {r d:Addr} {n:Nat} {P:Nat->Value->Prop} {OK:Heap->Prop} (W:PySem.W.KdlSrc prog w T r d n P OK) (hh:A.handled=none) (hok:OK s.heap) (hn:n<=y0j)
  (h:∀(h':Heap) (tk:Nat) (acc:Array Value),(∀b o,s.heap.get? b=some o->h'.get? b=some o)->s.heap.objs.size<=h'.objs.size->ItemsOf P acc n->R acc.toList { s with heap:=h',toks:=tk }) :
  y0u (model prog w) A (collect (.ref r)) R E s:=by
 have hlt:=W.there _ hok
 unfold collect
 refine y02 (wpAny_runValue (codeAny_builtin entry_proto_collect' ?_))
 rw[y1z PySem.F.plain_proto_collect _]
 show y0u _ A.in1 (newList [] >>= fun l=>again (.builtin "list.__iadd__" ⟨[l,.ref r],[]⟩)) _ _ s
 refine y02 (wpAny_newObj_type ?_)
 refine y06 ⟨plainId_quiet PySem.F.plain_list_iadd _,codeAny_builtin entry_list_iadd' ?_⟩
 rw[y1z PySem.F.plain_list_iadd _]
 have hS₁:(s.heap.push { cls:=.type "list",data:=.seq ([]:List Value).toArray }).get? s.heap.objs.size=some { cls:=.type "list",data:=.seq #[] }:=y0l _ rfl
 show y0u _ A.in1 (Builtin.List.listExtendWith (.ref s.heap.objs.size) (.ref r) (.ref s.heap.objs.size)) _ _ _
 have key:=PySem.W.kdl_extend (A:=A) (s:={ s with heap:=s.heap.push { cls:=.type "list",data:=.seq ([]:List Value).toArray } })
  (R:=fun (q:Result) (s':y04)=>∃(h':Heap) (tk:Nat) (acc':Array Value) (c':Nat),q=.ok (.ret (.ref s.heap.objs.size))/\s'={ s with heap:=h',toks:=tk } /\
   (∀b o,s.heap.get? b=some o->h'.get? b=some o)/\h'.get? s.heap.objs.size=some { cls:=.type "list",dict:=none,data:=.seq acc' c',slots:=#[] }/\ItemsOf P acc' n)
  W hh (W.keep _ _ hok fun b _ o e=>y03 _ e) s.heap.objs.size (y16 hlt.1) (y16 hlt.2) (.ref s.heap.objs.size) 0 hS₁
  (fun h' tk acc' c' hk hS' hacc=>⟨h',tk,acc',c',rfl,rfl,fun b o e=>hk b o (y0y (y0c e)) (y03 _ e),hS',hacc⟩) hn
 refine y1e key (fun fin s' x=>?_) fun e s' x=>?_
 ·cases fin with
  | done f =>
   obtain⟨h',tk,acc',c',e,rfl,hk,hS',hacc⟩:=x
   cases e
   show y0u _ A (load s.heap.objs.size >>= _) _ _ _
   refine y02 (wpAny_load hS' ?_)
   exact y06 (h h' tk acc' hk (Nat.le_of_lt (y0c hS')) hacc)
  | again c₁ =>
   refine⟨x.1,codeAny_mono x.2 fun q s₂ y=>?_⟩
   obtain⟨h',tk,acc',c',rfl,rfl,hk,hS',hacc⟩:=y
   show y0u _ A (load s.heap.objs.size >>= _) _ _ _
   refine y02 (wpAny_load hS' ?_)
   exact y06 (h h' tk acc' hk (Nat.le_of_lt (y0c hS')) hacc)
 ·obtain⟨_,_,_,_,e',_⟩:=x
  cases e'
end
end
section
variable [Tbl]
theorem z7t {α:Type} {r:α->α->Prop} (anti:∀a b,r a b->r b a->a=b):∀{l m:List α},l.Perm m->l.Pairwise r->m.Pairwise r->l=m
 | [],m,p,_,_=>(List.Perm.nil_eq p)
 | a::l,m,p,h1,h2=>by
  cases m with
  | nil=>exact absurd p.length_eq (by simp)
  | cons b m =>
   have hab:a=b:=by
    have ha:a∈b::m:=p.mem_iff.mp (by simp)
    have hb:b∈a::l:=p.mem_iff.mpr (by simp)
    rcases y09.mp ha with q|q
    ·exact q
    ·rcases y09.mp hb with z|z
     ·exact z.symm
     ·exact anti a b ((y19.mp h1).1 b z) ((y19.mp h2).1 a q)
   subst hab
   rw[z7t anti (List.perm_cons a |>.mp p) (y19.mp h1).2 (y19.mp h2).2]
theorem ze6 (x:Int):∀l:List Int,(insI x l).Perm (x::l)
 | []=>.rfl
 | y::ys=>by
  unfold insI
  split
  ·exact .rfl
  ·exact ((ze6 x ys).cons y).trans (.swap _ _ _)
theorem z8v:∀l:List Int,(zhm l).Perm l
 | []=>.rfl
 | x::xs=>(ze6 x _).trans ((z8v xs).cons x)
theorem zpf (x:Int):∀{l:List Int},l.Pairwise (·<=·)->(insI x l).Pairwise (·<=·)
 | [],_=>by simp[insI]
 | y::ys,h=>by
  unfold insI
  have h':=y19.mp h
  split
  next q=>exact y19.mpr ⟨fun z hz=>by
   rcases y09.mp hz with rfl|hz
   ·exact q
   ·exact Int.le_trans q (h'.1 z hz),h⟩
  next q=>exact y19.mpr ⟨fun z hz=>by
   rcases y09.mp ((ze6 x ys).mem_iff.mp hz) with rfl|hz
   ·omega
   ·exact h'.1 z hz,zpf x h'.2⟩
theorem zga:∀l:List Int,(zhm l).Pairwise (·<=·)
 | []=>.nil
 | x::xs=>zpf x (zga xs)
theorem zl8 {l m:List Int} (p:l.Perm m) (h:l.Pairwise (·<=·)):l=zhm m:=z7t (fun a b h1 h2=>Int.le_antisymm h1 h2) (p.trans (z8v m).symm) h (zga m)
theorem zjr {l m:List Int} (p:l.Perm m):zhm l=zhm m:=zl8 ((z8v l).trans p) (zga l)
abbrev sLe (x y:Str):Prop:=z6h y x=false
theorem zqy (x y:Str):z6h x y=ltCps x.cps.toList y.cps.toList:=(ltCps_eq _ _).symm
theorem zo4 {x y:Str} (h:z6h x y=true):sLe x y:=by
 unfold sLe z6h at *
 simp only[decide_eq_true_eq,decide_eq_false_iff_not] at *
 exact List.lt_asymm h
theorem zhv {x y z:Str} (h1:sLe x y) (h2:sLe y z):sLe x z:=by
 unfold sLe z6h at *
 simp only[decide_eq_false_iff_not] at *
 exact List.not_lt.mpr (List.le_trans (List.not_lt.mp h1) (List.not_lt.mp h2))
theorem zr7 {x y:Str} (h1:sLe x y) (h2:sLe y x):x=y:=by
 unfold sLe z6h at *
 simp only[decide_eq_false_iff_not] at *
 have e:x.cps.toList=y.cps.toList:=List.le_antisymm (List.not_lt.mp h1) (List.not_lt.mp h2)
 cases x
 cases y
 simp only[Array.toList_inj] at e
 exact congrArg _ e
theorem ze5 (x:Str):∀l:List Str,(insS x l).Perm (x::l)
 | []=>.rfl
 | y::ys=>by
  unfold insS
  split
  ·exact .rfl
  ·exact ((ze5 x ys).cons y).trans (.swap _ _ _)
theorem z5u:∀l:List Str,(z87 l).Perm l
 | []=>.rfl
 | x::xs=>(ze5 x _).trans ((z5u xs).cons x)
theorem zpe (x:Str):∀{l:List Str},l.Pairwise sLe->(insS x l).Pairwise sLe
 | [],_=>by simp[insS]
 | y::ys,h=>by
  unfold insS
  have h':=y19.mp h
  split
  next q =>
   have q':sLe x y:=by simpa [sLe] using q
   exact y19.mpr ⟨fun z hz=>by
    rcases y09.mp hz with rfl|hz
    ·exact q'
    ·exact zhv q' (h'.1 z hz),h⟩
  next q =>
   have q':z6h y x=true:=by simpa using q
   exact y19.mpr ⟨fun z hz=>by
    rcases y09.mp ((ze5 x ys).mem_iff.mp hz) with rfl|hz
    ·exact zo4 q'
    ·exact h'.1 z hz,zpe x h'.2⟩
theorem zg9:∀l:List Str,(z87 l).Pairwise sLe
 | []=>.nil
 | x::xs=>zpe x (zg9 xs)
theorem zl7 {l m:List Str} (p:l.Perm m) (h:l.Pairwise sLe):l=z87 m:=z7t (fun a b h1 h2=>zr7 h1 h2) (p.trans (z5u m).symm) h (zg9 m)
theorem zjq {l m:List Str} (p:l.Perm m):z87 l=z87 m:=zl7 ((z5u l).trans p) (zg9 l)
theorem zf3:∀(l:List Str) (p:Str),risingS p l=true->(p::l).Pairwise sLe
 | [],p,_=>by simp
 | x::r,p,h=>by
  simp only[risingS,y1c,Bool.not_eq_true'] at h
  have ih:=zf3 r x h.2
  have hpx:sLe p x:=by
   unfold sLe
   rw[zqy]
   exact h.1
  refine y19.mpr ⟨fun z hz=>?_,ih⟩
  rcases y09.mp hz with rfl|hz
  ·exact hpx
  ·exact zhv hpx ((y19.mp ih).1 z hz)
theorem zmf {l:List Str} (h:sortedS l=true):l.Pairwise sLe:=by
 cases l with
 | nil=>exact .nil
 | cons x r=>exact zf3 r x h
section
variable {K:Type} [DecidableEq K]
end
end
section
variable [Tbl]
section
variable {prog:y0q} {w:World} {A:Around} {E:Value->y04->Prop} {s:y04}
inductive Srt:List Value->List Value->Prop where
 | ofI {vs out:List Value} {ns:List Int}:IntsAre vs ns->IntsAre out (zhm ns)->Srt vs out
 | ofS {vs out:List Value} {ss:List Str}:StrsAre vs ss->StrsAre out (z87 ss)->Srt vs out
noncomputable def zhc (vs:List Value):Prop:=vs.length<64/\((∃ns,IntsAre vs ns)\/∃ss,StrsAre vs ss)
theorem zg8 {h:Heap} {a:Addr} {vs:List Value} {n:Nat} {out:Array Value} (ho:h.get? a=some (seqObj "list" vs.toArray n)) :
  (∃e,(sortedHeap h a vs out).get? a=some (seqObj "list" out e))/\∀b o,b≠a->h.get? b=some o->(sortedHeap h a vs out).get? b=some o:=by
 have hlt:=y0c ho
 unfold sortedHeap
 refine⟨?_,fun b o hb e=>?_⟩
 ·have h1:=get?_update_seq ho (fun _=>(#[]:Array Value))
  have h2:=y03 (seqObj "tuple" vs.toArray 0) h1
  have h3:=y03 (seqObj "list" #[] 0) h2
  exact⟨_,get?_update_seq h3 (fun _=>out)⟩
 ·rw[Heap.get?_update_other _ _ (Ne.symm hb)]
  exact y03 _ (y03 _ ((Heap.get?_update_other _ _ (Ne.symm hb)).trans e))
theorem znv {a:Addr} {vs:List Value} {n:Nat} {P:Fin->y04->Prop} (ho:s.heap.get? a=some (seqObj "list" vs.toArray n)) (hs:zhc vs)
  (h:∀out:Array Value,Srt vs out.toList->P (.done (.ret .none)) { s with heap:=sortedHeap s.heap a vs out }):y0u (model prog w) A (Builtin.«list.sort» ⟨[.ref a],[]⟩) P E s:=by
 obtain⟨h64,⟨ns,hI⟩|⟨ss,hS⟩⟩:=hs
 ·refine list_sort_tree ho hI h64 fun out ns' a1 a2 a3=>h out (.ofI hI ?_)
  rw[<- zl8 a2 a3]
  exact a1
 ·refine list_sort_treeK strKind_oneLt ho hS.keysOf (fun v₁ v₂ rest e=>keyKind_strs (by rw[<- e];exact hS)) h64 fun st' hp hs=>?_
  obtain⟨ss',h1,h2,h3⟩:=sorted_out_str hS hp hs
  refine h _ (.ofS hS ?_)
  rw[<- zl7 h2 (zmf h3)]
  exact h1
theorem zjp {r:Addr} {C:List Value->Prop} {Q:Value->y04->Prop}
  (hcol:∀(E':Value->y04->Prop) (R:List Value->y04->Prop),(∀h' tk d vs,(∀b o,s.heap.get? b=some o->h'.get? b=some o)->s.heap.objs.size<=h'.objs.size->C vs->R vs { s with heap:=h',toks:=tk,drawn:=d })->y0u (model prog w) A.in1 (collect (.ref r)) R E' s)
  (hC:∀vs,C vs->zhc vs)
  (h:∀h' tk d D e vs out,C vs->Srt vs out->(∀b o,s.heap.get? b=some o->h'.get? b=some o)->s.heap.objs.size<=D->h'.get? D=some (seqObj "list" out.toArray e)->Q (.ref D) { s with heap:=h',toks:=tk,drawn:=d }) :
  y0u (model prog w) A (call (.builtin "sorted") [.ref r]) Q E s:=by
 refine Calls.call_function_entry kind_sorted plain_sorted entry_sorted (args_sorted1 _) ?_
 unfold Builtin.«sorted»
 refine y02 (m:=checkCount "sorted" 1 1 _) (y06 ?_)
 refine y02 (hcol _ _ fun h' tk d vs kp hsz c=>?_)
 have hs:=hC vs c
 have hz:vs.length<=y0j:=by
  have:=hs.1
  rw[sizeLine_eq]
  omega
 refine y02 (wpAny_newList ?_ hz)
 have hoL:(h'.push (seqObj "list" vs.toArray 0)).get? h'.objs.size=some (seqObj "list" vs.toArray 0):=y0l _ rfl
 refine y02 (wpAny_holding (wpAny_call_entry slot_list_sort ⟨_,hoL,rfl⟩ entry_list_sort (znv hoL hs fun out so=>⟨_,rfl,?_⟩) (args_list_sort _)))
 obtain⟨⟨e,he⟩,hk⟩:=zg8 (out:=out) hoL
 refine y06 ⟨_,rfl,?_⟩
 exact h _ tk d h'.objs.size e vs out.toList c so (fun b o q=>hk b o (y0y (y0c (kp b o q))) (y03 _ (kp b o q))) hsz he
end
section
variable {X:Cx} {pins:List (Addr×Obj)} {σ:L2.St} {H:Hp} {s:y04}
theorem ze2 {a:Addr} {o:HO} {t':Nat} {d':Drawn} {h':Heap} (I:Inv X pins σ H s) (k:∀b u,s.heap.get? b=some u->h'.get? b=some u) (hp:s.heap.objs.size<=a) (new:z6j X.prog X.w (upd H a o) h' a o) :
  Inv X pins σ (upd H a o) { s with heap:=h',toks:=t',drawn:=d' } :=
 I.call (ch:=[]) (g':=s.gens) (Un.laid k hp (I.hok.fresh hp)) (I.hok.laid k hp new) I.bare fun _ z=>nomatch z
theorem ze3:∀{us:List Value} {ns:List Int},IntsAre us ns->Vals (ns.map V.int) us
 | _,_,.nil=>.nil
 | _,_,.cons n t r=>.cons ⟨t,rfl⟩ (ze3 r)
theorem zd4:∀{us:List Value} {ss:List Str},StrsAre us ss->Vals (ss.map V.str) us
 | _,_,.nil=>.nil
 | _,_,.cons n t r=>.cons ⟨t,rfl⟩ (zd4 r)
theorem zd2:∀{us:List Value} {ks:List L2.Key},Vals (ks.map kV) us->Paired (IsV (z1i X.prog X.w)) us ks
 | [],[],_=>.nil
 | _,.inl i::ks,.cons r rs=>by
  obtain⟨t,rfl⟩:=r
  exact .cons ⟨zdt _ _ i t,rfl⟩ (zd2 rs)
 | _,.inr x::ks,.cons r rs=>by
  obtain⟨t,rfl⟩:=r
  exact .cons ⟨zds _ _ x t,rfl⟩ (zd2 rs)
theorem ze1:∀{us:List Value} {ks:List L2.Key} {ns:List Int},Paired (IsV (z1i X.prog X.w)) us ks->ks=ns.map Sum.inl->IntsAre us ns
 | _,_,[],.nil,_=>.nil
 | _,_,n::ns,.cons a b,e=>by
  cases e
  have a1:=a.1
  rw[zfi] at a1
  rcases z1q a1 with ⟨i,t,e1,rfl⟩|⟨x,t,e1,rfl⟩
  ·cases e1
   exact .cons _ t (ze1 b rfl)
  ·cases e1
theorem zdz:∀{us:List Value} {ks:List L2.Key} {ss:List Str},Paired (IsV (z1i X.prog X.w)) us ks->ks=ss.map Sum.inr->StrsAre us ss
 | _,_,[],.nil,_=>.nil
 | _,_,n::ns,.cons a b,e=>by
  cases e
  have a1:=a.1
  rw[zfi] at a1
  rcases z1q a1 with ⟨i,t,e1,rfl⟩|⟨x,t,e1,rfl⟩
  ·cases e1
  ·cases e1
   exact .cons _ t (zdz b rfl)
theorem z6n {α β:Type} (f:α->β):∀{l:List α} {m:List β},m.Perm (l.map f)->∃l':List α,m=l'.map f/\l'.Perm l:=by
 intro l m p
 generalize hx:l.map f=lf at p
 induction p generalizing l with
 | nil =>
  rw[List.map_eq_nil_iff] at hx
  subst hx
  exact⟨[],rfl,.rfl⟩
 | cons x _ ih =>
  cases l with
  | nil=>cases hx
  | cons a r =>
   simp only[y0e,List.cons.injEq] at hx
   obtain⟨l',e,q⟩:=ih hx.2
   exact⟨a::l',by rw[y0e,hx.1,e],q.cons a⟩
 | swap x y r =>
  match l,hx with
  | a::b::r',hx =>
   simp only[y0e,List.cons.injEq] at hx
   exact⟨b::a::r',by rw[y0e,y0e,hx.1,hx.2.1,hx.2.2],.swap _ _ _⟩
 | trans _ _ i1 i2 =>
  obtain⟨l1,e1,q1⟩:=i2 hx
  obtain⟨l2,e2,q2⟩:=i1 e1.symm
  exact⟨l2,e2,q2.trans q1⟩
noncomputable def zr0 (ks:List L2.Key) (ys:List V):Prop:=(∃ns:List Int,ks=ns.map Sum.inl/\ys=(zhm ns).map V.int)\/∃ss:List Str,ks=ss.map Sum.inr/\ys=(z87 ss).map V.str
theorem zqz {vs out:List Value} {ks ks':List L2.Key} {ys:List V} (hv:Paired (IsV (z1i X.prog X.w)) vs ks') (hp:ks'.Perm ks) (so:Srt vs out) (hk:zr0 ks ys):Vals ys out:=by
 rcases hk with ⟨ns,rfl,rfl⟩|⟨ss,rfl,rfl⟩
 ·obtain⟨ns',rfl,hp'⟩:=z6n Sum.inl hp
  have hI:=ze1 hv rfl
  cases so with
  | ofI a b =>
   rename_i ms
   rw[<- zjr hp',show ns'=ms from ?_]
   ·exact ze3 b
   ·rw[<- IntsAre.numsOf hI,<- IntsAre.numsOf a]
  | ofS a b =>
   cases a with
   | nil =>
    cases hI
    have:ns=[]:=List.Perm.eq_nil hp'.symm
    subst this
    exact zd4 b
   | cons x t _=>cases hI
 ·obtain⟨ss',rfl,hp'⟩:=z6n Sum.inr hp
  have hS:=zdz hv rfl
  cases so with
  | ofS a b =>
   rename_i ms
   rw[<- zjq hp',show ss'=ms from ?_]
   ·exact zd4 b
   ·rw[<- StrsAre.strs hS,<- StrsAre.strs a]
  | ofI a b =>
   cases a with
   | nil =>
    cases hS
    have:ss=[]:=List.Perm.eq_nil hp'.symm
    subst this
    exact ze3 b
   | cons x t _=>cases hS
theorem zgs {vs:List Value} {ks ks':List L2.Key} {ys:List V} (hz:ks.length<64) (hv:Paired (IsV (z1i X.prog X.w)) vs ks') (hp:ks'.Perm ks) (hk:zr0 ks ys):zhc vs:=by
 refine⟨by rw[ztc hv,hp.length_eq];exact hz,?_⟩
 rcases hk with ⟨ns,rfl,_⟩|⟨ss,rfl,_⟩
 ·obtain⟨ns',rfl,_⟩:=z6n Sum.inl hp
  exact .inl ⟨_,ze1 hv rfl⟩
 ·obtain⟨ss',rfl,_⟩:=z6n Sum.inr hp
  exact .inr ⟨_,zdz hv rfl⟩
theorem znw {ks:List L2.Key} {ys:List V} (h:zr0 ks ys):ys.length=ks.length:=by
 rcases h with ⟨ns,rfl,rfl⟩|⟨ss,rfl,rfl⟩
 ·simp[(z8v ns).length_eq]
 ·simp[(z5u ss).length_eq]
theorem zp4:∀{kvs:List (L2.Key×V)} {vs:List (L2.Key×Value)},KV kvs vs->kvs.map (·.1)=vs.map (·.1)
 | _,_,.nil=>rfl
 | _,_,.cons a b=>by simp[a.1,zp4 b]
theorem zj3 (hc:X.calm=true):zac X (.builtin "sorted") (fun xs H Q=>∃p ks ys,xs=[.ref p]/\SqL X.K H p (ks.map kV)/\ks.length<64/\zr0 ks ys/\∀l,H l=none->Q (.ref l) (upd H l (.lst ys))):=by
 intro pins s σ H xs us Q I r h
 obtain⟨p,ks,ys,rfl,hq,hz,hk,q⟩:=h
 obtain⟨u,rfl,rx⟩:=zhg r
 cases rx
 obtain⟨its,r',pl,hz'⟩:=I.list hq
 have hlen:=r'.length
 rw[y14] at hlen
 have hit:Paired (IsV (z1i X.prog X.w)) its ks:=zd2 (by simpa using r')
 refine zjp (C:=fun us=>us=its) (fun E' R hR=>collect_list pl.isList (hR _ s.toks s.drawn its (fun b o e=>?_) ?_ rfl) (by rw[sizeLine_eq];omega)) (fun us hu=>by subst hu;exact zgs hz hit .rfl hk) fun h' tk d D e us out hu so kp hD he=>?_
 ·exact (Heap.get?_update_other _ _ (y16 (y0c e))).trans (y03 _ e)
 ·rw[Heap.size_update,y18]
  exact y2m _
 ·subst hu
  exact⟨.ref D,_,ze2 I (o:=.lst ys) kp hD ⟨by rw[znw hk,sizeLine_eq];omega,out,e,zqz hit .rfl so hk,he⟩,rfl,q _ (I.hok.fresh hD)⟩
end
end
section
variable [Tbl]
theorem zd5:∀{ts:List T} {ss:List Str},zd6 ts=some ss->ts=ss.map .str
 | [],ns,e=>by
  cases e
  rfl
 | t::ts,ns,e=>by
  unfold zd6 at e
  split at e
  ·rename_i h
   cases h
  ·rename_i h
   cases h
   simp only[y07] at e
   obtain⟨r,e1,rfl⟩:=e
   rw[zd5 e1]
   rfl
  ·cases e
section
variable {K:y00} {F:Addr->Prop} {H:Hp}
theorem zhw:∀(ns:List Int),RepL K F H (ns.map .int) (ns.map V.int)
 | []=>RepL.nil
 | n::ns=>RepL.cons (by simp[Rep]) (zhw ns)
theorem zdc:∀(ns:List Str),RepL K F H (ns.map .str) (ns.map V.str)
 | []=>RepL.nil
 | n::ns=>RepL.cons (by simp[Rep]) (zdc ns)
theorem zbj:∀{ns:List Str} {vs:List V},RepL K F H (ns.map .str) vs->vs=ns.map V.str
 | [],vs,h=>by simpa [RepL] using h
 | n::ns,vs,h=>by
  simp only[y0e,RepL,Rep] at h
  obtain⟨v,r,rfl,rfl,z⟩:=h
  rw[zbj z]
  rfl
end
section
variable {X:Cx} {a e:Expr} {es:List Expr} {f:Fe} {fs:List Fe} {p p2 pos pos2:Pos}
end
section
variable {prog:y0q} {w:World} {A:Around} {E:Value->y04->Prop} {s:y04}
end
section
variable {X:Cx} {e st:Expr} {te:TE} {f:Fe} {pos p2:Pos}
end
end
section
variable [Tbl]
section
variable {prog:y0q} {w:World} {K:Type} [DecidableEq K] {knd:PySem.KeyKind prog w K} {A:Around} {E:Value->y04->Prop} {s:y04}
end
end
section
variable [Tbl]
section
variable {X:Cx} {a b e:Expr} {es rest:List Expr} {f g:Fe} {fs:List Fe} {p p2 pos pos2:Pos}
theorem zt7 {op:BoolOp} (h:PEv X a f):PEv X (.BoolOp op [a] pos) f:=zt9 h
theorem zym {op:BoolOp} (h:PEv X a f):PEv X (.BoolOp op [a] pos) f:=zt9 h
theorem zws (ha:PEv X a f) (hb:PEv X (.BoolOp .And (b::rest) pos) g):PEv X (.BoolOp .And (a::b::rest) pos) (andV f g):=z0x (zx8 ha hb) fun σ H Q ⟨F₀,H₀,O,F,ε,t,r,e,k⟩=>by
 simp only[andV,y01] at e
 obtain⟨x,ex,e⟩:=e
 refine⟨F₀,H₀,O,F,ε,x,r,ex,fun v F1 H1 x1 rx=>?_⟩
 split at e
 ·simp only[Rep] at rx
  refine⟨true,rx,?_⟩
  rw[if_pos rfl]
  exact⟨F₀,H₀,O,F1,ε,t,r.ext x1,e,fun v F' H' x2 q=>k v F' H' (x1.trans x2) q⟩
 ·cases e
  simp only[Rep] at rx
  refine⟨false,rx,?_⟩
  rw[if_neg (by decide)]
  exact k _ F1 H1 x1 (by simp[Rep])
 ·cases e
theorem q_or (ha:PEv X a f) (hb:PEv X (.BoolOp .Or (b::rest) pos) g):PEv X (.BoolOp .Or (a::b::rest) pos) (orV f g):=z0x (zyt ha hb) fun σ H Q ⟨F₀,H₀,O,F,ε,t,r,e,k⟩=>by
 simp only[orV,y01] at e
 obtain⟨x,ex,e⟩:=e
 refine⟨F₀,H₀,O,F,ε,x,r,ex,fun v F1 H1 x1 rx=>?_⟩
 split at e
 ·simp only[Rep] at rx
  refine⟨false,rx,?_⟩
  rw[if_neg (by decide)]
  exact⟨F₀,H₀,O,F1,ε,t,r.ext x1,e,fun v F' H' x2 q=>k v F' H' (x1.trans x2) q⟩
 ·cases e
  simp only[Rep] at rx
  refine⟨true,rx,?_⟩
  rw[if_pos rfl]
  exact k _ F1 H1 x1 (by simp[Rep])
 ·cases e
noncomputable def tOt (K:y00) (f:Ev->Option (Option Int)):TO:=fun σ H Q=>∃F₀ H₀ O F ε i,RelE K F₀ H₀ O F H ε σ/\f ε=some i/\∀F' H',Ext F H F' H'->Q i H'
theorem ztz {x:Option Expr} {t t':TO} (h:PO X x t) (k:∀σ H Q,t' σ H Q->t σ H Q):PO X x t':=fun pins s σ H Q I q=>h pins s σ H Q I (k σ H Q q)
theorem zti:PO X none (tOt X.K optN):=ztz zur fun σ H Q ⟨F₀,H₀,O,F,ε,i,r,e,k⟩=>by
 cases e
 exact k F H (Ext.refl r.dom)
theorem zth (h:PEr X a f):PO X (some a) (tOt X.K (opt f)):=ztz (zuq h) fun σ H Q ⟨F₀,H₀,O,F,ε,i,r,e,k⟩=>by
 simp only[opt,y01] at e
 obtain⟨x,ex,e⟩:=e
 refine⟨F₀,H₀,O,F,ε,x,r,ex,fun v F1 H1 x1 rx=>?_⟩
 split at e
 ·cases e
  exact⟨_,rx.int,k F1 H1 x1⟩
 ·cases e
noncomputable def rSlW (K:y00):V->Option Int->Option Int->Hp->VK->Prop:=fun x lo hi H Q=>∃a xs,x=.ref a/\SqT K H a xs/\(HT.sIx xs.length 0 lo=0/\HT.sIx xs.length xs.length hi=xs.length)/\Q (.ref a) H
theorem za4 {prog:y0q} {w:World} {A:Around} {E:Value->y04->Prop} {s:y04} {t sl:Addr} {items:Array Value} {vl vu:Value} {lo hi:Option Int} {Q:Value->y04->Prop} (ht:IsTup s.heap t items) (hs:s.heap.IsSliceOf sl vl vu .none) (pl:IsPart vl lo) (pu:IsPart vu hi)
  (hw:HT.sIx items.size 0 lo=0/\HT.sIx items.size items.size hi=items.size) (h:Q (.ref t) s):y0u (model prog w) A (getItem (.ref t) (.ref sl)) Q E s:=by
 obtain⟨os,hos,hcs,hds⟩:=id hs
 have hTs:s.TypeIs (.ref sl) "slice":=⟨os,hos,hcs⟩
 unfold getItem
 try with_reducible refine wpAny_holding ?_
 first|refine y02 (y06 ?_)|skip
 refine y02 (wpAny_sequenceKey ht.typeIs (by decide) ?_)
 refine y02 (wpAny_callSpecial?_slot (name:=Str.ofString "__getitem__") ht.typeIs y1i
  (wpAny_call_entry y1i ht.typeIs entry_tuple_getitem ?_ (args_tuple_getitem _ _)))
 show y0u _ _ (Builtin.Tuple.tupleItemsOf (.ref t) >>= _) _ _ s
 refine y02 (tupleItemsOf_ ht ?_)
 refine y02 (wpAny_typeOf hTs ?_)
 rw[if_pos (by decide)]
 refine y02 (HT.sliceApplied_gen hs pl pu ?_)
 rw[hw.1,hw.2]
 show y0u _ _ (if (((0:Nat):Int) == 0 && (1:Int) == 1 && (items.size - 0) == items.size)=true then _ else _) _ _ s
 rw[if_pos (by simp)]
 unfold Builtin.Tuple.tupleIsExact
 refine y02 (y02 (wpAny_typeOf ht.typeIs (y06 ?_)))
 rw[if_pos (by decide)]
 refine y02 (wpAny_rule ?_)
 exact y06 ⟨_,rfl,y06 h⟩
theorem zr2:SlR X (rSlW X.K):=by
 intro pins s σ H x v vl vu lo hi sl Q I rx hs pl pu h
 obtain⟨a,xs,rfl,hx,hw,q⟩:=h
 cases rx
 obtain⟨its,r,ht,hz⟩:=I.tuple hx
 have hlen:its.toArray.size=xs.length:=by rw[y0h];exact r.length.symm
 refine⟨"tuple",_,PyProof.Rows.slot_tuple_getitem.lookup,ht.typeIs,?_⟩
 exact za4 ht hs pl pu (by rw[hlen];exact hw) ⟨.ref a,H,I,rfl,q⟩
theorem zwi (n d:Nat) (o:Option Int):D.sIx n d o=HT.sIx n d o:=by
 cases o with
 | none=>rfl
 | some v =>
  unfold D.sIx HT.sIx
  dsimp only
  split <;> omega
theorem zgj {K:y00} {F:Addr->Prop} {H:Hp} {ts:List T} {vs:List V} (h:RepL K F H ts vs) (lo hi:Option Int):RepL K F H (cutZ ts lo hi) (cutV vs lo hi):=by
 unfold cutZ cutV
 simp only[zwi,h.length]
 exact (h.drop _).take _
theorem zob {lo hi:Option Expr} {fl fh:Ev->Option (Option Int)} (ha:PEr X e f) (hl:PO X lo (tOt X.K fl)) (hu:PO X hi (tOt X.K fh)):PEv X (.Subscript e (.Slice lo hi none p2) pos) (slice f fl fh):=z0x (zrm ((zwa.or zr2).or zu7) ha hl hu) fun σ H Q ⟨F₀,H₀,O,F,ε,t,r,e,k⟩=>by
 simp only[slice,y01] at e
 obtain⟨x,ex,l,el,h,eh,e⟩:=e
 refine⟨F₀,H₀,O,F,ε,x,r,ex,fun v F1 H1 x1 rx=>⟨F₀,H₀,O,F1,ε,l,r.ext x1,el,fun F2 H2 x2=>⟨F₀,H₀,O,F2,ε,h,(r.ext x1).ext x2,eh,fun F3 H3 x3=>?_⟩⟩⟩
 have x23:=x2.trans x3
 have x13:=x1.trans x23
 unfold oSl at e
 split at e
 ·cases e
  obtain⟨a,vs,rfl,hs,hr⟩:=(rx.ext x23).tup
  by_cases hw:HT.sIx vs.length 0 l=0/\HT.sIx vs.length vs.length h=vs.length
  ·refine .inl (.inr ⟨a,vs,rfl,hs,hw,k _ F3 H3 x13 ?_⟩)
   simp only[Rep]
   refine⟨a,vs,rfl,hs,?_⟩
   have:=zgj hr l h
   unfold cutV at this
   rw[hw.1,hw.2,List.drop_zero,Nat.sub_zero,List.take_length] at this
   exact this
  ·refine .inl (.inl ⟨a,vs,rfl,hs,hw,fun q hq=>?_⟩)
   have x4:=Ext.laid (o:=.tup (cutV vs l h)) x13.dom hq
   refine k _ F3 _ (x13.trans x4) ?_
   simp only[Rep]
   exact⟨q,_,rfl,SqT.of z0e,(zgj hr l h).ext x4⟩
 ·cases e
  obtain⟨a,vs,rfl,hs,hr⟩:=(rx.ext x23).lst
  refine .inr ⟨a,vs,rfl,.inl hs,fun q hq=>?_⟩
  have x4:=Ext.laidF (o:=.lst (cutV vs l h)) x13.dom hq
  refine k _ _ _ (x13.trans x4) ?_
  simp only[Rep]
  exact⟨q,_,rfl,.inr rfl,.inl z0e,(zgj hr l h).ext x4⟩
 ·cases e
end
section
variable {X:Cx} {a e:Expr} {f:Fe} {p p2 pos pos2:Pos}
end
end
end D
end
section
namespace D
open PySem PySem.W PyProof.Rows
structure OrdK (n:Nat) (lt:Nat->Nat->Bool):Prop where
 asym:∀i j,lt i j=true->lt j i=false
 trans:∀i j k,lt i j=true->lt j k=true->lt i k=true
 tot:∀i j,i<n->j<n->i≠j->lt i j=true\/lt j i=true
noncomputable def SP (lt:Nat->Nat->Bool) (p:Array Nat) (m:Nat):Prop:=∀i j,i<j->j<m->lt (p.getD i 0) (p.getD j 0)=true
noncomputable def DP (lt:Nat->Nat->Bool) (p:Array Nat) (m:Nat):Prop:=∀i j,i<j->j<m->lt (p.getD j 0) (p.getD i 0)=true
section
variable {n:Nat} {lt:Nat->Nat->Bool} (O:OrdK n lt)
include O
end
end D
end
section
namespace D
open PySem
variable [Tbl]
end D
end
section
namespace D
open PySem PySem.Spec PyProof.Rows L2
section
variable [Tbl]
open PySem.W (kas_ask kas_sort kat_run kat_snds kat_lt kat_kind KatTups KatLex KatGo kas_item KasT)
section
variable {prog:y0q} {w:World} {A:Around} {E:Value->y04->Prop} {s:y04}
end
section
variable {X:Cx}
variable {e:Expr} {es:List Expr} {fs:List Fe} {p pos:Pos}
end
end
section
variable [Tbl]
theorem zir:entryFor table "dict.update.loop"=some Builtin.«dict.update.loop»:=entryFor_of_tree (by kernel_rfl)
theorem zat:plainId "dict.update.loop"=true:=by decide +kernel
section
variable {prog:y0q} {w:World} {K:Type} [DecidableEq K] {knd:PySem.KeyKind prog w K} {A:Around}
theorem zmn {E:Value->y04->Prop} {s:y04} {p:Addr} {o:Obj} {n:Nat} {xs:Array Value} {Q:List Value->y04->Prop} (h1:s.heap.get? p=some o) (h2:o.cls=.type "tuple") (h3:o.data=.seq xs n) (h:Q xs.toList s):y0u (model prog w) A (Builtin.Dict.pairItems (.ref p)) Q E s:=by
 obtain⟨c,dct,dat,sl⟩:=o
 simp only at h2 h3
 subst h2 h3
 obtain⟨hp,g,d,tk,os⟩:=s
 have hT:(⟨hp,g,d,tk,os⟩:y04).TypeIs (.ref p) "tuple":=⟨_,h1,rfl⟩
 unfold Builtin.Dict.pairItems
 repeat (any_goals (first|assumption|wp_step))
theorem zme {kvs:List (K×Value)} {k:K} {v:Value} (h:k∉kvs.map (·.1)):stored kvs k v=kvs++[(k,v)]:=by
 unfold stored
 rw[if_neg]
 intro q
 obtain⟨x,hx,e⟩:=List.any_eq_true.mp q
 exact h (y0m.mpr ⟨x,hx,by simpa using e⟩)
variable {R:Result->y04->Prop} {I:Addr} {fp wr:List Addr} {G:Array GenState->Array GenState->Prop} {St:Nat->y04->Prop} {items:Array Value}
variable {E:Value->y04->Prop} {s:y04}
end
end
section
variable [Tbl]
section
variable {X:Cx}
variable {a b e:Expr} {f g:Fe} {x y:Str} {p px py pos pos2:Pos}
end
end
section
variable [Tbl]
open AutoSeq1 (wpAny_loadPart')
section
variable {X:Cx} {es:List Expr} {k:Nat} {p pos p2:Pos} {a:Expr} {f:Fe}
end
end
section
variable [Tbl]
open AutoSeq1 (wpAny_loadPart')
section
variable {prog:y0q} {w:World} {A:Around} {E:Value->y04->Prop} {s:y04}
end
end
section
variable [Tbl]
section
variable {K:y00} {F:Addr->Prop} {H:Hp}
end
section
variable {X:Cx} {a e:Expr} {es:List Expr} {f:Fe} {fs:List Fe} {p p2 pos pos2:Pos}
end
end
section
variable [Tbl]
mutual
noncomputable def ltD:T->T->Option Bool
 | .int a,.int b=>some (decide (a<b))
 | .tuple xs,.tuple ys=>lexD xs ys
 | _,_=>none
noncomputable def lexD:List T->List T->Option Bool
 | [],[]=>some false
 | [],_::_=>some true
 | _::_,[]=>some false
 | x::xs,y::ys=>if y25 x y then lexD xs ys else ltD x y
end
noncomputable def LtAt (A:Around) (s:y04) (y x:Value) (b:Bool):Prop :=
 ∀(prog:y0q) (w:World) (E:Value->y04->Prop) (Q:Value->y04->Prop),Q (.bool b) s->y0u (model prog w) A (richCompare .Lt y x) Q E s
inductive GoodP (A:Around) (s:y04) (fin:Bool):List (Value×Value)->Bool->Prop
 | nil:GoodP A s fin [] fin
 | eq {y x:Value} {r:List (Value×Value)} {b:Bool}:SeqAt.EqAt A s y x true->GoodP A s fin r b->GoodP A s fin ((y,x)::r) b
 | lt {y x:Value} {r:List (Value×Value)} {b:Bool}:SeqAt.EqAt A s y x false->LtAt A s y x b->GoodP A s fin ((y,x)::r) b
section
open PySem.SeqAt
open PySem.AutoSeq1 (wpAny_loadPart')
open PySem.MeetsSeq PySem.MeetsSeq2 PySem.MeetsSeq3
theorem zhh (l b:Addr) (items items2:Array Value) (n n2:Nat) (dd dd2:Option Addr) (sl sl2:Array (Option Value)) (z:Bool) :
  Meets (Builtin.«tuple.__lt__» ⟨[.ref l,.ref b],[]⟩)
   (fun A R s=>s.heap.get? l=some { cls:=.type "tuple",dict:=dd,data:=.seq items n,slots:=sl }/\s.heap.get? b=some { cls:=.type "tuple",dict:=dd2,data:=.seq items2 n2,slots:=sl2 } /\
    GoodP A.in1 s (decide (items.size<items2.size)) (items.toList.zip items2.toList) z/\R (.ok (.ret (.bool z))) s) :=
 .of_wp fun prog w A R s h=>by
  obtain⟨hp,g,d,tk,os⟩:=s;obtain⟨hl,hb,hg,h⟩:=h
  have f2:=AutoSeq1.sub_tuple_tuple
  wp_walk using wpAny_loadPart' hl,wpAny_loadPart' hb,wpAny_forIn_list _ (fun rest b s'=>b.1=none/\s'=⟨hp,g,d,tk,os⟩/\GoodP A.in1 ⟨hp,g,d,tk,os⟩ (decide (items.size<items2.size)) rest z) _
  case turn =>
   rintro⟨y,x⟩ rest b s' ⟨hb',rfl,hG⟩
   cases hG with
   | eq he hG =>
    refine y02 (he prog w _ _ ?_)
    wp_walk
    exact⟨rfl,rfl,hG⟩
   | lt he hlt =>
    refine y02 (he prog w _ _ ?_)
    have hri:=hlt prog w
    wp_walk using hri
    exact⟨_,rfl,h⟩
  case fin =>
   rintro⟨b1,b2⟩ s' ⟨hb',rfl,hG⟩
   simp only at hb'
   subst hb'
   cases hG
   wp_walk
   exact⟨_,rfl,by simpa [Builtin.Tuple.tupleCompareSizes] using h⟩
  case h =>
   exact⟨rfl,rfl,hg⟩
mutual
theorem zrz:∀(da db:T) (A:Around) (s:y04) (a b:Value) (as bs:List Addr) (r:Bool),Reads s.heap a da as->Reads s.heap b db bs->da.canLay0=true->db.canLay0=true->A.units+min da.depth db.depth<cLine->ltD da db=some r->LtAt A s a b r
 | .int i,.int j,A,s,_,_,_,_,r,.int _ t,.int _ u,_,_,_,e=>by
  unfold ltD at e
  cases e
  exact fun prog w E Q q=>(PyProof.Rows.lt_int q:y0u (model prog w) A (compareOp .Lt (.int i t) (.int j u)) Q E s)
 | .tuple xs,.tuple ys,A,s,_,_,_,_,r,.tuple (a:=l) (o:=o) (vs:=vs) (n:=n) h1 h2 h3 h4,.tuple (a:=l') (o:=o') (vs:=vs') (n:=n') k1 k2 k3 k4,ha,hb,hu,e=>by
  unfold ltD at e
  simp only[PyData.canLay0] at ha hb
  simp only[y2a] at hu
  have hG:=zfo xs ys A.in1 s vs.toList vs'.toList _ _ r h4 k4 ha hb (room_in hu) e
  obtain⟨cls,dd,data,sl⟩:=o
  obtain⟨cls2,dd2,data2,sl2⟩:=o'
  simp only at h2 h3 k2 k3
  subst h2 h3 k2 k3
  rw[y24,y24] at hG
  exact fun prog w E Q q=>richCompare_meets_room (op:=.Lt) ⟨_,h1,rfl⟩ ⟨_,k1,rfl⟩ PySem.F.slot_tuple_lt PySem.F.entry_tuple_lt (PySem.F.args_tuple_lt_2 _ _) (zhh l l' vs vs' n n' dd dd2 sl sl2 r)
   ⟨h1,k1,hG,show Value.bool r≠Value.notImplemented/\Q (.bool r) s from ⟨(fun x=>nomatch x),q⟩⟩ (by omega)
 | .none,_,_,_,_,_,_,_,_,_,_,_,_,_,e=>by simp[ltD] at e
 | .bool _,_,_,_,_,_,_,_,_,_,_,_,_,_,e=>by simp[ltD] at e
 | .str _,_,_,_,_,_,_,_,_,_,_,_,_,_,e=>by simp[ltD] at e
 | .list _,_,_,_,_,_,_,_,_,_,_,_,_,_,e=>by simp[ltD] at e
 | .dict _,_,_,_,_,_,_,_,_,_,_,_,_,_,e=>by simp[ltD] at e
 | .int _,.none,_,_,_,_,_,_,_,_,_,_,_,_,e=>by simp[ltD] at e
 | .int _,.bool _,_,_,_,_,_,_,_,_,_,_,_,_,e=>by simp[ltD] at e
 | .int _,.str _,_,_,_,_,_,_,_,_,_,_,_,_,e=>by simp[ltD] at e
 | .int _,.list _,_,_,_,_,_,_,_,_,_,_,_,_,e=>by simp[ltD] at e
 | .int _,.dict _,_,_,_,_,_,_,_,_,_,_,_,_,e=>by simp[ltD] at e
 | .int _,.tuple _,_,_,_,_,_,_,_,_,_,_,_,_,e=>by simp[ltD] at e
 | .tuple _,.none,_,_,_,_,_,_,_,_,_,_,_,_,e=>by simp[ltD] at e
 | .tuple _,.bool _,_,_,_,_,_,_,_,_,_,_,_,_,e=>by simp[ltD] at e
 | .tuple _,.str _,_,_,_,_,_,_,_,_,_,_,_,_,e=>by simp[ltD] at e
 | .tuple _,.list _,_,_,_,_,_,_,_,_,_,_,_,_,e=>by simp[ltD] at e
 | .tuple _,.dict _,_,_,_,_,_,_,_,_,_,_,_,_,e=>by simp[ltD] at e
 | .tuple _,.int _,_,_,_,_,_,_,_,_,_,_,_,_,e=>by simp[ltD] at e
theorem zfo:∀(xs ys:List T) (A:Around) (s:y04) (vs ws:List Value) (as bs:List Addr) (r:Bool),ReadsAll s.heap vs xs as->ReadsAll s.heap ws ys bs->y1h xs=true->y1h ys=true->A.units+min (y1f xs) (y1f ys)<cLine->lexD xs ys=some r->GoodP A s (decide (vs.length<ws.length)) (vs.zip ws) r
 | [],[],A,s,_,_,_,_,r,.nil,.nil,_,_,_,e=>by
  unfold lexD at e
  cases e
  exact .nil
 | [],_::_,A,s,_,_,_,_,r,.nil,.cons _ _,_,_,_,e=>by
  unfold lexD at e
  cases e
  exact GoodP.nil
 | _::_,[],A,s,_,_,_,_,r,.cons _ _,.nil,_,_,_,e=>by
  unfold lexD at e
  cases e
  exact GoodP.nil
 | x::xs,y::ys,A,s,_,_,_,_,r,.cons r1 r2,.cons q1 q2,ha,hb,hu,e=>by
  simp only[y1h,y1c] at ha hb
  simp only[y1f] at hu
  unfold lexD at e
  have he:=eqAt_reads x y A s _ _ _ _ r1 q1 ha.1 hb.1 (room_head hu)
  split at e
  next h =>
   rw[h] at he
   have ih:=zfo xs ys A s _ _ _ _ r r2 q2 ha.2 hb.2 (room_tail hu) e
   rw[y26]
   simp only[y0w,Nat.add_lt_add_iff_right]
   exact .eq he ih
  next h =>
   rw[Bool.not_eq_true] at h
   rw[h] at he
   rw[y26]
   exact .lt he (zrz x y A s _ _ _ _ r r1 q1 ha.1 hb.1 (room_head hu) e)
end
end
section
variable {prog:y0q} {w:World} {A:Around} {R:Result->y04->Prop} {I:Addr} {fp wr:List Addr} {G:Array GenState->Array GenState->Prop} {St:Nat->y04->Prop} {items:Array Value}
variable {E:Value->y04->Prop} {s:y04}
end
section
variable {X:Cx} {e:Expr} {es:List Expr} {fs:List Fe} {p pos:Pos}
end
end
section
variable [Tbl]
end
end D
end
section
namespace D
open PySem
inductive Ag where
 | v (f:Fe)|o (i:Nat)
abbrev Fx:=Ev->Option (T×Ev)
abbrev Fo:=Ev->Option Sl
noncomputable def objF (c i:Nat) (ε:Ev):Option (Md×List Sl):=match ε[i]? with
 | some (some (.obj m c' fs))=>if c'=c then some (m,fs) else none
 | _=>none
noncomputable def fld (c i j:Nat):Fe:=fun ε=>(objF c i ε).bind fun o=>match o.2[j]? with
 | some (.imm t)=>some t
 | some (.own ts)=>some (.list ts)
 | _=>none
noncomputable def fldV (c i j:Nat):Fe:=fun ε=>(objF c i ε).bind fun o=>match o.2[j]? with
 | some (.imm t)=>some t
 | _=>none
noncomputable def fldD (c i j:Nat):Ev->Option (List (Key×T)):=fun ε=>(objF c i ε).bind fun o=>match o.2[j]? with
 | some (.dic kvs)=>some kvs
 | _=>none
noncomputable def fldL (c i j:Nat):Ev->Option (List T):=fun ε=>(objF c i ε).bind fun o=>match o.2[j]? with
 | some (.own ts)=>some ts
 | _=>none
noncomputable def fGet (c i j:Nat) (k:Fe):Fe:=fun ε=>(k ε).bind fun t=>(z6i t).bind fun k=>(fldD c i j ε).bind fun kvs=>getD kvs k
def zpr (c i j:Nat):Fe:=fun ε=>(fldD c i j ε).map fun kvs=>.tuple (kvs.map (·.2))
noncomputable def setF (c i j:Nat) (s:Sl) (ε:Ev):Option Ev:=(objF c i ε).bind fun o=>if o.1=.ro then none else
 if j<o.2.length then some (ε.set i (some (.obj o.1 c (o.2.set j s)))) else if j=o.2.length then some (ε.set i (some (.obj o.1 c (o.2++[s])))) else none
def asgF (c i j:Nat) (f:Fe):Fs:=fun ε=>(f ε).bind fun t=>(setF c i j (.imm t) ε).map .nx
noncomputable def z8u (c i j:Nat) (f:Fe):Fs:=fun ε=>(f ε).bind fun t=>match t with
 | .list ts=>(setF c i j (.own ts) ε).map .nx
 | _=>none
def zgp:T->T->Option Int
 | .int i,.int j=>some (i+j)
 | _,_=>none
noncomputable def augF (c i j:Nat) (f:Fe):Fs:=fun ε=>(fldV c i j ε).bind fun x=>(f ε).bind fun y=>(zgp x y).bind fun z=>(setF c i j (.imm (.int z)) ε).map .nx
noncomputable def appF (c i j:Nat) (f:Fe):Fs:=fun ε=>(f ε).bind fun t=>(fldL c i j ε).bind fun ts=>if ts.length<big then (setF c i j (.own (ts++[t])) ε).map .nx else none
noncomputable def rmF (c i j:Nat) (f:Fe):Fs:=fun ε=>(f ε).bind fun t=>(fldL c i j ε).bind fun ts=>match t,zd6 ts with
 | .str x,some ss=>if x∈ss then (setF c i j (.own ((ss.erase x).map .str)) ε).map .nx else none
 | _,_=>none
noncomputable def zf9:T->Option T
 | .tuple xs=>some (.list xs)
 | .list xs=>some (.list xs)
 | _=>none
noncomputable def zcs:T->Option T
 | .list xs=>if xs.length<64 then (zd6 xs).map fun ss=>.list ((z87 ss).map .str) else none
 | _=>none
noncomputable def popF (c i j:Nat):Fs:=fun ε=>(fldL c i j ε).bind fun ts=>(ts.getLast?).bind fun _=>(setF c i j (.own ts.dropLast) ε).map .nx
noncomputable def zi1 (c i j:Nat) (k v:Fe):Fs:=fun ε=>(v ε).bind fun v=>(k ε).bind fun t=>(z6i t).bind fun k=>(fldD c i j ε).bind fun kvs=>if kvs.length<big then (setF c i j (.dic (putD kvs k v)) ε).map .nx else none
noncomputable def zjh (c i j:Nat) (k v:Fe):Fs:=fun ε=>(k ε).bind fun t=>(z6i t).bind fun k=>(fldD c i j ε).bind fun kvs=>(getD kvs k).bind fun x=>(v ε).bind fun y=>(zgp x y).bind fun z=>if kvs.length<big then (setF c i j (.dic (putD kvs k (.int z))) ε).map .nx else none
noncomputable def zipD:List T->List T->Option (List (Key×T))
 | [],_=>some []
 | _::_,[]=>some []
 | k::ks,v::vs=>(z6i k).bind fun k=>(zipD ks vs).map fun r=>(k,v)::r
noncomputable def znh (c i j:Nat) (ks vs:Fe):Fs:=fun ε=>(ks ε).bind fun tk=>(vs ε).bind fun tv=>match tk,tv with
 | .list lk,.tuple lv=>(zipD lk lv).bind fun kvs=>if (kvs.map (·.1)).Nodup/\kvs.length<=1000/\(∀t∈lk,(z6i t).isSome=true) then (setF c i j (.dic kvs) ε).map .nx else none
 | _,_=>none
noncomputable def zs5 (f g:Fi):Fi:=fun ε=>(f ε).bind fun a=>(g ε).map fun b=>List.zipWith (fun x y=>.tuple [x,y]) a b
noncomputable def z21 (c:Nat) (d:List Sl->Option T) (i:Nat) (fs:List Fe):Fe:=fun ε=>(objF c i ε).bind fun o=>(args fs ε).bind fun ts=>d (.obj .ro c o.2::ts.map .imm)
noncomputable def z0s (c:Nat) (d:List Sl->Option (T×List Sl)) (i:Nat) (fs:List Fe):Fx:=fun ε=>(objF c i ε).bind fun o=>if o.1=.ro then none else (args fs ε).bind fun ts =>
 (d (.obj .lent c o.2::ts.map .imm)).map fun r=>(r.1,ε.set i (some (.obj o.1 c r.2)))
noncomputable def zj7 (c:Nat) (d:List Sl->Option (T×List Sl)) (fs:List Fe) (i:Nat) (gs:List Fe):Fx:=fun ε=>(objF c i ε).bind fun o=>if o.1=.ro then none else (args fs ε).bind fun ts=>(args gs ε).bind fun us =>
 (d (ts.map .imm++.obj .lent c o.2::us.map .imm)).map fun r=>(r.1,ε.set i (some (.obj o.1 c r.2)))
noncomputable def newO (c:Nat) (d:List Sl->Option (T×List Sl)) (fs:List Fe):Fo:=fun ε=>(args fs ε).bind fun ts=>(d (.obj .lent c []::ts.map .imm)).bind fun r=>match r.1 with
 | .none=>some (.obj .own c r.2)
 | _=>none
def zer (d:List T->Option Sl) (fs:List Fe):Fo:=fun ε=>(args fs ε).bind d
noncomputable def z8i (c:Nat):Sl->Option (List Sl)
 | .obj .own c' fs=>if c'=c then some fs else none
 | _=>none
noncomputable def ofO (c:Nat) (d:List Sl->Option T) (o:Fo) (fs:List Fe):Fe:=fun ε=>(o ε).bind fun s=>(z8i c s).bind fun os=>(args fs ε).bind fun ts=>d (.obj .ro c os::ts.map .imm)
noncomputable def zbn (c j:Nat) (o:Fo):Fe:=fun ε=>(o ε).bind fun s=>(z8i c s).bind fun os=>match os[j]? with
 | some (.own ts)=>some (.list ts)
 | _=>none
def exX (f:Fx):Fs:=fun ε=>(f ε).map fun r=>.nx r.2
def rtnX (f:Fx):Fs:=fun ε=>(f ε).map fun r=>.rtm r.1 r.2
def rtnM (f:Fe):Fs:=fun ε=>(f ε).map fun t=>.rtm t ε
def asgX (i:Nat) (f:Fx):Fs:=fun ε=>(f ε).map fun r=>.nx (r.2.set i (some (.imm r.1)))
def asgO (i:Nat) (f:Fo):Fs:=fun ε=>(f ε).map fun s=>.nx (ε.set i (some s))
noncomputable def rtnO (i:Nat):Fs:=fun ε=>match ε[i]? with
 | some (some (.obj .own c fs))=>some (.rto (.obj .own c fs))
 | _=>none
def zgg:Fs:=fun ε=>some (.rtm .none ε)
def zia:Fs:=fun _=>none
def z5x (n:Nat) (ss:List Sl):Ev:=ss.map some++y0g (n - ss.length) none
noncomputable def runR (b:Fs) (n:Nat) (ss:List Sl):Option T:=(b (z5x n ss)).bind fun o=>match o with
 | .rt t=>some t
 | .nx _=>some .none
 | _=>none
noncomputable def z57 (c p:Nat) (ε:Ev):Option (List Sl):=match ε[p]? with
 | some (some (.obj .lent c' fs))=>if c'=c then some fs else none
 | _=>none
noncomputable def runM (c p:Nat) (b:Fs) (n:Nat) (ss:List Sl):Option (T×List Sl):=(b (z5x n ss)).bind fun o=>match o with
 | .rtm t ε=>(z57 c p ε).map fun fs=>(t,fs)
 | .nx ε=>(z57 c p ε).map fun fs=>(.none,fs)
 | _=>none
def ownS:Sl->Option Sl
 | .obj .own c fs=>some (.obj .own c fs)
 | _=>none
noncomputable def runO (b:Fs) (n:Nat) (ts:List T):Option Sl:=(b ((ts.map fun t=>some (.imm t))++y0g (n - ts.length) none)).bind fun o=>match o with
 | .rto s=>ownS s
 | _=>none
end D
end
section
namespace D
open PySem PySem.Spec PyProof.Rows L2
section
variable [Tbl]
section
variable {K:y00} {F F' O:Addr->Prop} {H H':Hp} {E:En}
theorem RelF.length:∀{fs:List Sl} {vs:List V},RelF K F H fs vs->fs.length=vs.length
 | [],vs,r=>by
  have e:vs=[]:=r
  rw[e]
  rfl
 | s::ss,vs,r=>by
  obtain⟨v,z,rfl,_,r2⟩:=r
  simp[RelF.length r2]
theorem RelF.get:∀{fs:List Sl} {vs:List V} {j:Nat} {s:Sl},RelF K F H fs vs->fs[j]?=some s->∃v,vs[j]?=some v/\zbb K F H s v
 | [],vs,j,s,r,e=>by simp at e
 | s::ss,vs,0,u,r,e=>by
  obtain⟨v,z,rfl,r1,_⟩:=r
  simp at e
  subst e
  exact⟨v,rfl,r1⟩
 | s::ss,vs,j+1,u,r,e=>by
  obtain⟨v,z,rfl,_,r2⟩:=r
  obtain⟨w,h1,h2⟩:=RelF.get (j:=j) (s:=u) r2 (by simpa using e)
  exact⟨w,by simpa using h1,h2⟩
theorem RelF.set:∀{fs:List Sl} {vs:List V} {j:Nat} {s:Sl} {v:V},RelF K F H fs vs->Kp K F H F' H'->(∀(k:Nat) (u:Sl) (w:V),k≠j->fs[k]?=some u->vs[k]?=some w->∀b∈fp0 u w,H' b=H b)->zbb K F' H' s v->RelF K F' H' (fs.set j s) (vs.set j v)
 | [],vs,j,s,v,r,_,_,_=>by
  have e:vs=[]:=r
  subst e
  exact rfl
 | u::ss,vs,0,s,v,r,kp,hk,h=>by
  obtain⟨w,z,rfl,r1,r2⟩:=r
  refine⟨v,z,rfl,h,r2.keep kp fun b hb=>?_⟩
  have:∀{ss:List Sl} {z:List V} (n:Nat),(∀(k:Nat) (u:Sl) (w:V),ss[k]?=some u->z[k]?=some w->∀b∈fp0 u w,H' b=H b)->b∈fpF ss z->H' b=H b:=by
   intro ss
   induction ss with
   | nil=>intro z n _ hb;simp[fpF] at hb
   | cons s1 ss ih =>
    intro z n hk hb
    cases z with
    | nil=>simp[fpF] at hb
    | cons v1 z =>
     rw[show fpF (s1::ss) (v1::z)=fp0 s1 v1++fpF ss z from rfl] at hb
     rcases y11.mp hb with q|q
     ·exact hk 0 s1 v1 rfl rfl b q
     ·exact ih n (fun k u w e1 e2=>hk (k+1) u w (by simpa using e1) (by simpa using e2)) q
  exact this 0 (fun k u w e1 e2=>hk (k+1) u w (by omega) (by simpa using e1) (by simpa using e2)) hb
 | u::ss,vs,j+1,s,v,r,kp,hk,h=>by
  obtain⟨w,z,rfl,r1,r2⟩:=r
  exact⟨w,z.set j v,rfl,r1.keep kp fun b hb=>hk 0 u w (by omega) rfl rfl b hb,RelF.set r2 kp (fun k u w hkj e1 e2=>hk (k+1) u w (by omega) (by simpa using e1) (by simpa using e2)) h⟩
theorem RelF.snoc:∀{fs:List Sl} {vs:List V} {s:Sl} {v:V},RelF K F H fs vs->zbb K F H s v->RelF K F H (fs++[s]) (vs++[v])
 | [],vs,s,v,r,h=>by
  have e:vs=[]:=r
  subst e
  exact⟨v,[],rfl,h,rfl⟩
 | u::ss,vs,s,v,r,h=>by
  obtain⟨w,z,rfl,r1,r2⟩:=r
  exact⟨w,z++[v],rfl,r1,RelF.snoc r2 h⟩
theorem zgx:∀{fs:List Sl} {vs:List V} {s:Sl} {v:V},fs.length=vs.length->fpF (fs++[s]) (vs++[v])=fpF fs vs++fp0 s v
 | [],[],s,v,_=>by simp[fpF]
 | u::ss,w::z,s,v,h=>by
  show fp0 u w++fpF (ss++[s]) (z++[v])=(fp0 u w++fpF ss z)++fp0 s v
  rw[zgx (by simpa using h),y2p]
 | [],w::z,_,_,h=>by simp at h
 | u::ss,[],_,_,h=>by simp at h
theorem z9s:∀{fs:List Sl} {vs:List V} {j:Nat} {s:Sl} {v:V} {b:Addr},fs[j]?=some s->vs[j]?=some v->b∈fp0 s v->b∈fpF fs vs
 | [],vs,j,s,v,b,e,_,_=>by simp at e
 | u::ss,[],j,s,v,b,_,e,_=>by simp at e
 | u::ss,w::z,0,s,v,b,e1,e2,h=>by
  simp at e1 e2
  subst e1 e2
  exact y11.mpr (.inl h)
 | u::ss,w::z,j+1,s,v,b,e1,e2,h=>y11.mpr (.inr (z9s (j:=j) (by simpa using e1) (by simpa using e2) h))
theorem zpo:∀{fs:List Sl} {vs:List V} {b:Addr},b∈fpF fs vs->∃(j:Nat) (s:Sl) (v:V),fs[j]?=some s/\vs[j]?=some v/\b∈fp0 s v
 | [],vs,b,h=>by simp[fpF] at h
 | u::ss,[],b,h=>by simp[fpF] at h
 | u::ss,w::z,b,h=>by
  rcases y11.mp (show b∈fp0 u w++fpF ss z from h) with q|q
  ·exact⟨0,u,w,rfl,rfl,q⟩
  ·obtain⟨j,s,v,e1,e2,h⟩:=zpo q
   exact⟨j+1,s,v,by simpa using e1,by simpa using e2,h⟩
theorem zgw:∀{fs:List Sl} {vs:List V} {j k:Nat} {s u:Sl} {v w:V} {b:Addr},(fpF fs vs).Nodup->j≠k->fs[j]?=some s->vs[j]?=some v->fs[k]?=some u->vs[k]?=some w->b∈fp0 s v->b∈fp0 u w->False
 | [],vs,j,k,s,u,v,w,b,_,_,e,_,_,_,_,_=>by simp at e
 | x::ss,[],j,k,s,u,v,w,b,_,_,_,e,_,_,_,_=>by simp at e
 | x::ss,y::z,j,k,s,u,v,w,b,nd,hjk,e1,e2,e3,e4,h1,h2=>by
  have nd':(fp0 x y++fpF ss z).Nodup:=nd
  rw[y1p] at nd'
  obtain⟨n1,n2,n3⟩:=nd'
  cases j with
  | zero =>
   cases k with
   | zero=>exact hjk rfl
   | succ k =>
    simp at e1 e2
    subst e1 e2
    exact n3 b h1 b (z9s (j:=k) (by simpa using e3) (by simpa using e4) h2) rfl
  | succ j =>
   cases k with
   | zero =>
    simp at e3 e4
    subst e3 e4
    exact n3 b h2 b (z9s (j:=j) (by simpa using e1) (by simpa using e2) h1) rfl
   | succ k=>exact zgw (j:=j) (k:=k) n2 (by omega) (by simpa using e1) (by simpa using e2) (by simpa using e3) (by simpa using e4) h1 h2
theorem z7s {fs:List Sl} {vs:List V} {j:Nat} {s:Sl} {v:V} {b:Addr} (h:b∈fpF (fs.set j s) (vs.set j v)):b∈fpF fs vs\/b∈fp0 s v:=by
 obtain⟨k,u,w,e1,e2,h⟩:=zpo h
 by_cases hk:j=k
 ·subst hk
  have l1:=(y0k.mp e1).1
  have l2:=(y0k.mp e2).1
  simp at l1 l2
  rw[y2d,if_pos rfl,if_pos l1] at e1
  rw[y2d,if_pos rfl,if_pos l2] at e2
  cases e1
  cases e2
  exact .inr h
 ·rw[y2d,if_neg hk] at e1 e2
  exact .inl (z9s e1 e2 h)
theorem z7r:∀{fs:List Sl} {vs:List V} {j:Nat} {s:Sl} {v:V},(fpF fs vs).Nodup->(fp0 s v).Nodup->(∀b∈fp0 s v,∀(k:Nat) (u:Sl) (w:V),k≠j->fs[k]?=some u->vs[k]?=some w->b∉fp0 u w)->(fpF (fs.set j s) (vs.set j v)).Nodup
 | [],vs,j,s,v,_,_,_=>by simp[fpF]
 | x::ss,[],j,s,v,_,_,_=>by cases j <;> simp[fpF]
 | x::ss,y::z,0,s,v,nd,n0,ha=>by
  have nd':(fp0 x y++fpF ss z).Nodup:=nd
  rw[y1p] at nd'
  show (fp0 s v++fpF ss z).Nodup
  rw[y1p]
  refine⟨n0,nd'.2.1,fun b hb c hc e=>?_⟩
  subst e
  obtain⟨k,u,w,e1,e2,h⟩:=zpo hc
  exact ha b hb (k+1) u w (by omega) (by simpa using e1) (by simpa using e2) h
 | x::ss,y::z,j+1,s,v,nd,n0,ha=>by
  have nd':(fp0 x y++fpF ss z).Nodup:=nd
  rw[y1p] at nd'
  show (fp0 x y++fpF (ss.set j s) (z.set j v)).Nodup
  rw[y1p]
  refine⟨nd'.1,z7r nd'.2.1 n0 fun b hb k u w hk e1 e2=>ha b hb (k+1) u w (by omega) (by simpa using e1) (by simpa using e2),fun b hb c hc e=>?_⟩
  subst e
  rcases z7s hc with q|q
  ·exact nd'.2.2 b hb b q rfl
  ·exact ha b q 0 x y (by omega) rfl rfl hb
theorem zra (v:V):(rf v).Nodup:=by
 unfold rf
 split <;> simp
theorem zil (s:Sl) (v:V):(fp0 s v).Nodup:=by
 cases s <;> first|exact zra v|simp[fp0]
theorem zbd:∀{ns:List Str} {vs:List V} {j:Nat} {f:Str} {v:V},ns.Nodup->ns[j]?=some f->vs[j]?=some v->(ns.zip vs).lookup f=some v
 | [],_,_,_,_,_,e,_=>by simp at e
 | _::_,[],_,_,_,_,_,e=>by simp at e
 | n::ns,w::vs,0,f,v,_,e1,e2=>by
  simp at e1 e2
  subst e1 e2
  simp[y1l]
 | n::ns,w::vs,j+1,f,v,nd,e1,e2=>by
  have ne:f≠n:=by
   rintro rfl
   exact (y0r.mp nd).1 (y1y (by simpa using e1))
  have hb:(f == n)=false:=beq_eq_false_iff_ne.mpr ne
  simp only[y26,y1l,hb]
  exact zbd (j:=j) (y0r.mp nd).2 (by simpa using e1) (by simpa using e2)
theorem z27:∀{ns:List Str} {vs:List V} {f:Str},f∉ns->(ns.zip vs).lookup f=none
 | [],_,_,_=>by simp
 | _::_,[],_,_=>by simp
 | n::ns,w::vs,f,h=>by
  have ne:f≠n:=fun e=>h (by simp[e])
  have hb:(f == n)=false:=beq_eq_false_iff_ne.mpr ne
  simp only[y26,y1l,hb]
  exact z27 fun z=>h (y05 _ z)
theorem znk:∀{ns:List Str} {vs:List V} {j:Nat} {f:Str} {v:V},ns.Nodup->ns[j]?=some f->j<vs.length->L2.putF f v (ns.zip vs)=ns.zip (vs.set j v)
 | [],_,_,_,_,_,e,_=>by simp at e
 | _::_,[],_,_,_,_,_,h=>by simp at h
 | n::ns,w::vs,0,f,v,_,e1,h=>by
  simp at e1
  subst e1
  simp[L2.putF]
 | n::ns,w::vs,j+1,f,v,nd,e1,h=>by
  have ne:n≠f:=by
   rintro rfl
   exact (y0r.mp nd).1 (y1y (by simpa using e1))
  simp only[y26,y1m,L2.putF,if_neg ne]
  rw[znk (j:=j) (y0r.mp nd).2 (by simpa using e1) (by simpa using h)]
theorem zd0:∀{ns:List Str} {vs:List V} {f:Str} {v:V},ns.Nodup->ns[vs.length]?=some f->L2.putF f v (ns.zip vs)=ns.zip (vs++[v])
 | [],_,_,_,_,e=>by simp at e
 | n::ns,[],f,v,_,e1=>by
  simp at e1
  subst e1
  simp[L2.putF]
 | n::ns,w::vs,f,v,nd,e1=>by
  have ne:n≠f:=by
   rintro rfl
   exact (y0r.mp nd).1 (y1y (by simpa using e1))
  simp only[y26,y2r,L2.putF,if_neg ne]
  rw[zd0 (y0r.mp nd).2 (by simpa using e1)]
end
structure ClOk (K:y00) (c:Nat) (C:Addr) (ns:List Str):Prop where
 ck:Tbl.ck c=some C
 cn:Tbl.cn c=ns
 cls:Cls K C
 nd:ns.Nodup
 na:∀f∈ns,zbc K C f
 few:ns.length<1000
section
variable {K:y00} {F₀ F F1 O:Addr->Prop} {H H1:Hp} {E:En} {ε ε':Ev} {σ:L2.St} {c C i j:Nat} {ns:List Str}
theorem z2z {m:Md} {fs:List Sl} (h:objF c i ε=some (m,fs)):ε[i]?=some (some (.obj m c fs)):=by
 unfold objF at h
 split at h
 next m' c' fs' e =>
  split at h
  next hc =>
   cases h
   rw[e,hc]
  next=>cases h
 next=>cases h
theorem z8f {m:Md} {fs:List Sl} (k:ClOk K c C ns) (r:RelE K F₀ E O F H ε σ) (h:objF c i ε=some (m,fs)) :
  ∃a vs dx,σ[i]?=some (some (.ref a))/\H a=some (.ins C dx (ns.zip vs))/\vs.length<=ns.length/\z6k H a c vs/\RelF K F H fs vs/\(a::fpF fs vs).Nodup/\(∀b∈a::fpF fs vs,OwnM E O F m b)/\(m=.lent->a=E.la):=by
 obtain⟨v,h1,a,vs,rfl,ha,hf,nd,ow,la⟩:=r.val i _ (z2z h)
 obtain⟨hl,hx⟩:=id ha
 rw[k.ck] at hx
 obtain⟨dx,hx⟩:=hx
 rw[k.cn] at hl hx
 exact⟨a,vs,dx,h1,hx,hl,ha,hf,nd,ow,la⟩
theorem zli {m:Md} (hm:m≠.ro) {fs:List Sl}:(Sl.obj m c fs).isOwn=true:=by
 cases m with
 | ro=>exact absurd rfl hm
 | own=>rfl
 | lent=>rfl
theorem RelE.setFld {s:Sl} {v:V} {a dx:Addr} {vs:List V} (k:ClOk K c C ns) (r:RelE K F₀ E O F H ε σ) {m:Md} {fs:List Sl} (ho:objF c i ε=some (m,fs)) (h1:σ[i]?=some (some (.ref a))) (ha:z6k H a c vs) (he:setF c i j s ε=some ε')
  (rs:zbb K F H s v) (own:∀b∈fp0 s v,¬F b/\O b/\b∉fpS H (.obj m c fs) (.ref a)/\∀(k:Nat) (u:Sl) (w:V),i≠k->ε[k]?=some (some u)->u.isOwn=true->σ[k]?=some (some w)->b∉fpS H u w) (hx:H a=some (.ins C dx (ns.zip vs)))
  {f:Str} (hj:ns[j]?=some f):Kp K F H F (upd H a (.ins C dx (L2.putF f v (ns.zip vs))))/\RelE K F₀ E O F (upd H a (.ins C dx (L2.putF f v (ns.zip vs)))) ε' σ:=by
 obtain⟨a',vs',dx',h1',hx',hl,ha',hf,nd,ow,la⟩:=z8f k r ho
 rw[h1] at h1'
 cases h1'
 have ev:vs'=vs:=by rw[<- ha.vals,<- ha'.vals]
 subst ev
 have hfp:fpS H (.obj m c fs) (.ref a)=a::fpF fs vs':=z3g ha
 rw[hfp] at own
 unfold setF at he
 rw[ho] at he
 simp only[y0p] at he
 split at he
 next=>cases he
 next hm =>
 have hlen:=hf.length
 have hown:(Sl.obj m c fs).isOwn=true:=zli hm
 have ho0:∀b,OwnM E O F m b <-> ¬F b/\O b:=fun b=>by
  cases m with
  | ro=>exact absurd rfl hm
  | own=>exact Iff.rfl
  | lent=>exact Iff.rfl
 have na:∀b∈fpF fs vs',b≠a:=fun b hb z=>(y0r.mp nd).1 (z▸hb)
 split at he
 next hjl =>
  cases he
  have hjv:j<vs'.length:=by omega
  rw[znk k.nd hj hjv]
  have hm2:∀b∈a::fpF (fs.set j s) (vs'.set j v),b∈a::fpF fs vs'\/b∈fp0 s v:=fun b hb=>by
   rcases y09.mp hb with rfl|hb
   ·exact .inl y0f
   ·rcases z7s hb with q|q
    ·exact .inl (y05 _ q)
    ·exact .inr q
  have hat:∀o':Hp,o' a=some (.ins C dx (ns.zip (vs'.set j v)))->z6k o' a c (vs'.set j v):=fun o' e=>by
   refine⟨by rw[k.cn];simpa using hl,?_⟩
   rw[k.ck,k.cn]
   exact⟨dx,e⟩
  refine r.mutG (z2z ho) hown h1 (by rw[hfp];exact y0f) (fun kp=>⟨a,vs'.set j v,rfl,hat _ z0e,?_,?_,fun b hb=>?_,la⟩) fun b hb=>?_
  ·refine RelF.set hf kp (fun k u w _ e1 e2 b hb=>z0c (na b (z9s e1 e2 hb))) (rs.keep kp fun b hb=>z0c fun z=>(own b hb).2.2.1 (z▸y0f))
  ·refine y0r.mpr ⟨fun z=>?_,z7r (y0r.mp nd).2 (zil s v) fun b hb k u w _ e1 e2 q=>(own b hb).2.2.1 (y05 _ (z9s e1 e2 q))⟩
   rcases z7s z with q|q
   ·exact (y0r.mp nd).1 q
   ·exact (own a q).2.2.1 y0f
  ·rcases hm2 b hb with q|q
   ·exact ow b q
   ·exact (ho0 b).mpr ⟨(own b q).1,(own b q).2.1⟩
  ·rw[z3g (hat _ z0e)] at hb
   rcases hm2 b hb with q|q
   ·exact .inl (by rw[hfp];exact q)
   ·exact .inr (own b q).2.2.2
 next hjl =>
  split at he
  next hje =>
   cases he
   have hjv:j=vs'.length:=by omega
   rw[zd0 k.nd (by rw[<- hjv];exact hj)]
   have hjn:j<ns.length:=(y0k.mp hj).1
   have hm2:∀b∈a::fpF (fs++[s]) (vs'++[v]),b∈a::fpF fs vs'\/b∈fp0 s v:=fun b hb=>by
    rw[zgx hlen] at hb
    rcases y09.mp hb with rfl|hb
    ·exact .inl y0f
    ·rcases y11.mp hb with q|q
     ·exact .inl (y05 _ q)
     ·exact .inr q
   have hat:∀o':Hp,o' a=some (.ins C dx (ns.zip (vs'++[v])))->z6k o' a c (vs'++[v]):=fun o' e=>by
    refine⟨by rw[k.cn];simp;omega,?_⟩
    rw[k.ck,k.cn]
    exact⟨dx,e⟩
   refine r.mutG (z2z ho) hown h1 (by rw[hfp];exact y0f) (fun kp=>⟨a,vs'++[v],rfl,hat _ z0e,?_,?_,fun b hb=>?_,la⟩) fun b hb=>?_
   ·exact RelF.snoc (hf.keep kp fun b hb=>z0c (na b hb)) (rs.keep kp fun b hb=>z0c fun z=>(own b hb).2.2.1 (z▸y0f))
   ·rw[zgx hlen]
    refine y0r.mpr ⟨fun z=>?_,y1p.mpr ⟨(y0r.mp nd).2,zil s v,fun b hb d hd e=>?_⟩⟩
    ·rcases y11.mp z with q|q
     ·exact (y0r.mp nd).1 q
     ·exact (own a q).2.2.1 y0f
    ·subst e
     exact (own b hd).2.2.1 (y05 _ hb)
   ·rcases hm2 b hb with q|q
    ·exact ow b q
    ·exact (ho0 b).mpr ⟨(own b q).1,(own b q).2.1⟩
   ·rw[z3g (hat _ z0e)] at hb
    rcases hm2 b hb with q|q
    ·exact .inl (by rw[hfp];exact q)
    ·exact .inr (own b q).2.2.2
  next=>cases he
theorem RelE.mutFld {s s':Sl} {a b:Addr} {vs:List V} {o':HO} (r:RelE K F₀ E O F H ε σ) {m:Md} {fs:List Sl} (ho:objF c i ε=some (m,fs)) (h1:σ[i]?=some (some (.ref a))) (ha:z6k H a c vs) (he:setF c i j s' ε=some ε')
  (hs:fs[j]?=some s) (hv:vs[j]?=some (.ref b)) (hi:b∈fp0 s (.ref b)) (hi':fp0 s' (.ref b)=[b]) (rs:Kp K F H F (upd H b o')->zbb K F (upd H b o') s' (.ref b)):Kp K F H F (upd H b o')/\RelE K F₀ E O F (upd H b o') ε' σ:=by
 obtain⟨v,h1',a',vs',ev,ha',hf,nd,ow,la⟩:=r.val i _ (z2z ho)
 rw[h1] at h1'
 cases h1'
 cases ev
 have ev:vs'=vs:=by rw[<- ha.vals,<- ha'.vals]
 subst ev
 have hfp:fpS H (.obj m c fs) (.ref a)=a::fpF fs vs':=z3g ha
 unfold setF at he
 rw[ho] at he
 simp only[y0p] at he
 split at he
 next=>cases he
 next hm =>
 have hjl:j<fs.length:=(y0k.mp hs).1
 rw[if_pos hjl] at he
 cases he
 have hbm:b∈fpF fs vs':=z9s hs hv hi
 have hba:a≠b:=fun z=>(y0r.mp nd).1 (z▸hbm)
 have hat:z6k (upd H b o') a c vs':=ha.keep (z0c hba)
 have eset:vs'.set j (.ref b)=vs':=by
  obtain⟨hl,e⟩:=y0k.mp hv
  rw[<- e]
  exact List.set_getElem_self hl
 have hfe:∀x∈fpF (fs.set j s') vs',x∈fpF fs vs':=fun x hx=>by
  rw[<- eset] at hx
  rcases z7s hx with q|q
  ·exact q
  ·rw[hi'] at q
   rw[y0z.mp q]
   exact hbm
 refine r.mutG (z2z ho) (zli hm) h1 (by rw[hfp];exact y05 _ hbm) (fun kp=>⟨a,vs',rfl,hat,?_,?_,fun x hx=>?_,la⟩) fun x hx=>?_
 ·rw[<- eset]
  exact RelF.set hf kp (fun k u w hk e1 e2 x hx=>z0c fun z=>zgw (y0r.mp nd).2 (Ne.symm hk) hs hv e1 e2 hi (z▸hx)) (rs kp)
 ·refine y0r.mpr ⟨fun z=>(y0r.mp nd).1 (hfe a z),?_⟩
  rw[<- eset]
  refine z7r (y0r.mp nd).2 (by rw[hi'];simp) fun x hx k u w hk e1 e2 q=>?_
  rw[hi'] at hx
  rw[y0z.mp hx] at q
  exact zgw (y0r.mp nd).2 (Ne.symm hk) hs hv e1 e2 hi q
 ·rcases y09.mp hx with rfl|hx
  ·exact ow _ y0f
  ·exact ow x (y05 _ (hfe x hx))
 ·rw[z3g hat] at hx
  rw[hfp]
  rcases y09.mp hx with rfl|hx
  ·exact .inl y0f
  ·exact .inl (y05 _ (hfe x hx))
end
end
section
variable [Tbl]
section
variable {K:y00} {F₀ F O:Addr->Prop} {H:Hp} {E:En} {ε:Ev} {σ:L2.St} {c C i j:Nat} {ns:List Str} {f:Str}
theorem z82 {m:Md} {fs:List Sl} {s:Sl} (k:ClOk K c C ns) (r:RelE K F₀ E O F H ε σ) (h:objF c i ε=some (m,fs)) (hs:fs[j]?=some s) (hj:ns[j]?=some f) :
  ∃a vs dx v,σ[i]?=some (some (.ref a))/\H a=some (.ins C dx (ns.zip vs))/\(ns.zip vs).lookup f=some v/\z6k H a c vs/\vs[j]?=some v/\zbb K F H s v/\(∀b∈fp0 s v,OwnM E O F m b/\b≠a):=by
 obtain⟨a,vs,dx,h1,hx,hl,ha,hf,nd,ow,la⟩:=z8f k r h
 obtain⟨v,hv,rv⟩:=hf.get hs
 refine⟨a,vs,dx,v,h1,hx,zbd k.nd hj hv,ha,hv,rv,fun b hb=>⟨ow b (y05 _ (z9s hs hv hb)),fun z=>(y0r.mp nd).1 (z▸z9s hs hv hb)⟩⟩
theorem za0 (k:ClOk K c C ns) (hj:ns[j]?=some f):zbc K C f:=k.na f (y1y hj)
end
section
variable {X:Cx} {c C i j:Nat} {ns:List Str} {f:Str} {o e a:Expr} {g h:Fe} {pos apos:Pos}
theorem z4s (k:ClOk X.K c C ns) (hn:PE X o (tVar i)) (hj:ns[j]?=some f:=by rfl) (hb:attributeBase o f X.env (eval o X.env)=eval o X.env:=by rfl):PEr X (.Attribute o f pos) (fld c i j) :=
 z0x (z9p hn hb) fun σ H Q ⟨F₀,H₀,O,F,ε,t,r,e,kk⟩=>by
 simp only[fld,y01] at e
 obtain⟨⟨m,fs⟩,ho,e⟩:=e
 split at e
 next t' hs =>
  cases e
  obtain⟨a,vs,dx,v,h1,hx,hl,ha,hv,rv,_⟩:=z82 k r ho hs hj
  exact⟨_,h1,a,C,dx,_,v,rfl,hx,k.cls,za0 k hj,hl,kk v F H (Ext.refl r.dom) (.inl rv)⟩
 next ts hs =>
  cases e
  obtain⟨a,vs,dx,v,h1,hx,hl,ha,hv,⟨b,us,eb,hb,rb⟩,_⟩:=z82 k r ho hs hj
  subst eb
  exact⟨_,h1,a,C,dx,_,_,rfl,hx,k.cls,za0 k hj,hl,kk _ F H (Ext.refl r.dom) (.inr ⟨ts,b,us,rfl,rfl,hb,rb⟩)⟩
 next=>cases e
theorem z49 (k:ClOk X.K c C ns) (hn:PE X o (tVar i)) (hj:ns[j]?=some f:=by rfl) (hb:attributeBase o f X.env (eval o X.env)=eval o X.env:=by rfl):PEv X (.Attribute o f pos) (fldV c i j) :=
 z0x (z9p hn hb) fun σ H Q ⟨F₀,H₀,O,F,ε,t,r,e,kk⟩=>by
 simp only[fldV,y01] at e
 obtain⟨⟨m,fs⟩,ho,e⟩:=e
 split at e
 next t' hs =>
  cases e
  obtain⟨a,vs,dx,v,h1,hx,hl,ha,hv,rv,_⟩:=z82 k r ho hs hj
  exact⟨_,h1,a,C,dx,_,v,rfl,hx,k.cls,za0 k hj,hl,kk v F H (Ext.refl r.dom) rv⟩
 next=>cases e
theorem zb1 {ε:Ev} {kvs:List (D.Key×T)} (e:fldD c i j ε=some kvs):∃m fs,objF c i ε=some (m,fs)/\fs[j]?=some (.dic kvs):=by
 simp only[fldD,y01] at e
 obtain⟨⟨m,fs⟩,ho,e⟩:=e
 split at e
 ·cases e
  exact⟨m,fs,ho,by assumption⟩
 ·cases e
theorem ze7 {ε:Ev} {ts:List T} (e:fldL c i j ε=some ts):∃m fs,objF c i ε=some (m,fs)/\fs[j]?=some (.own ts):=by
 simp only[fldL,y01] at e
 obtain⟨⟨m,fs⟩,ho,e⟩:=e
 split at e
 ·cases e
  exact⟨m,fs,ho,by assumption⟩
 ·cases e
theorem zoe (k:ClOk X.K c C ns) (hu:X.A.units+1<cLine) (hn:PE X o (tVar i)) (ha:PEr X a g) (hj:ns[j]?=some f:=by rfl) (hb:attributeBase o f X.env (eval o X.env)=eval o X.env:=by rfl) (hs:NoSl a:=by intro _ _;rfl) :
  PEv X (.Subscript (.Attribute o f apos) a pos) (fGet c i j g):=z0x (zux hu (z9p hn hb) ha hs) fun σ H Q ⟨F₀,H₀,O,F,ε,t,r,e,kk⟩=>by
 simp only[fGet,y01] at e
 obtain⟨t',et,key,ek,kvs,ed,eg⟩:=e
 obtain⟨m,fs,ho,hs⟩:=zb1 ed
 obtain⟨a,vs,dx,v,h1,hx,hl,ha,hv,⟨b,us,eb,hb,rb⟩,_⟩:=z82 k r ho hs hj
 subst eb
 refine⟨_,h1,a,C,dx,_,_,rfl,hx,k.cls,za0 k hj,hl,F₀,H₀,O,F,ε,t',r,et,fun v F1 H1 x1 q1=>?_⟩
 have hb1:=x1.same.get hb
 have rb1:=RepD.kp (x1.kp (K:=X.K)) rb
 obtain⟨w,hw,rw'⟩:=rb1.get eg
 refine⟨b,w,rfl,?_,kk w F1 H1 x1 rw'⟩
 rw[za2 ek q1,<- hw]
 exact DGet.k hb1
theorem zlp {K:y00} {F₀ F O F1:Addr->Prop} {H H1:Hp} {E:En} {ε:Ev} {σ:L2.St} {b:Addr} (r:RelE K F₀ E O F H ε σ) (x:Ext F H F1 H1) (hn:H b=none) :
  ∀(k:Nat) (u:Sl) (w:V),ε[k]?=some (some u)->σ[k]?=some (some w)->b∉fpS H1 u w:=fun k u w ek hk hb=>by
 obtain⟨w',h1,h2⟩:=r.val k u ek
 rw[hk] at h1
 cases h1
 rw[(h2.extP x).2] at hb
 obtain⟨o,e,_⟩:=h2.at hb
 rw[hn] at e
 cases e
theorem z1w (k:ClOk X.K c C ns) (hn:PE X o (tVar i)) (he:PEv X e g) (hj:ns[j]?=some f:=by rfl) (hs:swapsWith e (some (.Attribute o f apos)) pos.line X.env=pure false:=by rfl) :
  PSt X (.Assign [.Attribute o f apos] e pos) (asgF c i j g):=z2i (zog hn he hs) fun D σ H ⟨F₀,H₀,O,F,ε,o,r,e,kk⟩=>by
 simp only[asgF,y01,y07] at e
 obtain⟨t,et,ε',es,rfl⟩:=e
 refine⟨F₀,H₀,O,F,ε,t,r,et,fun v F1 H1 x1 q1=>?_⟩
 have r1:=r.ext x1
 have es':=es
 unfold setF at es'
 simp only[y01] at es'
 obtain⟨⟨m,fs⟩,ho,_⟩:=es'
 obtain⟨a,vs,dx,h1,hx,hl,ha,_⟩:=z8f k r1 ho
 obtain⟨kp,r2⟩:=r1.setFld (s:=.imm t) (v:=v) k ho h1 ha es q1 (fun b hb=>by simp[fp0] at hb) hx hj
 refine⟨_,h1,a,C,dx,_,rfl,hx,k.cls,za0 k hj,?_,kk σ F1 _ (x1.kp.trans kp) r2⟩
 have:=k.few
 simp only[List.length_zip]
 omega
theorem z8b (k:ClOk X.K c C ns) (hn:PE X o (tVar i)) (he:PEn X e g) (hj:ns[j]?=some f:=by rfl) (hs:swapsWith e (some (.Attribute o f apos)) pos.line X.env=pure false:=by rfl) :
  PSt X (.Assign [.Attribute o f apos] e pos) (z8u c i j g):=z2i (zog hn he hs) fun D σ H ⟨F₀,H₀,O,F,ε,o,r,e,kk⟩=>by
 simp only[z8u,y01] at e
 obtain⟨t,et,e⟩:=e
 split at e
 next ts =>
  simp only[y07] at e
  obtain⟨ε',es,rfl⟩:=e
  refine⟨F₀,H₀,O,F,ε,ts,r,et,fun b us F1 H1 x1 hnew nf hb q1=>?_⟩
  have r1:=r.ext x1
  have es':=es
  unfold setF at es'
  simp only[y01] at es'
  obtain⟨⟨m,fs⟩,ho,_⟩:=es'
  obtain⟨a,vs,dx,h1,hx,hl,ha,_⟩:=z8f k r1 ho
  have hold:=zlp r x1 hnew
  obtain⟨kp,r2⟩:=r1.setFld (s:=.own ts) (v:=.ref b) k ho h1 ha es ⟨b,us,rfl,hb,q1⟩ (fun d hd=>by
   have:d=b:=by simpa [fp0,rf] using hd
   subst this
   exact⟨nf,r.fr _ hnew,hold i _ _ (z2z ho) h1,fun k u w _ ek _ hk=>hold k u w ek hk⟩) hx hj
  refine⟨_,h1,a,C,dx,_,rfl,hx,k.cls,za0 k hj,?_,kk σ F1 _ (x1.kp.trans kp) r2⟩
  have:=k.few
  simp only[List.length_zip]
  omega
 next=>cases e
theorem zjk {x y:T} {z:Int} (h:zgp x y=some z):∃p q,x=.int p/\y=.int q/\z=p+q:=by
 unfold zgp at h
 split at h
 ·cases h
  exact⟨_,_,rfl,rfl,rfl⟩
 ·cases h
theorem zt3 (k:ClOk X.K c C ns) (hn:PE X o (tVar i)) (he:PEv X e g) (hj:ns[j]?=some f:=by rfl):PSt X (.AugAssign (.Attribute o f apos) .Add e pos) (augF c i j g) :=
 z2i (zof hn he ztq) fun D σ H ⟨F₀,H₀,O,F,ε,o,r,e,kk⟩=>by
 simp only[augF,y01,y07] at e
 obtain⟨x,ex,y,ey,z,ez,ε',es,rfl⟩:=e
 simp only[fldV,y01] at ex
 obtain⟨⟨m,fs⟩,ho,ex⟩:=ex
 split at ex
 next t' hs =>
  cases ex
  obtain⟨p,q,rfl,rfl,rfl⟩:=zjk ez
  obtain⟨a,vs,dx,v,h1,hx,hl,ha,hv,rv,_⟩:=z82 k r ho hs hj
  refine⟨_,h1,a,C,dx,_,v,rfl,hx,k.cls,za0 k hj,hl,F₀,H₀,O,F,ε,_,r,ey,fun w F1 H1 x1 q1=>?_⟩
  have r1:=r.ext x1
  have ev:v=.int p:=by simpa [zbb,Rep] using rv
  have ew:w=.int q:=by simpa [Rep] using q1
  obtain⟨a',vs',dx',h1',hx',hl',ha',_⟩:=z8f k r1 ho
  rw[h1] at h1'
  cases h1'
  obtain⟨kp,r2⟩:=r1.setFld (s:=.imm (.int (p+q))) (v:=.int (p+q)) k ho h1 ha' es (by simp[zbb,Rep]) (fun b hb=>by simp[fp0] at hb) hx' hj
  refine⟨p,q,ev,ew,dx',_,hx',?_,kk σ F1 _ (x1.kp.trans kp) r2⟩
  have:=k.few
  simp only[List.length_zip]
  omega
 next=>cases ex
theorem zld (k:ClOk X.K c C ns) (hn:PE X o (tVar i)) {bpos cpos:Pos} (he:PEv X e g) (hj:ns[j]?=some f:=by rfl) (hb:attributeBase o f X.env (eval o X.env)=eval o X.env:=by rfl)
  (hs1:y0a [e] X.env=(false,eval e X.env)::y0a [] X.env:=by rfl)
  (hbase:attributeBase (.Attribute o f apos) "append" X.env (eval (.Attribute o f apos) X.env)=eval (.Attribute o f apos) X.env:=by rfl)
  (hfew:((backTo cpos (y0a [e] X.env)).all (fun x=>!x.1) && (backToKw cpos (keywordEach [] X.env)).all (fun x=>x.1.isSome)
   && decide (([e]:List Expr).length+([]:List Keyword).length+(if ([]:List Keyword).isEmpty then 0 else 1)<30))=true:=by rfl)
  (hline:(bpos.endLine == cpos.line)=true:=by rfl) (hplain:(backTo cpos (y0a [] X.env)).any (·.1)=false:=by rfl)
  (hsw:swapsWith (.Call (.Attribute (.Attribute o f apos) "append" bpos) [e] [] cpos) none pos.line X.env=pure false:=by rfl) :
  PSt X (.Expr (.Call (.Attribute (.Attribute o f apos) "append" bpos) [e] [] cpos) pos) (appF c i j g) :=
 z2i (z9y (zro PySem.F.plainAttrs_list PySem.F.slot_list_append PySem.F.type_list_append zid (z9p hn hb) (z2y he z6o hs1) hbase hfew hline hs1 hplain) hsw) fun D σ H ⟨F₀,H₀,O,F,ε,o,r,e,kk⟩=>by
 simp only[appF,y01] at e
 obtain⟨t,et,ts,el,e⟩:=e
 split at e
 next hz =>
  simp only[y07] at e
  obtain⟨ε',es,rfl⟩:=e
  obtain⟨m,fs,ho,hs⟩:=ze7 el
  obtain⟨a,vs,dx,v,h1,hx,hl,ha,hv,⟨b,us,eb,hb,rb⟩,_⟩:=z82 k r ho hs hj
  subst eb
  refine⟨_,h1,a,C,dx,_,_,rfl,hx,k.cls,za0 k hj,hl,.inl ⟨rfl,_,SqL.of hb⟩,F₀,H₀,O,F,ε,t,r,et,fun v F1 H1 x1 q1=>?_⟩
  have r1:=r.ext x1
  obtain⟨a1,vs1,dx1,v1,h11,hx1,hl1,ha1,hv1,⟨b1,us1,eb1,hb1,rb1⟩,_⟩:=z82 k r1 ho hs hj
  rw[h1] at h11
  cases h11
  have ev:vs1=vs:=by rw[<- ha1.vals,<- (ha.keep ((x1.same.get hx).trans hx.symm)).vals]
  subst ev
  rw[hv] at hv1
  cases hv1
  cases eb1
  obtain⟨kp,r2⟩:=r1.mutFld (s':=.own (ts++[t])) (o':=.lst (us1++[v])) ho h1 ha1 es hs hv (by simp[fp0,rf]) rfl fun kp=>⟨b,_,rfl,z0e,(rb1.kp kp).append (RepL.cons (q1.kp kp) RepL.nil)⟩
  exact⟨b,us1,v,rfl,rfl,hb1,by rw[z9v,<- rb1.length];exact hz,kk σ F1 _ (x1.kp.trans kp) r2⟩
 next=>cases e
theorem zwd (k:ClOk X.K c C ns) (hu:X.A.units+1<cLine) (hn:PE X o (tVar i)) {spos:Pos} (ha:PEr X a h) (he:PEv X e g) (hj:ns[j]?=some f:=by rfl) (hb:attributeBase o f X.env (eval o X.env)=eval o X.env:=by rfl)
  (hs:swapsWith e (some (.Subscript (.Attribute o f apos) a spos)) pos.line X.env=pure false:=by rfl) :
  PSt X (.Assign [.Subscript (.Attribute o f apos) a spos] e pos) (zi1 c i j h g):=z2i (zuo hu (z9p hn hb) ha he hs) fun D σ H ⟨F₀,H₀,O,F,ε,o,r,e,kk⟩=>by
 simp only[zi1,y01] at e
 obtain⟨v,ev,t,et,key,ek,kvs,ed,e⟩:=e
 split at e
 next hz =>
  simp only[y07] at e
  obtain⟨ε',es,rfl⟩:=e
  obtain⟨m,fs,ho,hs⟩:=zb1 ed
  refine⟨F₀,H₀,O,F,ε,v,r,ev,fun vv F1 H1 x1 q1=>?_⟩
  have r1:=r.ext x1
  obtain⟨a,vs,dx,w,h1,hx,hl,ha,hv,⟨b,us,eb,hb,rb⟩,_⟩:=z82 k r1 ho hs hj
  subst eb
  refine⟨_,h1,a,C,dx,_,_,rfl,hx,k.cls,za0 k hj,hl,F₀,H₀,O,F1,ε,t,r1,et,fun vt F2 H2 x2 q2=>?_⟩
  have r2:=r1.ext x2
  have ha2:z6k H2 a c vs:=ha.keep ((x2.same.get hx).trans hx.symm)
  have rb2:=RepD.kp (x2.kp (K:=X.K)) rb
  obtain⟨kp,r3⟩:=r2.mutFld (s':=.dic (putD kvs key v)) (o':=.dK (putK us key vv)) ho h1 ha2 es hs hv (by simp[fp0,rf]) rfl fun kp=>⟨b,_,rfl,z0e,RepD.put (RepD.kp kp rb2) ((q1.ext x2).kp kp)⟩
  refine⟨b,_,rfl,?_,kk σ F2 _ ((x1.trans x2).kp.trans kp) r3⟩
  rw[za2 ek q2]
  exact DPut.k (x2.same.get hb) (by rw[z9v,<- rb.length];exact hz)
 next=>cases e
theorem zuc (k:ClOk X.K c C ns) (hu:X.A.units+1<cLine) (hn:PE X o (tVar i)) {spos:Pos} (ha:PEr X a h) (he:PEv X e g) (hj:ns[j]?=some f:=by rfl) (hb:attributeBase o f X.env (eval o X.env)=eval o X.env:=by rfl)
  (hag:∀ov iv new,augStore a ov iv new=(do holding [new,ov,iv] (setItem ov iv new);release [new,ov,iv] [];pure .next):=by intros;rfl) :
  PSt X (.AugAssign (.Subscript (.Attribute o f apos) a spos) .Add e pos) (zjh c i j h g):=z2i (zup hu (z9p hn hb) ha he ztq hag) fun D σ H ⟨F₀,H₀,O,F,ε,o,r,e,kk⟩=>by
 simp only[zjh,y01] at e
 obtain⟨t,et,key,ek,kvs,ed,x,eg,y,ey,z,ez,e⟩:=e
 split at e
 next hz =>
  simp only[y07] at e
  obtain⟨ε',es,rfl⟩:=e
  obtain⟨p,q,rfl,rfl,rfl⟩:=zjk ez
  obtain⟨m,fs,ho,hs⟩:=zb1 ed
  obtain⟨a,vs,dx,w,h1,hx,hl,ha,hv,⟨b,us,eb,hb,rb⟩,_⟩:=z82 k r ho hs hj
  subst eb
  refine⟨_,h1,a,C,dx,_,_,rfl,hx,k.cls,za0 k hj,hl,F₀,H₀,O,F,ε,t,r,et,fun vt F1 H1 x1 q1=>?_⟩
  have r1:=r.ext x1
  have rb1:=RepD.kp (x1.kp (K:=X.K)) rb
  have hb1:=x1.same.get hb
  obtain⟨w,hw,rw'⟩:=rb1.get eg
  have ew:w=.int p:=by simpa [Rep] using rw'
  subst ew
  refine⟨b,_,rfl,by rw[za2 ek q1,<- hw];exact DGet.k hb1,F₀,H₀,O,F1,ε,_,r1,ey,fun vv F2 H2 x2 q2=>?_⟩
  have ev:vv=.int q:=by simpa [Rep] using q2
  subst ev
  refine⟨p,q,rfl,rfl,?_⟩
  have r2:=r1.ext x2
  have x12:=x1.trans x2
  have ha2:z6k H2 a c vs:=ha.keep ((x12.same.get hx).trans hx.symm)
  have rb2:=RepD.kp (x12.kp (K:=X.K)) rb
  obtain⟨kp,r3⟩:=r2.mutFld (s':=.dic (putD kvs key (.int (p+q)))) (o':=.dK (putK us key (.int (p+q)))) ho h1 ha2 es hs hv (by simp[fp0,rf]) rfl fun kp=>⟨b,_,rfl,z0e,RepD.put (RepD.kp kp rb2) (by simp[Rep])⟩
  refine⟨_,?_,kk σ F2 _ (x12.kp.trans kp) r3⟩
  rw[za2 ek q1]
  exact DPut.k (x12.same.get hb) (by rw[z9v,<- rb.length];exact hz)
 next=>cases e
end
end
section
variable [Tbl]
section
variable {X:Cx} {e:Expr} {es:List Expr} {as:List Ag} {f:Fe} {i:Nat}
end
noncomputable def zw3 (K:y00) (F:Addr->Prop) (H:Hp) (ss:List Sl) (vs:List V):Prop:=Paired (fun s v=>s.isOwn=false/\z1z K ⟨H,0⟩ (fun a=>H a=none) F H s v) ss vs
noncomputable def spR (K:y00) (n:Nat) (d:List Sl->Option T):Sp:=fun vs H Q _=>vs.length=n/\∃F ss t,Dom F H/\zw3 K F H ss vs/\d ss=some t/\∀v F' H',Ext F H F' H'->Rep K F' H' t v->Q v H'
section
variable {K:y00} {F F' F₀ O:Addr->Prop} {H H':Hp} {E E':En}
theorem Paired.get {α β:Type} {R:α->β->Prop}:∀{xs:List α} {ys:List β} {i:Nat} {x:α},Paired R xs ys->xs[i]?=some x->∃y,ys[i]?=some y/\R x y
 | _,_,i,x,.nil,e=>by simp at e
 | _,_,0,x,.cons r _,e=>by
  simp at e
  subst e
  exact⟨_,rfl,r⟩
 | _,_,i+1,x,.cons _ t,e=>by
  obtain⟨y,h1,h2⟩:=Paired.get (i:=i) (x:=x) t (by simpa using e)
  exact⟨y,by simpa using h1,h2⟩
theorem z86 {ss:List Sl} {n i:Nat} {s:Sl} (h:(z5x n ss)[i]?=some (some s)):ss[i]?=some s:=by
 unfold z5x at h
 by_cases hi:i<ss.length
 ·rw[y1q (by simpa using hi),y15,y0v hi] at h
  rw[y0v hi]
  simpa using h
 ·rw[y1n (by simpa using hi),List.getElem?_replicate] at h
  split at h <;> cases h
theorem zhl {vs:List V} {n i:Nat} {v:V} (h:vs[i]?=some v):(vs.map some++y0g n none)[i]?=some (some v):=by
 have hi:=(y0k.mp h).1
 rw[y1q (by simpa using hi),y15,h]
 rfl
theorem zue {m:Md} {c:Nat} {fs:List Sl} {v:V} (r:z1z K E O F H (.obj m c fs) v) (E':En) (O':Addr->Prop) (he:∀b∈fpS H (.obj m c fs) v,E'.h b≠none):z1z K E' O' F H (.obj .ro c fs) v:=by
 have r':=r
 obtain⟨a,vs,rfl,ha,hf,nd,ow,la⟩:=r
 rw[z3g ha] at he
 exact⟨a,vs,rfl,ha,hf,nd,fun b hb=>⟨(ow b hb).1,he b hb⟩,fun z=>by cases z⟩
theorem zk2 {ss:List Sl} {vs:List V} (dom:Dom F H) (q:zw3 K F H ss vs) (n:Nat):RelE K F ⟨H,0⟩ (fun a=>H a=none) F H (z5x n ss) (vs.map some++y0g (n - vs.length) none):=by
 have hl:ss.length=vs.length:=Paired.length q
 refine⟨by simp[z5x,hl],fun i s e=>?_,fun i j s u v w hij e1 e2 o1=>?_,Ext.refl dom,fun _ h=>h,fun _ h=>h⟩
 ·obtain⟨v,hv,_,rv⟩:=Paired.get q (z86 e)
  exact⟨v,zhl hv,rv⟩
 ·obtain⟨_,_,z,_⟩:=Paired.get q (z86 e1)
  rw[z] at o1
  cases o1
theorem zo8:∀{ts:List T} {vs:List V},RepL K F H ts vs->zw3 K F H (ts.map .imm) vs
 | [],vs,h=>by
  simp only[RepL] at h
  subst h
  exact .nil
 | t::ts,vs,h=>by
  simp only[RepL] at h
  obtain⟨v,z,rfl,q,h⟩:=h
  exact .cons ⟨rfl,q⟩ (zo8 h)
end
section
variable {P:y0q} {w:World} {K:y00} {mg:Str->Option Value} {base:Heap}
theorem zvq {x qual:Str} {st:Stmt} {f:Addr} {fd:y0b} {N ps:List Str} {k:Nat} {b:Fs} (F:Fun K x qual st f fd) (S:FnScope N ps (z02 st))
  (hb:∀(cdv:Value) (A:Around) (outer:List Env) (s:y04) (H:Hp) (E:XK),Room k (A.deeper (envOfC qual (z02 st) s.heap.objs.size f cdv)) ->
   PBt (cxOf CX0 P w K mg base N qual (z02 st) f cdv A outer s H E).nox (z2v st) b) :
  FnOk P w K mg base CX0 (k+1) f fd ps (spR K ps.length (runR b N.length)):=by
 refine F.ok S (fun vs H Q E h=>h.1) fun cdv A outer s H vs Q E hr h=>⟨_,hb cdv A outer s H E hr,?_⟩
 obtain⟨hl,F,ss,t,dom,q,e,kq⟩:=h
 simp only[runR,y01] at e
 obtain⟨o,eo,e⟩:=e
 refine⟨F,⟨H,0⟩,fun a=>H a=none,F,_,o,?_,eo,?_⟩
 ·unfold L2.start
  exact zk2 dom q N.length
 ·cases o with
  | rt t' =>
   cases e
   exact fun v F' H' x q=>kq v F' H' x q
  | nx ε' =>
   cases e
   exact fun σ' F' H' _ r=>kq _ F' H' r.ent (by simp[Rep])
  | bk _=>cases e
  | ct _=>cases e
  | rtm _ _=>cases e
  | rto _=>cases e
structure MtRd (P:y0q) (w:World) (K:y00) (mg:Str->Option Value) (base:Heap) (C:Addr) (m:Str) (k n:Nat) (d:List Sl->Option T):Prop where
 ex:∃fa fd ps,FnOk P w K mg base CX0 k fa fd ps (spR K n d)/\Meth K C m fa/\z5h K fd ps []
theorem MtRd.mono {C:Addr} {m:Str} {k n j:Nat} {d:List Sl->Option T} (c:MtRd P w K mg base C m j n d) (h:j<=k):MtRd P w K mg base C m k n d:=by
 obtain⟨fa,fd,ps,F,r⟩:=c.ex
 exact⟨fa,fd,ps,F.mono h,r⟩
theorem z9q {C:Addr} {m qual:Str} {st:Stmt} {f:Addr} {fd:y0b} {N ps:List Str} {k:Nat} {b:Fs} (F:Fun K m qual st f fd) (S:FnScope N ps (z02 st)) (bd:z5h K fd ps []) (me:Meth K C m f)
  (hb:∀(cdv:Value) (A:Around) (outer:List Env) (s:y04) (H:Hp) (E:XK),Room k (A.deeper (envOfC qual (z02 st) s.heap.objs.size f cdv)) ->
   PBt (cxOf CX0 P w K mg base N qual (z02 st) f cdv A outer s H E).nox (z2v st) b):MtRd P w K mg base C m (k+1) ps.length (runR b N.length):=⟨f,fd,ps,zvq F S hb,me,bd⟩
end
theorem z9e:∀{gs:List Fe} {ε:Ev} {us:List T},args gs ε=some us->us.length=gs.length
 | [],ε,us,e=>by
  cases e
  rfl
 | g::gs,ε,us,e=>by
  simp only[args,y01,y07] at e
  obtain⟨t,_,vs,ev,rfl⟩:=e
  simp[z9e ev]
section
variable {X:Cx} {k n c C i:Nat} {ns:List Str} {d:List Sl->Option T} {x m:Str} {p pos apos:Pos} {o e:Expr} {es:List Expr} {as:List Ag} {fs:List Fe}
theorem z9x (kc:ClOk X.K c C ns) (Dc:MtRd X.prog X.w X.K X.mg X.base C m k n d) (hr:Room k X.A) (hn:PE X o (tVar i)) (ha:PAv X (e::es) fs) {pl:Sem Bool} (hm:m∉ns:=by decide +kernel) (hl:fs.length+1=n:=by rfl)
  (hst:y0a (e::es) X.env=(false,eval e X.env)::y0a es X.env:=by rfl) (hpl:(backTo pos (y0a es X.env)).any (·.1)=false:=by rfl)
  (ht:eval (.Call (.Attribute o m apos) (e::es) [] pos) X.env=(do
   let ov <- eval o X.env
   standAt apos.atName
   let (f,first) <- holding [ov] (getMethod ov m pl)
   callWith pos f first (backTo pos (y0a (e::es) X.env)) (backToKw pos (keywordEach [] X.env))):=by rfl):PEv X (.Call (.Attribute o m apos) (e::es) [] pos) (z21 c d i fs):=by
 obtain⟨fa,fd,ps,F,me,b⟩:=Dc.ex
 refine z0x (zoj hn kc.cls me F hr b .nil zgl ha hst hpl ht) fun σ H Q ⟨F₀,E,O,F,ε,t,r,e,k⟩=>?_
 simp only[z21,y01] at e
 obtain⟨⟨md,os⟩,ho,ts,et,ed⟩:=e
 obtain⟨a,vs,dx,h1,hx,_⟩:=z8f kc r ho
 refine⟨_,h1,a,dx,_,rfl,hx,z27 hm,F₀,E,O,F,ε,ts,r,et,fun ws F1 H1 x1 q=>⟨?_,F1,_,t,x1.dom,?_,ed,fun v F' H' x2 q2=>k v F' H' (x1.trans x2) q2⟩⟩
 ·rw[y23,y0w,<- q.length,z9e et,hl]
 ·rw[y23]
  have r1:=r.ext x1
  obtain⟨v',h1',rs⟩:=r1.val i _ (z2z ho)
  rw[h1] at h1'
  cases h1'
  refine .cons ⟨rfl,zue rs _ _ fun b hb=>?_⟩ (zo8 q)
  obtain⟨o,e,_⟩:=rs.at hb
  show H1 b≠none
  rw[e]
  exact fun z=>by cases z
theorem z3u (kc:ClOk X.K c C ns) (Dc:MtRd X.prog X.w X.K X.mg X.base C m k n d) (hr:Room k X.A) (hn:PE X o (tVar i)) {pl:Sem Bool} (hm:m∉ns:=by decide +kernel) (hl:1=n:=by rfl)
  (ht:eval (.Call (.Attribute o m apos) [] [] pos) X.env=(do
   let ov <- eval o X.env
   standAt apos.atName
   let (f,first) <- holding [ov] (getMethod ov m pl)
   callWith pos f first (backTo pos (y0a [] X.env)) (backToKw pos (keywordEach [] X.env))):=by rfl):PEv X (.Call (.Attribute o m apos) [] [] pos) (z21 c d i []):=by
 obtain⟨fa,fd,ps,F,me,b⟩:=Dc.ex
 refine z0x (zgk hn kc.cls me F hr b .nil zgl ht) fun σ H Q ⟨F₀,E,O,F,ε,t,r,e,k⟩=>?_
 simp only[z21,y01] at e
 obtain⟨⟨md,os⟩,ho,ts,et,ed⟩:=e
 cases et
 obtain⟨a,vs,dx,h1,hx,_⟩:=z8f kc r ho
 refine⟨_,h1,a,dx,_,rfl,hx,z27 hm,⟨?_,F,_,t,r.dom,?_,ed,fun v F' H' x2 q2=>k v F' H' x2 q2⟩⟩
 ·simp[hl]
 ·obtain⟨v',h1',rs⟩:=r.val i _ (z2z ho)
  rw[h1] at h1'
  cases h1'
  refine .cons ⟨rfl,zue rs _ _ fun b hb=>?_⟩ .nil
  obtain⟨o,e,_⟩:=rs.at hb
  show H b≠none
  rw[e]
  exact fun z=>by cases z
end
end
section
variable [Tbl]
open Classical in
noncomputable def z65 (H:Hp) (P:List Addr) (a:Addr):En:=⟨fun b=>if b∈P then none else H b,a⟩
section
variable {K:y00} {F F' F₀ O:Addr->Prop} {H H':Hp} {E:En} {P:List Addr} {a b:Addr} {o:HO} {ε:Ev} {σ:L2.St} {c i:Nat} {m:Md} {fs fs':List Sl}
theorem zcu (h:b∈P):(z65 H P a).h b=none:=if_pos h
theorem z64 (h:b∉P):(z65 H P a).h b=H b:=if_neg h
theorem z95 (h:(z65 H P a).h b=none):b∈P\/H b=none:=by
 by_cases z:b∈P
 ·exact .inl z
 ·rw[z64 z] at h
  exact .inr h
theorem zmx (h:(z65 H P a).h b=some o):b∉P/\H b=some o:=by
 by_cases z:b∈P
 ·rw[zcu z] at h
  cases h
 ·exact⟨z,by rw[z64 z] at h;exact h⟩
theorem zs0 (d:Dom F H):Ext F (z65 H P a).h F H:=⟨fun _ _ q=>.inl (zmx q).2,fun _ h=>h,fun _ h=>.inl h,d⟩
theorem zvd {v:V} (r:z1z K E O F H (.obj m c fs) (.ref a)):z1z K (z65 H (fpS H (.obj m c fs) (.ref a)) a) (fun b=>(z65 H (fpS H (.obj m c fs) (.ref a)) a).h b=none) F H (.obj .lent c fs) (.ref a):=by
 obtain⟨a',vs,e,ha,hf,nd,ow,la⟩:=r
 cases e
 rw[z3g ha]
 exact⟨a,vs,rfl,ha,hf,nd,fun b hb=>⟨(ow b hb).1,zcu hb⟩,fun _=>rfl⟩
theorem RelE.back (r:RelE K F₀ E O F H ε σ) (e:ε[i]?=some (some (.obj m c fs))) (hm:m≠.ro) (h1:σ[i]?=some (some (.ref a))) (hP:P=fpS H (.obj m c fs) (.ref a)) (x:Ext F (z65 H P a).h F' H')
  (rs:z1z K (z65 H P a) (fun b=>(z65 H P a).h b=none) F' H' (.obj .lent c fs') (.ref a)):Kp K F H F' H'/\RelE K F₀ E O F' H' (ε.set i (some (.obj m c fs'))) σ:=by
 obtain⟨v,h1',r0⟩:=r.val i _ e
 rw[h1] at h1'
 cases h1'
 have hown:(Sl.obj m c fs).isOwn=true:=zli hm
 have inP:∀b∈P,(∃o,H b=some o/\HoM o)/\¬F b/\O b:=fun b hb=>by
  rw[hP] at hb
  exact⟨r0.at hb,(r0.held hb).1,(r0.held hb).2.1 hown⟩
 have stay:∀b o,b∉P->H b=some o->(∀ps,o≠.tbl ps)->H' b=some o:=fun b o hb e n=>x.same.get (by rw[z64 hb];exact e) n
 have kp:Kp K F H F' H':=by
  refine⟨fun b xs q=>?_,fun b xs f q=>⟨x.sub b f,?_⟩⟩
  ·rcases q with q|q
   ·refine .inl ?_
    have nb:b∉P:=fun z=>by
     obtain⟨⟨o,eo,ho⟩,_⟩:=inP b z
     rcases q with q|⟨_,q⟩ <;> (rw[eo] at q;cases q;exact ho.cases (fun _ z=>by cases z) (fun _ z=>by cases z) (fun _ _ _ z=>by cases z))
    rcases q with q|⟨u,q⟩
    ·exact .inl (stay b _ nb q fun _ z=>by cases z)
    ·exact .inr ⟨u,stay b _ nb q fun _ z=>by cases z⟩
   ·exact .inr q
  ·have nb:b∉P:=fun z=>(inP b z).2.1 f
   rcases q with q|⟨u,q⟩
   ·exact .inl (stay b _ nb q fun _ z=>by cases z)
   ·exact .inr ⟨u,stay b _ nb q fun _ z=>by cases z⟩
 have newF:∀b,F' b->F b\/b∈P\/H b=none:=fun b f=>by
  rcases x.new b f with z|z
  ·exact .inl z
  ·exact .inr (z95 z)
 have keep:∀(j:Nat) (u:Sl) (w:V),i≠j->ε[j]?=some (some u)->σ[j]?=some (some w)->z1z K E O F H u w->(∀b∈fpS H u w,b∉P)/\z1z K E O F' H' u w/\fpS H' u w=fpS H u w:=by
  intro j u w hij ej hj ru
  have nP:∀b∈fpS H u w,b∉P:=fun b hb z=>by
   cases ou:u.isOwn with
   | true=>exact r.ne i j _ u _ w hij e ej hown ou h1 hj b (hP▸z) hb
   | false=>exact (ru.held hb).2.2 ou (r.o0 b (inP b z).2.2)
  refine⟨nP,ru.keep kp (fun b hb=>?_) (fun b hb f=>?_) fun _ _ o=>o⟩
  ·obtain⟨o,eo,ho⟩:=ru.at hb
   rw[eo]
   exact stay b o (nP b hb) eo fun ps z=>by subst z;exact ho.cases (fun _ z=>by cases z) (fun _ z=>by cases z) (fun _ _ _ z=>by cases z)
  ·rcases newF b f with z|z|z
   ·exact z
   ·exact absurd z (nP b hb)
   ·obtain⟨o,eo,_⟩:=ru.at hb
    rw[z] at eo
    cases eo
 obtain⟨a',vs,ea,ha,hf,nd,ow,_⟩:=rs
 cases ea
 have hO:∀b∈a::fpF fs' vs,¬F' b/\(b∈P\/H b=none):=fun b hb=>by
  obtain⟨n,q⟩:=ow b hb
  exact⟨n,z95 q⟩
 have hown':(Sl.obj m c fs').isOwn=true:=zli hm
 have la0:m=.lent->a=E.la:=by
  obtain⟨_,_,e0,_,_,_,_,la⟩:=r0
  cases e0
  exact la
 have own2:∀b,¬F' b/\O b->OwnM E O F' m b:=fun b h=>by
  cases m with
  | ro=>exact absurd rfl hm
  | own=>exact h
  | lent=>exact h
 have rs':z1z K E O F' H' (.obj m c fs') (.ref a):=⟨a,vs,rfl,ha,hf,nd,fun b hb=>own2 b ⟨(hO b hb).1,by
  rcases (hO b hb).2 with z|z
  ·exact (inP b z).2.2
  ·exact r.fr b z⟩,la0⟩
 have hfp:fpS H' (.obj m c fs') (.ref a)=a::fpF fs' vs:=z3g ha
 have apart:∀(j:Nat) (u:Sl) (w:V),i≠j->ε[j]?=some (some u)->σ[j]?=some (some w)->z1z K E O F H u w->∀b∈fpS H' (.obj m c fs') (.ref a),b∉fpS H u w:=fun j u w hij ej hj ru b hb hb'=>by
  rw[hfp] at hb
  rcases (hO b hb).2 with z|z
  ·exact (keep j u w hij ej hj ru).1 b hb' z
  ·obtain⟨o,eo,_⟩:=ru.at hb'
   rw[z] at eo
   cases eo
 refine⟨kp,⟨by simp[r.len],fun j u e'=>?_,fun j k u w vu vw hjk e1 e2 o1 o2 q1 q2=>?_,⟨fun b o q=>?_,fun b f=>x.sub b (r.ent.sub b f),fun b f=>?_,x.dom⟩,r.o0,fun b e'=>?_⟩⟩
 ·rcases z5d e' with ⟨rfl,e'',hl⟩|⟨ne,e''⟩
  ·cases e''
   exact⟨_,h1,rs'⟩
  ·obtain⟨w,h2,ru⟩:=r.val j u e''
   exact⟨w,h2,(keep j u w ne e'' h2 ru).2.1⟩
 ·rcases z5d e1 with ⟨rfl,e',hl⟩|⟨ne1,e1'⟩
  ·rcases z5d e2 with ⟨rfl,_,_⟩|⟨ne2,e2'⟩
   ·exact absurd rfl hjk
   ·cases e'
    rw[h1] at q1
    cases q1
    obtain⟨w',h2,ru⟩:=r.val k w e2'
    rw[q2] at h2
    cases h2
    rw[(keep k w vw ne2 e2' q2 ru).2.2]
    exact apart k w vw ne2 e2' q2 ru
  ·obtain⟨v1,h2,r1⟩:=r.val j u e1'
   rw[q1] at h2
   cases h2
   rw[(keep j u vu ne1 e1' q1 r1).2.2]
   rcases z5d e2 with ⟨rfl,e',hl⟩|⟨ne2,e2'⟩
   ·cases e'
    rw[h1] at q2
    cases q2
    intro b hb hb'
    exact apart j u vu ne1 e1' q1 r1 b hb' hb
   ·obtain⟨w',h3,r2⟩:=r.val k w e2'
    rw[q2] at h3
    cases h3
    rw[(keep k w vw ne2 e2' q2 r2).2.2]
    exact r.ne j k u w vu vw hjk e1' e2' o1 o2 q1 q2
 ·have nb:b∉P:=fun z=>by
   rw[r.o0 b (inP b z).2.2] at q
   cases q
  rcases r.ent.same b o q with z|⟨ps,ps',e1,z⟩
  ·exact x.same b o (by rw[z64 nb];exact z)
  ·rcases x.same b _ (by rw[z64 nb];exact z) with z2|⟨_,ps2,_,z2⟩
   ·exact .inr ⟨ps,ps',e1,z2⟩
   ·exact .inr ⟨ps,ps2,e1,z2⟩
 ·rcases newF b f with z|z|z
  ·exact r.ent.new b z
  ·exact .inr (r.o0 b (inP b z).2.2)
  ·exact .inr (r.o0 b (r.fr b z))
 ·rcases z95 (x.same.none e') with z|z
  ·exact (inP b z).2.2
  ·exact r.fr b z
end
noncomputable def spM (K:y00) (n c p:Nat) (d:List Sl->Option (T×List Sl)):Sp:=fun vs H Q _=>vs.length=n/\∃(F:Addr->Prop) (ss:List Sl) (a:Addr) (P:List Addr) (fs:List Sl) (r:T×List Sl),Dom F H/\vs[p]?=some (.ref a)/\ss[p]?=some (.obj .lent c fs) /\
 Paired (fun s v=>z1z K (z65 H P a) (fun b=>(z65 H P a).h b=none) F H s v) ss vs/\(∀q s,q≠p->ss[q]?=some s->s.isOwn=false)/\d ss=some r /\
 ∀v F' H',Ext F (z65 H P a).h F' H'->Rep K F' H' r.1 v->z1z K (z65 H P a) (fun b=>(z65 H P a).h b=none) F' H' (.obj .lent c r.2) (.ref a)->Q v H'
section
variable {P:y0q} {w:World} {K:y00} {mg:Str->Option Value} {base:Heap}
theorem zk7 {c p:Nat} {ε:Ev} {fs:List Sl} (h:z57 c p ε=some fs):ε[p]?=some (some (.obj .lent c fs)):=by
 unfold z57 at h
 split at h
 next c' fs' e =>
  split at h
  next hc =>
   cases h
   rw[e,hc]
  next=>cases h
 next=>cases h
theorem zkc {x qual:Str} {st:Stmt} {f:Addr} {fd:y0b} {N ps:List Str} {k c p:Nat} {b:Fs} (F:Fun K x qual st f fd) (S:FnScope N ps (z02 st))
  (hb:∀(cdv:Value) (A:Around) (outer:List Env) (s:y04) (H:Hp) (E:XK),Room k (A.deeper (envOfC qual (z02 st) s.heap.objs.size f cdv)) ->
   PBt (cxOf CX0 P w K mg base N qual (z02 st) f cdv A outer s H E).nox (z2v st) b) :
  FnOk P w K mg base CX0 (k+1) f fd ps (spM K ps.length c p (runM c p b N.length)):=by
 refine F.ok S (fun vs H Q E h=>h.1) fun cdv A outer s H vs Q E hr h=>⟨_,hb cdv A outer s H E hr,?_⟩
 obtain⟨hl,F,ss,a,P',fs,r,dom,hv,hs,q,ho,e,kq⟩:=h
 simp only[runM,y01] at e
 obtain⟨o,eo,e⟩:=e
 have hlen:ss.length=vs.length:=Paired.length q
 refine⟨F,z65 H P' a,fun b=>(z65 H P' a).h b=none,F,_,o,?_,eo,?_⟩
 ·unfold L2.start
  refine⟨by simp[z5x,hlen],fun i s e=>?_,fun i j s u v w hij e1 e2 o1 o2=>?_,zs0 dom,fun _ h=>h,fun b hb=>?_⟩
  ·obtain⟨v,hv,rv⟩:=Paired.get q (z86 e)
   exact⟨v,zhl hv,rv⟩
  ·by_cases hi:i=p
   ·subst hi
    rw[ho j u (Ne.symm hij) (z86 e2)] at o2
    cases o2
   ·rw[ho i s hi (z86 e1)] at o1
    cases o1
  ·by_cases z:b∈P'
   ·exact zcu z
   ·exact (z64 z).trans hb
 ·have fin:∀{ε':Ev} {σ':L2.St} {F':Addr->Prop} {H':Hp} {fs':List Sl},RelE K F (z65 H P' a) (fun b=>(z65 H P' a).h b=none) F' H' ε' σ'->z57 c p ε'=some fs'->z1z K (z65 H P' a) (fun b=>(z65 H P' a).h b=none) F' H' (.obj .lent c fs') (.ref a):=fun r' el=>by
   obtain⟨v',_,rs⟩:=r'.val p _ (zk7 el)
   have rs':=rs
   obtain⟨a',_,rfl,_,_,_,_,la⟩:=rs
   have:a'=a:=la rfl
   subst this
   exact rs'
  cases o with
  | rt t'=>cases e
  | nx ε' =>
   simp only[y07] at e
   obtain⟨fs',el,rfl⟩:=e
   exact fun σ' F' H' _ r'=>kq _ F' H' r'.ent (by simp[Rep]) (fin r' el)
  | bk _=>cases e
  | ct _=>cases e
  | rtm t ε' =>
   simp only[y07] at e
   obtain⟨fs',el,rfl⟩:=e
   exact fun v σ' F' H' r' rv=>kq v F' H' r'.ent rv (fin r' el)
  | rto _=>cases e
structure MtMd (P:y0q) (w:World) (K:y00) (mg:Str->Option Value) (base:Heap) (C:Addr) (c:Nat) (m:Str) (k n:Nat) (d:List Sl->Option (T×List Sl)):Prop where
 ex:∃fa fd ps,FnOk P w K mg base CX0 k fa fd ps (spM K n c 0 d)/\Meth K C m fa/\z5h K fd ps []
theorem MtMd.mono {C:Addr} {c:Nat} {m:Str} {k n j:Nat} {d:List Sl->Option (T×List Sl)} (h:MtMd P w K mg base C c m j n d) (hj:j<=k):MtMd P w K mg base C c m k n d:=by
 obtain⟨fa,fd,ps,F,r⟩:=h.ex
 exact⟨fa,fd,ps,F.mono hj,r⟩
theorem z30 {C:Addr} {m qual:Str} {st:Stmt} {f:Addr} {fd:y0b} {N ps:List Str} {k c:Nat} {b:Fs} (F:Fun K m qual st f fd) (S:FnScope N ps (z02 st)) (bd:z5h K fd ps []) (me:Meth K C m f)
  (hb:∀(cdv:Value) (A:Around) (outer:List Env) (s:y04) (H:Hp) (E:XK),Room k (A.deeper (envOfC qual (z02 st) s.heap.objs.size f cdv)) ->
   PBt (cxOf CX0 P w K mg base N qual (z02 st) f cdv A outer s H E).nox (z2v st) b):MtMd P w K mg base C c m (k+1) ps.length (runM c 0 b N.length):=⟨f,fd,ps,zkc F S hb,me,bd⟩
structure ClM (P:y0q) (w:World) (K:y00) (mg:Str->Option Value) (base:Heap) (x:Str) (c p k n:Nat) (d:List Sl->Option (T×List Sl)):Prop where
 ex:∃fa fd ps,FnOk P w K mg base CX0 k fa fd ps (spM K n c p d)/\mg x=some (.ref fa)/\y08 K (.ref fa)=true/\z5h K fd ps []
theorem ClM.mono {x:Str} {c p k n j:Nat} {d:List Sl->Option (T×List Sl)} (h:ClM P w K mg base x c p j n d) (hj:j<=k):ClM P w K mg base x c p k n d:=by
 obtain⟨fa,fd,ps,F,r⟩:=h.ex
 exact⟨fa,fd,ps,F.mono hj,r⟩
theorem zxy {x:Str} {st:Stmt} {f:Addr} {fd:y0b} {N ps:List Str} {k c p:Nat} {b:Fs} (F:Fun K x x st f fd) (S:FnScope N ps (z02 st)) (bd:z5h K fd ps []) (m:mg x=some (.ref f))
  (hb:∀(cdv:Value) (A:Around) (outer:List Env) (s:y04) (H:Hp) (E:XK),Room k (A.deeper (envOfC x (z02 st) s.heap.objs.size f cdv)) ->
   PBt (cxOf CX0 P w K mg base N x (z02 st) f cdv A outer s H E).nox (z2v st) b):ClM P w K mg base x c p (k+1) ps.length (runM c p b N.length):=⟨f,fd,ps,zkc F S hb,m,F.kp,bd⟩
end
noncomputable def tX (K:y00) (f:Fx):TE:=fun σ H Q=>∃F₀ E O F ε t ε',RelE K F₀ E O F H ε σ/\f ε=some (t,ε')/\∀v F' H',Kp K F H F' H'->RelE K F₀ E O F' H' ε' σ->Rep K F' H' t v->Q v H'
abbrev PEx (X:Cx) (e:Expr) (f:Fx):Prop:=PE X e (tX X.K f)
section
variable {X:Cx} {k n c C i:Nat} {ns:List Str} {d:List Sl->Option (T×List Sl)} {x m:Str} {p pos apos:Pos} {o e:Expr} {es:List Expr} {fs gs:List Fe} {fx:Fx}
theorem zk1 {K:y00} {E:En} {O F:Addr->Prop} {H:Hp}:∀{ts:List T} {vs:List V},RepL K F H ts vs->Paired (fun s v=>z1z K E O F H s v) (ts.map .imm) vs
 | [],vs,h=>by
  simp only[RepL] at h
  subst h
  exact .nil
 | t::ts,vs,h=>by
  simp only[RepL] at h
  obtain⟨v,z,rfl,q,h⟩:=h
  exact .cons q (zk1 h)
theorem zpg {ts:List T} {q:Nat} {s:Sl} (h:(ts.map Sl.imm)[q]?=some s):s.isOwn=false:=by
 rw[y15] at h
 cases e:ts[q]? with
 | none=>rw[e] at h;cases h
 | some t=>rw[e] at h;cases h;rfl
theorem zgr {σ:L2.St} {H H1:Hp} {F₀ O F F1:Addr->Prop} {E:En} {ε:Ev} {md:Md} {os:List Sl} {a:Addr} {Q:VK} {ws:List V} {ts:List T} {r:T×List Sl} (rE:RelE X.K F₀ E O F H ε σ) (ho:objF c i ε=some (md,os)) (hm:md≠.ro) (h1:σ[i]?=some (some (.ref a)))
  (x1:Ext F H F1 H1) (q:RepL X.K F1 H1 ts ws) (ed:d (.obj .lent c os::ts.map .imm)=some r) (hl:ts.length+1=n)
  (kk:∀v F' H',Kp X.K F H F' H'->RelE X.K F₀ E O F' H' (ε.set i (some (.obj md c r.2))) σ->Rep X.K F' H' r.1 v->Q v H'):spM X.K n c 0 d (.ref a::ws) H1 Q E0:=by
 have r1:=rE.ext x1
 obtain⟨v',h1',rs⟩:=r1.val i _ (z2z ho)
 rw[h1] at h1'
 cases h1'
 refine⟨by simp[<- q.length,hl],F1,_,a,fpS H1 (.obj md c os) (.ref a),os,r,x1.dom,rfl,rfl,.cons (zvd (v:=.ref a) rs) (zk1 q),fun j s hj hs=>?_,ed,fun v F' H' x2 rv rs2=>?_⟩
 ·cases j with
  | zero=>exact absurd rfl hj
  | succ j=>exact zpg (q:=j) (by simpa using hs)
 ·obtain⟨kp,r2⟩:=r1.back (z2z ho) hm h1 rfl x2 rs2
  exact kk v F' H' (x1.kp.trans kp) r2 rv
theorem z0k (kc:ClOk X.K c C ns) (Dc:MtMd X.prog X.w X.K X.mg X.base C c m k n d) (hr:Room k X.A) (hn:PE X o (tVar i)) (ha:PAv X (e::es) fs) {pl:Sem Bool} (hm:m∉ns:=by decide +kernel) (hl:fs.length+1=n:=by rfl)
  (hst:y0a (e::es) X.env=(false,eval e X.env)::y0a es X.env:=by rfl) (hpl:(backTo pos (y0a es X.env)).any (·.1)=false:=by rfl)
  (ht:eval (.Call (.Attribute o m apos) (e::es) [] pos) X.env=(do
   let ov <- eval o X.env
   standAt apos.atName
   let (f,first) <- holding [ov] (getMethod ov m pl)
   callWith pos f first (backTo pos (y0a (e::es) X.env)) (backToKw pos (keywordEach [] X.env))):=by rfl):PEx X (.Call (.Attribute o m apos) (e::es) [] pos) (z0s c d i fs):=by
 obtain⟨fa,fd,ps,F,me,b⟩:=Dc.ex
 refine z0x (zoj hn kc.cls me F hr b .nil zgl ha hst hpl ht) fun σ H Q ⟨F₀,E,O,F,ε,t,ε',r,e,kk⟩=>?_
 simp only[z0s,y01] at e
 obtain⟨⟨md,os⟩,ho,e⟩:=e
 split at e
 next=>cases e
 next hmd =>
  simp only[y01,y07] at e
  obtain⟨ts,et,r',ed,e⟩:=e
  cases e
  obtain⟨a,vs,dx,h1,hx,_⟩:=z8f kc r ho
  refine⟨_,h1,a,dx,_,rfl,hx,z27 hm,F₀,E,O,F,ε,ts,r,et,fun ws F1 H1 x1 q=>?_⟩
  show spM X.K n c 0 d (V.ref a::(ws++[])) H1 Q E0
  rw[y23]
  exact zgr r ho hmd h1 x1 q ed (by rw[z9e et,hl]) kk
theorem z6l (kc:ClOk X.K c C ns) (Dc:MtMd X.prog X.w X.K X.mg X.base C c m k n d) (hr:Room k X.A) (hn:PE X o (tVar i)) {pl:Sem Bool} (hm:m∉ns:=by decide +kernel) (hl:1=n:=by rfl)
  (ht:eval (.Call (.Attribute o m apos) [] [] pos) X.env=(do
   let ov <- eval o X.env
   standAt apos.atName
   let (f,first) <- holding [ov] (getMethod ov m pl)
   callWith pos f first (backTo pos (y0a [] X.env)) (backToKw pos (keywordEach [] X.env))):=by rfl):PEx X (.Call (.Attribute o m apos) [] [] pos) (z0s c d i []):=by
 obtain⟨fa,fd,ps,F,me,b⟩:=Dc.ex
 refine z0x (zgk hn kc.cls me F hr b .nil zgl ht) fun σ H Q ⟨F₀,E,O,F,ε,t,ε',r,e,kk⟩=>?_
 simp only[z0s,y01] at e
 obtain⟨⟨md,os⟩,ho,e⟩:=e
 split at e
 next=>cases e
 next hmd =>
  simp only[y01,y07] at e
  obtain⟨ts,et,r',ed,e⟩:=e
  cases e
  cases et
  obtain⟨a,vs,dx,h1,hx,_⟩:=z8f kc r ho
  refine⟨_,h1,a,dx,_,rfl,hx,z27 hm,?_⟩
  exact zgr r ho hmd h1 (Ext.refl r.dom) RepL.nil ed (by simpa using hl) kk
theorem z2g (h:PEx X e fx) (hsw:swapsWith e none pos.line X.env=pure false:=by rfl):PSt X (.Expr e pos) (exX fx):=z2i (z9y h hsw) fun D σ H ⟨F₀,E,O,F,ε,o,r,e,k⟩=>by
 simp only[exX,y07] at e
 obtain⟨⟨t,ε'⟩,et,rfl⟩:=e
 exact⟨F₀,E,O,F,ε,t,ε',r,et,fun v F' H' kp r' _=>k σ F' H' kp r'⟩
theorem zf2 (h:PEx X e fx):PSt X (.Return (some e) pos) (rtnX fx):=z2i (zi2 h) fun D σ H ⟨F₀,E,O,F,ε,o,r,e,k⟩=>by
 simp only[rtnX,y07] at e
 obtain⟨⟨t,ε'⟩,et,rfl⟩:=e
 exact⟨F₀,E,O,F,ε,t,ε',r,et,fun v F' H' kp r' rv=>k v σ F' H' r' rv⟩
theorem zwc {f:Fe} (h:PEv X e f):PSt X (.Return (some e) pos) (rtnM f):=z2i (zi2 h) fun D σ H ⟨F₀,E,O,F,ε,o,r,e,k⟩=>by
 simp only[rtnM,y07] at e
 obtain⟨t,et,rfl⟩:=e
 exact⟨F₀,E,O,F,ε,t,r,et,fun v F' H' x rv=>k v σ F' H' (r.ext x) rv⟩
theorem zjy:PSt X (.Return none pos) zgg:=z2i zun fun D σ H ⟨F₀,E,O,F,ε,o,r,e,k⟩=>by
 cases e
 exact k .non σ F H r (by simp[Rep])
theorem zo2 {st:Stmt}:PSt X st zia:=fun pins s σ H D I ⟨F₀,E,O,F,ε,o,r,e,k⟩=>by cases e
theorem zwf (j:Nat) {y:Str} {pos':Pos} (hN:X.N.Nodup) (h:PEx X e fx) (hi:X.N[j]?=some y:=by rfl) (hx:Loc X.env.scope y:=by first|exact Or.inl rfl|exact Or.inr rfl)
  (hs:swapsWith e (some (.Name y pos')) pos.line X.env=pure false:=by rfl) (hf:X.fn y=true\/X.env.scope.names.lookup y=some .local:=by first|exact .inl rfl|exact .inr rfl) :
  PSt X (.Assign [.Name y pos'] e pos) (asgX j fx):=z2i (zlh hN hi hx h hs hf) fun D σ H ⟨F₀,E,O,F,ε,o,r,e,k⟩=>by
 simp only[asgX,y07] at e
 obtain⟨⟨t,ε'⟩,et,rfl⟩:=e
 exact⟨F₀,E,O,F,ε,t,ε',r,et,fun v F' H' kp r' rv=>k _ F' H' kp (r'.set j rv)⟩
end
end
section
variable [Tbl]
noncomputable def tO (K:y00) (f:Fo):TE:=fun σ H Q=>∃F₀ E O F ε s,RelE K F₀ E O F H ε σ/\f ε=some s/\∀a F' H',Ext F H F' H'->z1z K E O F' H' s (.ref a)->(∀b∈fpS H' s (.ref a),H b=none)->Q (.ref a) H'
abbrev PEo (X:Cx) (e:Expr) (f:Fo):Prop:=PE X e (tO X.K f)
noncomputable def spO (K:y00) (n:Nat) (d:List T->Option Sl):Sp:=fun vs H Q _=>vs.length=n/\∃F ts s,Dom F H/\RepL K F H ts vs/\d ts=some s/\∀a F' H',Ext F H F' H'->z1z K ⟨H,0⟩ (fun b=>H b=none) F' H' s (.ref a)->Q (.ref a) H'
theorem zi5 {s t:Sl} (h:ownS s=some t):∃c os,s=.obj .own c os/\t=.obj .own c os:=by
 unfold ownS at h
 split at h
 ·cases h
  exact⟨_,_,rfl,rfl⟩
 ·cases h
section
variable {P:y0q} {w:World} {K:y00} {mg:Str->Option Value} {base:Heap}
theorem zvr {x qual:Str} {st:Stmt} {f:Addr} {fd:y0b} {N ps:List Str} {k:Nat} {b:Fs} (F:Fun K x qual st f fd) (S:FnScope N ps (z02 st))
  (hb:∀(cdv:Value) (A:Around) (outer:List Env) (s:y04) (H:Hp) (E:XK),Room k (A.deeper (envOfC qual (z02 st) s.heap.objs.size f cdv)) ->
   PBt (cxOf CX0 P w K mg base N qual (z02 st) f cdv A outer s H E).nox (z2v st) b) :
  FnOk P w K mg base CX0 (k+1) f fd ps (spO K ps.length (runO b N.length)):=by
 refine F.ok S (fun vs H Q E h=>h.1) fun cdv A outer s H vs Q E hr h=>⟨_,hb cdv A outer s H E hr,?_⟩
 obtain⟨hl,F,ts,t,dom,q,e,kq⟩:=h
 simp only[runO,y01] at e
 obtain⟨o,eo,e⟩:=e
 refine⟨F,⟨H,0⟩,fun a=>H a=none,F,_,o,?_,eo,?_⟩
 ·have:=zf5 (N:=N) dom q (N.length - ts.length)
  unfold L2.start
  rw[q.length] at this ⊢
  exact this
 ·cases o with
  | rto s =>
   obtain⟨c,os,rfl,rfl⟩:=zi5 e
   exact fun a F' H' x rs=>kq a F' H' x rs
  | nx ε'=>cases e
  | bk _=>cases e
  | ct _=>cases e
  | rtm _ _=>cases e
  | rt _=>cases e
structure ClO (P:y0q) (w:World) (K:y00) (mg:Str->Option Value) (base:Heap) (x:Str) (k n:Nat) (d:List T->Option Sl):Prop where
 ex:∃fa fd ps,FnOk P w K mg base CX0 k fa fd ps (spO K n d)/\mg x=some (.ref fa)/\y08 K (.ref fa)=true/\z5h K fd ps []
theorem ClO.mono {x:Str} {k n j:Nat} {d:List T->Option Sl} (c:ClO P w K mg base x j n d) (h:j<=k):ClO P w K mg base x k n d:=by
 obtain⟨fa,fd,ps,F,r⟩:=c.ex
 exact⟨fa,fd,ps,F.mono h,r⟩
theorem zxx {x:Str} {st:Stmt} {f:Addr} {fd:y0b} {N ps:List Str} {k:Nat} {b:Fs} (F:Fun K x x st f fd) (S:FnScope N ps (z02 st)) (bd:z5h K fd ps []) (m:mg x=some (.ref f))
  (hb:∀(cdv:Value) (A:Around) (outer:List Env) (s:y04) (H:Hp) (E:XK),Room k (A.deeper (envOfC x (z02 st) s.heap.objs.size f cdv)) ->
   PBt (cxOf CX0 P w K mg base N x (z02 st) f cdv A outer s H E).nox (z2v st) b):ClO P w K mg base x (k+1) ps.length (runO b N.length):=⟨f,fd,ps,zvr F S hb,m,F.kp,bd⟩
structure ClNew (P:y0q) (w:World) (K:y00) (mg:Str->Option Value) (base:Heap) (x:Str) (C:Addr) (c k n:Nat) (d:List Sl->Option (T×List Sl)):Prop where
 ex:∃fa fd ps,FnOk P w K mg base CX0 k fa fd ps (spM K n c 0 d)/\Mk K C fa/\mg x=some (.ref C)/\z5h K fd ps []
theorem ClNew.mono {x:Str} {C:Addr} {c k n j:Nat} {d:List Sl->Option (T×List Sl)} (h:ClNew P w K mg base x C c j n d) (hj:j<=k):ClNew P w K mg base x C c k n d:=by
 obtain⟨fa,fd,ps,F,r⟩:=h.ex
 exact⟨fa,fd,ps,F.mono hj,r⟩
theorem ztl {x:Str} {C:Addr} {qual:Str} {st:Stmt} {f:Addr} {fd:y0b} {N ps:List Str} {k c:Nat} {b:Fs} (F:Fun K "__init__" qual st f fd) (S:FnScope N ps (z02 st)) (bd:z5h K fd ps []) (me:Mk K C f) (m:mg x=some (.ref C))
  (hb:∀(cdv:Value) (A:Around) (outer:List Env) (s:y04) (H:Hp) (E:XK),Room k (A.deeper (envOfC qual (z02 st) s.heap.objs.size f cdv)) ->
   PBt (cxOf CX0 P w K mg base N qual (z02 st) f cdv A outer s H E).nox (z2v st) b):ClNew P w K mg base x C c (k+1) ps.length (runM c 0 b N.length):=⟨f,fd,ps,zkc F S hb,me,m,bd⟩
end
section
variable {X:Cx} {k n c C i j:Nat} {ns:List Str} {x m f:Str} {p pos apos:Pos} {o e:Expr} {es:List Expr} {fs:List Fe} {fo:Fo}
theorem zo9 {K:y00} {E E':En} {O O' F':Addr->Prop} {H':Hp} {m:Md} {c:Nat} {os:List Sl} {a:Addr} (rs:z1z K E' O' F' H' (.obj m c os) (.ref a)) (hm:m≠.ro) (h:∀b,O' b->O b):z1z K E O F' H' (.obj .own c os) (.ref a):=by
 obtain⟨a',vs,e,ha,hf,nd,ow,_⟩:=rs
 refine⟨a',vs,e,ha,hf,nd,fun b hb=>⟨(ow b hb).1,h b ?_⟩,fun z=>by cases z⟩
 have q:=(ow b hb).2
 cases m with
 | ro=>exact absurd rfl hm
 | own=>exact q
 | lent=>exact q
theorem zxg {d:List Sl->Option (T×List Sl)} (kc:ClOk X.K c C ns) (Dc:ClNew X.prog X.w X.K X.mg X.base x C c k n d) (hr:Room (k+1) X.A) (ha:PAv X (e::es) fs) (hg:Gl X x:=by rfl) (hl:fs.length+1=n:=by rfl) (hdb:(x == ("__debug__":Str))=false:=by decide)
  (he:y0a (e::es) X.env=(false,eval e X.env)::y0a es X.env:=by rfl) (hpl:(backTo pos (y0a es X.env)).any (·.1)=false:=by rfl):PEo X (.Call (.Name x p) (e::es) [] pos) (newO c d fs):=by
 obtain⟨fa,fd,ps,F,M,hm,b⟩:=Dc.ex
 refine z0x (zuw M F hr hg hm b .nil zgl ha hdb he hpl) fun σ H Q ⟨F₀,E,O,F,ε,s,r,e,kk⟩=>?_
 simp only[newO,y01] at e
 obtain⟨ts,et,r',ed,e⟩:=e
 refine⟨F₀,E,O,F,ε,ts,r,et,fun ws F1 H1 x1 q=>fun y dx hy hdx hne=>?_⟩
 rw[y23]
 have hy2:upd (upd H1 dx (.own y)) y (.ins C dx []) y=some (.ins C dx []):=z0e
 have hat:∀H2:Hp,H2 y=some (.ins C dx [])->z6k H2 y c []:=fun H2 e=>by
  refine⟨y29 _,?_⟩
  rw[kc.ck]
  exact⟨dx,by simpa using e⟩
 have nH:∀b,b≠y->b≠dx->upd (upd H1 dx (.own y)) y (.ins C dx []) b=H1 b:=fun b h1 h2=>by rw[z0c h1,z0c h2]
 have xa:Ext F1 H1 F1 (upd H1 dx (.own y)):=Ext.laid x1.dom hdx
 have hy1:upd H1 dx (.own y) y=none:=by rw[z0c (Ne.symm hne)];exact hy
 have xb:Ext F1 H1 F1 (upd (upd H1 dx (.own y)) y (.ins C dx [])):=xa.trans (Ext.laid xa.dom hy1)
 have nF:¬F1 y:=fun z=>by
  obtain⟨o,e⟩:=x1.dom y z
  rw[hy] at e
  cases e
 split at e
 next hr1 =>
  cases e
  refine⟨by simp[<- q.length,z9e et,hl],F1,.obj .lent c []::ts.map .imm,y,[y],[],r',xb.dom,rfl,rfl,.cons ⟨y,[],rfl,hat _ hy2,rfl,by simp[fpF],fun b hb=>?_,fun _=>rfl⟩ (zk1 (q.ext xb)),fun j s hj hs=>?_,ed,fun v F' H' x2 rv rs=>?_⟩
  ·have:b=y:=by simpa [fpF] using hb
   subst this
   exact⟨nF,zcu (by simp)⟩
  ·cases j with
   | zero=>exact absurd rfl hj
   | succ j=>exact zpg (q:=j) (by simpa using hs)
  ·rw[hr1] at rv
   refine⟨by simpa [Rep] using rv,?_⟩
   have none0:∀b,(z65 (upd (upd H1 dx (.own y)) y (.ins C dx [])) [y] y).h b=none->H b=none:=fun b hb=>by
    rcases z95 hb with z|z
    ·have:b=y:=by simpa using z
     rw[this]
     exact x1.same.none hy
    ·exact x1.same.none (xb.same.none z)
   have xe:Ext F H F' H':=by
    refine⟨fun b o q=>?_,fun b z=>x2.sub b (x1.sub b z),fun b z=>?_,x2.dom⟩
    ·have step:∀u,H1 b=some u->(z65 (upd (upd H1 dx (.own y)) y (.ins C dx [])) [y] y).h b=some u:=fun u e1=>by
      have n1:b≠y:=fun z=>by rw[z,hy] at e1;cases e1
      have n2:b≠dx:=fun z=>by rw[z,hdx] at e1;cases e1
      rw[z64 (by simpa using n1),nH b n1 n2]
      exact e1
     rcases x1.same b o q with z|⟨ps,ps',e1,z⟩
     ·exact x2.same b o (step _ z)
     ·rcases x2.same b _ (step _ z) with z2|⟨_,ps2,_,z2⟩
      ·exact .inr ⟨ps,ps',e1,z2⟩
      ·exact .inr ⟨ps,ps2,e1,z2⟩
    ·rcases x2.new b z with z|z
     ·exact x1.new b z
     ·exact .inr (none0 b z)
   refine kk y F' H' xe (zo9 rs (by decide) fun b hb=>r.fr b (none0 b hb)) fun b hb=>?_
   obtain⟨a',vs,ea,ha',hf,nd,ow,_⟩:=rs
   cases ea
   rw[z3g ha'] at hb
   exact none0 b (ow b hb).2
 next=>cases e
theorem zlj {d:List T->Option Sl} (Dc:ClO X.prog X.w X.K X.mg X.base x k n d) (hd:∀ts s,d ts=some s->∃c os,s=.obj .own c os) (hr:Room k X.A) (ha:PAv X (e::es) fs) (hg:Gl X x:=by rfl) (hl:fs.length=n:=by rfl) (hdb:(x == ("__debug__":Str))=false:=by decide)
  (he:y0a (e::es) X.env=(false,eval e X.env)::y0a es X.env:=by rfl) (hpl:(backTo pos (y0a es X.env)).any (·.1)=false:=by rfl):PEo X (.Call (.Name x p) (e::es) [] pos) (zer d fs):=by
 obtain⟨fa,fd,ps,F,hm,kp,b⟩:=Dc.ex
 refine z0x (zk3 F hr hg hm kp b .nil zgl ha hdb he hpl) fun σ H Q ⟨F₀,E,O,F,ε,s,r,e,kk⟩=>?_
 simp only[zer,y01] at e
 obtain⟨ts,et,ed⟩:=e
 obtain⟨c,os,rfl⟩:=hd _ _ ed
 refine⟨F₀,E,O,F,ε,ts,r,et,fun ws F1 H1 x1 q=>⟨?_,F1,ts,_,x1.dom,by simpa using q,ed,fun a F' H' x2 rs=>?_⟩⟩
 ·rw[y23,<- q.length,z9e et,hl]
 ·refine kk a F' H' (x1.trans x2) (zo9 rs (by decide) fun b hb=>r.fr b (x1.same.none hb)) fun b hb=>?_
  obtain⟨a',vs,ea,ha',hf,nd,ow,_⟩:=rs
  cases ea
  rw[z3g ha'] at hb
  exact x1.same.none (ow b hb).2
theorem zr9 {b:Fs} {n:Nat} {ts:List T} {s:Sl} (h:runO b n ts=some s):∃c os,s=.obj .own c os:=by
 simp only[runO,y01] at h
 obtain⟨o,eo,e⟩:=h
 cases o with
 | rto s' =>
  obtain⟨c,os,_,rfl⟩:=zi5 e
  exact⟨c,os,rfl⟩
 | _=>cases e
theorem zt4 (j:Nat) {y:Str} {pos':Pos} (hN:X.N.Nodup) (h:PEo X e fo) (hi:X.N[j]?=some y:=by rfl) (hx:Loc X.env.scope y:=by first|exact Or.inl rfl|exact Or.inr rfl)
  (hs:swapsWith e (some (.Name y pos')) pos.line X.env=pure false:=by rfl) (hf:X.fn y=true\/X.env.scope.names.lookup y=some .local:=by first|exact .inl rfl|exact .inr rfl) :
  PSt X (.Assign [.Name y pos'] e pos) (asgO j fo):=z2i (zlh hN hi hx h hs hf) fun D σ H ⟨F₀,E,O,F,ε,o,r,e,k⟩=>by
 simp only[asgO,y07] at e
 obtain⟨s,es,rfl⟩:=e
 exact⟨F₀,E,O,F,ε,s,r,es,fun a F' H' x rs hn=>k _ F' H' x.kp (r.setNew j x rs hn)⟩
theorem zwb (hn:PE X e (tVar i)):PSt X (.Return (some e) pos) (rtnO i):=z2i (zi2 hn) fun D σ H ⟨F₀,E,O,F,ε,o,r,e,k⟩=>by
 unfold rtnO at e
 split at e
 next c fs he =>
  cases e
  obtain⟨v,h1,rs⟩:=r.val i _ he
  have rs':=rs
  obtain⟨a,vs,rfl,_⟩:=rs
  exact⟨_,h1,k a F H r.ent rs'⟩
 next=>cases e
theorem zce {s:Sl} {os:List Sl} (h:z8i c s=some os):s=.obj .own c os:=by
 unfold z8i at h
 split at h
 next c' fs =>
  split at h
  next hc =>
   cases h
   rw[hc]
  next=>cases h
 next=>cases h
theorem ztm {K:y00} {E:En} {O F:Addr->Prop} {H:Hp} {os:List Sl} {a:Addr} (kc:ClOk K c C ns) (rs:z1z K E O F H (.obj .own c os) (.ref a)):∃dx vs,H a=some (.ins C dx (ns.zip vs))/\z6k H a c vs/\RelF K F H os vs:=by
 obtain⟨a',vs,ea,ha,hf,_⟩:=rs
 cases ea
 obtain⟨hl,hx⟩:=id ha
 rw[kc.ck] at hx
 obtain⟨dx,hx⟩:=hx
 rw[kc.cn] at hx
 exact⟨dx,vs,hx,ha,hf⟩
theorem zwn {d:List Sl->Option T} (kc:ClOk X.K c C ns) (Dc:MtRd X.prog X.w X.K X.mg X.base C m k n d) (hr:Room k X.A) (ho:PEo X o fo) {pl:Sem Bool} (hm:m∉ns:=by decide +kernel) (hl:1=n:=by rfl)
  (ht:eval (.Call (.Attribute o m apos) [] [] pos) X.env=(do
   let ov <- eval o X.env
   standAt apos.atName
   let (f,first) <- holding [ov] (getMethod ov m pl)
   callWith pos f first (backTo pos (y0a [] X.env)) (backToKw pos (keywordEach [] X.env))):=by rfl):PEv X (.Call (.Attribute o m apos) [] [] pos) (ofO c d fo []):=by
 obtain⟨fa,fd,ps,F,me,b⟩:=Dc.ex
 refine z0x (zgk ho kc.cls me F hr b .nil zgl ht) fun σ H Q ⟨F₀,E,O,F,ε,t,r,e,k⟩=>?_
 simp only[ofO,y01] at e
 obtain⟨s,es,os,eo,ts,et,ed⟩:=e
 cases et
 have:=zce eo
 subst this
 refine⟨F₀,E,O,F,ε,_,r,es,fun a F1 H1 x1 rs hn=>?_⟩
 obtain⟨dx,vs,hx,ha,hf⟩:=ztm kc rs
 refine⟨a,dx,_,rfl,hx,z27 hm,⟨by simp[hl],F1,_,t,x1.dom,.cons ⟨rfl,zue rs _ _ fun b hb=>?_⟩ .nil,ed,fun v F' H' x2 q2=>k v F' H' (x1.trans x2) q2⟩⟩
 obtain⟨o,e,_⟩:=rs.at hb
 show H1 b≠none
 rw[e]
 exact fun z=>by cases z
theorem zi0 (kc:ClOk X.K c C ns) (ho:PEo X o fo) (hj:ns[j]?=some f:=by rfl) (hb:attributeBase o f X.env (eval o X.env)=eval o X.env:=by rfl):PEv X (.Attribute o f pos) (zbn c j fo) :=
 z0x (z9p ho hb) fun σ H Q ⟨F₀,E,O,F,ε,t,r,e,k⟩=>by
 simp only[zbn,y01] at e
 obtain⟨s,es,os,eo,e⟩:=e
 have:=zce eo
 subst this
 split at e
 next ts hs =>
  cases e
  refine⟨F₀,E,O,F,ε,_,r,es,fun a F1 H1 x1 rs hn=>?_⟩
  obtain⟨dx,vs,hx,ha,hf⟩:=ztm kc rs
  obtain⟨v,hv,b,us,rfl,hb,rb⟩:=hf.get hs
  have hbn:H b=none:=hn b (by rw[z3g ha];exact y05 _ (z9s hs hv (by simp[fp0,rf])))
  refine⟨a,C,dx,_,_,rfl,hx,kc.cls,za0 kc hj,zbd kc.nd hj hv,?_⟩
  have y:Ext F H (fun d=>F1 d\/d=b) H1:=⟨x1.same,fun d z=>.inl (x1.sub d z),fun d z=>by
   rcases z with z|rfl
   ·exact x1.new d z
   ·exact .inr hbn,⟨fun d z=>by
   rcases z with z|rfl
   ·exact x1.dom d z
   ·exact⟨_,hb⟩,x1.dom.tgs⟩⟩
  refine k _ _ H1 y ?_
  simp only[Rep]
  exact⟨b,us,rfl,.inr rfl,.inl hb,rb.keep (fun _ _ z=>z) fun _ _ z w=>⟨.inl z,w⟩⟩
 next=>cases e
theorem zyo {ct a b:Expr} {ft:Ft} {g h:Fe} (hc:PTt X ct ft) (ha:PEv X a g) (hb:PEv X b h):PEv X (.IfExp ct a b pos) (ifE ft g h):=z0x (zrn hc ha hb) fun σ H Q ⟨F₀,E,O,F,ε,t,r,e,k⟩=>by
 simp only[ifE,y01] at e
 obtain⟨v,ev,e⟩:=e
 refine⟨F₀,E,O,F,ε,v,r,ev,fun F1 H1 x1=>?_⟩
 cases v with
 | true=>exact iteT ⟨F₀,E,O,F1,ε,t,r.ext x1,by simpa using e,fun v F' H' x2 q=>k v F' H' (x1.trans x2) q⟩
 | false=>exact iteF ⟨F₀,E,O,F1,ε,t,r.ext x1,by simpa using e,fun v F' H' x2 q=>k v F' H' (x1.trans x2) q⟩
def z85 (xs:List Str):List T:=xs.map .str
theorem q_gT {xs:List Str} {a:Addr} (hm:X.mg x=some (.ref a)) (hk:∃(o:Obj) (its:Array Value) (n:Nat),X.K.lookup a=some o/\o.cls=.type "tuple"/\o.data=.seq its n/\its.size<=y0j/\Vals (xs.map V.str) its.toList) (hg:Gl X x:=by rfl) (hd:(x == ("__debug__":Str))=false:=by decide):PEv X (.Name x pos) (cst (.tuple (z85 xs))) :=
 zmj (v:=.ref a) (zok (v:=.ref a) hg hm rfl hd) fun F H=>by
  simp only[Rep]
  refine⟨a,xs.map V.str,rfl,.inr hk,?_⟩
  unfold z85
  clear hm hk hg hd
  induction xs with
  | nil=>exact RepL.nil
  | cons y ys ih=>exact RepL.cons (by simp[Rep]) ih
end
end
section
variable [Tbl]
open AutoSeq1 (wpAny_loadPart')
section
variable {X:Cx} {a e o:Expr} {f g:Fe} {p pos apos:Pos}
theorem zoc (hm:X.mg "list"=none) (ha:PEr X a f) (hg:Gl X "list":=by rfl) (he:y0a [a] X.env=(false,eval a X.env)::y0a [] X.env:=by rfl) (hpl:(backTo pos (y0a [] X.env)).any (·.1)=false:=by rfl) :
  PEn X (.Call (.Name "list" p) [a] [] pos) (op1 zf9 f):=z0x (zau zj4 hg hm (by decide +kernel) (z2y ha z6o he) (he:=he) (hpl:=hpl)) fun σ H Q ⟨F₀,E,O,F,ε,ts,r,e,k⟩=>by
 simp only[op1,y01] at e
 obtain⟨t,et,e⟩:=e
 refine⟨F₀,E,O,F,ε,t,r,et,fun v F1 H1 x1 q1=>?_⟩
 have fin:∀(ws:List V),RepL X.K F1 H1 ts ws->∀l,H1 l=none->Q (.ref l) (upd H1 l (.lst ws)):=fun ws hr l hl=>by
  have x2:=Ext.laid (o:=.lst ws) x1.dom hl
  refine k l ws F1 _ (x1.trans x2) (x1.same.none hl) (fun z=>?_) z0e (hr.ext x2)
  obtain⟨o,e⟩:=x1.dom l z
  rw[hl] at e
  cases e
 unfold zf9 at e
 split at e
 ·cases e
  obtain⟨l0,ws,rfl,hl,hr⟩:=q1.tup
  exact⟨l0,ws,rfl,.inr hl,fin ws hr⟩
 ·cases e
  obtain⟨l0,ws,rfl,hl,hr⟩:=q1.lst
  exact⟨l0,ws,rfl,.inl (.inl hl),fin ws hr⟩
 ·cases e
theorem zoa (hc:X.calm=true) (hm:X.mg "sorted"=none) (ha:PEr X a f) (hg:Gl X "sorted":=by rfl) (he:y0a [a] X.env=(false,eval a X.env)::y0a [] X.env:=by rfl) (hpl:(backTo pos (y0a [] X.env)).any (·.1)=false:=by rfl) :
  PEn X (.Call (.Name "sorted" p) [a] [] pos) (op1 zcs f):=z0x (zcr (zj3 hc) hg hm (by decide +kernel) (z2y ha z6o he) (he:=he) (hpl:=hpl)) fun σ H Q ⟨F₀,E,O,F,ε,ts,r,e,k⟩=>by
 simp only[op1,y01] at e
 obtain⟨t,et,e⟩:=e
 refine⟨F₀,E,O,F,ε,t,r,et,fun v F1 H1 x1 q1=>?_⟩
 unfold zcs at e
 split at e
 next xs =>
  split at e
  next hz =>
   simp only[y07] at e
   obtain⟨ss,hss,e⟩:=e
   cases e
   have hxs:=zd5 hss
   subst hxs
   obtain⟨l0,ws,rfl,hl,hr⟩:=q1.lst
   refine⟨l0,ss.map .inr,(z87 ss).map V.str,rfl,?_,by simpa using hz,.inr ⟨ss,rfl,rfl⟩,fun l hl1=>?_⟩
   ·have e1:ws=(ss.map (Sum.inr:Str->L2.Key)).map kV:=by rw[zbj hr];simp[kV,y17]
    rw[<- e1]
    exact .inl hl
   ·have x2:=Ext.laid (o:=.lst ((z87 ss).map V.str)) x1.dom hl1
    refine k l _ F1 _ (x1.trans x2) (x1.same.none hl1) (fun z=>?_) z0e (zdc _)
    obtain⟨o,e⟩:=x1.dom l z
    rw[hl1] at e
    cases e
  next=>cases e
 next=>cases e
end
theorem ziq:entryFor table "list.remove.loop"=some Builtin.«list.remove.loop»:=entryFor_of_tree (by kernel_rfl)
theorem zas:plainId "list.remove.loop"=true:=by decide +kernel
theorem zug (l:Addr) (its:Array Value) (n:Nat) (x:Str) (t:Tok) (j:Nat) (hz:its.size<=y0j) (hj:j<its.size) (hit:∃u,its[j]=.str x u) (k:Nat) :
  ∀i:Nat,j - i=k->i<=j->(∀(m:Nat) (hm:m<its.size),i<=m->m<j->∃y u,its[m]=.str y u/\y≠x)->Meets (Builtin.«list.remove.loop» ⟨[.ref l,.str x t,rawInt i],[]⟩)
   (fun _ R s=>s.heap.get? l=some { cls:=.type "list",data:=.seq its n }/\R (.ok (.ret .none)) { s with heap:=s.heap.update l (Obj.mapSeq fun a=>a.eraseIdxIfInBounds j) }):=by
 induction k with
 | zero =>
  intro i hk hij _ prog w A R s h
  obtain⟨hp,g,d,tk,os⟩:=s
  obtain⟨hl,h⟩:=h
  obtain rfl:i=j:=by omega
  obtain⟨u,hu⟩:=hit
  wp_walk using wpAny_loadPart' hl
  rw[show its[((i:Nat):Int).toNat]?=some (.str x u) by simp[hj,hu]]
  refine y02 (wpAny_eqBool_str ?_)
  rw[decide_eq_true rfl]
  wp_walk using wpAny_loadPart' hl
  rw[show ((Obj.mapSeq (fun z=>z.eraseIdxIfInBounds ((i:Nat):Int).toNat) { cls:=.type "list",data:=.seq its n }:Obj).data.pastItsLine)=none from
   pastItsLine_seq (by
    have:(its.eraseIdxIfInBounds ((i:Nat):Int).toNat).size<=its.size:=by
     unfold Array.eraseIdxIfInBounds
     split
     ·rw[Array.size_eraseIdx]
      omega
     ·omega
    show (its.eraseIdxIfInBounds ((i:Nat):Int).toNat).size<=_
    omega)]
  wp_walk
  exact h
 | succ k ih =>
  intro i hk hij hno prog w A R s h
  obtain⟨hp,g,d,tk,os⟩:=s
  obtain⟨hl,h⟩:=h
  have hlt:i<its.size:=by omega
  obtain⟨y,u,hy,ne⟩:=hno i hlt (y0o _) (by omega)
  wp_walk using wpAny_loadPart' hl
  rw[show its[((i:Nat):Int).toNat]?=some (.str y u) by simp[hlt,hy]]
  refine y02 (wpAny_eqBool_str ?_)
  rw[decide_eq_false ne]
  wp_walk
  rw[show ((i:Int)+1)=((i+1:Nat):Int) by push_cast;rfl]
  exact⟨plainId_quiet zas _,codeAny_builtin ziq (by
   rw[y1z zas _]
   exact ih (i+1) (by omega) (by omega) (fun m hm h1 h2=>hno m hm (by omega) h2) prog w A R _ ⟨hl,h⟩)⟩
theorem zie (l:Addr) (its:Array Value) (n:Nat) (x:Str) (t:Tok) (j:Nat) (hz:its.size<=y0j) (hj:j<its.size) (hit:∃u,its[j]=.str x u) (hno:∀(m:Nat) (hm:m<its.size),m<j->∃y u,its[m]=.str y u/\y≠x) :
  Meets (Builtin.«list.remove» ⟨[.ref l,.str x t],[]⟩) (fun _ R s=>s.heap.get? l=some { cls:=.type "list",data:=.seq its n }/\R (.ok (.ret .none)) { s with heap:=s.heap.update l (Obj.mapSeq fun a=>a.eraseIdxIfInBounds j) }):=by
 intro prog w A R s h
 obtain⟨hp,g,d,tk,os⟩:=s
 obtain⟨hl,h⟩:=h
 wp_walk using wpAny_loadPart' hl
 exact⟨plainId_quiet zas _,codeAny_builtin ziq (by
  rw[y1z zas _]
  exact zug l its n x t j hz hj hit _ 0 rfl (y29 _) (fun m hm _ h2=>hno m hm h2) prog w A R _ ⟨hl,h⟩)⟩
noncomputable def zuh:V->List V->Hp->VK->Prop:=fun x vs H Q=>∃(l:Addr) (ss:List Str) (y:Str),x=.ref l/\vs=[.str y]/\H l=some (.lst (ss.map V.str))/\y∈ss/\Q .non (upd H l (.lst ((ss.erase y).map V.str)))
theorem zl3 {ss:List Str} {its:List Value} (r:Vals (ss.map V.str) its) {m:Nat} {y:Str} (h:ss[m]?=some y):∃u,its[m]?=some (.str y u):=by
 obtain⟨v,hv,rv⟩:=r.get (i:=m) (x:=.str y) (by rw[y15,h];rfl)
 obtain⟨u,rfl⟩:=rv
 exact⟨u,hv⟩
theorem zlw {α:Type} [BEq α] [LawfulBEq α]:∀{ss:List α} {y:α},y∈ss->∃j,ss[j]?=some y/\(∀m z,m<j->ss[m]?=some z->z≠y)/\ss.erase y=ss.eraseIdx j
 | [],y,h=>by simp at h
 | x::ss,y,h=>by
  by_cases e:x=y
  ·subst e
   exact⟨0,rfl,fun m z hm=>by omega,by simp⟩
  ·have h':y∈ss:=by
    rcases y09.mp h with z|z
    ·exact absurd z.symm e
    ·exact z
   obtain⟨j,h1,h2,h3⟩:=zlw h'
   refine⟨j+1,by simpa using h1,fun m z hm hz=>?_,?_⟩
   ·cases m with
    | zero =>
     simp at hz
     exact hz▸e
    | succ m=>exact h2 m z (by omega) (by simpa using hz)
   ·rw[List.erase_cons_tail (by simpa using e),h3]
    rfl
theorem zaz {α β:Type} (f:α->β):∀(l:List α) (j:Nat),(l.eraseIdx j).map f=(l.map f).eraseIdx j
 | [],_=>rfl
 | _::_,0=>rfl
 | a::l,j+1=>by simp[zaz f l j]
theorem zp0 {X:Cx}:MtM X "list.remove" zuh:=by
 intro pins s σ H x vs v us Q I rx rv h
 obtain⟨l,ss,y,rfl,rfl,hH,hy,q⟩:=h
 cases rx
 obtain⟨u,rfl,ru⟩:=rv.one
 obtain⟨t,rfl⟩:=ru
 obtain⟨z,its,n,r,hl,e⟩:=I.lstM hH
 obtain⟨j,h1,h2,h3⟩:=zlw hy
 obtain⟨w,hw⟩:=zl3 r h1
 have hj:j<its.length:=(y0k.mp hw).1
 refine call_meets F.slot_list_remove ⟨_,e,rfl⟩ F.entry_list_remove (F.args_list_remove_2 _ _) (zie l its.toArray n y t j (by rw[y0h];omega) (by rw[y0h];exact hj) ⟨w,?_⟩ fun m hm hmj=>?_) ⟨e,?_⟩
 ·rw[y0v hj] at hw
  simpa using hw
 ·rw[y0h] at hm
  have hms:m<ss.length:=by rw[y14] at hl;omega
  obtain⟨u,hu⟩:=zl3 r (y0v hms)
  rw[y0v hm] at hu
  exact⟨_,u,by simpa using hu,h2 m _ hmj (y0v hms)⟩
 ·rw[h3] at q
  have e2:(ss.eraseIdx j).map V.str=(ss.map V.str).eraseIdx j:=zaz _ _ _
  rw[e2] at q
  refine⟨.non,_,I.lset (t':=s.toks) (its':=its.eraseIdx j) hH e ?_ (r.eraseIdx j) (y1s (zif _ _) z),rfl,q⟩
  unfold Array.eraseIdxIfInBounds
  rw[dif_pos (by rw[y0h];exact hj)]
  simp
section
variable {X:Cx} {c C i j:Nat} {ns:List Str} {f:Str} {o e:Expr} {g:Fe} {pos apos:Pos}
theorem zyf (k:ClOk X.K c C ns) (hn:PE X o (tVar i)) {bpos cpos:Pos} (he:PEv X e g) (hj:ns[j]?=some f:=by rfl) (hb:attributeBase o f X.env (eval o X.env)=eval o X.env:=by rfl)
  (hs1:y0a [e] X.env=(false,eval e X.env)::y0a [] X.env:=by rfl)
  (hbase:attributeBase (.Attribute o f apos) "remove" X.env (eval (.Attribute o f apos) X.env)=eval (.Attribute o f apos) X.env:=by rfl)
  (hfew:((backTo cpos (y0a [e] X.env)).all (fun x=>!x.1) && (backToKw cpos (keywordEach [] X.env)).all (fun x=>x.1.isSome)
   && decide (([e]:List Expr).length+([]:List Keyword).length+(if ([]:List Keyword).isEmpty then 0 else 1)<30))=true:=by rfl)
  (hline:(bpos.endLine == cpos.line)=true:=by rfl) (hplain:(backTo cpos (y0a [] X.env)).any (·.1)=false:=by rfl)
  (hsw:swapsWith (.Call (.Attribute (.Attribute o f apos) "remove" bpos) [e] [] cpos) none pos.line X.env=pure false:=by rfl) :
  PSt X (.Expr (.Call (.Attribute (.Attribute o f apos) "remove" bpos) [e] [] cpos) pos) (rmF c i j g) :=
 z2i (z9y (zro PySem.F.plainAttrs_list PySem.F.slot_list_remove PySem.F.type_list_remove zp0 (z9p hn hb) (z2y he z6o hs1) hbase hfew hline hs1 hplain) hsw) fun D σ H ⟨F₀,H₀,O,F,ε,o,r,e,kk⟩=>by
 simp only[rmF,y01] at e
 obtain⟨t,et,ts,el,e⟩:=e
 split at e
 next x ss hss =>
  split at e
  next hx =>
   simp only[y07] at e
   obtain⟨ε',es,rfl⟩:=e
   have hts:=zd5 hss
   subst hts
   obtain⟨m,fs,ho,hs⟩:=ze7 el
   obtain⟨a,vs,dx,v,h1,hx0,hl,ha,hv,⟨b,us,eb,hb,rb⟩,_⟩:=z82 k r ho hs hj
   subst eb
   refine⟨_,h1,a,C,dx,_,_,rfl,hx0,k.cls,za0 k hj,hl,.inl ⟨rfl,_,SqL.of hb⟩,F₀,H₀,O,F,ε,_,r,et,fun v F1 H1 x1 q1=>?_⟩
   have r1:=r.ext x1
   have ha1:z6k H1 a c vs:=ha.keep ((x1.same.get hx0).trans hx0.symm)
   have ev:v=.str x:=by simpa [Rep] using q1
   subst ev
   have eu:=zbj rb
   subst eu
   obtain⟨kp,r2⟩:=r1.mutFld (s':=.own ((ss.erase x).map .str)) (o':=.lst ((ss.erase x).map V.str)) ho h1 ha1 es hs hv (by simp[fp0,rf]) rfl fun kp=>⟨b,_,rfl,z0e,zdc _⟩
   exact⟨b,ss,x,rfl,rfl,x1.same.get hb,hx,kk σ F1 _ (x1.kp.trans kp) r2⟩
  next=>cases e
 next=>cases e
end
end
section
variable [Tbl]
open AutoSeq1 (wpAny_loadPart')
section
variable {prog:y0q} {w:World} {A:Around} {E:Value->y04->Prop} {s:y04} {T:String} {r d:Addr} {n:Nat} {P:Nat->Value->Prop} {OK:Heap->Prop}
theorem zdu (W:PySem.W.KdlSrc prog w T r d n P OK) (hn:n<=y0j) (o:Obj) (hc:o.cls=.type T) :
  MeetsIn prog w (Builtin.«tuple.__new__» ⟨[.type "tuple",.ref r],[]⟩)
   (fun A R s=>A.handled=none/\OK s.heap/\s.heap.get? r=some o/\∀(h':Heap) (tk:Nat) (acc:Array Value),(∀b o,s.heap.get? b=some o->h'.get? b=some o)->s.heap.objs.size<=h'.objs.size->ItemsOf P acc n->R (.ok (.ret (.ref h'.objs.size))) { s with heap:=h'.push { cls:=.type "tuple",data:=.seq acc },toks:=tk }) :=
 .of_wp fun A R s h=>by
  obtain⟨hp,g,dr,tk,os⟩:=s
  obtain⟨hh,hok,ho,h⟩:=h
  have hsub:=sub_tuple_self
  have hinit:=init_tuple_lookup
  have hmh:=madeHere_tuple
  have hT:Shared.TypeIs ⟨hp,g,dr,tk,os⟩ (.ref r) T:=W.type _ hok
  have n1:=W.notList
  have n2:=W.notTuple
  wp_walk using wpAny_loadPart' ho,wpAny_typeOf hT,zkm W (by simpa using hh) hok hn
  intro h' tk' acc hk hsz hacc
  show y0u _ _ (y13 acc.toList.toArray >>= fun v=>ret v) _ _ _
  unfold y13
  have hz:acc.size<=y0j:=by rw[hacc.1];exact hn
  refine y02 (wpAny_newObj_type ?_ (by show acc.toList.toArray.size<=y0j;simpa using hz))
  refine y06 ⟨_,rfl,?_⟩
  rw[show acc.toList.toArray=acc by simp]
  exact h h' tk' acc hk hsz hacc
theorem zeq {Q:Value->y04->Prop} (W:PySem.W.KdlSrc prog w T r d n P OK) (hn:n<=y0j) {o:Obj} (hc:o.cls=.type T) (hh:A.handled=none) (hok:OK s.heap) (ho:s.heap.get? r=some o)
  (h:∀(h':Heap) (tk:Nat) (acc:Array Value),(∀b o,s.heap.get? b=some o->h'.get? b=some o)->s.heap.objs.size<=h'.objs.size->ItemsOf P acc n->Q (.ref h'.objs.size) { s with heap:=h'.push { cls:=.type "tuple",data:=.seq acc },toks:=tk }) :
  y0u (model prog w) A (call (.type "tuple") [.ref r]) Q E s :=
 callType_newIn F.called_tuple (by decide) (F.typeCall_tuple_1 _) (F.newCall_tuple_1 _) (fun obj=>F.args_object_init_2 obj _) F.entry_tuple_new
  (zdu W hn o hc) ⟨by simpa using hh,hok,ho,fun h' tk acc hk hsz hacc=>⟨⟨_,y0l _ rfl,rfl⟩,h h' tk acc hk hsz hacc⟩⟩
end
def zqt (p d:Addr):HO:=.ext fun h=>h.IsValuesView p d
section
variable {X:Cx}
theorem zoz:MtM X "dict.values" (fun x vs H Q=>∃d kvs,x=.ref d/\vs=[]/\H d=some (.dK kvs)/\∀p,H p=none->Q (.ref p) (upd H p (zqt p d))):=by
 intro pins s σ H x vs v us Q I rx rv h
 obtain⟨d,kvs,rfl,rfl,hH,q⟩:=h
 cases rx
 cases rv
 obtain⟨hz,hsm,ws,hkv,hd⟩:=I.hok d _ hH
 refine call_meetsIn PySem.F.slot_dict_values hd.typeIs PySem.F.entry_dict_values (PySem.F.args_dict_values_1 _) (meets_dict_values (z1i X.prog X.w) d hsm) ⟨⟨ws,hd⟩,?_⟩
 have hv:(s.heap.push { cls:=.type "dict_values",data:=.fields #[.ref d] }).IsValuesView s.heap.objs.size d:=⟨_,y0l _ rfl,rfl,rfl⟩
 refine⟨.ref s.heap.objs.size,upd H s.heap.objs.size (zqt s.heap.objs.size d),I.laid (t':=s.toks) (fun b u e=>y03 _ e) (y0o _) ⟨hv,⟨_,y0l _ rfl⟩,fun h1 h2 p k=>?_⟩,rfl,q _ I.fresh⟩
 obtain⟨o,ho,r⟩:=p
 exact⟨o,k o ho,r⟩
theorem zto:∀{kvs:List (L2.Key×V)} {vs:List (L2.Key×Value)},KV kvs vs->Vals (kvs.map (·.2)) (vs.map (·.2))
 | _,_,.nil=>.nil
 | _,_,.cons a b=>.cons a.2 (zto b)
theorem zeb (hc:X.calm=true):zac X (.type "tuple") (fun xs H Q=>∃p d kvs,xs=[.ref p]/\H p=some (zqt p d)/\H d=some (.dK kvs)/\∀t,H t=none->Q (.ref t) (upd H t (.tup (kvs.map (·.2))))):=by
 intro pins s σ H xs us Q I r h
 obtain⟨p,d,kvs,rfl,hp,hq,q⟩:=h
 obtain⟨u,rfl,rx⟩:=zhg r
 cases rx
 obtain⟨hz',hsm,vs,hkv,hd⟩:=I.hok d _ hq
 obtain⟨ep,hat⟩:=hd.dictAt
 have hl:vs.length=kvs.length:=(Paired.length hkv).symm
 have hv:s.heap.IsValuesView p d:=(I.hok p _ hp).1
 obtain⟨o,ho,hcl,hdat⟩:=id hv
 refine zeq (PySem.W.kdl_values (knd:=z1i X.prog X.w) (kvs:=vs) (ep:=ep)) (by rw[hl];exact hz') hcl (I.ok.hd hc) ⟨hv,hat⟩ ho fun h' tk acc hk hsz hacc=>?_
 have hz2:(kvs.map (·.2)).length<=y0j:=by rw[y14];exact hz'
 have ea:acc.toList=vs.map (·.2):=by
  refine List.ext_getElem? fun i=>?_
  rw[y15]
  by_cases hi:i<acc.size
  ·obtain⟨k,hk⟩:=hacc.2 i acc[i] (by simp[hi])
   rw[hk]
   simp[hi]
  ·rw[List.getElem?_eq_none (by simpa using hi),List.getElem?_eq_none (by rw[hacc.1] at hi;omega)]
   rfl
 have hT:(h'.push { cls:=.type "tuple",data:=.seq acc }).get? h'.objs.size=some { cls:=.type "tuple",data:=.seq acc }:=y0l _ rfl
 refine⟨.ref h'.objs.size,_,ze2 I (o:=.tup (kvs.map (·.2))) (d':=s.drawn) (fun b u e=>y03 _ (hk b u e)) hsz ⟨hz2,vs.map (·.2),zto hkv,⟨_,hT,rfl,0,by rw[<- ea]⟩⟩,rfl,q _ (I.hok.fresh hsz)⟩
variable {c C i j:Nat} {ns:List Str} {f:Str} {o:Expr} {p pos apos bpos cpos:Pos}
theorem RepD.snd {K:y00} {F:Addr->Prop} {H:Hp}:∀{ts:List (D.Key×T)} {vs:List (D.Key×V)},RepD K F H ts vs->RepL K F H (ts.map (·.2)) (vs.map (·.2))
 | [],vs,h=>by
  have e:vs=[]:=h
  subst e
  exact RepL.nil
 | t::ts,vs,h=>by
  obtain⟨v,r,rfl,q,z⟩:=h
  exact RepL.cons q (RepD.snd z)
theorem zod (k:ClOk X.K c C ns) (hc:X.calm=true) (ht:X.mg "tuple"=none) (hn:PE X o (tVar i)) (hj:ns[j]?=some f:=by rfl) (hb:attributeBase o f X.env (eval o X.env)=eval o X.env:=by rfl)
  (hbase:attributeBase (.Attribute o f apos) "values" X.env (eval (.Attribute o f apos) X.env)=eval (.Attribute o f apos) X.env:=by rfl) (hline:(bpos.endLine == cpos.line)=true:=by rfl) (hg:Gl X "tuple":=by rfl)
  (he:y0a [.Call (.Attribute (.Attribute o f apos) "values" bpos) [] [] cpos] X.env=(false,eval (.Call (.Attribute (.Attribute o f apos) "values" bpos) [] [] cpos) X.env)::y0a [] X.env:=by rfl)
  (hpl:(backTo pos (y0a [] X.env)).any (·.1)=false:=by rfl) :
  PEv X (.Call (.Name "tuple" p) [.Call (.Attribute (.Attribute o f apos) "values" bpos) [] [] cpos] [] pos) (zpr c i j) :=
 z0x (zau (zeb hc) hg ht (by decide +kernel) (z2y (ztb PySem.F.plainAttrs_dict PySem.F.slot_dict_values PySem.F.type_dict_values zoz (z9p hn hb) hbase hline) z6o he) (he:=he) (hpl:=hpl)) fun σ H Q ⟨F₀,E,O,F,ε,t,r,e,kk⟩=>by
 simp only[zpr,y07] at e
 obtain⟨kvs,ed,rfl⟩:=e
 obtain⟨m,fs,ho,hs⟩:=zb1 ed
 obtain⟨a,vs,dx,v,h1,hx,hl,ha,hv,⟨b,us,eb,hb,rb⟩,_⟩:=z82 k r ho hs hj
 subst eb
 refine⟨_,h1,a,C,dx,_,_,rfl,hx,k.cls,za0 k hj,hl,.inr (.inr (.inl ⟨rfl,.inl ⟨_,hb⟩⟩)),b,us,rfl,rfl,hb,fun p hp=>?_⟩
 have x1:=Ext.laid (o:=zqt p b) r.dom hp
 refine⟨p,b,us,rfl,z0e,x1.same.get hb,fun t ht=>?_⟩
 have x2:=x1.trans (Ext.laid (o:=.tup (us.map (·.2))) x1.dom ht)
 refine kk _ F _ x2 ?_
 simp only[Rep]
 exact⟨t,_,rfl,SqT.of z0e,(rb.snd).ext x2⟩
end
end
section
variable [Tbl]
open AutoSeq1 (wpAny_loadPart')
noncomputable def ZipR (h:Heap) (z TI TO:Addr) (f0 f1:Value):Prop:=h.get? z=some { cls:=.type "zip",dict:=none,data:=.fields #[f0,f1,.bool false,.ref TI,.ref TO],slots:=#[] }
section
variable {prog:y0q} {w:World} {A:Around} {E:Value->y04->Prop} {s:y04} {z TI TO i1 i2 l1 l2:Addr} {k n1 n2:Nat} {P1 P2:Nat->Value->Prop} {S1 S2:Nat->Heap->Prop} {a b f1:Value}
theorem zkw {Q:Value->y04->Prop} (D:ZipApart z TI TO i1 i2 l1 l2) (D1:Draws prog w A i1 [i1,l1] n1 P1 S1) (D2:Draws prog w A i2 [i2,l2] n2 P2 S2) (hz:ZipR s.heap z TI TO .none f1) (hTI:IsPair s.heap TI (.ref i1) (.ref i2)) (hTO:IsPair s.heap TO a b)
  (s1:S1 k s.heap) (s2:S2 k s.heap) (h1:k<n1) (h2:k<n2)
  (hQ:∀h' x y tk,P1 k x->P2 k y->ZipR h' z TI TO (rawInt s.heap.objs.size) (.bool false)->IsPair h' TO x y->S1 (k+1) h'->S2 (k+1) h'->IsPair h' s.heap.objs.size x y->h'.objs.size=s.heap.objs.size+1 ->
   (∀c o,c≠z->c≠TO->c≠i1->c≠i2->s.heap.get? c=some o->h'.get? c=some o)->Q (.ref s.heap.objs.size) { s with heap:=h',toks:=tk }) :
  y0u (model prog w) A (Builtin.«zip.__next__» ⟨[.ref z],[]⟩) (fun fin s'=>∃v,fin=.done (.ret v)/\Q v s') E s:=by
 unfold ZipR at hz
 refine y02 (m:=field (.ref z) 2) (wpAny_field hz rfl (x:=.bool false) rfl (y02 (m:=field (.ref z) 3) (wpAny_field hz rfl (x:=.ref TI) rfl (y02 (wpAny_seqItems hTI rfl ?_)))))
 refine y02 (m:=y10 (.ref z)) ?_
 unfold y10
 refine y02 (wpAny_field hz rfl (x:=.none) rfl (y06 ?_))
 simp only[if_true]
 refine y02 (wpAny_rule (y02 (wpAny_field hz rfl (x:=.ref TO) rfl (y02 (wpAny_setField_rec hz (by simp) fun h₁ hz₁ e₁=>?_)))))
 replace hz₁:ZipR h₁ z TI TO .ellipsis f1:=hz₁
 refine y02 ?_
 simp only[List.zipIdx_cons,List.zipIdx_nil,List.forIn_cons,List.forIn_nil]
 have st1:S1 k h₁:=D1.frame k _ _ s1 fun c hc o e=>by
  rcases y09.mp hc with rfl|hc
  ·exact e₁.extBut _ _ D.i1z e
  ·rw[y0z.mp hc] at e ⊢
   exact e₁.extBut _ _ D.l1z e
 refine y02 (y02 (wpAny_onRaise (y02 (m:=y0t (.ref i1)) (D1.item k _ _ _ h1 st1 fun x h₂ tk px t1 e₂=>y06 ?_))))
 have hTO₂:IsPair h₂ TO a b:=e₂.extBut _ _ D.TOi1 (e₁.extBut _ _ D.TOz hTO)
 refine y02 (wpAny_seqItems hTO₂ rfl (y02 (wpAny_updateSeq_pair hTO₂ fun h₃ hTO₃ e₃=>?_)))
 replace hTO₃:IsPair h₃ TO x b:=hTO₃
 refine y02 (wpAny_letGo (y06 ?_))
 have st2:S2 k h₃:=D2.frame k _ _ s2 fun c hc o e=>by
  rcases y09.mp hc with rfl|hc
  ·exact e₃.extBut _ _ D.TOi2.symm (e₂.extBut _ _ D.i12.symm (e₁.extBut _ _ D.i2z e))
  ·rw[y0z.mp hc] at e ⊢
   exact e₃.extBut _ _ D.l2TO (e₂.extBut _ _ D.l2i1 (e₁.extBut _ _ D.l2z e))
 refine y02 (y02 (wpAny_onRaise (y02 (m:=y0t (.ref i2)) (D2.item k _ _ _ h2 st2 fun y h₄ tk2 py t2 e₄=>y06 ?_))))
 have hTO₄:IsPair h₄ TO x b:=e₄.extBut _ _ D.TOi2 hTO₃
 refine y02 (wpAny_seqItems hTO₄ rfl (y02 (wpAny_updateSeq_pair hTO₄ fun h₅ hTO₅ e₅=>?_)))
 replace hTO₅:IsPair h₅ TO x y:=hTO₅
 refine y02 (wpAny_letGo (y06 (y06 (y02 (wpAny_seqItems hTO₅ rfl (y02 (wpAny_newTuple ?_)))))))
 have sz5:h₅.objs.size=s.heap.objs.size:=by rw[e₅.1,e₄.1,e₃.1,e₂.1,e₁.1]
 have hz₅:ZipR h₅ z TI TO .ellipsis f1:=e₅.extBut _ _ D.TOz.symm (e₄.extBut _ _ D.i2z.symm (e₃.extBut _ _ D.TOz.symm (e₂.extBut _ _ D.i1z.symm hz₁)))
 have kp5:∀c o,c≠z->c≠TO->c≠i1->c≠i2->s.heap.get? c=some o->h₅.get? c=some o:=fun c o c1 c2 c3 c4 e=>e₅.extBut _ _ c2 (e₄.extBut _ _ c4 (e₃.extBut _ _ c2 (e₂.extBut _ _ c3 (e₁.extBut _ _ c1 e))))
 have u1:S1 (k+1) h₅:=D1.frame _ _ _ t1 fun c hc o e=>by
  rcases y09.mp hc with rfl|hc
  ·exact e₅.extBut _ _ D.TOi1.symm (e₄.extBut _ _ D.i12 (e₃.extBut _ _ D.TOi1.symm e))
  ·rw[y0z.mp hc] at e ⊢
   exact e₅.extBut _ _ D.l1TO (e₄.extBut _ _ D.l1i2 (e₃.extBut _ _ D.l1TO e))
 have u2:S2 (k+1) h₅:=D2.frame _ _ _ t2 fun c hc o e=>by
  rcases y09.mp hc with rfl|hc
  ·exact e₅.extBut _ _ D.TOi2.symm e
  ·rw[y0z.mp hc] at e ⊢
   exact e₅.extBut _ _ D.l2TO e
 have zlt:z<h₅.objs.size:=y0c hz₅
 refine y02 (m:=Builtin.SmallTypes.ownedTupleHandOut (.ref z) (.ref h₅.objs.size)) ?_
 unfold Builtin.SmallTypes.ownedTupleHandOut
 have hz₆:ZipR (h₅.push { cls:=.type "tuple",data:=.seq #[x,y] }) z TI TO .ellipsis f1:=y03 _ hz₅
 refine y02 (wpAny_setField_rec hz₆ (by simp) fun h₇ hz₇ e₇=>?_)
 replace hz₇:ZipR h₇ z TI TO (rawInt h₅.objs.size) f1:=hz₇
 refine wpAny_setField_rec hz₇ (by simp) fun h₈ hz₈ e₈=>?_
 replace hz₈:ZipR h₈ z TI TO (rawInt h₅.objs.size) (.bool false):=hz₈
 have up:∀c o,c≠z->h₅.get? c=some o->h₈.get? c=some o:=fun c o c1 e=>e₈.extBut _ _ c1 (e₇.extBut _ _ c1 (y03 _ e))
 have hT:IsPair h₈ h₅.objs.size x y:=e₈.extBut _ _ (y16 zlt) (e₇.extBut _ _ (y16 zlt) (y0l _ rfl))
 have sz8:h₈.objs.size=h₅.objs.size+1:=by rw[e₈.1,e₇.1,y18]
 rw[sz5] at hz₈ hT sz8
 refine y06 ⟨_,rfl,?_⟩
 show Q (.ref h₅.objs.size) _
 rw[sz5]
 refine hQ h₈ x y _ px py hz₈ (up _ _ D.TOz hTO₅) (D1.frame _ _ _ u1 fun c hc o e=>?_) (D2.frame _ _ _ u2 fun c hc o e=>?_) hT sz8 fun c o c1 c2 c3 c4 e=>up c o c1 (kp5 c o c1 c2 c3 c4 e)
 ·refine up c o ?_ e
  rcases y09.mp hc with rfl|hc
  ·exact D.i1z
  ·rw[y0z.mp hc]
   exact D.l1z
 ·refine up c o ?_ e
  rcases y09.mp hc with rfl|hc
  ·exact D.i2z
  ·rw[y0z.mp hc]
   exact D.l2z
theorem zkv {Q:Fin->y04->Prop} (D:ZipApart z TI TO i1 i2 l1 l2) (D1:Draws prog w A i1 [i1,l1] n1 P1 S1) (D2:Draws prog w A i2 [i2,l2] n2 P2 S2) (hz:ZipR s.heap z TI TO .none f1) (hTI:IsPair s.heap TI (.ref i1) (.ref i2)) (hTO:IsPair s.heap TO a b)
  (s1:S1 k s.heap) (s2:S2 k s.heap) (hk:k=n1\/(k<n1/\k=n2))
  (hE:∀h' e tk,(∀c o,c≠z->c≠TO->c≠i1->c≠i2->s.heap.get? c=some o->h'.get? c=some o)->(∃o,h'.get? e=some o/\o.cls=.type "StopIteration")->E (.ref e) { s with heap:=h',toks:=tk }) :
  y0u (model prog w) A (Builtin.«zip.__next__» ⟨[.ref z],[]⟩) Q E s:=by
 unfold ZipR at hz
 refine y02 (m:=field (.ref z) 2) (wpAny_field hz rfl (x:=.bool false) rfl (y02 (m:=field (.ref z) 3) (wpAny_field hz rfl (x:=.ref TI) rfl (y02 (wpAny_seqItems hTI rfl ?_)))))
 refine y02 (m:=y10 (.ref z)) ?_
 unfold y10
 refine y02 (wpAny_field hz rfl (x:=.none) rfl (y06 ?_))
 simp only[if_true]
 refine y02 (wpAny_rule (y02 (wpAny_field hz rfl (x:=.ref TO) rfl (y02 (wpAny_setField_rec hz (by simp) fun h₁ hz₁ e₁=>?_)))))
 replace hz₁:ZipR h₁ z TI TO .ellipsis f1:=hz₁
 refine y02 ?_
 simp only[List.zipIdx_cons,List.zipIdx_nil,List.forIn_cons,List.forIn_nil]
 have st1:S1 k h₁:=D1.frame k _ _ s1 fun c hc o e=>by
  rcases y09.mp hc with rfl|hc
  ·exact e₁.extBut _ _ D.i1z e
  ·rw[y0z.mp hc] at e ⊢
   exact e₁.extBut _ _ D.l1z e
 rcases hk with rfl|⟨h1,rfl⟩
 ·refine y02 (y02 (wpAny_onRaise (y02 (m:=y0t (.ref i1)) (D1.done _ _ _ st1 fun h₂ e e₂ he=>?_))))
  obtain⟨oe,hoe,hce⟩:=he
  have hz₂:ZipR h₂ z TI TO .ellipsis f1:=e₂ _ _ D.i1z.symm hz₁
  have ne:e≠z:=fun q=>by
   subst q
   unfold ZipR at hz₂
   rw[hz₂] at hoe
   cases hoe
   simp at hce
  exact wpAny_setField_rec hz₂ (by simp) fun h₃ _ e₃=>hE h₃ e _ (fun c o c1 _ c3 _ q=>e₃.extBut _ _ c1 (e₂ _ _ c3 (e₁.extBut _ _ c1 q))) ⟨oe,e₃.extBut _ _ ne hoe,hce⟩
 ·refine y02 (y02 (wpAny_onRaise (y02 (m:=y0t (.ref i1)) (D1.item k _ _ _ h1 st1 fun x h₂ tk px t1 e₂=>y06 ?_))))
  have hTO₂:IsPair h₂ TO a b:=e₂.extBut _ _ D.TOi1 (e₁.extBut _ _ D.TOz hTO)
  refine y02 (wpAny_seqItems hTO₂ rfl (y02 (wpAny_updateSeq_pair hTO₂ fun h₃ hTO₃ e₃=>?_)))
  refine y02 (wpAny_letGo (y06 ?_))
  have st2:S2 k h₃:=D2.frame k _ _ s2 fun c hc o e=>by
   rcases y09.mp hc with rfl|hc
   ·exact e₃.extBut _ _ D.TOi2.symm (e₂.extBut _ _ D.i12.symm (e₁.extBut _ _ D.i2z e))
   ·rw[y0z.mp hc] at e ⊢
    exact e₃.extBut _ _ D.l2TO (e₂.extBut _ _ D.l2i1 (e₁.extBut _ _ D.l2z e))
  refine y02 (y02 (wpAny_onRaise (y02 (m:=y0t (.ref i2)) (D2.done _ _ _ st2 fun h₄ e e₄ he=>?_))))
  obtain⟨oe,hoe,hce⟩:=he
  have hz₄:ZipR h₄ z TI TO .ellipsis f1:=e₄ _ _ D.i2z.symm (e₃.extBut _ _ D.TOz.symm (e₂.extBut _ _ D.i1z.symm hz₁))
  have ne:e≠z:=fun q=>by
   subst q
   unfold ZipR at hz₄
   rw[hz₄] at hoe
   cases hoe
   simp at hce
  exact wpAny_setField_rec hz₄ (by simp) fun h₅ _ e₅=>hE h₅ e _ (fun c o c1 c2 c3 c4 q=>e₅.extBut _ _ c1 (e₄ _ _ c4 (e₃.extBut _ _ c2 (e₂.extBut _ _ c3 (e₁.extBut _ _ c1 q))))) ⟨oe,e₅.extBut _ _ ne hoe,hce⟩
theorem zsr {c:Addr} {Q:Option Obj->y04->Prop} (h:Q (s.heap.get? c) s):y0u (model prog w) A (loadIfAlive c) Q E s:=fun Γ p _=>by
 unfold loadIfAlive
 rw[Sem.wp_loadIfAlive]
 simpa using h
theorem zf6 {T:Addr} {oT:Obj} {f:Bool} (hz:ZipR s.heap z TI TO (rawInt T) (.bool f)) (hT:s.heap.get? T=some oT) :
  y0u (model prog w) A (y10 (.ref z)) (fun c s'=>c=false/\∃h₁,s'={ s with heap:=h₁ }/\ZipR h₁ z TI TO (rawInt T) (.bool true)/\Heap.SameBut z s.heap h₁) E s:=by
 unfold ZipR at hz
 unfold y10
 refine y02 (wpAny_field hz rfl (x:=rawInt T) rfl ?_)
 refine y02 (m:=loadIfAlive ((T:Nat):Int).toNat) (zsr ?_)
 rw[Int.toNat_natCast,hT]
 simp only[Option.isNone_some,y1x,if_false]
 refine y02 (wpAny_field hz rfl (x:=.bool f) rfl ?_)
 cases f with
 | true =>
  simp only[bne_self_eq_false,y1x,if_false]
  exact y06 ⟨rfl,s.heap,rfl,hz,Heap.SameBut.refl ..⟩
 | false =>
  rw[if_pos (by decide)]
  exact y02 (wpAny_setField_rec hz (by simp) fun h₁ hz₁ e₁=>y06 ⟨rfl,h₁,rfl,hz₁,e₁⟩)
theorem zqq {Q:Value->y04->Prop} {T:Addr} {oT:Obj} {f:Bool} (D:ZipApart z TI TO i1 i2 l1 l2) (D1:Draws prog w A i1 [i1,l1] n1 P1 S1) (D2:Draws prog w A i2 [i2,l2] n2 P2 S2) (hz:ZipR s.heap z TI TO (rawInt T) (.bool f)) (hT:s.heap.get? T=some oT) (hTI:IsPair s.heap TI (.ref i1) (.ref i2))
  (s1:S1 k s.heap) (s2:S2 k s.heap) (h1:k<n1) (h2:k<n2)
  (hQ:∀h' x y tk,P1 k x->P2 k y->ZipR h' z TI TO (rawInt T) (.bool true)->S1 (k+1) h'->S2 (k+1) h'->IsPair h' s.heap.objs.size x y->h'.objs.size=s.heap.objs.size+1 ->
   (∀c o,c≠z->c≠i1->c≠i2->s.heap.get? c=some o->h'.get? c=some o)->Q (.ref s.heap.objs.size) { s with heap:=h',toks:=tk }) :
  y0u (model prog w) A (Builtin.«zip.__next__» ⟨[.ref z],[]⟩) (fun fin s'=>∃v,fin=.done (.ret v)/\Q v s') E s:=by
 have hz0:=hz
 unfold ZipR at hz
 refine y02 (m:=field (.ref z) 2) (wpAny_field hz rfl (x:=.bool false) rfl (y02 (m:=field (.ref z) 3) (wpAny_field hz rfl (x:=.ref TI) rfl (y02 (wpAny_seqItems hTI rfl ?_)))))
 refine y02 (m:=y10 (.ref z)) (y1e (zf6 hz0 hT) (fun c s' ⟨ec,h₁,es,hz₁,e₁⟩=>?_) fun _ _ q=>q)
 subst ec es
 simp only[y1x,if_false]
 refine y02 ?_
 rw[<- Array.forIn_toList]
 simp only[List.forIn_cons,List.forIn_nil]
 have st1:S1 k h₁:=D1.frame k _ _ s1 fun c hc o e=>by
  rcases y09.mp hc with rfl|hc
  ·exact e₁.extBut _ _ D.i1z e
  ·rw[y0z.mp hc] at e ⊢
   exact e₁.extBut _ _ D.l1z e
 refine y02 (y02 (wpAny_holding (y02 (m:=y0t (.ref i1)) (D1.item k _ _ _ h1 st1 fun x h₂ tk px t1 e₂=>y06 (y06 ?_)))))
 have st2:S2 k h₂:=D2.frame k _ _ s2 fun c hc o e=>by
  rcases y09.mp hc with rfl|hc
  ·exact e₂.extBut _ _ D.i12.symm (e₁.extBut _ _ D.i2z e)
  ·rw[y0z.mp hc] at e ⊢
   exact e₂.extBut _ _ D.l2i1 (e₁.extBut _ _ D.l2z e)
 refine y02 (y02 (wpAny_holding (y02 (m:=y0t (.ref i2)) (D2.item k _ _ _ h2 st2 fun y h₃ tk2 py t2 e₃=>y06 (y06 (y06 ?_))))))
 refine y02 (wpAny_newTuple (y06 ⟨_,rfl,?_⟩) (by show 2<=y0j;decide))
 have sz3:h₃.objs.size=s.heap.objs.size:=by rw[e₃.1,e₂.1,e₁.1]
 have t1':S1 (k+1) h₃:=D1.frame _ _ _ t1 fun c hc o e=>by
  rcases y09.mp hc with rfl|hc
  ·exact e₃.extBut _ _ D.i12 e
  ·rw[y0z.mp hc] at e ⊢
   exact e₃.extBut _ _ D.l1i2 e
 have hz₃:ZipR h₃ z TI TO (rawInt T) (.bool true):=e₃.extBut _ _ D.i2z.symm (e₂.extBut _ _ D.i1z.symm hz₁)
 have hp:(h₃.push { cls:=.type "tuple",data:=.seq #[x,y] }).get? h₃.objs.size=some _:=y0l _ rfl
 show Q (.ref h₃.objs.size) _
 rw[sz3] at hp ⊢
 refine hQ (h₃.push { cls:=.type "tuple",data:=.seq #[x,y] }) x y _ px py (y03 _ hz₃) (D1.frame _ _ _ t1' fun c _ o e=>y03 _ e) (D2.frame _ _ _ t2 fun c _ o e=>y03 _ e) hp (by rw[y18,sz3])
  fun c o c1 c3 c4 e=>y03 _ (e₃.extBut _ _ c4 (e₂.extBut _ _ c3 (e₁.extBut _ _ c1 e)))
theorem zg1 {Q:Fin->y04->Prop} {T:Addr} {oT:Obj} {f:Bool} (D:ZipApart z TI TO i1 i2 l1 l2) (D1:Draws prog w A i1 [i1,l1] n1 P1 S1) (D2:Draws prog w A i2 [i2,l2] n2 P2 S2) (hz:ZipR s.heap z TI TO (rawInt T) (.bool f)) (hT:s.heap.get? T=some oT) (hTI:IsPair s.heap TI (.ref i1) (.ref i2))
  (s1:S1 k s.heap) (s2:S2 k s.heap) (hk:k=n1\/(k<n1/\k=n2))
  (hE:∀h' e tk,(∀c o,c≠z->c≠i1->c≠i2->s.heap.get? c=some o->h'.get? c=some o)->(∃o,h'.get? e=some o/\o.cls=.type "StopIteration")->E (.ref e) { s with heap:=h',toks:=tk }) :
  y0u (model prog w) A (Builtin.«zip.__next__» ⟨[.ref z],[]⟩) Q E s:=by
 have hz0:=hz
 unfold ZipR at hz
 refine y02 (m:=field (.ref z) 2) (wpAny_field hz rfl (x:=.bool false) rfl (y02 (m:=field (.ref z) 3) (wpAny_field hz rfl (x:=.ref TI) rfl (y02 (wpAny_seqItems hTI rfl ?_)))))
 refine y02 (m:=y10 (.ref z)) (y1e (zf6 hz0 hT) (fun c s' ⟨ec,h₁,es,hz₁,e₁⟩=>?_) fun _ _ q=>q)
 subst ec es
 simp only[y1x,if_false]
 refine y02 ?_
 rw[<- Array.forIn_toList]
 simp only[List.forIn_cons,List.forIn_nil]
 have st1:S1 k h₁:=D1.frame k _ _ s1 fun c hc o e=>by
  rcases y09.mp hc with rfl|hc
  ·exact e₁.extBut _ _ D.i1z e
  ·rw[y0z.mp hc] at e ⊢
   exact e₁.extBut _ _ D.l1z e
 rcases hk with rfl|⟨h1,rfl⟩
 ·refine y02 (y02 (wpAny_holding (y02 (m:=y0t (.ref i1)) (D1.done _ _ _ st1 fun h₂ e e₂ he=>?_))))
  exact hE h₂ e _ (fun c o c1 c3 _ q=>e₂ _ _ c3 (e₁.extBut _ _ c1 q)) he
 ·refine y02 (y02 (wpAny_holding (y02 (m:=y0t (.ref i1)) (D1.item k _ _ _ h1 st1 fun x h₂ tk px t1 e₂=>y06 (y06 ?_)))))
  have st2:S2 k h₂:=D2.frame k _ _ s2 fun c hc o e=>by
   rcases y09.mp hc with rfl|hc
   ·exact e₂.extBut _ _ D.i12.symm (e₁.extBut _ _ D.i2z e)
   ·rw[y0z.mp hc] at e ⊢
    exact e₂.extBut _ _ D.l2i1 (e₁.extBut _ _ D.l2z e)
  refine y02 (y02 (wpAny_holding (y02 (m:=y0t (.ref i2)) (D2.done _ _ _ st2 fun h₃ e e₃ he=>?_))))
  exact hE h₃ e _ (fun c o c1 c3 c4 q=>e₃ _ _ c4 (e₂.extBut _ _ c3 (e₁.extBut _ _ c1 q))) he
end
end
section
variable [Tbl]
open AutoSeq1 (wpAny_loadPart')
def itN (b:Bool):String:=if b then "list_iterator" else "tuple_iterator"
noncomputable def itK (b:Bool) (h:Heap) (it l:Addr) (i:Nat):Prop:=match b with
 | true=>h.IsListIter it l i
 | false=>h.IsTupleIter it l i
noncomputable def sqK (b:Bool) (h:Heap) (l:Addr) (xs:Array Value):Prop:=match b with
 | true=>h.IsList l xs
 | false=>h.IsTuple l xs
theorem itK.at {b:Bool} {h h':Heap} {it l:Addr} {i:Nat} (x:itK b h it l i) (k:∀o,h.get? it=some o->h'.get? it=some o):itK b h' it l i:=by
 cases b with
 | true=>exact Heap.IsListIter.at x k
 | false =>
  obtain⟨o,ho,r⟩:=x
  exact⟨o,k o ho,r⟩
theorem itK.obj {b:Bool} {h:Heap} {it l:Addr} {i:Nat} (x:itK b h it l i):∃o,h.get? it=some o/\∀v,o.data≠.cell v:=by
 cases b with
 | true =>
  obtain⟨o,ho,hc,hd⟩:=x
  exact⟨o,ho,fun v z=>by rw[hd] at z;cases z⟩
 | false =>
  obtain⟨o,ho,hc,hd⟩:=x
  exact⟨o,ho,fun v z=>by rw[hd] at z;cases z⟩
theorem sqK.at {b:Bool} {h h':Heap} {l:Addr} {xs:Array Value} (x:sqK b h l xs) (k:∀o,h.get? l=some o->h'.get? l=some o):sqK b h' l xs:=by
 cases b with
 | true =>
  obtain⟨o,ho,r⟩:=x
  exact⟨o,k o ho,r⟩
 | false =>
  obtain⟨o,ho,r⟩:=x
  exact⟨o,k o ho,r⟩
theorem sqK.lt {b:Bool} {h:Heap} {l:Addr} {xs:Array Value} (x:sqK b h l xs):l<h.objs.size:=by
 cases b with
 | true =>
  obtain⟨o,ho,r⟩:=x
  exact y0c ho
 | false =>
  obtain⟨o,ho,r⟩:=x
  exact y0c ho
theorem z8l {prog:y0q} {w:World} {A:Around} (b:Bool) (hh:A.handled=none) (it l:Addr) (hne:l≠it) (xs:Array Value) :
  Draws prog w A it [it,l] xs.size (fun i v=>xs[i]?=some v) (fun i h=>itK b h it l i/\sqK b h l xs):=by
 cases b with
 | true=>exact Draws.list hh it l hne xs
 | false=>exact z3z hh it l hne xs
abbrev zpc (b:Bool) (l:Addr):Obj:={ cls:=.type (itN b),data:=.fields #[.ref l,.int 0 0] }
abbrev zip3 (b1 b2:Bool) (h:Heap) (l1 l2:Addr):Heap:=((h.push (zpc b1 l1)).push (zpc b2 l2)).push { cls:=.type "tuple",data:=.seq #[.ref h.objs.size,.ref (h.objs.size+1)] }
abbrev zip4 (b1 b2:Bool) (h:Heap) (l1 l2:Addr):Heap:=(zip3 b1 b2 h l1 l2).push { cls:=.type "tuple",data:=.seq #[.none,.none] }
abbrev zip5 (b1 b2:Bool) (h:Heap) (l1 l2:Addr):Heap:=(zip4 b1 b2 h l1 l2).push { cls:=.type "zip",data:=.fields #[.none,.bool false,.bool false,.ref (h.objs.size+2),.ref (h.objs.size+3)] }
section
variable {prog:y0q} {w:World} {A:Around} {E:Value->y04->Prop} {s:y04}
theorem ztp {b:Bool} {l:Addr} {xs:Array Value} {Q:Value->y04->Prop} (hl:sqK b s.heap l xs) (h:Q (.ref s.heap.objs.size) { s with heap:=s.heap.push (zpc b l) }):y0u (model prog w) A (pyIter (.ref l)) Q E s:=by
 cases b with
 | true=>exact wpAny_pyIter_list hl h
 | false=>exact wpAny_pyIter_tuple hl h
theorem zmu (b1 b2:Bool) (l1 l2:Addr) (xs ys:Array Value) :
  Meets (Builtin.«zip.__new__» ⟨[.type "zip",.ref l1,.ref l2],[]⟩) (fun _ R s=>sqK b1 s.heap l1 xs/\sqK b2 s.heap l2 ys /\
   R (.ok (.ret (.ref (s.heap.objs.size+4)))) { s with heap:=zip5 b1 b2 s.heap l1 l2 }) :=
 .of_wp fun prog w A R s h=>by
  obtain⟨hp,g,d,tk,os⟩:=s
  obtain⟨h1,h2,h⟩:=h
  have hsub:=sub_zip
  have h1':sqK b1 (Shared.heap ⟨hp,g,d,tk,os⟩) l1 xs:=h1
  have h2':sqK b2 (Shared.heap ⟨hp.push (zpc b1 l1),g,d,tk,os⟩) l2 ys:=h2.at fun o e=>y03 _ e
  wp_walk using ztp h1',ztp h2'
  refine⟨_,rfl,?_⟩
  simp only[y18] at h ⊢
  exact h
theorem zj2 {b1 b2:Bool} {l1 l2:Addr} {xs ys:Array Value} {Q:Value->y04->Prop} (h1:sqK b1 s.heap l1 xs) (h2:sqK b2 s.heap l2 ys)
  (h:∀h',ZipR h' (s.heap.objs.size+4) (s.heap.objs.size+2) (s.heap.objs.size+3) .none (.bool false)->IsPair h' (s.heap.objs.size+2) (.ref s.heap.objs.size) (.ref (s.heap.objs.size+1))->IsPair h' (s.heap.objs.size+3) .none .none ->
   itK b1 h' s.heap.objs.size l1 0->itK b2 h' (s.heap.objs.size+1) l2 0->h'.objs.size=s.heap.objs.size+5->(∀c o,s.heap.get? c=some o->h'.get? c=some o)->Q (.ref (s.heap.objs.size+4)) { s with heap:=h' }) :
  y0u (model prog w) A (call (.type "zip") [.ref l1,.ref l2]) Q E s:=by
 have hi:∀(b:Bool) (h':Heap) (it l:Addr),h'.get? it=some (zpc b l)->itK b h' it l 0:=fun b h' it l e=>by
  cases b with
  | true=>exact⟨_,e,rfl,rfl⟩
  | false=>exact⟨_,e,rfl,rfl⟩
 refine callType_new F.called_zip (by decide) (F.typeCall_zip_2 _ _) (F.newCall_zip_2 _ _) (fun obj=>F.args_object_init_3 obj _ _) F.entry_zip_new (zmu b1 b2 l1 l2 xs ys) ⟨h1,h2,?_⟩
 have at_:∀(hh:Heap) (n:Nat) (o o':Obj),hh.objs.size=n->o.isFreed=false->(hh.push o).get? n=some o:=fun hh n o o' e f=>by
  rw[<- e]
  exact y0l _ f
 have g5:(zip5 b1 b2 s.heap l1 l2).get? (s.heap.objs.size+4)=some _:=at_ (zip4 b1 b2 s.heap l1 l2) (s.heap.objs.size+4) _ default (by simp only[y18]) rfl
 refine⟨⟨_,g5,rfl⟩,h _ g5 ?_ ?_ ?_ ?_ (by simp only[y18]) fun c o e=>y03 _ (y03 _ (y03 _ (y03 _ (y03 _ e))))⟩
 ·exact y03 _ (y03 _ (at_ _ _ _ default (by simp only[y18]) rfl))
 ·exact y03 _ (at_ _ _ _ default (by simp only[y18]) rfl)
 ·exact hi b1 _ _ _ (y03 _ (y03 _ (y03 _ (y03 _ (y0l _ rfl)))))
 ·exact hi b2 _ _ _ (y03 _ (y03 _ (y03 _ (at_ _ _ _ default (by simp only[y18]) rfl))))
end
end
section
variable [Tbl]
theorem zk5:typeLookup (.type "zip") "keys"=pure none:=by rw[typeLookup_type,builtinLookup_eq_fast];kernel_rfl
theorem zen:typeLookup (.type "zip") "__getattr__"=pure none:=by rw[typeLookup_type,builtinLookup_eq_fast];kernel_rfl
theorem zio:entryFor table "zip.__getattribute__"=some Builtin.«object.__getattribute__»:=entryFor_alias (id':="object.__getattribute__") (by kernel_rfl) (by decide +kernel) (by decide +kernel) (by kernel_rfl)
theorem zem (a:Addr) (vs:Array Value) (name:Str) (u:Tok) (hmiss:typeLookup (.type "zip") name=pure none) (hname:(["__module__","__name__","__qualname__","__doc__","__annotations__"]:List Str).contains name=false) (hsz:name.length+100<=y0j) :
  Meets (Builtin.«object.__getattribute__» ⟨[.ref a,.str name u],[]⟩) (fun A R s=>s.heap.get? a=some { cls:=.type "zip",dict:=none,data:=.fields vs,slots:=#[] }/\raisesAttr (.ref a) name A R s) :=
 Meets.of_wp fun prog w A R s hs=>by
  obtain⟨hp,g,d,tk,os⟩:=s
  obtain⟨hx,hs⟩:=hs
  have ty:(⟨hp,g,d,tk,os⟩:y04).TypeIs (.ref a) "zip":=⟨_,hx,rfl⟩
  unfold Builtin.«object.__getattribute__»
  repeat (any_goals (first|assumption|wp_step))
  simp only[hname,y1x,if_false]
  repeat (any_goals (first|assumption|wp_step))
  exact wpAny_raiseAttrError hs.1 hs.2 (attrMsg_fits (by decide +kernel) hsz)
theorem zrx {prog:y0q} {w:World} {A:Around} {E:Value->y04->Prop} {s:y04} {a:Addr} {vs:Array Value} {Q:Option Value->y04->Prop}
  (hx:s.heap.get? a=some { cls:=.type "zip",dict:=none,data:=.fields vs,slots:=#[] }) (hA:A.handled=none)
  (h:∀h' tk,(∀b o,s.heap.get? b=some o->h'.get? b=some o)->Q none { s with heap:=h',toks:=tk }) :
  y0u (model prog w) A (getAttr? (.ref a) "keys") Q E s:=by
 obtain⟨hp,g,d,tk,os⟩:=s
 have ty:∀tk',(⟨hp,g,d,tk',os⟩:y04).TypeIs (.ref a) "zip":=fun _=>⟨_,hx,rfl⟩
 have f1:=sub_AttributeError
 have f3:=F.slot_zip_getattribute.lookup
 have f4:=F.slot_zip_getattribute.bind (.ref a)
 have f5:=zen
 have nm:(["__module__","__name__","__qualname__","__doc__","__annotations__"]:List Str).contains ("keys":Str)=false:=by decide +kernel
 have sz:("keys":Str).length+100<=y0j:=by rw[sizeLine_eq];decide
 unfold getAttr? getAttrBy? getAttrBy
 repeat (any_goals (first|assumption|exact ty _|((with_reducible show y0u _ _ (call (Value.builtin "zip.__getattribute__") _ _) _ _ _);refine call_meets F.slot_zip_getattribute (ty _) zio (F.args_zip_getattribute_2 _ _) (zem a vs "keys" _ zk5 nm sz) ⟨hx,hA,fun h' tk' e hx'=>?_⟩)|wp_step))
 obtain⟨t',u',he⟩:=hx'.there
 show y0u _ _ (getattributeRaised _ _ _ _ _ _ _) _ _ _
 unfold getattributeRaised
 repeat (any_goals (first|assumption|wp_step))
 exact h _ _ hx'.keeps
section
variable {prog:y0q} {w:World} {K:Type} [DecidableEq K] {knd:PySem.KeyKind prog w K} {A:Around} {E:Value->y04->Prop} {s:y04} {R:Result->y04->Prop} {z TI TO i1 i2 l1 l2:Addr} {b1 b2:Bool} {xs ys:Array Value}
noncomputable def zjl (S z TI TO i1 i2 l1 l2:Addr) (b1 b2:Bool) (xs ys:Array Value) (i:Nat) (h:Heap):Prop:=IsPair h TI (.ref i1) (.ref i2)/\(∃a b,IsPair h TO a b)/\(itK b1 h i1 l1 i/\sqK b1 h l1 xs)/\(itK b2 h i2 l2 i/\sqK b2 h l2 ys) /\
 (ZipR h z TI TO .none (.bool false)\/∃(T:Nat) (oT:Obj) (f:Bool),ZipR h z TI TO (rawInt T) (.bool f)/\h.get? T=some oT/\T≠S/\T≠z/\T≠TO/\T≠i1/\T≠i2)
noncomputable def Kept (S z TO i1 i2:Addr) (h h':Heap):Prop:=∀c o,c≠S->c≠z->c≠TO->c≠i1->c≠i2->h.get? c=some o->h'.get? c=some o
theorem zm2 {S:Addr} {i:Nat} {Q:Option Value->y04->Prop} (hh:A.handled=none) (D:ZipApart z TI TO i1 i2 l1 l2) (st:zjl S z TI TO i1 i2 l1 l2 b1 b2 xs ys i s.heap) (hS:∃o,s.heap.get? S=some o) (hSz:S≠z/\S≠TO/\S≠i1/\S≠i2)
  (hx:i<xs.size) (hy:i<ys.size)
  (hQ:∀h' tk,IsPair h' s.heap.objs.size xs[i] ys[i]->zjl S z TI TO i1 i2 l1 l2 b1 b2 xs ys (i+1) h'->(∀o,s.heap.get? S=some o->h'.get? S=some o)->Kept S z TO i1 i2 s.heap h'->s.heap.objs.size<=h'.objs.size->Q (some (.ref s.heap.objs.size)) { s with heap:=h',toks:=tk }) :
  y0u (model prog w) A (pyNext (.ref z)) Q E s:=by
 obtain⟨hTI,⟨a,b,hTO⟩,q1,q2,hz⟩:=st
 have zlt:∀{f0 f1:Value},ZipR s.heap z TI TO f0 f1->z<s.heap.objs.size:=fun h=>y0c h
 have hT:s.TypeIs (.ref z) "zip":=by
  rcases hz with h|⟨T,oT,f,h,_⟩
  ·exact⟨_,h,rfl⟩
  ·exact⟨_,h,rfl⟩
 have ilt:i1<s.heap.objs.size/\i2<s.heap.objs.size:=by
  obtain⟨o1,e1,_⟩:=q1.1.obj
  obtain⟨o2,e2,_⟩:=q2.1.obj
  exact⟨y0c e1,y0c e2⟩
 have Slt:S<s.heap.objs.size:=by
  obtain⟨o,e⟩:=hS
  exact y0c e
 have TOlt:TO<s.heap.objs.size:=y0c hTO
 unfold pyNext
 refine y02 (wpAny_attempt (wpAny_callSpecial?_slot (name:=Str.ofString "__next__") hT F.slot_zip_next (wpAny_call_entry F.slot_zip_next hT F.entry_zip_next ?_ (F.args_zip_next_1 _))))
 rcases hz with hz|⟨T,oT,f,hz,hTo,t1,t2,t3,t4,t5⟩
 ·refine zkw (S1:=fun i h=>itK b1 h i1 l1 i/\sqK b1 h l1 xs) (S2:=fun i h=>itK b2 h i2 l2 i/\sqK b2 h l2 ys) D (z8l (A:=A.in1) b1 hh i1 l1 D.l1i1 xs) (z8l (A:=A.in1) b2 hh i2 l2 D.l2i2 ys) hz hTI hTO q1 q2 hx hy fun h' x y tk px py hz' hTO' s1 s2 hp hsz kp=>y06 ?_
  have ex:xs[i]=x:=y2k ((y1r hx).symm.trans px)
  have ey:ys[i]=y:=y2k ((y1r hy).symm.trans py)
  subst ex ey
  refine hQ h' tk hp ⟨kp _ _ D.TIz D.TITO D.TIi1 D.TIi2 hTI,⟨_,_,hTO'⟩,s1,s2,.inr ⟨_,_,false,hz',hp,?_⟩⟩ (fun o e=>kp _ _ hSz.1 hSz.2.1 hSz.2.2.1 hSz.2.2.2 e) (fun c o _ c2 c3 c4 c5 e=>kp c o c2 c3 c4 c5 e) (by omega)
  exact⟨y16 Slt,y16 (zlt hz),y16 TOlt,y16 ilt.1,y16 ilt.2⟩
 ·refine zqq (S1:=fun i h=>itK b1 h i1 l1 i/\sqK b1 h l1 xs) (S2:=fun i h=>itK b2 h i2 l2 i/\sqK b2 h l2 ys) D (z8l (A:=A.in1) b1 hh i1 l1 D.l1i1 xs) (z8l (A:=A.in1) b2 hh i2 l2 D.l2i2 ys) hz hTo hTI q1 q2 hx hy fun h' x y tk px py hz' s1 s2 hp hsz kp=>y06 ?_
  have ex:xs[i]=x:=y2k ((y1r hx).symm.trans px)
  have ey:ys[i]=y:=y2k ((y1r hy).symm.trans py)
  subst ex ey
  exact hQ h' tk hp ⟨kp _ _ D.TIz D.TIi1 D.TIi2 hTI,⟨a,b,kp _ _ D.TOz D.TOi1 D.TOi2 hTO⟩,s1,s2,.inr ⟨T,oT,true,hz',kp _ _ t2 t4 t5 hTo,t1,t2,t3,t4,t5⟩⟩ (fun o e=>kp _ _ hSz.1 hSz.2.2.1 hSz.2.2.2 e) (fun c o _ c2 c3 c4 c5 e=>kp c o c2 c4 c5 e) (by omega)
theorem zm3 {S:Addr} {i:Nat} {Q:Option Value->y04->Prop} (hh:A.handled=none) (D:ZipApart z TI TO i1 i2 l1 l2) (st:zjl S z TI TO i1 i2 l1 l2 b1 b2 xs ys i s.heap) (hSz:S≠z/\S≠TO/\S≠i1/\S≠i2) (hi:i=xs.size\/(i<xs.size/\i=ys.size))
  (hQ:∀h' tk,(∀o,s.heap.get? S=some o->h'.get? S=some o)->Kept S z TO i1 i2 s.heap h'->Q none { s with heap:=h',toks:=tk }) :
  y0u (model prog w) A (pyNext (.ref z)) Q E s:=by
 obtain⟨hTI,⟨a,b,hTO⟩,q1,q2,hz⟩:=st
 have hT:s.TypeIs (.ref z) "zip":=by
  rcases hz with h|⟨T,oT,f,h,_⟩
  ·exact⟨_,h,rfl⟩
  ·exact⟨_,h,rfl⟩
 unfold pyNext
 refine y02 (wpAny_attempt (wpAny_callSpecial?_slot (name:=Str.ofString "__next__") hT F.slot_zip_next (wpAny_call_entry F.slot_zip_next hT F.entry_zip_next ?_ (F.args_zip_next_1 _))))
 rcases hz with hz|⟨T,oT,f,hz,hTo,t1,t2,t3,t4,t5⟩
 ·refine zkv (S1:=fun i h=>itK b1 h i1 l1 i/\sqK b1 h l1 xs) (S2:=fun i h=>itK b2 h i2 l2 i/\sqK b2 h l2 ys) D (z8l (A:=A.in1) b1 hh i1 l1 D.l1i1 xs) (z8l (A:=A.in1) b2 hh i2 l2 D.l2i2 ys) hz hTI hTO q1 q2 hi fun h' e tk kp he=>?_
  obtain⟨o,ho,hc⟩:=he
  refine y02 (wpAny_isInstance (T:="StopIteration") (b:=true) ⟨o,ho,hc⟩ isSubtype_stop (y06 ?_))
  exact hQ h' tk (fun o e=>kp _ _ hSz.1 hSz.2.1 hSz.2.2.1 hSz.2.2.2 e) fun c o _ c2 c3 c4 c5 e=>kp c o c2 c3 c4 c5 e
 ·refine zg1 (S1:=fun i h=>itK b1 h i1 l1 i/\sqK b1 h l1 xs) (S2:=fun i h=>itK b2 h i2 l2 i/\sqK b2 h l2 ys) D (z8l (A:=A.in1) b1 hh i1 l1 D.l1i1 xs) (z8l (A:=A.in1) b2 hh i2 l2 D.l2i2 ys) hz hTo hTI q1 q2 hi fun h' e tk kp he=>?_
  obtain⟨o,ho,hc⟩:=he
  refine y02 (wpAny_isInstance (T:="StopIteration") (b:=true) ⟨o,ho,hc⟩ isSubtype_stop (y06 ?_))
  exact hQ h' tk (fun o e=>kp _ _ hSz.1 hSz.2.2.1 hSz.2.2.2 e) fun c o _ c2 c3 c4 c5 e=>kp c o c2 c4 c5 e
theorem zjl.frame {S:Addr} {i:Nat} {h h':Heap} (st:zjl S z TI TO i1 i2 l1 l2 b1 b2 xs ys i h) (hS:∀c∈[z,TI,TO,i1,i2,l1,l2],S≠c) (k:∀c o,c≠S->h.get? c=some o->h'.get? c=some o):zjl S z TI TO i1 i2 l1 l2 b1 b2 xs ys i h':=by
 obtain⟨hTI,⟨a,b,hTO⟩,q1,q2,hz⟩:=st
 have ne:∀c∈[z,TI,TO,i1,i2,l1,l2],c≠S:=fun c hc=>(hS c hc).symm
 refine⟨k _ _ (ne _ (by simp)) hTI,⟨a,b,k _ _ (ne _ (by simp)) hTO⟩,⟨q1.1.at fun o e=>k _ _ (ne _ (by simp)) e,q1.2.at fun o e=>k _ _ (ne _ (by simp)) e⟩,⟨q2.1.at fun o e=>k _ _ (ne _ (by simp)) e,q2.2.at fun o e=>k _ _ (ne _ (by simp)) e⟩,?_⟩
 rcases hz with hz|⟨T,oT,f,hz,hT,t⟩
 ·exact .inl (k _ _ (ne z (by simp)) hz)
 ·exact .inr ⟨T,oT,f,k _ _ (ne z (by simp)) hz,k _ _ t.1 hT,t⟩
theorem ziv (hh:A.handled=none) (D:ZipApart z TI TO i1 i2 l1 l2) (S:Addr) (hS:∀c∈[z,TI,TO,i1,i2,l1,l2],S≠c) (kvs:List (K×Value)) (hnd:(kvs.map (·.1)).Nodup) (hlen:kvs.length=min xs.size ys.size) (hz:kvs.length<=y0j)
  (hkv:∀(j:Nat) (kv:K×Value),kvs[j]?=some kv->∃key,xs[j]?=some key/\knd.is kv.1 key=true/\ys[j]?=some kv.2) :
  ∀(k i:Nat) (s:y04) (c:Int) (ct:Tok),kvs.length - i=k->i<=kvs.length->zjl S z TI TO i1 i2 l1 l2 b1 b2 xs ys i s.heap->s.heap.DictOf knd S (kvs.take i) ->
   (∀h' tk,Kept S z TO i1 i2 s.heap h'->h'.DictOf knd S kvs->R (.ok (.ret .none)) { s with heap:=h',toks:=tk }) ->
   codeAny (model prog w) A (.builtin "dict.update.loop" ⟨[.ref S,.ref z,.int c ct,.none],[]⟩) R s:=by
 have hSz:S≠z/\S≠TO/\S≠i1/\S≠i2:=⟨hS _ (by simp),hS _ (by simp),hS _ (by simp),hS _ (by simp)⟩
 intro k
 induction k with
 | zero =>
  intro i s c ct hk hi hst hd hR
  have hin:i=kvs.length:=by omega
  subst hin
  refine codeAny_builtin zir ?_
  rw[y1z zat _]
  refine y02 (m:=pyNext (.ref z)) (zm3 (A:=A.in1) hh D hst hSz (by omega) fun h' tk hSS kp=>?_)
  refine y02 (m:=Builtin.Dict.addKeywords S []) (y06 ?_)
  rw[List.take_of_length_le (y0o _)] at hd
  exact y06 (hR h' tk kp (hd.at fun o e=>hSS o e))
 | succ k ih =>
  intro i s c ct hk hi hst hd hR
  have hlt:i<kvs.length:=by omega
  have hx:i<xs.size:=by omega
  have hy:i<ys.size:=by omega
  have hSo:∃o,s.heap.get? S=some o:=by
   obtain⟨o,_,_,e,_⟩:=hd
   exact⟨o,e⟩
  refine codeAny_builtin zir ?_
  rw[y1z zat _]
  refine y02 (m:=pyNext (.ref z)) (zm2 (A:=A.in1) hh D hst hSo hSz hx hy fun h' tk hp st' hSS kp hsz=>?_)
  have hget:kvs[i]?=some kvs[i]:=y0v hlt
  obtain⟨key,e1,e2,e3⟩:=hkv i _ hget
  have ex:xs[i]=key:=y2k ((y1r hx).symm.trans e1)
  have ey:ys[i]=kvs[i].2:=y2k ((y1r hy).symm.trans e3)
  rw[ex,ey] at hp
  refine y02 (wpAny_holding (y02 (wpAny_tryCatch (zmn (s:={ s with heap:=h',toks:=tk }) hp rfl rfl ?_))))
  have hd1:h'.DictOf knd S (kvs.take i):=hd.at fun o e=>hSS o e
  refine wpAny_holding (wpAny_dictSet_pairs (s:={ s with heap:=h',toks:=tk }) e2 hd1 (fun h2 hd2 hsb=>?_) (by rw[List.length_take];omega))
  have hnew:kvs[i].1∉(kvs.take i).map (·.1):=fun q=>by
   rw[<- List.take_append_drop i kvs,List.map_append,y1p] at hnd
   refine hnd.2.2 _ q _ (y0m.mpr ⟨kvs[i],?_,rfl⟩) rfl
   rw[List.drop_eq_getElem_cons hlt]
   exact y0f
  rw[zme hnew,show kvs.take i++[(kvs[i].1,kvs[i].2)]=kvs.take (i+1) by rw[List.take_succ,hget];rfl] at hd2
  refine y06 ⟨plainId_quiet zat _,ih (i+1) _ _ _ (by omega) hlt (st'.frame hS fun c o hc e=>?_) hd2 fun h3 tk3 kp3 hd3=>hR h3 tk3 (fun c o c1 c2 c3 c4 c5 e=>kp3 c o c1 c2 c3 c4 c5 ?_) hd3⟩
  ·exact (hsb.2 c hc).trans e
  ·exact (hsb.2 c c1).trans (kp c o c1 c2 c3 c4 c5 e)
theorem zne {kvs:List (K×Value)} {Q:Value->y04->Prop} (hh:A.handled=none) (D:ZipApart z TI TO i1 i2 l1 l2) (st:zjl s.heap.objs.size z TI TO i1 i2 l1 l2 b1 b2 xs ys 0 s.heap) (hz:ZipR s.heap z TI TO .none (.bool false)) (hnd:(kvs.map (·.1)).Nodup) (hlen:kvs.length=min xs.size ys.size) (hsz:kvs.length<=y0j)
  (hkv:∀(j:Nat) (kv:K×Value),kvs[j]?=some kv->∃key,xs[j]?=some key/\knd.is kv.1 key=true/\ys[j]?=some kv.2)
  (h:∀(h':Heap) (tk:Nat),h'.DictOf knd s.heap.objs.size kvs->(∀c o,c≠z->c≠TO->c≠i1->c≠i2->s.heap.get? c=some o->h'.get? c=some o)->Q (.ref s.heap.objs.size) { s with heap:=h',toks:=tk }) :
  y0u (model prog w) A (call (.type "dict") [.ref z]) Q E s:=by
 obtain⟨hTI,⟨a,b,hTO⟩,q1,q2,_⟩:=id st
 have zlt:z<s.heap.objs.size:=y0c hz
 have hS:∀c∈[z,TI,TO,i1,i2,l1,l2],s.heap.objs.size≠c:=by
  obtain⟨o1,e1,_⟩:=q1.1.obj
  obtain⟨o2,e2,_⟩:=q2.1.obj
  have a1:=y0c hTI
  have a2:=y0c hTO
  have a3:=y0c e1
  have a4:=y0c e2
  have a5:=q1.2.lt
  have a6:=q2.2.lt
  intro c hc
  simp only[y09,y2g,or_false] at hc
  rcases hc with rfl|rfl|rfl|rfl|rfl|rfl|rfl
  ·exact y16 zlt
  ·exact y16 a1
  ·exact y16 a2
  ·exact y16 a3
  ·exact y16 a4
  ·exact y16 a5
  ·exact y16 a6
 refine callType_codes (Q₁:=fun obj s₁=>obj=.ref s.heap.objs.size/\s₁={ s with heap:=s.heap.push { cls:=.type "dict",data:=.dict #[] } }) F.kt_called_dict (F.kt_typeCall_dict_1 _) F.entry_dict_init (kt_code_dict_new _ ⟨rfl,rfl⟩) ?_
 rintro obj s₁ ⟨rfl,rfl⟩
 have d0:(s.heap.push { cls:=.type "dict",data:=.dict #[] }).DictOf knd s.heap.objs.size []:=Heap.DictOf.new s.heap
 have hz1:ZipR (s.heap.push { cls:=.type "dict",data:=.dict #[] }) z TI TO .none (.bool false):=y03 _ hz
 refine⟨d0.typeIs,F.args_dict_init_2 _ _,?_⟩
 unfold Builtin.«dict.__init__»
 refine y02 ?_
 unfold Builtin.Dict.selfAndRest
 refine y02 (wpAny_notOrdered_dict d0.typeIs ?_)
 show y0u _ _ (pure (s.heap.objs.size,[Value.ref z])) _ _ _
 refine y06 ?_
 show y0u _ _ (Builtin.Dict.updateFrom "dict.__init__" s.heap.objs.size (.ref z) [] .none) _ _ _
 unfold Builtin.Dict.updateFrom
 refine y02 (wpAny_typeOf (show Shared.TypeIs _ (.ref z) "zip" from ⟨_,hz1,rfl⟩) ?_)
 rw[if_pos (by decide)]
 refine y02 (zrx hz1 (by simp[hh]) fun h2 tk2 k2=>?_)
 have hz2:IsZip h2 z TI TO .none:=k2 _ _ hz1
 simp only[Option.isNone_none,if_true]
 refine y02 (wpAny_rule (y02 (wpAny_pyIter_zip (s:={ s with heap:=h2,toks:=tk2 }) hz2 (y06 ⟨plainId_quiet zat _,?_⟩))))
 have kp:∀c o,s.heap.get? c=some o->h2.get? c=some o:=fun c o e=>k2 _ _ (y03 _ e)
 refine ziv (knd:=knd) (by simp[hh]) D s.heap.objs.size hS kvs hnd hlen hsz hkv (kvs.length - 0) 0 _ 0 _ (by omega) (y29 _) (st.frame hS fun c o _ e=>kp c o e) (by simpa using d0.at fun o e=>k2 _ _ e) fun h' tk kp3 hd3=>⟨rfl,h h' tk hd3 fun c o c2 c3 c4 c5 e=>?_⟩
 exact kp3 c o (y0y (y0c e)) c2 c3 c4 c5 (kp c o e)
end
end
section
variable [Tbl]
theorem zd1 {n l1 l2:Nat} (h1:l1<n) (h2:l2<n):ZipApart (n+4) (n+2) (n+3) n (n+1) l1 l2:=by constructor <;> (show (_:Nat)≠_) <;> omega
section
variable {X:Cx} {a b:Expr} {f g:Fe} {p p2 pos pos2:Pos}
noncomputable def zipV:List L2.Key->List V->List (L2.Key×V)
 | k::ks,v::vs=>(k,v)::zipV ks vs
 | _,_=>[]
theorem zkx:∀(ks:List L2.Key) (vs:List V),(zipV ks vs).length=min ks.length vs.length
 | [],vs=>by simp[zipV]
 | k::ks,[]=>by simp[zipV]
 | k::ks,v::vs=>by simp only[zipV,y0w,zkx ks vs];omega
theorem zjo:∀{ks:List L2.Key} {vs:List V} {us:List Value},Vals vs us->KV (zipV ks vs) ((ks.zip us))
 | [],vs,us,_=>by
  rw[show zipV [] vs=[] from rfl,List.zip_nil_left]
  exact .nil
 | k::ks,_,_,.nil=>.nil
 | k::ks,_,_,.cons r t=>.cons ⟨rfl,r⟩ (zjo t)
theorem znl (X:Cx) {ks:List L2.Key} {us:List Value} {xs:List Value} (hx:Vals (ks.map kV) xs) (j:Nat) (kv:L2.Key×Value) (h:(ks.zip us)[j]?=some kv):∃key,xs.toArray[j]?=some key/\zih kv.1 key=true/\us.toArray[j]?=some kv.2:=by
 rw[List.getElem?_zip_eq_some] at h
 obtain⟨h1,h2⟩:=h
 obtain⟨u,hu,ru⟩:=hx.get (i:=j) (x:=kV kv.1) (by rw[y15,h1];rfl)
 refine⟨u,by simpa using hu,zs3 (P:=X.prog) (w:=X.w) ru,by simpa using h2⟩
noncomputable def zy3 (K:y00) (ta:TA):TE:=fun σ H Q=>ta σ H fun vs H1=>∃l1 l2 ks ys,vs=[.ref l1,.ref l2]/\SqL K H1 l1 (ks.map kV)/\SqT K H1 l2 ys/\((zipV ks ys).map (·.1)).Nodup/\(zipV ks ys).length<=1000/\∀q,H1 q=none->Q (.ref q) (upd H1 q (.dK (zipV ks ys)))
theorem zmm {ta:TA} (hc:X.calm=true) (hd:X.mg "dict"=none) (hz:X.mg "zip"=none) (ha:PA X [a,b] ta) (hg:Gl X "dict") (hgz:Gl X "zip") (he2:y0a [a,b] X.env=(false,eval a X.env)::y0a [b] X.env) (hpl2:(backTo pos2 (y0a [b] X.env)).any (·.1)=false)
  (he:y0a [.Call (.Name "zip" p2) [a,b] [] pos2] X.env=(false,eval (.Call (.Name "zip" p2) [a,b] [] pos2) X.env)::y0a [] X.env) (hpl:(backTo pos (y0a [] X.env)).any (·.1)=false) :
  PE X (.Call (.Name "dict" p) [.Call (.Name "zip" p2) [a,b] [] pos2] [] pos) (zy3 X.K ta):=by
 intro pins s σ H Q I h
 refine wpAny_Call_Name_kw (zcd I hg hd PyProof.Rows.boot_dict ?_)
 refine y1w ?_ he hpl
 rw[he]
 show y0u _ _ (spliced ((false,eval (.Call (.Name "zip" p2) [a,b] [] pos2) X.env)::backTo pos (y0a [] X.env))) _ _ s
 refine Calls.spliced_cons (wpAny_Call_Name_kw (zcd I hgz hz PyProof.Rows.boot_zip (y1w (thn (ha pos2 pins s σ H _ I h) fun us s1 ⟨vs,H1,I1,r1,q1⟩=>?_) he2 hpl2)))
 obtain⟨l1,l2,ks,ys,rfl,hq1,hq2,hnd,hle,q⟩:=q1
 obtain⟨u1,u2,rfl,e1,e2⟩:=r1.two
 cases e1
 cases e2
 obtain⟨its,rv,pl,hz1⟩:=I1.list hq1
 obtain⟨its2,rv2,pl2,hz2⟩:=I1.tuple hq2
 have k1:sqK true s1.heap l1 its.toArray:=pl.isList
 have k2:sqK false s1.heap l2 its2.toArray:=pl2
 refine zj2 k1 k2 fun h' hzr hTI hTO hi1 hi2 hsz hk=>Calls.spliced_nil ?_
 have hl1:ks.length=its.length:=by have:=rv.length;simpa using this
 have hl2:ys.length=its2.length:=rv2.length
 have hlen:(ks.zip its2).length=(zipV ks ys).length:=by rw[zkx,List.length_zip,hl2]
 have hk1:(ks.zip its2).map (·.1)=(zipV ks ys).map (·.1):=(zp4 (zjo rv2)).symm
 have big:=I1.big
 have sz5:h'.objs.size=s1.heap.objs.size+5:=hsz
 refine zne (knd:=z1i X.prog X.w) (kvs:=ks.zip its2) (s:={ s1 with heap:=h' }) (I1.ok.hd hc) (zd1 k1.lt k2.lt) ⟨hTI,⟨_,_,hTO⟩,⟨hi1,k1.at fun o e=>hk _ o e⟩,⟨hi2,k2.at fun o e=>hk _ o e⟩,.inl hzr⟩ hzr (by rw[hk1];exact hnd) (by rw[List.length_zip,y0h,y0h,hl1]) (by rw[hlen,sizeLine_eq];omega) (fun j kv e=>znl X rv j kv e) fun h2 tk hd2 kp2=>?_
 have keep:∀c o,s1.heap.get? c=some o->h2.get? c=some o:=fun c o e=>by
  have hc:c<s1.heap.objs.size:=y0c e
  have ne:∀m:Nat,c≠s1.heap.objs.size+m:=fun m=>y0y (y0x hc (Nat.le_add_right _ m))
  exact kp2 c o (ne 4) (ne 3) (ne 0) (ne 1) (hk c o e)
 have le5:s1.heap.objs.size<=h'.objs.size:=by rw[sz5];exact Nat.le_add_right _ _
 refine⟨.ref h'.objs.size,_,ze2 (s:=s1) I1 (o:=.dK (zipV ks ys)) (d':=s1.drawn) (t':=tk) keep le5 ⟨by rw[sizeLine_eq];omega,?_,ks.zip its2,zjo rv2,hd2⟩,rfl,q _ (I1.hok.fresh le5)⟩
 rw[beq_eq_false_iff_ne]
 exact y16 (y0x big le5)
variable {c C i j:Nat} {ns:List Str} {fn:Str} {o:Expr} {apos:Pos}
theorem zky {K:y00} {F:Addr->Prop} {H:Hp}:∀{lk lv:List T} {kvs:List (D.Key×T)} {ws ys:List V},zipD lk lv=some kvs->RepL K F H lk ws->RepL K F H lv ys->(∀t∈lk,∃k,z6i t=some k)->∃ks:List L2.Key,ws=ks.map kV/\RepD K F H kvs (zipV ks ys)/\(zipV ks ys).map (·.1)=kvs.map (·.1)
 | [],lv,kvs,ws,ys,e,h1,h2,_=>by
  cases e
  simp only[RepL] at h1
  subst h1
  exact⟨[],rfl,rfl,rfl⟩
 | t::lk,[],kvs,ws,ys,e,h1,h2,ha=>by
  cases e
  simp only[RepL] at h1 h2
  subst h2
  obtain⟨v,r,rfl,q,z⟩:=h1
  obtain⟨k,hk⟩:=ha t (by simp)
  have hv:v=kV k:=za2 (O:=fun _=>False) hk (.inl q)
  have key:∀{lk:List T} {r:List V},RepL K F H lk r->(∀t∈lk,∃k,z6i t=some k)->∃ks:List L2.Key,r=ks.map kV:=by
   intro lk
   induction lk with
   | nil =>
    intro r h _
    simp only[RepL] at h
    exact⟨[],h⟩
   | cons t lk ih =>
    intro r h ha
    simp only[RepL] at h
    obtain⟨v,r',rfl,q,z⟩:=h
    obtain⟨k,hk⟩:=ha t (by simp)
    obtain⟨ks,rfl⟩:=ih z fun u hu=>ha u (y05 _ hu)
    exact⟨k::ks,by rw[za2 (O:=fun _=>False) hk (.inl q)];rfl⟩
  obtain⟨ks,rfl⟩:=key z fun u hu=>ha u (y05 _ hu)
  exact⟨k::ks,by rw[hv];rfl,rfl,rfl⟩
 | t::lk,u::lv,kvs,ws,ys,e,h1,h2,ha=>by
  simp only[zipD,y01,y07] at e
  obtain⟨k,hk,r,er,rfl⟩:=e
  simp only[RepL] at h1 h2
  obtain⟨v,r1,rfl,q1,z1⟩:=h1
  obtain⟨w,r2,rfl,q2,z2⟩:=h2
  obtain⟨ks,rfl,rd,rk⟩:=zky er z1 z2 fun u hu=>ha u (y05 _ hu)
  exact⟨k::ks,by rw[za2 (O:=fun _=>False) hk (.inl q1)];rfl,⟨w,_,rfl,q2,rd⟩,by simp[zipV,rk]⟩
theorem zo3 (k:ClOk X.K c C ns) (hc:X.calm=true) (hd:X.mg "dict"=none) (hz:X.mg "zip"=none) (hn:PE X o (tVar i)) (ha:PEr X a f) (hb:PEr X b g) {dpos:Pos} (hj:ns[j]?=some fn:=by rfl) (hg:Gl X "dict":=by rfl) (hgz:Gl X "zip":=by rfl)
  (he2:y0a [a,b] X.env=(false,eval a X.env)::y0a [b] X.env:=by rfl) (he3:y0a [b] X.env=(false,eval b X.env)::y0a [] X.env:=by rfl) (hpl2:(backTo pos2 (y0a [b] X.env)).any (·.1)=false:=by rfl)
  (he:y0a [.Call (.Name "zip" p2) [a,b] [] pos2] X.env=(false,eval (.Call (.Name "zip" p2) [a,b] [] pos2) X.env)::y0a [] X.env:=by rfl) (hpl:(backTo dpos (y0a [] X.env)).any (·.1)=false:=by rfl)
  (hs:swapsWith (.Call (.Name "dict" p) [.Call (.Name "zip" p2) [a,b] [] pos2] [] dpos) (some (.Attribute o fn apos)) pos.line X.env=pure false:=by rfl) :
  PSt X (.Assign [.Attribute o fn apos] (.Call (.Name "dict" p) [.Call (.Name "zip" p2) [a,b] [] pos2] [] dpos) pos) (znh c i j f g) :=
 z2i (zog hn (zmm hc hd hz (z2y ha (z2y hb z6o he3) he2) hg hgz he2 hpl2 he hpl) hs) fun D σ H ⟨F₀,E,O,F,ε,o,r,e,kk⟩=>by
 simp only[znh,y01] at e
 obtain⟨tk,etk,tv,etv,e⟩:=e
 split at e
 next lk lv =>
  simp only[y01] at e
  obtain⟨kvs,ez,e⟩:=e
  split at e
  next hcond =>
   simp only[y07] at e
   obtain⟨ε',es,rfl⟩:=e
   refine⟨F₀,E,O,F,ε,_,r,etk,fun v1 F1 H1 x1 q1=>⟨F₀,E,O,F1,ε,_,r.ext x1,etv,fun v2 F2 H2 x2 q2=>?_⟩⟩
   obtain⟨l1,ws,rfl,hl1,hr1⟩:=(q1.ext x2).lst
   obtain⟨l2,ys,rfl,hl2,hr2⟩:=q2.tup
   obtain⟨ks,rfl,rd,rk⟩:=zky ez hr1 hr2 fun t ht=>Option.isSome_iff_exists.mp (hcond.2.2 t ht)
   have x12:=x1.trans x2
   refine⟨l1,l2,ks,ys,rfl,.inl hl1,hl2,by rw[rk];exact hcond.1,by have:=congrArg List.length rk;simp only[y14] at this;omega,fun q hq=>?_⟩
   have x3:=Ext.laid (o:=.dK (zipV ks ys)) x12.dom hq
   have x13:=x12.trans x3
   have r1:=r.ext x13
   have hnew:H q=none:=x12.same.none hq
   have nf:¬F2 q:=fun z=>by
    obtain⟨o,e⟩:=x12.dom q z
    rw[hq] at e
    cases e
   have es':=es
   unfold setF at es'
   simp only[y01] at es'
   obtain⟨⟨m,fs⟩,ho,_⟩:=es'
   obtain⟨ao,vs,dx,h1,hx,hl,ha,_⟩:=z8f k r1 ho
   have hold:=zlp r x13 hnew
   obtain⟨kp,r2⟩:=r1.setFld (s:=.dic kvs) (v:=.ref q) k ho h1 ha es ⟨q,_,rfl,z0e,RepD.kp x3.kp rd⟩ (fun d hd=>by
    have:d=q:=by simpa [fp0,rf] using hd
    subst this
    exact⟨nf,r.fr _ hnew,hold i _ _ (z2z ho) h1,fun k u w _ ek _ hk=>hold k u w ek hk⟩) hx hj
   refine⟨_,h1,ao,C,dx,_,rfl,hx,k.cls,za0 k hj,?_,kk σ F2 _ (x13.kp.trans kp) r2⟩
   have:=k.few
   simp only[List.length_zip]
   omega
  next=>cases e
 next=>cases e
end
end
section
variable [Tbl]
open AutoSeq1 (wpAny_loadPart')
noncomputable def oRep:T->T->Option T
 | .tuple xs,.int k=>if 2<=k/\k<1000/\xs≠[]/\xs.length*k.toNat<=big then some (.tuple (y0g k.toNat xs).flatten) else none
 | .list xs,.int k=>if 0<=k/\k<1000/\xs.length*k.toNat<=big then some (.list (y0g k.toNat xs).flatten) else none
 | _,_=>none
theorem zbl:fillsNumberSlot (.type "tuple") "mul"=pure false :=
 PySem.fillsNumberSlot_seq (id:="tuple.__mul__") (r:=some (.builtin "tuple.__rmul__")) F.slot_tuple_mul.lookup (by decide +kernel) F.slot_tuple_rmul.lookup (by decide +kernel)
theorem zgi:seqRepeat? (.type "tuple")=pure (some (.builtin "tuple.__mul__")):=by
 unfold seqRepeat?
 rw[PySem.seqSlot_of (T:="tuple") (name:="__mul__") (id:="tuple.__mul__") F.slot_tuple_mul.lookup (by decide +kernel),PySem.seqSlot_of (T:="tuple") (name:="__rmul__") (id:="tuple.__rmul__") F.slot_tuple_rmul.lookup (by decide +kernel)]
 rfl
theorem zk0 (a:Int) (t:Tok) (l:Addr) (its:Array Value) (n:Nat) (dd:Option Addr) (sl:Array (Option Value)):Meets (Builtin.«int.__rmul__» ⟨[.int a t,.ref l],[]⟩) (fun _ R s=>s.heap.get? l=some { cls:=.type "tuple",dict:=dd,data:=.seq its n,slots:=sl }/\R (.ok (.ret Value.notImplemented)) s) :=
 .of_wp fun prog w A R s h=>by
  obtain⟨hp,g,d,tk,os⟩:=s
  obtain⟨hl,h⟩:=h
  wp_walk
  exact⟨_,rfl,h⟩
theorem zmq (l:Addr) (its:Array Value) (n:Nat) (dd:Option Addr) (sl:Array (Option Value)) (k:Int) (t:Tok) (h1:2<=k) (h2:k<1000) (hne:its.isEmpty=false) (hz:its.size*k.toNat<=y0j) :
  Meets (Builtin.«tuple.__mul__» ⟨[.ref l,.int k t],[]⟩) (fun _ R s=>s.heap.get? l=some { cls:=.type "tuple",dict:=dd,data:=.seq its n,slots:=sl } /\
   R (.ok (.ret (.ref s.heap.objs.size))) { s with heap:=s.heap.push { cls:=.type "tuple",data:=.seq ((y0g k.toNat its).foldl (·++·) #[]) } }) :=
 .of_wp fun prog w A R s h=>by
  obtain⟨hp,g,d,tk,os⟩:=s
  obtain⟨hl,h⟩:=h
  have c1:¬(decide (k < -(2 ^ 63)) || decide (k >= 2 ^ 63))=true:=by simp;omega
  have c2:¬(its.isEmpty || k == 1)=true:=by simp[hne];omega
  have c3:¬(decide (k<=0) || its.isEmpty)=true:=by simp[hne];omega
  wp_walk using wpAny_loadPart' hl
  have hzk:(its.size:Int)*k=((its.size*k.toNat:Nat):Int):=by
   have:(k.toNat:Int)=k:=Int.toNat_of_nonneg (by omega)
   rw[<- this]
   push_cast
   simp
  have c4:¬((its.size:Int)*k > (2 ^ 63 - 1) / 8):=by
   rw[hzk]
   rw[sizeLine_eq] at hz
   omega
  have c5:¬Builtin.Tuple.tupleTooMany ((its.size:Int)*k)=true:=by
   unfold Builtin.Tuple.tupleTooMany
   rw[hzk,decide_eq_true_iff]
   omega
  rw[if_neg c1]
  wp_walk using wpAny_loadPart' hl
  rw[if_neg c2,if_neg c3,if_neg c4,if_neg c5]
  unfold y13
  refine y02 (wpAny_newObj_type (y06 ⟨_,rfl,h⟩) ?_)
  have e:=zb0 its.toList k.toNat []
  rw[y2q] at e
  show (List.foldl _ #[] (y0g k.toNat its)).size<=y0j
  have e':List.foldl (fun x1 x2=>x1++x2) #[] (y0g k.toNat its)=(y0g k.toNat its.toList).flatten.toArray:=by simpa using e
  rw[e',y0h,zk8,y24,Nat.mul_comm]
  exact hz
section
variable {X:Cx} {a b:Expr} {f g:Fe} {pos:Pos}
theorem zv1:OpR X (binaryOp .Mult) (fun x y H Q=>∃a k xs,x=.ref a/\y=.int k/\SqT X.K H a xs/\xs≠[]/\2<=k/\k<1000/\xs.length*k.toNat<=y0j/\∀p,H p=none->Q (.ref p) (upd H p (.tup (y0g k.toNat xs).flatten))):=by
 intro pins s σ H x y v u Q I rx ry h
 obtain⟨l,k,xs,rfl,rfl,hH,hne,h1,h2,hz,q⟩:=h
 cases rx
 obtain⟨t,rfl⟩:=ry
 obtain⟨its,r,pl,_⟩:=I.tuple hH
 have hl:=r.length
 obtain⟨⟨cls,dd,data,sl⟩,ho,hc,n,hd⟩:=id pl
 simp only at hc hd
 subst hc hd
 have hem:its.toArray.isEmpty=false:=by
  cases its with
  | nil =>
   cases xs with
   | nil=>exact absurd rfl hne
   | cons x xs=>simp at hl
  | cons=>rfl
 refine wpAny_binaryOp_repeat_ref (T:="tuple") (U:="int") (by decide) ⟨_,ho,rfl⟩ (fun s'=>typeIs_int s' k t) zbl F.fills_int_mul F.slot_int_rmul zgi F.slot_int_index.lookup
  (call_meets F.slot_int_rmul (typeIs_int s k t) F.entry_int_rmul (F.args_int_rmul_2 _ _) (zk0 k t l its.toArray n dd sl)
   ⟨ho,rfl,⟨_,ho,rfl⟩,call_meets F.slot_tuple_mul ⟨_,ho,rfl⟩ F.entry_tuple_mul (F.args_tuple_mul_2 _ _) (zmq l its.toArray n dd sl k t h1 h2 hem (by rw[y0h,<- hl];exact hz)) ⟨ho,?_⟩⟩)
 have e:List.foldl (fun x1 x2=>x1++x2) #[] (y0g k.toNat its.toArray)=(y0g k.toNat its).flatten.toArray:=by simpa using zb0 its k.toNat []
 have hz2:(y0g k.toNat xs).flatten.length<=y0j:=by rw[zk8,Nat.mul_comm];exact hz
 refine⟨.ref s.heap.objs.size,upd H s.heap.objs.size (.tup (y0g k.toNat xs).flatten),I.laid (t':=s.toks) (fun b u e=>y03 _ e) (y0o _) ⟨hz2,_,r.rep k.toNat,⟨_,y0l _ rfl,rfl,0,?_⟩⟩,rfl,q _ I.fresh⟩
 exact congrArg (fun z=>Data.seq z 0) e
theorem zv2:OpR X (binaryOp .Mult) (fun x y H Q=>∃l k xs,x=.ref l/\y=.int k/\Rd H l (.lst xs)/\0<=k/\k<1000/\xs.length*k.toNat<=y0j/\∀p,H p=none->Q (.ref p) (upd H p (.lst (y0g k.toNat xs).flatten))):=by
 intro pins s σ H x y v u Q I rx ry h
 obtain⟨l,k,xs,rfl,rfl,hH,h1,h2,hz,q⟩:=h
 cases rx
 obtain⟨t,rfl⟩:=ry
 obtain⟨z,its,n,r,hl,e⟩:=Inv.lstR I hH
 have hlen:its.toArray.size*k.toNat<=y0j:=by rw[y0h,<- hl];exact hz
 have hcap:¬its.toArray.size*k.toNat > (2 ^ 63 - 1) / 8:=by
  have:(y0j:Nat)<=(2 ^ 63 - 1) / 8:=by decide
  omega
 have hfit:¬(!Builtin.List.listFitsIndex k)=true:=by rw[fitsIndex_both (by omega) (by omega)];exact y28
 have hlong:¬Builtin.List.listTooLong (its.toArray.size*k.toNat)=true:=by rw[zgq hlen];exact y28
 have f0:∀m:Nat,List.foldl (fun x1 x2=>x1++x2) #[] (y0g m its.toArray)=(y0g m its).flatten.toArray:=fun m=>by simpa using zb0 its m []
 have hnew:List.foldl (fun x1 x2=>x1++x2) #[] (y0g (if its.toArray.isEmpty=true then 0 else k.toNat) its.toArray)=(y0g k.toNat its).flatten.toArray:=by
  rw[f0]
  cases its with
  | nil=>simp
  | cons a r'=>rw[if_neg (by simp)]
 refine wpAny_binaryOp_repeat_ref (T:="list") (U:="int") (by decide) ⟨_,e,rfl⟩ (fun s'=>typeIs_int s' k t) noFill_list_mul F.fills_int_mul F.slot_int_rmul repeat_list F.slot_int_index.lookup
  (call_meets F.slot_int_rmul (typeIs_int s k t) F.entry_int_rmul (F.args_int_rmul_2 _ _) (int___rmul___int_list k t l its.toArray n) ⟨e,rfl,⟨_,e,rfl⟩,call_meets F.slot_list_mul ⟨_,e,rfl⟩ F.entry_list_mul (F.args_list_mul_2 _ _) (AutoListH.list___mul___list_int_3 l its.toArray n k t hfit hcap hlong) ⟨e,?_⟩⟩)
 rw[hnew]
 exact⟨.ref _,_,I.lnew (t':=s.toks) (r.rep k.toNat) (by rw[zk8,Nat.mul_comm];exact hz),rfl,q _ I.fresh⟩
theorem RepL.rep {K:y00} {F:Addr->Prop} {H:Hp} {ts:List T} {vs:List V} (h:RepL K F H ts vs):∀k:Nat,RepL K F H (y0g k ts).flatten (y0g k vs).flatten
 | 0=>RepL.nil
 | k+1=>by
  rw[y1v,y1v,y2e,y2e]
  exact h.append (RepL.rep h k)
theorem zyl (ha:PEr X a f) (hb:PEr X b g):PEv X (.BinOp a .Mult b pos) (op2 oRep f g):=z0x (zml (zv1.or zv2) ha hb) (z7l (by
 intro O F H x y t vx vy Q d rx ry e k
 unfold oRep at e
 split at e
 next xs n =>
  split at e
  next hz =>
   cases e
   obtain⟨ax,vs,rfl,hs,hr⟩:=rx.tup
   rw[ry.int]
   refine .inl ⟨ax,_,vs,rfl,rfl,hs,fun z=>?_,hz.1,hz.2.1,by rw[z9v,<- hr.length];exact hz.2.2.2,fun p hp=>?_⟩
   ·subst z
    exact hz.2.2.1 (List.eq_nil_of_length_eq_zero (by rw[hr.length];rfl))
   ·have x1:=Ext.laid (o:=.tup (y0g n.toNat vs).flatten) d hp
    refine k _ F _ x1 ?_
    simp only[Rep]
    exact⟨p,_,rfl,SqT.of z0e,(hr.rep _).ext x1⟩
  next=>cases e
 next xs n =>
  split at e
  next hz =>
   cases e
   obtain⟨ax,vs,rfl,hs,hr⟩:=rx.lst
   rw[ry.int]
   refine .inr ⟨ax,_,vs,rfl,rfl,hs,hz.1,hz.2.1,by rw[z9v,<- hr.length];exact hz.2.2,fun p hp=>?_⟩
   have x1:=Ext.laidF (o:=.lst (y0g n.toNat vs).flatten) d hp
   refine k _ _ _ x1 ?_
   simp only[Rep]
   exact⟨p,_,rfl,.inr rfl,.inl z0e,(hr.rep _).ext x1⟩
  next=>cases e
 ·cases e))
end
end
section
variable [Tbl]
section
variable {X:Cx} {a b c:Expr} {f g h:Fe} {pos:Pos}
end
section
variable {X:Cx} {c C i j:Nat} {ns:List Str} {f:Str} {o:Expr} {pos apos:Pos}
theorem zt2 (k:ClOk X.K c C ns) (hn:PE X o (tVar i)) {bpos cpos:Pos} (hj:ns[j]?=some f:=by rfl) (hb:attributeBase o f X.env (eval o X.env)=eval o X.env:=by rfl)
  (hbase:attributeBase (.Attribute o f apos) "pop" X.env (eval (.Attribute o f apos) X.env)=eval (.Attribute o f apos) X.env:=by rfl) (hline:(bpos.endLine == cpos.line)=true:=by rfl)
  (hsw:swapsWith (.Call (.Attribute (.Attribute o f apos) "pop" bpos) [] [] cpos) none pos.line X.env=pure false:=by rfl) :
  PSt X (.Expr (.Call (.Attribute (.Attribute o f apos) "pop" bpos) [] [] cpos) pos) (popF c i j) :=
 z2i (z9y (ztb PySem.F.plainAttrs_list PySem.F.slot_list_pop PySem.F.type_list_pop zxh (z9p hn hb) hbase hline) hsw) fun D σ H ⟨F₀,H₀,O,F,ε,o,r,e,kk⟩=>by
 simp only[popF,y01,y07] at e
 obtain⟨ts,el,t,et,ε',es,rfl⟩:=e
 obtain⟨m,fs,ho,hs⟩:=ze7 el
 obtain⟨a,vs,dx,v,h1,hx,hl,ha,hv,⟨b,us,eb,hb,rb⟩,_⟩:=z82 k r ho hs hj
 subst eb
 rw[List.getLast?_eq_getElem?] at et
 obtain⟨w,hw,rw'⟩:=rb.get et
 refine⟨_,h1,a,C,dx,_,_,rfl,hx,k.cls,za0 k hj,hl,.inl ⟨rfl,_,SqL.of hb⟩,b,us,w,rfl,rfl,hb,by rw[<- rb.length];exact hw,?_⟩
 obtain⟨kp,r2⟩:=r.mutFld (s':=.own ts.dropLast) (o':=.lst us.dropLast) ho h1 ha es hs hv (by simp[fp0,rf]) rfl fun kp=>⟨b,_,rfl,z0e,by
  have:=(rb.kp kp).take (ts.length - 1)
  rw[<- List.dropLast_eq_take,rb.length,<- List.dropLast_eq_take] at this
  exact this⟩
 exact kk σ F _ kp r2
end
end
section
abbrev t0:Tbl:=⟨[],fun _=>[],fun _=>none⟩
def z0h (ns:List Int):T:=.list (ns.map .int)
def noL (K:y00):Bool:=K.all fun p=>match p.2.cls with
 | .type t=>t != "list"
 | _=>true
theorem zdw {α β:Type} [BEq α] [LawfulBEq α] {a:α} {b:β}:∀{l:List (α×β)},l.lookup a=some b->(a,b)∈l
  | [],h=>by cases h
  | (x,y)::l,h=>by
    rw[y1g] at h
    split at h
    next q =>
      cases h
      have:a=x:=by simpa using q
      subst this
      simp
    next=>exact y05 _ (zdw h)
theorem znu {K:y00} {H:Hp} {a:Addr} {ns:List Int} {d:List T->Option T} (hL:noL K=true) (hd:d [z0h ns]=some (.bool true)) (hS:SqL K H a (ns.map V.int)):@spT t0 K 1 d [.ref a] H (fun v _=>v=.bl true) fun _ _ _=>False:=by
 letI:=t0
 rcases hS with hS|⟨o,its,n,hk,hc,_⟩
 ·refine⟨rfl,fun b=>b=a,[z0h ns],.bool true,⟨?_,fun p hp=>by cases hp⟩,RepL.cons ?_ RepL.nil,hd,fun v F' H' x r=>by simpa [Rep] using r⟩
  ·rintro b rfl
   rcases hS with q|⟨u,q⟩
   ·exact⟨_,q⟩
   ·exact⟨_,q⟩
  ·simp only[z0h,Rep]
   exact⟨a,_,rfl,rfl,hS,zhw ns⟩
 ·have:=List.all_eq_true.mp hL _ (zdw hk)
  simp[hc] at this
theorem zvs {t:Tbl} (ht:t.tb=[]) {P:y0q} {w:World} {K:y00} {mg:Str->Option Value} {base:Heap} {k n:Nat} {f:Addr} {fd:y0b} {ps:List Str} {d:List T->Option T} (F:FnOk P w K mg base CX0 k f fd ps (@spT t K n d)):FnOk P w K mg base CX0 k f fd ps (@spT t0 K n d):=by
 have d1:∀{F:Addr->Prop} {H:Hp},@Dom t0 F H->@Dom t F H:=fun {F H} h=>@Dom.mk t F H (@Dom.dm t0 F H h) (fun p hp=>by rw[ht] at hp;cases hp)
 have d2:∀{F:Addr->Prop} {H:Hp},@Dom t F H->@Dom t0 F H:=fun {F H} h=>@Dom.mk t0 F H (@Dom.dm t F H h) (fun p hp=>by cases hp)
 refine F.imp fun vs H Q E h=>?_
 obtain⟨hl,F,ts,r,dom,q,e,kq⟩:=h
 exact⟨hl,F,ts,r,d1 dom,q,e,fun v F' H' x rv=>kq v F' H' (@Ext.mk t0 F H F' H' (@Ext.same t F H F' H' x) (@Ext.sub t F H F' H' x) (@Ext.new t F H F' H' x) (d2 (@Ext.dom t F H F' H' x))) rv⟩
end
section
section
variable [Tbl]
variable {X:Cx} {e:Expr} {es:List Expr} {fs:List Fe} {p pos:Pos}
end
end
section
variable [Tbl]
open AutoSeq1 (wpAny_loadPart')
section
variable {X:Cx} {a b:Expr} {f g:Fe} {pos:Pos}
end
end
section
variable [Tbl]
noncomputable def Itz (K:y00) (a b:Addr) (n m:Nat):It :=
 ⟨fun i H=>∃xs x ys y,SqT K H a xs/\xs[i]?=some x/\SqT K H b ys/\ys[i]?=some y/\xs.length=n/\ys.length=m,
  fun i H x H'=>∃p u v,H p=none/\x=.ref p/\H'=upd H p (.tup [u,v])/\(∀xs,SqT K H a xs->xs[i]?=some u)/\∀ys,SqT K H b ys->ys[i]?=some v,
  fun i H=>∃xs ys,SqT K H a xs/\SqT K H b ys/\xs.length=n/\ys.length=m/\(n<=i\/m<=i)⟩
noncomputable def TnZ (z TI TO i1 i2 l1 l2:Addr) (n m i:Nat) (h:Heap):Prop:=ZipR h z TI TO .none (.bool false)/\IsPair h TI (.ref i1) (.ref i2)/\(∃a b,IsPair h TO a b)/\h.IsTupleIter i1 l1 i/\h.IsTupleIter i2 l2 i/\i<=n/\i<=m
theorem zqu {P:y0q} {w:World} {K:y00} {es:List Expr} {k:Nat} {pos:Pos} {z TI TO i1 i2 l1 l2:Addr} {n m:Nat} (D:ZipApart z TI TO i1 i2 l1 l2):Turn P w K (.Tuple es k pos) (Itz K l1 l2 n m) [z,TI,TO,i1,i2] z (TnZ z TI TO i1 i2 l1 l2 n m) where
 mem:=by simp
 obj:=fun i h st b hb=>by
  obtain⟨hz,hTI,⟨a,c,hTO⟩,h1,h2,_⟩:=st
  simp only[y09,y2g,or_false] at hb
  rcases hb with rfl|rfl|rfl|rfl|rfl
  ·exact⟨_,hz,fun v q=>by cases (show Data.fields _=Data.cell v from q)⟩
  ·exact⟨_,hTI,fun v q=>by cases (show Data.seq _ _=Data.cell v from q)⟩
  ·exact⟨_,hTO,fun v q=>by cases (show Data.seq _ _=Data.cell v from q)⟩
  ·obtain⟨o,ho,_,hd⟩:=h1
   exact⟨o,ho,fun v q=>by rw[hd] at q;cases q⟩
  ·obtain⟨o,ho,_,hd⟩:=h2
   exact⟨o,ho,fun v q=>by rw[hd] at q;cases q⟩
 keep:=fun i h h' st kk=>by
  obtain⟨hz,hTI,⟨a,c,hTO⟩,h1,h2,hn⟩:=st
  exact⟨kk z (by simp) _ hz,kk TI (by simp) _ hTI,⟨a,c,kk TO (by simp) _ hTO⟩,h1.at fun o q=>kk i1 (by simp) o q,h2.at fun o q=>kk i2 (by simp) o q,hn⟩
 item:=by
  intro X hP hw hK hc i pins s σ H E I hf st hg
  subst hP hw hK
  obtain⟨xs,x,ys,y,hq1,hx,hq2,hy,hn,hm⟩:=hg
  obtain⟨its,rv,p1,_⟩:=I.tuple hq1
  obtain⟨its2,rv2,p2,_⟩:=I.tuple hq2
  obtain⟨u,hu,ru⟩:=rv.get hx
  obtain⟨v,hv,rv'⟩:=rv2.get hy
  obtain⟨hz,hTI,⟨a,c,hTO⟩,h1,h2,hin,him⟩:=st
  have hi:i<its.toArray.size:=by
   rw[y0h]
   exact (y0k.mp hu).1
  have hj:i<its2.toArray.size:=by
   rw[y0h]
   exact (y0k.mp hv).1
  have hlx:=rv.length
  have hly:=rv2.length
  have hT:s.TypeIs (.ref z) "zip":=⟨_,hz,rfl⟩
  have zlt:z<s.heap.objs.size:=y0c hz
  have TOlt:TO<s.heap.objs.size:=y0c hTO
  have TIlt:TI<s.heap.objs.size:=y0c hTI
  have i1lt:i1<s.heap.objs.size:=by obtain⟨o,e,_⟩:=h1;exact y0c e
  have i2lt:i2<s.heap.objs.size:=by obtain⟨o,e,_⟩:=h2;exact y0c e
  have hh:=I.ok.hd hc
  unfold pyNext
  refine y02 (wpAny_attempt (wpAny_callSpecial?_slot (name:=Str.ofString "__next__") hT F.slot_zip_next (wpAny_call_entry F.slot_zip_next hT F.entry_zip_next ?_ (F.args_zip_next_1 _))))
  refine zkw (S1:=fun i h=>h.IsTupleIter i1 l1 i/\h.IsTuple l1 its.toArray) (S2:=fun i h=>h.IsTupleIter i2 l2 i/\h.IsTuple l2 its2.toArray) D (z3z (A:=X.A.in1) hh i1 l1 D.l1i1 its.toArray) (z3z (A:=X.A.in1) hh i2 l2 D.l2i2 its2.toArray) hz hTI hTO ⟨h1,p1⟩ ⟨h2,p2⟩ hi hj fun h' x' y' tk px py hz' hTO' s1 s2 hp hsz kp=>y06 ?_
  have ex:x'=u:=by
   rw[<- Array.getElem?_toList,show (its.toArray).toList=its from rfl,hu] at px
   exact (y2k px).symm
  have ey:y'=v:=by
   rw[<- Array.getElem?_toList,show (its2.toArray).toList=its2 from rfl,hv] at py
   exact (y2k py).symm
  subst ex ey
  refine⟨_,rfl,wpAny_letOwnedTupleGo_zip hz' fun h2' hz2 hs2=>?_⟩
  have k2:∀b o,b≠z->b≠TO->b≠i1->b≠i2->s.heap.get? b=some o->h2'.get? b=some o:=fun b o b1 b2 b3 b4 q=>hs2.extBut b o b1 (kp b o b1 b2 b3 b4 q)
  have fr:H s.heap.objs.size=none:=I.hok.fresh (y0o _)
  have hT2:h2'.get? s.heap.objs.size=some { cls:=.type "tuple",data:=.seq #[x',y'] }:=hs2.extBut _ _ (y16 zlt) hp
  obtain⟨z0,z1,z2,z3,z4,z5⟩:=hf z (by simp)
  obtain⟨o0,o1,o2,o3,o4,o5⟩:=hf TO (by simp)
  obtain⟨f0,f1,f2,f3,f4,f5⟩:=hf i1 (by simp)
  obtain⟨g0,g1,g2,g3,g4,g5⟩:=hf i2 (by simp)
  obtain⟨t0,_⟩:=hf TI (by simp)
  have nH:∀b o,H b=some o->b≠z/\b≠TO/\b≠i1/\b≠i2:=fun b o q=>⟨fun e=>(by rw[e,z0] at q;cases q),fun e=>(by rw[e,o0] at q;cases q),fun e=>(by rw[e,f0] at q;cases q),fun e=>(by rw[e,g0] at q;cases q)⟩
  have k3:∀b o,b∉[z,TO,i1,i2]->s.heap.get? b=some o->h2'.get? b=some o:=fun b o hb q=>by
   simp only[y09,y2g,or_false,not_or] at hb
   exact k2 b o hb.1 hb.2.1 hb.2.2.1 hb.2.2.2 q
  have nH3:∀b o,H b=some o->b∉[z,TO,i1,i2]:=fun b o q=>by
   simp only[y09,y2g,or_false,not_or]
   exact nH b o q
  have hok2:HOk X.prog X.w (upd H s.heap.objs.size (.tup [x,y])) h2':=by
   intro b o q
   by_cases hb:b=s.heap.objs.size
   ·subst hb
    rw[z0e] at q
    cases q
    exact⟨by show 2<=y0j;decide,[x',y'],.cons ru (.cons rv' .nil),⟨_,hT2,rfl,_,rfl⟩⟩
   ·rw[z0c hb] at q
    refine (I.hok b o q).stay (fun c v hc' q'=>k3 c v ?_ q') (fun c q'=>?_) fun c ys q'=>?_
    ·rcases hc' with rfl|hc'
     ·exact nH3 _ _ q
     ·exact nH3 _ _ hc'
    ·rw[z0c (z0j q' fr)]
     exact q'
    ·rw[z0c (z0j q' fr)]
     exact q'
  have I2:L2.Inv X pins σ (upd H s.heap.objs.size (.tup [x,y])) { s with heap:=h2',toks:=tk }:=by
   refine I.step (g':=s.gens) (d':=s.drawn) (ch:=[z,TO,i1,i2]) (fun b hb=>?_) (fun b o _ _ hc' q _=>k3 b o hc' q) (fun b o _ _ hc' q _=>⟨o.slots,k3 b o hc' q⟩) (fun b o _ q n=>?_)
    (fun b o hc' q=>⟨o,k3 b o hc' q⟩) (fun b ys q=>by rw[z0c (z0j q fr)];exact q) (fun b o u q=>by rw[z0c (z0j q fr)];exact q) (fun b ps q=>⟨#[],by rw[z0c (z0j q fr),q];simp⟩) (fun m hm=>?_) hok2 I.bare
   ·simp only[y09,y2g,or_false] at hb
    rcases hb with rfl|rfl|rfl|rfl
    ·exact⟨z3,z1,z4,z5⟩
    ·exact⟨o3,o1,o4,o5⟩
    ·exact⟨f3,f1,f4,f5⟩
    ·exact⟨g3,g1,g4,g5⟩
   ·rw[z0c (y0y (y0c q))]
    exact n
   ·obtain⟨o,es',ep,ho',r⟩:=hm
    exact⟨o,es',ep,k2 _ o (Ne.symm z1) (Ne.symm o1) (Ne.symm f1) (Ne.symm g1) ho',r⟩
  refine⟨.ref s.heap.objs.size,_,I2,rfl,⟨s.heap.objs.size,x,y,fr,rfl,rfl,fun ws hw=>by rw[I.tuple_inj hw hq1];exact hx,fun ws hw=>by rw[I.tuple_inj hw hq2];exact hy⟩,⟨hz2,hs2.extBut _ _ D.TIz (kp _ _ D.TIz D.TITO D.TIi1 D.TIi2 hTI),⟨_,_,hs2.extBut _ _ D.TOz hTO'⟩,s1.1.at fun o q=>hs2.extBut _ _ D.i1z q,s2.1.at fun o q=>hs2.extBut _ _ D.i2z q,?_,?_⟩,fun b hb=>?_⟩
  ·rw[y0h] at hi
   omega
  ·rw[y0h] at hj
   omega
  ·simp only[y09,y2g,or_false] at hb
   rcases hb with rfl|rfl|rfl|rfl|rfl
   ·rw[z0c (y0y zlt)]
    exact z0
   ·rw[z0c (y0y TIlt)]
    exact t0
   ·rw[z0c (y0y TOlt)]
    exact o0
   ·rw[z0c (y0y i1lt)]
    exact f0
   ·rw[z0c (y0y i2lt)]
    exact g0
 done:=by
  intro X hP hw hK hc i pins s σ H E I hf st hg
  subst hP hw hK
  obtain⟨xs,ys,hq1,hq2,hn,hm,hs⟩:=hg
  obtain⟨its,rv,p1,_⟩:=I.tuple hq1
  obtain⟨its2,rv2,p2,_⟩:=I.tuple hq2
  obtain⟨hz,hTI,⟨a,c,hTO⟩,h1,h2,hin,him⟩:=st
  have hlx:=rv.length
  have hly:=rv2.length
  have hT:s.TypeIs (.ref z) "zip":=⟨_,hz,rfl⟩
  have hh:=I.ok.hd hc
  have hk:i=its.toArray.size\/(i<its.toArray.size/\i=its2.toArray.size):=by
   rw[y0h,y0h]
   omega
  unfold pyNext
  refine y02 (wpAny_attempt (wpAny_callSpecial?_slot (name:=Str.ofString "__next__") hT F.slot_zip_next (wpAny_call_entry F.slot_zip_next hT F.entry_zip_next ?_ (F.args_zip_next_1 _))))
  refine zkv (S1:=fun i h=>h.IsTupleIter i1 l1 i/\h.IsTuple l1 its.toArray) (S2:=fun i h=>h.IsTupleIter i2 l2 i/\h.IsTuple l2 its2.toArray) D (z3z (A:=X.A.in1) hh i1 l1 D.l1i1 its.toArray) (z3z (A:=X.A.in1) hh i2 l2 D.l2i2 its2.toArray) hz hTI hTO ⟨h1,p1⟩ ⟨h2,p2⟩ hk fun h' e tk kp he=>?_
  obtain⟨o,ho,hc'⟩:=he
  refine y02 (wpAny_isInstance (T:="StopIteration") (b:=true) ⟨o,ho,hc'⟩ isSubtype_stop (y06 ⟨rfl,?_⟩))
  obtain⟨z0,z1,z2,z3,z4,z5⟩:=hf z (by simp)
  obtain⟨o0,o1,o2,o3,o4,o5⟩:=hf TO (by simp)
  obtain⟨f0,f1,f2,f3,f4,f5⟩:=hf i1 (by simp)
  obtain⟨g0,g1,g2,g3,g4,g5⟩:=hf i2 (by simp)
  have k3:∀b o,b∉[z,TO,i1,i2]->s.heap.get? b=some o->h'.get? b=some o:=fun b o hb q=>by
   simp only[y09,y2g,or_false,not_or] at hb
   exact kp b o hb.1 hb.2.1 hb.2.2.1 hb.2.2.2 q
  have nH3:∀b o,H b=some o->b∉[z,TO,i1,i2]:=fun b o q=>by
   simp only[y09,y2g,or_false,not_or]
   exact⟨fun e=>(by rw[e,z0] at q;cases q),fun e=>(by rw[e,o0] at q;cases q),fun e=>(by rw[e,f0] at q;cases q),fun e=>(by rw[e,g0] at q;cases q)⟩
  have hok2:HOk X.prog X.w H h':=by
   intro b o q
   refine (I.hok b o q).stay (fun c v hc' q'=>k3 c v ?_ q') (fun c q'=>q') fun c ys q'=>q'
   rcases hc' with rfl|hc'
   ·exact nH3 _ _ q
   ·exact nH3 _ _ hc'
  refine I.step (g':=s.gens) (d':=s.drawn) (ch:=[z,TO,i1,i2]) (fun b hb=>?_) (fun b o _ _ hc' q _=>k3 b o hc' q) (fun b o _ _ hc' q _=>⟨o.slots,k3 b o hc' q⟩) (fun b o _ q n=>n)
    (fun b o hc' q=>⟨o,k3 b o hc' q⟩) (fun b ys q=>q) (fun b o u q=>q) (fun b ps q=>⟨#[],by rw[q];simp⟩) (fun m hm=>?_) hok2 I.bare
  ·simp only[y09,y2g,or_false] at hb
   rcases hb with rfl|rfl|rfl|rfl
   ·exact⟨z3,z1,z4,z5⟩
   ·exact⟨o3,o1,o4,o5⟩
   ·exact⟨f3,f1,f4,f5⟩
   ·exact⟨g3,g1,g4,g5⟩
  ·obtain⟨o,es',ep,ho',r⟩:=hm
   exact⟨o,es',ep,kp _ o (Ne.symm z1) (Ne.symm o1) (Ne.symm f1) (Ne.symm g1) ho',r⟩
 self:=fun _ _ _ _ _ st h=>wpAny_pyIter_zip (f0:=.none) st.1 h
noncomputable def iZp (K:y00) (ta:TA):TI:=fun σ H R=>ta σ H fun vs H1=>∃a b xs ys,vs=[.ref a,.ref b]/\SqT K H1 a xs/\SqT K H1 b ys/\R (Itz K a b xs.length ys.length) H1
section
variable {X:Cx} {es:List Expr} {k:Nat} {p pos p2:Pos} {a b:Expr} {f g:Fe}
theorem zx1 {ta:TA} (hg:Gl X "zip") (hm:X.mg "zip"=none) (ha:PA X [a,b] ta) (hs:y0a [a,b] X.env=(false,eval a X.env)::y0a [b] X.env) (hpl:(backTo pos (y0a [b] X.env)).any (·.1)=false):PI X (.Tuple es k p2) (.Call (.Name "zip" p) [a,b] [] pos) (iZp X.K ta):=by
 intro pins s σ H R I h
 refine Call_ (zcd I hg hm PyProof.Rows.boot_zip (y1w (thn (ha pos pins s σ H _ I h) fun us s1 ⟨vs,H1,I1,r1,q1⟩=>?_) hs hpl))
 obtain⟨l1,l2,xs,ys,rfl,hq1,hq2,q⟩:=q1
 obtain⟨u1,u2,rfl,e1,e2⟩:=r1.two
 cases e1
 cases e2
 obtain⟨its,rv,pl,_⟩:=I1.tuple hq1
 obtain⟨its2,rv2,pl2,_⟩:=I1.tuple hq2
 have k1:sqK false s1.heap l1 its.toArray:=pl
 have k2:sqK false s1.heap l2 its2.toArray:=pl2
 refine zj2 k1 k2 fun h' hzr hTI hTO hi1 hi2 hsz hk=>wpAny_pyIter_zip (f0:=.none) hzr ?_
 refine⟨s1.heap.objs.size+4,[s1.heap.objs.size+4,s1.heap.objs.size+2,s1.heap.objs.size+3,s1.heap.objs.size,s1.heap.objs.size+1],_,_,H1,rfl,I1.kept (t':=s1.toks) hk,zqu (zd1 k1.lt k2.lt),⟨hzr,hTI,⟨_,_,hTO⟩,hi1,hi2,y29 _,y29 _⟩,fun b hb=>?_,q⟩
 have hb':s1.heap.objs.size<=b:=by
  simp only[y09,y2g,or_false] at hb
  rcases hb with rfl|rfl|rfl|rfl|rfl
  ·exact Nat.le_add_right _ _
  ·exact Nat.le_add_right _ _
  ·exact Nat.le_add_right _ _
  ·exact y0o _
  ·exact Nat.le_add_right _ _
 exact I1.fpOk hb' (I1.hok.fresh hb')
def zipT (ts us:List T):List T:=List.zipWith (fun x y=>.tuple [x,y]) ts us
theorem zs6 {K:y00} {a b:Addr} {F1:Addr->Prop} {H1:Hp} {ts us:List T} {vs ws:List V} (hr:SqT K H1 a vs) (q:RepL K F1 H1 ts vs) (hr2:SqT K H1 b ws) (q2:RepL K F1 H1 us ws):ItOk K (Itz K a b vs.length ws.length) F1 H1 (zipT ts us) where
 go:=fun i F H t kp d e=>by
  have hi:=(y0k.mp e).1
  simp only[zipT,List.length_zipWith] at hi
  obtain⟨v,h1,_⟩:=q.get (y0v (show i<ts.length by omega))
  obtain⟨v2,h2,_⟩:=q2.get (y0v (show i<us.length by omega))
  exact⟨vs,v,ws,v2,kp.tup _ _ hr,h1,kp.tup _ _ hr2,h2,rfl,rfl⟩
 yld:=fun i F H t x H' kp d e y=>by
  obtain⟨p,v,v2,hp,rfl,rfl,y1,y2⟩:=y
  have hi:=(y0k.mp e).1
  simp only[zipT,List.length_zipWith] at hi
  have hi1:i<ts.length:=by omega
  have hi2:i<us.length:=by omega
  obtain⟨v',h1,h2⟩:=(q.kp kp).get (y0v hi1)
  obtain⟨v2',h3,h4⟩:=(q2.kp kp).get (y0v hi2)
  have h5:=y1 vs (kp.tup _ _ hr)
  rw[h1] at h5
  cases h5
  have h6:=y2 ws (kp.tup _ _ hr2)
  rw[h3] at h6
  cases h6
  have x1:=Ext.laid (o:=.tup [v,v2]) d hp
  refine⟨F,x1,?_⟩
  have et:t=.tuple [ts[i],us[i]]:=by
   rw[zipT,List.getElem?_zipWith,y0v hi1,y0v hi2] at e
   exact (y2k e).symm
  subst et
  simp only[Rep]
  exact⟨p,_,rfl,SqT.of z0e,RepL.cons (h2.ext x1) (RepL.cons (h4.ext x1) RepL.nil)⟩
 stop:=fun i F H kp hl=>⟨vs,ws,kp.tup _ _ hr,kp.tup _ _ hr2,rfl,rfl,by
  simp only[zipT,List.length_zipWith] at hl
  rw[<- q.length,<- q2.length]
  omega⟩
theorem zxr (hm:X.mg "zip"=none) (ha:PEv X a f) (hb:PEv X b g) (hg:Gl X "zip":=by rfl) (hs:y0a [a,b] X.env=(false,eval a X.env)::y0a [b] X.env:=by rfl) (hs2:y0a [b] X.env=(false,eval b X.env)::y0a [] X.env:=by rfl) (hpl:(backTo pos (y0a [b] X.env)).any (·.1)=false:=by rfl) :
  PIt X (.Tuple es k p2) (.Call (.Name "zip" p) [a,b] [] pos) (zs5 (z31 f) (z31 g)):=zjm (zx1 hg hm (z2y ha (z2y hb z6o hs2) hs) hs hpl) fun σ H R ⟨F₀,H₀,O,F,ε,ts,r,e,k⟩=>by
 simp only[zs5,z31,y07,y01] at e
 obtain⟨xs,⟨t,et,e1⟩,ys,⟨u,eu,e2⟩,rfl⟩:=e
 split at e1
 ·cases e1
  split at e2
  ·cases e2
   refine⟨F₀,H₀,O,F,ε,_,r,et,fun v F1 H1 x1 q1=>⟨F₀,H₀,O,F1,ε,_,r.ext x1,eu,fun w F2 H2 x2 q2=>?_⟩⟩
   have q1':=q1.ext x2
   simp only[Rep] at q1' q2
   obtain⟨a1,vs,rfl,hs1,hr1⟩:=q1'
   obtain⟨a2,ws,rfl,hs2,hr2⟩:=q2
   exact⟨a1,a2,vs,ws,rfl,hs1,hs2,k _ F2 H2 (x1.trans x2) (zs6 hs1 hr1 hs2 hr2)⟩
  ·cases e2
 ·cases e1
end
end
section
section
variable [Tbl]
variable {X:Cx} {a b:Expr} {f g:Fe} {pos:Pos}
end
end
section
section
variable [Tbl]
variable {X:Cx} {e:Expr} {f:Fe} {pos:Pos}
end
end
section
variable [Tbl]
section
variable {X:Cx} {a b c:Expr} {f g h:Fe} {pos:Pos}
end
section
variable {X:Cx} {pos:Pos}
end
section
variable {X:Cx} {a:Expr} {f:Fe} {p px pos pos2:Pos}
end
end
section
section
variable {X:Cx} {pins:List (Addr×Obj)} {σ:L2.St} {H:Hp} {s:y04} {a:Addr} {d:V} {r:Value} {A:Around} {E:Value->y04->Prop}
end
section
variable {X:Cx} {o e f:Expr} {apos cpos:Pos} {td ty tx:TE}
end
variable [Tbl]
section
variable {X:Cx} {a b:Expr} {f g:Fe} {x:Str} {px apos cpos pos:Pos}
end
section
variable {X:Cx} {a b:Expr} {f g:Fe} {p p2 pos pos2:Pos}
variable {x:Str} {px dpos:Pos}
end
end
section
variable [Tbl]
open PySem.W (kas_ask kas_sort kat_run kat_snds kat_lt kat_kind KatTups KatLex KatGo kas_item KasT)
def hT (x:Str×List T):T:=.tuple (.str x.1::x.2)
section
variable {prog:y0q} {w:World} {A:Around} {s:y04}
end
section
variable {X:Cx}
variable {e:Expr} {es:List Expr} {fs:List Fe} {p pos:Pos}
end
section
variable {X:Cx} {o e:Expr} {f g:Fe} {apos cpos:Pos}
end
section
variable {X:Cx} {a b:Expr} {f g:Fe} {pos:Pos}
end
end
section
section
variable {prog:y0q} {w:World} {A:Around} {E:Value->y04->Prop} {s:y04} {ar:Array Keyed}
end
variable [Tbl]
section
variable {X:Cx}
variable {e:Expr} {es:List Expr} {fs:List Fe} {p pos:Pos}
end
end
section
open AutoSeq1 (wpAny_loadPart')
section
variable {prog:y0q} {w:World} {A:Around} {E:Value->y04->Prop} {s:y04}
theorem zvj {T nid:String} {me:Value} {as:List Value} {kws:List (Str×Value)} (hl:typeLookup (.type T) "__init__"=pure (some (.builtin "object.__init__"))) (hm:Bind.madeBy (.type T)=pure (some nid)) (hne:(some nid != some "object.__new__")=true) :
  Meets (Builtin.«object.__init__» ⟨me::as,kws⟩) (fun _ R s=>s.TypeIs me T/\R (.ok (.ret .none)) s):=.of_wp fun prog w A R s hs=>by
 obtain⟨hT,hq⟩:=hs
 cases as with
 | nil =>
  cases kws with
  | nil=>exact y06 ⟨_,rfl,hq⟩
  | cons k kws =>
   repeat any_goals first|assumption|wp_step
   exact⟨_,rfl,hq⟩
 | cons a as =>
  repeat any_goals first|assumption|wp_step
  exact⟨_,rfl,hq⟩
theorem zko {T nid:String} {Bn:Builtin} {as:List Value} {kws:List (Str×Value)} {S:PySem.Spec} {Q:Value->y04->Prop} (ft:TypeCalled T nid "object.__init__") (hne:(some nid != some "object.__new__")=true)
  (hct:checkTypeCall T ⟨as,kws⟩=pure ()) (hcn:checkBuiltinCall nid ⟨.type T::as,kws⟩=pure ()) (hok:∀o,argsOk "object.__init__" ⟨o::as,kws⟩) (ent:entryFor table nid=some Bn) (g:Meets (Bn ⟨.type T::as,kws⟩) S)
  (h:S A.in1 (wants (fun o s1=>s1.TypeIs o T/\Q o s1) E) s):y0u (model prog w) A (call (.type T) as kws) Q E s:=by
 obtain⟨c,tl,hmro⟩:=ft.mro
 have hmade:=ft.made
 have hsub:=ft.sub
 refine wpAny_call (codeAny_of_tree ?_)
 show y0u _ _ (callAny (.type T) _) _ _ _
 refine y06 ⟨Code.quiet_builtin _ (by decide +kernel),codeAny_builtin F.entry_type_call ?_⟩
 rw[Around.under_plain (weight_type_call_type T as kws) (units_type_call_type T as kws)]
 have no1:=ft.notType
 have no2:=ft.canCreate
 repeat any_goals first|assumption|wp_step
 refine codeAny_mono (codeAny_call_builtin ft.plain ent (wpAny_of_eq hcn (g prog w A.in1 _ s h))) fun r s1 hr=>?_
 cases r with
 | error e=>exact hr
 | ok fl =>
  cases fl with
  | ret obj =>
   obtain⟨hT,hQ⟩:=hr
   have li:=ft.init.lookup
   have bi:=ft.init.bind obj
   repeat any_goals first|assumption|wp_step
   refine codeAny_mono (codeAny_call_builtin ft.init.plain F.entry_object_init (ft.init.check _ _ _ _ _ _ _ _ hT (hok obj) (zvj li ft.made hne prog w A.in1 (wants (fun r s2=>r=Value.none/\Q obj s2) E) s1 ⟨hT,rfl,hQ⟩))) fun r2 s2 hr2=>?_
   cases r2 with
   | error e=>exact hr2
   | ok f2 =>
    cases f2 with
    | ret r =>
     obtain⟨rfl,hq⟩:=hr2
     repeat any_goals first|assumption|wp_step
    | _=>exact hr2.elim
  | _=>exact hr.elim
end
theorem zpu (l:Addr) (items:Array Value) (n:Nat) (dct:Option Addr) (sl:Array (Option Value)) (t:Tok) :
  Meets (Builtin.«enumerate.__new__» ⟨[.type "enumerate",.ref l],[("start",.int 1 t)]⟩) (fun _ R s=>s.heap.get? l=some { cls:=.type "tuple",dict:=dct,data:=.seq items n,slots:=sl } /\
   R (.ok (.ret (.ref (s.heap.push { cls:=.type "tuple_iterator",data:=.fields #[.ref l,.int 0 0] }).objs.size)))
    { s with heap:=(s.heap.push { cls:=.type "tuple_iterator",data:=.fields #[.ref l,.int 0 0] }).push { cls:=.type "enumerate",data:=.fields #[.none,.bool false,.ref s.heap.objs.size,rawInt 1,.none,.none] } }) :=
 .of_wp fun prog w A R s h=>by
  obtain⟨hp,g,d,tk,os⟩:=s;obtain⟨hl,h⟩:=h
  have hsub:=sub_enumerate
  have hL:Heap.IsTuple (Shared.heap ⟨hp,g,d,tk,os⟩) l items:=⟨_,hl,rfl,n,rfl⟩
  wp_walk using wpAny_loadPart' hl
  refine wpAny_stack_any fun st=>y06 ?_
  split
  ·rename_i c _ _ _ _ _
   cases (c == Value.type "enumerate")
   ·wp_walk using wpAny_loadPart' hl,wpAny_pyIter_tuple hL
    exact⟨_,rfl,h⟩
   ·wp_walk using wpAny_loadPart' hl,wpAny_pyIter_tuple hL
    exact⟨_,rfl,h⟩
  ·wp_walk using wpAny_loadPart' hl,wpAny_pyIter_tuple hL
   exact⟨_,rfl,h⟩
theorem zm9 (a:Value) (t:Tok):checkTypeCall "enumerate" ⟨[a],[("start",.int 1 t)]⟩=pure ():=by kernel_rfl
theorem zoy (a:Value) (t:Tok):checkBuiltinCall "enumerate.__new__" ⟨[.type "enumerate",a],[("start",.int 1 t)]⟩=pure ():=by kernel_rfl
theorem zn0 (o a:Value) (t:Tok):argsOk "object.__init__" ⟨[o,a],[("start",.int 1 t)]⟩:=by unfold argsOk;kernel_rfl
end
section
variable [Tbl]
section
variable {M:Model} {A:Around} {E:Value->y04->Prop} {s:y04} {env:Env}
theorem cw_kw {pos:Pos} {T:String} {e:Expr} {rest:List Expr} {kws:List Keyword} {Q:Value->y04->Prop}
  (h:y0u M A (spliced (backTo pos (y0a (e::rest) env))) (fun vs s1=>y0u M A (evalAll ((backToKw pos (keywordEach kws env)).map (·.2))) (fun ks s2=>y0u M A (call (.type T) vs (((backToKw pos (keywordEach kws env)).filterMap (·.1)).zip ks)) Q E s2) E s1) E s)
  (he:backTo pos (y0a (e::rest) env)=(false,eval e env)::backTo pos (y0a rest env):=by rfl) (hp:(backTo pos (y0a (e::rest) env)).any (·.1)=false:=by rfl)
  (ha:(backToKw pos (keywordEach kws env)).all (·.1.isSome)=true:=by rfl) (hk:(backToKw pos (keywordEach kws env)).any (·.1.isNone)=false:=by rfl) :
  y0u M A (callWith pos (.type T) [] (backTo pos (y0a (e::rest) env)) (backToKw pos (keywordEach kws env))) Q E s:=by
 have hev:y0u M A (evalArgs (.type T) true (backTo pos (y0a (e::rest) env)) (backToKw pos (keywordEach kws env))) (fun a s1=>y0u M A (call (.type T) ([]++a.pos) a.kw) Q E s1) E s:=by
  rw[he] at h ⊢
  exact evalArgs_kwB ha h
 unfold callWith
 refine y02 (wpAny_holding (y1e hev (fun a s1 g1=>y02 (wpAny_standAt ?_)) fun _ _ x=>x))
 simp only[hp,hk,Bool.or_false]
 refine y02 (y06 (y02 (y1e g1 (fun r s2 hr=>?_) fun _ _ x=>x)))
 exact y02 (wpAny_holding (wpAny_point (y06 hr)))
end
section
variable {prog:y0q} {w:World} {A:Around} {E:Value->y04->Prop} {s:y04}
theorem znd {l:Addr} {items:Array Value} {t:Tok} {Q:Value->y04->Prop} (hL:s.heap.IsTuple l items)
  (h:∀h',IsEnum h' (s.heap.objs.size+1) s.heap.objs.size 1 .none->h'.IsTupleIter s.heap.objs.size l 0->h'.objs.size=s.heap.objs.size+2 ->
   (∀b o,s.heap.get? b=some o->h'.get? b=some o)->Q (.ref (s.heap.objs.size+1)) { s with heap:=h' }) :
  y0u (model prog w) A (call (.type "enumerate") [.ref l] [("start",.int 1 t)]) Q E s:=by
 obtain⟨⟨c,dct,dt,sl⟩,hl,hc,n,hd⟩:=hL
 replace hc:c=.type "tuple":=hc
 replace hd:dt=.seq items n:=hd
 subst hc hd
 refine zko F.called_enumerate (by decide) (zm9 _ t) (zoy _ t) (fun obj=>zn0 obj _ t) F.entry_enumerate_new (zpu l items n dct sl t) ⟨hl,?_⟩
 have hz:(s.heap.push { cls:=.type "tuple_iterator",data:=.fields #[.ref l,.int 0 0] }).objs.size=s.heap.objs.size+1:=y18 ..
 show _/\_
 rw[hz]
 have he:IsEnum ((s.heap.push { cls:=.type "tuple_iterator",data:=.fields #[.ref l,.int 0 0] }).push
   { cls:=.type "enumerate",data:=.fields #[.none,.bool false,.ref s.heap.objs.size,rawInt 1,.none,.none] }) (s.heap.objs.size+1) s.heap.objs.size 1 .none:=by
  have:=y0l (s.heap.push { cls:=.type "tuple_iterator",data:=.fields #[.ref l,.int 0 0] })
   (o:={ cls:=.type "enumerate",data:=.fields #[.none,.bool false,.ref s.heap.objs.size,rawInt 1,.none,.none] }) rfl
  rw[hz] at this;exact this
 refine⟨⟨_,he,rfl⟩,h _ he ⟨_,y03 _ (y0l _ rfl),rfl,rfl⟩ (by rw[y18,hz]) fun b o x=>y03 _ (y03 _ x)⟩
end
theorem zsh {prog:y0q} {w:World} {A:Around} {it:Addr} {fp:List Addr} {n:Nat} {P:Nat->Value->Prop} {St:Nat->Heap->Prop} (D:Draws prog w A it fp n P St) :
  Draws prog w A it fp (n+1) (fun i v=>1<=i/\P (i - 1) v) (fun i h=>1<=i/\St (i - 1) h) where
 live:=fun i h st=>D.live (i - 1) h st.2
 frame:=fun i h h' st hk=>⟨st.1,D.frame (i - 1) h h' st.2 hk⟩
 item:=fun i s Q E hi st hQ=>D.item (i - 1) s Q E (by have:=st.1;omega) st.2 fun x h' tk a b c=>hQ x h' tk ⟨st.1,a⟩ ⟨by omega,by
  have e:i+1 - 1=i - 1+1:=by have:=st.1;omega
  rw[e]
  exact b⟩ c
 done:=fun s Q E st hE=>D.done s Q E (by simpa using st.2) hE
noncomputable def Ite1 (K:y00) (a:Addr):It :=
 ⟨fun i H=>∃xs x,SqT K H a xs/\xs[i]?=some x,fun i H x H'=>∃p v,H p=none/\x=.ref p/\H'=upd H p (.tup [.int ((i+1:Nat):Int),v])/\∀xs,SqT K H a xs->xs[i]?=some v,fun i H=>∃xs,SqT K H a xs/\xs.length<=i⟩
theorem zmc {P:y0q} {w:World} {K:y00} {es:List Expr} {k:Nat} {pos:Pos} (a it e:Addr) (hne:e≠it) (hai:a≠it) (hae:a≠e):Turn P w K (.Tuple es k pos) (Ite1 K a) [e,it] e (fun i h=>(∃old,IsEnum h e it ((i+1:Nat):Int) old)/\h.IsTupleIter it a i) where
 mem:=by simp
 obj:=fun i h st b hb=>by
  obtain⟨⟨old,he⟩,o,ho,hc,hd⟩:=st
  rcases y09.mp hb with rfl|hb
  ·exact⟨_,he,fun v z=>by
    have z':Data.fields _=Data.cell v:=z
    cases z'⟩
  ·have e1:b=it:=by simpa using hb
   subst e1
   exact⟨o,ho,fun v z=>by rw[hd] at z;cases z⟩
 keep:=fun i h h' st kk=>by
  obtain⟨⟨old,he⟩,st2⟩:=st
  exact⟨⟨old,kk e (by simp) _ he⟩,st2.at fun o q=>kk it (by simp) o q⟩
 item:=by
  intro X hP hw hK hc i pins s σ H E I hf st hg
  subst hP hw hK
  obtain⟨xs,x,hq,hx⟩:=hg
  obtain⟨its,rv,p,hz⟩:=I.tuple hq
  obtain⟨u,hu,ru⟩:=rv.get hx
  obtain⟨⟨old,he⟩,hit⟩:=st
  obtain⟨f0,f1,f2,f3,f4,f5⟩:=hf e (by simp)
  obtain⟨g0,g1,g2,g3,g4,g5⟩:=hf it (by simp)
  have hi:i<its.toArray.size:=by
   rw[y0h]
   exact (y0k.mp hu).1
  have hnf:e∉[it,a]:=by
   intro z
   rcases y09.mp z with z|z
   ·exact hne z
   ·have z':e=a:=by simpa using z
    exact hae z'.symm
  refine wpAny_pyNext_enum_itemD (i:=i+1) (zsh (z3z (A:=X.A.in1) (I.ok.hd hc) it a hai its.toArray)) he ⟨by omega,by simpa using hit,p⟩ (by omega) hne hnf fun x' h' tk hP' ho hs' hT hsz hk=>?_
  have ex:x'=u:=by
   have:=hP'.2
   rw[Nat.add_sub_cancel,<- Array.getElem?_toList] at this
   rw[show (its.toArray).toList=its from rfl,hu] at this
   exact (y2k this).symm
  subst ex
  refine⟨_,rfl,wpAny_letOwnedTupleGo_enum ho fun h2 he2 hs2=>?_⟩
  have helt:e<s.heap.objs.size:=y0c he
  have hilt:it<s.heap.objs.size:=by obtain⟨o,ho',_⟩:=hit;exact y0c ho'
  have k2:∀b o,b≠e->b≠it->s.heap.get? b=some o->h2.get? b=some o:=fun b o h1 h3 q=>hs2.extBut b o h1 (hk b o h1 h3 q)
  have fr:H s.heap.objs.size=none:=I.hok.fresh (y0o _)
  have hT2:h2.get? s.heap.objs.size=some { cls:=.type "tuple",data:=.seq #[.int ((i+1:Nat):Int) tk,x'] }:=hs2.extBut _ _ (y16 helt) hT
  have nH:∀b o,H b=some o->b≠e/\b≠it:=fun b o q=>⟨fun z=>(by rw[z,f0] at q;cases q),fun z=>(by rw[z,g0] at q;cases q)⟩
  have hok2:HOk X.prog X.w (upd H s.heap.objs.size (.tup [.int ((i+1:Nat):Int),x])) h2:=by
   intro b o q
   by_cases hb:b=s.heap.objs.size
   ·subst hb
    rw[z0e] at q
    cases q
    exact⟨by show 2<=y0j;decide,[.int ((i+1:Nat):Int) tk,x'],.cons ⟨tk,rfl⟩ (.cons ru .nil),⟨_,hT2,rfl,_,rfl⟩⟩
   ·rw[z0c hb] at q
    refine (I.hok b o q).stay (fun c v hc' q'=>k2 c v ?_ ?_ q') (fun c q'=>?_) fun c ys q'=>?_
    ·rcases hc' with rfl|hc'
     ·exact (nH _ _ q).1
     ·exact (nH _ _ hc').1
    ·rcases hc' with rfl|hc'
     ·exact (nH _ _ q).2
     ·exact (nH _ _ hc').2
    ·rw[z0c (z0j q' fr)]
     exact q'
    ·rw[z0c (z0j q' fr)]
     exact q'
  have I2:L2.Inv X pins σ (upd H s.heap.objs.size (.tup [.int ((i+1:Nat):Int),x])) { s with heap:=h2,toks:=tk+1 }:=by
   refine I.step (g':=s.gens) (d':=s.drawn) (ch:=[e,it]) (fun b hb=>?_) (fun b o _ _ hc' q _=>k2 b o (fun z=>hc' (by simp[z])) (fun z=>hc' (by simp[z])) q) (fun b o _ _ hc' q _=>⟨o.slots,k2 b o (fun z=>hc' (by simp[z])) (fun z=>hc' (by simp[z])) q⟩) (fun b o _ q n=>?_)
    (fun b o hc' q=>⟨o,k2 b o (fun z=>hc' (by simp[z])) (fun z=>hc' (by simp[z])) q⟩) (fun b ys q=>by rw[z0c (z0j q fr)];exact q) (fun b o u q=>by rw[z0c (z0j q fr)];exact q) (fun b ps q=>⟨#[],by rw[z0c (z0j q fr),q];simp⟩) (fun m hm=>?_) hok2 I.bare
   ·rcases y09.mp hb with rfl|hb
    ·exact⟨f3,f1,f4,f5⟩
    ·have:b=it:=by simpa using hb
     subst this
     exact⟨g3,g1,g4,g5⟩
   ·rw[z0c (y0y (y0c q))]
    exact n
   ·obtain⟨o,es',ep,ho',r⟩:=hm
    exact⟨o,es',ep,k2 _ o (Ne.symm f1) (Ne.symm g1) ho',r⟩
  refine⟨.ref s.heap.objs.size,_,I2,rfl,⟨s.heap.objs.size,x,fr,rfl,rfl,fun ys hy=>by rw[I.tuple_inj hy hq];exact hx⟩,⟨⟨_,by have:=he2;simpa using this⟩,(show h'.IsTupleIter it a (i+1) by simpa using hs'.2.1).at fun o q=>(hs2.2 it hne.symm).trans q⟩,fun b hb=>?_⟩
  rcases y09.mp hb with rfl|hb
  ·rw[z0c (y0y helt)]
   exact f0
  ·have:b=it:=by simpa using hb
   subst this
   rw[z0c (y0y hilt)]
   exact g0
 done:=by
  intro X hP hw hK hc i pins s σ H E I hf st hg
  subst hP hw hK
  obtain⟨xs,hq,hx⟩:=hg
  obtain⟨its,rv,p,hz⟩:=I.tuple hq
  obtain⟨⟨old,he⟩,hit⟩:=st
  obtain⟨g0,g1,g2,g3,g4,g5⟩:=hf it (by simp)
  have hT:s.TypeIs (.ref e) "enumerate":=⟨_,he,rfl⟩
  have hl:=rv.length
  unfold pyNext
  refine y02 (wpAny_attempt (wpAny_callSpecial?_slot (name:=Str.ofString "__next__") hT F.slot_enumerate_next
   (wpAny_call_entry F.slot_enumerate_next hT F.entry_enumerate_next ?_ (F.args_enumerate_next_1 _))))
  show y0u _ _ (field (.ref e) 2 >>= _) _ _ _
  refine y02 (wpAny_field he rfl (x:=.ref it) rfl ?_)
  refine y02 (z5b (I.ok.hd hc) hit (show s.heap.IsTuple a its.toArray from p) (by simp;omega) fun h' x he' hx'=>?_)
  obtain⟨o,ho,hc'⟩:=hx'
  refine y02 (wpAny_isInstance (T:="StopIteration") (b:=true) ⟨o,ho,hc'⟩ isSubtype_stop ?_)
  exact y06 ⟨rfl,I.turned (t':=s.toks) (fun b o hb q=>he' b o hb q) g0 g1 g3 g4 g5⟩
 self:=fun _ _ _ _ _ st h=>by
  obtain⟨⟨old,he⟩,_⟩:=st
  exact wpAny_pyIter_enum he h
noncomputable def iEn1 (K:y00) (ta:TA):TI:=fun σ H R=>ta σ H fun vs H1=>∃a xs,vs=[.ref a]/\SqT K H1 a xs/\R (Ite1 K a) H1
noncomputable def zin (ts:List T):List T:=ts.zipIdx.map fun p=>.tuple [.int ((p.2+1:Nat):Int),p.1]
def zbp (f:Fi):Fi:=fun ε=>(f ε).map zin
section
variable {X:Cx} {es:List Expr} {k kc:Nat} {p pos p2 pc pk:Pos} {a:Expr} {f:Fe}
theorem zrk {ta:TA} (hg:Gl X "enumerate") (hm:X.mg "enumerate"=none) (ha:PA X [a] ta) (hs:y0a [a] X.env=[(false,eval a X.env)]:=by rfl) (hs2:y0a [a] X.env=(false,eval a X.env)::y0a [] X.env:=by rfl):PI X (.Tuple es k p2) (.Call (.Name "enumerate" p) [a] [⟨some "start",.Constant (.int 1) kc pc,pk⟩] pos) (iEn1 X.K ta):=by
 intro pins s σ H R I h
 refine wpAny_Call_Name_kw (zcd I hg hm PyProof.Rows.boot_enumerate (cw_kw (thn (ha pos pins s σ H _ I h) fun us s0 ⟨vs,H1,I0,r1,q1⟩=>kws_cons (thn ((show PE X (.Constant (.int 1) kc pc) (tC (.int 1)) from zta) pins s0 σ H1 (fun y H2=>y=.int 1/\H2=H1) I0 ⟨rfl,rfl⟩) fun sv s1 ⟨y,H2,I1,rv1,ey,eh⟩=>kws_nil ?_)) (by rw[hs2];rfl) (by rw[hs];rfl)))
 subst ey eh
 obtain⟨tk1,rfl⟩:=rv1
 obtain⟨a,xs,rfl,hq,q⟩:=q1
 show y0u _ _ (call (.type "enumerate") us [("start",.int 1 tk1)]) _ _ _
 cases r1 with
 | cons r rr =>
  cases rr
  cases r
  obtain⟨its,rv,pl,hz⟩:=I1.tuple hq
  have hal:a<s1.heap.objs.size:=by obtain⟨o,ho,_⟩:=pl;exact y0c ho
  refine znd (show s1.heap.IsTuple a its.toArray from pl) fun h' he hit hsz hk=>wpAny_pyIter_enum he ?_
  refine⟨s1.heap.objs.size+1,[s1.heap.objs.size+1,s1.heap.objs.size],_,_,H2,rfl,I1.kept (t':=s1.toks) hk,zmc a s1.heap.objs.size (s1.heap.objs.size+1) (Nat.succ_ne_self _) (y0y hal) (y0y (Nat.lt_succ_of_lt hal)),⟨⟨_,he⟩,hit⟩,fun b hb=>?_,q⟩
  have hb':s1.heap.objs.size<=b:=by
   rcases y09.mp hb with rfl|hb
   ·exact y2m _
   ·have:b=s1.heap.objs.size:=by simpa using hb
    rw[this]
    exact y0o _
  exact I1.fpOk hb' (I1.hok.fresh hb')
theorem zmy {K:y00} {a:Addr} {F1:Addr->Prop} {H1:Hp} {ts:List T} {vs:List V} (hr:SqT K H1 a vs) (q:RepL K F1 H1 ts vs):ItOk K (Ite1 K a) F1 H1 (zin ts) where
 go:=fun i F H t kp d e=>by
  have hi:=(y0k.mp e).1
  simp only[zin,y14,List.length_zipIdx] at hi
  obtain⟨v,h1,_⟩:=q.get (y0v hi)
  exact⟨vs,v,kp.tup _ _ hr,h1⟩
 yld:=fun i F H t x H' kp d e y=>by
  obtain⟨p,v,hp,rfl,rfl,y⟩:=y
  have hi:=(y0k.mp e).1
  simp only[zin,y14,List.length_zipIdx] at hi
  obtain⟨v',h1,h2⟩:=(q.kp kp).get (y0v hi)
  have h3:=y vs (kp.tup _ _ hr)
  rw[h1] at h3
  cases h3
  have x1:=Ext.laid (o:=.tup [.int ((i+1:Nat):Int),v]) d hp
  refine⟨F,x1,?_⟩
  have et:t=.tuple [.int ((i+1:Nat):Int),ts[i]]:=by
   simp only[zin,y15,List.getElem?_zipIdx,y0v hi] at e
   simpa using e.symm
  subst et
  simp only[Rep]
  exact⟨p,_,rfl,SqT.of z0e,RepL.cons (by simp[Rep]) (RepL.cons (h2.ext x1) RepL.nil)⟩
 stop:=fun i F H kp hl=>⟨vs,kp.tup _ _ hr,by
  simp only[zin,y14,List.length_zipIdx] at hl
  rw[<- q.length]
  exact hl⟩
theorem zvl (hm:X.mg "enumerate"=none) (ha:PEv X a f) (hg:Gl X "enumerate":=by rfl) (hs:y0a [a] X.env=[(false,eval a X.env)]:=by rfl) (hs2:y0a [a] X.env=(false,eval a X.env)::y0a [] X.env:=by rfl) :
  PIt X (.Tuple es k p2) (.Call (.Name "enumerate" p) [a] [⟨some "start",.Constant (.int 1) kc pc,pk⟩] pos) (zbp (z31 f)):=zjm (zrk hg hm (z2y ha z6o hs2) hs hs2) fun σ H R ⟨F₀,H₀,O,F,ε,ts,r,e,k⟩=>by
 simp only[zbp,z31,y07,y01] at e
 obtain⟨us,⟨t,et,e⟩,rfl⟩:=e
 split at e
 ·cases e
  refine⟨F₀,H₀,O,F,ε,_,r,et,fun v F' H' x q=>?_⟩
  simp only[Rep] at q
  obtain⟨a,vs,rfl,hs,hr⟩:=q
  exact⟨a,vs,rfl,hs,k _ F' H' x (zmy hs hr)⟩
 ·cases e
end
section
variable {X:Cx} {e:Expr} {f:Fe} {pos:Pos}
noncomputable def zrc (K:y00):V->List V->Hp->VK->Prop:=fun x vs H Q=>∃l b xs zs,x=.ref l/\vs=[.ref b]/\H l=some (.lst xs)/\SqT K H b zs/\xs.length+zs.length<=y0j/\Q .non (upd H l (.lst (xs++zs)))
open AutoSeq1 in
theorem zps (l:Addr) (as:Array Value) (n:Nat) (b:Addr) (bs:Array Value) (m:Nat) (dd:Option Addr) (sl:Array (Option Value)) (g0:¬(!as.isEmpty && Builtin.List.listTooLong (as.size+bs.size))=true) (g1:as.size<=y0j) (g2:as.size+bs.size<=y0j+1) :
  Meets (Builtin.«list.extend» ⟨[.ref l,.ref b],[]⟩) (fun _ R s=>s.heap.get? l=some { cls:=.type "list",dict:=none,data:=.seq as n,slots:=#[] }/\s.heap.get? b=some { cls:=.type "tuple",dict:=dd,data:=.seq bs m,slots:=sl } /\
   R (.ok (.ret Value.none)) { s with heap:=s.heap.update l (Obj.mapSeq fun x=>x++bs),toks:=s.toks }) :=
 .of_wp fun prog w A R s h=>by
  obtain⟨hp,gs,d,tk,os⟩:=s
  obtain⟨hl,hb,h⟩:=h
  have f2:=AutoSeq1.sub_tuple_tuple
  have f3:=AutoSeq1.sub_list_list
  have f4:=AutoSeq1.sub_tuple_list
  have f5:=AutoSeq1.sub_list_tuple
  have g3:(as++bs).size<=y0j+1:=by
   rw[Array.size_append]
   exact g2
  wp_walk using (wpAny_updateSeq hl rfl (hz:=g1) (_hz':=g3)),wpAny_loadPart' hl,wpAny_loadPart' hb
  exact⟨_,rfl,h⟩
theorem zms:MtM X "list.extend" (zrc X.K):=by
 intro pins s σ H x vs v us Q I rx rv h
 obtain⟨l,b,xs,zs,rfl,rfl,hH,hB,hz,q⟩:=h
 cases rx
 obtain⟨u,rfl,ru⟩:=rv.one
 cases ru
 obtain⟨z,its,n,r,hl,e⟩:=I.lstM hH
 obtain⟨its2,r2,pl2,z2⟩:=I.tuple hB
 have hl2:=r2.length
 obtain⟨⟨cls,dd,data,sl⟩,ho,hc,n2,hd⟩:=id pl2
 simp only at hc hd
 subst hc hd
 have hsz:its.toArray.size+its2.toArray.size<=y0j:=by rw[y0h,y0h];omega
 have hlong:¬(!its.toArray.isEmpty && Builtin.List.listTooLong (its.toArray.size+its2.toArray.size))=true:=by
  rw[zgq hsz,Bool.and_false]
  exact y28
 refine call_meets F.slot_list_extend ⟨_,e,rfl⟩ F.entry_list_extend (F.args_list_extend_2 _ _) (zps l its.toArray n b its2.toArray n2 dd sl hlong (by rw[y0h];omega) (by omega)) ⟨e,ho,?_⟩
 refine⟨.non,_,I.lset (its':=its++its2) hH e (by simp) (r.append r2) ?_,rfl,q⟩
 rw[y27]
 omega
noncomputable def extT (i:Nat) (f:Fe):Fs:=fun ε=>match ε[i]? with
 | some (some (.own ts))=>(f ε).bind fun t=>match t with
  | .tuple us=>if ts.length+us.length<=big then some (.nx (ε.set i (some (.own (ts++us))))) else none
  | _=>none
 | _=>none
theorem zwe (i:Nat) {x:Str} {px apos cpos:Pos} (he:PEr X e f) (hN:X.N[i]?=some x:=by rfl) (hv:Vis X.env.scope x:=by first|exact Or.inl rfl|exact Or.inr (Or.inl rfl)|exact Or.inr (Or.inr rfl)) (hd:(x == ("__debug__":Str))=false:=by decide)
  (hcd:(x == ("__classdict__":Str))=false:=by decide) (hs1:y0a [e] X.env=(false,eval e X.env)::y0a [] X.env:=by rfl)
  (hbase:attributeBase (.Name x px) "extend" X.env (eval (.Name x px) X.env)=eval (.Name x px) X.env:=by rfl)
  (hfew:((backTo cpos (y0a [e] X.env)).all (fun x=>!x.1) && (backToKw cpos (keywordEach [] X.env)).all (fun x=>x.1.isSome)
   && decide (([e]:List Expr).length+([]:List Keyword).length+(if ([]:List Keyword).isEmpty then 0 else 1)<30))=true:=by rfl)
  (hline:(apos.endLine == cpos.line)=true:=by rfl) (hplain:(backTo cpos (y0a [] X.env)).any (·.1)=false:=by rfl)
  (hsw:swapsWith (.Call (.Attribute (.Name x px) "extend" apos) [e] [] cpos) none pos.line X.env=pure false:=by rfl) :
  PSt X (.Expr (.Call (.Attribute (.Name x px) "extend" apos) [e] [] cpos) pos) (extT i f) :=
 z2i (z9y (zro PySem.F.plainAttrs_list PySem.F.slot_list_extend PySem.F.type_list_extend zms (pv i hN hv hd hcd) (z2y he z6o hs1) hbase hfew hline hs1 hplain) hsw) fun D σ H ⟨F₀,H₀,O,F,ε,o,r,e,k⟩=>by
 unfold extT at e
 split at e
 next ts he =>
  simp only[y01] at e
  obtain⟨t,et,e⟩:=e
  split at e
  next us =>
   split at e
   next hz =>
    cases e
    obtain⟨v,h1,a,vs,rfl,n,h0,hh,hr⟩:=r.val _ _ he
    refine⟨_,h1,.inl ⟨rfl,_,SqL.of hh⟩,F₀,H₀,O,F,ε,_,r,et,fun v F' H' x q=>?_⟩
    obtain⟨b,ws,rfl,hb,hw⟩:=q.tup
    have r1:=r.ext x
    obtain⟨v1,h1',a1,vs1,e1,n1,h01,hh1,hr1⟩:=r1.val _ _ he
    rw[h1] at h1'
    cases h1'
    cases e1
    refine⟨a,b,vs1,ws,rfl,rfl,hh1,hb,by rw[z9v,<- hr1.length,<- hw.length];exact hz,?_⟩
    obtain⟨kp,r2⟩:=r1.mut (s':=.own (ts++us)) (o':=.lst (vs1++ws)) he rfl h1 n1 h0 hh1 (.inl ⟨_,rfl⟩) fun kp=>⟨a,_,rfl,n1,h0,z0e,(hr1.kp kp).append (hw.kp kp)⟩
    exact k σ F' _ (x.kp.trans kp) r2
   next=>cases e
  next=>cases e
 next=>cases e
end
end
section
variable [Tbl]
section
variable {X:Cx} {e:Expr} {f:Fe} {te:TE} {pos p p2 p3:Pos}
end
section
variable {X:Cx} {e st:Expr} {te:TE} {tl:TO} {f:Fe} {pos p2:Pos} {lo:Option Expr}
end
end
section
variable [Tbl]
def exE (f:Fe):Fs:=fun ε=>(f ε).map fun _=>.nx ε
theorem zxw {P:y0q} {w:World} {K:y00} {mg:Str->Option Value} {base:Heap} {x y:Str} {st:Stmt} {f:Addr} {fd:y0b} {N ps:List Str} {k:Nat} {b:Fs} (F:Fun K x x st f fd) (S:FnScope N ps (z02 st)) (bd:z5h K fd ps []) (m:mg y=some (.ref f))
  (hb:∀(cdv:Value) (A:Around) (outer:List Env) (s:y04) (H:Hp) (E:XK),Room k (A.deeper (envOfC x (z02 st) s.heap.objs.size f cdv)) ->
   PBt (cxOf CX0 P w K mg base N x (z02 st) f cdv A outer s H E).nox (z2v st) b):Cl P w K mg base y (k+1) ps.length (runF b N.length):=.mk' (zpn F S hb) m F.kp bd
section
variable {X:Cx} {k n c C i:Nat} {ns:List Str} {d:List Sl->Option (T×List Sl)} {x:Str} {p pos:Pos} {o e:Expr} {es:List Expr} {fs:List Fe} {f:Fe}
theorem znm (kc:ClOk X.K c C ns) (Dc:ClM X.prog X.w X.K X.mg X.base x c 0 k n d) (hr:Room k X.A) (hn:PE X o (tVar i)) (ha:PAv X es fs) (hg:Gl X x:=by rfl) (hl:fs.length+1=n:=by rfl) (hdb:(x == ("__debug__":Str))=false:=by decide)
  (he:y0a (o::es) X.env=(false,eval o X.env)::y0a es X.env:=by rfl) (hpl:(backTo pos (y0a es X.env)).any (·.1)=false:=by rfl):PEx X (.Call (.Name x p) (o::es) [] pos) (zj7 c d [] i fs):=by
 obtain⟨fa,fd,ps,F,m,kp,b⟩:=Dc.ex
 refine z0x (zk3 F hr hg m kp b .nil zgl (z2y hn ha he) hdb he hpl) fun σ H Q ⟨F₀,E,O,F,ε,t,ε',r,e,kk⟩=>?_
 simp only[zj7,y01] at e
 obtain⟨⟨md,os⟩,ho,e⟩:=e
 split at e
 next=>cases e
 next hmd =>
  simp only[args,y01,y07,Option.some.injEq,exists_eq_left'] at e
  obtain⟨ts,et,r',ed,e⟩:=e
  cases e
  obtain⟨a,vs,dx,h1,hx,_⟩:=z8f kc r ho
  refine⟨_,h1,F₀,E,O,F,ε,ts,r,et,fun ws F1 H1 x1 q=>?_⟩
  show spM X.K n c 0 d (V.ref a::ws++[]) H1 Q E0
  rw[y23]
  exact zgr r ho hmd h1 x1 q ed (by rw[z9e et,hl]) kk
theorem zub (h:PEv X e f) (hsw:swapsWith e none pos.line X.env=pure false:=by rfl):PSt X (.Expr e pos) (exE f):=z2i (z9y h hsw) fun D σ H ⟨F₀,E,O,F,ε,o,r,e,k⟩=>by
 simp only[exE,y07] at e
 obtain⟨t,et,rfl⟩:=e
 exact⟨F₀,E,O,F,ε,t,r,et,fun v F' H' x _=>k σ F' H' x.kp (r.ext x)⟩
end
end
end D
end
section
namespace Co
open D
noncomputable def zjf:Fs :=
  (seq (for_ (z0v (op2 oIx (nm 0) (cst (.int 0)))) (gNm 2)
  (iff (tstB (op2 oEq (op2 oIx (nm 2) (cst (.int 0))) (nm 1))) (rtn (op2 oIx (nm 2) (cst (.int 1)))) skip))
  zia)
def z4k:List T->Option T:=runF zjf 3
noncomputable def zqk:Fs :=
  (seq (asg 1 (opN z1k [(comp 1 [] (z0v (op2 oIx (nm 0) (cst (.int 0)))) (gNm 0) (cstT true) (cst (.str "shut")))]))
  (seq (asg 2 (opN z1k [(comp 1 [] (z0v (op2 oIx (nm 0) (cst (.int 1)))) (gNm 0) (cstT true) (cst (.int 0)))]))
  (rtn (z06 [(cst (.str "off")),(cst (.int 0)),(cst .none),(nmV 1),(z06 []),(cst (.int 0)),(z06 []),(cst (.int 0)),(cst (.int 0)),(nmV 2)]))))
def zbs:List T->Option T:=runF zqk 3
noncomputable def zjg:Fs :=
  (seq (for_ (z0v (op2 oIx (nm 0) (cst (.int 1)))) (gNm 2)
  (iff (tstB (op2 oEq (op2 oIx (nm 2) (cst (.int 0))) (nm 1))) (rtn (nm 2)) skip))
  (rtn (cst .none)))
def z8m:List T->Option T:=runF zjg 3
def zfx:Fs :=
  (rtn (opN oMax [(op2 oSub (nm 0) (nm 1)),(cst (.int 0))]))
def z4t:List T->Option T:=runF zfx 2
noncomputable def z7d:Fs :=
  (seq (asgF 0 0 0 (nmV 1))
  (seq (asgF 0 0 1 (op2 oIx (nm 2) (cst (.int 0))))
  (seq (asgF 0 0 2 (op2 oIx (nm 2) (cst (.int 1))))
  (seq (asgF 0 0 3 (op2 oIx (nm 2) (cst (.int 2))))
  (seq (znh 0 0 4 (comp 1 [] (z0v (op2 oIx (nm 1) (cst (.int 0)))) (gNm 0) (cstT true) (op2 oIx (nm 0) (cst (.int 0)))) (op2 oIx (nm 2) (cst (.int 3))))
  (seq (z8u 0 0 5 (op1 zf9 (op2 oIx (nm 2) (cst (.int 4)))))
  (seq (asgF 0 0 6 (op2 oIx (nm 2) (cst (.int 5))))
  (seq (z8u 0 0 7 (op1 zf9 (op2 oIx (nm 2) (cst (.int 6)))))
  (seq (asgF 0 0 8 (op2 oIx (nm 2) (cst (.int 7))))
  (seq (asgF 0 0 9 (op2 oIx (nm 2) (cst (.int 8))))
  (seq (znh 0 0 10 (comp 1 [] (z0v (op2 oIx (nm 1) (cst (.int 1)))) (gNm 0) (cstT true) (op2 oIx (nm 0) (cst (.int 0)))) (op2 oIx (nm 2) (cst (.int 9))))
  (seq (asgF 0 0 11 (cst (.int 0)))
  (z8u 0 0 12 (z29 []))))))))))))))
def z2e:List Sl->Option (T×List Sl):=runM 0 0 z7d 3
noncomputable def z9u:Fs :=
  (seq (asg 1 (zpr 0 0 4))
  (seq (asg 2 (opN z1k [(fld 0 0 5)]))
  (seq (asg 3 (opN z1k [(fld 0 0 7)]))
  (seq (asg 4 (zpr 0 0 10))
  (rtn (z06 [(fldV 0 0 1),(fldV 0 0 2),(fldV 0 0 3),(nmV 1),(nmV 2),(fldV 0 0 6),(nmV 3),(fldV 0 0 8),(fldV 0 0 9),(nmV 4)]))))))
def z22:List Sl->Option T:=runR z9u 5
def zb7:Fs :=
  (appF 0 0 12 (z06 [(fldV 0 0 11),(nmV 1),(nmV 2)]))
def z08:List Sl->Option (T×List Sl):=runM 0 0 zb7 3
noncomputable def z84:Fs :=
  (asgF 0 0 6 (op2 oIx (op2 oIx (fld 0 0 0) (cst (.int 2))) (cst (.int 2))))
def z1d:List Sl->Option (T×List Sl):=runM 0 0 z84 1
noncomputable def z6z:Fs :=
  (seq (exX (z0s 0 z1d 0 []))
  (iff (tstB (op2 (oIn true) (nm 1) (fld 0 0 7))) (seq (appF 0 0 7 (nmV 1))
  (exX (z0s 0 z08 0 [(cst (.str "alarm")),(nmV 1)]))) skip))
def z0i:List Sl->Option (T×List Sl):=runM 0 0 z6z 2
noncomputable def z3w:Fs :=
  (seq (iff (orT (tstB (op2 oNe (nm 2) (cst (.str "way")))) (tstB (op2 oLe (op2 oIx (op2 oIx (fld 0 0 0) (cst (.int 2))) (cst (.int 1))) (cst (.int 0))))) (seq (exX (z0s 0 z0i 0 [(nmV 1)]))
  zgg) skip)
  (seq (asgF 0 0 1 (cst (.str "coming")))
  (seq (asgF 0 0 2 (op2 oIx (op2 oIx (fld 0 0 0) (cst (.int 2))) (cst (.int 1))))
  (seq (asgF 0 0 3 (nmV 1))
  (exX (z0s 0 z08 0 [(cst (.str "coming")),(nmV 1)]))))))
def z1c:List Sl->Option (T×List Sl):=runM 0 0 z3w 3
noncomputable def z83:Fs :=
  (seq (asg 3 (opN z4k [(fldV 0 0 0),(nmV 1)]))
  (iff (tstB (op2 oEq (nm 3) (cst (.str "day")))) (exX (z0s 0 z0i 0 [(nmV 1)])) (iff (tstB (op2 oEq (fld 0 0 1) (cst (.str "off")))) (iff (tstB (op2 oEq (nm 2) (cst (.str "cut")))) (exX (z0s 0 z08 0 [(cst (.str "fault")),(nmV 1)])) skip) (iff (orT (tstB (op2 oEq (nm 2) (cst (.str "cut")))) (tstB (op2 oEq (nm 3) (cst (.str "once"))))) (exX (z0s 0 z0i 0 [(nmV 1)])) (iff (tstB (op2 oEq (fld 0 0 1) (cst (.str "on")))) (exX (z0s 0 z1c 0 [(nmV 1),(nmV 3)])) skip)))))
def z2r:List Sl->Option (T×List Sl):=runM 0 0 z83 4
noncomputable def zb8:Fs :=
  (seq (asg 3 (fGet 0 0 4 (nm 1)))
  (seq (iff (tstB (op2 oEq (nm 2) (nm 3))) zgg skip)
  (seq (zi1 0 0 4 (nm 1) (nmV 2))
  (iff (tstB (op2 oEq (nm 2) (cst (.str "shut")))) (iff (tstB (op2 oEq (nm 3) (cst (.str "cut")))) (exX (z0s 0 z08 0 [(cst (.str "mended")),(nmV 1)])) skip) (iff (tstB (op2 (oIn true) (nm 1) (fld 0 0 5))) (exX (z0s 0 z2r 0 [(nmV 1),(nmV 2)])) skip)))))
def z4l:List Sl->Option (T×List Sl):=runM 0 0 zb8 4
noncomputable def z48:Fs :=
  (rtn (andV (op2 oNe (op2 oIx (nm 1) (cst (.int 3))) (cst (.int 0))) (op2 oGe (fGet 0 0 10 (op2 oIx (nm 1) (cst (.int 0)))) (op2 oIx (nm 1) (cst (.int 3))))))
def z16:List Sl->Option T:=runR z48 2
noncomputable def z46:Fs :=
  (seq (exX (z0s 0 z08 0 [(cst (.str "wrong")),(cst .none)]))
  (seq (augF 0 0 8 (cst (.int 1)))
  (iff (tstB (op2 oGe (fld 0 0 8) (cst (.int 3)))) (seq (asgF 0 0 8 (cst (.int 0)))
  (seq (asgF 0 0 9 (cst (.int 90)))
  (seq (exX (z0s 0 z1d 0 []))
  (exX (z0s 0 z08 0 [(cst (.str "attack")),(cst .none)]))))) skip)))
def z14:List Sl->Option (T×List Sl):=runM 0 0 z46 1
noncomputable def z0r:Fs :=
  (seq (iff (tstB (op2 oEq (nm 1) (cst (.str "unset")))) (rtn (cst (.bool false))) skip)
  (seq (iff (tstB (op2 oNe (fld 0 0 1) (cst (.str "off")))) (rtn (cst (.bool true))) skip)
  (seq (iff (tstB (op2 oEq (nm 1) (cst (.str "shunt")))) (rtn (orV (op2 oEq (opN z4k [(fldV 0 0 0),(nmV 2)]) (cst (.str "day"))) (op2 (oIn false) (nm 2) (fld 0 0 5)))) skip)
  (rtn (andV (op2 oEq (nm 1) (cst (.str "free"))) (op2 (oIn true) (nm 2) (fld 0 0 5)))))))
def z0g:List Sl->Option T:=runR z0r 3
noncomputable def z6g:Fs :=
  (seq (asg 2 (comp 1 [1] (z0v (op2 oIx (fld 0 0 0) (cst (.int 0)))) (gNm 0) (tstB (op2 (oIn false) (op2 oIx (nm 0) (cst (.int 1))) (nm 1))) (op2 oIx (nm 0) (cst (.int 0)))))
  (rtn (comp 1 [0] (z0v (nmV 2)) (gNm 0) (andT (tstB (op2 oNe (fGet 0 1 4 (nm 0)) (cst (.str "shut")))) (tstB (op2 (oIn true) (nm 0) (fld 0 1 5)))) (nmV 0))))
def z0u:List Sl->Option T:=runR z6g 3
noncomputable def z4c:Fs :=
  (seq (asg 4 (ifE (tstB (op2 oEq (nm 2) (cst (.str "free")))) (cst (.str "shunt")) (nmV 2)))
  (seq (iff (tstB (op2 (oIn true) (nm 4) (op2 oIx (nm 1) (cst (.int 2))))) (rtn (z06 [(cst (.str "denied")),(op2 oIx (nm 1) (cst (.int 1)))])) skip)
  (seq (iff (tstB (z21 0 z0g 0 [(nmV 2),(nmV 3)])) (rtn (z06 [(cst (.str "no")),(op2 oIx (nm 1) (cst (.int 1)))])) skip)
  (seq (asg 5 (z21 0 z0u 0 [(cst (.tuple (z85 ["day","once"])))]))
  (seq (iff (andT (tstB (op2 oEq (nm 2) (cst (.str "set")))) (tstL (nm 5))) (rtn (z06 [(cst (.str "open")),(op2 oIx (nm 5) (cst (.int 0)))])) skip)
  (rtn (cst .none)))))))
def z0w:List Sl->Option T:=runR z4c 6
noncomputable def z5n:Fs :=
  (seq (asgF 0 0 1 (cst (.str "on")))
  (seq (asgF 0 0 2 (cst (.int 0)))
  (seq (exX (z0s 0 z08 0 [(cst (.str "on")),(cst .none)]))
  (for_ (z0v (z21 0 z0u 0 [(cst (.tuple (z85 ["inner","way"])))])) (gNm 1)
  (exX (z0s 0 z0i 0 [(nmV 1)]))))))
def z0q:List Sl->Option (T×List Sl):=runM 0 0 z5n 2
noncomputable def z6e:Fs :=
  (seq (z8u 0 0 7 (z29 []))
  (seq (asgF 0 0 6 (cst (.int 0)))
  (seq (asgF 0 0 1 (cst (.str "leaving")))
  (seq (asgF 0 0 2 (op2 oIx (op2 oIx (fld 0 0 0) (cst (.int 2))) (cst (.int 0))))
  (seq (exX (z0s 0 z08 0 [(cst (.str "set")),(nmV 1)]))
  (iff (tstB (op2 oLe (fld 0 0 2) (cst (.int 0)))) (exX (z0s 0 z0q 0 [])) skip))))))
def z2d:List Sl->Option (T×List Sl):=runM 0 0 z6e 2
noncomputable def z7c:Fs :=
  (seq (asgF 0 0 1 (cst (.str "off")))
  (seq (asgF 0 0 2 (cst (.int 0)))
  (seq (asgF 0 0 6 (cst (.int 0)))
  (seq (asgF 0 0 3 (cst .none))
  (seq (z8u 0 0 5 (z29 []))
  (exX (z0s 0 z08 0 [(cst (.str "unset")),(nmV 1)])))))))
def z2c:List Sl->Option (T×List Sl):=runM 0 0 z7c 2
noncomputable def z2u:Fs :=
  (iff (tstB (op2 oEq (nm 2) (cst (.str "set")))) (exX (z0s 0 z2d 0 [(nmV 1)])) (iff (tstB (op2 oEq (nm 2) (cst (.str "unset")))) (exX (z0s 0 z2c 0 [(nmV 1)])) (iff (tstB (op2 oEq (nm 2) (cst (.str "shunt")))) (seq (z8u 0 0 5 (op1 zcs (op2 oAdd (fld 0 0 5) (z29 [(nmV 3)]))))
  (exX (z0s 0 z08 0 [(cst (.str "shunt")),(nmV 3)]))) (seq (rmF 0 0 5 (nmV 3))
  (exX (z0s 0 z08 0 [(cst (.str "free")),(nmV 3)]))))))
def z11:List Sl->Option (T×List Sl):=runM 0 0 z2u 4
noncomputable def z47:Fs :=
  (seq (asg 4 (z21 0 z0w 0 [(nmV 1),(nmV 2),(nmV 3)]))
  (iff (tstB (op1 oIsN (nm 4))) (seq (zjh 0 0 10 (op2 oIx (nm 1) (cst (.int 0))) (cst (.int 1)))
  (exX (z0s 0 z11 0 [(op2 oIx (nm 1) (cst (.int 1))),(nmV 2),(nmV 3)]))) (exX (z0s 0 z08 0 [(op2 oIx (nm 4) (cst (.int 0))),(op2 oIx (nm 4) (cst (.int 1)))]))))
def z15:List Sl->Option (T×List Sl):=runM 0 0 z47 5
noncomputable def z4p:Fs :=
  (seq (asg 4 (opN z8m [(fldV 0 0 0),(nmV 1)]))
  (iff (tstB (op2 oGt (fld 0 0 9) (cst (.int 0)))) (exX (z0s 0 z08 0 [(cst (.str "locked")),(cst .none)])) (iff (orT (tstB (op1 oIsN (nm 4))) (tstB (z21 0 z16 0 [(nmV 4)]))) (exX (z0s 0 z14 0 [])) (seq (asgF 0 0 8 (cst (.int 0)))
  (exX (z0s 0 z15 0 [(nmV 4),(nmV 2),(nmV 3)]))))))
def z1y:List Sl->Option (T×List Sl):=runM 0 0 z4p 5
noncomputable def z6f:Fs :=
  (seq (augF 0 0 11 (nmV 1))
  (seq (asgF 0 0 9 (opN z4t [(fldV 0 0 9),(nmV 1)]))
  (seq (asgF 0 0 6 (opN z4t [(fldV 0 0 6),(nmV 1)]))
  (asgF 0 0 2 (opN z4t [(fldV 0 0 2),(nmV 1)])))))
def z0t:List Sl->Option (T×List Sl):=runM 0 0 z6f 2
noncomputable def z6d:Fs :=
  (seq (asg 1 (fldV 0 0 3))
  (seq (asgF 0 0 1 (cst (.str "on")))
  (seq (asgF 0 0 3 (cst .none))
  (exX (z0s 0 z0i 0 [(nmV 1)])))))
def z1s:List Sl->Option (T×List Sl):=runM 0 0 z6d 2
noncomputable def z4w:Fs :=
  (iff (tstB (op2 oEq (fld 0 0 1) (cst (.str "leaving")))) (exX (z0s 0 z0q 0 [])) (exX (z0s 0 z1s 0 [])))
def z1o:List Sl->Option (T×List Sl):=runM 0 0 z4w 1
noncomputable def z3o:Fs :=
  (seq (iff (tstB (op2 oLt (nm 1) (cst (.int 1)))) zgg skip)
  (iff (andT (tstB (op2 (oIn false) (fld 0 0 1) (z06 [(cst (.str "leaving")),(cst (.str "coming"))]))) (tstB (op2 oLe (fld 0 0 2) (nm 1)))) (seq (asg 2 (op2 oSub (nm 1) (fld 0 0 2)))
  (seq (exX (z0s 0 z0t 0 [(fldV 0 0 2)]))
  (seq (exX (z0s 0 z1o 0 []))
  (exX (z0s 0 z0t 0 [(nmV 2)]))))) (exX (z0s 0 z0t 0 [(nmV 1)]))))
def z1l:List Sl->Option (T×List Sl):=runM 0 0 z3o 3
noncomputable def z4o:Fs :=
  (iff (tstB (op2 oEq (op2 oIx (nm 1) (cst (.int 0))) (cst (.str "line")))) (exX (z0s 0 z4l 0 [(op2 oIx (nm 1) (cst (.int 1))),(op2 oIx (nm 1) (cst (.int 2)))])) (iff (tstB (op2 oEq (op2 oIx (nm 1) (cst (.int 0))) (cst (.str "code")))) (exX (z0s 0 z1y 0 [(op2 oIx (nm 1) (cst (.int 1))),(op2 oIx (nm 1) (cst (.int 2))),(op2 oIx (nm 1) (cst (.int 3)))])) (exX (z0s 0 z1l 0 [(op2 oIx (nm 1) (cst (.int 1)))]))))
def z18:List Sl->Option (T×List Sl):=runM 0 0 z4o 2
noncomputable def zab:Fs :=
  (seq (asgO 3 (newO 0 z2e [(nmV 0),(nmV 1)]))
  (seq (for_ (z0v (nmV 2)) (gNm 4)
  (exX (z0s 0 z18 3 [(nmV 4)])))
  (rtnO 3)))
def z1b:List T->Option Sl:=runO zab 5
noncomputable def zql:Fs :=
  (rtn (ofO 0 z22 (zer z1b [(nmV 0),(nmV 1),(nmV 2)]) []))
def za6:List T->Option T:=runF zql 3
noncomputable def zqi:Fs :=
  (rtn (opN z1k [(zbn 0 12 (zer z1b [(nmV 0),(nmV 1),(nmV 2)]))]))
def z6x:List T->Option T:=runF zqi 3
noncomputable def zkt:Fs :=
  (seq (asg 2 (comp 2 [] (zs5 (z31 (op2 oIx (nm 0) (cst (.int 0)))) (z31 (op2 oIx (nm 1) (cst (.int 3))))) (gTu [(gNm 0),(gNm 1)]) (tstB (op2 oNe (nm 1) (cst (.str "shut")))) (op2 oIx (nm 0) (cst (.int 0)))))
  (rtn (z06 [(op2 oIx (nm 1) (cst (.int 0))),(op2 oGt (op2 oIx (nm 1) (cst (.int 5))) (cst (.int 0))),(opN z1k [(nm 2)])])))
def zbr:List T->Option T:=runF zkt 3
end Co
end
section
namespace Co
open D Co
noncomputable def ztw:Fs :=
  (rtn (ofO 0 z22 (zer z1b [(nmV 0),(nmV 1),(z06 [(nmV 2)])]) []))
def zix:List T->Option T:=runF ztw 3
noncomputable def zqh:Fs :=
  (rtn (opN z1k [(comp 3 [] (z0v (zbn 0 12 (zer z1b [(nmV 0),(nmV 1),(z06 [(nmV 2)])]))) (gTu [(gNm 0),(gNm 1),(gNm 2)]) (cstT true) (z06 [(nmV 1),(nmV 2)]))]))
def ze8:List T->Option T:=runF zqh 3
noncomputable def z45:Fs :=
  (seq (iff (tstB (op2 oLt (nm 1) (opN oLen [(nm 0)]))) (rtn (op2 oIx (nm 0) (nm 1))) skip)
  (rtn (cst (.int 0))))
def z13:List T->Option T:=runF z45 2
noncomputable def z6b:Fs :=
  (seq (asg 2 (op2 oMod (op2 oMul (op2 oAdd (op2 oAdd (opN z13 [(nmV 0),(nmV 1)]) (op2 oMul (cst (.int 7919)) (nm 1))) (cst (.int 1))) (cst (.int 48271))) (cst (.int 2147483647))))
  (rtn (op2 oMod (op2 oAdd (op2 oAdd (op2 oMul (nm 2) (nm 2)) (op2 oMul (cst (.int 7)) (nm 2))) (nm 1)) (cst (.int 2147483629)))))
def z1e:List T->Option T:=runF z6b 3
noncomputable def z6c:Fs :=
  (seq (asg 2 (op2 oMod (op2 oMul (op2 oAdd (op2 oAdd (nm 0) (op2 oMul (cst (.int 104729)) (nm 1))) (cst (.int 17))) (cst (.int 69621))) (cst (.int 2147483647))))
  (rtn (op2 oMod (op2 oAdd (op2 oAdd (op2 oMul (nm 2) (nm 2)) (op2 oMul (cst (.int 3)) (nm 2))) (nm 1)) (cst (.int 2147483629)))))
def z0p:List T->Option T:=runF z6c 3
noncomputable def zsq:Fs :=
  (seq (asg 1 (z06 []))
  (seq (for_ (z3f (z31 (z06 [(cst (.str "a")),(cst (.str "b")),(cst (.str "back")),(cst (.str "d")),(cst (.str "hall")),(cst (.str "r")),(cst (.str "win")),(cst (.str "z"))]))) (gTu [(gNm 2),(gNm 3)])
  (seq (asg 4 (op2 oDiv (opN z0p [(nmV 0),(nmV 2)]) (cst (.int 4))))
  (iff (orT (tstB (op2 oLt (op2 oMod (nm 4) (cst (.int 8))) (op2 oAdd (cst (.int 3)) (op2 oMod (nm 0) (cst (.int 5)))))) (tstB (op2 oEq (nm 2) (op2 oMod (op2 oDiv (nm 0) (cst (.int 8))) (cst (.int 8)))))) (asg 1 (op2 oAdd (nm 1) (z06 [(z06 [(nmV 3),(op2 oIx (z06 [(cst (.str "day")),(cst (.str "inner")),(cst (.str "once")),(cst (.str "way")),(cst (.str "way"))]) (op2 oMod (op2 oDiv (nm 4) (cst (.int 8))) (cst (.int 5))))])]))) skip)))
  (seq (asg 5 (z06 []))
  (seq (for_ (z3f (z31 (z06 [(cst (.str "0000")),(cst (.str "1234")),(cst (.str "4321")),(cst (.str "7777")),(cst (.str "9990")),(cst (.str "9999"))]))) (gTu [(gNm 2),(gNm 6)])
  (seq (asg 4 (op2 oDiv (opN z0p [(nmV 0),(op2 oAdd (cst (.int 10)) (nm 2))]) (cst (.int 4))))
  (iff (orT (tstB (op2 oGt (op2 oMod (nm 4) (cst (.int 3))) (cst (.int 0)))) (tstB (op2 oEq (nm 2) (cst (.int 1))))) (seq (asg 7 (opN z1k [(comp 1 [4] (z2w (cst (.int 3))) (gNm 0) (tstB (op2 oGt (op2 oMod (op2 oDiv (nm 1) (op2 oIx (z06 [(cst (.int 4)),(cst (.int 16)),(cst (.int 64))]) (nm 0))) (cst (.int 4))) (cst (.int 0)))) (op2 oIx (z06 [(cst (.str "set")),(cst (.str "shunt")),(cst (.str "unset"))]) (nm 0)))]))
  (seq (asg 8 (op2 oIx (z06 [(cst (.str "ann")),(cst (.str "bo")),(cst (.str "cy"))]) (op2 oMod (op2 oDiv (nm 4) (cst (.int 256))) (cst (.int 3)))))
  (asg 5 (op2 oAdd (nm 5) (z06 [(z06 [(nmV 6),(nmV 8),(nmV 7),(op2 oIx (z06 [(cst (.int 0)),(cst (.int 0)),(cst (.int 1)),(cst (.int 2)),(cst (.int 9))]) (op2 oMod (op2 oDiv (nm 4) (cst (.int 1024))) (cst (.int 5))))])]))))) skip)))
  (seq (asg 4 (op2 oDiv (opN z0p [(nmV 0),(cst (.int 20))]) (cst (.int 4))))
  (seq (asg 9 (z06 [(op2 oIx (z06 [(cst (.int 0)),(cst (.int 5)),(cst (.int 30)),(cst (.int 60))]) (op2 oMod (nm 4) (cst (.int 4)))),(op2 oIx (z06 [(cst (.int 0)),(cst (.int 4)),(cst (.int 20)),(cst (.int 60))]) (op2 oMod (op2 oDiv (nm 4) (cst (.int 4))) (cst (.int 4)))),(op2 oIx (z06 [(cst (.int 1)),(cst (.int 9)),(cst (.int 120)),(cst (.int 300))]) (op2 oMod (op2 oDiv (nm 4) (cst (.int 16))) (cst (.int 4))))]))
  (rtn (z06 [(nmV 1),(nmV 5),(nmV 9)]))))))))
def zb3:List T->Option T:=runF zsq 10
noncomputable def zje:Fs :=
  (seq (asg 2 (op2 oIx (op2 oIx (op2 oIx (nm 0) (cst (.int 0))) (op2 oMod (op2 oDiv (nm 1) (cst (.int 8))) (opN oLen [(op2 oIx (nm 0) (cst (.int 0)))]))) (cst (.int 0))))
  (seq (asg 3 (op2 oMod (nm 1) (cst (.int 10))))
  (seq (iff (tstB (op2 oLt (nm 3) (cst (.int 5)))) (rtn (z06 [(cst (.str "line")),(nmV 2),(op2 oIx (z06 [(cst (.str "shut")),(cst (.str "open")),(cst (.str "open")),(cst (.str "cut"))]) (op2 oMod (op2 oDiv (nm 1) (cst (.int 512))) (cst (.int 4))))])) skip)
  (seq (iff (tstB (op2 oLt (nm 3) (cst (.int 7)))) (rtn (z06 [(cst (.str "ticks")),(op2 oAdd (cst (.int 1)) (op2 oMod (op2 oDiv (nm 1) (cst (.int 64))) (op2 oIx (z06 [(cst (.int 3)),(cst (.int 40)),(cst (.int 200))]) (op2 oMod (op2 oDiv (nm 1) (cst (.int 4096))) (cst (.int 3))))))])) skip)
  (seq (asg 4 (op2 oIx (op2 oIx (op2 oIx (nm 0) (cst (.int 1))) (op2 oMod (op2 oDiv (nm 1) (cst (.int 64))) (opN oLen [(op2 oIx (nm 0) (cst (.int 1)))]))) (cst (.int 0))))
  (seq (iff (tstB (op2 oEq (op2 oMod (op2 oDiv (nm 1) (cst (.int 65536))) (cst (.int 4))) (cst (.int 0)))) (asg 4 (op2 oIx (z06 [(cst (.str "0001")),(cst (.str "1111")),(cst (.str "9999")),(cst (.str "0000"))]) (op2 oMod (op2 oDiv (nm 1) (cst (.int 512))) (cst (.int 4))))) skip)
  (seq (asg 5 (op2 oIx (z06 [(cst (.str "set")),(cst (.str "set")),(cst (.str "unset")),(cst (.str "shunt")),(cst (.str "free")),(cst (.str "shunt"))]) (op2 oMod (op2 oDiv (nm 1) (cst (.int 4096))) (cst (.int 6)))))
  (seq (iff (tstB (op2 (oIn false) (nm 5) (z06 [(cst (.str "set")),(cst (.str "unset"))]))) (rtn (z06 [(cst (.str "code")),(nmV 4),(nmV 5),(cst .none)])) skip)
  (rtn (z06 [(cst (.str "code")),(nmV 4),(nmV 5),(nmV 2)]))))))))))
def z58:List T->Option T:=runF zje 6
noncomputable def zh9:Fs :=
  (seq (asg 3 (opN z1k [(comp 1 [0,1] (z2w (op2 oMod (nm 1) (op2 oAdd (nm 2) (cst (.int 1))))) (gNm 0) (cstT true) (opN z58 [(nmV 1),(op2 oDiv (opN z0p [(nmV 2),(op2 oAdd (cst (.int 30)) (nm 0))]) (cst (.int 4)))]))]))
  (seq (iff (andT (tstB (op2 oEq (op2 oMod (op2 oDiv (nm 1) (cst (.int 64))) (cst (.int 5))) (cst (.int 0)))) (tstB (op2 oGt (opN oLen [(nm 3)]) (cst (.int 2))))) (asg 3 (op2 oAdd (slice (nm 3) optN (opt (op1 oNeg (cst (.int 3))))) (op2 oRep (z06 [(z06 [(cst (.str "code")),(cst (.str "5555")),(cst (.str "unset")),(cst .none)])]) (cst (.int 3))))) skip)
  (rtn (nm 3))))
def za5:List T->Option T:=runF zh9 4
end Co
end
section
namespace K33
open D Co
noncomputable def z9a:Fs :=
  (seq (iff (tstB (op2 oEq (op2 oIx (nm 0) (cst (.int 0))) (nm 1))) (rtn (op2 oIx (nm 0) (cst (.int 1)))) skip)
  (seq (iff (tstB (op2 oEq (op2 oIx (nm 0) (cst (.int 1))) (nm 1))) (rtn (op2 oIx (nm 0) (cst (.int 0)))) skip)
  (rtn (cst .none))))
def z3e:List T->Option T:=runF z9a 2
noncomputable def z7b (rec:List T->Option T):Fs :=
  (seq (iff (tstB (op2 oEq (op2 oIx (nm 2) (op1 oNeg (cst (.int 1)))) (nm 1))) (rtn (z29 [(z06 [])])) skip)
  (seq (asgN 3 (z29 []))
  (seq (for_ (z3f (z31 (op2 oIx (nm 0) (cst (.int 1))))) (gTu [(gNm 4),(gNm 5)])
  (seq (asg 6 (opN z3e [(nmV 5),(op2 oIx (nm 2) (op1 oNeg (cst (.int 1))))]))
  (iff (andT (tstB (op1 z3j (nm 6))) (tstB (op2 (oIn true) (nm 6) (nm 2)))) (ext 3 (comp 1 [4] (z0v (opN rec [(nmV 0),(nmV 1),(op2 oAdd (nm 2) (z06 [(nmV 6)]))])) (gNm 0) (cstT true) (op2 oAdd (z06 [(nmV 1)]) (nm 0)))) skip)))
  (rtn (nm 3)))))
noncomputable def z2b:Nat->List T->Option T
 | 0=>fun _=>none
 | n+1=>runF (z7b (z2b n)) 7
noncomputable def zjd:Fs :=
  (rtn (opN z1k [(opN (z2b 20) [(nmV 0),(nmV 1),(z06 [(cst (.int 0))])])]))
def d_ways:List T->Option T:=runF zjd 2
noncomputable def zh8:Fs :=
  (seq (asg 2 (op2 oIx (nm 0) (cst (.int 2))))
  (seq (iff (tstB (op1 oIsN (nm 2))) (rtn (z06 [(z06 [(cst (.str "ticks")),(cst (.int 1))]),(z06 [(cst (.str "ticks")),(nmV 1)])])) skip)
  (rtn (z06 [(z06 [(cst (.str "line")),(nmV 2),(cst (.str "open"))]),(z06 [(cst (.str "ticks")),(cst (.int 1))]),(z06 [(cst (.str "line")),(nmV 2),(cst (.str "shut"))]),(z06 [(cst (.str "ticks")),(nmV 1)])]))))
def z3v:List T->Option T:=runF zh8 3
noncomputable def zh7:Fs :=
  (seq (asgN 3 (z29 []))
  (seq (for_ (z0v (nmV 1)) (gNm 4)
  (extT 3 (opN z3v [(op2 oIx (op2 oIx (nm 0) (cst (.int 1))) (nm 4)),(nmV 2)])))
  (rtn (opN z1k [(nm 3)]))))
def z5s:List T->Option T:=runF zh7 5
noncomputable def zaa:Fs :=
  (rtn (op2 (oIn false) (cst (.str "alarm")) (comp 3 [] (z0v (nmV 0)) (gTu [(gNm 0),(gNm 1),(gNm 2)]) (cstT true) (nmV 1))))
def z40:List T->Option T:=runF zaa 1
noncomputable def zha:Fs :=
  (seq (asg 5 (nmV 2))
  (seq (for_ (zbp (z31 (nmV 3))) (gTu [(gNm 6),(gNm 7)])
  (seq (asg 8 (opN z3v [(op2 oIx (op2 oIx (nm 1) (cst (.int 1))) (nm 7)),(nmV 4)]))
  (seq (iff (tstB (opN z40 [(opN z6x [(nmV 0),(nmV 5),(nmV 8)])])) (rtn (nm 6)) skip)
  (asg 5 (opN za6 [(nmV 0),(nmV 5),(nmV 8)])))))
  (rtn (cst .none))))
def z6t:List T->Option T:=runF zha 9
noncomputable def z8t:Fs :=
  (seq (asg 1 (op2 oAdd (cst (.int 1)) (op2 oMod (nm 0) (cst (.int 7)))))
  (seq (asg 2 (z06 []))
  (seq (for_ (z2w (op2 oMod (op2 oDiv (nm 0) (cst (.int 8))) (cst (.int 11)))) (gNm 3)
  (seq (asg 4 (op2 oDiv (opN z0p [(nmV 0),(op2 oAdd (cst (.int 50)) (nm 3))]) (cst (.int 4))))
  (seq (asg 5 (op2 oMod (nm 4) (op2 oAdd (nm 1) (cst (.int 1)))))
  (seq (asg 6 (op2 oMod (op2 oAdd (op2 oAdd (nm 5) (cst (.int 1))) (op2 oMod (op2 oDiv (nm 4) (cst (.int 8))) (nm 1))) (op2 oAdd (nm 1) (cst (.int 1)))))
  (seq (asg 7 (op2 oIx (z06 [(cst .none),(cst .none),(cst (.str "a")),(cst (.str "b")),(cst (.str "back")),(cst (.str "hall")),(cst (.str "win"))]) (op2 oMod (op2 oDiv (nm 4) (cst (.int 64))) (cst (.int 7)))))
  (asg 2 (op2 oAdd (nm 2) (z06 [(z06 [(opN oMin [(nm 5),(nm 6)]),(opN oMax [(nm 5),(nm 6)]),(nmV 7)])]))))))))
  (rtn (z06 [(nmV 1),(nmV 2)])))))
def d_l_house:List T->Option T:=runF z8t 8
noncomputable def z8s:Fs :=
  (seq (asgT (gTu [(gNm 2),(gNm 3)]) (opN d_l_house [(nmV 1)]))
  (seq (asg 4 (comp 1 [] (z0v (op2 oIx (nm 0) (cst (.int 0)))) (gNm 0) (cstT true) (op2 oIx (nm 0) (cst (.int 0)))))
  (seq (asg 5 (z06 []))
  (seq (for_ (z0v (nmV 3)) (gTu [(gNm 6),(gNm 7),(gNm 8)])
  (asg 5 (op2 oAdd (nm 5) (z06 [(z06 [(nmV 6),(nmV 7),(op2 oIx (z06 [(nmV 8),(cst .none)]) (opN oInt [(op2 (oIn true) (nm 8) (nm 4))]))])]))))
  (rtn (z06 [(nmV 2),(nmV 5)]))))))
def z4a:List T->Option T:=runF z8s 9
noncomputable def zqj:Fs :=
  (seq (asg 1 (opN zb3 [(opN z1e [(nmV 0),(cst (.int 0))])]))
  (seq (asg 2 (opN z4a [(nmV 1),(opN z1e [(nmV 0),(cst (.int 1))])]))
  (seq (asg 3 (opN z1e [(nmV 0),(cst (.int 2))]))
  (seq (asg 4 (opN za6 [(nmV 1),(opN zbs [(nmV 1)]),(opN za5 [(nmV 1),(nmV 3),(cst (.int 8))])]))
  (seq (asg 5 (op2 oAdd (cst (.int 1)) (op2 oMod (op2 oDiv (nm 3) (cst (.int 512))) (cst (.int 20)))))
  (seq (for_ (z0v (slice (opN d_ways [(nmV 2),(op2 oAdd (cst (.int 1)) (op2 oMod (op2 oDiv (nm 3) (cst (.int 64))) (op2 oIx (nm 2) (cst (.int 0)))))]) optN (opt (cst (.int 8))))) (gNm 6)
  (seq (asg 7 (opN z6t [(nmV 1),(nmV 2),(nmV 4),(nmV 6),(nmV 5)]))
  (seq (asg 8 (comp 1 [] (z0v (opN z6x [(nmV 1),(nmV 4),(opN z5s [(nmV 2),(nmV 6),(nmV 5)])])) (gNm 0) (tstB (op2 oEq (op2 oIx (nm 0) (cst (.int 1))) (cst (.str "alarm")))) (nmV 0)))
  (seq (iff (tstB (op2 oNe (op1 oIsN (nm 7)) (op2 oEq (nm 8) (z29 [])))) (rtn (cst (.bool false))) skip)
  (seq (for_ (z2w (op2 oAdd (opN oLen [(nm 6)]) (cst (.int 1)))) (gNm 9)
  (seq (asg 10 (nmV 7))
  (seq (iff (andT (tstB (op1 z3j (nm 7))) (tstB (op2 oLt (nm 9) (nm 7)))) (asg 10 (cst .none)) skip)
  (iff (tstB (op2 oNe (opN z6t [(nmV 1),(nmV 2),(nmV 4),(slice (nm 6) optN (opt (nm 9))),(nmV 5)]) (nm 10))) (rtn (cst (.bool false))) skip))))
  (iff (andT (tstB (op1 z3j (nm 7))) (notT (tstB (z33 oLe oLe (cst (.int 1)) (nm 7) (opN oLen [(nm 6)]))))) (rtn (cst (.bool false))) skip))))))
  (rtn (cst (.bool true)))))))))
def zkj:List T->Option T:=runF zqj 11
end K33
end
section
namespace Bo
open D Co
noncomputable def z51:Fs :=
  (seq (asgF 1 0 0 (nmV 1))
  (seq (z8u 1 0 1 (z29 []))
  (z8u 1 0 2 (z29 [(opN zbs [(nmV 1)])]))))
def z3l:List Sl->Option (T×List Sl):=runM 1 0 z51 2
def z7z:Fs :=
  (rtn (op2 oIx (fld 1 0 2) (op1 oNeg (cst (.int 1)))))
def z10:List Sl->Option T:=runR z7z 1
noncomputable def z6v:Fs :=
  (seq (asg 2 (opN ze8 [(fldV 1 0 0),(z21 1 z10 0 []),(nmV 1)]))
  (seq (asg 3 (opN zix [(fldV 1 0 0),(z21 1 z10 0 []),(nmV 1)]))
  (seq (appF 1 0 1 (nmV 1))
  (seq (appF 1 0 2 (nmV 3))
  (rtnM (nmV 2))))))
def z1m:List Sl->Option (T×List Sl):=runM 1 0 z6v 4
def z4q:Fs :=
  (exE (opN z4k [(fldV 1 0 0),(nmV 1)]))
def z19:List Sl->Option T:=runR z4q 2
noncomputable def z9c:Fs :=
  (seq (exE (z21 1 z19 0 [(nmV 1)]))
  (rtnX (z0s 1 z1m 0 [(z06 [(cst (.str "line")),(nmV 1),(nmV 2)])])))
def z76:List Sl->Option (T×List Sl):=runM 1 0 z9c 3
noncomputable def z9d:Fs :=
  (seq (iff (orT (tstB (op1 z3j (nm 3))) (tstB (op2 (oIn false) (nm 2) (cst (.tuple (z85 ["shunt","free"])))))) (exE (z21 1 z19 0 [(nmV 3)])) skip)
  (rtnX (z0s 1 z1m 0 [(z06 [(cst (.str "code")),(nmV 1),(nmV 2),(nmV 3)])])))
def z77:List Sl->Option (T×List Sl):=runM 1 0 z9d 4
def z7y:Fs :=
  (rtnX (z0s 1 z1m 0 [(z06 [(cst (.str "ticks")),(nmV 1)])]))
def z67:List Sl->Option (T×List Sl):=runM 1 0 z7y 2
def z80:Fs :=
  (rtn (opN zbr [(fldV 1 0 0),(z21 1 z10 0 [])]))
def z32:List Sl->Option T:=runR z80 1
def zb9:Fs :=
  (rtn (opN z1k [(fld 1 0 1)]))
def z3k:List Sl->Option T:=runR zb9 1
noncomputable def zba:Fs :=
  (rtn (opN z6x [(fldV 1 0 0),(op2 oIx (fld 1 0 2) (cst (.int 0))),(z21 1 z3k 0 [])]))
def z59:List Sl->Option T:=runR zba 1
noncomputable def z9b:Fs :=
  (seq (iff (notT (tstL (fld 1 0 1))) zia skip)
  (seq (popF 1 0 1)
  (popF 1 0 2)))
def z4b:List Sl->Option (T×List Sl):=runM 1 0 z9b 1
noncomputable def z99:Fs :=
  (seq (iff (tstB (op2 oEq (op2 oIx (nm 1) (cst (.int 0))) (cst (.str "line")))) (rtnX (z0s 1 z76 0 [(op2 oIx (nm 1) (cst (.int 1))),(op2 oIx (nm 1) (cst (.int 2)))])) skip)
  (seq (iff (tstB (op2 oEq (op2 oIx (nm 1) (cst (.int 0))) (cst (.str "code")))) (rtnX (z0s 1 z77 0 [(op2 oIx (nm 1) (cst (.int 1))),(op2 oIx (nm 1) (cst (.int 2))),(op2 oIx (nm 1) (cst (.int 3)))])) skip)
  (rtnX (z0s 1 z67 0 [(op2 oIx (nm 1) (cst (.int 1)))]))))
def z3d:List Sl->Option (T×List Sl):=runM 1 0 z99 2
end Bo
end
section
namespace K35
open D Co K33 Bo
noncomputable def zqj:Fs :=
  (seq (asg 1 (opN zb3 [(opN z1e [(nmV 0),(cst (.int 0))])]))
  (seq (asg 2 (opN z4a [(nmV 1),(opN z1e [(nmV 0),(cst (.int 1))])]))
  (seq (asg 3 (opN z1e [(nmV 0),(cst (.int 2))]))
  (seq (asgO 4 (newO 1 z3l [(nmV 1)]))
  (seq (for_ (z0v (opN za5 [(nmV 1),(nmV 3),(cst (.int 8))])) (gNm 5)
  (exX (zj7 1 z3d [] 4 [(nmV 5)])))
  (seq (asg 6 (z06 [(z21 1 z10 4 []),(z21 1 z32 4 []),(z21 1 z59 4 []),(z21 1 z3k 4 [])]))
  (seq (asg 7 (op2 oAdd (cst (.int 1)) (op2 oMod (op2 oDiv (nm 3) (cst (.int 512))) (cst (.int 20)))))
  (seq (for_ (z0v (slice (opN d_ways [(nmV 2),(op2 oAdd (cst (.int 1)) (op2 oMod (op2 oDiv (nm 3) (cst (.int 64))) (op2 oIx (nm 2) (cst (.int 0)))))]) optN (opt (cst (.int 5))))) (gNm 8)
  (seq (asg 9 (opN z6t [(nmV 1),(nmV 2),(op2 oIx (nm 6) (cst (.int 0))),(nmV 8),(nmV 7)]))
  (seq (asg 10 (cst .none))
  (seq (asg 11 (cst (.int 0)))
  (seq (for_ (z3f (z31 (nmV 8))) (gTu [(gNm 12),(gNm 13)])
  (for_ (z0v (opN z5s [(nmV 2),(z06 [(nmV 13)]),(nmV 7)])) (gNm 5)
  (seq (asgX 14 (zj7 1 z3d [] 4 [(nmV 5)]))
  (seq (asg 11 (op2 oAdd (nm 11) (cst (.int 1))))
  (iff (andT (tstB (op1 oIsN (nm 10))) (tstB (op2 (oIn false) (cst (.str "alarm")) (comp 2 [] (z0v (nmV 14)) (gTu [(gNm 0),(gNm 1)]) (cstT true) (nmV 0))))) (asg 10 (op2 oAdd (nm 12) (cst (.int 1)))) skip)))))
  (seq (iff (tstB (op2 oNe (nm 10) (nm 9))) (rtn (cst (.bool false))) skip)
  (seq (for_ (z2w (nm 11)) (gNm 15)
  (exX (z0s 1 z4b 4 [])))
  (iff (tstB (op2 oNe (z06 [(z21 1 z10 4 []),(z21 1 z32 4 []),(z21 1 z59 4 []),(z21 1 z3k 4 [])]) (nm 6))) (rtn (cst (.bool false))) skip))))))))
  (rtn (cst (.bool true)))))))))))
def zkj:List T->Option T:=runF zqj 16
end K35
end
section
namespace K35
open PySem PySem.Spec PyProof.Rows L2 D Co K33 Bo
variable [Tbl]
noncomputable def top (i:Nat):Stmt:=PySem.Challenge.pw_doorwatch_k35_whole_walkers_at_a_box.main.body.getD i (.Pass ⟨0,0,0,0⟩)
section
variable {P:y0q} {w:World} {K:y00} {mg:Str->Option Value} {base:Heap} {CCourse CBox:Addr} {k:Nat} {f:Addr} {fd:y0b}
local macro_rules | `(unop% b1 $F) => `(Fun.binds $F fun _ _ _ _ _ _ us hl => match us, hl with | [_], _ => rfl)
local macro_rules | `(unop% b2 $F) => `(Fun.binds $F fun _ _ _ _ _ _ us hl => match us, hl with | [_, _], _ => rfl)
local macro_rules | `(unop% b3 $F) => `(Fun.binds $F fun _ _ _ _ _ _ us hl => match us, hl with | [_, _, _], _ => rfl)
local macro_rules | `(unop% b4 $F) => `(Fun.binds $F fun _ _ _ _ _ _ us hl => match us, hl with | [_, _, _, _], _ => rfl)
local macro_rules | `(unop% b5 $F) => `(Fun.binds $F fun _ _ _ _ _ _ us hl => match us, hl with | [_, _, _, _, _], _ => rfl)
local macro_rules | `(unop% sk 0) => `(⟨rfl, rfl, rfl, by decide +kernel, rfl, by decide +kernel, by decide +kernel⟩)
set_option hygiene false in
local macro_rules | `(unop% ko 0) => `(ClOk K 0 CCourse ["plan", "mode", "left", "came", "lines", "shunts", "siren", "alarms", "tries", "locked", "used", "past", "told"])
set_option hygiene false in
local macro_rules | `(unop% ko 1) => `(ClOk K 1 CBox ["plan", "events", "states"])
set_option hygiene false in
local macro_rules | `(unop% lm $t) => `(fun cdv A outer s H E hr => $t)
local macro_rules | `(unop% w6 $t) => `(fun _ _ _ _ _ _ => $t)
local macro_rules | `(unop% nd $l) => `(show List.Nodup ($l : List Str) by decide +kernel)
local macro_rules | `(binop% co $s $l) => `(zxu (sc := z02 $s) $l rfl rfl rfl (by decide +kernel))
set_option hygiene false in
local macro_rules | `(binop% eqt $a $b) => `(z5a (zon (by exact hr.units)) zop $a $b)
set_option hygiene false in
local macro_rules | `(binop% net $a $b) => `(z5a (ztd (by exact hr.units)) zte $a $b)
abbrev zan:Stmt:=top 6
theorem zf0:FnScope ["plan","name","zone"] ["plan","name"] (z02 zan):=unop% sk 0
theorem z68 (F:Fun K "kind_of" "kind_of" zan f fd) (m:mg "kind_of"=some (.ref f)) :Cl P w K mg base "kind_of" (k+1) 2 z4k :=
 z5t F zf0 (unop% b2 F) m unop% lm
  (z04 (z9i y2b (z75 (q_ix (q_nm 0) (v2r z05))) (g_nm 2 zf0.nd)
  (z09 (s_if (binop% eqt (v2r (q_ix (q_nm 2) (v2r z05))) (q_nm 1)) (z09 (z1h (q_ix (q_nm 2) (v2r z05)))) z2q)))
  (z09 zo2))
abbrev zbi:Stmt:=top 7
theorem zgd:FnScope ["plan","lines","used"] ["plan"] (z02 zbi):=unop% sk 0
theorem zkr (F:Fun K "begun" "begun" zbi f fd) (m:mg "begun"=some (.ref f)) (z_tuple:mg "tuple"=none):Cl P w K mg base "begun" (k+1) 1 zbs :=
 z5t F zgd (unop% b1 F) m unop% lm
  (z04 (z0z 1 zgd.nd (z4r z_tuple (z1j (v2r (z60 (own:=["zone"]) (caps:=[]) (binop% co zbi ["plan","lines","used"]) (z75 (q_ix (q_nm 0) (v2r z05))) (unop% w6 (g_nm 0 (unop% nd ["zone"]))) (unop% w6 z9m) (unop% w6 z0b))) z3p)))
  (z04 (z0z 2 zgd.nd (z4r z_tuple (z1j (v2r (z60 (own:=["code"]) (caps:=[]) (binop% co zbi ["plan","lines","used"]) (z75 (q_ix (q_nm 0) (v2r z05))) (unop% w6 (g_nm 0 (unop% nd ["code"]))) (unop% w6 z9m) (unop% w6 z05))) z3p)))
  (z09 (z1h (z0n (z00 z0b (z00 z05 (z00 z8c (z00 (z07 1) (z00 (z0n z03) (z00 z05 (z00 (z0n z03) (z00 z05 (z00 z05 (z00 (z07 2) z03)))))))))))))))
abbrev zao:Stmt:=top 13
theorem zf1:FnScope ["plan","figures","code"] ["plan","figures"] (z02 zao):=unop% sk 0
theorem zef (F:Fun K "code_of" "code_of" zao f fd) (m:mg "code_of"=some (.ref f)) :Cl P w K mg base "code_of" (k+1) 2 z8m :=
 z5t F zf1 (unop% b2 F) m unop% lm
  (z04 (z9i y2b (z75 (q_ix (q_nm 0) (v2r z05))) (g_nm 2 zf1.nd)
  (z09 (s_if (binop% eqt (v2r (q_ix (q_nm 2) (v2r z05))) (q_nm 1)) (z09 (zla 2)) z2q)))
  (z09 (z1h z8c)))
abbrev z8x:Stmt:=top 14
theorem zjt:FnScope ["ticks","many"] ["ticks","many"] (z02 z8x):=unop% sk 0
theorem z79 (F:Fun K "lessened" "lessened" z8x f fd) (m:mg "lessened"=some (.ref f)) (z_max:mg "max"=none):Cl P w K mg base "lessened" (k+1) 2 z4t :=
 z5t F zjt (unop% b2 F) m unop% lm
  (z09 (z1h (zwo z_max (z1j (v2r (zwm (q_nm 0) (q_nm 1))) (z1j (v2r z05) z3p)))))
abbrev z1n:Stmt:=z0o (top 15) 0
theorem zah:FnScope ["self","plan","state"] ["self","plan","state"] (z02 z1n):=unop% sk 0
theorem zbv (F:Fun K "__init__" "Course.__init__" z1n f fd) (me:Mk K CCourse f) (m:mg "Course"=some (.ref CCourse)) (kcCourse:unop% ko 0) (z_dict:mg "dict"=none) (z_list:mg "list"=none) (z_zip:mg "zip"=none):ClNew P w K mg base "Course" CCourse 0 (k+1) 3 z2e :=
 ztl F zah (unop% b3 F) me m unop% lm
  (z04 (z1w (j:=0) kcCourse (pv 0) (z07 1))
  (z04 (z1w (j:=1) kcCourse (pv 0) (q_ix (q_nm 2) (v2r z05)))
  (z04 (z1w (j:=2) kcCourse (pv 0) (q_ix (q_nm 2) (v2r z05)))
  (z04 (z1w (j:=3) kcCourse (pv 0) (q_ix (q_nm 2) (v2r z05)))
  (z04 (zo3 (j:=4) kcCourse rfl z_dict z_zip (pv 0) (v2r (z60 (own:=["zone"]) (caps:=[]) (binop% co z1n ["self","plan","state"]) (z75 (q_ix (q_nm 1) (v2r z05))) (unop% w6 (g_nm 0 (unop% nd ["zone"]))) (unop% w6 z9m) (unop% w6 (q_ix (q_nm 0) (v2r z05))))) (v2r (q_ix (q_nm 2) (v2r z05))))
  (z04 (z8b (j:=5) kcCourse (pv 0) (zoc z_list (v2r (q_ix (q_nm 2) (v2r z05)))))
  (z04 (z1w (j:=6) kcCourse (pv 0) (q_ix (q_nm 2) (v2r z05)))
  (z04 (z8b (j:=7) kcCourse (pv 0) (zoc z_list (v2r (q_ix (q_nm 2) (v2r z05)))))
  (z04 (z1w (j:=8) kcCourse (pv 0) (q_ix (q_nm 2) (v2r z05)))
  (z04 (z1w (j:=9) kcCourse (pv 0) (q_ix (q_nm 2) (v2r z05)))
  (z04 (zo3 (j:=10) kcCourse rfl z_dict z_zip (pv 0) (v2r (z60 (own:=["code"]) (caps:=[]) (binop% co z1n ["self","plan","state"]) (z75 (q_ix (q_nm 1) (v2r z05))) (unop% w6 (g_nm 0 (unop% nd ["code"]))) (unop% w6 z9m) (unop% w6 (q_ix (q_nm 0) (v2r z05))))) (v2r (q_ix (q_nm 2) (v2r z05))))
  (z04 (z1w (j:=11) kcCourse (pv 0) z05)
  (z09 (z8b (j:=12) kcCourse (pv 0) (zhz z03)))))))))))))))
abbrev z4y:Stmt:=z0o (top 15) 1
theorem z2x:FnScope ["self","lines","shunts","alarms","used"] ["self"] (z02 z4y):=unop% sk 0
theorem z3n (F:Fun K "state" "Course.state" z4y f fd) (m:Meth K CCourse "state" f) (kcCourse:unop% ko 0) (z_tuple:mg "tuple"=none):MtRd P w K mg base CCourse "state" (k+1) 1 z22 :=
 z9q F z2x (unop% b1 F) m unop% lm
  (z04 (z0z 1 z2x.nd (zod (j:=4) kcCourse rfl z_tuple (pv 0)))
  (z04 (z0z 2 z2x.nd (z4r z_tuple (z1j (z4s (j:=5) kcCourse (pv 0)) z3p)))
  (z04 (z0z 3 z2x.nd (z4r z_tuple (z1j (z4s (j:=7) kcCourse (pv 0)) z3p)))
  (z04 (z0z 4 z2x.nd (zod (j:=10) kcCourse rfl z_tuple (pv 0)))
  (z09 (z1h (z0n (z00 (z49 (j:=1) kcCourse (pv 0)) (z00 (z49 (j:=2) kcCourse (pv 0)) (z00 (z49 (j:=3) kcCourse (pv 0)) (z00 (z07 1) (z00 (z07 2) (z00 (z49 (j:=6) kcCourse (pv 0)) (z00 (z07 3) (z00 (z49 (j:=8) kcCourse (pv 0)) (z00 (z49 (j:=9) kcCourse (pv 0)) (z00 (z07 4) z03)))))))))))))))))
abbrev z5o:Stmt:=z0o (top 15) 3
theorem zek:FnScope ["self","word","name"] ["self","word","name"] (z02 z5o):=unop% sk 0
theorem z0a (F:Fun K "tell" "Course.tell" z5o f fd) (m:Meth K CCourse "tell" f) (kcCourse:unop% ko 0):MtMd P w K mg base CCourse 0 "tell" (k+1) 3 z08 :=
 z30 F zek (unop% b3 F) m unop% lm
  (z09 (zld (j:=12) kcCourse (pv 0) (z0n (z00 (z49 (j:=11) kcCourse (pv 0)) (z00 (z07 1) (z00 (z07 2) z03))))))
abbrev z3t:Stmt:=z0o (top 15) 4
theorem zbh:FnScope ["self"] ["self"] (z02 z3t):=unop% sk 0
theorem z2t (F:Fun K "be_loud" "Course.be_loud" z3t f fd) (m:Meth K CCourse "be_loud" f) (kcCourse:unop% ko 0):MtMd P w K mg base CCourse 0 "be_loud" (k+1) 1 z1d :=
 z30 F zbh (unop% b1 F) m unop% lm
  (z09 (z1w (j:=6) kcCourse (pv 0) (q_ix (v2r (q_ix (z4s (j:=0) kcCourse (pv 0)) (v2r z05))) (v2r z05))))
abbrev z4z:Stmt:=z0o (top 15) 5
theorem zd8:FnScope ["self","zone"] ["self","zone"] (z02 z4z):=unop% sk 0
theorem z0y (F:Fun K "alarm" "Course.alarm" z4z f fd) (m:Meth K CCourse "alarm" f) (kcCourse:unop% ko 0) (z2t:MtMd P w K mg base CCourse 0 "be_loud" k 1 z1d) (z0a:MtMd P w K mg base CCourse 0 "tell" k 3 z08):MtMd P w K mg base CCourse 0 "alarm" (k+1) 2 z0i :=
 z30 F zd8 (unop% b2 F) m unop% lm
  (z04 (z2g (z6l kcCourse z2t hr (pv 0)))
  (z09 (s_if (z5a (z61 (by exact hr.units)) z6p (q_nm 1) (z4s (j:=7) kcCourse (pv 0))) (z04 (zld (j:=7) kcCourse (pv 0) (z07 1))
  (z09 (z2g (z0k kcCourse z0a hr (pv 0) (z00 z0b (z00 (z07 1) z03)))))) z2q)))
abbrev z3s:Stmt:=z0o (top 15) 9
theorem zbg:FnScope ["self","zone","kind"] ["self","zone","kind"] (z02 z3s):=unop% sk 0
theorem z5g (F:Fun K "come_in" "Course.come_in" z3s f fd) (m:Meth K CCourse "come_in" f) (kcCourse:unop% ko 0) (z0a:MtMd P w K mg base CCourse 0 "tell" k 3 z08) (z0y:MtMd P w K mg base CCourse 0 "alarm" k 2 z0i):MtMd P w K mg base CCourse 0 "come_in" (k+1) 3 z1c :=
 z30 F zbg (unop% b3 F) m unop% lm
  (z04 (s_if (w_t (w_or (binop% net (q_nm 2) (v2r z0b)) (zm6 (z5a (zv3.or zdd) zoo (v2r (q_ix (v2r (q_ix (z4s (j:=0) kcCourse (pv 0)) (v2r z05))) (v2r z05))) (v2r z05))))) (z04 (z2g (z0k kcCourse z0y hr (pv 0) (z00 (z07 1) z03)))
  (z09 zjy)) z2q)
  (z04 (z1w (j:=1) kcCourse (pv 0) z0b)
  (z04 (z1w (j:=2) kcCourse (pv 0) (q_ix (v2r (q_ix (z4s (j:=0) kcCourse (pv 0)) (v2r z05))) (v2r z05)))
  (z04 (z1w (j:=3) kcCourse (pv 0) (z07 1))
  (z09 (z2g (z0k kcCourse z0a hr (pv 0) (z00 z0b (z00 (z07 1) z03)))))))))
abbrev z3r:Stmt:=z0o (top 15) 8
theorem z72:FnScope ["self","zone","what","kind"] ["self","zone","what"] (z02 z3r):=unop% sk 0
theorem z5f (F:Fun K "disturb" "Course.disturb" z3r f fd) (m:Meth K CCourse "disturb" f) (kcCourse:unop% ko 0) (z68:Cl P w K mg base "kind_of" k 2 z4k) (z0y:MtMd P w K mg base CCourse 0 "alarm" k 2 z0i) (z0a:MtMd P w K mg base CCourse 0 "tell" k 3 z08) (z5g:MtMd P w K mg base CCourse 0 "come_in" k 3 z1c):MtMd P w K mg base CCourse 0 "disturb" (k+1) 3 z2r :=
 z30 F z72 (unop% b3 F) m unop% lm
  (z04 (z0z 3 z72.nd (z0l z68 hr (z00 (z49 (j:=0) kcCourse (pv 0)) (z00 (z07 1) z03))))
  (z09 (s_if (binop% eqt (q_nm 3) (v2r z0b)) (z09 (z2g (z0k kcCourse z0y hr (pv 0) (z00 (z07 1) z03)))) (z09 (s_if (binop% eqt (z4s (j:=1) kcCourse (pv 0)) (v2r z0b)) (z09 (s_if (binop% eqt (q_nm 2) (v2r z0b)) (z09 (z2g (z0k kcCourse z0a hr (pv 0) (z00 z0b (z00 (z07 1) z03))))) z2q)) (z09 (s_if (w_t (w_or (binop% eqt (q_nm 2) (v2r z0b)) (zm6 (binop% eqt (q_nm 3) (v2r z0b))))) (z09 (z2g (z0k kcCourse z0y hr (pv 0) (z00 (z07 1) z03)))) (z09 (s_if (binop% eqt (z4s (j:=1) kcCourse (pv 0)) (v2r z0b)) (z09 (z2g (z0k kcCourse z5g hr (pv 0) (z00 (z07 1) (z00 (z07 3) z03))))) z2q)))))))))
abbrev z5p:Stmt:=z0o (top 15) 7
theorem z9n:FnScope ["self","zone","what","before"] ["self","zone","what"] (z02 z5p):=unop% sk 0
theorem z7v (F:Fun K "line" "Course.line" z5p f fd) (m:Meth K CCourse "line" f) (kcCourse:unop% ko 0) (z0a:MtMd P w K mg base CCourse 0 "tell" k 3 z08) (z5f:MtMd P w K mg base CCourse 0 "disturb" k 3 z2r):MtMd P w K mg base CCourse 0 "line" (k+1) 3 z4l :=
 z30 F z9n (unop% b3 F) m unop% lm
  (z04 (z0z 3 z9n.nd (zoe (j:=4) kcCourse (zph hr) (pv 0) (q_nm 1)))
  (z04 (s_if (binop% eqt (q_nm 2) (q_nm 3)) (z09 zjy) z2q)
  (z04 (zwd (j:=4) kcCourse (zph hr) (pv 0) (q_nm 1) (z07 2))
  (z09 (s_if (binop% eqt (q_nm 2) (v2r z0b)) (z09 (s_if (binop% eqt (q_nm 3) (v2r z0b)) (z09 (z2g (z0k kcCourse z0a hr (pv 0) (z00 z0b (z00 (z07 1) z03))))) z2q)) (z09 (s_if (z5a (z61 (by exact hr.units)) z6p (q_nm 1) (z4s (j:=5) kcCourse (pv 0))) (z09 (z2g (z0k kcCourse z5f hr (pv 0) (z00 (z07 1) (z00 (z07 2) z03))))) z2q)))))))
abbrev z2l:Stmt:=z0o (top 15) 16
theorem z9g:FnScope ["self","code"] ["self","code"] (z02 z2l):=unop% sk 0
theorem z43 (F:Fun K "is_used_up" "Course.is_used_up" z2l f fd) (m:Meth K CCourse "is_used_up" f) (kcCourse:unop% ko 0):MtRd P w K mg base CCourse "is_used_up" (k+1) 2 z16 :=
 z9q F z9g (unop% b2 F) m unop% lm
  (z09 (z1h (zws (zel (ztd (by exact hr.units)) zte (v2r (q_ix (q_nm 1) (v2r z05))) (v2r z05)) (zt7 (zel (zxd.or zi6) ztf (v2r (zoe (j:=10) kcCourse (zph hr) (pv 0) (v2r (q_ix (q_nm 1) (v2r z05))))) (v2r (q_ix (q_nm 1) (v2r z05))))))))
abbrev z2j:Stmt:=z0o (top 15) 17
theorem z9f:FnScope ["self"] ["self"] (z02 z2j):=unop% sk 0
theorem z41 (F:Fun K "take_wrong" "Course.take_wrong" z2j f fd) (m:Meth K CCourse "take_wrong" f) (kcCourse:unop% ko 0) (z0a:MtMd P w K mg base CCourse 0 "tell" k 3 z08) (z2t:MtMd P w K mg base CCourse 0 "be_loud" k 1 z1d) {t_WRONG_IN_A_ROW:Tok} (g_WRONG_IN_A_ROW:mg "WRONG_IN_A_ROW"=some (.int 3 t_WRONG_IN_A_ROW)) {t_TICKS_LOCKED:Tok} (g_TICKS_LOCKED:mg "TICKS_LOCKED"=some (.int 90 t_TICKS_LOCKED)):MtMd P w K mg base CCourse 0 "take_wrong" (k+1) 1 z14 :=
 z30 F z9f (unop% b1 F) m unop% lm
  (z04 (z2g (z0k kcCourse z0a hr (pv 0) (z00 z0b (z00 z8c z03))))
  (z04 (zt3 (j:=8) kcCourse (pv 0) z05)
  (z09 (s_if (z5a (zxd.or zi6) ztf (z4s (j:=8) kcCourse (pv 0)) (v2r (q_gI g_WRONG_IN_A_ROW))) (z04 (z1w (j:=8) kcCourse (pv 0) z05)
  (z04 (z1w (j:=9) kcCourse (pv 0) (q_gI g_TICKS_LOCKED))
  (z04 (z2g (z6l kcCourse z2t hr (pv 0)))
  (z09 (z2g (z0k kcCourse z0a hr (pv 0) (z00 z0b (z00 z8c z03)))))))) z2q))))
abbrev z24:Stmt:=z0o (top 15) 20
theorem z8a:FnScope ["self","deed","zone"] ["self","deed","zone"] (z02 z24):=unop% sk 0
theorem z3h (F:Fun K "is_untimely" "Course.is_untimely" z24 f fd) (m:Meth K CCourse "is_untimely" f) (kcCourse:unop% ko 0) (z68:Cl P w K mg base "kind_of" k 2 z4k):MtRd P w K mg base CCourse "is_untimely" (k+1) 3 z0g :=
 z9q F z8a (unop% b3 F) m unop% lm
  (z04 (s_if (binop% eqt (q_nm 1) (v2r z0b)) (z09 (z1h q_bl)) z2q)
  (z04 (s_if (binop% net (z4s (j:=1) kcCourse (pv 0)) (v2r z0b)) (z09 (z1h q_bl)) z2q)
  (z04 (s_if (binop% eqt (q_nm 1) (v2r z0b)) (z09 (z1h (q_or (zel (zon (by exact hr.units)) zop (v2r (z0l z68 hr (z00 (z49 (j:=0) kcCourse (pv 0)) (z00 (z07 2) z03)))) (v2r z0b)) (zym (zel (zde (by exact hr.units)) z6p (q_nm 2) (z4s (j:=5) kcCourse (pv 0))))))) z2q)
  (z09 (z1h (zws (zel (zon (by exact hr.units)) zop (q_nm 1) (v2r z0b)) (zt7 (zel (z61 (by exact hr.units)) z6p (q_nm 2) (z4s (j:=5) kcCourse (pv 0))))))))))
abbrev z12:Stmt:=z0o (top 15) 6
theorem z5l:FnScope ["self","kinds","zones"] ["self","kinds"] (z02 z12):=unop% sk 0
theorem z1u (F:Fun K "bare_zones" "Course.bare_zones" z12 f fd) (m:Meth K CCourse "bare_zones" f) (kcCourse:unop% ko 0):MtRd P w K mg base CCourse "bare_zones" (k+1) 2 z0u :=
 z9q F z5l (unop% b2 F) m unop% lm
  (z04 (zlc 2 z5l.nd (own:=["zone"]) (caps:=[(1,"kinds")]) (binop% co z12 ["self","kinds","zones"]) (z75 (q_ix (z4s (j:=0) kcCourse (pv 0)) (v2r z05))) (unop% w6 (g_nm 0 (unop% nd ["zone","kinds"]))) (unop% w6 (zhi (z5a (zde (by exact hr.units)) z6p (v2r (q_ix (q_nm 0) (v2r z05))) (q_nm 1)))) (unop% w6 (q_ix (q_nm 0) (v2r z05))))
  (z09 (z1h (z60 (own:=["zone"]) (caps:=[(0,"self")]) (binop% co z12 ["self","kinds","zones"]) (z75 (z07 2)) (unop% w6 (g_nm 0 (unop% nd ["zone","self"]))) (unop% w6 (zhi (w_t (zm7 (binop% net (v2r (zoe (j:=4) (by exact kcCourse) (by exact zph hr) (pv 1) (q_nm 0))) (v2r z0b)) (zeu (z5a (z61 (by exact hr.units)) z6p (q_nm 0) (z4s (j:=5) (by exact kcCourse) (pv 1)))))))) (unop% w6 (z07 0))))))
abbrev z1a:Stmt:=z0o (top 15) 19
theorem z20:FnScope ["self","code","deed","zone","right","bare"] ["self","code","deed","zone"] (z02 z1a):=unop% sk 0
theorem z2f (F:Fun K "what_is_against" "Course.what_is_against" z1a f fd) (m:Meth K CCourse "what_is_against" f) (kcCourse:unop% ko 0) (z3h:MtRd P w K mg base CCourse "is_untimely" k 3 z0g) (z1u:MtRd P w K mg base CCourse "bare_zones" k 2 z0u) {a_KINDS_SHUT_TO_SET:Addr} (m_KINDS_SHUT_TO_SET:mg "KINDS_SHUT_TO_SET"=some (.ref a_KINDS_SHUT_TO_SET)) (t_KINDS_SHUT_TO_SET:∃(o:Obj) (its:Array Value) (n:Nat),K.lookup a_KINDS_SHUT_TO_SET=some o/\o.cls=.type "tuple"/\o.data=.seq its n/\its.size<=y0j/\Vals ((["day","once"]:List Str).map V.str) its.toList):MtRd P w K mg base CCourse "what_is_against" (k+1) 4 z0w :=
 z9q F z20 (unop% b4 F) m unop% lm
  (z04 (z0z 4 z20.nd (zyo (binop% eqt (q_nm 2) (v2r z0b)) z0b (z07 2)))
  (z04 (s_if (z5a (z61 (by exact hr.units)) z6p (q_nm 4) (v2r (q_ix (q_nm 1) (v2r z05)))) (z09 (z1h (z0n (z00 z0b (z00 (q_ix (q_nm 1) (v2r z05)) z03))))) z2q)
  (z04 (s_if (znt (v2r (z9x kcCourse z3h hr (pv 0) (z00 (z07 2) (z00 (z07 3) z03))))) (z09 (z1h (z0n (z00 z0b (z00 (q_ix (q_nm 1) (v2r z05)) z03))))) z2q)
  (z04 (z0z 5 z20.nd (z9x kcCourse z1u hr (pv 0) (z00 (q_gT m_KINDS_SHUT_TO_SET t_KINDS_SHUT_TO_SET) z03)))
  (z04 (s_if (w_t (zm7 (binop% eqt (q_nm 2) (v2r z0b)) (zeu (zt1 (q_nm 5))))) (z09 (z1h (z0n (z00 z0b (z00 (q_ix (q_nm 5) (v2r z05)) z03))))) z2q)
  (z09 (z1h z8c)))))))
abbrev z25:Stmt:=z0o (top 15) 13
theorem z52:FnScope ["self","zone"] ["self"] (z02 z25):=unop% sk 0
theorem z1f (F:Fun K "end_leaving" "Course.end_leaving" z25 f fd) (m:Meth K CCourse "end_leaving" f) (kcCourse:unop% ko 0) (z0a:MtMd P w K mg base CCourse 0 "tell" k 3 z08) (z1u:MtRd P w K mg base CCourse "bare_zones" k 2 z0u) (z0y:MtMd P w K mg base CCourse 0 "alarm" k 2 z0i) {a_KINDS_LEFT_BY:Addr} (m_KINDS_LEFT_BY:mg "KINDS_LEFT_BY"=some (.ref a_KINDS_LEFT_BY)) (t_KINDS_LEFT_BY:∃(o:Obj) (its:Array Value) (n:Nat),K.lookup a_KINDS_LEFT_BY=some o/\o.cls=.type "tuple"/\o.data=.seq its n/\its.size<=y0j/\Vals ((["inner","way"]:List Str).map V.str) its.toList):MtMd P w K mg base CCourse 0 "end_leaving" (k+1) 1 z0q :=
 z30 F z52 (unop% b1 F) m unop% lm
  (z04 (z1w (j:=1) kcCourse (pv 0) z0b)
  (z04 (z1w (j:=2) kcCourse (pv 0) z05)
  (z04 (z2g (z0k kcCourse z0a hr (pv 0) (z00 z0b (z00 z8c z03))))
  (z09 (z9i y2b (z75 (z9x kcCourse z1u hr (pv 0) (z00 (q_gT m_KINDS_LEFT_BY t_KINDS_LEFT_BY) z03))) (g_nm 1 z52.nd)
  (z09 (z2g (z0k kcCourse z0y hr (pv 0) (z00 (z07 1) z03)))))))))
abbrev z4g:Stmt:=z0o (top 15) 22
theorem zcg:FnScope ["self","who"] ["self","who"] (z02 z4g):=unop% sk 0
theorem z6a (F:Fun K "do_set" "Course.do_set" z4g f fd) (m:Meth K CCourse "do_set" f) (kcCourse:unop% ko 0) (z0a:MtMd P w K mg base CCourse 0 "tell" k 3 z08) (z1f:MtMd P w K mg base CCourse 0 "end_leaving" k 1 z0q):MtMd P w K mg base CCourse 0 "do_set" (k+1) 2 z2d :=
 z30 F zcg (unop% b2 F) m unop% lm
  (z04 (z8b (j:=7) kcCourse (pv 0) (zhz z03))
  (z04 (z1w (j:=6) kcCourse (pv 0) z05)
  (z04 (z1w (j:=1) kcCourse (pv 0) z0b)
  (z04 (z1w (j:=2) kcCourse (pv 0) (q_ix (v2r (q_ix (z4s (j:=0) kcCourse (pv 0)) (v2r z05))) (v2r z05)))
  (z04 (z2g (z0k kcCourse z0a hr (pv 0) (z00 z0b (z00 (z07 1) z03))))
  (z09 (s_if (z5a (zv3.or zdd) zoo (z4s (j:=2) kcCourse (pv 0)) (v2r z05)) (z09 (z2g (z6l kcCourse z1f hr (pv 0)))) z2q)))))))
abbrev z3b:Stmt:=z0o (top 15) 23
theorem zag:FnScope ["self","who"] ["self","who"] (z02 z3b):=unop% sk 0
theorem z4v (F:Fun K "do_unset" "Course.do_unset" z3b f fd) (m:Meth K CCourse "do_unset" f) (kcCourse:unop% ko 0) (z0a:MtMd P w K mg base CCourse 0 "tell" k 3 z08):MtMd P w K mg base CCourse 0 "do_unset" (k+1) 2 z2c :=
 z30 F zag (unop% b2 F) m unop% lm
  (z04 (z1w (j:=1) kcCourse (pv 0) z0b)
  (z04 (z1w (j:=2) kcCourse (pv 0) z05)
  (z04 (z1w (j:=6) kcCourse (pv 0) z05)
  (z04 (z1w (j:=3) kcCourse (pv 0) z8c)
  (z04 (z8b (j:=5) kcCourse (pv 0) (zhz z03))
  (z09 (z2g (z0k kcCourse z0a hr (pv 0) (z00 z0b (z00 (z07 1) z03))))))))))
abbrev z3q:Stmt:=z0o (top 15) 21
theorem zbf:FnScope ["self","who","deed","zone"] ["self","who","deed","zone"] (z02 z3q):=unop% sk 0
theorem z5e (F:Fun K "do_deed" "Course.do_deed" z3q f fd) (m:Meth K CCourse "do_deed" f) (kcCourse:unop% ko 0) (z6a:MtMd P w K mg base CCourse 0 "do_set" k 2 z2d) (z4v:MtMd P w K mg base CCourse 0 "do_unset" k 2 z2c) (z_sorted:mg "sorted"=none) (z0a:MtMd P w K mg base CCourse 0 "tell" k 3 z08):MtMd P w K mg base CCourse 0 "do_deed" (k+1) 4 z11 :=
 z30 F zbf (unop% b4 F) m unop% lm
  (z09 (s_if (binop% eqt (q_nm 2) (v2r z0b)) (z09 (z2g (z0k kcCourse z6a hr (pv 0) (z00 (z07 1) z03)))) (z09 (s_if (binop% eqt (q_nm 2) (v2r z0b)) (z09 (z2g (z0k kcCourse z4v hr (pv 0) (z00 (z07 1) z03)))) (z09 (s_if (binop% eqt (q_nm 2) (v2r z0b)) (z04 (z8b (j:=5) kcCourse (pv 0) (zoa rfl z_sorted (v2r (z3x (z4s (j:=5) kcCourse (pv 0)) (v2r (zt6 (z00 (z07 3) z03)))))))
  (z09 (z2g (z0k kcCourse z0a hr (pv 0) (z00 z0b (z00 (z07 3) z03)))))) (z04 (zyf (j:=5) kcCourse (pv 0) (z07 3))
  (z09 (z2g (z0k kcCourse z0a hr (pv 0) (z00 z0b (z00 (z07 3) z03))))))))))))
abbrev z2k:Stmt:=z0o (top 15) 18
theorem z5j:FnScope ["self","code","deed","zone","against"] ["self","code","deed","zone"] (z02 z2k):=unop% sk 0
theorem z42 (F:Fun K "take_right" "Course.take_right" z2k f fd) (m:Meth K CCourse "take_right" f) (kcCourse:unop% ko 0) (z2f:MtRd P w K mg base CCourse "what_is_against" k 4 z0w) (z5e:MtMd P w K mg base CCourse 0 "do_deed" k 4 z11) (z0a:MtMd P w K mg base CCourse 0 "tell" k 3 z08):MtMd P w K mg base CCourse 0 "take_right" (k+1) 4 z15 :=
 z30 F z5j (unop% b4 F) m unop% lm
  (z04 (z0z 4 z5j.nd (z9x kcCourse z2f hr (pv 0) (z00 (z07 1) (z00 (z07 2) (z00 (z07 3) z03)))))
  (z09 (s_if (zqx (q_nm 4)) (z04 (zuc (j:=10) kcCourse (zph hr) (pv 0) (v2r (q_ix (q_nm 1) (v2r z05))) z05)
  (z09 (z2g (z0k kcCourse z5e hr (pv 0) (z00 (q_ix (q_nm 1) (v2r z05)) (z00 (z07 2) (z00 (z07 3) z03))))))) (z09 (z2g (z0k kcCourse z0a hr (pv 0) (z00 (q_ix (q_nm 4) (v2r z05)) (z00 (q_ix (q_nm 4) (v2r z05)) z03))))))))
abbrev z5q:Stmt:=z0o (top 15) 15
theorem z9o:FnScope ["self","figures","deed","zone","code"] ["self","figures","deed","zone"] (z02 z5q):=unop% sk 0
theorem z7w (F:Fun K "code" "Course.code" z5q f fd) (m:Meth K CCourse "code" f) (kcCourse:unop% ko 0) (zef:Cl P w K mg base "code_of" k 2 z8m) (z0a:MtMd P w K mg base CCourse 0 "tell" k 3 z08) (z43:MtRd P w K mg base CCourse "is_used_up" k 2 z16) (z41:MtMd P w K mg base CCourse 0 "take_wrong" k 1 z14) (z42:MtMd P w K mg base CCourse 0 "take_right" k 4 z15):MtMd P w K mg base CCourse 0 "code" (k+1) 4 z1y :=
 z30 F z9o (unop% b4 F) m unop% lm
  (z04 (z0z 4 z9o.nd (z0l zef hr (z00 (z49 (j:=0) kcCourse (pv 0)) (z00 (z07 1) z03))))
  (z09 (s_if (z5a (zmo.or z73) zf7 (z4s (j:=9) kcCourse (pv 0)) (v2r z05)) (z09 (z2g (z0k kcCourse z0a hr (pv 0) (z00 z0b (z00 z8c z03))))) (z09 (s_if (w_t (w_or (zqx (q_nm 4)) (zm6 (znt (v2r (z9x kcCourse z43 hr (pv 0) (z00 (z07 4) z03))))))) (z09 (z2g (z6l kcCourse z41 hr (pv 0)))) (z04 (z1w (j:=8) kcCourse (pv 0) z05)
  (z09 (z2g (z0k kcCourse z42 hr (pv 0) (z00 (z07 4) (z00 (z07 2) (z00 (z07 3) z03))))))))))))
abbrev z2n:Stmt:=z0o (top 15) 11
theorem z9h:FnScope ["self","many"] ["self","many"] (z02 z2n):=unop% sk 0
theorem z1t (F:Fun K "count_down" "Course.count_down" z2n f fd) (m:Meth K CCourse "count_down" f) (kcCourse:unop% ko 0) (z79:Cl P w K mg base "lessened" k 2 z4t):MtMd P w K mg base CCourse 0 "count_down" (k+1) 2 z0t :=
 z30 F z9h (unop% b2 F) m unop% lm
  (z04 (zt3 (j:=11) kcCourse (pv 0) (z07 1))
  (z04 (z1w (j:=9) kcCourse (pv 0) (z0l z79 hr (z00 (z49 (j:=9) kcCourse (pv 0)) (z00 (z07 1) z03))))
  (z04 (z1w (j:=6) kcCourse (pv 0) (z0l z79 hr (z00 (z49 (j:=6) kcCourse (pv 0)) (z00 (z07 1) z03))))
  (z09 (z1w (j:=2) kcCourse (pv 0) (z0l z79 hr (z00 (z49 (j:=2) kcCourse (pv 0)) (z00 (z07 1) z03))))))))
abbrev z2m:Stmt:=z0o (top 15) 14
theorem z5k:FnScope ["self","zone"] ["self"] (z02 z2m):=unop% sk 0
theorem z44 (F:Fun K "end_coming" "Course.end_coming" z2m f fd) (m:Meth K CCourse "end_coming" f) (kcCourse:unop% ko 0) (z0y:MtMd P w K mg base CCourse 0 "alarm" k 2 z0i):MtMd P w K mg base CCourse 0 "end_coming" (k+1) 1 z1s :=
 z30 F z5k (unop% b1 F) m unop% lm
  (z04 (z0z 1 z5k.nd (z49 (j:=3) kcCourse (pv 0)))
  (z04 (z1w (j:=1) kcCourse (pv 0) z0b)
  (z04 (z1w (j:=3) kcCourse (pv 0) z8c)
  (z09 (z2g (z0k kcCourse z0y hr (pv 0) (z00 (z07 1) z03)))))))
abbrev z3a:Stmt:=z0o (top 15) 12
theorem zaf:FnScope ["self"] ["self"] (z02 z3a):=unop% sk 0
theorem z4u (F:Fun K "end_time" "Course.end_time" z3a f fd) (m:Meth K CCourse "end_time" f) (kcCourse:unop% ko 0) (z1f:MtMd P w K mg base CCourse 0 "end_leaving" k 1 z0q) (z44:MtMd P w K mg base CCourse 0 "end_coming" k 1 z1s):MtMd P w K mg base CCourse 0 "end_time" (k+1) 1 z1o :=
 z30 F zaf (unop% b1 F) m unop% lm
  (z09 (s_if (binop% eqt (z4s (j:=1) kcCourse (pv 0)) (v2r z0b)) (z09 (z2g (z6l kcCourse z1f hr (pv 0)))) (z09 (z2g (z6l kcCourse z44 hr (pv 0))))))
abbrev z4x:Stmt:=z0o (top 15) 10
theorem z89:FnScope ["self","many","rest"] ["self","many"] (z02 z4x):=unop% sk 0
theorem z6y (F:Fun K "ticks" "Course.ticks" z4x f fd) (m:Meth K CCourse "ticks" f) (kcCourse:unop% ko 0) (z1t:MtMd P w K mg base CCourse 0 "count_down" k 2 z0t) (z4u:MtMd P w K mg base CCourse 0 "end_time" k 1 z1o):MtMd P w K mg base CCourse 0 "ticks" (k+1) 2 z1l :=
 z30 F z89 (unop% b2 F) m unop% lm
  (z04 (s_if (z5a (zom.or z8d) zi7 (q_nm 1) (v2r z05)) (z09 zjy) z2q)
  (z09 (s_if (w_t (zm7 (z5a (zde (by exact hr.units)) z6p (z4s (j:=1) kcCourse (pv 0)) (v2r (z0n (z00 z0b (z00 z0b z03))))) (zeu (z5a (zv3.or zdd) zoo (z4s (j:=2) kcCourse (pv 0)) (q_nm 1))))) (z04 (z0z 2 z89.nd (zwm (q_nm 1) (z4s (j:=2) kcCourse (pv 0))))
  (z04 (z2g (z0k kcCourse z1t hr (pv 0) (z00 (z49 (j:=2) kcCourse (pv 0)) z03)))
  (z04 (z2g (z6l kcCourse z4u hr (pv 0)))
  (z09 (z2g (z0k kcCourse z1t hr (pv 0) (z00 (z07 2) z03))))))) (z09 (z2g (z0k kcCourse z1t hr (pv 0) (z00 (z07 1) z03)))))))
abbrev z4f:Stmt:=z0o (top 15) 2
theorem zcf:FnScope ["self","event"] ["self","event"] (z02 z4f):=unop% sk 0
theorem z69 (F:Fun K "happen" "Course.happen" z4f f fd) (m:Meth K CCourse "happen" f) (kcCourse:unop% ko 0) (z7v:MtMd P w K mg base CCourse 0 "line" k 3 z4l) (z7w:MtMd P w K mg base CCourse 0 "code" k 4 z1y) (z6y:MtMd P w K mg base CCourse 0 "ticks" k 2 z1l):MtMd P w K mg base CCourse 0 "happen" (k+1) 2 z18 :=
 z30 F zcf (unop% b2 F) m unop% lm
  (z09 (s_if (binop% eqt (v2r (q_ix (q_nm 1) (v2r z05))) (v2r z0b)) (z09 (z2g (z0k kcCourse z7v hr (pv 0) (z00 (q_ix (q_nm 1) (v2r z05)) (z00 (q_ix (q_nm 1) (v2r z05)) z03))))) (z09 (s_if (binop% eqt (v2r (q_ix (q_nm 1) (v2r z05))) (v2r z0b)) (z09 (z2g (z0k kcCourse z7w hr (pv 0) (z00 (q_ix (q_nm 1) (v2r z05)) (z00 (q_ix (q_nm 1) (v2r z05)) (z00 (q_ix (q_nm 1) (v2r z05)) z03)))))) (z09 (z2g (z0k kcCourse z6y hr (pv 0) (z00 (q_ix (q_nm 1) (v2r z05)) z03))))))))
abbrev z7h:Stmt:=top 16
theorem z88:FnScope ["plan","state","row","course","event"] ["plan","state","row"] (z02 z7h):=unop% sk 0
theorem z7m (ts:List T) (s:Sl) (h:z1b ts=some s):∃c os,s=.obj .own c os:=zr9 (b:=zab) h
theorem z2o (F:Fun K "course_of" "course_of" z7h f fd) (m:mg "course_of"=some (.ref f)) (kcCourse:unop% ko 0) (c_Course:ClNew P w K mg base "Course" CCourse 0 k 3 z2e) (z69:MtMd P w K mg base CCourse 0 "happen" k 2 z18):ClO P w K mg base "course_of" (k+2) 3 z1b :=
 zxx F z88 (unop% b3 F) m unop% lm
  (z04 (zt4 3 z88.nd (zxg kcCourse c_Course hr (z00 (z07 0) (z00 (z07 1) z03))))
  (z04 (z9i y2b (z75 (z07 2)) (g_nm 4 z88.nd)
  (z09 (z2g (z0k kcCourse z69 (hr.mono (y2m _)) (pv 3) (z00 (z07 4) z03)))))
  (z09 (zwb (pv 3)))))
abbrev zlb:Stmt:=top 17
theorem zua:FnScope ["plan","state","event"] ["plan","state","event"] (z02 zlb):=unop% sk 0
theorem zqb (F:Fun K "gone" "gone" zlb f fd) (m:mg "gone"=some (.ref f)) (kcCourse:unop% ko 0) (z3n:MtRd P w K mg base CCourse "state" k 1 z22) (z2o:ClO P w K mg base "course_of" k 3 z1b):Cl P w K mg base "gone" (k+1) 3 zix :=
 z5t F zua (unop% b3 F) m unop% lm
  (z09 (z1h (zwn kcCourse z3n hr (zlj z2o z7m hr (z00 (z07 0) (z00 (z07 1) (z00 (z0n (z00 (z07 2) z03)) z03)))))))
abbrev zda:Stmt:=top 18
theorem zr4:FnScope ["plan","state","event"] ["plan","state","event"] (z02 zda):=unop% sk 0
theorem zkp (F:Fun K "words" "words" zda f fd) (m:mg "words"=some (.ref f)) (kcCourse:unop% ko 0) (z_tuple:mg "tuple"=none) (z2o:ClO P w K mg base "course_of" k 3 z1b):Cl P w K mg base "words" (k+1) 3 ze8 :=
 z5t F zr4 (unop% b3 F) m unop% lm
  (z09 (z1h (z4r z_tuple (z1j (v2r (z60 (own:=["past","word","name"]) (caps:=[]) (binop% co zda ["plan","state","event"]) (z75 (zi0 (j:=12) kcCourse (zlj z2o z7m hr (z00 (z07 0) (z00 (z07 1) (z00 (z0n (z00 (z07 2) z03)) z03)))))) (unop% w6 (zcj (z2a (g_nm 0 (unop% nd ["past","word","name"])) (z2a (g_nm 1 (unop% nd ["past","word","name"])) (z2a (g_nm 2 (unop% nd ["past","word","name"])) zck))))) (unop% w6 z9m) (unop% w6 (z0n (z00 (z07 1) (z00 (z07 2) z03)))))) z3p))))
abbrev zgf:Stmt:=top 20
theorem zr6:FnScope ["plan","state","row"] ["plan","state","row"] (z02 zgf):=unop% sk 0
theorem zks (F:Fun K "after" "after" zgf f fd) (m:mg "after"=some (.ref f)) (kcCourse:unop% ko 0) (z3n:MtRd P w K mg base CCourse "state" k 1 z22) (z2o:ClO P w K mg base "course_of" k 3 z1b):Cl P w K mg base "after" (k+1) 3 za6 :=
 z5t F zr6 (unop% b3 F) m unop% lm
  (z09 (z1h (zwn kcCourse z3n hr (zlj z2o z7m hr (z00 (z07 0) (z00 (z07 1) (z00 (z07 2) z03)))))))
abbrev zge:Stmt:=top 21
theorem zr5:FnScope ["plan","state","row"] ["plan","state","row"] (z02 zge):=unop% sk 0
theorem zec (F:Fun K "story" "story" zge f fd) (m:mg "story"=some (.ref f)) (kcCourse:unop% ko 0) (z_tuple:mg "tuple"=none) (z2o:ClO P w K mg base "course_of" k 3 z1b):Cl P w K mg base "story" (k+1) 3 z6x :=
 z5t F zr5 (unop% b3 F) m unop% lm
  (z09 (z1h (z4r z_tuple (z1j (v2r (zi0 (j:=12) kcCourse (zlj z2o z7m hr (z00 (z07 0) (z00 (z07 1) (z00 (z07 2) z03)))))) z3p))))
abbrev z9w:Stmt:=top 22
theorem zcl:FnScope ["plan","state","not_shut"] ["plan","state"] (z02 z9w):=unop% sk 0
theorem zvy (F:Fun K "shown" "shown" z9w f fd) (m:mg "shown"=some (.ref f)) (z_tuple:mg "tuple"=none) (z_zip:mg "zip"=none):Cl P w K mg base "shown" (k+1) 2 zbr :=
 z5t F zcl (unop% b2 F) m unop% lm
  (z04 (zlc 2 zcl.nd (own:=["zone","line"]) (caps:=[]) (binop% co z9w ["plan","state","not_shut"]) (zxr z_zip (q_ix (q_nm 0) (v2r z05)) (q_ix (q_nm 1) (v2r z05))) (unop% w6 (zcj (z2a (g_nm 0 (unop% nd ["zone","line"])) (z2a (g_nm 1 (unop% nd ["zone","line"])) zck)))) (unop% w6 (zhi (binop% net (q_nm 1) (v2r z0b)))) (unop% w6 (q_ix (q_nm 0) (v2r z05))))
  (z09 (z1h (z0n (z00 (q_ix (q_nm 1) (v2r z05)) (z00 (zel (zmo.or z73) zf7 (v2r (q_ix (q_nm 1) (v2r z05))) (v2r z05)) (z00 (z4r z_tuple (z1j (q_nm 2) z3p)) z03)))))))
abbrev zcp:Stmt:=top 26
theorem zo1:FnScope ["opening","here"] ["opening","here"] (z02 zcp):=unop% sk 0
theorem z98 (F:Fun K "beyond" "beyond" zcp f fd) (m:mg "beyond"=some (.ref f)) :Cl P w K mg base "beyond" (k+1) 2 z3e :=
 z5t F zo1 (unop% b2 F) m unop% lm
  (z04 (s_if (binop% eqt (v2r (q_ix (q_nm 0) (v2r z05))) (q_nm 1)) (z09 (z1h (q_ix (q_nm 0) (v2r z05)))) z2q)
  (z04 (s_if (binop% eqt (v2r (q_ix (q_nm 0) (v2r z05))) (q_nm 1)) (z09 (z1h (q_ix (q_nm 0) (v2r z05)))) z2q)
  (z09 (z1h z8c))))
abbrev z5y:Stmt:=top 27
theorem z70:FnScope ["house","room","places","found","number","opening","there"] ["house","room","places"] (z02 z5y):=unop% sk 0
theorem zfw {K:y00} {f:Addr} {fd:y0b} (F:Fun K "ways_on" "ways_on" z5y f fd):z5h K fd ["house","room","places"] []:=F.binds (ps:=["house","room","places"]) fun _ _ _ _ _ _ us hl=>match us,hl with|[_,_,_],_=>rfl
theorem znf {d:List T->Option T} (F:Fun K "ways_on" "ways_on" z5y f fd) (m:mg "ways_on"=some (.ref f)) (z78:Cl P w K mg base "ways_on" k 3 d) (z_enumerate:mg "enumerate"=none) (z98:Cl P w K mg base "beyond" k 2 z3e):Cl P w K mg base "ways_on" (k+1) 3 (runF (z7b d) 7) :=
 z5t F z70 (zfw F) m unop% lm
  (z04 (s_if (binop% eqt (v2r (q_ix (q_nm 2) (v2r (zrf (v2r z05))))) (q_nm 1)) (z09 (z1h (zt6 (z00 (z0n z03) z03)))) z2q)
  (z04 (zt5 3 z70.nd (zhz z03))
  (z04 (z9i y2b (zlo z_enumerate (q_ix (q_nm 0) (v2r z05))) (zcj (z2a (g_nm 4 z70.nd) (z2a (g_nm 5 z70.nd) zck)))
  (z04 (z0z 6 z70.nd (z0l z98 hr (z00 (z07 5) (z00 (q_ix (q_nm 2) (v2r (zrf (v2r z05)))) z03))))
  (z09 (s_if (w_t (zm7 (zt0 (q_nm 6)) (zeu (z5a (z61 (by exact hr.units)) z6p (q_nm 6) (q_nm 2))))) (z09 (zyg 3 (v2r (z60 (own:=["rest"]) (caps:=[(4,"number")]) (binop% co z5y ["house","room","places","found","number","opening","there"]) (z75 (z0l z78 hr (z00 (z07 0) (z00 (z07 1) (z00 (z3x (q_nm 2) (v2r (z0n (z00 (z07 6) z03)))) z03))))) (unop% w6 (g_nm 0 (unop% nd ["rest","number"]))) (unop% w6 z9m) (unop% w6 (z3x (v2r (z0n (z00 (z07 1) z03))) (q_nm 0))))))) z2q))))
  (z09 (zla 3)))))
theorem z78 (F:Fun K "ways_on" "ways_on" z5y f fd) (m:mg "ways_on"=some (.ref f)) (z_enumerate:mg "enumerate"=none) (z98:Cl P w K mg base "beyond" k 2 z3e):∀n,Cl P w K mg base "ways_on" (k+n) 3 (z2b n)
 | 0=>.mk' zpp m F.kp (zfw F)
 | n+1=>znf F m (z78 F m z_enumerate z98  n) z_enumerate (z98.mono (Nat.le_add_right _ _))
abbrev zl9:Stmt:=top 28
theorem zu9:FnScope ["house","room"] ["house","room"] (z02 zl9):=unop% sk 0
theorem zqa (F:Fun K "ways" "ways" zl9 f fd) (m:mg "ways"=some (.ref f)) (z_tuple:mg "tuple"=none) (z78:Cl P w K mg base "ways_on" k 3 (z2b 20)) {t_OUTSIDE:Tok} (g_OUTSIDE:mg "OUTSIDE"=some (.int 0 t_OUTSIDE)):Cl P w K mg base "ways" (k+1) 2 d_ways :=
 z5t F zu9 (unop% b2 F) m unop% lm
  (z09 (z1h (z4r z_tuple (z1j (v2r (z0l z78 hr (z00 (z07 0) (z00 (z07 1) (z00 (z0n (z00 (q_gI g_OUTSIDE) z03)) z03))))) z3p))))
abbrev zcn:Stmt:=top 31
theorem zho:FnScope ["opening","pace","zone"] ["opening","pace"] (z02 zcn):=unop% sk 0
theorem zb5 (F:Fun K "passed" "passed" zcn f fd) (m:mg "passed"=some (.ref f)) {t_TICKS_TO_PASS:Tok} (g_TICKS_TO_PASS:mg "TICKS_TO_PASS"=some (.int 1 t_TICKS_TO_PASS)):Cl P w K mg base "passed" (k+1) 2 z3v :=
 z5t F zho (unop% b2 F) m unop% lm
  (z04 (z0z 2 zho.nd (q_ix (q_nm 0) (v2r z05)))
  (z04 (s_if (zqx (q_nm 2)) (z09 (z1h (z0n (z00 (z0n (z00 z0b (z00 (q_gI g_TICKS_TO_PASS) z03))) (z00 (z0n (z00 z0b (z00 (z07 1) z03))) z03))))) z2q)
  (z09 (z1h (z0n (z00 (z0n (z00 z0b (z00 (z07 2) (z00 z0b z03)))) (z00 (z0n (z00 z0b (z00 (q_gI g_TICKS_TO_PASS) z03))) (z00 (z0n (z00 z0b (z00 (z07 2) (z00 z0b z03)))) (z00 (z0n (z00 z0b (z00 (z07 1) z03))) z03)))))))))
abbrev zcm:Stmt:=top 32
theorem zd7:FnScope ["house","way","pace","row","number"] ["house","way","pace"] (z02 zcm):=unop% sk 0
theorem zh4 (F:Fun K "walked" "walked" zcm f fd) (m:mg "walked"=some (.ref f)) (z_tuple:mg "tuple"=none) (zb5:Cl P w K mg base "passed" k 2 z3v):Cl P w K mg base "walked" (k+1) 3 z5s :=
 z5t F zd7 (unop% b3 F) m unop% lm
  (z04 (zt5 3 zd7.nd (zhz z03))
  (z04 (z9i y2b (z75 (z07 1)) (g_nm 4 zd7.nd)
  (z09 (zwe 3 (v2r (z0l zb5 hr (z00 (q_ix (v2r (q_ix (q_nm 0) (v2r z05))) (q_nm 4)) (z00 (z07 2) z03)))))))
  (z09 (z1h (z4r z_tuple (z1j (q_nm 3) z3p))))))
abbrev z5z:Stmt:=top 33
theorem zhq:FnScope ["told"] ["told"] (z02 z5z):=unop% sk 0
theorem za8 (F:Fun K "has_alarm" "has_alarm" z5z f fd) (m:mg "has_alarm"=some (.ref f)) :Cl P w K mg base "has_alarm" (k+1) 1 z40 :=
 z5t F zhq (unop% b1 F) m unop% lm
  (z09 (z1h (zel (zde (by exact hr.units)) z6p (v2r z0b) (v2r (z60 (own:=["past","word","name"]) (caps:=[]) (binop% co z5z ["told"]) (z75 (z07 0)) (unop% w6 (zcj (z2a (g_nm 0 (unop% nd ["past","word","name"])) (z2a (g_nm 1 (unop% nd ["past","word","name"])) (z2a (g_nm 2 (unop% nd ["past","word","name"])) zck))))) (unop% w6 z9m) (unop% w6 (z07 1)))))))
abbrev zco:Stmt:=top 34
theorem z71:FnScope ["plan","house","state","way","pace","here","place","number","row"] ["plan","house","state","way","pace"] (z02 zco):=unop% sk 0
theorem zh6 (F:Fun K "caught" "caught" zco f fd) (m:mg "caught"=some (.ref f)) (z_enumerate:mg "enumerate"=none) (zb5:Cl P w K mg base "passed" k 2 z3v) (za8:Cl P w K mg base "has_alarm" k 1 z40) (zks:Cl P w K mg base "after" k 3 za6) (zec:Cl P w K mg base "story" k 3 z6x):Cl P w K mg base "caught" (k+1) 5 z6t :=
 z5t F z71 (unop% b5 F) m unop% lm
  (z04 (z0z 5 z71.nd (z07 2))
  (z04 (z9i y2b (zvl z_enumerate (z07 3)) (zcj (z2a (g_nm 6 z71.nd) (z2a (g_nm 7 z71.nd) zck)))
  (z04 (z0z 8 z71.nd (z0l zb5 hr (z00 (q_ix (v2r (q_ix (q_nm 1) (v2r z05))) (q_nm 7)) (z00 (z07 4) z03))))
  (z04 (s_if (znt (v2r (z0l za8 hr (z00 (z0l zec hr (z00 (z07 0) (z00 (z07 5) (z00 (z07 8) z03)))) z03)))) (z09 (zla 6)) z2q)
  (z09 (z0z 5 z71.nd (z0l zks hr (z00 (z07 0) (z00 (z07 5) (z00 (z07 8) z03)))))))))
  (z09 (z1h z8c))))
abbrev z50:Stmt:=z0o (top 36) 0
theorem zd9:FnScope ["self","plan"] ["self","plan"] (z02 z50):=unop% sk 0
theorem zes (F:Fun K "__init__" "Box.__init__" z50 f fd) (me:Mk K CBox f) (m:mg "Box"=some (.ref CBox)) (kcBox:unop% ko 1) (zkr:Cl P w K mg base "begun" k 1 zbs):ClNew P w K mg base "Box" CBox 1 (k+1) 2 z3l :=
 ztl F zd9 (unop% b2 F) me m unop% lm
  (z04 (z1w (j:=0) kcBox (pv 0) (z07 1))
  (z04 (z8b (j:=1) kcBox (pv 0) (zhz z03))
  (z09 (z8b (j:=2) kcBox (pv 0) (zhz (z00 (z0l zkr hr (z00 (z07 1) z03)) z03))))))
abbrev z7j:Stmt:=z0o (top 36) 6
theorem zhs:FnScope ["self"] ["self"] (z02 z7j):=unop% sk 0
theorem z2p (F:Fun K "state" "Box.state" z7j f fd) (m:Meth K CBox "state" f) (kcBox:unop% ko 1):MtRd P w K mg base CBox "state" (k+1) 1 z10 :=
 z9q F zhs (unop% b1 F) m unop% lm
  (z09 (z1h (q_ix (z4s (j:=2) kcBox (pv 0)) (v2r (zrf (v2r z05))))))
abbrev z6m:Stmt:=z0o (top 36) 1
theorem z7f:FnScope ["self","event","told","behind"] ["self","event"] (z02 z6m):=unop% sk 0
theorem z35 (F:Fun K "happen" "Box.happen" z6m f fd) (m:Meth K CBox "happen" f) (kcBox:unop% ko 1) (zkp:Cl P w K mg base "words" k 3 ze8) (zqb:Cl P w K mg base "gone" k 3 zix) (z2p:MtRd P w K mg base CBox "state" k 1 z10):MtMd P w K mg base CBox 1 "happen" (k+1) 2 z1m :=
 z30 F z7f (unop% b2 F) m unop% lm
  (z04 (z0z 2 z7f.nd (z0l zkp hr (z00 (z49 (j:=0) kcBox (pv 0)) (z00 (z3u kcBox z2p hr (pv 0)) (z00 (z07 1) z03)))))
  (z04 (z0z 3 z7f.nd (z0l zqb hr (z00 (z49 (j:=0) kcBox (pv 0)) (z00 (z3u kcBox z2p hr (pv 0)) (z00 (z07 1) z03)))))
  (z04 (zld (j:=1) kcBox (pv 0) (z07 1))
  (z04 (zld (j:=2) kcBox (pv 0) (z07 3))
  (z09 (zwc (z07 2)))))))
abbrev z4h:Stmt:=z0o (top 36) 5
theorem zch:FnScope ["self","zone"] ["self","zone"] (z02 z4h):=unop% sk 0
theorem z34 (F:Fun K "need_zone" "Box.need_zone" z4h f fd) (m:Meth K CBox "need_zone" f) (kcBox:unop% ko 1) (z68:Cl P w K mg base "kind_of" k 2 z4k):MtRd P w K mg base CBox "need_zone" (k+1) 2 z19 :=
 z9q F zch (unop% b2 F) m unop% lm
  (z09 (zub (z0l z68 hr (z00 (z49 (j:=0) kcBox (pv 0)) (z00 (z07 1) z03)))))
abbrev z90:Stmt:=z0o (top 36) 2
theorem zjw:FnScope ["self","zone","what"] ["self","zone","what"] (z02 z90):=unop% sk 0
theorem zbx (F:Fun K "line" "Box.line" z90 f fd) (m:Meth K CBox "line" f) (kcBox:unop% ko 1) (z34:MtRd P w K mg base CBox "need_zone" k 2 z19) (z35:MtMd P w K mg base CBox 1 "happen" k 2 z1m):MtMd P w K mg base CBox 1 "line" (k+1) 3 z76 :=
 z30 F zjw (unop% b3 F) m unop% lm
  (z04 (zub (z9x kcBox z34 hr (pv 0) (z00 (z07 1) z03)))
  (z09 (zf2 (z0k kcBox z35 hr (pv 0) (z00 (z0n (z00 z0b (z00 (z07 1) (z00 (z07 2) z03)))) z03)))))
abbrev z91:Stmt:=z0o (top 36) 3
theorem zjx:FnScope ["self","figures","deed","zone"] ["self","figures","deed","zone"] (z02 z91):=unop% sk 0
theorem zby (F:Fun K "code" "Box.code" z91 f fd) (m:Meth K CBox "code" f) (kcBox:unop% ko 1) (z35:MtMd P w K mg base CBox 1 "happen" k 2 z1m) (z34:MtRd P w K mg base CBox "need_zone" k 2 z19) {a_DEEDS_OF_ZONES:Addr} (m_DEEDS_OF_ZONES:mg "DEEDS_OF_ZONES"=some (.ref a_DEEDS_OF_ZONES)) (t_DEEDS_OF_ZONES:∃(o:Obj) (its:Array Value) (n:Nat),K.lookup a_DEEDS_OF_ZONES=some o/\o.cls=.type "tuple"/\o.data=.seq its n/\its.size<=y0j/\Vals ((["shunt","free"]:List Str).map V.str) its.toList):MtMd P w K mg base CBox 1 "code" (k+1) 4 z77 :=
 z30 F zjx (unop% b4 F) m unop% lm
  (z04 (s_if (w_t (w_or (zt0 (q_nm 3)) (zm6 (z5a (zde (by exact hr.units)) z6p (q_nm 2) (v2r (q_gT m_DEEDS_OF_ZONES t_DEEDS_OF_ZONES)))))) (z09 (zub (z9x kcBox z34 hr (pv 0) (z00 (z07 3) z03)))) z2q)
  (z09 (zf2 (z0k kcBox z35 hr (pv 0) (z00 (z0n (z00 z0b (z00 (z07 1) (z00 (z07 2) (z00 (z07 3) z03))))) z03)))))
abbrev z7i:Stmt:=z0o (top 36) 4
theorem zhr:FnScope ["self","many"] ["self","many"] (z02 z7i):=unop% sk 0
theorem za9 (F:Fun K "ticks" "Box.ticks" z7i f fd) (m:Meth K CBox "ticks" f) (kcBox:unop% ko 1) (z35:MtMd P w K mg base CBox 1 "happen" k 2 z1m):MtMd P w K mg base CBox 1 "ticks" (k+1) 2 z67 :=
 z30 F zhr (unop% b2 F) m unop% lm
  (z09 (zf2 (z0k kcBox z35 hr (pv 0) (z00 (z0n (z00 z0b (z00 (z07 1) z03))) z03))))
theorem z8p (F:Fun K "shown" "shown" z9w f fd) (m:mg "shown_rows"=some (.ref f)) (z_tuple:mg "tuple"=none) (z_zip:mg "zip"=none):Cl P w K mg base "shown_rows" (k+1) 2 zbr :=
 zxw F zcl (unop% b2 F) m unop% lm
  (z04 (zlc 2 zcl.nd (own:=["zone","line"]) (caps:=[]) (binop% co z9w ["plan","state","not_shut"]) (zxr z_zip (q_ix (q_nm 0) (v2r z05)) (q_ix (q_nm 1) (v2r z05))) (unop% w6 (zcj (z2a (g_nm 0 (unop% nd ["zone","line"])) (z2a (g_nm 1 (unop% nd ["zone","line"])) zck)))) (unop% w6 (zhi (binop% net (q_nm 1) (v2r z0b)))) (unop% w6 (q_ix (q_nm 0) (v2r z05))))
  (z09 (z1h (z0n (z00 (q_ix (q_nm 1) (v2r z05)) (z00 (zel (zmo.or z73) zf7 (v2r (q_ix (q_nm 1) (v2r z05))) (v2r z05)) (z00 (z4r z_tuple (z1j (q_nm 2) z3p)) z03)))))))
abbrev z7k:Stmt:=z0o (top 36) 7
theorem zht:FnScope ["self"] ["self"] (z02 z7k):=unop% sk 0
theorem z7x (F:Fun K "shown" "Box.shown" z7k f fd) (m:Meth K CBox "shown" f) (kcBox:unop% ko 1) (z8p:Cl P w K mg base "shown_rows" k 2 zbr) (z2p:MtRd P w K mg base CBox "state" k 1 z10):MtRd P w K mg base CBox "shown" (k+1) 1 z32 :=
 z9q F zht (unop% b1 F) m unop% lm
  (z09 (z1h (z0l z8p hr (z00 (z49 (j:=0) kcBox (pv 0)) (z00 (z3u kcBox z2p hr (pv 0)) z03)))))
abbrev zap:Stmt:=z0o (top 36) 10
theorem zmg:FnScope ["self"] ["self"] (z02 zap):=unop% sk 0
theorem z7a (F:Fun K "row" "Box.row" zap f fd) (m:Meth K CBox "row" f) (kcBox:unop% ko 1) (z_tuple:mg "tuple"=none):MtRd P w K mg base CBox "row" (k+1) 1 z3k :=
 z9q F zmg (unop% b1 F) m unop% lm
  (z09 (z1h (z4r z_tuple (z1j (z4s (j:=1) kcBox (pv 0)) z3p))))
abbrev zaq:Stmt:=z0o (top 36) 8
theorem zmh:FnScope ["self"] ["self"] (z02 zaq):=unop% sk 0
theorem zb6 (F:Fun K "log" "Box.log" zaq f fd) (m:Meth K CBox "log" f) (kcBox:unop% ko 1) (zec:Cl P w K mg base "story" k 3 z6x) (z7a:MtRd P w K mg base CBox "row" k 1 z3k):MtRd P w K mg base CBox "log" (k+1) 1 z59 :=
 z9q F zmh (unop% b1 F) m unop% lm
  (z09 (z1h (z0l zec hr (z00 (z49 (j:=0) kcBox (pv 0)) (z00 (q_ix (z4s (j:=2) kcBox (pv 0)) (v2r z05)) (z00 (z3u kcBox z7a hr (pv 0)) z03))))))
abbrev z8z:Stmt:=z0o (top 36) 9
theorem zjv:FnScope ["self"] ["self"] (z02 z8z):=unop% sk 0
theorem zbw (F:Fun K "undo" "Box.undo" z8z f fd) (m:Meth K CBox "undo" f) (kcBox:unop% ko 1):MtMd P w K mg base CBox 1 "undo" (k+1) 1 z4b :=
 z30 F zjv (unop% b1 F) m unop% lm
  (z04 (s_if (zy2 (zt1 (z4s (j:=1) kcBox (pv 0)))) (z09 zo2) z2q)
  (z04 (zt2 (j:=1) kcBox (pv 0))
  (z09 (zt2 (j:=2) kcBox (pv 0)))))
abbrev z7g:Stmt:=top 38
theorem zhp:FnScope ["_law_script","_law_k"] ["_law_script","_law_k"] (z02 z7g):=unop% sk 0
theorem za7 (F:Fun K "_law_cell_at" "_law_cell_at" z7g f fd) (m:mg "_law_cell_at"=some (.ref f)) (z_len:mg "len"=none):Cl P w K mg base "_law_cell_at" (k+1) 2 z13 :=
 z5t F zhp (unop% b2 F) m unop% lm
  (z04 (s_if (z5a (zom.or z8d) zi7 (q_nm 1) (v2r (zrg z_len (z1j (q_nm 0) z3p)))) (z09 (z1h (q_ix (q_nm 0) (q_nm 1)))) z2q)
  (z09 (z1h z05)))
abbrev zaj:Stmt:=top 39
theorem zey:FnScope ["_law_script","_law_k","_law_drawn_here"] ["_law_script","_law_k"] (z02 zaj):=unop% sk 0
theorem z8q (F:Fun K "_law_mixed" "_law_mixed" zaj f fd) (m:mg "_law_mixed"=some (.ref f)) (za7:Cl P w K mg base "_law_cell_at" k 2 z13):Cl P w K mg base "_law_mixed" (k+1) 2 z1e :=
 z5t F zey (unop% b2 F) m unop% lm
  (z04 (z0z 2 zey.nd (z3c (v2r (zhy (v2r (z3x (v2r (z3x (v2r (z0l za7 hr (z00 (z07 0) (z00 (z07 1) z03)))) (v2r (zhy (v2r z05) (q_nm 1))))) (v2r z05))) (v2r z05))) (v2r z05)))
  (z09 (z1h (z3c (v2r (z3x (v2r (z3x (v2r (zhy (q_nm 2) (q_nm 2))) (v2r (zhy (v2r z05) (q_nm 2))))) (q_nm 1))) (v2r z05)))))
abbrev zam:Stmt:=top 40
theorem zez:FnScope ["_law_number","_law_k","_law_drawn_here"] ["_law_number","_law_k"] (z02 zam):=unop% sk 0
theorem z4n (F:Fun K "_law_drawn" "_law_drawn" zam f fd) (m:mg "_law_drawn"=some (.ref f)) :Cl P w K mg base "_law_drawn" (k+1) 2 z0p :=
 z5t F zez (unop% b2 F) m unop% lm
  (z04 (z0z 2 zez.nd (z3c (v2r (zhy (v2r (z3x (v2r (z3x (q_nm 0) (v2r (zhy (v2r z05) (q_nm 1))))) (v2r z05))) (v2r z05))) (v2r z05)))
  (z09 (z1h (z3c (v2r (z3x (v2r (z3x (v2r (zhy (q_nm 2) (q_nm 2))) (v2r (zhy (v2r z05) (q_nm 2))))) (q_nm 1))) (v2r z05)))))
abbrev zai:Stmt:=top 41
theorem z1p:FnScope ["_law_number","_law_zones","_law_k","_law_name","_law_drawn_here","_law_codes","_law_figures","_law_rights","_law_who","_law_times"] ["_law_number"] (z02 zai):=unop% sk 0
theorem zh5 (F:Fun K "_law_plan" "_law_plan" zai f fd) (m:mg "_law_plan"=some (.ref f)) (z_enumerate:mg "enumerate"=none) (z4n:Cl P w K mg base "_law_drawn" k 2 z0p) (z_tuple:mg "tuple"=none) (z_range:mg "range"=none):Cl P w K mg base "_law_plan" (k+1) 1 zb3 :=
 z5t F z1p (unop% b1 F) m unop% lm
  (z04 (z0z 1 z1p.nd (z0n z03))
  (z04 (z9i y2b (zlo z_enumerate (z0n (z00 z0b (z00 z0b (z00 z0b (z00 z0b (z00 z0b (z00 z0b (z00 z0b (z00 z0b z03)))))))))) (zcj (z2a (g_nm 2 z1p.nd) (z2a (g_nm 3 z1p.nd) zck)))
  (z04 (z0z 4 z1p.nd (z54 (v2r (z0l z4n hr (z00 (z07 0) (z00 (z07 2) z03)))) (v2r z05)))
  (z09 (s_if (w_t (w_or (z5a (zom.or z8d) zi7 (v2r (z3c (q_nm 4) (v2r z05))) (v2r (z3x (v2r z05) (v2r (z3c (q_nm 0) (v2r z05)))))) (zm6 (binop% eqt (q_nm 2) (v2r (z3c (v2r (z54 (q_nm 0) (v2r z05))) (v2r z05))))))) (z09 (z0z 1 z1p.nd (z3x (q_nm 1) (v2r (z0n (z00 (z0n (z00 (z07 3) (z00 (q_ix (v2r (z0n (z00 z0b (z00 z0b (z00 z0b (z00 z0b (z00 z0b z03))))))) (v2r (z3c (v2r (z54 (q_nm 4) (v2r z05))) (v2r z05)))) z03))) z03)))))) z2q))))
  (z04 (z0z 5 z1p.nd (z0n z03))
  (z04 (z9i y2b (zlo z_enumerate (z0n (z00 z0b (z00 z0b (z00 z0b (z00 z0b (z00 z0b (z00 z0b z03)))))))) (zcj (z2a (g_nm 2 z1p.nd) (z2a (g_nm 6 z1p.nd) zck)))
  (z04 (z0z 4 z1p.nd (z54 (v2r (z0l z4n hr (z00 (z07 0) (z00 (z3x (v2r z05) (q_nm 2)) z03)))) (v2r z05)))
  (z09 (s_if (w_t (w_or (z5a (zmo.or z73) zf7 (v2r (z3c (q_nm 4) (v2r z05))) (v2r z05)) (zm6 (binop% eqt (q_nm 2) (v2r z05))))) (z04 (z0z 7 z1p.nd (z4r z_tuple (z1j (v2r (z60 (own:=["_law_j"]) (caps:=[(4,"_law_drawn_here")]) (binop% co zai ["_law_number","_law_zones","_law_k","_law_name","_law_drawn_here","_law_codes","_law_figures","_law_rights","_law_who","_law_times"]) (zln z_range (v2r z05)) (unop% w6 (g_nm 0 (unop% nd ["_law_j","_law_drawn_here"]))) (unop% w6 (zhi (z5a (zmo.or z73) zf7 (v2r (z3c (v2r (z54 (q_nm 1) (v2r (q_ix (v2r (z0n (z00 z05 (z00 z05 (z00 z05 z03))))) (q_nm 0))))) (v2r z05))) (v2r z05)))) (unop% w6 (q_ix (v2r (z0n (z00 z0b (z00 z0b (z00 z0b z03))))) (q_nm 0))))) z3p)))
  (z04 (z0z 8 z1p.nd (q_ix (v2r (z0n (z00 z0b (z00 z0b (z00 z0b z03))))) (v2r (z3c (v2r (z54 (q_nm 4) (v2r z05))) (v2r z05)))))
  (z09 (z0z 5 z1p.nd (z3x (q_nm 5) (v2r (z0n (z00 (z0n (z00 (z07 6) (z00 (z07 8) (z00 (z07 7) (z00 (q_ix (v2r (z0n (z00 z05 (z00 z05 (z00 z05 (z00 z05 (z00 z05 z03))))))) (v2r (z3c (v2r (z54 (q_nm 4) (v2r z05))) (v2r z05)))) z03))))) z03)))))))) z2q))))
  (z04 (z0z 4 z1p.nd (z54 (v2r (z0l z4n hr (z00 (z07 0) (z00 z05 z03)))) (v2r z05)))
  (z04 (z0z 9 z1p.nd (z0n (z00 (q_ix (v2r (z0n (z00 z05 (z00 z05 (z00 z05 (z00 z05 z03)))))) (v2r (z3c (q_nm 4) (v2r z05)))) (z00 (q_ix (v2r (z0n (z00 z05 (z00 z05 (z00 z05 (z00 z05 z03)))))) (v2r (z3c (v2r (z54 (q_nm 4) (v2r z05))) (v2r z05)))) (z00 (q_ix (v2r (z0n (z00 z05 (z00 z05 (z00 z05 (z00 z05 z03)))))) (v2r (z3c (v2r (z54 (q_nm 4) (v2r z05))) (v2r z05)))) z03)))))
  (z09 (z1h (z0n (z00 (z07 1) (z00 (z07 5) (z00 (z07 9) z03))))))))))))
abbrev zal:Stmt:=top 42
theorem z5v:FnScope ["_law_plan_here","_law_number","_law_zone","_law_kind","_law_figures","_law_deed"] ["_law_plan_here","_law_number"] (z02 zal):=unop% sk 0
theorem zee (F:Fun K "_law_event" "_law_event" zal f fd) (m:mg "_law_event"=some (.ref f)) (z_len:mg "len"=none):Cl P w K mg base "_law_event" (k+1) 2 z58 :=
 z5t F z5v (unop% b2 F) m unop% lm
  (z04 (z0z 2 z5v.nd (q_ix (v2r (q_ix (v2r (q_ix (q_nm 0) (v2r z05))) (v2r (z3c (v2r (z54 (q_nm 1) (v2r z05))) (v2r (zrg z_len (z1j (v2r (q_ix (q_nm 0) (v2r z05))) z3p))))))) (v2r z05)))
  (z04 (z0z 3 z5v.nd (z3c (q_nm 1) (v2r z05)))
  (z04 (s_if (z5a (zom.or z8d) zi7 (q_nm 3) (v2r z05)) (z09 (z1h (z0n (z00 z0b (z00 (z07 2) (z00 (q_ix (v2r (z0n (z00 z0b (z00 z0b (z00 z0b (z00 z0b z03)))))) (v2r (z3c (v2r (z54 (q_nm 1) (v2r z05))) (v2r z05)))) z03)))))) z2q)
  (z04 (s_if (z5a (zom.or z8d) zi7 (q_nm 3) (v2r z05)) (z09 (z1h (z0n (z00 z0b (z00 (z3x (v2r z05) (v2r (z3c (v2r (z54 (q_nm 1) (v2r z05))) (v2r (q_ix (v2r (z0n (z00 z05 (z00 z05 (z00 z05 z03))))) (v2r (z3c (v2r (z54 (q_nm 1) (v2r z05))) (v2r z05)))))))) z03))))) z2q)
  (z04 (z0z 4 z5v.nd (q_ix (v2r (q_ix (v2r (q_ix (q_nm 0) (v2r z05))) (v2r (z3c (v2r (z54 (q_nm 1) (v2r z05))) (v2r (zrg z_len (z1j (v2r (q_ix (q_nm 0) (v2r z05))) z3p))))))) (v2r z05)))
  (z04 (s_if (binop% eqt (v2r (z3c (v2r (z54 (q_nm 1) (v2r z05))) (v2r z05))) (v2r z05)) (z09 (z0z 4 z5v.nd (q_ix (v2r (z0n (z00 z0b (z00 z0b (z00 z0b (z00 z0b z03)))))) (v2r (z3c (v2r (z54 (q_nm 1) (v2r z05))) (v2r z05)))))) z2q)
  (z04 (z0z 5 z5v.nd (q_ix (v2r (z0n (z00 z0b (z00 z0b (z00 z0b (z00 z0b (z00 z0b (z00 z0b z03)))))))) (v2r (z3c (v2r (z54 (q_nm 1) (v2r z05))) (v2r z05)))))
  (z04 (s_if (z5a (zde (by exact hr.units)) z6p (q_nm 5) (v2r (z0n (z00 z0b (z00 z0b z03))))) (z09 (z1h (z0n (z00 z0b (z00 (z07 4) (z00 (z07 5) (z00 z8c z03))))))) z2q)
  (z09 (z1h (z0n (z00 z0b (z00 (z07 4) (z00 (z07 5) (z00 (z07 2) z03)))))))))))))))
abbrev zdb:Stmt:=top 43
theorem zgc:FnScope ["_law_plan_here","_law_number","_law_most","_law_row_here"] ["_law_plan_here","_law_number","_law_most"] (z02 zdb):=unop% sk 0
theorem zkq (F:Fun K "_law_row" "_law_row" zdb f fd) (m:mg "_law_row"=some (.ref f)) (z_tuple:mg "tuple"=none) (zee:Cl P w K mg base "_law_event" k 2 z58) (z_len:mg "len"=none) (z_range:mg "range"=none) (z4n:Cl P w K mg base "_law_drawn" k 2 z0p):Cl P w K mg base "_law_row" (k+1) 3 za5 :=
 z5t F zgc (unop% b3 F) m unop% lm
  (z04 (z0z 3 zgc.nd (z4r z_tuple (z1j (v2r (z60 (own:=["_law_k"]) (caps:=[(0,"_law_plan_here"),(1,"_law_number")]) (binop% co zdb ["_law_plan_here","_law_number","_law_most","_law_row_here"]) (zln z_range (v2r (z3c (q_nm 1) (v2r (z3x (q_nm 2) (v2r z05)))))) (unop% w6 (g_nm 0 (unop% nd ["_law_k","_law_plan_here","_law_number"]))) (unop% w6 z9m) (unop% w6 (z0l (by exact zee) (by exact hr) (z00 (z07 1) (z00 (z54 (v2r (z0l (by exact z4n) (by exact hr) (z00 (z07 2) (z00 (z3x (v2r z05) (q_nm 0)) z03)))) (v2r z05)) z03)))))) z3p)))
  (z04 (s_if (w_t (zm7 (binop% eqt (v2r (z3c (v2r (z54 (q_nm 1) (v2r z05))) (v2r z05))) (v2r z05)) (zeu (z5a (zmo.or z73) zf7 (v2r (zrg z_len (z1j (q_nm 3) z3p))) (v2r z05))))) (z09 (z0z 3 zgc.nd (z3x (v2r (zob (q_nm 3) zti (zth (v2r (zrf (v2r z05)))))) (v2r (zyl (v2r (z0n (z00 (z0n (z00 z0b (z00 z0b (z00 z0b (z00 z8c z03))))) z03))) (v2r z05)))))) z2q)
  (z09 (zla 3))))
abbrev zak:Stmt:=top 44
theorem z39:FnScope ["_law_number","_law_rooms","_law_openings","_law_k","_law_drawn_here","_law_one","_law_other","_law_zone"] ["_law_number"] (z02 zak):=unop% sk 0
theorem zed (F:Fun K "_law_house" "_law_house" zak f fd) (m:mg "_law_house"=some (.ref f)) (z_range:mg "range"=none) (z4n:Cl P w K mg base "_law_drawn" k 2 z0p) (z_min:mg "min"=none) (z_max:mg "max"=none):Cl P w K mg base "_law_house" (k+1) 1 d_l_house :=
 z5t F z39 (unop% b1 F) m unop% lm
  (z04 (z0z 1 z39.nd (z3x (v2r z05) (v2r (z3c (q_nm 0) (v2r z05)))))
  (z04 (z0z 2 z39.nd (z0n z03))
  (z04 (z9i y2b (zln z_range (v2r (z3c (v2r (z54 (q_nm 0) (v2r z05))) (v2r z05)))) (g_nm 3 z39.nd)
  (z04 (z0z 4 z39.nd (z54 (v2r (z0l z4n hr (z00 (z07 0) (z00 (z3x (v2r z05) (q_nm 3)) z03)))) (v2r z05)))
  (z04 (z0z 5 z39.nd (z3c (q_nm 4) (v2r (z3x (q_nm 1) (v2r z05)))))
  (z04 (z0z 6 z39.nd (z3c (v2r (z3x (v2r (z3x (q_nm 5) (v2r z05))) (v2r (z3c (v2r (z54 (q_nm 4) (v2r z05))) (q_nm 1))))) (v2r (z3x (q_nm 1) (v2r z05)))))
  (z04 (z0z 7 z39.nd (q_ix (v2r (z0n (z00 z8c (z00 z8c (z00 z0b (z00 z0b (z00 z0b (z00 z0b (z00 z0b z03))))))))) (v2r (z3c (v2r (z54 (q_nm 4) (v2r z05))) (v2r z05)))))
  (z09 (z0z 2 z39.nd (z3x (q_nm 2) (v2r (z0n (z00 (z0n (z00 (zyn z_min (z1j (q_nm 5) (z1j (q_nm 6) z3p))) (z00 (zwo z_max (z1j (q_nm 5) (z1j (q_nm 6) z3p))) (z00 (z07 7) z03)))) z03)))))))))))
  (z09 (z1h (z0n (z00 (z07 1) (z00 (z07 2) z03))))))))
abbrev z53:Stmt:=top 45
theorem z1g:FnScope ["_law_plan_here","_law_number","_law_rooms","_law_openings","_law_names","_law_found","_law_one","_law_other","_law_zone"] ["_law_plan_here","_law_number"] (z02 z53):=unop% sk 0
theorem z8r (F:Fun K "_law_house_of" "_law_house_of" z53 f fd) (m:mg "_law_house_of"=some (.ref f)) (zed:Cl P w K mg base "_law_house" k 1 d_l_house) (z_int:mg "int"=none):Cl P w K mg base "_law_house_of" (k+1) 2 z4a :=
 z5t F z1g (unop% b2 F) m unop% lm
  (z04 (zwg (z0l zed hr (z00 (z07 1) z03)) (zcj (z2a (g_nm 2 z1g.nd) (z2a (g_nm 3 z1g.nd) zck))))
  (z04 (zlc 4 z1g.nd (own:=["_law_zone"]) (caps:=[]) (binop% co z53 ["_law_plan_here","_law_number","_law_rooms","_law_openings","_law_names","_law_found","_law_one","_law_other","_law_zone"]) (z75 (q_ix (q_nm 0) (v2r z05))) (unop% w6 (g_nm 0 (unop% nd ["_law_zone"]))) (unop% w6 z9m) (unop% w6 (q_ix (q_nm 0) (v2r z05))))
  (z04 (z0z 5 z1g.nd (z0n z03))
  (z04 (z9i y2b (z75 (z07 3)) (zcj (z2a (g_nm 6 z1g.nd) (z2a (g_nm 7 z1g.nd) (z2a (g_nm 8 z1g.nd) zck))))
  (z09 (z0z 5 z1g.nd (z3x (q_nm 5) (v2r (z0n (z00 (z0n (z00 (z07 6) (z00 (z07 7) (z00 (q_ix (v2r (z0n (z00 (z07 8) (z00 z8c z03)))) (v2r (zwp z_int (z1j (v2r (zel (z61 (by exact hr.units)) z6p (q_nm 8) (q_nm 4))) z3p)))) z03)))) z03)))))))
  (z09 (z1h (z0n (z00 (z07 2) (z00 (z07 5) z03)))))))))
abbrev z8y:Stmt:=top 46
theorem zju:FnScope ["_law_box","_law_event_here"] ["_law_box","_law_event_here"] (z02 z8y):=unop% sk 0
theorem z97 (F:Fun K "_law_box_do" "_law_box_do" z8y f fd) (m:mg "_law_box_do"=some (.ref f)) (kcBox:unop% ko 1) (za9:MtMd P w K mg base CBox 1 "ticks" k 2 z67) (zbx:MtMd P w K mg base CBox 1 "line" k 3 z76) (zby:MtMd P w K mg base CBox 1 "code" k 4 z77):ClM P w K mg base "_law_box_do" 1 0 (k+1) 2 z3d :=
 zxy F zju (unop% b2 F) m unop% lm
  (z04 (s_if (binop% eqt (v2r (q_ix (q_nm 1) (v2r z05))) (v2r z0b)) (z09 (zf2 (z0k kcBox zbx hr (pv 0) (z00 (q_ix (q_nm 1) (v2r z05)) (z00 (q_ix (q_nm 1) (v2r z05)) z03))))) z2q)
  (z04 (s_if (binop% eqt (v2r (q_ix (q_nm 1) (v2r z05))) (v2r z0b)) (z09 (zf2 (z0k kcBox zby hr (pv 0) (z00 (q_ix (q_nm 1) (v2r z05)) (z00 (q_ix (q_nm 1) (v2r z05)) (z00 (q_ix (q_nm 1) (v2r z05)) z03)))))) z2q)
  (z09 (zf2 (z0k kcBox za9 hr (pv 0) (z00 (q_ix (q_nm 1) (v2r z05)) z03))))))
abbrev zhu:Stmt:=top 47
theorem z4e:FnScope ["_law_script","_law_plan_here","_law_house_here","_law_number","_law_box","_law_event_here","_law_kept","_law_pace","_law_way","_law_place","_law_first","_law_many","_law_at","_law_one","_law_told","_law_k"] ["_law_script"] (z02 zhu):=unop% sk 0
theorem zz3 (F:Fun K "law" "law" zhu f fd) (kcBox:unop% ko 1) (zh5:Cl P w K mg base "_law_plan" k 1 zb3) (z8r:Cl P w K mg base "_law_house_of" k 2 z4a) (z8q:Cl P w K mg base "_law_mixed" k 2 z1e) (c_Box:ClNew P w K mg base "Box" CBox 1 k 2 z3l) (zkq:Cl P w K mg base "_law_row" k 3 za5) (z97:ClM P w K mg base "_law_box_do" 1 0 k 2 z3d) (z2p:MtRd P w K mg base CBox "state" k 1 z10) (z7x:MtRd P w K mg base CBox "shown" k 1 z32) (zb6:MtRd P w K mg base CBox "log" k 1 z59) (z7a:MtRd P w K mg base CBox "row" k 1 z3k) (zqa:Cl P w K mg base "ways" k 2 d_ways) (zh6:Cl P w K mg base "caught" k 5 z6t) (z_enumerate:mg "enumerate"=none) (z_range:mg "range"=none) (zh4:Cl P w K mg base "walked" k 3 z5s) (zbw:MtMd P w K mg base CBox 1 "undo" k 1 z4b):FnOk P w K mg base CX0 (k+2) f fd ["_law_script"] (spT K 1 zkj) :=
 zpn F z4e unop% lm
  (z04 (z0z 1 z4e.nd (z0l zh5 (hr.mono (y2m _)) (z00 (z0l z8q (hr.mono (y2m _)) (z00 (z07 0) (z00 z05 z03))) z03)))
  (z04 (z0z 2 z4e.nd (z0l z8r (hr.mono (y2m _)) (z00 (z07 1) (z00 (z0l z8q (hr.mono (y2m _)) (z00 (z07 0) (z00 z05 z03))) z03))))
  (z04 (z0z 3 z4e.nd (z0l z8q (hr.mono (y2m _)) (z00 (z07 0) (z00 z05 z03))))
  (z04 (zt4 4 z4e.nd (zxg kcBox c_Box hr (z00 (z07 1) z03)))
  (z04 (z9i y2b (z75 (z0l zkq (hr.mono (y2m _)) (z00 (z07 1) (z00 (z07 3) (z00 z05 z03))))) (g_nm 5 z4e.nd)
  (z09 (z2g (znm kcBox z97 (hr.mono (y2m _)) (pv 4) (z00 (z07 5) z03)))))
  (z04 (z0z 6 z4e.nd (z0n (z00 (z3u kcBox z2p (hr.mono (y2m _)) (pv 4)) (z00 (z3u kcBox z7x (hr.mono (y2m _)) (pv 4)) (z00 (z3u kcBox zb6 (hr.mono (y2m _)) (pv 4)) (z00 (z3u kcBox z7a (hr.mono (y2m _)) (pv 4)) z03))))))
  (z04 (z0z 7 z4e.nd (z3x (v2r z05) (v2r (z3c (v2r (z54 (q_nm 3) (v2r z05))) (v2r z05)))))
  (z04 (z9i y2b (z75 (zob (v2r (z0l zqa (hr.mono (y2m _)) (z00 (z07 2) (z00 (z3x (v2r z05) (v2r (z3c (v2r (z54 (q_nm 3) (v2r z05))) (v2r (q_ix (q_nm 2) (v2r z05)))))) z03)))) zti (zth (v2r z05)))) (g_nm 8 z4e.nd)
  (z04 (z0z 9 z4e.nd (z0l zh6 (hr.mono (y2m _)) (z00 (z07 1) (z00 (z07 2) (z00 (q_ix (q_nm 6) (v2r z05)) (z00 (z07 8) (z00 (z07 7) z03)))))))
  (z04 (z0z 10 z4e.nd z8c)
  (z04 (z0z 11 z4e.nd z05)
  (z04 (z9i y2b (zlo z_enumerate (z07 8)) (zcj (z2a (g_nm 12 z4e.nd) (z2a (g_nm 13 z4e.nd) zck)))
  (z09 (z9i y2b (z75 (z0l zh4 (hr.mono (y2m _)) (z00 (z07 2) (z00 (z0n (z00 (z07 13) z03)) (z00 (z07 7) z03))))) (g_nm 5 z4e.nd)
  (z04 (zwf 14 z4e.nd (znm kcBox z97 (hr.mono (y2m _)) (pv 4) (z00 (z07 5) z03)))
  (z04 (z0z 11 z4e.nd (z3x (q_nm 11) (v2r z05)))
  (z09 (s_if (w_t (zm7 (zqx (q_nm 10)) (zeu (z5a (zde (by exact hr.units)) z6p (v2r z0b) (v2r (z60 (own:=["_law_word","_law_name"]) (caps:=[]) (binop% co zhu ["_law_script","_law_plan_here","_law_house_here","_law_number","_law_box","_law_event_here","_law_kept","_law_pace","_law_way","_law_place","_law_first","_law_many","_law_at","_law_one","_law_told","_law_k"]) (z75 (z07 14)) (unop% w6 (zcj (z2a (g_nm 0 (unop% nd ["_law_word","_law_name"])) (z2a (g_nm 1 (unop% nd ["_law_word","_law_name"])) zck)))) (unop% w6 z9m) (unop% w6 (z07 0)))))))) (z09 (z0z 10 z4e.nd (z3x (q_nm 12) (v2r z05)))) z2q)))))))
  (z04 (s_if (binop% net (q_nm 10) (q_nm 9)) (z09 (z1h q_bl)) z2q)
  (z04 (z9i y2b (zln z_range (q_nm 11)) (g_nm 15 z4e.nd)
  (z09 (z2g (z6l kcBox zbw (hr.mono (y2m _)) (pv 4)))))
  (z09 (s_if (binop% net (v2r (z0n (z00 (z3u kcBox z2p (hr.mono (y2m _)) (pv 4)) (z00 (z3u kcBox z7x (hr.mono (y2m _)) (pv 4)) (z00 (z3u kcBox zb6 (hr.mono (y2m _)) (pv 4)) (z00 (z3u kcBox z7a (hr.mono (y2m _)) (pv 4)) z03)))))) (q_nm 6)) (z09 (z1h q_bl)) z2q)))))))))
  (z09 (z1h q_bl))))))))))
end
end K35
end
section
namespace D
open PySem
theorem zru (ns:List Int):y1h (ns.map .int)=true/\y1f (ns.map .int)<=1:=by
 induction ns with
 | nil=>simp[y1h,y1f]
 | cons n ns ih=>simp[y1h,PyData.canLay0,y1f,y2a,ih]
theorem zrt (ss:List Str) (h:∀x∈ss,(y20 x).canLay0=true):y1h (ss.map .str)=true/\y1f (ss.map .str)<=1:=by
 induction ss with
 | nil=>simp[y1h,y1f]
 | cons n ns ih =>
  have h1:=h n (by simp)
  have h2:=ih fun x hx=>h x (by simp[hx])
  simp[y1h,y1f,y2a,h1,h2]
theorem zlq (n:Int):∀ns:List Int,hasT (.int n) (ns.map .int)=decide (n∈ns)
 | []=>by simp[hasT]
 | m::ns=>by
  have ih:=zlq n ns
  unfold hasT at ih ⊢
  rw[y0e,List.any_cons,ih]
  simp[y25,Bool.beq_eq_decide_eq,eq_comm]
theorem zgu (n:Str):∀ns:List Str,hasT (.str n) (ns.map .str)=decide (n∈ns)
 | []=>by simp[hasT]
 | m::ns=>by
  have ih:=zgu n ns
  unfold hasT at ih ⊢
  rw[y0e,List.any_cons,ih]
  simp[y25,Bool.beq_eq_decide_eq,eq_comm]
theorem z9z (n:Int):okT (.int n)=true:=by simp[okT,PyData.canLay0,y2a]
theorem zbk {x:Str} (h:(y20 x).canLay0=true):okT (.str x)=true:=by simp[okT,y2a,h]
theorem zot (ns:List Int):okL (ns.map .int)=true:=by
 have:=zru ns
 simp[okL,this.1]
 omega
theorem zdh (ss:List Str) (h:∀x∈ss,(y20 x).canLay0=true):okL (ss.map .str)=true:=by
 have:=zrt ss h
 simp[okL,this.1]
 omega
theorem zow (neg:Bool) (n:Int) (ns:List Int):oIn neg (.int n) (.tuple (ns.map .int))=some (.bool (if neg then !decide (n∈ns) else decide (n∈ns))):=by
 simp only[oIn,z9z,zot,zlq,Bool.and_self,if_true]
theorem zva (neg:Bool) (n:Str) (ns:List Str) (h0:(y20 n).canLay0=true) (h:∀x∈ns,(y20 x).canLay0=true):oIn neg (.str n) (.tuple (ns.map .str))=some (.bool (if neg then !decide (n∈ns) else decide (n∈ns))):=by
 simp only[oIn,zbk h0,zdh ns h,zgu,Bool.and_self,if_true]
end D
end
section
namespace Ho
open D
noncomputable def z9a:Fs :=
  (seq (iff (tstB (op2 oEq (op2 oIx (nm 0) (cst (.int 0))) (nm 1))) (rtn (op2 oIx (nm 0) (cst (.int 1)))) skip)
  (seq (iff (tstB (op2 oEq (op2 oIx (nm 0) (cst (.int 1))) (nm 1))) (rtn (op2 oIx (nm 0) (cst (.int 0)))) skip)
  (rtn (cst .none))))
def z3e:List T->Option T:=runF z9a 2
noncomputable def z7b (rec:List T->Option T):Fs :=
  (seq (iff (tstB (op2 oEq (op2 oIx (nm 2) (op1 oNeg (cst (.int 1)))) (nm 1))) (rtn (z29 [(z06 [])])) skip)
  (seq (asgN 3 (z29 []))
  (seq (for_ (z3f (z31 (op2 oIx (nm 0) (cst (.int 1))))) (gTu [(gNm 4),(gNm 5)])
  (seq (asg 6 (opN z3e [(nmV 5),(op2 oIx (nm 2) (op1 oNeg (cst (.int 1))))]))
  (iff (andT (tstB (op1 z3j (nm 6))) (tstB (op2 (oIn true) (nm 6) (nm 2)))) (ext 3 (comp 1 [4] (z0v (opN rec [(nmV 0),(nmV 1),(op2 oAdd (nm 2) (z06 [(nmV 6)]))])) (gNm 0) (cstT true) (op2 oAdd (z06 [(nmV 1)]) (nm 0)))) skip)))
  (rtn (nm 3)))))
noncomputable def z2b:Nat->List T->Option T
 | 0=>fun _=>none
 | n+1=>runF (z7b (z2b n)) 7
noncomputable def zjd:Fs :=
  (rtn (opN z1k [(opN (z2b 20) [(nmV 0),(nmV 1),(z06 [(cst (.int 0))])])]))
def d_ways:List T->Option T:=runF zjd 2
noncomputable def z45:Fs :=
  (seq (iff (tstB (op2 oLt (nm 1) (opN oLen [(nm 0)]))) (rtn (op2 oIx (nm 0) (nm 1))) skip)
  (rtn (cst (.int 0))))
def z13:List T->Option T:=runF z45 2
noncomputable def z6b:Fs :=
  (seq (asg 2 (op2 oMod (op2 oMul (op2 oAdd (op2 oAdd (opN z13 [(nmV 0),(nmV 1)]) (op2 oMul (cst (.int 7919)) (nm 1))) (cst (.int 1))) (cst (.int 48271))) (cst (.int 2147483647))))
  (rtn (op2 oMod (op2 oAdd (op2 oAdd (op2 oMul (nm 2) (nm 2)) (op2 oMul (cst (.int 7)) (nm 2))) (nm 1)) (cst (.int 2147483629)))))
def z1e:List T->Option T:=runF z6b 3
noncomputable def z6c:Fs :=
  (seq (asg 2 (op2 oMod (op2 oMul (op2 oAdd (op2 oAdd (nm 0) (op2 oMul (cst (.int 104729)) (nm 1))) (cst (.int 17))) (cst (.int 69621))) (cst (.int 2147483647))))
  (rtn (op2 oMod (op2 oAdd (op2 oAdd (op2 oMul (nm 2) (nm 2)) (op2 oMul (cst (.int 3)) (nm 2))) (nm 1)) (cst (.int 2147483629)))))
def z0p:List T->Option T:=runF z6c 3
noncomputable def z8t:Fs :=
  (seq (asg 1 (op2 oAdd (cst (.int 1)) (op2 oMod (nm 0) (cst (.int 7)))))
  (seq (asg 2 (z06 []))
  (seq (for_ (z2w (op2 oMod (op2 oDiv (nm 0) (cst (.int 8))) (cst (.int 11)))) (gNm 3)
  (seq (asg 4 (op2 oDiv (opN z0p [(nmV 0),(op2 oAdd (cst (.int 50)) (nm 3))]) (cst (.int 4))))
  (seq (asg 5 (op2 oMod (nm 4) (op2 oAdd (nm 1) (cst (.int 1)))))
  (seq (asg 6 (op2 oMod (op2 oAdd (op2 oAdd (nm 5) (cst (.int 1))) (op2 oMod (op2 oDiv (nm 4) (cst (.int 8))) (nm 1))) (op2 oAdd (nm 1) (cst (.int 1)))))
  (seq (asg 7 (op2 oIx (z06 [(cst .none),(cst .none),(cst (.str "a")),(cst (.str "b")),(cst (.str "back")),(cst (.str "hall")),(cst (.str "win"))]) (op2 oMod (op2 oDiv (nm 4) (cst (.int 64))) (cst (.int 7)))))
  (asg 2 (op2 oAdd (nm 2) (z06 [(z06 [(opN oMin [(nm 5),(nm 6)]),(opN oMax [(nm 5),(nm 6)]),(nmV 7)])]))))))))
  (rtn (z06 [(nmV 1),(nmV 2)])))))
def d_l_house:List T->Option T:=runF z8t 8
end Ho
end
section
namespace Hg
noncomputable def adj (e:Int×Int) (x:Int):Option Int:=if e.1=x then some e.2 else if e.2=x then some e.1 else none
def Adj (E:List (Int×Int)) (x y:Int):Prop:=∃e∈E,adj e x=some y
inductive Reach (E:List (Int×Int)):Int->Prop
 | zero:Reach E 0
 | step {x y:Int}:Reach E x->Adj E x y->Reach E y
noncomputable def Within (R:Int) (E:List (Int×Int)):Prop:=∀e∈E,0<=e.1/\e.1<=R/\0<=e.2/\e.2<=R
theorem zfz {R:Int} {E:List (Int×Int)} (h:Within R E) {x y:Int} (a:Adj E x y):0<=y/\y<=R:=by
 obtain⟨e,he,ha⟩:=a
 obtain⟨h1,h2,h3,h4⟩:=h e he
 unfold adj at ha
 split at ha
 ·cases ha;exact⟨h3,h4⟩
 ·split at ha
  ·cases ha;exact⟨h1,h2⟩
  ·cases ha
theorem zaw:∀(n:Nat) (l:List Int),l.Nodup->(∀x∈l,0<=x/\x<n)->l.length<=n
 | 0,l,_,hb=>by
  cases l with
  | nil=>simp
  | cons x r=>have:=hb x (by simp);omega
 | n+1,l,nd,hb=>by
  have h1:=zaw n (l.filter fun x=>decide (x≠(n:Int))) (nd.filter _) (fun x hx=>by
   have:=List.mem_filter.mp hx
   have hx':=hb x this.1
   have:x≠(n:Int):=by simpa using this.2
   omega)
  have h2:l.length<=(l.filter fun x=>decide (x≠(n:Int))).length+1:=by
   clear h1 hb
   induction l with
   | nil=>simp
   | cons y r ih =>
    have nd':=y0r.mp nd
    by_cases e:y=(n:Int)
    ·subst e
     have:r.filter (fun x=>decide (x≠(n:Int)))=r:=List.filter_eq_self.mpr fun x hx=>by
      have:x≠(n:Int):=fun z=>nd'.1 (z▸hx)
      simpa using this
     rw[List.filter_cons_of_neg (by simp),this]
     simp
    ·rw[List.filter_cons_of_pos (by simpa using e)]
     have:=ih nd'.2
     simp only[y0w]
     omega
  omega
noncomputable def inner (h:Int):List (Int×Int)->List Int->List Int->List Int×List Int
 | [],r,w=>(r,w)
 | e::es,r,w=>match adj e h with
  | some t=>if t∈r then inner h es r w else inner h es (r++[t]) (w++[t])
  | none=>inner h es r w
noncomputable def exts (rec:List Int->Option (List (List Nat))) (pl:List Int) (h:Int):Nat->List (Int×Int)->Option (List (List Nat))
 | _,[]=>some []
 | k,e::es=>match adj e h with
  | some t=>if t∈pl then exts rec pl h (k+1) es else (rec (pl++[t])).bind fun ws=>(exts rec pl h (k+1) es).map fun vs=>ws.map (fun w=>k::w)++vs
  | none=>exts rec pl h (k+1) es
noncomputable def waysP (E:List (Int×Int)) (room:Int):Nat->List Int->Option (List (List Nat))
 | 0,_=>none
 | n+1,pl=>match pl.getLast? with
  | none=>none
  | some h=>if h=room then some [[]] else exts (waysP E room n) pl h 0 E
theorem zgy {rec:List Int->Option (List (List Nat))} {pl:List Int} {h:Int} {B:Nat} (E₀:List (Int×Int)) (hr:∀t,Adj E₀ h t->t∉pl->∃ws,rec (pl++[t])=some ws/\ws.length<=B) :
  ∀(k:Nat) (E:List (Int×Int)),(∀e∈E,e∈E₀)->∃ws,exts rec pl h k E=some ws/\ws.length<=E.length*B
 | k,[],_=>⟨[],rfl,by simp⟩
 | k,e::es,hs=>by
  obtain⟨vs,h1,h2⟩:=zgy E₀ hr (k+1) es fun e he=>hs e (y05 _ he)
  have h3:es.length*B<=(e::es).length*B:=Nat.mul_le_mul_right _ (by simp)
  unfold exts
  split
  next t ht =>
   split
   next=>exact⟨vs,h1,by omega⟩
   next hm =>
    obtain⟨ws,h4,h5⟩:=hr t ⟨e,hs e y0f,ht⟩ hm
    refine⟨_,by rw[h4,h1];rfl,?_⟩
    simp only[y27,y14,y0w,Nat.succ_mul]
    omega
  next=>exact⟨vs,h1,by omega⟩
theorem ways_tot {R:Int} {E:List (Int×Int)} (hE:Within R E) (hR:R<=7) (hl:E.length<=10) (room:Int) :
  ∀(n:Nat) (pl:List Int),pl≠[]->pl.Nodup->(∀x∈pl,0<=x/\x<=R)->9<=n+pl.length->∃ws,waysP E room n pl=some ws/\ws.length<=10 ^ (8 - pl.length)
 | 0,pl,hne,nd,hb,hn=>by
  have:=zaw 8 pl nd fun y hy=>by have:=hb y hy;omega
  omega
 | n+1,pl,hne,nd,hb,hn=>by
  unfold waysP
  rw[List.getLast?_eq_getLast hne]
  simp only
  split
  next=>exact⟨_,rfl,by simpa using Nat.one_le_pow _ 10 (by decide)⟩
  next =>
   have l8:=zaw 8 pl nd fun y hy=>by have:=hb y hy;omega
   by_cases full:pl.length=8
   ·
    have none_new:∀t,Adj E (pl.getLast hne) t->t∉pl->False:=fun t a hm=>by
     have hw:=zfz hE a
     have nd':(pl++[t]).Nodup:=by
      rw[y1p]
      refine⟨nd,by simp,fun x hx y hy=>?_⟩
      have:y=t:=by simpa using hy
      subst this
      exact fun z=>hm (z▸hx)
     have:=zaw 8 (pl++[t]) nd' fun y hy=>by
      rcases y11.mp hy with hy|hy
      ·have:=hb y hy;omega
      ·have:y=t:=by simpa using hy
       subst this
       omega
     simp at this
     omega
    obtain⟨ws,h1,h2⟩:=zgy (B:=0) (pl:=pl) (h:=pl.getLast hne) (rec:=waysP E room n) E (fun t a hm=>(none_new t a hm).elim) 0 E fun _ h=>h
    exact⟨ws,h1,by have:ws.length=0:=(by omega);rw[this];exact y29 _⟩
   ·obtain⟨ws,h1,h2⟩:=zgy (B:=10 ^ (8 - (pl.length+1))) (pl:=pl) (h:=pl.getLast hne) (rec:=waysP E room n) E (fun t a hm=>by
     have hw:=zfz hE a
     have:=ways_tot hE hR hl room n (pl++[t]) (by simp) (by
      rw[y1p]
      refine⟨nd,by simp,fun x hx y hy=>?_⟩
      have:y=t:=by simpa using hy
      subst this
      exact fun z=>hm (z▸hx)) (fun y hy=>by
      rcases y11.mp hy with hy|hy
      ·exact hb y hy
      ·have:y=t:=by simpa using hy
       subst this
       exact hw) (by simp;omega)
     simpa using this) 0 E fun _ h=>h
    refine⟨ws,h1,?_⟩
    have e:8 - pl.length=(8 - (pl.length+1))+1:=by omega
    rw[e,Nat.pow_succ]
    have:=Nat.mul_le_mul_right (10 ^ (8 - (pl.length+1))) hl
    omega
inductive Walk (E:List (Int×Int)):Int->List Int->Int->Prop
 | nil (x:Int):Walk E x [] x
 | cons {x y z:Int} {p:List Int}:Adj E x y->Walk E y p z->Walk E x (y::p) z
theorem z8j {rec:List Int->Option (List (List Nat))} {pl:List Int} {h:Int}:∀{k:Nat} {E:List (Int×Int)} {ws:List (List Nat)},exts rec pl h k E=some ws->∀t,Adj E h t->t∉pl->∃vs,rec (pl++[t])=some vs/\(vs≠[]->ws≠[])
 | k,[],ws,e,t,⟨e',he',_⟩,_=>by simp at he'
 | k,e::es,ws,h1,t,⟨e',he',ha⟩,hm=>by
  unfold exts at h1
  split at h1
  next t' ht' =>
   split at h1
   next hm' =>
    rcases y09.mp he' with rfl|he'
    ·rw[ht'] at ha
     cases ha
     exact absurd hm' hm
    ·exact z8j h1 t ⟨e',he',ha⟩ hm
   next hm' =>
    simp only[y01,y07] at h1
    obtain⟨us,h2,vs,h3,rfl⟩:=h1
    rcases y09.mp he' with rfl|he'
    ·rw[ht'] at ha
     cases ha
     exact⟨us,h2,fun q z=>q (by have:=(List.append_eq_nil_iff.mp z).1;simpa using this)⟩
    ·obtain⟨xs,q1,q2⟩:=z8j h3 t ⟨e',he',ha⟩ hm
     exact⟨xs,q1,fun q z=>q2 q (List.append_eq_nil_iff.mp z).2⟩
  next hn =>
   rcases y09.mp he' with rfl|he'
   ·rw[hn] at ha
    cases ha
   ·exact z8j h1 t ⟨e',he',ha⟩ hm
theorem zgz {rec:List Int->Option (List (List Nat))} {pl:List Int} {h:Int}:∀{k:Nat} {E:List (Int×Int)} {ws:List (List Nat)},exts rec pl h k E=some ws->ws≠[]->∃t vs,Adj E h t/\t∉pl/\rec (pl++[t])=some vs/\vs≠[]
 | k,[],ws,e,hn=>by
  cases e
  exact absurd rfl hn
 | k,e::es,ws,h1,hne=>by
  have up:∀{y:Int},Adj es h y->Adj (e::es) h y:=fun⟨e',h1,h2⟩=>⟨e',y05 _ h1,h2⟩
  unfold exts at h1
  split at h1
  next t ht =>
   split at h1
   next =>
    obtain⟨t',vs,a,b,c,d⟩:=zgz h1 hne
    exact⟨t',vs,up a,b,c,d⟩
   next hm =>
    simp only[y01,y07] at h1
    obtain⟨us,h2,vs,h3,rfl⟩:=h1
    by_cases hu:us=[]
    ·subst hu
     obtain⟨t',vs',a,b,c,d⟩:=zgz h3 (by simpa using hne)
     exact⟨t',vs',up a,b,c,d⟩
    ·exact⟨t,us,⟨e,y0f,ht⟩,hm,h2,hu⟩
  next =>
   obtain⟨t',vs,a,b,c,d⟩:=zgz h1 hne
   exact⟨t',vs,up a,b,c,d⟩
theorem zc0 {E:List (Int×Int)} {room:Int}:∀{p:List Int} {n:Nat} {pl:List Int} {cur:Int} {ws:List (List Nat)},Walk E cur p room->(cur::p).Nodup->(∀y∈p,y∉pl)->pl.getLast?=some cur->waysP E room n pl=some ws->ws≠[]
 | p,0,pl,cur,ws,_,_,_,_,h=>by cases h
 | [],n+1,pl,cur,ws,hw,_,_,hl,h=>by
  cases hw
  unfold waysP at h
  rw[hl] at h
  simp only[if_true] at h
  cases h
  simp
 | y::p,n+1,pl,cur,ws,hw,nd,hp,hl,h=>by
  cases hw with
  | cons a w =>
   unfold waysP at h
   rw[hl] at h
   simp only at h
   split at h
   next=>cases h;simp
   next =>
    obtain⟨vs,h1,h2⟩:=z8j h y a (hp y (by simp))
    have nd':=(y0r.mp nd).2
    refine h2 (zc0 w nd' (fun z hz hm=>?_) (by simp) h1)
    rcases y11.mp hm with hm|hm
    ·exact hp z (y05 _ hz) hm
    ·have:z=y:=by simpa using hm
     subst this
     exact (y0r.mp nd').1 hz
theorem zc1 {E:List (Int×Int)} {room:Int}:∀{n:Nat} {pl:List Int} {cur:Int} {ws:List (List Nat)},pl.getLast?=some cur->waysP E room n pl=some ws->ws≠[]->∃p,Walk E cur p room
 | 0,pl,cur,ws,_,h,_=>by cases h
 | n+1,pl,cur,ws,hl,h,hne=>by
  unfold waysP at h
  rw[hl] at h
  simp only at h
  split at h
  next e =>
   subst e
   exact⟨[],.nil _⟩
  next =>
   obtain⟨t,vs,a,b,c,d⟩:=zgz h hne
   obtain⟨p,w⟩:=zc1 (pl:=pl++[t]) (cur:=t) (by simp) c d
   exact⟨t::p,.cons a w⟩
theorem znp {E:List (Int×Int)} {x y z:Int} {p:List Int} (w:Walk E x p y) (a:Adj E y z):Walk E x (p++[z]) z:=by
 induction w with
 | nil x=>exact .cons a (.nil z)
 | cons b _ ih=>exact .cons b (ih a)
theorem zm5 {E:List (Int×Int)} {x y:Int} {p:List Int} (w:Walk E x p y) (r:Reach E x):Reach E y:=by
 induction w with
 | nil x=>exact r
 | cons a _ ih=>exact ih (.step r a)
theorem zqs {E:List (Int×Int)} {x z y:Int} {p:List Int} (w:Walk E x p z) (nd:(x::p).Nodup) (hy:y∈x::p):∃q,Walk E x q y/\(x::q).Nodup:=by
 induction w with
 | nil x =>
  have:y=x:=by simpa using hy
  subst this
  exact⟨[],.nil _,by simp⟩
 | @cons x u z p a w ih =>
  by_cases e:y=x
  ·subst e
   exact⟨[],.nil _,by simp⟩
  ·have nd':=y0r.mp nd
   have sub:∀{q:List Int},Walk E u q y->True:=fun _=>trivial
   obtain⟨q,w',ndq,hs⟩:∃q,Walk E u q y/\(u::q).Nodup/\∀t∈u::q,t∈u::p:=by
    have hy':y∈u::p:=by
     rcases y09.mp hy with h|h
     ·exact absurd h e
     ·exact h
    clear ih sub a nd hy e
    have nd2:=nd'.2
    clear nd'
    induction w with
    | nil u =>
     have:y=u:=by simpa using hy'
     subst this
     exact⟨[],.nil _,by simp,by simp⟩
    | @cons u v z p b w ih =>
     by_cases e:y=u
     ·subst e
      exact⟨[],.nil _,by simp,by simp⟩
     ·have n3:=y0r.mp nd2
      obtain⟨q,w',ndq,hs⟩:=ih (by
       rcases y09.mp hy' with h|h
       ·exact absurd h e
       ·exact h) n3.2
      refine⟨v::q,.cons b w',y0r.mpr ⟨fun h=>n3.1 (hs u h),ndq⟩,fun t ht=>?_⟩
      rcases y09.mp ht with rfl|ht
      ·simp
      ·exact y05 _ (hs t ht)
   exact⟨u::q,.cons a w',y0r.mpr ⟨fun h=>nd'.1 (hs x h),ndq⟩⟩
theorem zmi {E:List (Int×Int)} {x:Int} (r:Reach E x):∃p,Walk E 0 p x/\((0:Int)::p).Nodup:=by
 induction r with
 | zero=>exact⟨[],.nil _,by simp⟩
 | @step x y _ a ih =>
  obtain⟨p,w,nd⟩:=ih
  by_cases h:y∈(0:Int)::p
  ·exact zqs w nd h
  ·refine⟨p++[y],znp w a,?_⟩
   rw[<- y2r,y1p]
   refine⟨nd,by simp,fun s hs t ht=>?_⟩
   have:t=y:=by simpa using ht
   subst this
   exact fun e=>h (e▸hs)
theorem ways_iff {E:List (Int×Int)} {room:Int} {n:Nat} {ws:List (List Nat)} (h:waysP E room n [0]=some ws):ws≠[] <-> Reach E room:=by
 constructor
 ·intro hne
  obtain⟨p,w⟩:=zc1 (cur:=0) (by simp) h hne
  exact zm5 w .zero
 ·intro r
  obtain⟨p,w,nd⟩:=zmi r
  refine zc0 w nd (fun y hy hm=>?_) (by simp) h
  have:y=0:=by simpa using hm
  subst this
  exact (y0r.mp nd).1 hy
end Hg
end
section
namespace Ho
open PySem D
abbrev Op:=Int×Int×Option Str
def zT:Option Str->T
 | none=>.none
 | some x=>.str x
def opT (o:Op):T:=.tuple [.int o.1,.int o.2.1,zT o.2.2]
def houseT (R:Int) (os:List Op):T:=.tuple [.int R,.tuple (os.map opT)]
noncomputable def free (ns:List Str) (o:Op):Bool:=match o.2.2 with
 | none=>true
 | some x=>decide (x∈ns)
def edge (o:Op):Int×Int:=(o.1,o.2.1)
def oT:Option Int->T
 | some t=>.int t
 | none=>.none
theorem z4i (a b:Int):oEq (.int a) (.int b)=some (.bool (decide (a=b))):=by
 simp[oEq,z9z,y25,Bool.beq_eq_decide_eq]
theorem z17 {a b:Fs} {ε ε':Ev} (h:a ε=some (.nx ε')):seq a b ε=b ε':=by
 simp only[seq,h,y0p]
theorem zqf (o:Op) (h:Int):z3e [opT o,.int h]=some (oT (Hg.adj (edge o) h)):=by
 obtain⟨a,b,z⟩:=o
 by_cases h1:a=h
 ·simp[z3e,z9a,opT,runF,seq,iff,tstB,tstL,andT,orT,notT,cstT,ofT,op1,op2,opN,args,cst,nm,nmV,rtn,skip,asg,asgN,asgT,par,z06,z29,oIsN,z3j,oIx,atZ,ixOf,gNm,gTu,gAll,z0v,comp,z2h,z4i,Hg.adj,edge,oT,h1]
 ·by_cases h2:b=h
  ·simp[z3e,z9a,opT,runF,seq,iff,tstB,tstL,andT,orT,notT,cstT,ofT,op1,op2,opN,args,cst,nm,nmV,rtn,skip,asg,asgN,asgT,par,z06,z29,oIsN,z3j,oIx,atZ,ixOf,gNm,gTu,gAll,z0v,comp,z2h,z4i,Hg.adj,edge,oT,h1,h2]
  ·simp[z3e,z9a,opT,runF,seq,iff,tstB,tstL,andT,orT,notT,cstT,ofT,op1,op2,opN,args,cst,nm,nmV,rtn,skip,asg,asgN,asgT,par,z06,z29,oIsN,z3j,oIx,atZ,ixOf,gNm,gTu,gAll,z0v,comp,z2h,z4i,Hg.adj,edge,oT,h1,h2]
def kv (r:List Int):List (Key×T):=r.map fun x=>(Sum.inl x,.bool true)
end Ho
end
section
namespace Ho
open PySem D
def wT (w:List Nat):T:=.tuple (w.map fun (k:Nat)=>PyData.int (k:Int))
noncomputable def bW (rec:List T->Option T):Fs:=(seq (asg 6 (opN z3e [(nmV 5),(op2 oIx (nm 2) (op1 oNeg (cst (.int 1))))]))
  (iff (andT (tstB (op1 z3j (nm 6))) (tstB (op2 (oIn true) (nm 6) (nm 2)))) (ext 3 (comp 1 [4] (z0v (opN rec [(nmV 0),(nmV 1),(op2 oAdd (nm 2) (z06 [(nmV 6)]))])) (gNm 0) (cstT true) (op2 oAdd (z06 [(nmV 1)]) (nm 0)))) skip))
noncomputable def envW (h:T) (room:Int) (pl:List Int) (acc:List (List Nat)) (j4 j5 j6:Option Sl):Ev:=[some (.imm h),some (.imm (.int room)),some (.imm (.tuple (pl.map .int))),some (.own (acc.map wT)),j4,j5,j6]
theorem zly (k:Nat):∀(ws:List (List Nat)) (j:Option Sl),(∀w∈ws,w.length<=100)->z3m (gNm 0) (cstT true) (op2 oAdd (z06 [(nmV 1)]) (nm 0)) (ws.map wT) [j,some (.imm (.int k))]=some ((ws.map fun w=>k::w).map wT)
 | [],j,_=>rfl
 | w::ws,j,h=>by
  have ih:=zly k ws (some (.imm (wT w))) fun w hw=>h w (by simp[hw])
  have hw:=h w (by simp)
  have e1:op2 oAdd (z06 [(nmV 1)]) (nm 0) [some (.imm (wT w)),some (.imm (.int k))]=some (wT (k::w)):=by
   have:1+w.length<=16777216:=by omega
   simp[op2,z06,args,nmV,nm,big,wT,oAdd,this]
  have e0:gNm 0 (wT w) [j,some (.imm (.int k))]=some [some (.imm (wT w)),some (.imm (.int k))]:=rfl
  simp only[y0e,z3m,e0,y0p,cstT,if_true,e1,ih,y1t]
theorem zp3 {pl:List Int} {h:Int} (hp:pl.getLast?=some h):atZ (pl.map PyData.int) (-1)=some (.int h):=by
 have hne:pl≠[]:=fun z=>by subst z;cases hp
 have hl:=List.length_pos_iff.mpr hne
 have hx:ixOf (pl.map PyData.int).length (-1)=some (pl.length - 1):=by
  unfold ixOf
  rw[if_neg (by decide),y14,if_pos (by omega)]
  congr 1
  omega
 unfold atZ
 rw[hx]
 simp only[y0p,y15]
 rw[<- List.getLast?_eq_getElem?,hp]
 rfl
theorem zw4 {rec:List T->Option T} {recP:List Int->Option (List (List Nat))} (hT:T) (room:Int) (pl:List Int) (h:Int) (hp:pl.getLast?=some h) (hpl:pl.length<=100)
  (o:Op) (k:Nat) (acc:List (List Nat)) (j6:Option Sl) (vs:List (List Nat))
  (hv:(match Hg.adj (edge o) h with|some t=>if t∈pl then some [] else (recP (pl++[t])).map fun ws=>ws.map fun w=>k::w|none=>some [])=some vs)
  (hr:∀t ws,t∉pl->recP (pl++[t])=some ws->ws.length<=vs.length->rec [hT,.int room,.tuple ((pl++[t]).map .int)]=some (.list (ws.map wT))/\∀w∈ws,w.length<=100) (hz:acc.length+vs.length<=16777216) :
  ∃j6',bW rec (envW hT room pl acc (some (.imm (.int k))) (some (.imm (opT o))) j6)=some (.nx (envW hT room pl (acc++vs) (some (.imm (.int k))) (some (.imm (opT o))) j6')):=by
 have hb:=zqf o h
 have hi:=zp3 hp
 have e1:opN z3e [(nmV 5),(op2 oIx (nm 2) (op1 oNeg (cst (.int 1))))] (envW hT room pl acc (some (.imm (.int k))) (some (.imm (opT o))) j6)=some (oT (Hg.adj (edge o) h)):=by
  have:op2 oIx (nm 2) (op1 oNeg (cst (.int 1))) (envW hT room pl acc (some (.imm (.int k))) (some (.imm (opT o))) j6)=some (.int h):=by
   simp only[op2,nm,envW,y2j,y2i,y0p,op1,cst,oNeg,oIx]
   exact hi
  have n5:nmV 5 (envW hT room pl acc (some (.imm (.int k))) (some (.imm (opT o))) j6)=some (opT o):=rfl
  simp only[opN,args,this,n5,y0p,y1t]
  exact hb
 have e2:asg 6 (opN z3e [(nmV 5),(op2 oIx (nm 2) (op1 oNeg (cst (.int 1))))]) (envW hT room pl acc (some (.imm (.int k))) (some (.imm (opT o))) j6)=some (.nx (envW hT room pl acc (some (.imm (.int k))) (some (.imm (opT o))) (some (.imm (oT (Hg.adj (edge o) h)))))):=by
  simp only[asg,e1,y1t]
  rfl
 refine⟨some (.imm (oT (Hg.adj (edge o) h))),?_⟩
 unfold bW
 rw[z17 e2]
 cases ha:Hg.adj (edge o) h with
 | none =>
  rw[ha] at hv
  cases hv
  simp[iff,andT,tstB,op1,z3j,nm,envW,oT,skip]
 | some t =>
  rw[ha] at hv
  by_cases hm:t∈pl
  ·simp only[hm,if_true] at hv
   cases hv
   simp[iff,andT,tstB,op1,op2,z3j,nm,envW,oT,skip,zow,hm]
  ·simp only[hm,if_false,y07] at hv
   obtain⟨ws,hws,rfl⟩:=hv
   simp only[y14] at hz hr
   obtain⟨h1,h2⟩:=hr t ws hm hws (y0o _)
   have c1:andT (tstB (op1 z3j (nm 6))) (tstB (op2 (oIn true) (nm 6) (nm 2))) (envW hT room pl acc (some (.imm (.int k))) (some (.imm (opT o))) (some (.imm (oT (some t)))))=some true:=by
    simp[andT,tstB,op1,op2,z3j,nm,envW,oT,zow,hm]
   have a1:op2 oAdd (nm 2) (z06 [(nmV 6)]) (envW hT room pl acc (some (.imm (.int k))) (some (.imm (opT o))) (some (.imm (oT (some t)))))=some (.tuple ((pl++[t]).map .int)):=by
    have:pl.length+1<=16777216:=by omega
    simp[op2,nm,nmV,envW,z06,args,big,oT,oAdd,this]
   have it1:z0v (opN rec [(nmV 0),(nmV 1),(op2 oAdd (nm 2) (z06 [(nmV 6)]))]) (envW hT room pl acc (some (.imm (.int k))) (some (.imm (opT o))) (some (.imm (oT (some t)))))=some (ws.map wT):=by
    have n0:nmV 0 (envW hT room pl acc (some (.imm (.int k))) (some (.imm (opT o))) (some (.imm (oT (some t)))))=some hT:=rfl
    have n1:nmV 1 (envW hT room pl acc (some (.imm (.int k))) (some (.imm (opT o))) (some (.imm (oT (some t)))))=some (.int room):=rfl
    simp only[z0v,opN,args,a1,n0,n1,y0p,y1t,h1]
   have cp:comp 1 [4] (z0v (opN rec [(nmV 0),(nmV 1),(op2 oAdd (nm 2) (z06 [(nmV 6)]))])) (gNm 0) (cstT true) (op2 oAdd (z06 [(nmV 1)]) (nm 0)) (envW hT room pl acc (some (.imm (.int k))) (some (.imm (opT o))) (some (.imm (oT (some t)))))=some (.list ((ws.map fun w=>k::w).map wT)):=by
    simp only[comp,it1,y0p,y14]
    rw[if_pos (by unfold big;omega)]
    have:z2h 1 [4] (envW hT room pl acc (some (.imm (.int k))) (some (.imm (opT o))) (some (.imm (oT (some t)))))=[none,some (.imm (.int k))]:=rfl
    rw[this,zly k ws none h2]
    rfl
   simp only[iff,c1,y0p,if_true,ext,cp]
   simp only[envW,y2j,y2i,y14]
   rw[if_pos (by unfold big;omega)]
   simp
theorem zpt {rec:List T->Option T} {recP:List Int->Option (List (List Nat))} (hT:T) (room:Int) (pl:List Int) (h:Int) (hp:pl.getLast?=some h) (hpl:pl.length<=100) (N:Nat) (hN:N<=16777216)
  (hr:∀t ws,t∉pl->recP (pl++[t])=some ws->ws.length<=N->rec [hT,.int room,.tuple ((pl++[t]).map .int)]=some (.list (ws.map wT))/\∀w∈ws,w.length<=100) :
  ∀(os:List Op) (k:Nat) (acc vs:List (List Nat)) (j4 j5 j6:Option Sl),Hg.exts recP pl h k (os.map edge)=some vs->acc.length+vs.length<=N ->
   ∃j4' j5' j6',forL (gTu [(gNm 4),(gNm 5)]) (bW rec) (((os.map opT).zipIdx k).map fun p=>.tuple [.int p.2,p.1]) (envW hT room pl acc j4 j5 j6)=some (.nx (envW hT room pl (acc++vs) j4' j5' j6'))
 | [],k,acc,vs,j4,j5,j6,e,_=>by
  cases e
  exact⟨j4,j5,j6,by simp[forL]⟩
 | o::os,k,acc,vs,j4,j5,j6,e,hz=>by
  have key:∃v1 v2,(match Hg.adj (edge o) h with|some t=>if t∈pl then some [] else (recP (pl++[t])).map fun ws=>ws.map fun w=>k::w|none=>some [])=some v1/\Hg.exts recP pl h (k+1) (os.map edge)=some v2/\vs=v1++v2:=by
   rw[y0e] at e
   unfold Hg.exts at e
   cases ha:Hg.adj (edge o) h with
   | none =>
    rw[ha] at e
    exact⟨[],vs,rfl,e,rfl⟩
   | some t =>
    rw[ha] at e
    by_cases hm:t∈pl
    ·simp only[hm,if_true] at e ⊢
     exact⟨[],vs,rfl,e,rfl⟩
    ·simp only[hm,if_false,y01,y07] at e ⊢
     obtain⟨ws,h1,v2,h2,rfl⟩:=e
     exact⟨_,v2,⟨ws,h1,rfl⟩,h2,rfl⟩
  obtain⟨v1,v2,h1,h2,rfl⟩:=key
  rw[y27] at hz
  obtain⟨j6',hs⟩:=zw4 (rec:=rec) (recP:=recP) hT room pl h hp hpl o k acc j6 v1 h1 (fun t ws a b c=>hr t ws a b (by omega)) (by omega)
  obtain⟨a,b,c,ih⟩:=zpt (rec:=rec) (recP:=recP) hT room pl h hp hpl N hN hr os (k+1) (acc++v1) v2 (some (.imm (.int k))) (some (.imm (opT o))) j6' h2 (by rw[y27];omega)
  refine⟨a,b,c,?_⟩
  have e0:gTu [(gNm 4),(gNm 5)] (.tuple [.int k,opT o]) (envW hT room pl acc j4 j5 j6)=some (envW hT room pl acc (some (.imm (.int k))) (some (.imm (opT o))) j6):=rfl
  rw[y0e,List.zipIdx_cons,y0e]
  simp only[forL,e0,y0p,hs]
  rw[ih,y2p]
theorem ways_lens {E:List (Int×Int)} {room:Int}:∀(n:Nat) (pl:List Int) (ws:List (List Nat)),Hg.waysP E room n pl=some ws->∀w∈ws,w.length<=n:=by
 have ex:∀(n:Nat) (rec:List Int->Option (List (List Nat))) (pl:List Int) (h:Int),(∀q ws,rec q=some ws->∀w∈ws,w.length<=n)->∀(E:List (Int×Int)) (k:Nat) (ws:List (List Nat)),Hg.exts rec pl h k E=some ws->∀w∈ws,w.length<=n+1:=by
  intro n rec pl h hr E
  induction E with
  | nil =>
   intro k ws e w hw
   cases e
   cases hw
  | cons e0 E ih =>
   intro k ws e w hw
   unfold Hg.exts at e
   split at e
   ·split at e
    ·exact ih _ _ e w hw
    ·simp only[y01,y07] at e
     obtain⟨us,h1,v2,h2,rfl⟩:=e
     rcases y11.mp hw with q|q
     ·obtain⟨u,hu,rfl⟩:=y0m.mp q
      have:=hr _ _ h1 u hu
      simp
      omega
     ·exact ih _ _ h2 w q
   ·exact ih _ _ e w hw
 intro n
 induction n with
 | zero =>
  intro pl ws e
  cases e
 | succ n ih =>
  intro pl ws e w hw
  unfold Hg.waysP at e
  split at e
  ·cases e
  ·split at e
   ·cases e
    simp at hw
    subst hw
    simp
   ·exact ex n _ _ _ (fun q ws e=>ih q ws e) _ _ _ e w hw
theorem zet {R:Int} {os:List Op} {room:Int}:∀(n:Nat) (pl:List Int) (ws:List (List Nat)),n+pl.length<=90->Hg.waysP (os.map edge) room n pl=some ws->ws.length<=16777216 ->
  z2b n [houseT R os,.int room,.tuple (pl.map .int)]=some (.list (ws.map wT))
 | 0,pl,ws,hn,e,_=>by cases e
 | n+1,pl,ws,hn,e,hz=>by
  have e0:z2b (n+1) [houseT R os,.int room,.tuple (pl.map .int)]=(z7b (z2b n) [some (.imm (houseT R os)),some (.imm (.int room)),some (.imm (.tuple (pl.map .int))),none,none,none,none]).bind fun o=>match o with|.rt t=>some t|.nx _=>some .none|_=>none:=rfl
  rw[e0]
  unfold Hg.waysP at e
  cases hp:pl.getLast? with
  | none =>
   rw[hp] at e
   cases e
  | some h =>
   rw[hp] at e
   dsimp only at e
   have hi:=zp3 hp
   have c0:tstB (op2 oEq (op2 oIx (nm 2) (op1 oNeg (cst (.int 1)))) (nm 1)) [some (.imm (houseT R os)),some (.imm (.int room)),some (.imm (.tuple (pl.map .int))),none,none,none,none]=some (decide (h=room)):=by
    simp only[tstB,op2,nm,y2j,y2i,y0p,op1,cst,oNeg,oIx,hi,z4i]
   unfold z7b
   by_cases hr:h=room
   ·rw[if_pos hr] at e
    cases e
    simp only[seq,iff,c0,hr,y0p,decide_true,if_true,rtn,z29,z06,args,y1t]
    simp[big,wT]
   ·rw[if_neg hr] at e
    have s1:iff (tstB (op2 oEq (op2 oIx (nm 2) (op1 oNeg (cst (.int 1)))) (nm 1))) (rtn (z29 [(z06 [])])) skip [some (.imm (houseT R os)),some (.imm (.int room)),some (.imm (.tuple (pl.map .int))),none,none,none,none]=some (.nx [some (.imm (houseT R os)),some (.imm (.int room)),some (.imm (.tuple (pl.map .int))),none,none,none,none]):=by
     simp only[iff,c0,hr,y0p,decide_false,y1x,if_false,skip]
    have s2:asgN 3 (z29 []) [some (.imm (houseT R os)),some (.imm (.int room)),some (.imm (.tuple (pl.map .int))),none,none,none,none]=some (.nx (envW (houseT R os) room pl [] none none none)):=by
     simp[asgN,z29,args,big,envW]
    obtain⟨a,b,c,hs⟩:=zpt (rec:=z2b n) (recP:=Hg.waysP (os.map edge) room n) (houseT R os) room pl h hp (by omega) ws.length hz
     (fun t ws' _ h2 h3=>⟨zet n (pl++[t]) ws' (by simp;omega) h2 (by omega),fun w hw=>y1s (ways_lens n _ _ h2 w hw) (by omega)⟩) os 0 [] ws none none none e (by simp)
    have it:z3f (z31 (op2 oIx (nm 0) (cst (.int 1)))) (envW (houseT R os) room pl [] none none none)=some (((os.map opT).zipIdx 0).map fun p=>.tuple [.int p.2,p.1]):=by
     simp[z3f,z31,op2,nm,envW,houseT,cst,oIx,atZ,ixOf,enum]
    have s3:for_ (z3f (z31 (op2 oIx (nm 0) (cst (.int 1))))) (gTu [(gNm 4),(gNm 5)]) (bW (z2b n)) (envW (houseT R os) room pl [] none none none)=some (.nx (envW (houseT R os) room pl ws a b c)):=by
     simp only[for_,it,y0p]
     exact hs
    rw[z17 s1,z17 s2]
    have s4:seq (for_ (z3f (z31 (op2 oIx (nm 0) (cst (.int 1))))) (gTu [(gNm 4),(gNm 5)]) (bW (z2b n))) (rtn (nm 3)) (envW (houseT R os) room pl [] none none none)=some (.rt (.list (ws.map wT))):=by
     rw[z17 s3]
     simp[rtn,nm,envW]
    have s5:=congrArg (fun x:Option Out=>x.bind fun o=>match o with|.rt t=>some t|.nx _=>some .none|_=>none) s4
    exact s5
theorem zu3 {R:Int} {os:List Op} {room:Int} {ws:List (List Nat)} (h:Hg.waysP (os.map edge) room 20 [0]=some ws) (hz:ws.length<=16777216):d_ways [houseT R os,.int room]=some (.tuple (ws.map wT)):=by
 have h1:=zet (R:=R) 20 [0] ws (by decide) h hz
 have e0:d_ways [houseT R os,.int room]=(zjd [some (.imm (houseT R os)),some (.imm (.int room))]).bind fun o=>match o with|.rt t=>some t|.nx _=>some .none|_=>none:=rfl
 rw[e0]
 have a1:args [(nmV 0),(nmV 1),(z06 [(cst (.int 0))])] [some (.imm (houseT R os)),some (.imm (.int room))]=some [houseT R os,.int room,.tuple ([0].map .int)]:=by
  simp[args,nmV,z06,cst,big]
 simp only[zjd,rtn,opN,args] at a1 ⊢
 rw[a1]
 simp only[y0p,h1,y1t,z1k]
end Ho
end
section
namespace Ho
open PySem D
def z0h (ns:List Int):T:=.list (ns.map .int)
theorem zkn (ns:List Int) (k:Nat):z13 [z0h ns,.int k]=some (.int (ns.getD k 0)):=by
 by_cases h:k<ns.length
 ·have h':(k:Int)<(ns.length:Int):=by omega
  simp[z13,z45,z0h,runF,seq,iff,tstB,tstL,andT,orT,notT,cstT,ofT,op1,op2,opN,args,cst,nm,nmV,rtn,skip,asg,asgN,asgT,par,z06,z29,oIsN,z3j,oIx,atZ,ixOf,gNm,gTu,gAll,z0v,comp,z2h,oAdd,oSub,oMul,oDiv,oMod,oNeg,oLen,oMin,oMax,z1k,zrv,oInt,oLt,oLe,oGt,oGe,big,h,h',List.getD]
 ·have h':¬(k:Int)<(ns.length:Int):=by omega
  simp[z13,z45,z0h,runF,seq,iff,tstB,tstL,andT,orT,notT,cstT,ofT,op1,op2,opN,args,cst,nm,nmV,rtn,skip,asg,asgN,asgT,par,z06,z29,oIsN,z3j,oIx,atZ,ixOf,gNm,gTu,gAll,z0v,comp,z2h,oAdd,oSub,oMul,oDiv,oMod,oNeg,oLen,oMin,oMax,z1k,zrv,oInt,oLt,oLe,oGt,oGe,big,h,h',List.getD]
theorem z63 {i j:Int} (h:-(2 ^ 64)<j/\j<2 ^ 64):oMul (.int i) (.int j)=some (.int (i*j)):=by
 unfold oMul zmr
 simp only[decide_eq_true h.1,decide_eq_true h.2,Bool.and_self,Bool.or_true,if_true]
theorem z5m {i j:Int} (h:0<j):oMod (.int i) (.int j)=some (.int (i % j)):=if_pos h
theorem zfs {i j:Int} (h:0<j/\j<1073741824):oDiv (.int i) (.int j)=some (.int (i / j)):=if_pos h
theorem z36 {i j:Int}:oAdd (.int i) (.int j)=some (.int (i+j)):=rfl
theorem ix0 {α:Type} {a:α} {r:List α}:(a::r)[0]?=some a:=rfl
theorem zct (ns:List Int) (k:Nat):∃m:Int,0<=m/\z1e [z0h ns,.int k]=some (.int m):=by
 have hc:=zkn ns k
 have hd:0<=(ns.getD k 0+7919*(k:Int)+1)*48271 % 2147483647/\(ns.getD k 0+7919*(k:Int)+1)*48271 % 2147483647<2147483647:=⟨y2n _ (by decide),y2o _ (by decide)⟩
 generalize hx:(ns.getD k 0+7919*(k:Int)+1)*48271 % 2147483647=d at hd
 refine⟨(d*d+7*d+k) % 2147483629,y2n _ (by decide),?_⟩
 have e0:z1e [z0h ns,.int k]=(z6b [some (.imm (z0h ns)),some (.imm (.int k)),none]).bind fun o=>match o with|.rt t=>some t|.nx _=>some .none|_=>none:=rfl
 have m1:oMul (.int 7919) (.int k)=some (.int (7919*k)):=by
  unfold oMul zmr
  simp
 have n0:nmV 0 [some (.imm (z0h ns)),some (.imm (.int k)),none]=some (z0h ns):=rfl
 have n1:nmV 1 [some (.imm (z0h ns)),some (.imm (.int k)),none]=some (.int k):=rfl
 have n1':nm 1 [some (.imm (z0h ns)),some (.imm (.int k)),none]=some (.int k):=rfl
 have s1:asg 2 (op2 oMod (op2 oMul (op2 oAdd (op2 oAdd (opN z13 [(nmV 0),(nmV 1)]) (op2 oMul (cst (.int 7919)) (nm 1))) (cst (.int 1))) (cst (.int 48271))) (cst (.int 2147483647))) [some (.imm (z0h ns)),some (.imm (.int k)),none]=some (.nx [some (.imm (z0h ns)),some (.imm (.int k)),some (.imm (.int d))]):=by
  simp only[asg,op2,opN,args,n0,n1,n1',y0p,y1t,hc,cst,m1,z36,z63 (i:=ns.getD k 0+7919*(k:Int)+1) (j:=48271) (by decide),z5m (j:=2147483647) (by decide),hx]
  rfl
 have m2:oMul (.int d) (.int d)=some (.int (d*d)):=z63 (by omega)
 have m3:oMul (.int 7) (.int d)=some (.int (7*d)):=z63 (by omega)
 rw[e0]
 unfold z6b
 rw[z17 s1]
 have q2:nm 2 [some (.imm (z0h ns)),some (.imm (.int k)),some (.imm (.int d))]=some (.int d):=rfl
 have q1:nm 1 [some (.imm (z0h ns)),some (.imm (.int k)),some (.imm (.int d))]=some (.int k):=rfl
 simp only[rtn,op2,q2,q1,y0p,y1t,cst,m2,m3,z36,z5m (j:=2147483629) (by decide)]
theorem z96 (n k:Int) (hk:-(2 ^ 64)<k/\k<2 ^ 64):∃m:Int,0<=m/\z0p [.int n,.int k]=some (.int m):=by
 have hd:0<=(n+104729*k+17)*69621 % 2147483647/\(n+104729*k+17)*69621 % 2147483647<2147483647:=⟨y2n _ (by decide),y2o _ (by decide)⟩
 generalize hx:(n+104729*k+17)*69621 % 2147483647=d at hd
 refine⟨(d*d+3*d+k) % 2147483629,y2n _ (by decide),?_⟩
 have e0:z0p [.int n,.int k]=(z6c [some (.imm (.int n)),some (.imm (.int k)),none]).bind fun o=>match o with|.rt t=>some t|.nx _=>some .none|_=>none:=rfl
 have m1:oMul (.int 104729) (.int k)=some (.int (104729*k)):=z63 hk
 have n0:nm 0 [some (.imm (.int n)),some (.imm (.int k)),none]=some (.int n):=rfl
 have n1:nm 1 [some (.imm (.int n)),some (.imm (.int k)),none]=some (.int k):=rfl
 have s1:asg 2 (op2 oMod (op2 oMul (op2 oAdd (op2 oAdd (nm 0) (op2 oMul (cst (.int 104729)) (nm 1))) (cst (.int 17))) (cst (.int 69621))) (cst (.int 2147483647))) [some (.imm (.int n)),some (.imm (.int k)),none]=some (.nx [some (.imm (.int n)),some (.imm (.int k)),some (.imm (.int d))]):=by
  simp only[asg,op2,n0,n1,y0p,y1t,cst,m1,z36,z63 (i:=n+104729*k+17) (j:=69621) (by decide),z5m (j:=2147483647) (by decide),hx]
  rfl
 have m2:oMul (.int d) (.int d)=some (.int (d*d)):=z63 (by omega)
 have m3:oMul (.int 3) (.int d)=some (.int (3*d)):=z63 (by omega)
 rw[e0]
 unfold z6c
 rw[z17 s1]
 have q2:nm 2 [some (.imm (.int n)),some (.imm (.int k)),some (.imm (.int d))]=some (.int d):=rfl
 have q1:nm 1 [some (.imm (.int n)),some (.imm (.int k)),some (.imm (.int d))]=some (.int k):=rfl
 simp only[rtn,op2,q2,q1,y0p,y1t,cst,m2,m3,z36,z5m (j:=2147483629) (by decide)]
def names5:List Str:=["a","b","back","hall","win"]
noncomputable def OpOk (R:Int) (o:Op):Prop:=0<=o.1/\o.1<o.2.1/\o.2.1<=R/\∀x,o.2.2=some x->x∈names5
structure Drawn (R:Int) (os:List Op):Prop where
 r1:1<=R
 r7:R<=7
 len:os.length<=10
 ok:∀o∈os,OpOk R o
noncomputable def bH:Fs:=(seq (asg 4 (op2 oDiv (opN z0p [(nmV 0),(op2 oAdd (cst (.int 50)) (nm 3))]) (cst (.int 4))))
  (seq (asg 5 (op2 oMod (nm 4) (op2 oAdd (nm 1) (cst (.int 1)))))
  (seq (asg 6 (op2 oMod (op2 oAdd (op2 oAdd (nm 5) (cst (.int 1))) (op2 oMod (op2 oDiv (nm 4) (cst (.int 8))) (nm 1))) (op2 oAdd (nm 1) (cst (.int 1)))))
  (seq (asg 7 (op2 oIx (z06 [(cst .none),(cst .none),(cst (.str "a")),(cst (.str "b")),(cst (.str "back")),(cst (.str "hall")),(cst (.str "win"))]) (op2 oMod (op2 oDiv (nm 4) (cst (.int 64))) (cst (.int 7)))))
  (asg 2 (op2 oAdd (nm 2) (z06 [(z06 [(opN oMin [(nm 5),(nm 6)]),(opN oMax [(nm 5),(nm 6)]),(nmV 7)])])))))))
noncomputable def envH (n R:Int) (os:List Op) (j3 j4 j5 j6 j7:Option Sl):Ev:=[some (.imm (.int n)),some (.imm (.int R)),some (.imm (.tuple (os.map opT))),j3,j4,j5,j6,j7]
theorem zu1 (i:Int) (h0:0<=i) (h7:i<7) (ε:Ev):∃z:Option Str,(z06 [(cst .none),(cst .none),(cst (.str "a")),(cst (.str "b")),(cst (.str "back")),(cst (.str "hall")),(cst (.str "win"))] ε).bind (fun t=>oIx t (.int i))=some (zT z)/\∀x,z=some x->x∈names5:=by
 have hc:i=0\/i=1\/i=2\/i=3\/i=4\/i=5\/i=6:=by omega
 have e:z06 [(cst .none),(cst .none),(cst (.str "a")),(cst (.str "b")),(cst (.str "back")),(cst (.str "hall")),(cst (.str "win"))] ε=some (.tuple [.none,.none,.str "a",.str "b",.str "back",.str "hall",.str "win"]):=by
  simp[z06,args,cst,big]
 rw[e]
 rcases hc with rfl|rfl|rfl|rfl|rfl|rfl|rfl
 ·exact⟨none,rfl,fun x h=>by cases h⟩
 ·exact⟨none,rfl,fun x h=>by cases h⟩
 ·exact⟨some "a",rfl,fun x h=>by cases h;simp[names5]⟩
 ·exact⟨some "b",rfl,fun x h=>by cases h;simp[names5]⟩
 ·exact⟨some "back",rfl,fun x h=>by cases h;simp[names5]⟩
 ·exact⟨some "hall",rfl,fun x h=>by cases h;simp[names5]⟩
 ·exact⟨some "win",rfl,fun x h=>by cases h;simp[names5]⟩
theorem zn1 (n R:Int) (h1:1<=R) (h7:R<=7) (os:List Op) (hl:os.length<1000) (k:Int) (hk:0<=k/\k<1000) (j4 j5 j6 j7:Option Sl) :
  ∃o j4' j5' j6' j7',OpOk R o/\bH (envH n R os (some (.imm (.int k))) j4 j5 j6 j7)=some (.nx (envH n R (os++[o]) (some (.imm (.int k))) j4' j5' j6' j7')):=by
 obtain⟨m,hm,hd⟩:=z96 n (50+k) (by omega)
 have q0:0<=m / 4:=Int.ediv_nonneg hm (by decide)
 generalize hq:m / 4=q at q0
 have s1:asg 4 (op2 oDiv (opN z0p [(nmV 0),(op2 oAdd (cst (.int 50)) (nm 3))]) (cst (.int 4))) (envH n R os (some (.imm (.int k))) j4 j5 j6 j7)=some (.nx (envH n R os (some (.imm (.int k))) (some (.imm (.int q))) j5 j6 j7)):=by
  have n0:nmV 0 (envH n R os (some (.imm (.int k))) j4 j5 j6 j7)=some (.int n):=rfl
  have n3:nm 3 (envH n R os (some (.imm (.int k))) j4 j5 j6 j7)=some (.int k):=rfl
  simp only[asg,op2,opN,args,n0,n3,cst,z36,y0p,y1t,hd,zfs (j:=4) (by decide),hq]
  rfl
 have hone:0<=q % (R+1)/\q % (R+1)<R+1:=⟨y2n _ (by omega),y2o _ (by omega)⟩
 have hother:0<=q / 8 % R/\q / 8 % R<R:=⟨y2n _ (by omega),y2o _ (by omega)⟩
 have hneq:(q % (R+1)+1+q / 8 % R) % (R+1)≠q % (R+1):=by
  generalize q % (R+1)=a at *
  generalize q / 8 % R=b at *
  intro e
  by_cases c:a+1+b<R+1
  ·rw[Int.emod_eq_of_lt (by omega) c] at e
   omega
  ·have:(a+1+b) % (R+1)=a+1+b - (R+1):=by
    rw[<- Int.sub_emod_right,Int.emod_eq_of_lt (by omega) (by omega)]
   omega
 have hoth:0<=(q % (R+1)+1+q / 8 % R) % (R+1)/\(q % (R+1)+1+q / 8 % R) % (R+1)<R+1:=⟨y2n _ (by omega),y2o _ (by omega)⟩
 have s2:asg 5 (op2 oMod (nm 4) (op2 oAdd (nm 1) (cst (.int 1)))) (envH n R os (some (.imm (.int k))) (some (.imm (.int q))) j5 j6 j7)=some (.nx (envH n R os (some (.imm (.int k))) (some (.imm (.int q))) (some (.imm (.int (q % (R+1))))) j6 j7)):=by
  have n4:nm 4 (envH n R os (some (.imm (.int k))) (some (.imm (.int q))) j5 j6 j7)=some (.int q):=rfl
  have n1:nm 1 (envH n R os (some (.imm (.int k))) (some (.imm (.int q))) j5 j6 j7)=some (.int R):=rfl
  simp only[asg,op2,n4,n1,cst,z36,y0p,y1t,z5m (j:=R+1) (by omega)]
  rfl
 generalize q % (R+1)=one at *
 have s3:asg 6 (op2 oMod (op2 oAdd (op2 oAdd (nm 5) (cst (.int 1))) (op2 oMod (op2 oDiv (nm 4) (cst (.int 8))) (nm 1))) (op2 oAdd (nm 1) (cst (.int 1)))) (envH n R os (some (.imm (.int k))) (some (.imm (.int q))) (some (.imm (.int one))) j6 j7)=some (.nx (envH n R os (some (.imm (.int k))) (some (.imm (.int q))) (some (.imm (.int one))) (some (.imm (.int ((one+1+q / 8 % R) % (R+1))))) j7)):=by
  have n5:nm 5 (envH n R os (some (.imm (.int k))) (some (.imm (.int q))) (some (.imm (.int one))) j6 j7)=some (.int one):=rfl
  have n4:nm 4 (envH n R os (some (.imm (.int k))) (some (.imm (.int q))) (some (.imm (.int one))) j6 j7)=some (.int q):=rfl
  have n1:nm 1 (envH n R os (some (.imm (.int k))) (some (.imm (.int q))) (some (.imm (.int one))) j6 j7)=some (.int R):=rfl
  simp only[asg,op2,n5,n4,n1,cst,z36,y0p,y1t,zfs (j:=8) (by decide),z5m (j:=R) (by omega),z5m (j:=R+1) (by omega)]
  rfl
 generalize (one+1+q / 8 % R) % (R+1)=oth at *
 obtain⟨z,hz,hzn⟩:=zu1 (q / 64 % 7) (y2n _ (by decide)) (y2o _ (by decide)) (envH n R os (some (.imm (.int k))) (some (.imm (.int q))) (some (.imm (.int one))) (some (.imm (.int oth))) j7)
 have s4:asg 7 (op2 oIx (z06 [(cst .none),(cst .none),(cst (.str "a")),(cst (.str "b")),(cst (.str "back")),(cst (.str "hall")),(cst (.str "win"))]) (op2 oMod (op2 oDiv (nm 4) (cst (.int 64))) (cst (.int 7)))) (envH n R os (some (.imm (.int k))) (some (.imm (.int q))) (some (.imm (.int one))) (some (.imm (.int oth))) j7)=some (.nx (envH n R os (some (.imm (.int k))) (some (.imm (.int q))) (some (.imm (.int one))) (some (.imm (.int oth))) (some (.imm (zT z))))):=by
  have n4:nm 4 (envH n R os (some (.imm (.int k))) (some (.imm (.int q))) (some (.imm (.int one))) (some (.imm (.int oth))) j7)=some (.int q):=rfl
  have hi:op2 oMod (op2 oDiv (nm 4) (cst (.int 64))) (cst (.int 7)) (envH n R os (some (.imm (.int k))) (some (.imm (.int q))) (some (.imm (.int one))) (some (.imm (.int oth))) j7)=some (.int (q / 64 % 7)):=by
   simp only[op2,n4,cst,y0p,zfs (j:=64) (by decide),z5m (j:=7) (by decide)]
  have hh:op2 oIx (z06 [(cst .none),(cst .none),(cst (.str "a")),(cst (.str "b")),(cst (.str "back")),(cst (.str "hall")),(cst (.str "win"))]) (op2 oMod (op2 oDiv (nm 4) (cst (.int 64))) (cst (.int 7))) (envH n R os (some (.imm (.int k))) (some (.imm (.int q))) (some (.imm (.int one))) (some (.imm (.int oth))) j7)=some (zT z):=by
   rw[<- hz]
   unfold op2 at hi ⊢
   simp only[hi,y0p]
  simp only[asg,hh,y1t]
  rfl
 refine⟨((if oth<one then oth else one),(if oth > one then oth else one),z),some (.imm (.int q)),some (.imm (.int one)),some (.imm (.int oth)),some (.imm (zT z)),⟨?_,?_,?_,hzn⟩,?_⟩
 ·dsimp only
  split <;> omega
 ·dsimp only
  split <;> split <;> omega
 ·dsimp only
  split <;> omega
 ·have s5:asg 2 (op2 oAdd (nm 2) (z06 [(z06 [(opN oMin [(nm 5),(nm 6)]),(opN oMax [(nm 5),(nm 6)]),(nmV 7)])])) (envH n R os (some (.imm (.int k))) (some (.imm (.int q))) (some (.imm (.int one))) (some (.imm (.int oth))) (some (.imm (zT z))))=some (.nx (envH n R (os++[((if oth<one then oth else one),(if oth > one then oth else one),z)]) (some (.imm (.int k))) (some (.imm (.int q))) (some (.imm (.int one))) (some (.imm (.int oth))) (some (.imm (zT z))))):=by
   have n5:nm 5 (envH n R os (some (.imm (.int k))) (some (.imm (.int q))) (some (.imm (.int one))) (some (.imm (.int oth))) (some (.imm (zT z))))=some (.int one):=rfl
   have n6:nm 6 (envH n R os (some (.imm (.int k))) (some (.imm (.int q))) (some (.imm (.int one))) (some (.imm (.int oth))) (some (.imm (zT z))))=some (.int oth):=rfl
   have n7:nmV 7 (envH n R os (some (.imm (.int k))) (some (.imm (.int q))) (some (.imm (.int one))) (some (.imm (.int oth))) (some (.imm (zT z))))=some (zT z):=rfl
   have n2:nm 2 (envH n R os (some (.imm (.int k))) (some (.imm (.int q))) (some (.imm (.int one))) (some (.imm (.int oth))) (some (.imm (zT z))))=some (.tuple (os.map opT)):=rfl
   have hb:(os.map opT).length+1<=16777216:=by simp;omega
   simp only[asg,op2,opN,z06,args,n5,n6,n7,n2,y0p,y1t,oMin,oMax,oAdd,y0w,y2l,big]
   simp[hb,envH,opT]
   omega
  unfold bH
  rw[z17 s1,z17 s2,z17 s3,z17 s4,s5]
theorem zfn (n R:Int) (h1:1<=R) (h7:R<=7):∀(ks:List Int) (os:List Op) (j3 j4 j5 j6 j7:Option Sl),(∀k∈ks,0<=k/\k<1000)->os.length+ks.length<1000->(∀o∈os,OpOk R o) ->
  ∃os' j3' j4' j5' j6' j7',os'.length=os.length+ks.length/\(∀o∈os',OpOk R o)/\forL (gNm 3) bH (ks.map .int) (envH n R os j3 j4 j5 j6 j7)=some (.nx (envH n R os' j3' j4' j5' j6' j7'))
 | [],os,j3,j4,j5,j6,j7,_,_,ho=>⟨os,j3,j4,j5,j6,j7,rfl,ho,rfl⟩
 | k::ks,os,j3,j4,j5,j6,j7,hk,hl,ho=>by
  simp only[y0w] at hl
  obtain⟨o,a4,a5,a6,a7,oo,hs⟩:=zn1 n R h1 h7 os (by omega) k (hk k (by simp)) j4 j5 j6 j7
  obtain⟨os',b3,b4,b5,b6,b7,e1,e2,e3⟩:=zfn n R h1 h7 ks (os++[o]) (some (.imm (.int k))) a4 a5 a6 a7 (fun k' h=>hk k' (by simp[h])) (by simp;omega) fun o' h=>by
   rcases y11.mp h with q|q
   ·exact ho o' q
   ·simp at q
    subst q
    exact oo
  refine⟨os',b3,b4,b5,b6,b7,by rw[e1];simp;omega,e2,?_⟩
  have e0:gNm 3 (.int k) (envH n R os j3 j4 j5 j6 j7)=some (envH n R os (some (.imm (.int k))) j4 j5 j6 j7):=rfl
  simp only[y0e,forL,e0,y0p,hs,e3]
theorem house_eq (n:Int) (hn:0<=n):∃R os,Drawn R os/\d_l_house [.int n]=some (houseT R os):=by
 have hR:0<=n % 7/\n % 7<7:=⟨y2n _ (by decide),y2o _ (by decide)⟩
 have hN:0<=n / 8 % 11/\n / 8 % 11<11:=⟨y2n _ (by decide),y2o _ (by decide)⟩
 have s1:asg 1 (op2 oAdd (cst (.int 1)) (op2 oMod (nm 0) (cst (.int 7)))) [some (.imm (.int n)),none,none,none,none,none,none,none]=some (.nx [some (.imm (.int n)),some (.imm (.int (1+n % 7))),none,none,none,none,none,none]):=by
  have n0:nm 0 [some (.imm (.int n)),none,none,none,none,none,none,none]=some (.int n):=rfl
  simp only[asg,op2,n0,cst,y0p,y1t,z5m (j:=7) (by decide),z36]
  rfl
 have s2:asg 2 (z06 []) [some (.imm (.int n)),some (.imm (.int (1+n % 7))),none,none,none,none,none,none]=some (.nx (envH n (1+n % 7) [] none none none none none)):=by
  simp[asg,z06,args,big,envH]
 have hit:z2w (op2 oMod (op2 oDiv (nm 0) (cst (.int 8))) (cst (.int 11))) (envH n (1+n % 7) [] none none none none none)=some (((List.range (n / 8 % 11).toNat).map fun (k:Nat)=>(k:Int)).map .int):=by
  have n0:nm 0 (envH n (1+n % 7) [] none none none none none)=some (.int n):=rfl
  have hs:z6w (n / 8 % 11)=true:=by
   unfold z6w
   simp
   omega
  simp only[z2w,op2,n0,cst,y0p,zfs (j:=8) (by decide),z5m (j:=11) (by decide),hs,if_true,rng,Int.sub_zero,Int.zero_add,y2s,y17]
 obtain⟨os,b3,b4,b5,b6,b7,e1,e2,e3⟩:=zfn n (1+n % 7) (by omega) (by omega) ((List.range (n / 8 % 11).toNat).map fun (k:Nat)=>(k:Int)) [] none none none none none (fun k hk=>by
  obtain⟨j,hj,rfl⟩:=y0m.mp hk
  have:=List.mem_range.mp hj
  omega) (by simp;omega) (by simp)
 simp only[y2l,y14,List.length_range] at e1
 refine⟨1+n % 7,os,⟨by omega,by omega,by omega,e2⟩,?_⟩
 have s3:for_ (z2w (op2 oMod (op2 oDiv (nm 0) (cst (.int 8))) (cst (.int 11)))) (gNm 3) bH (envH n (1+n % 7) [] none none none none none)=some (.nx (envH n (1+n % 7) os b3 b4 b5 b6 b7)):=by
  simp only[for_,hit,y0p]
  exact e3
 have s4:seq (for_ (z2w (op2 oMod (op2 oDiv (nm 0) (cst (.int 8))) (cst (.int 11)))) (gNm 3) bH) (rtn (z06 [(nmV 1),(nmV 2)])) (envH n (1+n % 7) [] none none none none none)=some (.rt (houseT (1+n % 7) os)):=by
  rw[z17 s3]
  simp[rtn,z06,args,nmV,envH,big,houseT]
 have e0:d_l_house [.int n]=(z8t [some (.imm (.int n)),none,none,none,none,none,none,none]).bind fun o=>match o with|.rt t=>some t|.nx _=>some .none|_=>none:=rfl
 rw[e0]
 unfold z8t
 rw[z17 s1,z17 s2]
 exact congrArg (fun x:Option Out=>x.bind fun o=>match o with|.rt t=>some t|.nx _=>some .none|_=>none) s4
end Ho
end
section
namespace Ho
open PySem D
local instance:Tbl:=⟨[],fun _=>[],fun _=>none⟩
theorem zm4 {R:Int} {os:List Op} (d:Drawn R os):Hg.Within R (os.map edge):=fun e he=>by
 obtain⟨o,ho,rfl⟩:=y0m.mp he
 have:=d.ok o ho
 unfold OpOk at this
 unfold edge
 dsimp only
 omega
theorem ways_val {R:Int} {os:List Op} (d:Drawn R os) (room:Int):∃ws,Hg.waysP (os.map edge) room 20 [0]=some ws/\d_ways [houseT R os,.int room]=some (.tuple (ws.map wT))/\(ws≠[] <-> Hg.Reach (os.map edge) room):=by
 obtain⟨ws,h1,h2⟩:=Hg.ways_tot (zm4 d) d.r7 (by simpa using d.len) room 20 [0] (by simp) (by simp) (by have:=d.r1;simp;omega) (by simp)
 exact⟨ws,h1,zu3 h1 (y1s h2 (by simp)),Hg.ways_iff h1⟩
noncomputable def bare (ns:List Str) (o:Op):Op:=(o.1,o.2.1,match o.2.2 with
 | none=>none
 | some x=>if x∈ns then none else some x)
end Ho
end
section
namespace Hg
noncomputable def Fol (E:List (Int×Int)):Int->List Nat->List Int->Prop
 | _,[],p=>p=[]
 | cur,k::w,p=>∃e t q,E[k]?=some e/\adj e cur=some t/\p=t::q/\Fol E t w q
theorem zlu {rec:List Int->Option (List (List Nat))} {pl:List Int} {h:Int}:∀{E:List (Int×Int)} {k:Nat} {ws:List (List Nat)},exts rec pl h k E=some ws->∀w,w∈ws <-> ∃j e t us w',E[j]?=some e/\adj e h=some t/\t∉pl/\rec (pl++[t])=some us/\w'∈us/\w=(k+j)::w'
 | [],k,ws,e,w=>by
  cases e
  simp
 | e::es,k,ws,h1,w=>by
  have sh:∀{vs:List (List Nat)},exts rec pl h (k+1) es=some vs->(w∈vs <-> ∃j e' t us w',(e::es)[j+1]?=some e'/\adj e' h=some t/\t∉pl/\rec (pl++[t])=some us/\w'∈us/\w=(k+(j+1))::w'):=fun hv=>by
   rw[zlu hv w]
   constructor
   ·rintro⟨j,e',t,us,w',a1,a2,a3,a4,a5,a6⟩
    exact⟨j,e',t,us,w',by simpa using a1,a2,a3,a4,a5,by rw[a6];congr 1;omega⟩
   ·rintro⟨j,e',t,us,w',a1,a2,a3,a4,a5,a6⟩
    exact⟨j,e',t,us,w',by simpa using a1,a2,a3,a4,a5,by rw[a6];congr 1;omega⟩
  unfold exts at h1
  split at h1
  next t ht =>
   split at h1
   next hm =>
    rw[sh h1]
    constructor
    ·rintro⟨j,r⟩
     exact⟨j+1,r⟩
    ·rintro⟨j,e',t',us,w',a1,a2,a3,r⟩
     cases j with
     | zero =>
      cases a1
      rw[ht] at a2
      cases a2
      exact absurd hm a3
     | succ j=>exact⟨j,e',t',us,w',a1,a2,a3,r⟩
   next hm =>
    simp only[y01,y07] at h1
    obtain⟨us,h2,vs,h3,rfl⟩:=h1
    rw[y11,sh h3,y0m]
    constructor
    ·rintro (⟨w',q1,q2⟩|⟨j,r⟩)
     ·exact⟨0,e,t,us,w',rfl,ht,hm,h2,q1,by rw[<- q2];rfl⟩
     ·exact⟨j+1,r⟩
    ·rintro⟨j,e',t',us',w',a1,a2,a3,a4,a5,a6⟩
     cases j with
     | zero =>
      cases a1
      rw[ht] at a2
      cases a2
      rw[h2] at a4
      cases a4
      exact .inl ⟨w',a5,a6.symm⟩
     | succ j=>exact .inr ⟨j,e',t',us',w',a1,a2,a3,a4,a5,a6⟩
  next hn =>
   rw[sh h1]
   constructor
   ·rintro⟨j,r⟩
    exact⟨j+1,r⟩
   ·rintro⟨j,e',t',us,w',a1,a2,a3,r⟩
    cases j with
    | zero =>
     cases a1
     rw[hn] at a2
     cases a2
    | succ j=>exact⟨j,e',t',us,w',a1,a2,a3,r⟩
theorem zsd {rec:List Int->Option (List (List Nat))} {pl:List Int} {h:Int} {E:List (Int×Int)} {k:Nat} {ws:List (List Nat)} (e:exts rec pl h k E=some ws) {j:Nat} {e':Int×Int} {t:Int} (h1:E[j]?=some e') (h2:adj e' h=some t) (h3:t∉pl):∃vs,rec (pl++[t])=some vs:=by
 obtain⟨vs,hv,_⟩:=z8j e t ⟨e',y1y h1,h2⟩ h3
 exact⟨vs,hv⟩
theorem zg2 {E:List (Int×Int)} {room:Int}:∀{n:Nat} {pl:List Int} {cur:Int} {ws:List (List Nat)},pl.getLast?=some cur->waysP E room n pl=some ws->∀w,w∈ws <-> ∃p,Fol E cur w p/\p.Nodup/\(∀y∈p,y∉pl)/\(cur::p).getLast?=some room
 | 0,pl,cur,ws,_,h,_=>by cases h
 | n+1,pl,cur,ws,hl,h,w=>by
  have hcur:cur∈pl:=List.mem_of_getLast? hl
  unfold waysP at h
  rw[hl] at h
  simp only at h
  split at h
  next e =>
   subst e
   cases h
   constructor
   ·intro hw
    have:w=[]:=by simpa using hw
    subst this
    exact⟨[],rfl,by simp,by simp,rfl⟩
   ·rintro⟨p,h1,h2,h3,h4⟩
    cases w with
    | nil=>simp
    | cons k w =>
     obtain⟨e',t,q,_,_,rfl,_⟩:=h1
     have hm:cur∈t::q:=by
      rw[List.getLast?_cons_cons] at h4
      exact List.mem_of_getLast? h4
     exact absurd hcur (h3 cur hm)
  next hne =>
   rw[zlu h w]
   constructor
   ·rintro⟨j,e',t,us,w',a1,a2,a3,a4,a5,a6⟩
    obtain⟨p,p1,p2,p3,p4⟩:=(zg2 (pl:=pl++[t]) (cur:=t) (by simp) a4 w').mp a5
    refine⟨t::p,?_,?_,?_,by rw[List.getLast?_cons_cons];exact p4⟩
    ·rw[a6]
     exact⟨e',t,p,by simpa using a1,a2,rfl,p1⟩
    ·exact y0r.mpr ⟨fun z=>p3 t z (by simp),p2⟩
    ·intro y hy
     rcases y09.mp hy with rfl|hy
     ·exact a3
     ·exact fun z=>p3 y hy (by simp[z])
   ·rintro⟨p,h1,h2,h3,h4⟩
    cases w with
    | nil =>
     have:p=[]:=h1
     subst this
     simp at h4
     exact absurd h4 hne
    | cons k w =>
     obtain⟨e',t,q,b1,b2,rfl,b3⟩:=h1
     have ht:t∉pl:=h3 t (by simp)
     obtain⟨us,hu⟩:=zsd h b1 b2 ht
     have nd:=y0r.mp h2
     refine⟨k,e',t,us,w,b1,b2,ht,hu,?_,by simp⟩
     refine (zg2 (pl:=pl++[t]) (cur:=t) (by simp) hu w).mpr ⟨q,b3,nd.2,fun y hy z=>?_,by rw[List.getLast?_cons_cons] at h4;exact h4⟩
     rcases y11.mp z with z|z
     ·exact h3 y (by simp[hy]) z
     ·have:y=t:=by simpa using z
      subst this
      exact nd.1 hy
theorem ways_char {E:List (Int×Int)} {room:Int} {n:Nat} {ws:List (List Nat)} (h:waysP E room n [0]=some ws) (w:List Nat):w∈ws <-> ∃p,Fol E 0 w p/\((0:Int)::p).Nodup/\((0:Int)::p).getLast?=some room:=by
 rw[zg2 (cur:=0) rfl h w]
 constructor
 ·rintro⟨p,h1,h2,h3,h4⟩
  exact⟨p,h1,y0r.mpr ⟨fun z=>h3 0 z (by simp),h2⟩,h4⟩
 ·rintro⟨p,h1,h2,h4⟩
  have nd:=y0r.mp h2
  exact⟨p,h1,nd.2,fun y hy z=>nd.1 (by have:y=0:=(by simpa using z);exact this▸hy),h4⟩
end Hg
end
section
namespace Co
open D PySem
structure Cd where
 fig:Str
 who:Str
 rights:List Str
 uses:Int
structure Pl where
 zones:List (Str×Str)
 codes:List Cd
 leave:Int
 come:Int
 loud:Int
structure Cs where
 mode:Str
 left:Int
 came:Option Str
 lines:List (Str×Str)
 shunts:List Str
 siren:Int
 alarms:List Str
 tries:Int
 locked:Int
 used:List (Str×Int)
 past:Int
 told:List (Int×Str×Option Str)
def oS:Option Str->T
 | none=>.none
 | some x=>.str x
def encZ (z:Str×Str):T:=.tuple [.str z.1,.str z.2]
def z1r (c:Cd):T:=.tuple [.str c.fig,.str c.who,.tuple (c.rights.map .str),.int c.uses]
noncomputable def encP (p:Pl):T:=.tuple [.tuple (p.zones.map encZ),.tuple (p.codes.map z1r),.tuple [.int p.leave,.int p.come,.int p.loud]]
def encW (w:Int×Str×Option Str):T:=.tuple [.int w.1,.str w.2.1,oS w.2.2]
def dS (l:List (Str×Str)):List (D.Key×T):=l.map fun p=>(.inr p.1,.str p.2)
def dI (l:List (Str×Int)):List (D.Key×T):=l.map fun p=>(.inr p.1,.int p.2)
noncomputable def encC (p:Pl) (c:Cs):List Sl:=[.imm (encP p),.imm (.str c.mode),.imm (.int c.left),.imm (oS c.came),.dic (dS c.lines),.own (c.shunts.map .str),.imm (.int c.siren),.own (c.alarms.map .str),.imm (.int c.tries),.imm (.int c.locked),.dic (dI c.used),.imm (.int c.past),.own (c.told.map encW)]
theorem zax:¬(("off":Str)="leaving"):=by decide +kernel
theorem zlm:¬(("off":Str)="on"):=by decide +kernel
theorem z6s:¬(("off":Str)="coming"):=by decide +kernel
theorem zay:¬(("leaving":Str)="off"):=by decide +kernel
theorem zc9:¬(("leaving":Str)="on"):=by decide +kernel
theorem z5c:¬(("leaving":Str)="coming"):=by decide +kernel
theorem zll:¬(("on":Str)="off"):=by decide +kernel
theorem zc7:¬(("on":Str)="leaving"):=by decide +kernel
theorem z7q:¬(("on":Str)="coming"):=by decide +kernel
theorem zcb:¬(("coming":Str)="off"):=by decide +kernel
theorem z81:¬(("coming":Str)="leaving"):=by decide +kernel
theorem zdq:¬(("coming":Str)="on"):=by decide +kernel
theorem zdj:¬(("shut":Str)="open"):=by decide +kernel
theorem zfb:¬(("shut":Str)="cut"):=by decide +kernel
theorem zdl:¬(("open":Str)="shut"):=by decide +kernel
theorem zfc:¬(("open":Str)="cut"):=by decide +kernel
theorem zfg:¬(("cut":Str)="shut"):=by decide +kernel
theorem zfh:¬(("cut":Str)="open"):=by decide +kernel
theorem zdp:¬(("day":Str)="inner"):=by decide +kernel
theorem zff:¬(("day":Str)="once"):=by decide +kernel
theorem zic:¬(("day":Str)="way"):=by decide +kernel
theorem zdo:¬(("inner":Str)="day"):=by decide +kernel
theorem zca:¬(("inner":Str)="once"):=by decide +kernel
theorem zdn:¬(("inner":Str)="way"):=by decide +kernel
theorem zfe:¬(("once":Str)="day"):=by decide +kernel
theorem zc6:¬(("once":Str)="inner"):=by decide +kernel
theorem zfd:¬(("once":Str)="way"):=by decide +kernel
theorem zib:¬(("way":Str)="day"):=by decide +kernel
theorem zdi:¬(("way":Str)="inner"):=by decide +kernel
theorem zfa:¬(("way":Str)="once"):=by decide +kernel
theorem zdk:¬(("set":Str)="unset"):=by decide +kernel
theorem za1:¬(("set":Str)="shunt"):=by decide +kernel
theorem z92:¬(("set":Str)="free"):=by decide +kernel
theorem z7o:¬(("unset":Str)="set"):=by decide +kernel
theorem z7n:¬(("unset":Str)="shunt"):=by decide +kernel
theorem z6r:¬(("unset":Str)="free"):=by decide +kernel
theorem z7p:¬(("shunt":Str)="set"):=by decide +kernel
theorem z4j:¬(("shunt":Str)="unset"):=by decide +kernel
theorem zc5:¬(("shunt":Str)="free"):=by decide +kernel
theorem z93:¬(("free":Str)="set"):=by decide +kernel
theorem z55:¬(("free":Str)="unset"):=by decide +kernel
theorem z56:¬(("free":Str)="shunt"):=by decide +kernel
theorem zdm:¬(("line":Str)="code"):=by decide +kernel
theorem zc8:¬(("line":Str)="ticks"):=by decide +kernel
theorem zdr:¬(("code":Str)="line"):=by decide +kernel
theorem zcc:¬(("code":Str)="ticks"):=by decide +kernel
theorem zc3:¬(("ticks":Str)="line"):=by decide +kernel
theorem zc4:¬(("ticks":Str)="code"):=by decide +kernel
def tell (w:Str) (n:Option Str) (c:Cs):Cs:={ c with told:=c.told++[(c.past,w,n)] }
def beLoud (p:Pl) (c:Cs):Cs:={ c with siren:=p.loud }
noncomputable def alarm (p:Pl) (z:Str) (c:Cs):Cs:=if z∈c.alarms then beLoud p c else tell "alarm" (some z) { beLoud p c with alarms:=c.alarms++[z] }
section
variable (p:Pl) (c:Cs)
theorem zsg:(encC p c).length=13:=rfl
theorem e0:(encC p c)[0]?=some (.imm (encP p)):=rfl
theorem e1:(encC p c)[1]?=some (.imm (.str c.mode)):=rfl
theorem e2:(encC p c)[2]?=some (.imm (.int c.left)):=rfl
theorem e3:(encC p c)[3]?=some (.imm (oS c.came)):=rfl
theorem e4:(encC p c)[4]?=some (.dic (dS c.lines)):=rfl
theorem e5:(encC p c)[5]?=some (.own (c.shunts.map .str)):=rfl
theorem e6:(encC p c)[6]?=some (.imm (.int c.siren)):=rfl
theorem e7:(encC p c)[7]?=some (.own (c.alarms.map .str)):=rfl
theorem e8:(encC p c)[8]?=some (.imm (.int c.tries)):=rfl
theorem e9:(encC p c)[9]?=some (.imm (.int c.locked)):=rfl
theorem e10:(encC p c)[10]?=some (.dic (dI c.used)):=rfl
theorem e11:(encC p c)[11]?=some (.imm (.int c.past)):=rfl
theorem e12:(encC p c)[12]?=some (.own (c.told.map encW)):=rfl
theorem s1 (x:Str):(encC p c).set 1 (.imm (.str x))=encC p { c with mode:=x }:=rfl
theorem s2 (x:Int):(encC p c).set 2 (.imm (.int x))=encC p { c with left:=x }:=rfl
theorem s3 (x:Str):(encC p c).set 3 (.imm (.str x))=encC p { c with came:=some x }:=rfl
theorem s3n:(encC p c).set 3 (.imm .none)=encC p { c with came:=none }:=rfl
theorem s4 (l:List (Str×Str)):(encC p c).set 4 (.dic (dS l))=encC p { c with lines:=l }:=rfl
theorem s5 (l:List Str):(encC p c).set 5 (.own (l.map .str))=encC p { c with shunts:=l }:=rfl
theorem s5n:(encC p c).set 5 (.own [])=encC p { c with shunts:=[] }:=rfl
theorem s6 (x:Int):(encC p c).set 6 (.imm (.int x))=encC p { c with siren:=x }:=rfl
theorem s7 (l:List Str):(encC p c).set 7 (.own (l.map .str))=encC p { c with alarms:=l }:=rfl
theorem s7n:(encC p c).set 7 (.own [])=encC p { c with alarms:=[] }:=rfl
theorem s7a (l:List Str) (z:Str):(encC p c).set 7 (.own (l.map .str++[.str z]))=encC p { c with alarms:=l++[z] }:=by simp[encC]
theorem s8 (x:Int):(encC p c).set 8 (.imm (.int x))=encC p { c with tries:=x }:=rfl
theorem s9 (x:Int):(encC p c).set 9 (.imm (.int x))=encC p { c with locked:=x }:=rfl
theorem s10 (l:List (Str×Int)):(encC p c).set 10 (.dic (dI l))=encC p { c with used:=l }:=rfl
theorem s11 (x:Int):(encC p c).set 11 (.imm (.int x))=encC p { c with past:=x }:=rfl
theorem s12a (l:List (Int×Str×Option Str)) (i:Int) (w:Str) (n:Option Str):(encC p c).set 12 (.own (l.map encW++[.tuple [.int i,.str w,oS n]]))=encC p { c with told:=l++[(i,w,n)] }:=by simp[encC,encW]
end
end Co
open D Co
open PySem hiding run fresh code
local macro_rules
 | `(tactic| simp! [sp1,$xs,*] $[$l]?)=>`(tactic| simp[zsg,e0,e1,e2,e3,e4,e5,e6,e7,e8,e9,e10,e11,e12,s1,s2,s3,s3n,s4,s5,s5n,s6,s7,s7n,s7a,s8,s9,s10,s11,s12a,runM,runR,z5x,z57,exX,z0s,z21,rtnM,zgg,rtnX,asgF,z8u,augF,appF,setF,objF,fld,fldV,fldD,fldL,fGet,zi1,zjh,zgp,zia,asgX,ifE,z85,runF,seq,iff,tstB,tstL,andT,orT,notT,cstT,ofT,op1,op2,opN,args,cst,nm,nmV,rtn,skip,asg,asgN,asgT,par,z06,z29,oIsN,z3j,oIx,atZ,ixOf,gNm,gTu,gAll,z0v,comp,z2h,$xs,*] $[$l]?)
local macro_rules
 | `(tactic| simp! [sp2,$xs,*] $[$l]?)=>`(tactic| simp[runF,seq,iff,tstB,tstL,andT,orT,notT,cstT,ofT,op1,op2,opN,args,cst,nm,nmV,rtn,skip,asg,asgN,asgT,par,z06,z29,oIsN,z3j,oIx,atZ,ixOf,gNm,gTu,gAll,z0v,comp,z2h,$xs,*] $[$l]?)
 | `(tactic| simp! [sp2] $[$l]?)=>`(tactic| simp[runF,seq,iff,tstB,tstL,andT,orT,notT,cstT,ofT,op1,op2,opN,args,cst,nm,nmV,rtn,skip,asg,asgN,asgT,par,z06,z29,oIsN,z3j,oIx,atZ,ixOf,gNm,gTu,gAll,z0v,comp,z2h] $[$l]?)
local macro_rules
 | `(tactic| simp! [sp3,$xs,*] $[$l]?)=>`(tactic| simp[oAdd,oSub,oMul,oDiv,oMod,oNeg,oLen,oMin,oMax,z1k,zrv,oInt,oLt,oLe,oGt,oGe,big,zsg,e0,e1,e2,e3,e4,e5,e6,e7,e8,e9,e10,e11,e12,s1,s2,s3,s3n,s4,s5,s5n,s6,s7,s7n,s7a,s8,s9,s10,s11,s12a,runM,runR,z5x,z57,exX,z0s,z21,rtnM,zgg,rtnX,asgF,z8u,augF,appF,setF,objF,fld,fldV,fldD,fldL,fGet,zi1,zjh,zgp,zia,asgX,ifE,z85,runF,seq,iff,tstB,tstL,andT,orT,notT,cstT,ofT,op1,op2,opN,args,cst,nm,nmV,rtn,skip,asg,asgN,asgT,par,z06,z29,oIsN,z3j,oIx,atZ,ixOf,gNm,gTu,gAll,z0v,comp,z2h,$xs,*] $[$l]?)
local macro_rules
 | `(tactic| simp! [sp4,$xs,*] $[$l]?)=>`(tactic| simp[runM,runR,z5x,z57,exX,z0s,z21,rtnM,zgg,rtnX,asgF,z8u,augF,appF,setF,objF,fld,fldV,fldD,fldL,fGet,zi1,zjh,zgp,zia,asgX,ifE,z85,runF,seq,iff,tstB,tstL,andT,orT,notT,cstT,ofT,op1,op2,opN,args,cst,nm,nmV,rtn,skip,asg,asgN,asgT,par,z06,z29,oIsN,z3j,oIx,atZ,ixOf,gNm,gTu,gAll,z0v,comp,z2h,$xs,*] $[$l]?)
local macro_rules
 | `(tactic| simp! [sp5,$xs,*] $[$l]?)=>`(tactic| simp[zsg,e0,e1,e2,e3,e4,e5,e6,e7,e8,e9,e10,e11,e12,s1,s2,s3,s3n,s4,s5,s5n,s6,s7,s7n,s7a,s8,s9,s10,s11,s12a,runM,runR,z5x,z57,exX,z0s,z21,rtnM,zgg,rtnX,asgF,z8u,augF,appF,setF,objF,fld,fldV,fldD,fldL,fGet,zi1,zjh,zgp,zia,asgX,ifE,z85,zax,zlm,z6s,zay,zc9,z5c,zll,zc7,z7q,zcb,z81,zdq,zdj,zfb,zdl,zfc,zfg,zfh,zdp,zff,zic,zdo,zca,zdn,zfe,zc6,zfd,zib,zdi,zfa,zdk,za1,z92,z7o,z7n,z6r,z7p,z4j,zc5,z93,z55,z56,zdm,zc8,zdr,zcc,zc3,zc4,runF,seq,iff,tstB,tstL,andT,orT,notT,cstT,ofT,op1,op2,opN,args,cst,nm,nmV,rtn,skip,asg,asgN,asgT,par,z06,z29,oIsN,z3j,oIx,atZ,ixOf,gNm,gTu,gAll,z0v,comp,z2h,$xs,*] $[$l]?)
local macro_rules
 | `(tactic| simp! [sp6,$xs,*] $[$l]?)=>`(tactic| simp[oAdd,oSub,oMul,oDiv,oMod,oNeg,oLen,oMin,oMax,z1k,zrv,oInt,oLt,oLe,oGt,oGe,big,runF,seq,iff,tstB,tstL,andT,orT,notT,cstT,ofT,op1,op2,opN,args,cst,nm,nmV,rtn,skip,asg,asgN,asgT,par,z06,z29,oIsN,z3j,oIx,atZ,ixOf,gNm,gTu,gAll,z0v,comp,z2h,$xs,*] $[$l]?)
local macro_rules
 | `(tactic| simp! [sp7,$xs,*] $[$l]?)=>`(tactic| simp[runM,runR,z5x,z57,exX,z0s,z21,rtnM,zgg,rtnX,asgF,z8u,augF,appF,setF,objF,fld,fldV,fldD,fldL,fGet,zi1,zjh,zgp,zia,asgX,ifE,z85,$xs,*] $[$l]?)
local macro_rules
 | `(tactic| simp! [sp8,$xs,*] $[$l]?)=>`(tactic| simp[zsg,e0,e1,e2,e3,e4,e5,e6,e7,e8,e9,e10,e11,e12,s1,s2,s3,s3n,s4,s5,s5n,s6,s7,s7n,s7a,s8,s9,s10,s11,s12a,$xs,*] $[$l]?)
local macro_rules
 | `(tactic| simp! [sp9,$xs,*] $[$l]?)=>`(tactic| simp[runF,seq,iff,tstB,tstL,andT,orT,notT,cstT,ofT,op1,op2,opN,args,cst,nm,nmV,rtn,skip,asg,asgN,asgT,par,z06,z29,oIsN,z3j,gNm,gTu,gAll,z0v,comp,z2h,$xs,*] $[$l]?)
 | `(tactic| simp! [sp9] $[$l]?)=>`(tactic| simp[runF,seq,iff,tstB,tstL,andT,orT,notT,cstT,ofT,op1,op2,opN,args,cst,nm,nmV,rtn,skip,asg,asgN,asgT,par,z06,z29,oIsN,z3j,gNm,gTu,gAll,z0v,comp,z2h] $[$l]?)
local macro_rules
 | `(tactic| simp! [sp10,$xs,*] $[$l]?)=>`(tactic| simp[zax,zlm,z6s,zay,zc9,z5c,zll,zc7,z7q,zcb,z81,zdq,zdj,zfb,zdl,zfc,zfg,zfh,zdp,zff,zic,zdo,zca,zdn,zfe,zc6,zfd,zib,zdi,zfa,zdk,za1,z92,z7o,z7n,z6r,z7p,z4j,zc5,z93,z55,z56,zdm,zc8,zdr,zcc,zc3,zc4,runF,seq,iff,tstB,tstL,andT,orT,notT,cstT,ofT,op1,op2,opN,args,cst,nm,nmV,rtn,skip,asg,asgN,asgT,par,z06,z29,oIsN,z3j,oIx,atZ,ixOf,gNm,gTu,gAll,z0v,comp,z2h,$xs,*] $[$l]?)
namespace Co
open D PySem
def okS (x:Str):Prop:=(y20 x).canLay0=true
theorem z0d {x y:Str} (h1:okS x) (h2:okS y):oEq (.str x) (.str y)=some (.bool (decide (x=y))):=by
 unfold oEq
 rw[zbk h1,zbk h2]
 by_cases e:x=y <;> simp[y25,e]
theorem z62 {x y:Str} (h1:okS x) (h2:okS y):oNe (.str x) (.str y)=some (.bool (!decide (x=y))):=by
 unfold oNe
 rw[zbk h1,zbk h2]
 by_cases e:x=y <;> simp[y25,e]
theorem z6q (neg:Bool) {n:Str} {ns:List Str} (h0:okS n) (h:∀x∈ns,okS x):oIn neg (.str n) (.list (ns.map .str))=some (.bool (if neg then !decide (n∈ns) else decide (n∈ns))):=by
 simp only[oIn,zbk h0,zdh ns h,zgu]
 rfl
theorem zav (neg:Bool) {n:Str} {ns:List Str} (h0:okS n) (h:∀x∈ns,okS x):oIn neg (.str n) (.tuple (ns.map .str))=some (.bool (if neg then !decide (n∈ns) else decide (n∈ns))):=zva neg n ns h0 h
theorem zns (p:Pl) (c:Cs) (w:Str) (n:Option Str) (h:c.told.length<big):z08 [.obj .lent 0 (encC p c),.imm (.str w),.imm (oS n)]=some (.none,encC p (tell w n c)):=by
 have h':c.told.length<16777216:=h
 simp! [sp1,z08,zb7,tell,big,h']
theorem zae (p:Pl) (c:Cs) (w:Str) (h:c.told.length<big):z08 [.obj .lent 0 (encC p c),.imm (.str w),.imm .none]=some (.none,encC p (tell w none c)):=zns p c w none h
theorem z4d (p:Pl) (c:Cs) (w z:Str) (h:c.told.length<big):z08 [.obj .lent 0 (encC p c),.imm (.str w),.imm (.str z)]=some (.none,encC p (tell w (some z) c)):=zns p c w (some z) h
theorem zbz (p:Pl) (c:Cs):z1d [.obj .lent 0 (encC p c)]=some (.none,encC p (beLoud p c)):=by
 simp! [sp1,z1d,z84,beLoud,encP]
structure Wf (p:Pl) (c:Cs):Prop where
 zn:∀z∈p.zones,okS z.1/\okS z.2
 cn:∀k∈p.codes,okS k.fig/\okS k.who/\∀r∈k.rights,okS r
 zl:p.zones.length<=40
 mo:okS c.mode
 ca:∀z,c.came=some z->okS z/\z∈p.zones.map (·.1)
 cm:c.mode="coming"->c.came≠none
 ln:c.lines.map (·.1)=p.zones.map (·.1)
 lo:∀l∈c.lines,okS l.2
 us:c.used.map (·.1)=p.codes.map (·.fig)
 sh:c.shunts.Nodup/\∀z∈c.shunts,z∈p.zones.map (·.1)
 al:c.alarms.Nodup/\∀z∈c.alarms,z∈p.zones.map (·.1)
theorem Wf.okz {p:Pl} {c:Cs} (h:Wf p c) {z:Str} (hz:z∈p.zones.map (·.1)):okS z:=by
 obtain⟨x,hx,rfl⟩:=y0m.mp hz
 exact (h.zn x hx).1
theorem Wf.oksh {p:Pl} {c:Cs} (h:Wf p c):∀z∈c.shunts,okS z:=fun z hz=>h.okz (h.sh.2 z hz)
theorem Wf.okal {p:Pl} {c:Cs} (h:Wf p c):∀z∈c.alarms,okS z:=fun z hz=>h.okz (h.al.2 z hz)
theorem zi8 {α:Type} [BEq α] [LawfulBEq α] {l m:List α} (h:l.Nodup) (hs:∀x∈l,x∈m):l.length<=m.length:=by
 induction l generalizing m with
 | nil=>simp
 | cons x l ih =>
  obtain⟨h1,h2⟩:=y0r.mp h
  have hx:=hs x y0f
  have:=ih (m:=m.erase x) h2 fun y hy=>(List.mem_erase_of_ne (fun e:y=x=>h1 (e▸hy))).mpr (hs y (y05 _ hy))
  have hl:=List.length_erase_of_mem hx
  have:=List.length_pos_of_mem hx
  simp only[y0w]
  omega
theorem Wf.alLen {p:Pl} {c:Cs} (h:Wf p c):c.alarms.length<=40:=by
 have:=zi8 h.al.1 h.al.2
 have:=h.zl
 simp at *
 omega
theorem Wf.shLen {p:Pl} {c:Cs} (h:Wf p c):c.shunts.length<=40:=by
 have:=zi8 h.sh.1 h.sh.2
 have:=h.zl
 simp at *
 omega
theorem zcy (p:Pl) (c:Cs) (z:Str) (h:Wf p c) (hz:okS z) (ht:c.told.length<big):z0i [.obj .lent 0 (encC p c),.imm (.str z)]=some (.none,encC p (alarm p z c)):=by
 have ha:=h.alLen
 have hin:oIn true (.str z) (.list (c.alarms.map .str))=some (.bool (!decide (z∈c.alarms))):=by rw[z6q true hz h.okal];rfl
 have hb:(beLoud p c).alarms=c.alarms:=rfl
 have hlt:c.alarms.length<16777216:=by omega
 by_cases hm:z∈c.alarms
 ·simp! [sp1,z0i,z6z,zbz,hb,hin,hm,alarm]
 ·have tl:({ beLoud p c with alarms:=c.alarms++[z] }:Cs).told.length<big:=ht
  simp! [sp1,z0i,z6z,zbz,hb,hin,hm,alarm,big,hlt,z4d p _ "alarm" z tl]
def kindOf (p:Pl) (z:Str):Str:=((p.zones.find? fun x=>decide (x.1=z)).map (·.2)).getD ""
def zfv (p:Pl) (f:Str):Option Cd:=p.codes.find? fun k=>decide (k.fig=f)
theorem zig {z:Str} (hz:okS z) (s0:Option Sl):∀(zs:List (Str×Str)) (t0:Option Sl),(∀x∈zs,okS x.1)->z∈zs.map (·.1)->forL (gNm 2) (iff (tstB (op2 oEq (op2 oIx (nm 2) (cst (.int 0))) (nm 1))) (rtn (op2 oIx (nm 2) (cst (.int 1)))) skip) (zs.map encZ) [s0,some (.imm (.str z)),t0]=some (.rt (.str (((zs.find? fun x=>decide (x.1=z)).map (·.2)).getD "")))
 | [],t0,_,h=>by simp at h
 | x::zs,t0,ho,h=>by
  have e:=z0d (ho x (by simp)) hz
  by_cases hx:x.1=z
  ·simp! [sp2,forL,encZ,hx,z0d hz hz]
  ·have h':z∈zs.map (·.1):=by
    rw[y0e] at h
    rcases y09.mp h with q|q
    ·exact absurd q.symm hx
    ·exact q
   have ih:=zig hz s0 zs (some (.imm (encZ x))) (fun y hy=>ho y (y05 _ hy)) h'
   simp[encZ] at ih
   simp! [sp2,forL,encZ,hx,e]
   simpa [runF,seq,iff,tstB,tstL,andT,orT,notT,cstT,ofT,op1,op2,opN,args,cst,nm,nmV,rtn,skip,asg,asgN,asgT,par,z06,z29,oIsN,z3j,oIx,atZ,ixOf,gNm,gTu,gAll,z0v,comp,z2h] using ih
theorem zbo {p:Pl} {z:Str} (ho:∀x∈p.zones,okS x.1/\okS x.2) (hz:z∈p.zones.map (·.1)):z4k [encP p,.str z]=some (.str (kindOf p z)):=by
 obtain⟨x,hx,rfl⟩:=y0m.mp hz
 have:=zig (ho x hx).1 (some (.imm (encP p))) p.zones none (fun y hy=>(ho y hy).1) hz
 simp! [sp2,z4k,zjf,for_,encP] at this ⊢
 simp[this,kindOf]
def encO:Option Cd->T
 | none=>.none
 | some k=>z1r k
theorem zj1 {f:Str} (hf:okS f) (s0:Option Sl):∀(ks:List Cd) (t0:Option Sl),(∀k∈ks,okS k.fig)->forL (gNm 2) (iff (tstB (op2 oEq (op2 oIx (nm 2) (cst (.int 0))) (nm 1))) (rtn (nm 2)) skip) (ks.map z1r) [s0,some (.imm (.str f)),t0] =
   match ks.find? fun k=>decide (k.fig=f) with
   | some k=>some (.rt (z1r k))
   | none=>some (.nx [s0,some (.imm (.str f)),(ks.getLast?.map fun k=>Sl.imm (z1r k)).elim t0 some])
 | [],t0,_=>by simp[forL]
 | k::ks,t0,ho=>by
  have e:=z0d (ho k (by simp)) hf
  by_cases hx:k.fig=f
  ·simp! [sp2,forL,z1r,hx,z0d hf hf]
  ·have ih:=zj1 hf s0 ks (some (.imm (z1r k))) (fun y hy=>ho y (y05 _ hy))
   simp only[y0e,forL]
   simp! [sp2,z1r,hx,e] at ih ⊢
   rw[ih]
   cases ks with
   | nil=>simp
   | cons k' ks=>simp[List.getLast?_cons]
theorem znc {p:Pl} {f:Str} (ho:∀k∈p.codes,okS k.fig) (hf:okS f):z8m [encP p,.str f]=some (encO (zfv p f)):=by
 have:=zj1 hf (some (.imm (encP p))) p.codes none ho
 simp! [sp2,z8m,zjg,for_,encP] at this ⊢
 rw[this]
 unfold zfv
 cases e:p.codes.find? fun k=>decide (k.fig=f) with
 | none=>simp[encO]
 | some k=>simp[encO]
def z74 (c:Cs) (z:Str):Str:=(c.lines.lookup z).getD ""
noncomputable def setL (l:List (Str×Str)) (z w:Str):List (Str×Str):=l.map fun p=>if p.1=z then (z,w) else p
def zsx (c:Cs) (f:Str):Int:=(c.used.lookup f).getD 0
noncomputable def addU (l:List (Str×Int)) (f:Str):List (Str×Int):=l.map fun p=>if p.1=f then (f,p.2+1) else p
theorem ztr {z:Str}:∀{l:List (Str×Str)},z∈l.map (·.1)->getD (dS l) (.inr z)=some (.str ((l.lookup z).getD ""))
  | [],h=>by simp at h
  | (k,v)::l,h=>by
    by_cases e:k=z
    · subst e
      simp[getD,dS,y1l]
    · have h':z∈l.map (·.1):=by
        rw[y0e] at h
        rcases y09.mp h with q|q
        · exact absurd q.symm e
        · exact q
      have ih:=ztr h'
      have ne:(z == k)=false:=beq_eq_false_iff_ne.mpr (Ne.symm e)
      simp only[getD,dS,y0e,y1u] at ih ⊢
      rw[decide_eq_false (fun q=>e (Sum.inr.inj q))]
      simp only[y1l,ne]
      exact ih
theorem zpm {z:Str}:∀{l:List (Str×Int)},z∈l.map (·.1)->getD (dI l) (.inr z)=some (.int ((l.lookup z).getD 0))
  | [],h=>by simp at h
  | (k,v)::l,h=>by
    by_cases e:k=z
    · subst e
      simp[getD,dI,y1l]
    · have h':z∈l.map (·.1):=by
        rw[y0e] at h
        rcases y09.mp h with q|q
        · exact absurd q.symm e
        · exact q
      have ih:=zpm h'
      have ne:(z == k)=false:=beq_eq_false_iff_ne.mpr (Ne.symm e)
      simp only[getD,dI,y0e,y1u] at ih ⊢
      rw[decide_eq_false (fun q=>e (Sum.inr.inj q))]
      simp only[y1l,ne]
      exact ih
theorem zz6 {z:Str} {l:List (Str×Str)} (h:z∈l.map (·.1)):(dS l).any (fun p=>decide (p.1=(Sum.inr z:D.Key)))=true:=by
 obtain⟨x,hx,rfl⟩:=y0m.mp h
 rw[List.any_eq_true]
 exact⟨(.inr x.1,.str x.2),y0m.mpr ⟨x,hx,rfl⟩,by simp⟩
theorem zz7 {z:Str} {l:List (Str×Int)} (h:z∈l.map (·.1)):(dI l).any (fun p=>decide (p.1=(Sum.inr z:D.Key)))=true:=by
 obtain⟨x,hx,rfl⟩:=y0m.mp h
 rw[List.any_eq_true]
 exact⟨(.inr x.1,.int x.2),y0m.mpr ⟨x,hx,rfl⟩,by simp⟩
theorem zwv {z w:Str} {l:List (Str×Str)} (h:z∈l.map (·.1)):putD (dS l) (.inr z) (.str w)=dS (setL l z w):=by
 unfold putD
 rw[zz6 h,if_pos rfl]
 simp only[dS,setL,y2s]
 refine List.map_congr_left fun x _=>?_
 by_cases e:x.1=z
 ·simp[e]
 ·have:¬(Sum.inr x.1:D.Key)=Sum.inr z:=fun q=>e (Sum.inr.inj q)
  simp[e,this]
theorem zww {z:Str} {l:List (Str×Int)} (h:z∈l.map (·.1)) (nd:(l.map (·.1)).Nodup):putD (dI l) (.inr z) (.int ((l.lookup z).getD 0+1))=dI (addU l z):=by
 unfold putD
 rw[zz7 h,if_pos rfl]
 simp only[dI,addU,y2s]
 refine List.map_congr_left fun x hx=>?_
 by_cases e:x.1=z
 ·have:∀{l:List (Str×Int)},x∈l->(l.map (·.1)).Nodup->l.lookup x.1=some x.2:=by
   intro l
   induction l with
   | nil=>intro h;simp at h
   | cons y l ih =>
    intro h nd
    rcases y09.mp h with rfl|h
    ·simp[y1l]
    ·rw[y0e,y0r] at nd
     have ne:(x.1 == y.1)=false:=beq_eq_false_iff_ne.mpr fun q=>nd.1 (q▸y0m.mpr ⟨x,h,rfl⟩)
     simp only[y1l,ne]
     exact ih h nd.2
  have hl:=this hx nd
  subst e
  simp[hl]
 ·have:¬(Sum.inr x.1:D.Key)=Sum.inr z:=fun q=>e (Sum.inr.inj q)
  simp[e,this]
theorem zft {α:Type} {cc:Ft} {ee:Fe} {caps:Ev} (enc:α->T) (q:α->Bool) (f:α->T):∀(ts:List α) (s0:Option Sl),(∀a∈ts,cc (some (.imm (enc a))::caps)=some (q a)/\(q a=true->ee (some (.imm (enc a))::caps)=some (f a)))->z3m (gNm 0) cc ee (ts.map enc) (s0::caps)=some ((ts.filter q).map f)
 | [],_,_=>rfl
 | a::ts,s0,h=>by
  obtain⟨h1,h2⟩:=h a (by simp)
  have ih:=zft enc q f ts (some (.imm (enc a))) fun b hb=>h b (y05 _ hb)
  simp only[y0e,z3m,gNm,y1j,y0p,h1]
  cases hq:q a with
  | false=>simp[ih,hq]
  | true=>simp[ih,hq,h2 hq]
noncomputable def bare (p:Pl) (kinds:List Str) (c:Cs):List Str:=((p.zones.filter fun z=>decide (z.2∈kinds)).map (·.1)).filter fun z=>decide (z74 c z≠"shut") && !decide (z∈c.shunts)
theorem z01 (x:Str) (h:(y20 x).canLay0=true:=by decide +kernel):okS x:=h
theorem zfk {α:Type} {z:Str}:∀{l:List (Str×α)} {v:α},l.lookup z=some v->(z,v)∈l
  | [],v,h=>by cases h
  | (k,x)::l,v,h=>by
    rw[y1g] at h
    split at h
    next q =>
      cases h
      have:z=k:=by simpa using q
      subst this
      simp
    next=>exact y05 _ (zfk h)
theorem Wf.okl {p:Pl} {c:Cs} (h:Wf p c) (z:Str):okS (z74 c z):=by
 unfold z74
 cases e:c.lines.lookup z with
 | none=>exact z01 ""
 | some v=>exact h.lo _ (zfk e)
theorem Wf.lin {p:Pl} {c:Cs} (h:Wf p c) {z:Str} (hz:z∈p.zones.map (·.1)):getD (dS c.lines) (.inr z)=some (.str (z74 c z)):=ztr (by rw[h.ln];exact hz)
theorem zqg (p:Pl) (c:Cs) (ks:List Str) (m:Md) (h:Wf p c) (hk:∀k∈ks,okS k):z0u [.obj m 0 (encC p c),.imm (.tuple (z85 ks))]=some (.list ((bare p ks c).map .str)):=by
 have hzl:=h.zl
 have c1:=zft (cc:=tstB (op2 (oIn false) (op2 oIx (nm 0) (cst (.int 1))) (nm 1))) (ee:=op2 oIx (nm 0) (cst (.int 0))) (caps:=[some (.imm (.tuple (z85 ks)))]) encZ (fun z=>decide (z.2∈ks)) (fun z=>.str z.1) p.zones none fun z hz=>by
  have:=zav false (h.zn z hz).2 hk
  simp at this
  constructor
  ·simp! [sp2,encZ,z85,this]
  ·intro _
   simp! [sp2,encZ]
 have c2:=zft (cc:=andT (tstB (op2 oNe (fGet 0 1 4 (nm 0)) (cst (.str "shut")))) (tstB (op2 (oIn true) (nm 0) (fld 0 1 5)))) (ee:=nmV 0) (caps:=[some (.obj m 0 (encC p c))]) y20 (fun z=>decide (z74 c z≠"shut") && !decide (z∈c.shunts)) y20 ((p.zones.filter fun z=>decide (z.2∈ks)).map (·.1)) none fun z hz=>by
  have hzn:z∈p.zones.map (·.1):=by
   obtain⟨x,hx,rfl⟩:=y0m.mp hz
   exact y0m.mpr ⟨x,(List.mem_filter.mp hx).1,rfl⟩
  have e1:=h.lin hzn
  have e2:=z62 (h.okl z) (z01 "shut")
  have e3:=z6q true (h.okz hzn) h.oksh
  simp at e3
  constructor
  ·by_cases hs:z74 c z="shut"
   ·simp! [sp1,z6i,e1,e2,hs,z62 (z01 "shut") (z01 "shut")]
   ·simp! [sp1,z6i,e1,e2,e3,hs]
  ·intro _
   simp! [sp2]
 have l1:(p.zones.map encZ).length<=16777216:=by simp;omega
 have l2:(((p.zones.filter fun z=>decide (z.2∈ks)).map fun z=>y20 z.1)).length<=16777216:=by
  rw[y14]
  have:=y2c (fun z:Str×Str=>decide (z.2∈ks)) p.zones
  omega
 simp only[y2s,y17] at c2
 simp only[z0u,z6g,runR,z5x]
 simp! [sp1,encP] at c1 c2 ⊢
 have hb1:p.zones.length<=big:=by unfold big;omega
 have hb2:(p.zones.filter fun z=>decide (z.2∈ks)).length<=big:=by
  have:=y2c (fun z:Str×Str=>decide (z.2∈ks)) p.zones
  omega
 rw[if_pos hb1,c1]
 simp only[y1t,y0p,y2j,y2i,Function.comp_apply,y14,hb2,if_true,Option.join_some]
 rw[c2]
 simp[bare]
noncomputable def comeIn (p:Pl) (z k:Str) (c:Cs):Cs:=if k≠"way"\/p.come<=0 then alarm p z c else tell "coming" (some z) { c with mode:="coming",left:=p.come,came:=some z }
noncomputable def disturb (p:Pl) (z w:Str) (c:Cs):Cs :=
 if kindOf p z="day" then alarm p z c
 else if c.mode="off" then (if w="cut" then tell "fault" (some z) c else c)
 else if w="cut"\/kindOf p z="once" then alarm p z c
 else if c.mode="on" then comeIn p z (kindOf p z) c else c
noncomputable def line (p:Pl) (z w:Str) (c:Cs):Cs :=
 if w=z74 c z then c
 else if w="shut" then (if z74 c z="cut" then tell "mended" (some z) { c with lines:=setL c.lines z w } else { c with lines:=setL c.lines z w })
 else if z∈c.shunts then { c with lines:=setL c.lines z w } else disturb p z w { c with lines:=setL c.lines z w }
theorem znb (p:Pl) (c:Cs) (z k:Str) (h:Wf p c) (hz:okS z) (hk:okS k) (ht:c.told.length<big):z1c [.obj .lent 0 (encC p c),.imm (.str z),.imm (.str k)]=some (.none,encC p (comeIn p z k c)):=by
 have e:=z62 hk (z01 "way")
 have ea:=zcy p c z h hz ht
 by_cases h1:k="way"
 ·by_cases h2:p.come<=0
  ·simp! [sp3,z1c,z3w,encP,e,h1,h2,ea,comeIn]
   simp! [sp4,z62 (z01 "way") (z01 "way"),ea,h2]
  ·have et:=z4d p { c with mode:="coming",left:=p.come,came:=some z } "coming" z ht
   simp! [sp3,z1c,z3w,encP,h1,h2,comeIn]
   simp! [sp3,z62 (z01 "way") (z01 "way"),et,h2,encP]
 ·simp! [sp3,z1c,z3w,encP,e,h1,ea,comeIn]
theorem zn9 (p:Pl) (c:Cs) (z w:Str) (h:Wf p c) (hz:z∈p.zones.map (·.1)) (hw:okS w) (ht:c.told.length<big):z2r [.obj .lent 0 (encC p c),.imm (.str z),.imm (.str w)]=some (.none,encC p (disturb p z w c)):=by
 have ek:=zbo h.zn hz
 have hkk:okS (kindOf p z):=by
  unfold kindOf
  cases e:p.zones.find? fun x=>decide (x.1=z) with
  | none=>exact z01 ""
  | some x=>exact (h.zn x (List.mem_of_find?_eq_some e)).2
 have ea:=zcy p c z h (h.okz hz) ht
 have et:=z4d p c "fault" z ht
 have ec:=znb p c z (kindOf p z) h (h.okz hz) hkk ht
 have q1:=z0d hkk (z01 "day")
 have q2:=z0d h.mo (z01 "off")
 have q3:=z0d hw (z01 "cut")
 have q4:=z0d hkk (z01 "once")
 have q5:=z0d h.mo (z01 "on")
 simp only[z2r,z83,disturb]
 by_cases h1:kindOf p z="day"
 ·simp! [sp5,ek,q1,h1,ea]
  simp! [sp4,z0d (z01 "day") (z01 "day"),ea]
 ·by_cases h2:c.mode="off"
  ·by_cases h3:w="cut"
   ·simp! [sp5,ek,q1,h1,q2,h2,q3,h3,et,z0d (z01 "off") (z01 "off"),z0d (z01 "cut") (z01 "cut")]
   ·simp! [sp5,ek,q1,h1,q2,h2,q3,h3,et,z0d (z01 "off") (z01 "off")]
  ·by_cases h3:w="cut"
   ·simp! [sp5,ek,q1,h1,q2,h2,q3,h3,ea,z0d (z01 "cut") (z01 "cut")]
   ·by_cases h4:kindOf p z="once"
    ·simp! [sp5,ek,q1,h1,q2,h2,q3,h3,q4,h4,ea,z0d (z01 "once") (z01 "once"),z0d (z01 "once") (z01 "day")]
    ·by_cases h5:c.mode="on"
     ·simp! [sp5,ek,q1,h1,q2,h2,q3,h3,q4,h4,q5,h5,ec,z0d (z01 "on") (z01 "on"),z0d (z01 "on") (z01 "off")]
     ·simp! [sp5,ek,q1,h1,q2,h2,q3,h3,q4,h4,q5,h5,ec]
theorem znz (l:List (Str×Str)) (z w:Str):(setL l z w).map (·.1)=l.map (·.1):=by
 unfold setL
 rw[y2s]
 refine List.map_congr_left fun x _=>?_
 by_cases e:x.1=z <;> simp[e]
theorem zqm (l:List (Str×Int)) (z:Str):(addU l z).map (·.1)=l.map (·.1):=by
 unfold addU
 rw[y2s]
 refine List.map_congr_left fun x _=>?_
 by_cases e:x.1=z <;> simp[e]
theorem Wf.setLine {p:Pl} {c:Cs} (h:Wf p c) (z:Str) {w:Str} (hw:okS w):Wf p { c with lines:=setL c.lines z w } :=
 ⟨h.zn,h.cn,h.zl,h.mo,h.ca,h.cm,(znz _ _ _).trans h.ln,fun l hl=>by
  obtain⟨x,hx,rfl⟩:=y0m.mp hl
  by_cases e:x.1=z
  ·rw[if_pos e]
   exact hw
  ·rw[if_neg e]
   exact h.lo x hx,h.us,h.sh,h.al⟩
theorem Wf.tell {p:Pl} {c:Cs} (h:Wf p c) (w:Str) (n:Option Str):Wf p (Co.tell w n c):=⟨h.zn,h.cn,h.zl,h.mo,h.ca,h.cm,h.ln,h.lo,h.us,h.sh,h.al⟩
theorem Wf.loud {p:Pl} {c:Cs} (h:Wf p c):Wf p (beLoud p c):=⟨h.zn,h.cn,h.zl,h.mo,h.ca,h.cm,h.ln,h.lo,h.us,h.sh,h.al⟩
theorem Wf.alarm {p:Pl} {c:Cs} (h:Wf p c) {z:Str} (hz:z∈p.zones.map (·.1)):Wf p (Co.alarm p z c):=by
 unfold Co.alarm
 split
 ·exact h.loud
 next hm =>
  refine Wf.tell (c:={ beLoud p c with alarms:=c.alarms++[z] }) ⟨h.zn,h.cn,h.zl,h.mo,h.ca,h.cm,h.ln,h.lo,h.us,h.sh,?_,?_⟩ _ _
  ·show (c.alarms++[z]).Nodup
   rw[y1p]
   exact⟨h.al.1,by simp,fun a ha b hb e=>hm (by simp at hb;subst hb;exact e▸ha)⟩
  ·intro y hy
   rcases y11.mp hy with q|q
   ·exact h.al.2 y q
   ·simp at q
    exact q▸hz
theorem z7e (p:Pl) (z:Str) (c:Cs):(alarm p z c).told.length<=c.told.length+1:=by
 unfold alarm tell beLoud
 split <;> simp
theorem zvc (p:Pl) (c:Cs) (z w:Str) (h:Wf p c) (hz:z∈p.zones.map (·.1)) (hw:okS w) (ht:c.told.length<big):z4l [.obj .lent 0 (encC p c),.imm (.str z),.imm (.str w)]=some (.none,encC p (line p z w c)):=by
 have e1:=h.lin hz
 have hzl:z∈c.lines.map (·.1):=by rw[h.ln];exact hz
 have e2:=zwv (w:=w) hzl
 have q1:=z0d hw (h.okl z)
 have q2:=z0d hw (z01 "shut")
 have q3:=z0d (h.okl z) (z01 "cut")
 have q4:=z6q true (h.okz hz) h.oksh
 simp at q4
 have hlen:(dS c.lines).length<16777216:=by
  have:=congrArg List.length h.ln
  have:=h.zl
  simp[dS] at *
  omega
 have hd:=zn9 p _ z w (h.setLine z hw) hz hw ht
 have et:=z4d p { c with lines:=setL c.lines z w } "mended" z ht
 simp only[z4l,zb8,line]
 by_cases h1:w=z74 c z
 ·simp! [sp5,z6i,e1,q1,h1,z0d (h.okl z) (h.okl z)]
 ·by_cases h2:w="shut"
  ·subst h2
   by_cases h3:z74 c z="cut"
   ·simp! [sp5,big,z6i,e1,e2,q1,h1,q2,q3,h3,hlen,et,z0d (z01 "cut") (z01 "cut"),z0d (z01 "shut") (z01 "shut"),z0d (z01 "shut") (z01 "cut")]
   ·simp! [sp5,big,z6i,e1,e2,q1,h1,q2,q3,h3,hlen,z0d (z01 "shut") (z01 "shut")]
  ·by_cases h4:z∈c.shunts
   ·simp! [sp5,big,z6i,e1,e2,q1,h1,q2,h2,q4,h4,hlen]
   ·simp! [sp5,big,z6i,e1,e2,q1,h1,q2,h2,q4,h4,hlen,hd]
def less (a n:Int):Int:=if 0 > a - n then 0 else a - n
noncomputable def z2s (n:Int) (c:Cs):Cs:={ c with past:=c.past+n,locked:=less c.locked n,siren:=less c.siren n,left:=less c.left n }
theorem zk6 (a n:Int):z4t [.int a,.int n]=some (.int (less a n)):=by
 simp! [sp6,z4t,zfx,less]
theorem z7u (p:Pl) (c:Cs) (n:Int):z0t [.obj .lent 0 (encC p c),.imm (.int n)]=some (.none,encC p (z2s n c)):=by
 simp! [sp1,z0t,z6f,zk6,z2s]
def alarms (p:Pl) (zs:List Str) (c:Cs):Cs:=zs.foldl (fun c z=>alarm p z c) c
noncomputable def endLeaving (p:Pl) (c:Cs):Cs:=alarms p (bare p ["inner","way"] (tell "on" none { c with mode:="on",left:=0 })) (tell "on" none { c with mode:="on",left:=0 })
noncomputable def endComing (p:Pl) (c:Cs):Cs:=alarm p (c.came.getD "") { c with mode:="on",came:=none }
def endTime (p:Pl) (c:Cs):Cs:=if c.mode="leaving" then endLeaving p c else endComing p c
noncomputable def ticks (p:Pl) (n:Int) (c:Cs):Cs :=
 if n<1 then c else if (c.mode="leaving"\/c.mode="coming")/\c.left<=n then z2s (n - c.left) (endTime p (z2s c.left c)) else z2s n c
theorem zfy (p:Pl):∀(zs:List Str) (c:Cs) (s1:Option Sl),Wf p c->(∀z∈zs,z∈p.zones.map (·.1))->c.told.length+zs.length<big->∃s1',forL (gNm 1) (exX (z0s 0 z0i 0 [(nmV 1)])) (zs.map .str) [some (.obj .lent 0 (encC p c)),s1]=some (.nx [some (.obj .lent 0 (encC p (alarms p zs c))),s1'])
 | [],c,s1,_,_,_=>⟨s1,by simp[forL,alarms]⟩
 | z::zs,c,s1,h,hz,ht=>by
  have hzz:=hz z (by simp)
  have ea:=zcy p c z h (h.okz hzz) (by simp at ht;omega)
  have:=z7e p z c
  obtain⟨s1',ih⟩:=zfy p zs (alarm p z c) (some (.imm (.str z))) (h.alarm hzz) (fun y hy=>hz y (y05 _ hy)) (by simp at ht;omega)
  refine⟨s1',?_⟩
  rw[y0e,forL]
  simp! [sp4,ea]
  simpa [runF,seq,iff,tstB,tstL,andT,orT,notT,cstT,ofT,op1,op2,opN,args,cst,nm,nmV,rtn,skip,asg,asgN,asgT,par,z06,z29,oIsN,z3j,oIx,atZ,ixOf,gNm,gTu,gAll,z0v,comp,z2h,alarms] using ih
theorem zcw {p:Pl} {ks:List Str} {c:Cs} {z:Str} (h:z∈bare p ks c):z∈p.zones.map (·.1):=by
 unfold bare at h
 obtain⟨x,hx,rfl⟩:=y0m.mp (List.mem_filter.mp h).1
 exact y0m.mpr ⟨x,(List.mem_filter.mp hx).1,rfl⟩
theorem zm0 (p:Pl) (ks:List Str) (c:Cs):(bare p ks c).length<=p.zones.length:=by
 unfold bare
 have h1:=y2c (fun z=>decide (z74 c z≠"shut") && !decide (z∈c.shunts)) ((p.zones.filter fun z=>decide (z.2∈ks)).map (·.1))
 have h2:=y2c (fun z:Str×Str=>decide (z.2∈ks)) p.zones
 rw[y14] at h1
 omega
theorem Wf.on {p:Pl} {c:Cs} (h:Wf p c) (x:Int):Wf p { c with mode:="on",left:=x }:=⟨h.zn,h.cn,h.zl,z01 "on",h.ca,fun e=>absurd e z7q,h.ln,h.lo,h.us,h.sh,h.al⟩
theorem z9t (p:Pl) (c:Cs) (h:Wf p c) (ht:c.told.length+50<big):z0q [.obj .lent 0 (encC p c)]=some (.none,encC p (endLeaving p c)):=by
 have w1:=(h.on 0).tell "on" none
 have et:=zae p { c with mode:="on",left:=0 } "on" (by show c.told.length<big;omega)
 have eb:=zqg p (tell "on" none { c with mode:="on",left:=0 }) ["inner","way"] .ro w1 (by
  intro k hk
  simp at hk
  rcases hk with rfl|rfl
  ·exact z01 "inner"
  ·exact z01 "way")
 have hl:=zm0 p ["inner","way"] (tell "on" none { c with mode:="on",left:=0 })
 have hz:=h.zl
 obtain⟨s1',lp⟩:=zfy p (bare p ["inner","way"] (tell "on" none { c with mode:="on",left:=0 })) (tell "on" none { c with mode:="on",left:=0 }) none w1 (fun z hz=>zcw hz) (by
  have:(tell "on" none { c with mode:="on",left:=0 }:Cs).told.length=c.told.length+1:=by simp[tell]
  omega)
 simp only[z85,y0e,y1a] at eb
 simp! [sp1,z0q,z5n,et,eb,for_]
 rw[lp]
 simp! [sp7,endLeaving]
theorem Wf.onComing {p:Pl} {c:Cs} (h:Wf p c):Wf p { c with mode:="on",came:=none }:=⟨h.zn,h.cn,h.zl,z01 "on",fun z e=>(nomatch e),fun e=>absurd e z7q,h.ln,h.lo,h.us,h.sh,h.al⟩
theorem zh0 (p:Pl) (c:Cs) (h:Wf p c) (hc:c.came≠none) (ht:c.told.length<big):z1s [.obj .lent 0 (encC p c)]=some (.none,encC p (endComing p c)):=by
 obtain⟨z,hz⟩:=Option.ne_none_iff_exists'.mp hc
 have ea:=zcy p { c with mode:="on",came:=none } z h.onComing (h.ca z hz).1 ht
 simp! [sp1,z1s,z6d,hz,oS,ea,endComing]
theorem Wf.cd {p:Pl} {c:Cs} (h:Wf p c) (n:Int):Wf p (z2s n c):=⟨h.zn,h.cn,h.zl,h.mo,h.ca,h.cm,h.ln,h.lo,h.us,h.sh,h.al⟩
theorem zkf (p:Pl) (c:Cs) (h:Wf p c) (hm:c.mode="leaving"\/c.mode="coming") (ht:c.told.length+50<big):z1o [.obj .lent 0 (encC p c)]=some (.none,encC p (endTime p c)):=by
 have e1_:=z9t p c h ht
 have q:=z0d h.mo (z01 "leaving")
 rcases hm with hm|hm
 ·simp! [sp5,z1o,z4w,hm,e1_,endTime,z0d (z01 "leaving") (z01 "leaving")]
 ·have e2_:=zh0 p c h (h.cm hm) (by omega)
  simp! [sp5,z1o,z4w,hm,e2_,endTime,z0d (z01 "coming") (z01 "leaving")]
theorem zqw (p:Pl) (c:Cs) (n:Int) (h:Wf p c) (ht:c.told.length+50<big):z1l [.obj .lent 0 (encC p c),.imm (.int n)]=some (.none,encC p (ticks p n c)):=by
 have q:oIn false (.str c.mode) (.tuple [.str "leaving",.str "coming"])=some (.bool (decide (c.mode="leaving"\/c.mode="coming"))):=by
  have:=zav false (n:=c.mode) (ns:=["leaving","coming"]) h.mo (by
   intro k hk
   simp at hk
   rcases hk with rfl|rfl
   ·exact z01 "leaving"
   ·exact z01 "coming")
  simpa using this
 have e1_:=z7u p c c.left
 have e3_:=z7u p c n
 by_cases h1:n<1
 ·simp! [sp3,z1l,z3o,h1,ticks]
 ·by_cases h2:c.mode="leaving"\/c.mode="coming"
  ·by_cases h3:c.left<=n
   ·have e2_:=zkf p (z2s c.left c) (h.cd _) h2 ht
    have e4_:=z7u p (endTime p (z2s c.left c)) (n - c.left)
    rw[decide_eq_true h2] at q
    simp only[ticks,if_neg h1,if_pos (And.intro h2 h3)]
    simp! [sp3,z1l,z3o,h1,q,h3,e1_,e2_,e4_]
   ·rw[decide_eq_true h2] at q
    simp only[ticks,if_neg h1,if_neg (fun z:(c.mode="leaving"\/c.mode="coming")/\c.left<=n=>h3 z.2)]
    simp! [sp3,z1l,z3o,h1,q,h3,e3_]
  ·rw[decide_eq_false h2] at q
   simp only[ticks,if_neg h1,if_neg (fun z:(c.mode="leaving"\/c.mode="coming")/\c.left<=n=>h2 z.1)]
   simp! [sp3,z1l,z3o,h1,q,e3_]
def zd3 (k:Cd) (c:Cs):Bool:=decide (k.uses≠0) && decide (k.uses<=zsx c k.fig)
def wrong1 (c:Cs):Cs:={ tell "wrong" none c with tries:=c.tries+1 }
noncomputable def takeWrong (p:Pl) (c:Cs):Cs:=if 3<=c.tries+1 then tell "attack" none (beLoud p { wrong1 c with tries:=0,locked:=90 }) else wrong1 c
noncomputable def z37 (p:Pl) (d:Str) (z:Option Str) (c:Cs):Bool :=
 if d="unset" then false else if c.mode≠"off" then true
 else if d="shunt" then decide (kindOf p (z.getD "")="day") || decide (z.getD ""∈c.shunts)
 else decide (d="free") && !decide (z.getD ""∈c.shunts)
noncomputable def against (p:Pl) (k:Cd) (d:Str) (z:Option Str) (c:Cs):Option (Str×Str) :=
 if (if d="free" then ("shunt":Str) else d)∉k.rights then some ("denied",k.who)
 else if z37 p d z c then some ("no",k.who)
 else if d="set"/\bare p ["day","once"] c≠[] then some ("open",(bare p ["day","once"] c).headD "") else none
noncomputable def doSet (p:Pl) (who:Str) (c:Cs):Cs :=
 let c1:=tell "set" (some who) { c with alarms:=[],siren:=0,mode:="leaving",left:=p.leave }
 if p.leave<=0 then endLeaving p c1 else c1
noncomputable def doUnset (who:Str) (c:Cs):Cs:=tell "unset" (some who) { c with mode:="off",left:=0,siren:=0,came:=none,shunts:=[] }
noncomputable def doDeed (p:Pl) (who d:Str) (z:Option Str) (c:Cs):Cs :=
 if d="set" then doSet p who c else if d="unset" then doUnset who c
 else if d="shunt" then tell "shunt" z { c with shunts:=z87 (c.shunts++[z.getD ""]) }
 else tell "free" z { c with shunts:=c.shunts.erase (z.getD "") }
noncomputable def takeRight (p:Pl) (k:Cd) (d:Str) (z:Option Str) (c:Cs):Cs:=match against p k d z c with
 | none=>doDeed p k.who d z { c with used:=addU c.used k.fig }
 | some (w,n)=>tell w (some n) c
noncomputable def code (p:Pl) (f d:Str) (z:Option Str) (c:Cs):Cs :=
 if 0<c.locked then tell "locked" none c else match zfv p f with
  | none=>takeWrong p c
  | some k=>if zd3 k c then takeWrong p c else takeRight p k d z { c with tries:=0 }
theorem zm8 (p:Pl) (c:Cs) (k:Cd) (h:Wf p c) (hk:k∈p.codes) (m:Md):z16 [.obj m 0 (encC p c),.imm (z1r k)]=some (.bool (zd3 k c)):=by
 have e:getD (dI c.used) (.inr k.fig)=some (.int (zsx c k.fig)):=zpm (by rw[h.us];exact y0m.mpr ⟨k,hk,rfl⟩)
 have q:oNe (.int k.uses) (.int 0)=some (.bool (!decide (k.uses=0))):=by
  unfold oNe
  rw[z9z,z9z]
  by_cases e:k.uses=0 <;> simp[y25,e]
 by_cases h1:k.uses=0
 ·simp! [sp3,z16,z48,z1r,q,h1,andV,zd3]
  simp[oNe,z9z,y25]
 ·simp! [sp3,z16,z48,z1r,q,h1,andV,zd3,z6i,e]
theorem zg5 (p:Pl) (c:Cs) (ht:c.told.length+2<big):z14 [.obj .lent 0 (encC p c)]=some (.none,encC p (takeWrong p c)):=by
 have e1_:=zae p c "wrong" (by omega)
 have e2_:=zbz p { wrong1 c with tries:=0,locked:=90 }
 have e3_:=zae p (beLoud p { wrong1 c with tries:=0,locked:=90 }) "attack" (by simp[beLoud,wrong1,tell];omega)
 have w:({ mode:=(tell "wrong" none c).mode,left:=(tell "wrong" none c).left,came:=(tell "wrong" none c).came,lines:=(tell "wrong" none c).lines,shunts:=(tell "wrong" none c).shunts,siren:=(tell "wrong" none c).siren,alarms:=(tell "wrong" none c).alarms,tries:=c.tries+1,locked:=(tell "wrong" none c).locked,used:=(tell "wrong" none c).used,past:=(tell "wrong" none c).past,told:=(tell "wrong" none c).told }:Cs)=wrong1 c:=rfl
 have ti:(tell "wrong" none c).tries=c.tries:=rfl
 by_cases h3:3<=c.tries+1
 ·simp! [sp3,z14,z46,e1_,ti,h3,takeWrong]
  simp[wrong1] at e2_ e3_ ⊢
  simp[e2_,e3_]
 ·simp! [sp3,z14,z46,e1_,ti,h3,takeWrong,wrong1]
end Co
section
namespace Co
open D PySem
theorem Wf.okk {p:Pl} {c:Cs} (h:Wf p c) (z:Str):okS (kindOf p z):=by
 unfold kindOf
 cases e:p.zones.find? fun x=>decide (x.1=z) with
 | none=>exact z01 ""
 | some x=>exact (h.zn x (List.mem_of_find?_eq_some e)).2
theorem z5i:(2<=big)=True:=by simp[big]
theorem zl2:(10<=big)=True:=by simp[big]
noncomputable def okZ (p:Pl) (d:Str) (z:Option Str):Prop:=(d="shunt"\/d="free")->∃x,z=some x/\x∈p.zones.map (·.1)
theorem zeo (p:Pl) (c:Cs) (d:Str) (z:Option Str) (m:Md) (h:Wf p c) (hd:okS d) (hz:okZ p d z):z0g [.obj m 0 (encC p c),.imm (.str d),.imm (oS z)]=some (.bool (z37 p d z c)):=by
 have q1:=z0d hd (z01 "unset")
 have q2:=z62 h.mo (z01 "off")
 have q3:=z0d hd (z01 "shunt")
 have q4:=z0d hd (z01 "free")
 by_cases h1:d="unset"
 ·simp! [sp1,z0g,z0r,q1,h1,z37]
  simp[z0d (z01 "unset") (z01 "unset")]
 ·by_cases h2:c.mode="off"
  ·by_cases h3:d="shunt"
   ·obtain⟨x,rfl,hx⟩:=hz (.inl h3)
    subst h3
    have ek:=zbo h.zn hx
    have q5:=z0d (h.okk x) (z01 "day")
    have q6:=z6q false (h.okz hx) h.oksh
    simp at q6
    by_cases h4:kindOf p x="day"
    ·simp! [sp5,z0g,z0r,q1,h1,h2,z62 (z01 "off") (z01 "off"),q3,orV,oS,ek,q5,q6,h4,z37]
     simp[z0d (z01 "day") (z01 "day")]
    ·simp! [sp5,z0g,z0r,q1,h1,h2,z62 (z01 "off") (z01 "off"),q3,orV,oS,ek,q5,q6,h4,z37]
   ·by_cases h4:d="free"
    ·obtain⟨x,rfl,hx⟩:=hz (.inr h4)
     subst h4
     have q6:=z6q true (h.okz hx) h.oksh
     simp at q6
     simp! [sp5,z0g,z0r,q1,h2,z62 (z01 "off") (z01 "off"),q3,q4,andV,oS,q6,z37]
    ·simp! [sp5,z0g,z0r,q1,h1,h2,z62 (z01 "off") (z01 "off"),q3,h3,q4,h4,andV,z37]
  ·simp! [sp1,z0g,z0r,q1,h1,q2,h2,z37]
def encA:Option (Str×Str)->T
 | none=>.none
 | some (w,n)=>.tuple [.str w,.str n]
theorem zad (p:Pl) (c:Cs) (k:Cd) (d:Str) (z:Option Str) (m:Md) (h:Wf p c) (hk:k∈p.codes) (hd:okS d) (hz:okZ p d z):z0w [.obj m 0 (encC p c),.imm (z1r k),.imm (.str d),.imm (oS z)]=some (encA (against p k d z c)):=by
 have q1:=z0d hd (z01 "free")
 have q2:=z0d hd (z01 "set")
 have eu:=zeo p c d z .ro h hd hz
 have eb:=zqg p c ["day","once"] .ro h (by
  intro k hk
  simp at hk
  rcases hk with rfl|rfl
  ·exact z01 "day"
  ·exact z01 "once")
 simp only[z85,y0e,y1a] at eb
 have q3:=zav true (n:=if d="free" then ("shunt":Str) else d) (ns:=k.rights) (by
  split
  ·exact z01 "shunt"
  ·exact hd) (h.cn k hk).2.2
 simp at q3
 have qr:(ifE (tstB (op2 oEq (nm 2) (cst (.str "free")))) (cst (.str "shunt")) (nmV 2)) [some (.obj m 0 (encC p c)),some (.imm (z1r k)),some (.imm (.str d)),some (.imm (oS z)),none,none]=some (.str (if d="free" then ("shunt":Str) else d)):=by
  by_cases h0:d="free"
  ·simp! [sp4,q1,h0,z0d (z01 "free") (z01 "free")]
  ·simp! [sp4,q1,h0]
 simp only[z0w,z4c,runR,z5x,seq,asg,y0e,y1a,y0w,y2l,y0g,y2r,y2q,qr,y1t,y0p,y1m,y1j]
 generalize hr:(if d="free" then ("shunt":Str) else d)=r at q3 ⊢
 unfold against
 rw[hr]
 by_cases h1:r∈k.rights
 ·by_cases h2:z37 p d z c=true
  ·simp! [sp1,z1r,z5i,q3,h1,eu,h2,encA]
  ·simp at h2
   by_cases h3:d="set"
   ·subst h3
    cases e:bare p ["day","once"] c with
    | nil =>
     rw[e] at eb
     simp! [sp1,z1r,z5i,q3,h1,eu,h2,eb,q2,encA]
    | cons b bs =>
     rw[e] at eb
     simp! [sp1,z1r,z5i,q3,h1,eu,h2,eb,q2,encA]
   ·simp! [sp1,z1r,z5i,q3,h1,eu,h2,eb,q2,h3,encA]
 ·simp! [sp1,z1r,z5i,q3,h1,encA]
theorem Wf.setAl {p:Pl} {c:Cs} (h:Wf p c) (x:Int):Wf p { c with alarms:=[],siren:=0,mode:="leaving",left:=x }:=⟨h.zn,h.cn,h.zl,z01 "leaving",h.ca,fun e=>absurd e z5c,h.ln,h.lo,h.us,h.sh,by simp⟩
theorem zpw (p:Pl) (c:Cs) (w:Str) (h:Wf p c) (ht:c.told.length+60<big):z2d [.obj .lent 0 (encC p c),.imm (.str w)]=some (.none,encC p (doSet p w c)):=by
 have e1_:=z4d p { c with alarms:=[],siren:=0,mode:="leaving",left:=p.leave } "set" w (by show c.told.length<big;omega)
 have e2_:=z9t p (tell "set" (some w) { c with alarms:=[],siren:=0,mode:="leaving",left:=p.leave }) ((h.setAl p.leave).tell _ _) (by
  have:(tell "set" (some w) { c with alarms:=[],siren:=0,mode:="leaving",left:=p.leave }:Cs).told.length=c.told.length+1:=by simp[tell]
  omega)
 have lf:(tell "set" (some w) { c with alarms:=[],siren:=0,mode:="leaving",left:=p.leave }:Cs).left=p.leave:=rfl
 by_cases h1:p.leave<=0
 ·simp! [sp3,z2d,z6e,encP,e1_,lf,h1,e2_,doSet]
 ·simp! [sp3,z2d,z6e,encP,e1_,lf,h1,doSet]
theorem zkg (p:Pl) (c:Cs) (w:Str) (ht:c.told.length<big):z2c [.obj .lent 0 (encC p c),.imm (.str w)]=some (.none,encC p (doUnset w c)):=by
 have e1_:=z4d p { c with mode:="off",left:=0,siren:=0,came:=none,shunts:=[] } "unset" w ht
 simp! [sp3,z2c,z7c,e1_,doUnset]
theorem zbe:∀l:List Str,zd6 (l.map .str)=some l
 | []=>rfl
 | x::l=>by simp[zd6,zbe l]
noncomputable def okD (p:Pl) (d:Str) (z:Option Str) (c:Cs):Prop:=d="set"\/d="unset"\/(d="shunt"/\∃x,z=some x/\x∈p.zones.map (·.1))\/(d="free"/\∃x,z=some x/\x∈c.shunts)
theorem zn5 (p:Pl) (c:Cs) (w d:Str) (z:Option Str) (h:Wf p c) (hd:okS d) (hz:okD p d z c) (ht:c.told.length+60<big):z11 [.obj .lent 0 (encC p c),.imm (.str w),.imm (.str d),.imm (oS z)]=some (.none,encC p (doDeed p w d z c)):=by
 have q1:=z0d hd (z01 "set")
 have q2:=z0d hd (z01 "unset")
 have q3:=z0d hd (z01 "shunt")
 have es:=zpw p c w h ht
 have eu:=zkg p c w (by omega)
 rcases hz with rfl|rfl|⟨rfl,x,rfl,hx⟩|⟨rfl,x,rfl,hx⟩
 ·simp! [sp1,z11,z2u,q1,es,doDeed]
 ·simp! [sp5,z11,z2u,q1,q2,eu,doDeed]
 ·have hl:=h.shLen
  have e1_:=z4d p { c with shunts:=z87 (c.shunts++[x]) } "shunt" x (by show c.told.length<big;omega)
  have b1:c.shunts.length+1<=big:=by unfold big;omega
  have b2:c.shunts.length+1<64:=by omega
  have b0:1<=big:=by decide
  have b3:=zbe (c.shunts++[x])
  simp at b3
  simp! [sp5,z11,z2u,q1,q2,q3,oS,oAdd,b0,b1,b2,zcs,b3,e1_,doDeed]
 ·have e1_:=z4d p { c with shunts:=c.shunts.erase x } "free" x (by show c.told.length<big;omega)
  simp! [sp5,z11,z2u,q1,q2,q3,oS,rmF,zbe,hx,e1_,doDeed]
structure Wp (p:Pl):Prop where
 cd:(p.codes.map (·.fig)).Nodup
 zd:(p.zones.map (·.1)).Nodup
 cl:p.codes.length<=40
 ti:0<=p.leave/\0<=p.come/\0<=p.loud
theorem Wf.add {p:Pl} {c:Cs} (h:Wf p c) (f:Str):Wf p { c with used:=addU c.used f }:=⟨h.zn,h.cn,h.zl,h.mo,h.ca,h.cm,h.ln,h.lo,(zqm _ _).trans h.us,h.sh,h.al⟩
theorem Wf.tri {p:Pl} {c:Cs} (h:Wf p c) (n:Int):Wf p { c with tries:=n }:=⟨h.zn,h.cn,h.zl,h.mo,h.ca,h.cm,h.ln,h.lo,h.us,h.sh,h.al⟩
theorem zou {p:Pl} {c:Cs} {k:Cd} {d:Str} {z:Option Str} (hd:d="set"\/d="unset"\/d="shunt"\/d="free") (hz:okZ p d z) (ha:against p k d z c=none):okD p d z c:=by
 rcases hd with rfl|rfl|rfl|rfl
 ·exact .inl rfl
 ·exact .inr (.inl rfl)
 ·exact .inr (.inr (.inl ⟨rfl,hz (.inl rfl)⟩))
 ·refine .inr (.inr (.inr ⟨rfl,?_⟩))
  obtain⟨x,rfl,hx⟩:=hz (.inr rfl)
  refine⟨x,rfl,?_⟩
  refine Classical.byContradiction fun hu=>?_
  have:z37 p "free" (some x) c=true:=by
   by_cases hm:c.mode="off" <;> simp[z37,z55,z56,hu,hm]
  unfold against at ha
  rw[this] at ha
  by_cases hr:(if ("free":Str)="free" then ("shunt":Str) else "free")∈k.rights
  ·rw[if_neg (fun q=>q hr),if_pos rfl] at ha
   cases ha
  ·rw[if_pos hr] at ha
   cases ha
theorem zg6 (p:Pl) (c:Cs) (k:Cd) (d:Str) (z:Option Str) (h:Wf p c) (hp:Wp p) (hk:k∈p.codes) (hd:d="set"\/d="unset"\/d="shunt"\/d="free") (hz:okZ p d z) (ht:c.told.length+60<big):z15 [.obj .lent 0 (encC p c),.imm (z1r k),.imm (.str d),.imm (oS z)]=some (.none,encC p (takeRight p k d z c)):=by
 have od:okS d:=by
  rcases hd with rfl|rfl|rfl|rfl
  ·exact z01 "set"
  ·exact z01 "unset"
  ·exact z01 "shunt"
  ·exact z01 "free"
 have ea:=zad p c k d z .ro h hk od hz
 have ku:k.fig∈c.used.map (·.1):=by rw[h.us];exact y0m.mpr ⟨k,hk,rfl⟩
 cases e:against p k d z c with
 | none =>
  have hD:=zou hd hz e
  have g1:=zpm ku
  have g2:=zww ku (by rw[h.us];exact hp.cd)
  have hl:(dI c.used).length<big:=by
   have:=congrArg List.length h.us
   have:=hp.cl
   simp[dI] at *
   unfold big
   omega
  have ed:=zn5 p { c with used:=addU c.used k.fig } k.who d z (h.add _) od hD ht
  rw[e] at ea
  simp only[z1r] at ea
  simp! [sp1,z15,z47,ea,encA,z1r,z6i,g1,g2,hl,ed,takeRight,e]
 | some wn =>
  obtain⟨w,n⟩:=wn
  have et:=z4d p c w n (by omega)
  rw[e] at ea
  simp only[z1r] at ea
  simp! [sp1,z15,z47,ea,encA,z1r,et,takeRight,e]
theorem zfu {p:Pl} {f:Str} {k:Cd} (h:zfv p f=some k):k∈p.codes:=List.mem_of_find?_eq_some h
theorem zvx (p:Pl) (c:Cs) (f d:Str) (z:Option Str) (h:Wf p c) (hp:Wp p) (hf:okS f) (hd:d="set"\/d="unset"\/d="shunt"\/d="free") (hz:okZ p d z) (ht:c.told.length+60<big):z1y [.obj .lent 0 (encC p c),.imm (.str f),.imm (.str d),.imm (oS z)]=some (.none,encC p (code p f d z c)):=by
 have ec:=znc (fun k hk=>(h.cn k hk).1) hf
 have et:=zae p c "locked" (by omega)
 have ew:=zg5 p c (by omega)
 by_cases h1:0<c.locked
 ·simp! [sp3,z1y,z4p,ec,h1,et,code]
 ·cases e:zfv p f with
  | none =>
   rw[e] at ec
   simp! [sp3,z1y,z4p,ec,encO,h1,ew,code,e]
  | some k =>
   rw[e] at ec
   have hk:=zfu e
   have eu:=zm8 p c k h hk .ro
   have er:=zg6 p { c with tries:=0 } k d z (h.tri 0) hp hk hd hz ht
   cases h2:zd3 k c with
   | true =>
    rw[h2] at eu
    simp! [sp3,z1y,z4p,ec,encO,h1,eu,z1r] at eu ⊢
    simp[eu,ew,code,e,h1,h2]
   | false =>
    rw[h2] at eu
    simp! [sp3,z1y,z4p,ec,encO,h1,eu,z1r] at eu er ⊢
    simp! [sp8,eu,er,code,e,h1,h2]
inductive Et where
 | line (z w:Str)
 | code (f d:Str) (z:Option Str)
 | ticks (n:Int)
noncomputable def encE:Et->T
 | .line z w=>.tuple [.str "line",.str z,.str w]
 | .code f d z=>.tuple [.str "code",.str f,.str d,oS z]
 | .ticks n=>.tuple [.str "ticks",.int n]
noncomputable def okE (p:Pl):Et->Prop
 | .line z w=>z∈p.zones.map (·.1)/\(w="shut"\/w="open"\/w="cut")
 | .code f d z=>okS f/\(d="set"\/d="unset"\/d="shunt"\/d="free")/\okZ p d z
 | .ticks n=>1<=n
noncomputable def happen (p:Pl) (c:Cs):Et->Cs
 | .line z w=>line p z w c
 | .code f d z=>code p f d z c
 | .ticks n=>ticks p n c
theorem zpk (p:Pl) (c:Cs) (e:Et) (h:Wf p c) (hp:Wp p) (he:okE p e) (ht:c.told.length+60<big):z18 [.obj .lent 0 (encC p c),.imm (encE e)]=some (.none,encC p (happen p c e)):=by
 have q (x y:Str) (hx:okS x) (hy:okS y):=z0d hx hy
 cases e with
 | line z w =>
  have ow:okS w:=by
   rcases he.2 with rfl|rfl|rfl
   ·exact z01 "shut"
   ·exact z01 "open"
   ·exact z01 "cut"
  have el:=zvc p c z w h he.1 ow (by omega)
  simp! [sp1,z18,z4o,encE,z0d (z01 "line") (z01 "line"),el,happen]
 | code f d z =>
  have el:=zvx p c f d z h hp he.1 he.2.1 he.2.2 ht
  simp! [sp5,z18,z4o,encE,z0d (z01 "code") (z01 "line"),z0d (z01 "code") (z01 "code"),el,happen]
 | ticks n =>
  have el:=zqw p c n h (by omega)
  simp! [sp5,z18,z4o,encE,z0d (z01 "ticks") (z01 "line"),z0d (z01 "ticks") (z01 "code"),el,happen]
end Co
end
section
namespace Co
open D PySem
local instance:Tbl:=⟨[],fun _=>[],fun _=>none⟩
theorem z28 (w:Str) (n:Option Str) (c:Cs):(tell w n c).told.length=c.told.length+1:=by simp[tell]
theorem Wf.coming {p:Pl} {c:Cs} (h:Wf p c) (x:Int) {z:Str} (hz:z∈p.zones.map (·.1)):Wf p { c with mode:="coming",left:=x,came:=some z } :=
 ⟨h.zn,h.cn,h.zl,z01 "coming",fun y e=>y2k e▸⟨h.okz hz,hz⟩,fun _ e=>(nomatch e),h.ln,h.lo,h.us,h.sh,h.al⟩
theorem Wf.comeIn {p:Pl} {c:Cs} (h:Wf p c) {z:Str} (k:Str) (hz:z∈p.zones.map (·.1)):Wf p (comeIn p z k c):=by
 unfold Co.comeIn
 split
 ·exact h.alarm hz
 ·exact (h.coming p.come hz).tell _ _
theorem zkl (p:Pl) (z k:Str) (c:Cs):(comeIn p z k c).told.length<=c.told.length+1:=by
 unfold Co.comeIn
 split
 ·exact z7e p z c
 ·rw[z28];exact y0o _
theorem Wf.disturb {p:Pl} {c:Cs} (h:Wf p c) {z:Str} (w:Str) (hz:z∈p.zones.map (·.1)):Wf p (disturb p z w c):=by
 unfold Co.disturb
 repeat' split
 all_goals first|exact h.alarm hz|exact h.tell _ _|exact h.comeIn _ hz|exact h
theorem ziu (p:Pl) (z w:Str) (c:Cs):(disturb p z w c).told.length<=c.told.length+1:=by
 unfold Co.disturb
 repeat' split
 all_goals first|exact z7e p z c|exact zkl p z _ c|(rw[z28];exact y0o _)|omega
theorem Wf.line {p:Pl} {c:Cs} (h:Wf p c) {z w:Str} (hz:z∈p.zones.map (·.1)) (hw:okS w):Wf p (line p z w c):=by
 have h':=h.setLine z hw
 unfold Co.line
 repeat' split
 all_goals first|exact h|exact h'|exact h'.tell _ _|exact h'.disturb _ hz
theorem zp2 (p:Pl) (z w:Str) (c:Cs):(line p z w c).told.length<=c.told.length+1:=by
 unfold Co.line
 repeat' split
 all_goals first|omega|(rw[z28];exact y0o _)|exact ziu p z w { c with lines:=setL c.lines z w }|exact y2m _
theorem Wf.alarms {p:Pl}:∀{zs:List Str} {c:Cs},Wf p c->(∀z∈zs,z∈p.zones.map (·.1))->Wf p (Co.alarms p zs c)
 | [],_,h,_=>h
 | z::zs,c,h,hz=>Wf.alarms (zs:=zs) (h.alarm (hz z y0f)) fun y hy=>hz y (y05 _ hy)
theorem zeg (p:Pl):∀(zs:List Str) (c:Cs),(Co.alarms p zs c).told.length<=c.told.length+zs.length
 | [],c=>y0o _
 | z::zs,c=>by
  have h1:=zeg p zs (alarm p z c)
  have h2:=z7e p z c
  simp only[y0w]
  show (Co.alarms p zs (alarm p z c)).told.length<=_
  omega
theorem Wf.endLeaving {p:Pl} {c:Cs} (h:Wf p c):Wf p (endLeaving p c):=Wf.alarms ((h.on 0).tell _ _) fun z hz=>zcw hz
theorem z8k {p:Pl} {c:Cs} (h:Wf p c):(endLeaving p c).told.length<=c.told.length+41:=by
 have h1:=zeg p (bare p ["inner","way"] (tell "on" none { c with mode:="on",left:=0 })) (tell "on" none { c with mode:="on",left:=0 })
 have h2:=zm0 p ["inner","way"] (tell "on" none { c with mode:="on",left:=0 })
 have h3:=h.zl
 rw[z28] at h1
 show (Co.alarms p _ _).told.length<=_
 have h4:({ c with mode:="on",left:=0 }:Cs).told.length=c.told.length:=rfl
 omega
theorem Wf.endComing {p:Pl} {c:Cs} (h:Wf p c) (hc:c.came≠none):Wf p (endComing p c):=by
 obtain⟨z,hz⟩:=Option.ne_none_iff_exists'.mp hc
 unfold Co.endComing
 rw[hz]
 exact h.onComing.alarm (h.ca z hz).2
theorem zep (p:Pl) (c:Cs):(endComing p c).told.length<=c.told.length+1:=z7e _ _ _
theorem Wf.endTime {p:Pl} {c:Cs} (h:Wf p c) (hm:c.mode="leaving"\/c.mode="coming"):Wf p (endTime p c):=by
 unfold Co.endTime
 split
 ·exact h.endLeaving
 next q=>exact h.endComing (h.cm (hm.resolve_left q))
theorem zis {p:Pl} {c:Cs} (h:Wf p c):(endTime p c).told.length<=c.told.length+41:=by
 unfold Co.endTime
 split
 ·exact z8k h
 ·have:=zep p c
  omega
theorem Wf.ticks {p:Pl} {c:Cs} (h:Wf p c) (n:Int):Wf p (ticks p n c):=by
 unfold Co.ticks
 split
 ·exact h
 ·split
  next q=>exact ((h.cd _).endTime q.1).cd _
  ·exact h.cd _
theorem zmd {p:Pl} {c:Cs} (h:Wf p c) (n:Int):(ticks p n c).told.length<=c.told.length+41:=by
 unfold Co.ticks
 split
 ·omega
 ·split
  ·exact zis (h.cd c.left)
  ·exact Nat.le_add_right _ _
theorem Wf.takeWrong {p:Pl} {c:Cs} (h:Wf p c):Wf p (takeWrong p c):=by
 unfold Co.takeWrong
 split
 ·exact Wf.tell (Wf.loud (c:={ wrong1 c with tries:=0,locked:=90 }) ⟨h.zn,h.cn,h.zl,h.mo,h.ca,h.cm,h.ln,h.lo,h.us,h.sh,h.al⟩) _ _
 ·exact⟨h.zn,h.cn,h.zl,h.mo,h.ca,h.cm,h.ln,h.lo,h.us,h.sh,h.al⟩
theorem zei (p:Pl) (c:Cs):(takeWrong p c).told.length<=c.told.length+2:=by
 unfold Co.takeWrong
 split
 ·rw[z28]
  show (tell _ _ c).told.length+1<=_
  rw[z28]
  exact y0o _
 ·show (tell _ _ c).told.length<=_
  rw[z28]
  omega
theorem Wf.doSet {p:Pl} {c:Cs} (h:Wf p c) (w:Str):Wf p (doSet p w c):=by
 unfold Co.doSet
 have h':=(h.setAl p.leave).tell "set" (some w)
 show Wf p (if p.leave<=0 then _ else _)
 split
 ·exact h'.endLeaving
 ·exact h'
theorem zn7 {p:Pl} {c:Cs} (h:Wf p c) (w:Str):(doSet p w c).told.length<=c.told.length+42:=by
 unfold Co.doSet
 have h':=(h.setAl p.leave).tell "set" (some w)
 have e:=z28 "set" (some w) { c with alarms:=[],siren:=0,mode:="leaving",left:=p.leave }
 have e':({ c with alarms:=[],siren:=0,mode:="leaving",left:=p.leave }:Cs).told.length=c.told.length:=rfl
 show (if p.leave<=0 then endLeaving p _ else _:Cs).told.length<=_
 split
 ·have:=z8k h'
  omega
 ·omega
theorem Wf.doUnset {p:Pl} {c:Cs} (h:Wf p c) (w:Str):Wf p (doUnset w c) :=
 ⟨h.zn,h.cn,h.zl,z01 "off",fun z e=>(nomatch e),fun e=>absurd e z6s,h.ln,h.lo,h.us,by simp[Co.doUnset,Co.tell],h.al⟩
theorem Wf.doDeed {p:Pl} {c:Cs} (h:Wf p c) (w:Str) {d:Str} {z:Option Str} (hz:okD p d z c) (hn:d="shunt"->z.getD ""∉c.shunts):Wf p (doDeed p w d z c):=by
 rcases hz with rfl|rfl|⟨rfl,x,rfl,hx⟩|⟨rfl,x,rfl,hx⟩
 ·simp only[Co.doDeed,if_true];exact h.doSet w
 ·simp only[Co.doDeed,if_neg z7o,if_true];exact h.doUnset w
 ·simp only[Co.doDeed,if_neg z7p,if_neg z4j,if_true]
  refine Wf.tell (c:={ c with shunts:=z87 (c.shunts++[x]) }) ⟨h.zn,h.cn,h.zl,h.mo,h.ca,h.cm,h.ln,h.lo,h.us,⟨?_,?_⟩,h.al⟩ _ _
  ·show (z87 (c.shunts++[x])).Nodup
   rw[(z5u _).nodup_iff,y1p]
   refine⟨h.sh.1,by simp,fun a ha b hb e=>?_⟩
   simp at hb
   exact hn rfl (by show x∈_;exact hb▸e▸ha)
  ·intro y hy
   have hy':=(z5u _).mem_iff.mp hy
   rcases y11.mp hy' with q|q
   ·exact h.sh.2 y q
   ·simp at q
    exact q▸hx
 ·simp only[Co.doDeed,if_neg z93,if_neg z55,if_neg z56]
  refine Wf.tell (c:={ c with shunts:=c.shunts.erase x }) ⟨h.zn,h.cn,h.zl,h.mo,h.ca,h.cm,h.ln,h.lo,h.us,⟨?_,?_⟩,h.al⟩ _ _
  ·exact h.sh.1.erase x
  ·exact fun y hy=>h.sh.2 y (List.mem_of_mem_erase hy)
theorem zkh {p:Pl} {c:Cs} (h:Wf p c) (w d:Str) (z:Option Str):(doDeed p w d z c).told.length<=c.told.length+42:=by
 unfold Co.doDeed
 split
 ·exact zn7 h w
 ·split
  ·show (tell _ _ _).told.length<=_
   rw[z28]
   show c.told.length+1<=_
   omega
  ·split
   ·rw[z28]
    show c.told.length+1<=_
    omega
   ·rw[z28]
    show c.told.length+1<=_
    omega
theorem zhb {p:Pl} {c:Cs} {k:Cd} {z:Option Str} (ha:against p k "shunt" z c=none):z.getD ""∉c.shunts/\c.mode="off"/\kindOf p (z.getD "")≠"day":=by
 have hu:z37 p "shunt" z c≠true:=by
  intro q
  unfold against at ha
  rw[q] at ha
  by_cases hr:(if ("shunt":Str)="free" then ("shunt":Str) else "shunt")∈k.rights
  ·rw[if_neg (fun q=>q hr),if_pos rfl] at ha
   cases ha
  ·rw[if_pos hr] at ha
   cases ha
 unfold z37 at hu
 rw[if_neg z4j] at hu
 by_cases hm:c.mode="off"
 ·rw[if_neg (fun q=>q hm),if_pos rfl] at hu
  simp at hu
  exact⟨hu.2,hm,hu.1⟩
 ·rw[if_pos hm] at hu
  exact absurd rfl hu
theorem Wf.takeRight {p:Pl} {c:Cs} (h:Wf p c) (k:Cd) {d:Str} {z:Option Str} (hd:d="set"\/d="unset"\/d="shunt"\/d="free") (hz:okZ p d z):Wf p (takeRight p k d z c):=by
 unfold Co.takeRight
 split
 next e =>
  refine (h.add _).doDeed _ (zou hd hz e) fun q=>?_
  subst q
  exact (zhb e).1
 ·exact h.tell _ _
theorem zej {p:Pl} {c:Cs} (h:Wf p c) (k:Cd) (d:Str) (z:Option Str):(takeRight p k d z c).told.length<=c.told.length+42:=by
 unfold Co.takeRight
 split
 ·exact zkh (h.add k.fig) _ _ _
 ·rw[z28];omega
theorem Wf.code {p:Pl} {c:Cs} (h:Wf p c) (f:Str) {d:Str} {z:Option Str} (hd:d="set"\/d="unset"\/d="shunt"\/d="free") (hz:okZ p d z):Wf p (code p f d z c):=by
 unfold Co.code
 split
 ·exact h.tell _ _
 ·split
  ·exact h.takeWrong
  ·split
   ·exact h.takeWrong
   ·exact (h.tri 0).takeRight _ hd hz
theorem zq3 {p:Pl} {c:Cs} (h:Wf p c) (f d:Str) (z:Option Str):(code p f d z c).told.length<=c.told.length+42:=by
 have:=zei p c
 unfold Co.code
 split
 ·rw[z28];omega
 ·split
  ·omega
  ·split
   ·omega
   ·exact zej (h.tri 0) _ _ _
theorem zyw {p:Pl} {z w:Str} (he:okE p (.line z w)):okS w:=by
 rcases he.2 with rfl|rfl|rfl
 ·exact z01 "shut"
 ·exact z01 "open"
 ·exact z01 "cut"
theorem Wf.happen {p:Pl} {c:Cs} (h:Wf p c) {e:Et} (he:okE p e):Wf p (happen p c e):=by
 cases e with
 | line z w=>exact h.line he.1 (zyw he)
 | code f d z=>exact h.code f he.2.1 he.2.2
 | ticks n=>exact h.ticks n
theorem za3 {p:Pl} {c:Cs} (h:Wf p c) (e:Et):(happen p c e).told.length<=c.told.length+50:=by
 cases e with
 | line z w=>have:=zp2 p z w c;show (line p z w c).told.length<=_;omega
 | code f d z=>have:=zq3 h f d z;show (code p f d z c).told.length<=_;omega
 | ticks n=>have:=zmd h n;show (ticks p n c).told.length<=_;omega
def run (p:Pl) (c:Cs) (es:List Et):Cs:=es.foldl (happen p) c
def fresh (c:Cs):Cs:={ c with past:=0,told:=[] }
theorem Wf.fresh {p:Pl} {c:Cs} (h:Wf p c):Wf p (fresh c):=⟨h.zn,h.cn,h.zl,h.mo,h.ca,h.cm,h.ln,h.lo,h.us,h.sh,h.al⟩
theorem Wf.run {p:Pl}:∀{es:List Et} {c:Cs},Wf p c->(∀e∈es,okE p e)->Wf p (run p c es)
 | [],_,h,_=>h
 | e::es,c,h,he=>Wf.run (es:=es) (h.happen (he e y0f)) fun y hy=>he y (y05 _ hy)
theorem zcq {p:Pl}:∀{es:List Et} {c:Cs},Wf p c->(∀e∈es,okE p e)->(run p c es).told.length<=c.told.length+50*es.length
 | [],_,_,_=>y0o _
 | e::es,c,h,he=>by
  have h1:=zcq (es:=es) (h.happen (he e y0f)) fun y hy=>he y (y05 _ hy)
  have h2:=za3 h e
  show (run p (happen p c e) es).told.length<=_
  simp only[y0w]
  omega
noncomputable def encS (c:Cs):T:=.tuple [.str c.mode,.int c.left,oS c.came,.tuple (c.lines.map fun l=>.str l.2),.tuple (c.shunts.map .str),.int c.siren,.tuple (c.alarms.map .str),.int c.tries,.int c.locked,.tuple (c.used.map fun u=>.int u.2)]
theorem zst:∀(ks:List Str) (l:List (Str×Str)),l.map (·.1)=ks->zipD (ks.map .str) (l.map fun l=>.str l.2)=some (dS l)
 | [],[],_=>rfl
 | [],_::_,h=>by cases h
 | _::_,[],h=>by cases h
 | k::ks,x::l,h=>by
  simp at h
  simp[zipD,z6i,zst ks l h.2,dS,h.1]
theorem zsu:∀(ks:List Str) (l:List (Str×Int)),l.map (·.1)=ks->zipD (ks.map .str) (l.map fun l=>.int l.2)=some (dI l)
 | [],[],_=>rfl
 | [],_::_,h=>by cases h
 | _::_,[],h=>by cases h
 | k::ks,x::l,h=>by
  simp at h
  simp[zipD,z6i,zsu ks l h.2,dI,h.1]
theorem zi9 {l:List Str} (h:l.Nodup):(l.map (Sum.inr:Str->D.Key)).Nodup:=by
 rw[List.nodup_iff_pairwise_ne,List.pairwise_map]
 exact (List.nodup_iff_pairwise_ne.mp h).imp fun q e=>q (Sum.inr.inj e)
theorem zve (l:List (Str×Str)):(dS l).map (·.1)=(l.map (·.1)).map Sum.inr:=by simp[dS,y17]
theorem zvf (l:List (Str×Int)):(dI l).map (·.1)=(l.map (·.1)).map Sum.inr:=by simp[dI,y17]
theorem zh1 {α:Type} (enc:α->T) (g:α->T) (caps:Ev) (ts:List α) (s0:Option Sl) (h:∀a∈ts,(op2 oIx (nm 0) (cst (.int 0))) (some (.imm (enc a))::caps)=some (g a)):z3m (gNm 0) (cstT true) (op2 oIx (nm 0) (cst (.int 0))) (ts.map enc) (s0::caps)=some (ts.map g):=by
 have:=zft (cc:=cstT true) (ee:=op2 oIx (nm 0) (cst (.int 0))) (caps:=caps) enc (fun _=>true) g ts s0 fun a ha=>⟨rfl,fun _=>h a ha⟩
 rw[List.filter_eq_self.mpr (fun _ _=>rfl)] at this
 exact this
theorem zvk (p:Pl) (c:Cs) (h:Wf p c) (hp:Wp p):z2e [.obj .lent 0 [],.imm (encP p),.imm (encS c)]=some (.none,encC p (fresh c)):=by
 have hz:=h.zl
 have hc:=hp.cl
 have c1:=zh1 encZ (fun z=>.str z.1) [] p.zones none fun z hz=>by simp! [sp2,encZ]
 have c2:=zh1 z1r (fun z=>.str z.fig) [] p.codes none fun z hz=>by simp! [sp2,z1r]
 have z1:=zst (p.zones.map (·.1)) c.lines h.ln
 have z2:=zsu (p.codes.map (·.fig)) c.used h.us
 rw[y2s] at z1 z2
 have b1:p.zones.length<=big:=by unfold big;omega
 have b2:p.codes.length<=big:=by unfold big;omega
 have n1:((dS c.lines).map (·.1)).Nodup/\(dS c.lines).length<=1000/\∀t∈(p.zones.map fun z=>y20 z.1),(z6i t).isSome=true:=by
  refine⟨?_,?_,?_⟩
  ·rw[zve,h.ln];exact zi9 hp.zd
  ·have:=congrArg List.length h.ln
   simp[dS] at *
   omega
  ·intro t ht
   obtain⟨z,_,rfl⟩:=y0m.mp ht
   rfl
 have n2:((dI c.used).map (·.1)).Nodup/\(dI c.used).length<=1000/\∀t∈(p.codes.map fun z=>y20 z.fig),(z6i t).isSome=true:=by
  refine⟨?_,?_,?_⟩
  ·rw[zvf,h.us];exact zi9 hp.cd
  ·have:=congrArg List.length h.us
   simp[dI] at *
   omega
  ·intro t ht
   obtain⟨z,_,rfl⟩:=y0m.mp ht
   rfl
 have b0:(0<=big)=True:=by simp
 simp only[y17] at z1 z2
 simp only[z2e,z7d,runM,z5x]
 simp! [sp4,encP,encS,znh,zf9,c1,c2,b1,b2,z1,z2]
 rw[if_pos n1]
 simp! [sp4,zf9,znh,c1,c2,b1,b2,z1,z2]
 rw[if_pos ⟨n2.1,n2.2.1,fun a ha=>rfl⟩]
 simp! [sp4,encC,fresh,encP]
theorem zl6 (p:Pl) (c:Cs) (m:Md) (h:Wf p c):z22 [.obj m 0 (encC p c)]=some (encS c):=by
 have h1:=h.shLen
 have h2:=h.alLen
 have b1:c.shunts.length<=big:=by unfold big;omega
 have b2:c.alarms.length<=big:=by unfold big;omega
 simp! [sp1,z22,z9u,zpr,z1k,b1,b2,zl2,encS,dS,dI,y17]
theorem zle (p:Pl) (hp:Wp p):∀(es:List Et) (c:Cs) (s0 s1 s2 s4:Option Sl),Wf p c->(∀e∈es,okE p e)->c.told.length+50*es.length+60<big->∃s4',forL (gNm 4) (exX (z0s 0 z18 3 [(nmV 4)])) (es.map encE) [s0,s1,s2,some (.obj .own 0 (encC p c)),s4]=some (.nx [s0,s1,s2,some (.obj .own 0 (encC p (run p c es))),s4'])
 | [],c,s0,s1,s2,s4,_,_,_=>⟨s4,by simp[forL,run]⟩
 | e::es,c,s0,s1,s2,s4,h,he,ht=>by
  have hee:=he e y0f
  simp only[y0w] at ht
  have ea:=zpk p c e h hp hee (by omega)
  have:=za3 h e
  obtain⟨s1',ih⟩:=zle p hp es (happen p c e) s0 s1 s2 (some (.imm (encE e))) (h.happen hee) (fun y hy=>he y (y05 _ hy)) (by omega)
  refine⟨s1',?_⟩
  rw[y0e,forL]
  simp! [sp4,ea]
  simpa [runF,seq,iff,tstB,tstL,andT,orT,notT,cstT,ofT,op1,op2,opN,args,cst,nm,nmV,rtn,skip,asg,asgN,asgT,par,z06,z29,oIsN,z3j,oIx,atZ,ixOf,gNm,gTu,gAll,z0v,comp,z2h,run] using ih
theorem z6u (p:Pl) (c:Cs) (es:List Et) (h:Wf p c) (hp:Wp p) (he:∀e∈es,okE p e) (hl:es.length<=1000):z1b [encP p,encS c,.tuple (es.map encE)]=some (.obj .own 0 (encC p (run p (fresh c) es))):=by
 have ei:=zvk p c h hp
 have hb:(fresh c).told.length=0:=rfl
 have b2:(60000<big):=by decide
 obtain⟨s4',el⟩:=zle p hp es (fresh c) (some (.imm (encP p))) (some (.imm (encS c))) (some (.imm (.tuple (es.map encE)))) none h.fresh he (by omega)
 simp only[z1b,zab,runO]
 simp! [sp4,asgO,newO,ei,for_,rtnO]
 rw[el]
 simp[rtnO,ownS]
theorem zss (p:Pl) (c:Cs) (es:List Et) (h:Wf p c) (hp:Wp p) (he:∀e∈es,okE p e) (hl:es.length<=1000):za6 [encP p,encS c,.tuple (es.map encE)]=some (encS (run p (fresh c) es)):=by
 have e1_:=z6u p c es h hp he hl
 have e2_:=zl6 p (run p (fresh c) es) .ro (h.fresh.run he)
 simp! [sp2,za6,zql,zer,ofO,e1_,z8i,e2_]
theorem zl4 (p:Pl) (c:Cs) (es:List Et) (h:Wf p c) (hp:Wp p) (he:∀e∈es,okE p e) (hl:es.length<=1000):z6x [encP p,encS c,.tuple (es.map encE)]=some (.tuple ((run p (fresh c) es).told.map encW)):=by
 have e1_:=z6u p c es h hp he hl
 have hb:=zcq h.fresh he
 have b2:(60000<big):=by decide
 have h0:(fresh c).told.length=0:=rfl
 have b1:(run p (fresh c) es).told.length<=big:=by omega
 simp! [sp2,z6x,zqi,zer,zbn,e1_,z8i,e12,z1k,b1]
noncomputable def z23 (p:Pl):Cs:={ mode:="off",left:=0,came:=none,lines:=p.zones.map fun z=>(z.1,"shut"),shunts:=[],siren:=0,alarms:=[],tries:=0,locked:=0,used:=p.codes.map fun k=>(k.fig,0),past:=0,told:=[] }
theorem zsp (p:Pl) (hz:p.zones.length<=40) (hp:Wp p):zbs [encP p]=some (encS (z23 p)):=by
 have hc:=hp.cl
 have b1:p.zones.length<=big:=by unfold big;omega
 have b2:p.codes.length<=big:=by unfold big;omega
 have c1:=zft (cc:=cstT true) (ee:=cst (.str "shut")) (caps:=[]) encZ (fun _=>true) (fun _=>.str "shut") p.zones none fun a ha=>⟨rfl,fun _=>rfl⟩
 have c2:=zft (cc:=cstT true) (ee:=cst (.int 0)) (caps:=[]) z1r (fun _=>true) (fun _=>.int 0) p.codes none fun a ha=>⟨rfl,fun _=>rfl⟩
 rw[List.filter_eq_self.mpr (fun _ _=>rfl)] at c1 c2
 simp! [sp2,zbs,zqk,encP,z1k,b1,b2,c1,c2,zl2,encS,z23,oS,y17]
end Co
end
section
namespace Co
open D PySem
local instance:Tbl:=⟨[],fun _=>[],fun _=>none⟩
theorem zkn (ns:List Int) (k:Nat):z13 [z0h ns,.int k]=some (.int (ns.getD k 0)):=by
 by_cases h:k<ns.length
 ·have h':(k:Int)<(ns.length:Int):=by omega
  simp! [sp6,z13,z45,z0h,h,h',List.getD]
 ·have h':¬(k:Int)<(ns.length:Int):=by omega
  simp! [sp6,z13,z45,z0h,h,h',List.getD]
theorem z63 {i j:Int} (h:-(2 ^ 64)<j/\j<2 ^ 64):oMul (.int i) (.int j)=some (.int (i*j)):=by
 unfold oMul zmr
 simp only[decide_eq_true h.1,decide_eq_true h.2,Bool.and_self,Bool.or_true,if_true]
theorem z5m {i j:Int} (h:0<j):oMod (.int i) (.int j)=some (.int (i % j)):=if_pos h
theorem zfs {i j:Int} (h:0<j/\j<1073741824):oDiv (.int i) (.int j)=some (.int (i / j)):=if_pos h
theorem z36 {i j:Int}:oAdd (.int i) (.int j)=some (.int (i+j)):=rfl
theorem z17 {a b:Fs} {ε ε':Ev} (h:a ε=some (.nx ε')):seq a b ε=b ε':=by
 unfold seq
 rw[h]
 rfl
theorem zct (ns:List Int) (k:Nat):∃m:Int,0<=m/\z1e [z0h ns,.int k]=some (.int m):=by
 have hc:=zkn ns k
 have hd:0<=(ns.getD k 0+7919*(k:Int)+1)*48271 % 2147483647/\(ns.getD k 0+7919*(k:Int)+1)*48271 % 2147483647<2147483647:=⟨y2n _ (by decide),y2o _ (by decide)⟩
 generalize hx:(ns.getD k 0+7919*(k:Int)+1)*48271 % 2147483647=d at hd
 refine⟨(d*d+7*d+k) % 2147483629,y2n _ (by decide),?_⟩
 have e0:z1e [z0h ns,.int k]=(z6b [some (.imm (z0h ns)),some (.imm (.int k)),none]).bind fun o=>match o with|.rt t=>some t|.nx _=>some .none|_=>none:=rfl
 have m1:oMul (.int 7919) (.int k)=some (.int (7919*k)):=by
  unfold oMul zmr
  simp
 have n0:nmV 0 [some (.imm (z0h ns)),some (.imm (.int k)),none]=some (z0h ns):=rfl
 have n1:nmV 1 [some (.imm (z0h ns)),some (.imm (.int k)),none]=some (.int k):=rfl
 have n1':nm 1 [some (.imm (z0h ns)),some (.imm (.int k)),none]=some (.int k):=rfl
 have s1:asg 2 (op2 oMod (op2 oMul (op2 oAdd (op2 oAdd (opN z13 [(nmV 0),(nmV 1)]) (op2 oMul (cst (.int 7919)) (nm 1))) (cst (.int 1))) (cst (.int 48271))) (cst (.int 2147483647))) [some (.imm (z0h ns)),some (.imm (.int k)),none]=some (.nx [some (.imm (z0h ns)),some (.imm (.int k)),some (.imm (.int d))]):=by
  simp only[asg,op2,opN,args,n0,n1,n1',y0p,y1t,hc,cst,m1,z36,z63 (i:=ns.getD k 0+7919*(k:Int)+1) (j:=48271) (by decide),z5m (j:=2147483647) (by decide),hx]
  rfl
 have m2:oMul (.int d) (.int d)=some (.int (d*d)):=z63 (by omega)
 have m3:oMul (.int 7) (.int d)=some (.int (7*d)):=z63 (by omega)
 rw[e0]
 unfold z6b
 rw[z17 s1]
 have q2:nm 2 [some (.imm (z0h ns)),some (.imm (.int k)),some (.imm (.int d))]=some (.int d):=rfl
 have q1:nm 1 [some (.imm (z0h ns)),some (.imm (.int k)),some (.imm (.int d))]=some (.int k):=rfl
 simp only[rtn,op2,q2,q1,y0p,y1t,cst,m2,m3,z36,z5m (j:=2147483629) (by decide)]
theorem z96 (n k:Int) (hk:-(2 ^ 64)<k/\k<2 ^ 64):∃m:Int,0<=m/\z0p [.int n,.int k]=some (.int m):=by
 have hd:0<=(n+104729*k+17)*69621 % 2147483647/\(n+104729*k+17)*69621 % 2147483647<2147483647:=⟨y2n _ (by decide),y2o _ (by decide)⟩
 generalize hx:(n+104729*k+17)*69621 % 2147483647=d at hd
 refine⟨(d*d+3*d+k) % 2147483629,y2n _ (by decide),?_⟩
 have e0:z0p [.int n,.int k]=(z6c [some (.imm (.int n)),some (.imm (.int k)),none]).bind fun o=>match o with|.rt t=>some t|.nx _=>some .none|_=>none:=rfl
 have m1:oMul (.int 104729) (.int k)=some (.int (104729*k)):=z63 hk
 have n0:nm 0 [some (.imm (.int n)),some (.imm (.int k)),none]=some (.int n):=rfl
 have n1:nm 1 [some (.imm (.int n)),some (.imm (.int k)),none]=some (.int k):=rfl
 have s1:asg 2 (op2 oMod (op2 oMul (op2 oAdd (op2 oAdd (nm 0) (op2 oMul (cst (.int 104729)) (nm 1))) (cst (.int 17))) (cst (.int 69621))) (cst (.int 2147483647))) [some (.imm (.int n)),some (.imm (.int k)),none]=some (.nx [some (.imm (.int n)),some (.imm (.int k)),some (.imm (.int d))]):=by
  simp only[asg,op2,n0,n1,y0p,y1t,cst,m1,z36,z63 (i:=n+104729*k+17) (j:=69621) (by decide),z5m (j:=2147483647) (by decide),hx]
  rfl
 have m2:oMul (.int d) (.int d)=some (.int (d*d)):=z63 (by omega)
 have m3:oMul (.int 3) (.int d)=some (.int (3*d)):=z63 (by omega)
 rw[e0]
 unfold z6c
 rw[z17 s1]
 have q2:nm 2 [some (.imm (.int n)),some (.imm (.int k)),some (.imm (.int d))]=some (.int d):=rfl
 have q1:nm 1 [some (.imm (.int n)),some (.imm (.int k)),some (.imm (.int d))]=some (.int k):=rfl
 simp only[rtn,op2,q2,q1,y0p,y1t,cst,m2,m3,z36,z5m (j:=2147483629) (by decide)]
theorem z4i (a b:Int):oEq (.int a) (.int b)=some (.bool (decide (a=b))):=by
 unfold oEq
 rw[z9z,z9z]
 by_cases e:a=b <;> simp[y25,e]
theorem divQ (m:Int) (j:Int) (h:0<j/\j<1073741824:=by decide):∃q,q=m / j/\oDiv (.int m) (.int j)=some (.int q):=⟨_,rfl,zfs h⟩
theorem modQ (m:Int) (j:Int) (h:0<j:=by decide):∃q,q=m % j/\0<=q/\q<j/\oMod (.int m) (.int j)=some (.int q):=⟨_,rfl,y2n _ (by omega),y2o _ h,z5m h⟩
theorem ixT {ts:List T} {j:Int} (h0:0<=j) (h1:j<ts.length):∃t∈ts,oIx (.tuple ts) (.int j)=some t:=by
 have hj:j.toNat<ts.length:=by omega
 refine⟨ts[j.toNat],List.getElem_mem hj,?_⟩
 simp only[oIx,atZ,ixOf,if_pos h0,if_pos h1,y0p]
 exact y0v hj
theorem ixS (ss:List Str) {j:Int} (h0:0<=j) (h1:j<ss.length):∃s∈ss,oIx (.tuple (ss.map .str)) (.int j)=some (.str s):=by
 obtain⟨t,ht,e⟩:=ixT (ts:=ss.map .str) h0 (by simpa using h1)
 obtain⟨s,hs,rfl⟩:=y0m.mp ht
 exact⟨s,hs,e⟩
theorem ixI (ss:List Int) {j:Int} (h0:0<=j) (h1:j<ss.length):∃s∈ss,oIx (.tuple (ss.map .int)) (.int j)=some (.int s):=by
 obtain⟨t,ht,e⟩:=ixT (ts:=ss.map .int) h0 (by simpa using h1)
 obtain⟨s,hs,rfl⟩:=y0m.mp ht
 exact⟨s,hs,e⟩
theorem zkd:(5<=big)=True:=by simp[big]
theorem z8h:(4<=big)=True:=by simp[big]
theorem z38:(3<=big)=True:=by simp[big]
theorem znx:(6<=big)=True:=by simp[big]
theorem zsf:(8<=big)=True:=by simp[big]
theorem zdg:(1<=big)=True:=by simp[big]
noncomputable def bZ:Fs:=(seq (asg 4 (op2 oDiv (opN z0p [(nmV 0),(nmV 2)]) (cst (.int 4))))
  (iff (orT (tstB (op2 oLt (op2 oMod (nm 4) (cst (.int 8))) (op2 oAdd (cst (.int 3)) (op2 oMod (nm 0) (cst (.int 5)))))) (tstB (op2 oEq (nm 2) (op2 oMod (op2 oDiv (nm 0) (cst (.int 8))) (cst (.int 8)))))) (asg 1 (op2 oAdd (nm 1) (z06 [(z06 [(nmV 3),(op2 oIx (z06 [(cst (.str "day")),(cst (.str "inner")),(cst (.str "once")),(cst (.str "way")),(cst (.str "way"))]) (op2 oMod (op2 oDiv (nm 4) (cst (.int 8))) (cst (.int 5))))])]))) skip))
def encK (x:Int×Str):T:=.tuple [.int x.1,.str x.2]
def kinds:List Str:=["day","inner","once","way","way"]
theorem zcz (n:Int):∀(l:List (Int×Str)) (acc:List (Str×Str)) (s2 s3 s4:Option Sl),(∀x∈l,0<=x.1/\x.1<100)->acc.length+l.length<=20->∃zs s2' s3' s4',(zs.map (·.1)).Sublist (l.map (·.2))/\(∀z∈zs,z.2∈kinds)/\((∃x∈l,x.1=n / 8 % 8)->zs≠[]) /\
  forL (gTu [(gNm 2),(gNm 3)]) bZ (l.map encK) [some (.imm (.int n)),some (.imm (.tuple (acc.map encZ))),s2,s3,s4,none,none,none,none,none]=some (.nx [some (.imm (.int n)),some (.imm (.tuple ((acc++zs).map encZ))),s2',s3',s4',none,none,none,none,none])
 | [],acc,s2,s3,s4,_,_=>⟨[],s2,s3,s4,.refl _,by simp,by simp,by simp[forL]⟩
 | x::l,acc,s2,s3,s4,hx,hl=>by
  obtain⟨m,hm,e1_⟩:=z96 n x.1 (by have:=hx x y0f;omega)
  obtain⟨q,hq,e2_⟩:=divQ m 4
  obtain⟨r,_,_,_,e3_⟩:=modQ q 8
  obtain⟨r',_,_,_,e4_⟩:=modQ n 5
  obtain⟨q1,hq1,e5_⟩:=divQ n 8
  obtain⟨r1,hr1,_,_,e6_⟩:=modQ q1 8
  obtain⟨q2,hq2,e7_⟩:=divQ q 8
  obtain⟨r2,_,h0,h1,e8_⟩:=modQ q2 5
  obtain⟨s,hs,e9_⟩:=ixS kinds h0 h1
  simp only[kinds,y0e,y1a] at e9_
  simp only[y0w] at hl
  have b1:acc.length+1<=big:=by unfold big;omega
  have hx':∀y∈l,0<=y.1/\y.1<100:=fun y hy=>hx y (y05 _ hy)
  by_cases hc:r<3+r'\/x.1=r1
  ·obtain⟨zs,s2',s3',s4',i1,i2,i3,i4⟩:=zcz n l (acc++[(x.2,s)]) (some (.imm (.int x.1))) (some (.imm (.str x.2))) (some (.imm (.int q))) hx' (by simp;omega)
   refine⟨(x.2,s)::zs,s2',s3',s4',by simpa using i1,fun z hz=>?_,fun _=>by simp,?_⟩
   ·rcases y09.mp hz with rfl|hz
    ·exact hs
    ·exact i2 z hz
   ·rw[y0e,forL]
    have:bZ [some (.imm (.int n)),some (.imm (.tuple (acc.map encZ))),some (.imm (.int x.1)),some (.imm (.str x.2)),s4,none,none,none,none,none]=some (.nx [some (.imm (.int n)),some (.imm (.tuple ((acc++[(x.2,s)]).map encZ))),some (.imm (.int x.1)),some (.imm (.str x.2)),some (.imm (.int q)),none,none,none,none,none]):=by
     by_cases hc':r<3+r'
     ·simp! [sp9,bZ,e1_,e2_,e3_,e4_,e5_,e6_,e7_,e8_,e9_,z36,oLt,hc',oAdd,b1,zkd,z5i,zdg,encZ]
     ·have e10_:oEq (.int x.1) (.int r1)=some (.bool true):=by rw[z4i,decide_eq_true (hc.resolve_left hc')]
      simp! [sp9,bZ,e1_,e2_,e3_,e4_,e5_,e6_,e7_,e8_,e9_,z36,oLt,hc',e10_,oAdd,b1,zkd,z5i,zdg,encZ]
    simp only[encK,gTu,gAll,gNm,y0p,y1m,y1j,this]
    simpa using i4
  ·obtain⟨zs,s2',s3',s4',i1,i2,i3,i4⟩:=zcz n l acc (some (.imm (.int x.1))) (some (.imm (.str x.2))) (some (.imm (.int q))) hx' (by omega)
   refine⟨zs,s2',s3',s4',i1.cons _,i2,fun⟨y,hy,e⟩=>i3 ?_,?_⟩
   ·rcases y09.mp hy with rfl|hy
    ·exact absurd (.inr (by rw[e,hr1,hq1])) hc
    ·exact⟨y,hy,e⟩
   ·rw[y0e,forL]
    have:bZ [some (.imm (.int n)),some (.imm (.tuple (acc.map encZ))),some (.imm (.int x.1)),some (.imm (.str x.2)),s4,none,none,none,none,none]=some (.nx [some (.imm (.int n)),some (.imm (.tuple (acc.map encZ))),some (.imm (.int x.1)),some (.imm (.str x.2)),some (.imm (.int q)),none,none,none,none,none]):=by
     have h1':¬r<3+r':=fun z=>hc (.inl z)
     have h2':¬x.1=r1:=fun z=>hc (.inr z)
     simp! [sp9,bZ,e1_,e2_,e3_,e4_,e5_,e6_,e7_,e8_,e9_,z36,oLt,h1',h2',z4i]
    simp only[encK,gTu,gAll,gNm,y0p,y1m,y1j,this]
    exact i4
theorem rng3:rng 0 3=[.int 0,.int 1,.int 2]:=by simp[rng,List.range_succ]
noncomputable def cR:Ft:=tstB (op2 oGt (op2 oMod (op2 oDiv (nm 1) (op2 oIx (z06 [(cst (.int 4)),(cst (.int 16)),(cst (.int 64))]) (nm 0))) (cst (.int 4))) (cst (.int 0)))
noncomputable def eR:Fe:=op2 oIx (z06 [(cst (.str "set")),(cst (.str "shunt")),(cst (.str "unset"))]) (nm 0)
def zgh:List Str:=["set","shunt","unset"]
theorem zo7 (q:Int) (ε:Ev) (h:(ε[4]?).join=some (.imm (.int q))):∃rs:List Str,rs.Sublist zgh/\comp 1 [4] (z2w (cst (.int 3))) (gNm 0) cR eR ε=some (.list (rs.map .str)):=by
 have key:∀j j':Int,oIx (.tuple [.int 4,.int 16,.int 64]) (.int j)=some (.int j')->0<j'->j'<1073741824->∃b,cR [some (.imm (.int j)),some (.imm (.int q))]=some b:=by
  intro j j' h1 h2 h3
  obtain⟨q1,_,e1_⟩:=divQ q j' ⟨h2,h3⟩
  obtain⟨r1,_,_,_,e2_⟩:=modQ q1 4
  exact⟨decide (0<r1),by simp! [sp9,cR,h1,e1_,e2_,oGt,z38]⟩
 obtain⟨b0,k0⟩:=key 0 4 (by simp[oIx,atZ,ixOf]) (by decide) (by decide)
 obtain⟨b1,k1⟩:=key 1 16 (by simp[oIx,atZ,ixOf]) (by decide) (by decide)
 obtain⟨b2,k2⟩:=key 2 64 (by simp[oIx,atZ,ixOf]) (by decide) (by decide)
 have r0:eR [some (.imm (.int 0)),some (.imm (.int q))]=some (.str "set"):=by simp! [sp2,eR,z38]
 have r1:eR [some (.imm (.int 1)),some (.imm (.int q))]=some (.str "shunt"):=by simp! [sp2,eR,z38]
 have r2:eR [some (.imm (.int 2)),some (.imm (.int q))]=some (.str "unset"):=by simp! [sp2,eR,z38]
 have c0:comp 1 [4] (z2w (cst (.int 3))) (gNm 0) cR eR ε=(z3m (gNm 0) cR eR [.int 0,.int 1,.int 2] [none,some (.imm (.int q))]).map .list:=by
  have s3:z6w 3=true:=by decide
  simp[comp,z2w,cst,s3,rng3,z2h,h,z38]
 rw[c0]
 cases b0 <;> cases b1 <;> cases b2
 ·exact⟨[],by simp,by simp[z3m,gNm,k0,k1,k2]⟩
 ·exact⟨["unset"],by decide,by simp[z3m,gNm,k0,k1,k2,r0,r1,r2]⟩
 ·exact⟨["shunt"],by decide,by simp[z3m,gNm,k0,k1,k2,r0,r1,r2]⟩
 ·exact⟨["shunt","unset"],by decide,by simp[z3m,gNm,k0,k1,k2,r0,r1,r2]⟩
 ·exact⟨["set"],by decide,by simp[z3m,gNm,k0,k1,k2,r0,r1,r2]⟩
 ·exact⟨["set","unset"],by decide,by simp[z3m,gNm,k0,k1,k2,r0,r1,r2]⟩
 ·exact⟨["set","shunt"],by decide,by simp[z3m,gNm,k0,k1,k2,r0,r1,r2]⟩
 ·exact⟨["set","shunt","unset"],by decide,by simp[z3m,gNm,k0,k1,k2,r0,r1,r2]⟩
noncomputable def bC:Fs:=(seq (asg 4 (op2 oDiv (opN z0p [(nmV 0),(op2 oAdd (cst (.int 10)) (nm 2))]) (cst (.int 4))))
  (iff (orT (tstB (op2 oGt (op2 oMod (nm 4) (cst (.int 3))) (cst (.int 0)))) (tstB (op2 oEq (nm 2) (cst (.int 1))))) (seq (asg 7 (opN z1k [(comp 1 [4] (z2w (cst (.int 3))) (gNm 0) cR eR)]))
  (seq (asg 8 (op2 oIx (z06 [(cst (.str "ann")),(cst (.str "bo")),(cst (.str "cy"))]) (op2 oMod (op2 oDiv (nm 4) (cst (.int 256))) (cst (.int 3)))))
  (asg 5 (op2 oAdd (nm 5) (z06 [(z06 [(nmV 6),(nmV 8),(nmV 7),(op2 oIx (z06 [(cst (.int 0)),(cst (.int 0)),(cst (.int 1)),(cst (.int 2)),(cst (.int 9))]) (op2 oMod (op2 oDiv (nm 4) (cst (.int 1024))) (cst (.int 5))))])]))))) skip))
def whos:List Str:=["ann","bo","cy"]
theorem zbt (n:Int) (s1 s3:Option Sl):∀(l:List (Int×Str)) (acc:List Cd) (s2 s4 s6 s7 s8:Option Sl),(∀x∈l,0<=x.1/\x.1<100)->acc.length+l.length<=20->∃ks s2' s4' s6' s7' s8',(ks.map (·.fig)).Sublist (l.map (·.2))/\(∀k∈ks,k.who∈whos/\k.rights.Sublist zgh/\k.uses∈([0,0,1,2,9]:List Int))/\((∃x∈l,x.1=1)->ks≠[]) /\
  forL (gTu [(gNm 2),(gNm 6)]) bC (l.map encK) [some (.imm (.int n)),s1,s2,s3,s4,some (.imm (.tuple (acc.map z1r))),s6,s7,s8,none]=some (.nx [some (.imm (.int n)),s1,s2',s3,s4',some (.imm (.tuple ((acc++ks).map z1r))),s6',s7',s8',none])
 | [],acc,s2,s4,s6,s7,s8,_,_=>⟨[],s2,s4,s6,s7,s8,.refl _,by simp,by simp,by simp[forL]⟩
 | x::l,acc,s2,s4,s6,s7,s8,hx,hl=>by
  obtain⟨m,hm,e1_⟩:=z96 n (10+x.1) (by have:=hx x y0f;omega)
  obtain⟨q,hq,e2_⟩:=divQ m 4
  obtain⟨r,_,_,_,e3_⟩:=modQ q 3
  obtain⟨q1,hq1,e5_⟩:=divQ q 256
  obtain⟨r1,hr1,h0,h1,e6_⟩:=modQ q1 3
  obtain⟨q2,hq2,e7_⟩:=divQ q 1024
  obtain⟨r2,_,h2,h3,e8_⟩:=modQ q2 5
  obtain⟨s,hs,e9_⟩:=ixS whos h0 h1
  obtain⟨u,hu,e10_⟩:=ixI [0,0,1,2,9] h2 h3
  simp only[whos,y0e,y1a] at e9_ e10_
  simp only[y0w] at hl
  have b1:acc.length+1<=big:=by unfold big;omega
  have hx':∀y∈l,0<=y.1/\y.1<100:=fun y hy=>hx y (y05 _ hy)
  obtain⟨rs,hrs,e11_⟩:=zo7 q [some (.imm (.int n)),s1,some (.imm (.int x.1)),s3,some (.imm (.int q)),some (.imm (.tuple (acc.map z1r))),some (.imm (.str x.2)),s7,s8,none] rfl
  by_cases hc:0<r\/x.1=1
  ·obtain⟨ks,s2',s4',s6',s7',s8',i1,i2,i3,i4⟩:=zbt n s1 s3 l (acc++[(⟨x.2,s,rs,u⟩:Cd)]) (some (.imm (.int x.1))) (some (.imm (.int q))) (some (.imm (.str x.2))) (some (.imm (.tuple (rs.map .str)))) (some (.imm (.str s))) hx' (by simp;omega)
   refine⟨⟨x.2,s,rs,u⟩::ks,s2',s4',s6',s7',s8',by simpa using i1,fun z hz=>?_,fun _=>by simp,?_⟩
   ·rcases y09.mp hz with rfl|hz
    ·exact⟨hs,hrs,hu⟩
    ·exact i2 z hz
   ·rw[y0e,forL]
    have:bC [some (.imm (.int n)),s1,some (.imm (.int x.1)),s3,s4,some (.imm (.tuple (acc.map z1r))),some (.imm (.str x.2)),s7,s8,none]=some (.nx [some (.imm (.int n)),s1,some (.imm (.int x.1)),s3,some (.imm (.int q)),some (.imm (.tuple ((acc++[(⟨x.2,s,rs,u⟩:Cd)]).map z1r))),some (.imm (.str x.2)),some (.imm (.tuple (rs.map .str))),some (.imm (.str s)),none]):=by
     have s1':asg 4 (op2 oDiv (opN z0p [(nmV 0),(op2 oAdd (cst (.int 10)) (nm 2))]) (cst (.int 4))) [some (.imm (.int n)),s1,some (.imm (.int x.1)),s3,s4,some (.imm (.tuple (acc.map z1r))),some (.imm (.str x.2)),s7,s8,none]=some (.nx [some (.imm (.int n)),s1,some (.imm (.int x.1)),s3,some (.imm (.int q)),some (.imm (.tuple (acc.map z1r))),some (.imm (.str x.2)),s7,s8,none]):=by
      simp! [sp9,z36,e1_,e2_]
     have s2':asg 7 (opN z1k [(comp 1 [4] (z2w (cst (.int 3))) (gNm 0) cR eR)]) [some (.imm (.int n)),s1,some (.imm (.int x.1)),s3,some (.imm (.int q)),some (.imm (.tuple (acc.map z1r))),some (.imm (.str x.2)),s7,s8,none]=some (.nx [some (.imm (.int n)),s1,some (.imm (.int x.1)),s3,some (.imm (.int q)),some (.imm (.tuple (acc.map z1r))),some (.imm (.str x.2)),some (.imm (.tuple (rs.map .str))),s8,none]):=by
      simp only[asg,opN,args,e11_,y0p,y1t,z1k]
      rfl
     unfold bC
     rw[z17 s1']
     have ct:orT (tstB (op2 oGt (op2 oMod (nm 4) (cst (.int 3))) (cst (.int 0)))) (tstB (op2 oEq (nm 2) (cst (.int 1)))) [some (.imm (.int n)),s1,some (.imm (.int x.1)),s3,some (.imm (.int q)),some (.imm (.tuple (acc.map z1r))),some (.imm (.str x.2)),s7,s8,none]=some true:=by
      by_cases hc':0<r
      ·simp! [sp9,e3_,oGt,hc']
      ·have e12_:oEq (.int x.1) (.int 1)=some (.bool true):=by rw[z4i,decide_eq_true (hc.resolve_left hc')]
       simp! [sp9,e3_,oGt,hc',e12_]
     simp only[iff,ct,y0p,if_true]
     rw[z17 s2']
     simp! [sp9,e3_,e5_,e6_,e7_,e8_,e9_,e10_,oAdd,b1,zkd,z8h,z38,zdg,z1r]
    simp only[encK,gTu,gAll,gNm,y0p,y1m,y1j,this]
    simpa using i4
  ·obtain⟨ks,s2',s4',s6',s7',s8',i1,i2,i3,i4⟩:=zbt n s1 s3 l acc (some (.imm (.int x.1))) (some (.imm (.int q))) (some (.imm (.str x.2))) s7 s8 hx' (by omega)
   refine⟨ks,s2',s4',s6',s7',s8',i1.cons _,i2,fun⟨y,hy,e⟩=>i3 ?_,?_⟩
   ·rcases y09.mp hy with rfl|hy
    ·exact absurd (.inr e) hc
    ·exact⟨y,hy,e⟩
   ·rw[y0e,forL]
    have:bC [some (.imm (.int n)),s1,some (.imm (.int x.1)),s3,s4,some (.imm (.tuple (acc.map z1r))),some (.imm (.str x.2)),s7,s8,none]=some (.nx [some (.imm (.int n)),s1,some (.imm (.int x.1)),s3,some (.imm (.int q)),some (.imm (.tuple (acc.map z1r))),some (.imm (.str x.2)),s7,s8,none]):=by
     have h1':¬0<r:=fun z=>hc (.inl z)
     have e12_:oEq (.int x.1) (.int 1)=some (.bool false):=by rw[z4i,decide_eq_false fun z=>hc (.inr z)]
     simp! [sp9,bC,e1_,e2_,e3_,z36,oGt,h1',e12_]
    simp only[encK,gTu,gAll,gNm,y0p,y1m,y1j,this]
    exact i4
noncomputable def zN:List (Int×Str):=[(0,"a"),(1,"b"),(2,"back"),(3,"d"),(4,"hall"),(5,"r"),(6,"win"),(7,"z")]
noncomputable def cN:List (Int×Str):=[(0,"0000"),(1,"1234"),(2,"4321"),(3,"7777"),(4,"9990"),(5,"9999")]
structure DP (p:Pl):Prop where
 zs:(p.zones.map (·.1)).Sublist (zN.map (·.2))
 zk:∀z∈p.zones,z.2∈kinds
 z0:p.zones≠[]
 cs:(p.codes.map (·.fig)).Sublist (cN.map (·.2))
 ck:∀k∈p.codes,k.who∈whos/\k.rights.Sublist zgh/\k.uses∈([0,0,1,2,9]:List Int)
 c0:p.codes≠[]
 tl:p.leave∈([0,5,30,60]:List Int)
 tc:p.come∈([0,4,20,60]:List Int)
 to:p.loud∈([1,9,120,300]:List Int)
theorem zus (n:Int):∃p,DP p/\zb3 [.int n]=some (encP p):=by
 obtain⟨zs,s2,s3,s4,i1,i2,i3,i4⟩:=zcz n zN [] none none none (by decide) (by decide)
 have hz0:zs≠[]:=i3 (by
  have h1:0<=n / 8 % 8:=y2n _ (by decide)
  have h2:n / 8 % 8<8:=y2o _ (by decide)
  generalize n / 8 % 8=r at h1 h2
  have:r=0\/r=1\/r=2\/r=3\/r=4\/r=5\/r=6\/r=7:=by omega
  rcases this with rfl|rfl|rfl|rfl|rfl|rfl|rfl|rfl
  ·exact⟨(0,"a"),by simp[zN],rfl⟩
  ·exact⟨(1,"b"),by simp[zN],rfl⟩
  ·exact⟨(2,"back"),by simp[zN],rfl⟩
  ·exact⟨(3,"d"),by simp[zN],rfl⟩
  ·exact⟨(4,"hall"),by simp[zN],rfl⟩
  ·exact⟨(5,"r"),by simp[zN],rfl⟩
  ·exact⟨(6,"win"),by simp[zN],rfl⟩
  ·exact⟨(7,"z"),by simp[zN],rfl⟩)
 obtain⟨ks,t2,t4,t6,t7,t8,j1,j2,j3,j4⟩:=zbt n (some (.imm (.tuple (zs.map encZ)))) s3 cN [] s2 s4 none none none (by decide) (by decide)
 have hk0:ks≠[]:=j3 ⟨(1,"1234"),by simp[cN],rfl⟩
 obtain⟨m,hm,e1_⟩:=z96 n 20 (by decide)
 obtain⟨q,hq,e2_⟩:=divQ m 4
 obtain⟨r,_,a0,a1,e3_⟩:=modQ q 4
 obtain⟨q1,hq1,e4_⟩:=divQ q 4
 obtain⟨r1,_,b0,b1,e5_⟩:=modQ q1 4
 obtain⟨q2,hq2,e6_⟩:=divQ q 16
 obtain⟨r2,_,c0,c1,e7_⟩:=modQ q2 4
 obtain⟨u,hu,e8_⟩:=ixI [0,5,30,60] a0 a1
 obtain⟨v,hv,e9_⟩:=ixI [0,4,20,60] b0 b1
 obtain⟨w,hw,e10_⟩:=ixI [1,9,120,300] c0 c1
 simp only[y0e,y1a] at e8_ e9_ e10_
 refine⟨⟨zs,ks,u,v,w⟩,⟨i1,i2,hz0,j1,j2,hk0,hu,hv,hw⟩,?_⟩
 have f1:for_ (z3f (z31 (z06 [(cst (.str "a")),(cst (.str "b")),(cst (.str "back")),(cst (.str "d")),(cst (.str "hall")),(cst (.str "r")),(cst (.str "win")),(cst (.str "z"))]))) (gTu [(gNm 2),(gNm 3)]) bZ [some (.imm (.int n)),some (.imm (.tuple [])),none,none,none,none,none,none,none,none]=some (.nx [some (.imm (.int n)),some (.imm (.tuple (zs.map encZ))),s2,s3,s4,none,none,none,none,none]):=by
  have:(z3f (z31 (z06 [(cst (.str "a")),(cst (.str "b")),(cst (.str "back")),(cst (.str "d")),(cst (.str "hall")),(cst (.str "r")),(cst (.str "win")),(cst (.str "z"))]))) [some (.imm (.int n)),some (.imm (.tuple [])),none,none,none,none,none,none,none,none]=some (zN.map encK):=by
   simp[z3f,z31,z06,args,cst,zsf,enum,zN,encK,List.zipIdx]
  unfold for_
  rw[this]
  exact i4
 have f2:for_ (z3f (z31 (z06 [(cst (.str "0000")),(cst (.str "1234")),(cst (.str "4321")),(cst (.str "7777")),(cst (.str "9990")),(cst (.str "9999"))]))) (gTu [(gNm 2),(gNm 6)]) bC [some (.imm (.int n)),some (.imm (.tuple (zs.map encZ))),s2,s3,s4,some (.imm (.tuple [])),none,none,none,none]=some (.nx [some (.imm (.int n)),some (.imm (.tuple (zs.map encZ))),t2,s3,t4,some (.imm (.tuple (ks.map z1r))),t6,t7,t8,none]):=by
  have:(z3f (z31 (z06 [(cst (.str "0000")),(cst (.str "1234")),(cst (.str "4321")),(cst (.str "7777")),(cst (.str "9990")),(cst (.str "9999"))]))) [some (.imm (.int n)),some (.imm (.tuple (zs.map encZ))),s2,s3,s4,some (.imm (.tuple [])),none,none,none,none]=some (cN.map encK):=by
   simp[z3f,z31,z06,args,cst,znx,enum,cN,encK,List.zipIdx]
  unfold for_
  rw[this]
  exact j4
 show runF (seq (asg 1 (z06 [])) (seq (for_ (z3f (z31 (z06 [(cst (.str "a")),(cst (.str "b")),(cst (.str "back")),(cst (.str "d")),(cst (.str "hall")),(cst (.str "r")),(cst (.str "win")),(cst (.str "z"))]))) (gTu [(gNm 2),(gNm 3)]) bZ)
  (seq (asg 5 (z06 [])) (seq (for_ (z3f (z31 (z06 [(cst (.str "0000")),(cst (.str "1234")),(cst (.str "4321")),(cst (.str "7777")),(cst (.str "9990")),(cst (.str "9999"))]))) (gTu [(gNm 2),(gNm 6)]) bC) _)))) 10 [.int n]=_
 unfold runF
 have g0:seq (asg 1 (z06 []))=fun b=>seq (asg 1 (z06 [])) b:=rfl
 have h1:asg 1 (z06 []) [some (.imm (.int n)),none,none,none,none,none,none,none,none,none]=some (.nx [some (.imm (.int n)),some (.imm (.tuple [])),none,none,none,none,none,none,none,none]):=by simp[asg,z06,args]
 have h5:asg 5 (z06 []) [some (.imm (.int n)),some (.imm (.tuple (zs.map encZ))),s2,s3,s4,none,none,none,none,none]=some (.nx [some (.imm (.int n)),some (.imm (.tuple (zs.map encZ))),s2,s3,s4,some (.imm (.tuple [])),none,none,none,none]):=by simp[asg,z06,args]
 show (seq _ _ [some (.imm (.int n)),none,none,none,none,none,none,none,none,none]).bind _=_
 rw[z17 h1,z17 f1,z17 h5,z17 f2]
 simp! [sp9,e1_,e2_,e3_,e4_,e5_,e6_,e7_,e8_,e9_,e10_,z8h,z38,encP]
theorem DP.zl {p:Pl} (h:DP p):p.zones.length<=8:=by simpa [zN] using h.zs.length_le
theorem DP.cl {p:Pl} (h:DP p):p.codes.length<=6:=by simpa [cN] using h.cs.length_le
theorem z5r {l:List Str} (h:l.all (fun x=>(y20 x).canLay0)=true:=by decide +kernel) {x:Str} (hx:x∈l):okS x:=List.all_eq_true.mp h x hx
theorem DP.wp {p:Pl} (h:DP p):Wp p:=by
 refine⟨?_,?_,?_,?_⟩
 ·exact h.cs.nodup (by decide +kernel)
 ·exact h.zs.nodup (by decide +kernel)
 ·have:=h.cl
  omega
 ·have h1:=h.tl
  have h2:=h.tc
  have h3:=h.to
  simp at h1 h2 h3
  omega
theorem DP.okz {p:Pl} (h:DP p):∀z∈p.zones,okS z.1/\okS z.2:=fun z hz=>⟨z5r (l:=zN.map (·.2)) (hx:=h.zs.subset (y0m.mpr ⟨z,hz,rfl⟩)),z5r (l:=kinds) (hx:=h.zk z hz)⟩
theorem DP.okc {p:Pl} (h:DP p):∀k∈p.codes,okS k.fig/\okS k.who/\∀r∈k.rights,okS r:=fun k hk=>⟨z5r (l:=cN.map (·.2)) (hx:=h.cs.subset (y0m.mpr ⟨k,hk,rfl⟩)),z5r (l:=whos) (hx:=(h.ck k hk).1),fun r hr=>z5r (l:=zgh) (hx:=(h.ck k hk).2.1.subset hr)⟩
theorem DP.begun {p:Pl} (h:DP p):Wf p (z23 p):=by
 refine⟨h.okz,h.okc,?_,z01 "off",fun z e=>(nomatch e),fun e=>absurd e z6s,?_,?_,?_,by simp[z23],by simp[z23]⟩
 ·have:=h.zl
  omega
 ·simp[z23,y17]
 ·intro l hl
  obtain⟨z,_,rfl⟩:=y0m.mp hl
  exact z01 "shut"
 ·simp[z23,y17]
end Co
end
section
namespace Co
open D PySem
theorem ix_z (p:Pl):oIx (encP p) (.int 0)=some (.tuple (p.zones.map encZ)):=by simp[oIx,atZ,ixOf,encP]
theorem ix_c (p:Pl):oIx (encP p) (.int 1)=some (.tuple (p.codes.map z1r)):=by simp[oIx,atZ,ixOf,encP]
theorem zs4 (z:Str×Str):oIx (encZ z) (.int 0)=some (.str z.1):=by simp[oIx,atZ,ixOf,encZ]
theorem zyy (k:Cd):oIx (z1r k) (.int 0)=some (.str k.fig):=by simp[oIx,atZ,ixOf,z1r]
theorem modL (m:Int) {l:List T} (h:l≠[]):∃q:Int,0<=q/\q<l.length/\oMod (.int m) (.int l.length)=some (.int q):=by
 have hl:0<(l.length:Int):=by
  have:=List.length_pos_iff.mpr h
  omega
 obtain⟨q,_,h1,h2,e⟩:=modQ m l.length hl
 exact⟨q,h1,h2,e⟩
def zke:List Str:=["0000","1234","4321","7777","9990","9999","0001","1111","5555"]
noncomputable def DE (p:Pl):Et->Prop
 | .line z w=>z∈p.zones.map (·.1)/\w∈(["shut","open","open","cut"]:List Str)
 | .code f d z=>f∈zke/\(((d="set"\/d="unset")/\z=none)\/((d="shunt"\/d="free")/\∃x,z=some x/\x∈p.zones.map (·.1)))
 | .ticks n=>1<=n/\n<=1000000000
theorem DE.ok {p:Pl} {e:Et} (h:DE p e):okE p e:=by
 cases e with
 | line z w =>
  obtain⟨h1,h2⟩:=h
  simp at h2
  exact⟨h1,h2⟩
 | ticks n=>exact h.1
 | code f d z =>
  obtain⟨h1,h2⟩:=h
  refine⟨z5r (l:=zke) (hx:=h1),?_,?_⟩
  ·rcases h2 with ⟨h2|h2,_⟩|⟨h2|h2,_⟩
   ·exact .inl h2
   ·exact .inr (.inl h2)
   ·exact .inr (.inr (.inl h2))
   ·exact .inr (.inr (.inr h2))
  ·intro hd
   rcases h2 with ⟨h2|h2,_⟩|⟨_,h3⟩
   ·rcases hd with hd|hd
    ·exact absurd (h2.symm.trans hd) za1
    ·exact absurd (h2.symm.trans hd) z92
   ·rcases hd with hd|hd
    ·exact absurd (h2.symm.trans hd) z7n
    ·exact absurd (h2.symm.trans hd) z6r
   ·exact h3
theorem zse {p:Pl} (h:DP p) (n:Int):∃e,DE p e/\z58 [encP p,.int n]=some (encE e):=by
 obtain⟨q1,_,e1_⟩:=divQ n 8
 obtain⟨i,i0,i1,e2_⟩:=modL (l:=p.zones.map encZ) q1 (by simpa using h.z0)
 obtain⟨t,ht,e3_⟩:=ixT i0 i1
 obtain⟨z,hz,rfl⟩:=y0m.mp ht
 have hz1:z.1∈p.zones.map (·.1):=y0m.mpr ⟨z,hz,rfl⟩
 obtain⟨k,_,_,_,e4_⟩:=modQ n 10
 obtain⟨q2,_,e5_⟩:=divQ n 512
 obtain⟨r2,_,j0,j1,e6_⟩:=modQ q2 4
 obtain⟨w,hw,e7_⟩:=ixS ["shut","open","open","cut"] j0 j1
 obtain⟨f',hf',e8_⟩:=ixS ["0001","1111","9999","0000"] j0 j1
 obtain⟨q3,_,e9_⟩:=divQ n 64
 obtain⟨q4,_,e10_⟩:=divQ n 4096
 obtain⟨r4,_,k0,k1,e11_⟩:=modQ q4 3
 obtain⟨u,hu,e12_⟩:=ixI [3,40,200] k0 k1
 have hu':0<u/\u<=200:=by
  simp at hu
  omega
 obtain⟨r3,_,l0,l1,e13_⟩:=modQ q3 u hu'.1
 obtain⟨i',i0',i1',e14_⟩:=modL (l:=p.codes.map z1r) q3 (by simpa using h.c0)
 obtain⟨t',ht',e15_⟩:=ixT i0' i1'
 obtain⟨c,hc,rfl⟩:=y0m.mp ht'
 have hcf:c.fig∈zke:=by
  have:=h.cs.subset (y0m.mpr ⟨c,hc,rfl⟩)
  simp[cN,zke] at this ⊢
  rcases this with q|q|q|q|q|q <;> simp[q]
 obtain⟨q5,_,e16_⟩:=divQ n 65536
 obtain⟨r5,_,_,_,e17_⟩:=modQ q5 4
 obtain⟨r6,_,m0,m1,e18_⟩:=modQ q4 6
 obtain⟨d,hd,e19_⟩:=ixS ["set","set","unset","shunt","free","shunt"] m0 m1
 simp only[y0e,y1a] at e7_ e8_ e12_ e19_
 simp only[y14] at e2_ e14_
 have L1:oLen [.tuple (p.zones.map encZ)]=some (.int p.zones.length):=by simp[oLen]
 have L2:oLen [.tuple (p.codes.map z1r)]=some (.int p.codes.length):=by simp[oLen]
 simp only[z58,zje,runF,y0e,y1a,y0w,y2l,y0g,y2r,y2q]
 by_cases h1:k<5
 ·exact⟨.line z.1 w,⟨hz1,hw⟩,by simp! [sp9,ix_z,zs4,e1_,L1,e2_,e3_,e4_,oLt,h1,e5_,e6_,e7_,z8h,z38,encE]⟩
 ·by_cases h2:k<7
  ·exact⟨.ticks (1+r3),⟨by omega,by omega⟩,by simp! [sp9,ix_z,zs4,e1_,L1,e2_,e3_,e4_,oLt,h1,h2,e9_,e10_,e11_,e12_,e13_,z36,z38,z5i,encE]⟩
  ·have od:okS d:=z5r (l:=["set","set","unset","shunt","free","shunt"]) (hx:=hd)
   have qi:=zav false (n:=d) (ns:=["set","unset"]) od (by
    intro k hk
    exact z5r (l:=["set","unset"]) (hx:=hk))
   simp only[y0e,y1a] at qi
   obtain⟨f,hf,ef⟩:∃f∈zke,(iff (tstB (op2 oEq (op2 oMod (op2 oDiv (nm 1) (cst (.int 65536))) (cst (.int 4))) (cst (.int 0)))) (asg 4 (op2 oIx (z06 [(cst (.str "0001")),(cst (.str "1111")),(cst (.str "9999")),(cst (.str "0000"))]) (op2 oMod (op2 oDiv (nm 1) (cst (.int 512))) (cst (.int 4))))) skip) [some (.imm (encP p)),some (.imm (.int n)),some (.imm (.str z.1)),some (.imm (.int k)),some (.imm (.str c.fig)),none]=some (.nx [some (.imm (encP p)),some (.imm (.int n)),some (.imm (.str z.1)),some (.imm (.int k)),some (.imm (.str f)),none]):=by
    by_cases h3:r5=0
    ·refine⟨f',?_,by simp! [sp9,e16_,e17_,z4i,h3,e5_,e6_,e8_,z8h]⟩
     simp[zke] at hf' ⊢
     rcases hf' with q|q|q|q <;> simp[q]
    ·exact⟨c.fig,hcf,by simp! [sp9,e16_,e17_,z4i,h3]⟩
   have sA:∀X:Fs,iff (tstB (op2 oLt (nm 3) (cst (.int 5)))) X skip [some (.imm (encP p)),some (.imm (.int n)),some (.imm (.str z.1)),some (.imm (.int k)),none,none]=some (.nx [some (.imm (encP p)),some (.imm (.int n)),some (.imm (.str z.1)),some (.imm (.int k)),none,none]):=fun X=>by simp! [sp9,oLt,h1]
   have sB:∀X:Fs,iff (tstB (op2 oLt (nm 3) (cst (.int 7)))) X skip [some (.imm (encP p)),some (.imm (.int n)),some (.imm (.str z.1)),some (.imm (.int k)),none,none]=some (.nx [some (.imm (encP p)),some (.imm (.int n)),some (.imm (.str z.1)),some (.imm (.int k)),none,none]):=fun X=>by simp! [sp9,oLt,h2]
   have sC:asg 4 (op2 oIx (op2 oIx (op2 oIx (nm 0) (cst (.int 1))) (op2 oMod (op2 oDiv (nm 1) (cst (.int 64))) (opN oLen [(op2 oIx (nm 0) (cst (.int 1)))]))) (cst (.int 0))) [some (.imm (encP p)),some (.imm (.int n)),some (.imm (.str z.1)),some (.imm (.int k)),none,none]=some (.nx [some (.imm (encP p)),some (.imm (.int n)),some (.imm (.str z.1)),some (.imm (.int k)),some (.imm (.str c.fig)),none]):=by simp! [sp9,ix_c,L2,e9_,e14_,e15_,zyy]
   by_cases h4:d="set"\/d="unset"
   ·refine⟨.code f d none,⟨hf,.inl ⟨h4,rfl⟩⟩,?_⟩
    have qi':oIn false (.str d) (.tuple [.str "set",.str "unset"])=some (.bool true):=by
     rw[qi]
     simp[h4]
    have pre:∀B:Fs,(seq (asg 2 (op2 oIx (op2 oIx (op2 oIx (nm 0) (cst (.int 0))) (op2 oMod (op2 oDiv (nm 1) (cst (.int 8))) (opN oLen [(op2 oIx (nm 0) (cst (.int 0)))]))) (cst (.int 0)))) (seq (asg 3 (op2 oMod (nm 1) (cst (.int 10)))) B)) [some (.imm (encP p)),some (.imm (.int n)),none,none,none,none]=B [some (.imm (encP p)),some (.imm (.int n)),some (.imm (.str z.1)),some (.imm (.int k)),none,none]:=by
     intro B
     simp! [sp9,ix_z,zs4,e1_,L1,e2_,e3_,e4_]
    rw[pre]
    rw[z17 (sA _),z17 (sB _),z17 sC,z17 ef]
    simp! [sp9,e10_,e18_,e19_,znx,z5i,qi',z8h,encE,oS]
   ·refine⟨.code f d (some z.1),⟨hf,.inr ⟨?_,z.1,rfl,hz1⟩⟩,?_⟩
    ·simp at hd
     rcases hd with q|q|q|q|q
     ·exact absurd (.inl q) h4
     ·exact absurd (.inr q) h4
     ·exact .inl q
     ·exact .inr q
     ·exact .inl q
    have qi':oIn false (.str d) (.tuple [.str "set",.str "unset"])=some (.bool false):=by
     rw[qi]
     simp at h4
     simp[h4]
    have pre:∀B:Fs,(seq (asg 2 (op2 oIx (op2 oIx (op2 oIx (nm 0) (cst (.int 0))) (op2 oMod (op2 oDiv (nm 1) (cst (.int 8))) (opN oLen [(op2 oIx (nm 0) (cst (.int 0)))]))) (cst (.int 0)))) (seq (asg 3 (op2 oMod (nm 1) (cst (.int 10)))) B)) [some (.imm (encP p)),some (.imm (.int n)),none,none,none,none]=B [some (.imm (encP p)),some (.imm (.int n)),some (.imm (.str z.1)),some (.imm (.int k)),none,none]:=by
     intro B
     simp! [sp9,ix_z,zs4,e1_,L1,e2_,e3_,e4_]
    rw[pre]
    rw[z17 (sA _),z17 (sB _),z17 sC,z17 ef]
    simp! [sp9,e10_,e18_,e19_,znx,z5i,qi',z8h,encE,oS]
noncomputable def zev:List Et:=[.code "5555" "unset" none,.code "5555" "unset" none,.code "5555" "unset" none]
theorem zlf {p:Pl} (h:DP p) (n:Int):∀(ks:List Int) (s0:Option Sl),(∀k∈ks,0<=k/\k<1000)->∃es:List Et,(∀e∈es,DE p e)/\es.length=ks.length/\z3m (gNm 0) (cstT true) (opN z58 [(nmV 1),(op2 oDiv (opN z0p [(nmV 2),(op2 oAdd (cst (.int 30)) (nm 0))]) (cst (.int 4)))]) (ks.map .int) [s0,some (.imm (encP p)),some (.imm (.int n))]=some (es.map encE)
 | [],s0,_=>⟨[],by simp,rfl,rfl⟩
 | k::ks,s0,hk=>by
  obtain⟨m,_,e1_⟩:=z96 n (30+k) (by have:=hk k y0f;omega)
  obtain⟨q,_,e2_⟩:=divQ m 4
  obtain⟨e,he,e3_⟩:=zse h q
  obtain⟨es,i1,i2,i3⟩:=zlf h n ks (some (.imm (.int k))) fun y hy=>hk y (y05 _ hy)
  refine⟨e::es,fun x hx=>?_,by simp[i2],?_⟩
  ·rcases y09.mp hx with rfl|hx
   ·exact he
   ·exact i1 x hx
  ·have hc:opN z58 [(nmV 1),(op2 oDiv (opN z0p [(nmV 2),(op2 oAdd (cst (.int 30)) (nm 0))]) (cst (.int 4)))] [some (.imm (.int k)),some (.imm (encP p)),some (.imm (.int n))]=some (encE e):=by
    simp! [sp9,z36,e1_,e2_,e3_]
   rw[y0e]
   simp only[z3m,gNm,y1j,y0p,cstT,if_true,hc]
   rw[i3]
   rfl
theorem zwj {p:Pl} (h:DP p) (n m:Int) (hn:0<=n) (hm:0<=m/\m<900):∃es:List Et,(∀e∈es,DE p e)/\(es.length:Int)<=m/\za5 [encP p,.int n,.int m]=some (.tuple (es.map encE)):=by
 obtain⟨r,_,r0,r1,e1_⟩:=modQ n (m+1) (by omega)
 have hks:rng 0 r=((List.range r.toNat).map fun (k:Nat)=>(k:Int)).map .int:=by
  simp[rng,y17]
 obtain⟨es,i1,i2,i3⟩:=zlf h n ((List.range r.toNat).map fun (k:Nat)=>(k:Int)) none (by
  intro k hk
  obtain⟨j,hj,rfl⟩:=y0m.mp hk
  have:=List.mem_range.mp hj
  omega)
 have hl:(es.length:Int)=r:=by
  simp at i2
  omega
 obtain⟨q,_,e2_⟩:=divQ n 64
 obtain⟨r',_,_,_,e3_⟩:=modQ q 5
 have s62:z6w r=true:=by
  unfold z6w
  simp
  omega
 have s1:asg 3 (opN z1k [(comp 1 [0,1] (z2w (op2 oMod (nm 1) (op2 oAdd (nm 2) (cst (.int 1))))) (gNm 0) (cstT true) (opN z58 [(nmV 1),(op2 oDiv (opN z0p [(nmV 2),(op2 oAdd (cst (.int 30)) (nm 0))]) (cst (.int 4)))]))]) [some (.imm (encP p)),some (.imm (.int n)),some (.imm (.int m)),none]=some (.nx [some (.imm (encP p)),some (.imm (.int n)),some (.imm (.int m)),some (.imm (.tuple (es.map encE)))]):=by
  have b1:((((List.range r.toNat).map fun (k:Nat)=>(k:Int)).map PyData.int).length<=big)=True:=by
   simp
   unfold big
   omega
  have it:(z2w (op2 oMod (nm 1) (op2 oAdd (nm 2) (cst (.int 1))))) [some (.imm (encP p)),some (.imm (.int n)),some (.imm (.int m)),none]=some (((List.range r.toNat).map fun (k:Nat)=>(k:Int)).map .int):=by
   rw[<- hks]
   simp[z2w,op2,nm,cst,z36,e1_,s62]
  simp only[asg,opN,args,comp,it,y0p,b1,if_true]
  show Option.map _ ((Option.bind (Option.map _ (z3m _ _ _ _ [none,some (.imm (encP p)),some (.imm (.int n))])) _).bind _)=_
  rw[i3]
  simp[z1k]
 have e0:za5 [encP p,.int n,.int m]=(zh9 [some (.imm (encP p)),some (.imm (.int n)),some (.imm (.int m)),none]).bind fun o=>match o with|.rt t=>some t|.nx _=>some .none|_=>none:=rfl
 by_cases hc:r'=0/\2<(es.length:Int)
 ·refine⟨es.take (es.length - 3)++zev,?_,?_,?_⟩
  ·intro e he
   rcases y11.mp he with q|q
   ·exact i1 e (List.mem_of_mem_take q)
   ·simp[zev] at q
    subst q
    exact⟨by simp[zke],.inl ⟨.inr rfl,rfl⟩⟩
  ·simp[zev]
   omega
  ·rw[e0]
   unfold zh9
   rw[z17 s1]
   have b1:(es.length - 3+3<=big)=True:=by
    simp only[eq_iff_iff,iff_true]
    unfold big
    omega
   have b2:(max (-3+(es.length:Int)) 0).toNat=es.length - 3:=by omega
   have b3:min (es.length - 3) es.length=es.length - 3:=by omega
   have b4:oRep (.tuple [encE (.code "5555" "unset" none)]) (.int 3)=some (.tuple (zev.map encE)):=by
    simp[oRep,zev,y0g,z38]
   simp only[encE,oS] at b4
   simp! [sp9,e2_,e3_,z4i,hc.1,hc.2,oLen,oGt,slice,optN,opt,oNeg,oSl,cutZ,sIx,b2,b3,b4,z8h,zdg,oAdd,zev]
   rw[if_pos (b1▸trivial)]
   simp! [sp9]
 ·refine⟨es,i1,by omega,?_⟩
  rw[e0]
  unfold zh9
  rw[z17 s1]
  by_cases h1:r'=0
  ·have h2:¬2<(es.length:Int):=fun z=>hc ⟨h1,z⟩
   simp! [sp9,e2_,e3_,z4i,h1,oLen,oGt]
   rw[if_neg h2]
   simp! [sp9]
  ·simp! [sp9,e2_,e3_,z4i,h1]
end Co
end
section
namespace Co
open D PySem
def shW (k:Int) (w:Int×Str×Option Str):Int×Str×Option Str:=(k+w.1,w.2)
noncomputable def sh (k:Int) (pre:List (Int×Str×Option Str)) (c:Cs):Cs:={ c with past:=k+c.past,told:=pre++c.told.map (shW k) }
section
variable (k:Int) (pre:List (Int×Str×Option Str)) (p:Pl)
theorem z5w (w:Str) (n:Option Str) (c:Cs):tell w n (sh k pre c)=sh k pre (tell w n c):=by simp[tell,sh,shW]
theorem zcx (z:Str) (c:Cs):alarm p z (sh k pre c)=sh k pre (alarm p z c):=by
 by_cases h:z∈c.alarms <;> simp[alarm,sh,h,tell,beLoud,shW]
theorem zjj:∀(zs:List Str) (c:Cs),alarms p zs (sh k pre c)=sh k pre (alarms p zs c)
 | [],c=>rfl
 | z::zs,c=>by
  show alarms p zs (alarm p z (sh k pre c))=_
  rw[zcx,zjj zs]
  rfl
theorem zq2 (z x:Str) (c:Cs):comeIn p z x (sh k pre c)=sh k pre (comeIn p z x c):=by
 unfold comeIn
 by_cases h:x≠"way"\/p.come<=0
 ·rw[if_pos h,if_pos h,zcx]
 ·rw[if_neg h,if_neg h,<- z5w]
  rfl
theorem zn8 (z w:Str) (c:Cs):disturb p z w (sh k pre c)=sh k pre (disturb p z w c):=by
 have hm:(sh k pre c).mode=c.mode:=rfl
 unfold disturb
 rw[hm,zcx,z5w,zq2]
 repeat' split
 all_goals rfl
theorem zvb (z w:Str) (c:Cs):line p z w (sh k pre c)=sh k pre (line p z w c):=by
 show (if w=z74 c z then sh k pre c else if w="shut" then (if z74 c z="cut" then tell "mended" (some z) (sh k pre { c with lines:=setL c.lines z w }) else sh k pre { c with lines:=setL c.lines z w })
  else if z∈c.shunts then sh k pre { c with lines:=setL c.lines z w } else disturb p z w (sh k pre { c with lines:=setL c.lines z w }))=sh k pre (line p z w c)
 unfold line
 rw[z5w,zn8]
 repeat' split
 all_goals rfl
theorem z8n (n:Int) (c:Cs):z2s n (sh k pre c)=sh k pre (z2s n c):=by simp[z2s,sh,Int.add_assoc]
theorem zb2 (c:Cs):endLeaving p (sh k pre c)=sh k pre (endLeaving p c):=by
 show alarms p (bare p ["inner","way"] (tell "on" none { c with mode:="on",left:=0 })) (tell "on" none (sh k pre { c with mode:="on",left:=0 }))=_
 rw[z5w,zjj]
 rfl
theorem zit (c:Cs):endComing p (sh k pre c)=sh k pre (endComing p c):=by
 unfold endComing
 rw[<- zcx]
 rfl
theorem zn4 (c:Cs):endTime p (sh k pre c)=sh k pre (endTime p c):=by
 have hm:(sh k pre c).mode=c.mode:=rfl
 unfold endTime
 rw[hm,zb2,zit]
 split <;> rfl
theorem zqv (n:Int) (c:Cs):ticks p n (sh k pre c)=sh k pre (ticks p n c):=by
 have hm:(sh k pre c).mode=c.mode:=rfl
 have hl:(sh k pre c).left=c.left:=rfl
 unfold ticks
 rw[hm,hl,z8n,zn4,z8n,z8n]
 repeat' split
 all_goals rfl
theorem zc2 (c:Cs):takeWrong p (sh k pre c)=sh k pre (takeWrong p c):=by
 have ht:(sh k pre c).tries=c.tries:=rfl
 have h1:wrong1 (sh k pre c)=sh k pre (wrong1 c):=by simp[wrong1,tell,sh,shW]
 unfold takeWrong
 rw[ht,h1]
 split
 ·exact z5w k pre "attack" none (beLoud p { wrong1 c with tries:=0,locked:=90 })
 ·rfl
theorem zsi (w:Str) (c:Cs):doSet p w (sh k pre c)=sh k pre (doSet p w c):=by
 show (if p.leave<=0 then endLeaving p (tell "set" (some w) (sh k pre { c with alarms:=[],siren:=0,mode:="leaving",left:=p.leave })) else tell "set" (some w) (sh k pre { c with alarms:=[],siren:=0,mode:="leaving",left:=p.leave }))=sh k pre (if p.leave<=0 then _ else _)
 rw[z5w,zb2]
 split <;> rfl
theorem zn6 (w:Str) (c:Cs):doUnset w (sh k pre c)=sh k pre (doUnset w c):=by
 unfold doUnset
 rw[<- z5w]
 rfl
theorem zpx (w d:Str) (z:Option Str) (c:Cs):doDeed p w d z (sh k pre c)=sh k pre (doDeed p w d z c):=by
 show (if d="set" then doSet p w (sh k pre c) else if d="unset" then doUnset w (sh k pre c) else if d="shunt" then tell "shunt" z (sh k pre { c with shunts:=z87 (c.shunts++[z.getD ""]) }) else tell "free" z (sh k pre { c with shunts:=c.shunts.erase (z.getD "") }))=sh k pre (doDeed p w d z c)
 unfold doDeed
 rw[z5w,z5w,zsi,zn6]
 repeat' split
 all_goals rfl
theorem zhj (x:Cd) (d:Str) (z:Option Str) (c:Cs):takeRight p x d z (sh k pre c)=sh k pre (takeRight p x d z c):=by
 have h0:against p x d z (sh k pre c)=against p x d z c:=rfl
 unfold takeRight
 rw[h0]
 cases against p x d z c with
 | none=>exact zpx k pre p _ _ _ { c with used:=addU c.used x.fig }
 | some wn=>exact z5w k pre _ _ _
theorem zvw (f d:Str) (z:Option Str) (c:Cs):code p f d z (sh k pre c)=sh k pre (code p f d z c):=by
 have h0:(sh k pre c).locked=c.locked:=rfl
 unfold code
 rw[h0,z5w]
 split
 ·rfl
 ·cases zfv p f with
  | none=>exact zc2 k pre p c
  | some x =>
   show (if zd3 x c=true then takeWrong p (sh k pre c) else takeRight p x d z (sh k pre { c with tries:=0 }))=sh k pre (if zd3 x c=true then _ else _)
   rw[zc2,zhj]
   split <;> rfl
theorem zpj (e:Et) (c:Cs):happen p (sh k pre c) e=sh k pre (happen p c e):=by
 cases e with
 | line z w=>exact zvb k pre p z w c
 | code f d z=>exact zvw k pre p f d z c
 | ticks n=>exact zqv k pre p n c
theorem zo5:∀(es:List Et) (c:Cs),run p (sh k pre c) es=sh k pre (run p c es)
 | [],c=>rfl
 | e::es,c=>by
  show run p (happen p (sh k pre c) e) es=_
  rw[zpj,zo5 es]
  rfl
end
def zy1 (c:Cs):Prop:=c.mode="leaving"\/c.mode="coming"
end Co
end
section
namespace Co
open D PySem
def okN (d:Nat) (t:T):Prop:=t.canLay0=true/\t.depth<=d
theorem okN.okT {d:Nat} {t:T} (h:okN d t) (hd:d<=60:=by decide):okT t=true:=by
 unfold D.okT
 rw[h.1,decide_eq_true (y1s h.2 hd)]
 rfl
theorem zos {d:Nat}:∀{ts:List T},(∀t∈ts,okN d t)->y1h ts=true/\y1f ts<=d
 | [],_=>by simp[y1h,y1f]
 | t::ts,h=>by
  obtain⟨h1,h2⟩:=zos fun x hx=>h x (y05 _ hx)
  obtain⟨h3,h4⟩:=h t y0f
  constructor
  ·rw[y1h,h3,h1]
   rfl
  ·rw[y1f]
   omega
theorem z1x {d:Nat} {ts:List T} (h:∀t∈ts,okN d t):okN (d+1) (.tuple ts):=by
 obtain⟨h1,h2⟩:=zos h
 constructor
 ·rw[PyData.canLay0];exact h1
 ·rw[y2a];omega
theorem z8e (d:Nat) (n:Int):okN d (.int n):=⟨rfl,by rw[y2a];omega⟩
theorem zgn (d:Nat):okN d .none:=⟨rfl,by rw[y2a];omega⟩
theorem zrs (d:Nat) (b:Bool):okN d (.bool b):=⟨rfl,by rw[y2a];omega⟩
theorem z3y (d:Nat) {x:Str} (h:okS x):okN d (.str x):=⟨h,by rw[y2a];omega⟩
theorem zor (d:Nat) {x:Option Str} (h:∀z,x=some z->okS z):okN d (oS x):=by
 cases x with
 | none=>exact zgn d
 | some z=>exact z3y d (h z rfl)
theorem zgo {d:Nat} {t:T} (h:okN d t) (hd:d<=60:=by decide):oNe t t=some (.bool false):=by
 unfold oNe
 rw[h.okT hd,PySem.SeqAt.eqv_refl t h.1]
 rfl
theorem zrr {p:Pl} {c:Cs} (h:Wf p c):okN 2 (encS c):=by
 refine z1x fun t ht=>?_
 simp only[y09,y2g,or_false] at ht
 rcases ht with rfl|rfl|rfl|rfl|rfl|rfl|rfl|rfl|rfl|rfl
 ·exact z3y _ h.mo
 ·exact z8e _ _
 ·exact zor _ fun z hz=>(h.ca z hz).1
 ·refine z1x (d:=0) fun t ht=>?_
  obtain⟨l,hl,rfl⟩:=y0m.mp ht
  exact z3y _ (h.lo l hl)
 ·refine z1x (d:=0) fun t ht=>?_
  obtain⟨l,hl,rfl⟩:=y0m.mp ht
  exact z3y _ (h.oksh l hl)
 ·exact z8e _ _
 ·refine z1x (d:=0) fun t ht=>?_
  obtain⟨l,hl,rfl⟩:=y0m.mp ht
  exact z3y _ (h.okal l hl)
 ·exact z8e _ _
 ·exact z8e _ _
 ·refine z1x (d:=0) fun t ht=>?_
  obtain⟨l,hl,rfl⟩:=y0m.mp ht
  exact z8e _ _
def Tw (c:Cs):Prop:=∀w∈c.told,okS w.2.1/\∀n,w.2.2=some n->okS n
theorem Tw.tell {c:Cs} (h:Tw c) {w:Str} {n:Option Str} (hw:okS w) (hn:∀x,n=some x->okS x):Tw (Co.tell w n c):=by
 intro x hx
 rcases y11.mp hx with q|q
 ·exact h x q
 ·simp at q
  subst q
  exact⟨hw,hn⟩
theorem Tw.alarm {p:Pl} {c:Cs} (h:Tw c) {z:Str} (hz:okS z):Tw (Co.alarm p z c):=by
 unfold Co.alarm
 split
 ·exact h
 ·exact Tw.tell (c:={ beLoud p c with alarms:=c.alarms++[z] }) h (z01 "alarm") fun x e=>y2k e▸hz
theorem Tw.alarms {p:Pl}:∀{zs:List Str} {c:Cs},Tw c->(∀z∈zs,okS z)->Tw (Co.alarms p zs c)
 | [],_,h,_=>h
 | z::zs,c,h,hz=>Tw.alarms (zs:=zs) (h.alarm (hz z y0f)) fun y hy=>hz y (y05 _ hy)
theorem Tw.comeIn {p:Pl} {c:Cs} (h:Tw c) {z k:Str} (hz:okS z):Tw (Co.comeIn p z k c):=by
 unfold Co.comeIn
 split
 ·exact h.alarm hz
 ·exact Tw.tell (c:={ c with mode:="coming",left:=p.come,came:=some z }) h (z01 "coming") fun x e=>y2k e▸hz
theorem Tw.disturb {p:Pl} {c:Cs} (h:Tw c) {z w:Str} (hz:okS z):Tw (Co.disturb p z w c):=by
 unfold Co.disturb
 repeat' split
 all_goals first|exact h.alarm hz|exact h.tell (z01 "fault") fun x e=>y2k e▸hz|exact h.comeIn hz|exact h
theorem Tw.line {p:Pl} {c:Cs} (h:Tw c) {z w:Str} (hz:okS z):Tw (Co.line p z w c):=by
 have h':Tw { c with lines:=setL c.lines z w }:=h
 unfold Co.line
 repeat' split
 all_goals first|exact h|exact h'|exact h'.tell (z01 "mended") fun x e=>y2k e▸hz|exact h'.disturb hz
theorem Tw.endLeaving {p:Pl} {c:Cs} (h:Tw c) (hw:Wf p c):Tw (Co.endLeaving p c) :=
 Tw.alarms (Tw.tell (c:={ c with mode:="on",left:=0 }) h (z01 "on") fun x e=>(nomatch e)) fun z hz=>hw.okz (zcw hz)
theorem Tw.endTime {p:Pl} {c:Cs} (h:Tw c) (hw:Wf p c) (hm:zy1 c):Tw (Co.endTime p c):=by
 unfold Co.endTime
 split
 ·exact h.endLeaving hw
 next q =>
  obtain⟨z,hz⟩:=Option.ne_none_iff_exists'.mp (hw.cm (hm.resolve_left q))
  unfold Co.endComing
  rw[hz]
  exact Tw.alarm (c:={ c with mode:="on",came:=none }) h (hw.ca z hz).1
theorem Tw.ticks {p:Pl} {c:Cs} (h:Tw c) (hw:Wf p c) (n:Int):Tw (Co.ticks p n c):=by
 unfold Co.ticks
 split
 ·exact h
 ·split
  next q=>exact Tw.endTime (c:=z2s c.left c) h (hw.cd _) q.1
  ·exact h
theorem Tw.takeWrong {p:Pl} {c:Cs} (h:Tw c):Tw (Co.takeWrong p c):=by
 have h1:Tw (wrong1 c):=Tw.tell h (z01 "wrong") fun x e=>(nomatch e)
 unfold Co.takeWrong
 split
 ·exact Tw.tell (c:=beLoud p { wrong1 c with tries:=0,locked:=90 }) h1 (z01 "attack") fun x e=>(nomatch e)
 ·exact h1
theorem zni {p:Pl} {c:Cs} (hw:Wf p c) {k:Cd} (hk:k∈p.codes) {d:Str} {z:Option Str} {x:Str×Str} (h:against p k d z c=some x):okS x.1/\okS x.2:=by
 have hwho:=(hw.cn k hk).2.1
 unfold against at h
 by_cases h1:(if d="free" then ("shunt":Str) else d)∈k.rights
 ·rw[if_neg (fun q=>q h1)] at h
  split at h
  ·cases h
   exact⟨z01 "no",hwho⟩
  ·split at h
   next q =>
    cases h
    refine⟨z01 "open",?_⟩
    have hb:=q.2
    cases e:bare p ["day","once"] c with
    | nil=>exact absurd e hb
    | cons b bs =>
     have:b∈bare p ["day","once"] c:=by rw[e];simp
     simpa using hw.okz (zcw this)
   ·cases h
 ·rw[if_pos h1] at h
  cases h
  exact⟨z01 "denied",hwho⟩
theorem Tw.doDeed {p:Pl} {c:Cs} (h:Tw c) (hw:Wf p c) {w d:Str} {z:Option Str} (how:okS w) (hz:okD p d z c):Tw (Co.doDeed p w d z c):=by
 rcases hz with rfl|rfl|⟨rfl,x,rfl,hx⟩|⟨rfl,x,rfl,hx⟩
 ·simp only[Co.doDeed,if_true]
  have h':Tw (Co.tell "set" (some w) { c with alarms:=[],siren:=0,mode:="leaving",left:=p.leave }):=Tw.tell (c:={ c with alarms:=[],siren:=0,mode:="leaving",left:=p.leave }) h (z01 "set") fun x e=>y2k e▸how
  show Tw (if p.leave<=0 then Co.endLeaving p (Co.tell "set" (some w) { c with alarms:=[],siren:=0,mode:="leaving",left:=p.leave }) else Co.tell "set" (some w) { c with alarms:=[],siren:=0,mode:="leaving",left:=p.leave })
  split
  ·exact h'.endLeaving ((hw.setAl p.leave).tell _ _)
  ·exact h'
 ·simp only[Co.doDeed,if_neg z7o,if_true]
  exact Tw.tell (c:={ c with mode:="off",left:=0,siren:=0,came:=none,shunts:=[] }) h (z01 "unset") fun x e=>y2k e▸how
 ·simp only[Co.doDeed,if_neg z7p,if_neg z4j,if_true]
  exact Tw.tell (c:={ c with shunts:=z87 (c.shunts++[x]) }) h (z01 "shunt") fun y e=>y2k e▸hw.okz hx
 ·simp only[Co.doDeed,if_neg z93,if_neg z55,if_neg z56]
  exact Tw.tell (c:={ c with shunts:=c.shunts.erase x }) h (z01 "free") fun y e=>y2k e▸hw.oksh x hx
theorem Tw.happen {p:Pl} {c:Cs} (h:Tw c) (hw:Wf p c) {e:Et} (he:okE p e):Tw (Co.happen p c e):=by
 cases e with
 | line z w=>exact h.line (hw.okz he.1)
 | ticks n=>exact h.ticks hw n
 | code f d z =>
  show Tw (Co.code p f d z c)
  unfold Co.code
  split
  ·exact h.tell (z01 "locked") fun x e=>(nomatch e)
  ·split
   ·exact h.takeWrong
   next k ek =>
    have hk:=zfu ek
    split
    ·exact h.takeWrong
    ·have w0:=hw.tri 0
     have h0:Tw { c with tries:=0 }:=h
     unfold Co.takeRight
     split
     next ea=>exact Tw.doDeed (c:={ c with tries:=0,used:=addU c.used k.fig }) h (w0.add k.fig) (hw.cn k hk).2.1 (zou he.2.1 he.2.2 ea)
     next ea =>
      have:=zni w0 hk ea
      exact h0.tell this.1 fun x e=>y2k e▸this.2
theorem Tw.run {p:Pl}:∀{es:List Et} {c:Cs},Tw c->Wf p c->(∀e∈es,okE p e)->Tw (Co.run p c es)
 | [],_,h,_,_=>h
 | e::es,c,h,hw,he=>Tw.run (es:=es) (h.happen hw (he e y0f)) (hw.happen (he e y0f)) fun y hy=>he y (y05 _ hy)
theorem Tw.fresh (c:Cs):Tw (Co.fresh c):=fun w hw=>by cases hw
theorem zrq {c:Cs} (h:Tw c):okN 2 (.tuple (c.told.map encW)):=by
 refine z1x fun t ht=>?_
 obtain⟨w,hw,rfl⟩:=y0m.mp ht
 refine z1x fun t ht=>?_
 simp only[y09,y2g,or_false] at ht
 rcases ht with rfl|rfl|rfl
 ·exact z8e _ _
 ·exact z3y _ (h w hw).1
 ·exact zor _ (h w hw).2
theorem zvm (p:Pl) (c:Cs) (e:Et) (h:Wf p c) (hp:Wp p) (he:okE p e):zix [encP p,encS c,encE e]=some (encS (happen p (fresh c) e)):=by
 have e1_:=z6u p c [e] h hp (by simpa using he) (by simp)
 have e2_:=zl6 p (run p (fresh c) [e]) .ro (h.fresh.run (by simpa using he))
 simp only[y0e,y1a] at e1_
 simp! [sp9,zix,ztw,zer,ofO,zdg,e1_,z8i,e2_]
 rfl
def z66 (w:Int×Str×Option Str):T:=.tuple [.str w.2.1,oS w.2.2]
theorem ztu (caps:Ev):∀(ws:List (Int×Str×Option Str)) (s0 s1 s2:Option Sl),z3m (gTu [(gNm 0),(gNm 1),(gNm 2)]) (cstT true) (z06 [(nmV 1),(nmV 2)]) (ws.map encW) (s0::s1::s2::caps)=some (ws.map z66)
 | [],_,_,_=>rfl
 | w::ws,s0,s1,s2=>by
  have ih:=ztu caps ws (some (.imm (.int w.1))) (some (.imm (.str w.2.1))) (some (.imm (oS w.2.2)))
  simp only[y0e,z3m,encW,gTu,gAll,gNm,y0p,y1j,y1m,cstT,if_true] at ih ⊢
  simp only[z06,args,nmV,y2j,y2i,y0p,y1t,y0w,y2l,z5i,if_true] at ih ⊢
  simp[z5i,z66]
  simpa [encW,z66] using ih
theorem zqr (p:Pl) (c:Cs) (e:Et) (h:Wf p c) (hp:Wp p) (he:okE p e):ze8 [encP p,encS c,encE e]=some (.tuple ((happen p (fresh c) e).told.map z66)):=by
 have e1_:=z6u p c [e] h hp (by simpa using he) (by simp)
 have hb:=zcq (es:=[e]) h.fresh (by simpa using he)
 have b2:(60000<big):=by decide
 have h0:(fresh c).told.length=0:=rfl
 have b1:(run p (fresh c) [e]).told.length<=big:=by simp at hb;omega
 have c3:=ztu [] (run p (fresh c) [e]).told none none none
 simp only[y0e,y1a] at e1_
 simp! [sp9,ze8,zqh,zer,zbn,zdg,e1_,z8i,e12,b1]
 rw[c3]
 simp[z1k]
 rfl
end Co
end
section
namespace Co
open D PySem
theorem z26 {i:Nat} {f:Fe} {b:Fs} {ε:Ev} {t:T} {r:Option Out} (h:f ε=some t) (h2:b (ε.set i (some (.imm t)))=r):seq (asg i f) b ε=r:=by
 rw[z17 (ε':=ε.set i (some (.imm t))),h2]
 unfold asg
 rw[h]
 rfl
theorem zgt {c:Ft} {a b:Fs} {ε:Ev} {r:Option Out} (h:c ε=some false) (h2:b ε=r):seq (iff c a skip) b ε=r:=by
 rw[z17 (ε':=ε),h2]
 unfold iff
 rw[h]
 rfl
theorem z1v {a b:Fs} {ε ε':Ev} {r:Option Out} (h:a ε=some (.nx ε')) (h2:b ε'=r):seq a b ε=r:=by rw[z17 h,h2]
theorem denied {p:Pl} {c:Cs} {k:Cd} {d:Str} (hd:d="set"\/d="unset") (hr:d∉k.rights):takeRight p k d none c=tell "denied" (some k.who) c:=by
 have:against p k d none c=some (("denied":Str),k.who):=by
  rcases hd with rfl|rfl <;> simp[against,z92,z6r,hr]
 unfold takeRight
 rw[this]
theorem zxq {c:Ft} {x y:Fs} {ε:Ev} {b:Bool} (h:c ε=some b):iff c x y ε=if b then x ε else y ε:=by
 unfold iff
 rw[h]
 rfl
end Co
end
section
namespace Co
open D PySem
theorem zkk {α:Type} {enc x y g:α->T} {q:α->Bool} {cc:Ft} {ee:Fe} {caps:Ev} (he:∀a,enc a=.tuple [x a,y a]):∀(ts:List α) (s0 s1:Option Sl),(∀a∈ts,cc (some (.imm (x a))::some (.imm (y a))::caps)=some (q a)/\(q a=true->ee (some (.imm (x a))::some (.imm (y a))::caps)=some (g a)))->z3m (gTu [(gNm 0),(gNm 1)]) cc ee (ts.map enc) (s0::s1::caps)=some ((ts.filter q).map g)
 | [],_,_,_=>rfl
 | a::ts,s0,s1,h=>by
  have ih:=zkk he ts (some (.imm (x a))) (some (.imm (y a))) fun b hb=>h b (y05 _ hb)
  obtain⟨h0,h1⟩:=h a (by simp)
  rw[y0e,z3m,he a]
  simp only[gTu,gAll,gNm,y0p,y1j,y1m,h0]
  cases hq:q a with
  | true=>simp only[if_true,h1 hq,y0p,ih,y1t,List.filter_cons,hq,y0e]
  | false=>simp only[y1x,if_false,ih,List.filter_cons,hq]
noncomputable def z8g (p:Pl) (c:Cs):List Str:=((p.zones.zip c.lines).filter fun x=>!decide (x.2.2=("shut":Str))).map fun x=>x.1.1
theorem zr3 (p:Pl) (c:Cs) (h:Wf p c):zbr [encP p,encS c]=some (.tuple [.str c.mode,.bool (decide (c.siren > 0)),.tuple ((z8g p c).map .str)]):=by
 have hzl:(p.zones.zip c.lines).length<=big:=by
  have:=h.zl
  rw[List.length_zip]
  unfold big
  omega
 have zw:List.zipWith (fun x y=>PyData.tuple [x,y]) (p.zones.map encZ) (c.lines.map fun l=>.str l.2)=(p.zones.zip c.lines).map fun x=>.tuple [encZ x.1,.str x.2.2]:=by
  rw[List.zipWith_map,List.zip,List.map_zipWith]
 have hc:=zkk (enc:=fun x:(Str×Str)×(Str×Str)=>.tuple [encZ x.1,.str x.2.2]) (x:=fun x=>encZ x.1) (y:=fun x=>.str x.2.2) (g:=fun x=>.str x.1.1) (q:=fun x=>!decide (x.2.2=("shut":Str))) (cc:=tstB (op2 oNe (nm 1) (cst (.str "shut")))) (ee:=op2 oIx (nm 0) (cst (.int 0))) (caps:=[]) (fun _=>rfl) (p.zones.zip c.lines) none none (fun x hx=>by
  have hx2:=(List.of_mem_zip hx).2
  have q:=z62 (h.lo _ hx2) (z01 "shut")
  refine⟨by simp! [sp9,q],fun _=>?_⟩
  simp! [sp2,encZ])
 have b:zkt [some (.imm (encP p)),some (.imm (encS c)),none]=some (.rt (.tuple [.str c.mode,.bool (decide (c.siren > 0)),.tuple ((z8g p c).map .str)])):=by
  unfold zkt
  refine z26 (t:=.list ((z8g p c).map .str)) ?_ ?_
  ·have it:zs5 (z31 (op2 oIx (nm 0) (cst (.int 0)))) (z31 (op2 oIx (nm 1) (cst (.int 3)))) [some (.imm (encP p)),some (.imm (encS c)),none]=some ((p.zones.zip c.lines).map fun x=>.tuple [encZ x.1,.str x.2.2]):=by
    rw[<- zw]
    rfl
   unfold comp
   rw[it]
   simp only[y0p,y14]
   rw[if_pos hzl]
   show (z3m _ _ _ _ [none,none]).map _=_
   rw[hc]
   simp[z8g,y17]
  simp only[y1m,y1j]
  simp! [sp2,encS,oGt,z1k,z38]
 unfold zbr runF
 simp only[y0e,y1a,y0w,y2l,y2r,y2q]
 exact congrArg (fun o=>Option.bind o _) b
theorem zoq (d:Nat) {p:Pl} {c:Cs} (h:Wf p c) (b:Bool):okN (d+2) (.tuple [.str c.mode,.bool b,.tuple ((z8g p c).map .str)]):=z1x fun x hx=>by
 simp only[y09,y2g,or_false] at hx
 rcases hx with rfl|rfl|rfl
 ·exact z3y _ h.mo
 ·exact zrs _ _
 ·refine z1x fun x hx=>?_
  obtain⟨y,hy,rfl⟩:=y0m.mp hx
  obtain⟨w,hw,rfl⟩:=y0m.mp hy
  exact z3y _ (h.zn _ (List.of_mem_zip (List.mem_filter.mp hw).1).1).1
end Co
end
section
namespace K33
open D Co
open PySem hiding run fresh code
local instance:Tbl:=⟨[],fun _=>[],fun _=>none⟩
theorem znn:d_ways=Ho.d_ways:=rfl
theorem zn2:d_l_house=Ho.d_l_house:=rfl
abbrev Op:=Ho.Op
noncomputable def pas (z:Option Str) (pace:Int):List Et:=match z with
 | none=>[.ticks 1,.ticks pace]
 | some z=>[.line z "open",.ticks 1,.line z "shut",.ticks pace]
theorem zgm (z:Option Str) (pace:Int):(pas z pace).length<=4:=by cases z <;> simp[pas]
def z0m (os:List Op) (k:Nat):Option Str:=(os[k]?).bind (·.2.2)
noncomputable def wlk (os:List Op) (way:List Nat) (pace:Int):List Et:=(way.map fun k=>pas (z0m os k) pace).flatten
theorem zi4 (o:Op) (pace:Int):z3v [Ho.opT o,.int pace]=some (.tuple ((pas o.2.2 pace).map encE)):=by
 obtain⟨a,b,z⟩:=o
 cases z with
 | none=>simp! [sp2,z3v,zh8,Ho.opT,Ho.zT,pas,encE,z5i]
 | some z=>simp! [sp2,z3v,zh8,Ho.opT,Ho.zT,pas,encE,z5i,z38,z8h]
theorem h_ix (R:Int) (os:List Op):oIx (Ho.houseT R os) (.int 1)=some (.tuple (os.map Ho.opT)):=by simp[oIx,atZ,ixOf,Ho.houseT]
theorem zz0 (R:Int) (os:List Op):oIx (Ho.houseT R os) (.int 0)=some (.int R):=by simp[oIx,atZ,ixOf,Ho.houseT]
theorem o_ix {os:List Op} {k:Nat} (hk:k<os.length):oIx (.tuple (os.map Ho.opT)) (.int (k:Nat))=some (Ho.opT os[k]):=by
 show atZ _ _=_
 unfold atZ ixOf
 rw[if_pos (by omega),if_pos (by simp;omega)]
 show ((os.map Ho.opT)[((k:Nat):Int).toNat]?)=_
 rw[Int.toNat_natCast,y15,y0v hk]
 rfl
theorem zhd {os:List Op} {k:Nat} (hk:k<os.length):z0m os k=os[k].2.2:=by
 unfold z0m
 rw[y0v hk]
 rfl
theorem zhe (R:Int) (os:List Op) (pace:Int) (s1:Option Sl):∀(way:List Nat) (acc:List Et) (s4:Option Sl),(∀k∈way,k<os.length)->acc.length+4*way.length<=1000->∃s4',forL (gNm 4) (extT 3 (opN z3v [(op2 oIx (op2 oIx (nm 0) (cst (.int 1))) (nm 4)),(nmV 2)])) (way.map fun (k:Nat)=>PyData.int (k:Int)) [some (.imm (Ho.houseT R os)),s1,some (.imm (.int pace)),some (.own (acc.map encE)),s4] =
   some (.nx [some (.imm (Ho.houseT R os)),s1,some (.imm (.int pace)),some (.own ((acc++wlk os way pace).map encE)),s4'])
 | [],acc,s4,_,_=>⟨s4,by simp[forL,wlk]⟩
 | k::ks,acc,s4,hk,hl=>by
  have hk0:=hk k (by simp)
  have pl:=zgm (z0m os k) pace
  simp only[y0w] at hl
  obtain⟨s4',ih⟩:=zhe R os pace s1 ks (acc++pas (z0m os k) pace) (some (.imm (.int k))) (fun y hy=>hk y (y05 _ hy)) (by simp only[y27];omega)
  refine⟨s4',?_⟩
  have hb:(acc.map encE).length+((pas (z0m os k) pace).map encE).length<=big:=by
   simp only[y14]
   unfold big
   omega
  have pe:=zi4 os[k] pace
  rw[<- zhd hk0] at pe
  have step:extT 3 (opN z3v [(op2 oIx (op2 oIx (nm 0) (cst (.int 1))) (nm 4)),(nmV 2)]) [some (.imm (Ho.houseT R os)),s1,some (.imm (.int pace)),some (.own (acc.map encE)),some (.imm (.int k))]=some (.nx [some (.imm (Ho.houseT R os)),s1,some (.imm (.int pace)),some (.own ((acc++pas (z0m os k) pace).map encE)),some (.imm (.int k))]):=by
   simp only[extT,opN,op2,args,nm,nmV,cst,y2j,y2i,y0p,y1t,h_ix,o_ix hk0,pe,if_pos hb,y1m,y1j,List.map_append]
  rw[y0e,forL]
  simp only[gNm,y1m,y1j,y0p,step]
  rw[ih]
  simp[wlk]
theorem zno {R:Int} {os:List Op} {way:List Nat} {pace:Int} (hk:∀k∈way,k<os.length) (hl:way.length<=100):z5s [Ho.houseT R os,Ho.wT way,.int pace]=some (.tuple ((wlk os way pace).map encE)):=by
 obtain⟨s4',xl⟩:=zhe R os pace (some (.imm (Ho.wT way))) way [] none hk (by simp;omega)
 have it:z0v (nmV 1) [some (.imm (Ho.houseT R os)),some (.imm (Ho.wT way)),some (.imm (.int pace)),some (.own []),none]=some (way.map fun (k:Nat)=>PyData.int (k:Int)):=rfl
 suffices hs:zh7 [some (.imm (Ho.houseT R os)),some (.imm (Ho.wT way)),some (.imm (.int pace)),none,none]=some (.rt (.tuple ((wlk os way pace).map encE))) by
  unfold z5s runF
  simp only[y0e,y1a,y0w,y2l,y2r,y2q]
  exact congrArg (fun o=>Option.bind o _) hs
 unfold zh7
 refine z1v (ε':=[some (.imm (Ho.houseT R os)),some (.imm (Ho.wT way)),some (.imm (.int pace)),some (.own []),none]) ?_ ?_
 ·simp[asgN,z29,args]
 refine z1v (ε':=[some (.imm (Ho.houseT R os)),some (.imm (Ho.wT way)),some (.imm (.int pace)),some (.own ((wlk os way pace).map encE)),s4']) ?_ ?_
 ·unfold for_
  rw[it]
  exact xl
 ·simp[rtn,opN,args,nm,z1k]
def alW (w:Int×Str×Option Str):Bool:=decide (w.2.1="alarm")
theorem zpz (caps:Ev):∀(ws:List (Int×Str×Option Str)) (s0 s1 s2:Option Sl),z3m (gTu [(gNm 0),(gNm 1),(gNm 2)]) (cstT true) (nmV 1) (ws.map encW) (s0::s1::s2::caps)=some ((ws.map (·.2.1)).map .str)
 | [],_,_,_=>rfl
 | w::ws,s0,s1,s2=>by
  have ih:=zpz caps ws (some (.imm (.int w.1))) (some (.imm (.str w.2.1))) (some (.imm (oS w.2.2)))
  rw[y0e,z3m]
  simp only[encW,gTu,gAll,gNm,y0p,y1j,y1m,cstT,if_true,nmV,y2j,y2i] at ih ⊢
  rw[ih]
  rfl
theorem zij {ws:List (Int×Str×Option Str)} (ho:∀w∈ws,okS w.2.1) (hl:ws.length<=100000):z40 [.tuple (ws.map encW)]=some (.bool (ws.any alW)):=by
 have hb:(ws.map encW).length<=big:=by rw[y14];unfold big;omega
 have c:=zpz [] ws none none none
 have oi:=z6q false (n:="alarm") (ns:=ws.map (·.2.1)) (z01 "alarm") (fun x hx=>by
  obtain⟨w,hw,rfl⟩:=y0m.mp hx
  exact ho w hw)
 have e:decide (("alarm":Str)∈ws.map (·.2.1))=ws.any alW:=by
  rw[Bool.eq_iff_iff]
  simp only[decide_eq_true_eq,y0m,List.any_eq_true,alW]
 suffices hs:zaa [some (.imm (.tuple (ws.map encW)))]=some (.rt (.bool (ws.any alW))) by
  unfold z40 runF
  simp only[y0e,y1a,y0w,y2l,y2r,y2q]
  exact congrArg (fun o=>Option.bind o _) hs
 simp only[zaa,rtn,op2,cst,comp,z0v,nmV,y2i,y0p,if_pos hb,z2h,y0g,y1a,y23]
 rw[c]
 simp only[y1t,y0p,oi,e]
 rfl
section
variable (p:Pl) (os:List Op) (pace:Int)
def zg7 (c:Cs) (k:Nat):Cs:=run p (fresh c) (pas (z0m os k) pace)
noncomputable def cau:Cs->List Nat->Nat->Option Nat
 | _,[],_=>none
 | c,k::ks,i=>if (zg7 p os pace c k).told.any alW then some (i+1) else cau (zg7 p os pace c k) ks (i+1)
end
def oN:Option Nat->T
 | none=>.none
 | some k=>.int (k:Int)
def ZOk (p:Pl) (os:List Op):Prop:=∀o∈os,∀z,o.2.2=some z->z∈p.zones.map (·.1)
theorem zol {p:Pl} {os:List Op} (hz:ZOk p os) {pace:Int} (hp:1<=pace) (k:Nat):∀e∈pas (z0m os k) pace,okE p e:=by
 cases hk:os[k]? with
 | none =>
  have:z0m os k=none:=by unfold z0m;rw[hk];rfl
  rw[this]
  intro e he
  simp[pas] at he
  rcases he with rfl|rfl
  ·show (1:Int)<=1
   decide
  ·exact hp
 | some o =>
  have e1:z0m os k=o.2.2:=by unfold z0m;rw[hk];rfl
  have hm:=hz o (y1y hk)
  rw[e1]
  cases hq:o.2.2 with
  | none =>
   intro e he
   simp[pas] at he
   rcases he with rfl|rfl
   ·show (1:Int)<=1
    decide
   ·exact hp
  | some z =>
   have hz':=hm z hq
   intro e he
   simp[pas] at he
   rcases he with rfl|rfl|rfl|rfl
   ·exact⟨hz',.inr (.inl rfl)⟩
   ·show (1:Int)<=1
    decide
   ·exact⟨hz',.inl rfl⟩
   ·exact hp
theorem zu6 {p:Pl} {os:List Op} (hz:ZOk p os) {pace:Int} (hp:1<=pace) {c:Cs} (hw:Wf p c) (k:Nat):Wf p (zg7 p os pace c k):=hw.fresh.run (zol hz hp k)
noncomputable def bK:Fs:=(seq (asg 8 (opN z3v [(op2 oIx (op2 oIx (nm 1) (cst (.int 1))) (nm 7)),(nmV 4)]))
  (seq (iff (tstB (opN z40 [(opN z6x [(nmV 0),(nmV 5),(nmV 8)])])) (rtn (nm 6)) skip)
  (asg 5 (opN za6 [(nmV 0),(nmV 5),(nmV 8)]))))
theorem ztv {p:Pl} (wp:Wp p) {R:Int} {os:List Op} (hz:ZOk p os) {pace:Int} (hp:1<=pace) (s2 s3:Option Sl):∀(ks:List Nat) (i:Nat) (c:Cs) (s6 s7 s8:Option Sl),Wf p c->(∀k∈ks,k<os.length) ->
  ∃c' s6' s7' s8',forL (gTu [(gNm 6),(gNm 7)]) bK ((ks.zipIdx i).map fun q=>.tuple [.int ((q.2+1:Nat):Int),.int (q.1:Nat)]) [some (.imm (encP p)),some (.imm (Ho.houseT R os)),s2,s3,some (.imm (.int pace)),some (.imm (encS c)),s6,s7,s8] =
   match cau p os pace c ks i with
   | some j=>some (.rt (.int (j:Nat)))
   | none=>some (.nx [some (.imm (encP p)),some (.imm (Ho.houseT R os)),s2,s3,some (.imm (.int pace)),some (.imm (encS c')),s6',s7',s8'])
 | [],i,c,s6,s7,s8,_,_=>⟨c,s6,s7,s8,rfl⟩
 | k::ks,i,c,s6,s7,s8,hw,hk=>by
  have hk0:=hk k (by simp)
  have ok:=zol hz hp k
  have pl:=zgm (z0m os k) pace
  have xs:=zl4 p c (pas (z0m os k) pace) hw wp ok (by omega)
  have xa:=zss p c (pas (z0m os k) pace) hw wp ok (by omega)
  have tw:=Tw.run (Tw.fresh c) hw.fresh ok
  have tl:=zcq hw.fresh ok
  have z0:(fresh c).told.length=0:=rfl
  have ha:=zij (ws:=(run p (fresh c) (pas (z0m os k) pace)).told) (fun w hw=>(tw w hw).1) (by omega)
  have pe:=zi4 os[k] pace
  rw[<- zhd hk0] at pe
  have g:gTu [(gNm 6),(gNm 7)] (.tuple [.int ((i+1:Nat):Int),.int (k:Nat)]) [some (.imm (encP p)),some (.imm (Ho.houseT R os)),s2,s3,some (.imm (.int pace)),some (.imm (encS c)),s6,s7,s8]=some [some (.imm (encP p)),some (.imm (Ho.houseT R os)),s2,s3,some (.imm (.int pace)),some (.imm (encS c)),some (.imm (.int ((i+1:Nat):Int))),some (.imm (.int (k:Nat))),s8]:=rfl
  have first:∀B:Fs,seq (asg 8 (opN z3v [(op2 oIx (op2 oIx (nm 1) (cst (.int 1))) (nm 7)),(nmV 4)])) B [some (.imm (encP p)),some (.imm (Ho.houseT R os)),s2,s3,some (.imm (.int pace)),some (.imm (encS c)),some (.imm (.int ((i+1:Nat):Int))),some (.imm (.int (k:Nat))),s8]=B [some (.imm (encP p)),some (.imm (Ho.houseT R os)),s2,s3,some (.imm (.int pace)),some (.imm (encS c)),some (.imm (.int ((i+1:Nat):Int))),some (.imm (.int (k:Nat))),some (.imm (.tuple ((pas (z0m os k) pace).map encE)))]:=fun B=>by
   refine z26 (t:=.tuple ((pas (z0m os k) pace).map encE)) ?_ rfl
   simp only[opN,op2,args,nm,nmV,cst,y2j,y2i,y0p,y1t,h_ix,o_ix hk0,pe]
  have tst:(tstB (opN z40 [(opN z6x [(nmV 0),(nmV 5),(nmV 8)])])) [some (.imm (encP p)),some (.imm (Ho.houseT R os)),s2,s3,some (.imm (.int pace)),some (.imm (encS c)),some (.imm (.int ((i+1:Nat):Int))),some (.imm (.int (k:Nat))),some (.imm (.tuple ((pas (z0m os k) pace).map encE)))]=some ((zg7 p os pace c k).told.any alW):=by
   simp only[tstB,opN,args,nmV,y2j,y2i,y0p,y1t,xs,ha]
   rfl
  cases hq:(zg7 p os pace c k).told.any alW with
  | true =>
   refine⟨c,none,none,none,?_⟩
   simp only[cau,hq,if_true]
   rw[List.zipIdx_cons,y0e,forL]
   simp only[g,y0p]
   have:bK [some (.imm (encP p)),some (.imm (Ho.houseT R os)),s2,s3,some (.imm (.int pace)),some (.imm (encS c)),some (.imm (.int ((i+1:Nat):Int))),some (.imm (.int (k:Nat))),s8]=some (.rt (.int ((i+1:Nat):Int))):=by
    unfold bK
    rw[first]
    rw[hq] at tst
    simp only[seq,iff,tst,y0p,if_true]
    rfl
   rw[this]
   rfl
  | false =>
   obtain⟨c',s6',s7',s8',ih⟩:=ztv wp (R:=R) hz hp s2 s3 ks (i+1) (zg7 p os pace c k) (some (.imm (.int ((i+1:Nat):Int)))) (some (.imm (.int (k:Nat)))) (some (.imm (.tuple ((pas (z0m os k) pace).map encE)))) (zu6 hz hp hw k) (fun y hy=>hk y (y05 _ hy))
   refine⟨c',s6',s7',s8',?_⟩
   simp only[cau,hq,y1x,if_false]
   rw[List.zipIdx_cons,y0e,forL]
   simp only[g,y0p]
   have:bK [some (.imm (encP p)),some (.imm (Ho.houseT R os)),s2,s3,some (.imm (.int pace)),some (.imm (encS c)),some (.imm (.int ((i+1:Nat):Int))),some (.imm (.int (k:Nat))),s8]=some (.nx [some (.imm (encP p)),some (.imm (Ho.houseT R os)),s2,s3,some (.imm (.int pace)),some (.imm (encS (zg7 p os pace c k))),some (.imm (.int ((i+1:Nat):Int))),some (.imm (.int (k:Nat))),some (.imm (.tuple ((pas (z0m os k) pace).map encE)))]):=by
    unfold bK
    rw[first]
    rw[hq] at tst
    refine zgt tst ?_
    simp only[asg,opN,args,nmV,y2j,y2i,y0p,y1t,xa,y1m,y1j]
    rfl
   rw[this]
   exact ih
theorem zq5 {p:Pl} (wp:Wp p) {R:Int} {os:List Op} (hz:ZOk p os) {pace:Int} (hp:1<=pace) {c:Cs} (hw:Wf p c) {way:List Nat} (hk:∀k∈way,k<os.length):z6t [encP p,Ho.houseT R os,encS c,Ho.wT way,.int pace]=some (oN (cau p os pace c way 0)):=by
 obtain⟨c',s6,s7,s8,xl⟩:=ztv wp (R:=R) hz hp (some (.imm (encS c))) (some (.imm (Ho.wT way))) way 0 c none none none hw hk
 have it:zbp (z31 (nmV 3)) [some (.imm (encP p)),some (.imm (Ho.houseT R os)),some (.imm (encS c)),some (.imm (Ho.wT way)),some (.imm (.int pace)),some (.imm (encS c)),none,none,none]=some ((way.zipIdx 0).map fun q=>.tuple [.int ((q.2+1:Nat):Int),.int (q.1:Nat)]):=by
  show some (zin (way.map fun (k:Nat)=>PyData.int (k:Int)))=_
  unfold zin
  rw[List.zipIdx_map,y2s]
  rfl
 suffices hs:zha [some (.imm (encP p)),some (.imm (Ho.houseT R os)),some (.imm (encS c)),some (.imm (Ho.wT way)),some (.imm (.int pace)),none,none,none,none]=some (.rt (oN (cau p os pace c way 0))) by
  unfold z6t runF
  simp only[y0e,y1a,y0w,y2l,y2r,y2q]
  exact congrArg (fun o=>Option.bind o _) hs
 unfold zha
 refine z26 (t:=encS c) rfl ?_
 simp only[y1m,y1j]
 have hf:for_ (zbp (z31 (nmV 3))) (gTu [(gNm 6),(gNm 7)]) bK [some (.imm (encP p)),some (.imm (Ho.houseT R os)),some (.imm (encS c)),some (.imm (Ho.wT way)),some (.imm (.int pace)),some (.imm (encS c)),none,none,none]=forL (gTu [(gNm 6),(gNm 7)]) bK ((way.zipIdx 0).map fun q=>.tuple [.int ((q.2+1:Nat):Int),.int (q.1:Nat)]) [some (.imm (encP p)),some (.imm (Ho.houseT R os)),some (.imm (encS c)),some (.imm (Ho.wT way)),some (.imm (.int pace)),some (.imm (encS c)),none,none,none]:=by
  unfold for_
  rw[it]
  rfl
 rw[xl] at hf
 show seq (for_ (zbp (z31 (nmV 3))) (gTu [(gNm 6),(gNm 7)]) bK) (rtn (cst .none)) _=_
 cases hq:cau p os pace c way 0 with
 | some j =>
  rw[hq] at hf
  simp only[seq,hf,y0p]
  rfl
 | none =>
  rw[hq] at hf
  exact z1v hf rfl
theorem zny (c:Cs):sh c.past c.told (fresh c)=c:=by simp[sh,fresh]
theorem zw1 (p:Pl) (c:Cs) (es:List Et):(run p c es).told.any alW=(c.told.any alW || (run p (fresh c) es).told.any alW):=by
 have h:=zo5 c.past c.told p es (fresh c)
 rw[zny] at h
 rw[h]
 show (c.told++(run p (fresh c) es).told.map (shW c.past)).any alW=_
 rw[List.any_append,List.any_map]
 rfl
noncomputable def zci (p:Pl) (o:Op):Op:=(o.1,o.2.1,match o.2.2 with|none=>none|some z=>if z∈p.zones.map (·.1) then some z else none)
noncomputable def bO:Fs:=(asg 5 (op2 oAdd (nm 5) (z06 [(z06 [(nmV 6),(nmV 7),(op2 oIx (z06 [(nmV 8),(cst .none)]) (opN oInt [(op2 (oIn true) (nm 8) (nm 4))]))])])))
theorem ztj {p:Pl} (hzs:∀z∈p.zones.map (·.1),okS z) (s0 s1 s2 s3:Option Sl):∀(os acc:List Op) (s6 s7 s8:Option Sl),(∀o∈os,∀x,o.2.2=some x->okS x)->acc.length+os.length<=1000->∃s6' s7' s8',forL (gTu [(gNm 6),(gNm 7),(gNm 8)]) bO (os.map Ho.opT) [s0,s1,s2,s3,some (.imm (.list ((p.zones.map (·.1)).map .str))),some (.imm (.tuple (acc.map Ho.opT))),s6,s7,s8] =
   some (.nx [s0,s1,s2,s3,some (.imm (.list ((p.zones.map (·.1)).map .str))),some (.imm (.tuple ((acc++os.map (zci p)).map Ho.opT))),s6',s7',s8'])
 | [],acc,s6,s7,s8,_,_=>⟨s6,s7,s8,by simp[forL]⟩
 | o::os,acc,s6,s7,s8,ho,hl=>by
  simp only[y0w] at hl
  obtain⟨a,b,c,ih⟩:=ztj hzs s0 s1 s2 s3 os (acc++[zci p o]) (some (.imm (.int o.1))) (some (.imm (.int o.2.1))) (some (.imm (Ho.zT o.2.2))) (fun y hy=>ho y (y05 _ hy)) (by simp only[y27,y0w,y2l];omega)
  refine⟨a,b,c,?_⟩
  have g:gTu [(gNm 6),(gNm 7),(gNm 8)] (Ho.opT o) [s0,s1,s2,s3,some (.imm (.list ((p.zones.map (·.1)).map .str))),some (.imm (.tuple (acc.map Ho.opT))),s6,s7,s8]=some [s0,s1,s2,s3,some (.imm (.list ((p.zones.map (·.1)).map .str))),some (.imm (.tuple (acc.map Ho.opT))),some (.imm (.int o.1)),some (.imm (.int o.2.1)),some (.imm (Ho.zT o.2.2))]:=rfl
  have hb:(acc.map Ho.opT).length+1<=big:=by rw[y14];unfold big;omega
  have ea:∀t:T,oAdd (.tuple (acc.map Ho.opT)) (.tuple [t])=some (.tuple (acc.map Ho.opT++[t])):=fun t=>by
   simp only[oAdd,y0w,y2l]
   rw[if_pos hb]
  have oi:∃b:Bool,oIn true (Ho.zT o.2.2) (.list ((p.zones.map (·.1)).map .str))=some (.bool b)/\oIx (.tuple [Ho.zT o.2.2,.none]) (.int (if b then 1 else 0))=some (Ho.zT (zci p o).2.2):=by
   obtain⟨x,y,z⟩:=o
   cases z with
   | none =>
    refine⟨true,?_,by simp[Ho.zT,zci,oIx,atZ,ixOf]⟩
    show (if okT .none && okL ((p.zones.map (·.1)).map .str) then some (PyData.bool (if true then !hasT .none ((p.zones.map (·.1)).map .str) else _)) else none)=_
    have h1:hasT .none ((p.zones.map (·.1)).map .str)=false:=by
     unfold hasT
     rw[List.any_eq_false]
     intro t ht
     obtain⟨z,_,rfl⟩:=y0m.mp ht
     simp[y25]
    rw[(zgn 0).okT,zdh _ hzs,h1]
    rfl
   | some z =>
    have oz:=ho (x,y,some z) (by simp) z rfl
    have q:=z6q true (n:=z) (ns:=p.zones.map (·.1)) oz hzs
    by_cases hm:z∈p.zones.map (·.1)
    ·refine⟨false,by show oIn true (.str z) _=_;rw[q];simp only[if_true,decide_eq_true hm];rfl,?_⟩
     simp[Ho.zT,zci,hm,oIx,atZ,ixOf]
    ·refine⟨true,by show oIn true (.str z) _=_;rw[q];simp only[if_true,decide_eq_false hm];rfl,?_⟩
     simp[Ho.zT,zci,hm,oIx,atZ,ixOf]
  obtain⟨bb,o1,o2⟩:=oi
  have step:bO [s0,s1,s2,s3,some (.imm (.list ((p.zones.map (·.1)).map .str))),some (.imm (.tuple (acc.map Ho.opT))),some (.imm (.int o.1)),some (.imm (.int o.2.1)),some (.imm (Ho.zT o.2.2))]=some (.nx [s0,s1,s2,s3,some (.imm (.list ((p.zones.map (·.1)).map .str))),some (.imm (.tuple ((acc++[zci p o]).map Ho.opT))),some (.imm (.int o.1)),some (.imm (.int o.2.1)),some (.imm (Ho.zT o.2.2))]):=by
   simp only[bO,asg,op2,opN,args,nm,nmV,z06,cst,y2j,y2i,y0p,y1t,y0w,y2l,Nat.zero_add,Nat.reduceAdd,zdg,z5i,z38,if_true,o1,oInt,o2,ea,y1m,y1j,List.map_append,y0e,y1a]
   rfl
  rw[y0e,forL,g]
  simp only[y0p,step]
  rw[ih]
  simp
theorem zkb {p:Pl} (hp:DP p) (n:Int) (hn:0<=n):∃R os,Ho.Drawn R os/\ZOk p os/\z4a [encP p,.int n]=some (Ho.houseT R os):=by
 obtain⟨R,os,d,xh⟩:=Ho.house_eq n hn
 rw[<- zn2] at xh
 have hzs:∀z∈p.zones.map (·.1),okS z:=fun z hz=>hp.begun.okz hz
 have hok:∀o∈os,∀x,o.2.2=some x->okS x:=fun o ho x hx=>z5r (l:=Ho.names5) (hx:=(d.ok o ho).2.2.2 x hx)
 obtain⟨a,b,c,xl⟩:=ztj hzs (some (.imm (encP p))) (some (.imm (.int n))) (some (.imm (.int R))) (some (.imm (.tuple (os.map Ho.opT)))) os [] none none none hok (by have:=d.len;simp;omega)
 refine⟨R,os.map (zci p),⟨d.r1,d.r7,by simpa using d.len,fun o ho=>?_⟩,fun o ho z hz=>?_,?_⟩
 ·obtain⟨o',ho',rfl⟩:=y0m.mp ho
  obtain⟨h1,h2,h3,h4⟩:=d.ok o' ho'
  refine⟨h1,h2,h3,fun x hx=>?_⟩
  unfold zci at hx
  simp only at hx
  split at hx
  ·cases hx
  next z hz =>
   split at hx
   ·cases hx
    exact h4 _ hz
   ·cases hx
 ·obtain⟨o',ho',rfl⟩:=y0m.mp ho
  unfold zci at hz
  simp only at hz
  split at hz
  ·cases hz
  ·split at hz
   next hm=>cases hz;exact hm
   ·cases hz
 ·have zb:(p.zones.map encZ).length<=big:=by have:=hp.zl;rw[y14];unfold big;omega
  have cz:z3m (gNm 0) (cstT true) (op2 oIx (nm 0) (cst (.int 0))) (p.zones.map encZ) [none]=some ((p.zones.map (·.1)).map .str):=by
   have:=zh1 encZ (fun z=>.str z.1) [] p.zones none fun z hz=>by simp! [sp2,encZ]
   rw[this,y2s]
   rfl
  suffices hs:z8s [some (.imm (encP p)),some (.imm (.int n)),none,none,none,none,none,none,none]=some (.rt (Ho.houseT R (os.map (zci p)))) by
   unfold z4a runF
   simp only[y0e,y1a,y0w,y2l,y2r,y2q]
   exact congrArg (fun o=>Option.bind o _) hs
  unfold z8s
  refine z1v (ε':=[some (.imm (encP p)),some (.imm (.int n)),some (.imm (.int R)),some (.imm (.tuple (os.map Ho.opT))),none,none,none,none,none]) ?_ ?_
  ·simp only[asgT,opN,args,nmV,y2j,y2i,y0p,y1t,xh]
   rfl
  refine z26 (t:=.list ((p.zones.map (·.1)).map .str)) (by
   simp only[comp,z0v,op2,nm,cst,y2j,y2i,y0p,ix_z,if_pos zb,z2h,y0g,y1a,y23]
   rw[cz]
   rfl) ?_
  simp only[y1m,y1j]
  refine z26 (t:=.tuple []) (by simp[z06,args]) ?_
  simp only[y1m,y1j]
  refine z1v (ε':=[some (.imm (encP p)),some (.imm (.int n)),some (.imm (.int R)),some (.imm (.tuple (os.map Ho.opT))),some (.imm (.list ((p.zones.map (·.1)).map .str))),some (.imm (.tuple ((os.map (zci p)).map Ho.opT))),a,b,c]) ?_ ?_
  ·have it:z0v (nmV 3) [some (.imm (encP p)),some (.imm (.int n)),some (.imm (.int R)),some (.imm (.tuple (os.map Ho.opT))),some (.imm (.list ((p.zones.map (·.1)).map .str))),some (.imm (.tuple [])),none,none,none]=some (os.map Ho.opT):=rfl
   unfold for_
   rw[it]
   exact xl
  ·simp[rtn,z06,args,nmV,z5i,Ho.houseT]
theorem zts {E:List (Int×Int)}:∀{w:List Nat} {x:Int} {q:List Int},Hg.Fol E x w q->∀k∈w,k<E.length
 | [],_,_,_,k,hk=>by cases hk
 | j::w,x,q,h,k,hk=>by
  obtain⟨e,t,r,h1,_,_,h4⟩:=h
  rcases y09.mp hk with rfl|hk
  ·exact (y0k.mp h1).1
  ·exact zts h4 k hk
theorem zr1 {j:Int} (h0:0<=j) (h1:j<=100):z6w j=true:=by
 unfold z6w
 simp
 omega
theorem zxp {f:Fe} {ε:Ev} {j:Int} (h:f ε=some (.int j)) (h0:0<=j) (h1:j<=100):z2w f ε=some (rng 0 j):=by
 unfold z2w
 rw[h]
 simp only[y0p]
 rw[if_pos (zr1 h0 h1)]
theorem zuf (n:Nat):rng 0 (n:Int)=(List.range n).map fun (k:Nat)=>PyData.int (k:Int):=by
 unfold rng
 simp
theorem zv9 (q:Option Nat):oNe (oN q) (oN q)=some (.bool false):=by
 cases q with
 | none=>exact zgo (zgn 0)
 | some j=>exact zgo (z8e 0 _)
section
variable {p:Pl} (wp:Wp p) {R:Int} {os:List Op} (hz:ZOk p os) {pace:Int} (hp:1<=pace) {c:Cs} (hw:Wf p c) {way:List Nat} (hk:∀k∈way,k<os.length)
include wp hz hp hw hk
end
end K33
end
section
namespace Bo
open D Co
open PySem hiding run fresh code
local instance:Tbl:=⟨[],fun _=>[],fun _=>none⟩
def nxt (p:Pl) (c:Cs) (e:Et):Cs:=happen p (fresh c) e
noncomputable def encB (p:Pl) (es:List Et) (pre:List Cs) (c:Cs):List Sl:=[.imm (encP p),.own (es.map encE),.own ((pre++[c]).map encS)]
noncomputable def okB (p:Pl) (e:Et):Prop:=okE p e/\match e with
 | .code _ _ z=>∀x,z=some x->x∈p.zones.map (·.1)
 | _=>True
section
variable {p:Pl} {es:List Et} {pre:List Cs} {c:Cs} {md:Md}
theorem zvh (xs:List T) (x:T):oIx (.list (xs++[x])) (.int (-1))=some x:=by
 have h1:¬((0:Int)<=-1):=by omega
 have h2:-(((xs++[x]).length:Nat):Int)<=-1:=by simp only[y27,y0w,y2l];omega
 have h3:(-1+(((xs++[x]).length:Nat):Int)).toNat=xs.length:=by simp only[y27,y0w,y2l];omega
 simp only[oIx,atZ,ixOf]
 rw[if_neg h1,if_pos h2,h3]
 simp
theorem zj8:z10 [.obj md 1 (encB p es pre c)]=some (encS c):=by
 have hs:z7z [some (.obj md 1 (encB p es pre c))]=some (.rt (encS c)):=by
  have e1_:fld 1 0 2 [some (.obj md 1 (encB p es pre c))]=some (.list (pre.map encS++[encS c])):=by
   simp[fld,objF,encB]
  have e2_:op1 oNeg (cst (.int 1)) [some (.obj md 1 (encB p es pre c))]=some (.int (-1)):=rfl
  unfold z7z rtn op2
  rw[e1_,e2_]
  simp only[y0p,zvh]
  rfl
 unfold z10 runR
 show Option.bind (z7z [some (.obj md 1 (encB p es pre c))]) _=_
 rw[hs]
 rfl
theorem zk4 {ε:Ev} {i:Nat} (h:ε[i]?=some (some (.obj md 1 (encB p es pre c)))):z21 1 z10 i [] ε=some (encS c):=by
 have:objF 1 i ε=some (md,encB p es pre c):=by simp[objF,h]
 simp only[z21,this,y0p,args,y1a,zj8]
theorem zim {ε:Ev} {i:Nat} (h:ε[i]?=some (some (.obj md 1 (encB p es pre c)))):fldV 1 i 0 ε=some (encP p):=by
 have:objF 1 i ε=some (md,encB p es pre c):=by simp[objF,h]
 simp only[fldV,this,y0p]
 rfl
theorem zng (wp:Wp p) (hw:Wf p c) {e:Et} (he:okE p e) (hl:es.length<10000) (hp:pre.length<10000) :
  z1m [.obj .lent 1 (encB p es pre c),.imm (encE e)]=some (.tuple ((nxt p c e).told.map z66),encB p (es++[e]) (pre++[c]) (nxt p c e)):=by
 have xw:=zqr p c e hw wp he
 have xg:=zvm p c e hw wp he
 have b1:(es.map encE).length<big:=by rw[y14];unfold big;omega
 have b2:((pre++[c]).map encS).length<big:=by simp only[y14,y27,y0w,y2l];unfold big;omega
 have hs:z6v [some (.obj .lent 1 (encB p es pre c)),some (.imm (encE e)),none,none]=some (.rtm (.tuple ((nxt p c e).told.map z66)) [some (.obj .lent 1 (encB p (es++[e]) (pre++[c]) (nxt p c e))),some (.imm (encE e)),some (.imm (.tuple ((nxt p c e).told.map z66))),some (.imm (encS (nxt p c e)))]):=by
  unfold z6v
  refine z26 (t:=.tuple ((nxt p c e).told.map z66)) (by
   simp only[opN,args,zim (i:=0) (ε:=[some (.obj .lent 1 (encB p es pre c)),some (.imm (encE e)),none,none]) rfl,zk4 (i:=0) (ε:=[some (.obj .lent 1 (encB p es pre c)),some (.imm (encE e)),none,none]) rfl,nmV,y2j,y2i,y0p,y1t,xw]
   rfl) ?_
  simp only[y1m,y1j]
  refine z26 (t:=encS (nxt p c e)) (by
   simp only[opN,args,zim (i:=0) (ε:=[some (.obj .lent 1 (encB p es pre c)),some (.imm (encE e)),some (.imm (.tuple ((nxt p c e).told.map z66))),none]) rfl,zk4 (i:=0) (ε:=[some (.obj .lent 1 (encB p es pre c)),some (.imm (encE e)),some (.imm (.tuple ((nxt p c e).told.map z66))),none]) rfl,nmV,y2j,y2i,y0p,y1t,xg]
   rfl) ?_
  simp only[y1m,y1j]
  refine z1v (ε':=[some (.obj .lent 1 [.imm (encP p),.own ((es++[e]).map encE),.own ((pre++[c]).map encS)]),some (.imm (encE e)),some (.imm (.tuple ((nxt p c e).told.map z66))),some (.imm (encS (nxt p c e)))]) ?_ ?_
  ·simp only[appF,fldL,setF,objF,encB,nmV,y2j,y2i,y0p,y1t,if_true,if_pos b1]
   have em:(es++[e]).map encE=es.map encE++[encE e]:=by simp
   rw[em]
   rfl
  refine z1v (ε':=[some (.obj .lent 1 (encB p (es++[e]) (pre++[c]) (nxt p c e))),some (.imm (encE e)),some (.imm (.tuple ((nxt p c e).told.map z66))),some (.imm (encS (nxt p c e)))]) ?_ rfl
  simp only[appF,fldL,setF,objF,encB,nmV,y2j,y2i,y0p,y1t,if_true,if_pos b2]
  have em:((pre++[c])++[nxt p c e]).map encS=(pre++[c]).map encS++[encS (nxt p c e)]:=by simp
  rw[em]
  rfl
 unfold z1m runM
 show Option.bind (z6v [some (.obj .lent 1 (encB p es pre c)),some (.imm (encE e)),none,none]) _=_
 rw[hs]
 simp[z57]
theorem zgv (wp:Wp p) (hw:Wf p c) {e:Et} (he:okE p e) (hl:es.length<10000) (hp:pre.length<10000) {ε:Ev} {i:Nat} {md:Md} (hm:md≠.ro) (h:ε[i]?=some (some (.obj md 1 (encB p es pre c)))) {f:Fe} (hf:f ε=some (encE e)) :
  z0s 1 z1m i [f] ε=some (.tuple ((nxt p c e).told.map z66),ε.set i (some (.obj md 1 (encB p (es++[e]) (pre++[c]) (nxt p c e))))):=by
 have h1:objF 1 i ε=some (md,encB p es pre c):=by simp[objF,h]
 simp only[z0s,h1,y0p,if_neg hm,args,hf,y1t,y0e,y1a,zng wp hw he hl hp]
theorem need_zone (hz:∀x∈p.zones,okS x.1/\okS x.2) {z:Str} (h:z∈p.zones.map (·.1)):z19 [.obj .ro 1 (encB p es pre c),.imm (.str z)]=some .none:=by
 have ek:=zbo hz h
 have hs:z4q [some (.obj .ro 1 (encB p es pre c)),some (.imm (.str z))]=some (.nx [some (.obj .ro 1 (encB p es pre c)),some (.imm (.str z))]):=by
  unfold z4q
  simp only[exE,opN,args,zim (i:=0) (ε:=[some (.obj .ro 1 (encB p es pre c)),some (.imm (.str z))]) rfl,nmV,y2j,y2i,y0p,y1t,ek]
 unfold z19 runR
 show Option.bind (z4q [some (.obj .ro 1 (encB p es pre c)),some (.imm (.str z))]) _=_
 rw[hs]
 rfl
theorem ztn (hz:∀x∈p.zones,okS x.1/\okS x.2) {z:Str} (h:z∈p.zones.map (·.1)) {ε:Ev} {i:Nat} (hi:ε[i]?=some (some (.obj md 1 (encB p es pre c)))) {f:Fe} (hf:f ε=some (.str z)):exE (z21 1 z19 i [f]) ε=some (.nx ε):=by
 have h1:objF 1 i ε=some (md,encB p es pre c):=by simp[objF,hi]
 simp only[exE,z21,h1,y0p,args,hf,y1t,y0e,y1a,need_zone hz h]
noncomputable def Did (p:Pl) (es:List Et) (pre:List Cs) (c:Cs) (e:Et):T×List Sl:=(.tuple ((nxt p c e).told.map z66),encB p (es++[e]) (pre++[c]) (nxt p c e))
theorem zsm (wp:Wp p) (hw:Wf p c) {z w:Str} (he:okE p (.line z w)) (hl:es.length<10000) (hp:pre.length<10000) :
  z76 [.obj .lent 1 (encB p es pre c),.imm (.str z),.imm (.str w)]=some (Did p es pre c (.line z w)):=by
 have b3:(3:Nat)<=big:=by unfold big;omega
 have hs:z9c [some (.obj .lent 1 (encB p es pre c)),some (.imm (.str z)),some (.imm (.str w))]=some (.rtm (Did p es pre c (.line z w)).1 [some (.obj .lent 1 (Did p es pre c (.line z w)).2),some (.imm (.str z)),some (.imm (.str w))]):=by
  unfold z9c
  refine z1v (ztn hw.zn he.1 (i:=0) rfl rfl) ?_
  unfold rtnX
  rw[zgv wp hw he hl hp (by decide) (i:=0) rfl (by simp[z06,args,cst,nmV,b3,encE])]
  rfl
 unfold z76 runM
 show Option.bind (z9c [some (.obj .lent 1 (encB p es pre c)),some (.imm (.str z)),some (.imm (.str w))]) _=_
 rw[hs]
 simp[z57]
theorem zqc (wp:Wp p) (hw:Wf p c) {n:Int} (he:okE p (.ticks n)) (hl:es.length<10000) (hp:pre.length<10000) :
  z67 [.obj .lent 1 (encB p es pre c),.imm (.int n)]=some (Did p es pre c (.ticks n)):=by
 have b3:(2:Nat)<=big:=by unfold big;omega
 have hs:z7y [some (.obj .lent 1 (encB p es pre c)),some (.imm (.int n))]=some (.rtm (Did p es pre c (.ticks n)).1 [some (.obj .lent 1 (Did p es pre c (.ticks n)).2),some (.imm (.int n))]):=by
  unfold z7y rtnX
  rw[zgv wp hw he hl hp (by decide) (i:=0) rfl (by simp[z06,args,cst,nmV,b3,encE])]
  rfl
 unfold z67 runM
 show Option.bind (z7y [some (.obj .lent 1 (encB p es pre c)),some (.imm (.int n))]) _=_
 rw[hs]
 simp[z57]
theorem zso (wp:Wp p) (hw:Wf p c) {f d:Str} {z:Option Str} (he:okB p (.code f d z)) (hl:es.length<10000) (hp:pre.length<10000) :
  z77 [.obj .lent 1 (encB p es pre c),.imm (.str f),.imm (.str d),.imm (oS z)]=some (Did p es pre c (.code f d z)):=by
 have b3:(4:Nat)<=big:=by unfold big;omega
 have hd:okS d:=by
  rcases he.1.2.1 with h|h|h|h <;> (rw[h];exact z01 _)
 have oi:=zav false (n:=d) (ns:=["shunt","free"]) hd (fun x hx=>by
  simp only[y09,y2g,or_false] at hx
  rcases hx with h|h <;> (rw[h];exact z01 _))
 have hs:z9d [some (.obj .lent 1 (encB p es pre c)),some (.imm (.str f)),some (.imm (.str d)),some (.imm (oS z))]=some (.rtm (Did p es pre c (.code f d z)).1 [some (.obj .lent 1 (Did p es pre c (.code f d z)).2),some (.imm (.str f)),some (.imm (.str d)),some (.imm (oS z))]):=by
  unfold z9d
  refine z1v (ε':=[some (.obj .lent 1 (encB p es pre c)),some (.imm (.str f)),some (.imm (.str d)),some (.imm (oS z))]) ?_ ?_
  ·cases z with
   | some x =>
    have hx:x∈p.zones.map (·.1):=he.2 x rfl
    unfold iff
    have t:orT (tstB (op1 z3j (nm 3))) (tstB (op2 (oIn false) (nm 2) (cst (.tuple (z85 ["shunt","free"]))))) [some (.obj .lent 1 (encB p es pre c)),some (.imm (.str f)),some (.imm (.str d)),some (.imm (oS (some x)))]=some true:=rfl
    rw[t]
    exact ztn hw.zn hx (i:=0) rfl rfl
   | none =>
    have nd:¬(d∈(["shunt","free"]:List Str)):=fun hm=>by
     simp only[y09,y2g,or_false] at hm
     obtain⟨x,hx,_⟩:=he.1.2.2 hm
     cases hx
    simp only[y1x,if_false,decide_eq_false nd] at oi
    have oi':oIn false (.str d) (.tuple (z85 ["shunt","free"]))=some (.bool false):=oi
    unfold iff
    have t:orT (tstB (op1 z3j (nm 3))) (tstB (op2 (oIn false) (nm 2) (cst (.tuple (z85 ["shunt","free"]))))) [some (.obj .lent 1 (encB p es pre c)),some (.imm (.str f)),some (.imm (.str d)),some (.imm (oS none))]=some false:=by
     simp only[orT,tstB,op1,op2,nm,cst,y2j,y2i,y0p,oi']
     rfl
    rw[t]
    rfl
  unfold rtnX
  rw[zgv (e:=.code f d z) wp hw he.1 hl hp (by decide) (i:=0) rfl (by simp[z06,args,cst,nmV,b3,encE])]
  rfl
 unfold z77 runM
 show Option.bind (z9d [some (.obj .lent 1 (encB p es pre c)),some (.imm (.str f)),some (.imm (.str d)),some (.imm (oS z))]) _=_
 rw[hs]
 simp[z57]
theorem zxz (wp:Wp p) (hw:Wf p c) {e:Et} (he:okB p e) (hl:es.length<10000) (hp:pre.length<10000) :
  z3d [.obj .lent 1 (encB p es pre c),.imm (encE e)]=some (Did p es pre c e):=by
 have fin:z99 [some (.obj .lent 1 (encB p es pre c)),some (.imm (encE e))]=some (.rtm (Did p es pre c e).1 [some (.obj .lent 1 (Did p es pre c e).2),some (.imm (encE e))]):=by
  have hm:¬(Md.lent=Md.ro):=by decide
  have ob:∀s:Option Sl,objF 1 0 [some (.obj .lent 1 (encB p es pre c)),s]=some (.lent,encB p es pre c):=fun s=>rfl
  unfold z99
  cases e with
  | line z w =>
   have x:=zsm wp hw he.1 hl hp
   have q:=z0d (z01 "line") (z01 "line")
   simp! [sp2,encE,q,rtnX,z0s,ob,x]
  | code f d z =>
   have x:=zso wp hw he hl hp
   have q1:=z0d (z01 "code") (z01 "line")
   have q2:=z0d (z01 "code") (z01 "code")
   simp! [sp10,encE,q1,q2,rtnX,z0s,ob,x]
  | ticks n =>
   have x:=zqc wp hw he.1 hl hp
   have q1:=z0d (z01 "ticks") (z01 "line")
   have q2:=z0d (z01 "ticks") (z01 "code")
   simp! [sp10,encE,q1,q2,rtnX,z0s,ob,x]
 unfold z3d runM
 show Option.bind (z99 [some (.obj .lent 1 (encB p es pre c)),some (.imm (encE e))]) _=_
 rw[fin]
 simp[z57,Did]
theorem do_m (wp:Wp p) (hw:Wf p c) {e:Et} (he:okB p e) (hl:es.length<10000) (hp:pre.length<10000) {ε:Ev} {i:Nat} {md:Md} (hm:md≠.ro) (h:ε[i]?=some (some (.obj md 1 (encB p es pre c)))) {f:Fe} (hf:f ε=some (encE e)) :
  zj7 1 z3d [] i [f] ε=some (.tuple ((nxt p c e).told.map z66),ε.set i (some (.obj md 1 (encB p (es++[e]) (pre++[c]) (nxt p c e))))):=by
 have h1:objF 1 i ε=some (md,encB p es pre c):=by simp[objF,h]
 simp only[zj7,h1,y0p,if_neg hm,args,hf,y1t,y0e,y1a,y2q,zxz wp hw he hl hp]
 rfl
theorem zsl (e:Et) (c':Cs):z4b [.obj .lent 1 (encB p (es++[e]) (pre++[c]) c')]=some (.none,encB p es pre c):=by
 have hs:z9b [some (.obj .lent 1 (encB p (es++[e]) (pre++[c]) c'))]=some (.nx [some (.obj .lent 1 (encB p es pre c))]):=by
  have e1_:encB p (es++[e]) (pre++[c]) c'=[.imm (encP p),.own (es.map encE++[encE e]),.own ((pre++[c]).map encS++[encS c'])]:=by simp[encB]
  rw[e1_]
  unfold z9b
  refine zgt ?_ ?_
  ·have t:tstL (fld 1 0 1) [some (.obj .lent 1 [.imm (encP p),.own (es.map encE++[encE e]),.own ((pre++[c]).map encS++[encS c'])])]=some true:=by
    simp[tstL,fld,objF]
   unfold notT
   rw[t]
   rfl
  refine z1v (ε':=[some (.obj .lent 1 [.imm (encP p),.own (es.map encE),.own ((pre++[c]).map encS++[encS c'])])]) ?_ ?_
  ·simp only[popF,fldL,setF,objF,y2j,y2i,y0p,if_true,List.getLast?_concat,List.dropLast_concat]
   rfl
  ·simp only[popF,fldL,setF,objF,y2j,y2i,y0p,if_true,List.getLast?_concat,List.dropLast_concat]
   rfl
 unfold z4b runM
 show Option.bind (z9b [some (.obj .lent 1 (encB p (es++[e]) (pre++[c]) c'))]) _=_
 rw[hs]
 simp[z57]
theorem zw6 (e:Et) (c':Cs) {ε:Ev} {i:Nat} {md:Md} (hm:md≠.ro) (h:ε[i]?=some (some (.obj md 1 (encB p (es++[e]) (pre++[c]) c')))) :
  exX (z0s 1 z4b i []) ε=some (.nx (ε.set i (some (.obj md 1 (encB p es pre c))))):=by
 have h1:objF 1 i ε=some (md,encB p (es++[e]) (pre++[c]) c'):=by simp[objF,h]
 simp only[exX,z0s,h1,y0p,if_neg hm,args,y1t,y1a,zsl]
def heC (pre:List Cs) (c:Cs):Cs:=(pre++[c]).headD c
theorem zqd (hw:Wf p c):z32 [.obj .ro 1 (encB p es pre c)]=some (.tuple [.str c.mode,.bool (decide (c.siren > 0)),.tuple ((z8g p c).map .str)]):=by
 have xs:=zr3 p c hw
 have hs:z80 [some (.obj .ro 1 (encB p es pre c))]=some (.rt (.tuple [.str c.mode,.bool (decide (c.siren > 0)),.tuple ((z8g p c).map .str)])):=by
  unfold z80
  simp only[rtn,opN,args,zim (i:=0) (ε:=[some (.obj .ro 1 (encB p es pre c))]) rfl,zk4 (i:=0) (ε:=[some (.obj .ro 1 (encB p es pre c))]) rfl,y0p,y1t,xs]
 unfold z32 runR
 show Option.bind (z80 [some (.obj .ro 1 (encB p es pre c))]) _=_
 rw[hs]
 rfl
theorem zqe (hl:es.length<10000):z3k [.obj .ro 1 (encB p es pre c)]=some (.tuple (es.map encE)):=by
 have b1:es.length<=big:=by unfold big;omega
 have hs:zb9 [some (.obj .ro 1 (encB p es pre c))]=some (.rt (.tuple (es.map encE))):=by
  unfold zb9
  simp[rtn,opN,args,fld,objF,encB,z1k,b1]
 unfold z3k runR
 show Option.bind (zb9 [some (.obj .ro 1 (encB p es pre c))]) _=_
 rw[hs]
 rfl
theorem zp9 (x:T) (xs:List T):oIx (.list (x::xs)) (.int 0)=some x:=by
 have h:(0:Int)<(((x::xs).length:Nat):Int):=by simp only[y0w];omega
 simp only[oIx,atZ,ixOf,Int.le_refl,if_true,if_pos h]
 rfl
theorem zvz (wp:Wp p) (hh:Wf p (heC pre c)) (he:∀e∈es,okE p e) (hl:es.length<=1000):z59 [.obj .ro 1 (encB p es pre c)]=some (.tuple ((run p (fresh (heC pre c)) es).told.map encW)):=by
 have xs:=zl4 p (heC pre c) es hh wp he hl
 have xr:=zqe (p:=p) (pre:=pre) (c:=c) (es:=es) (by omega)
 have e1_:op2 oIx (fld 1 0 2) (cst (.int 0)) [some (.obj .ro 1 (encB p es pre c))]=some (encS (heC pre c)):=by
  have e2_:fld 1 0 2 [some (.obj .ro 1 (encB p es pre c))]=some (.list ((pre++[c]).map encS)):=by
   simp[fld,objF,encB]
  unfold op2
  rw[e2_]
  have e3_:cst (.int 0) [some (.obj .ro 1 (encB p es pre c))]=some (.int 0):=rfl
  rw[e3_]
  simp only[y0p]
  cases pre with
  | nil=>exact zp9 _ _
  | cons x pre=>exact zp9 _ _
 have hs:zba [some (.obj .ro 1 (encB p es pre c))]=some (.rt (.tuple ((run p (fresh (heC pre c)) es).told.map encW))):=by
  have ob:objF 1 0 [some (.obj .ro 1 (encB p es pre c))]=some (.ro,encB p es pre c):=rfl
  unfold zba
  simp only[rtn,opN,args,zim (i:=0) (ε:=[some (.obj .ro 1 (encB p es pre c))]) rfl,e1_,z21,ob,y0p,y1t,y1a,xr,xs]
 unfold z59 runR
 show Option.bind (zba [some (.obj .ro 1 (encB p es pre c))]) _=_
 rw[hs]
 rfl
end
end Bo
end
section
namespace K35
open D Co K33 Bo
open PySem hiding run fresh code
local instance:Tbl:=⟨[],fun _=>[],fun _=>none⟩
noncomputable def z33 (p:Pl):Cs->List Et->List Cs
 | _,[]=>[]
 | c,e::es=>c::z33 p (nxt p c e) es
def endS (p:Pl) (c:Cs) (es:List Et):Cs:=es.foldl (nxt p) c
noncomputable def anyA (p:Pl):Cs->List Et->Bool
 | _,[]=>false
 | c,e::es=>(nxt p c e).told.any alW || anyA p (nxt p c e) es
theorem zox {p:Pl} {c:Cs} (hw:Wf p c) {e:Et} (he:okE p e):Wf p (nxt p c e):=hw.fresh.happen he
theorem zpv {p:Pl}:∀{es:List Et} {c:Cs},Wf p c->(∀e∈es,okE p e)->Wf p (endS p c es)
 | [],_,h,_=>h
 | e::es,c,h,he=>zpv (es:=es) (zox h (he e (by simp))) fun y hy=>he y (y05 _ hy)
theorem z8o (p:Pl):∀(xs ys:List Et) (c:Cs),z33 p c (xs++ys)=z33 p c xs++z33 p (endS p c xs) ys
 | [],ys,c=>rfl
 | x::xs,ys,c=>by
  show c::z33 p (nxt p c x) (xs++ys)=c::(z33 p (nxt p c x) xs++z33 p (endS p (nxt p c x) xs) ys)
  rw[z8o p xs ys]
theorem zfr (p:Pl) (xs ys:List Et) (c:Cs):endS p c (xs++ys)=endS p (endS p c xs) ys:=by simp[endS]
theorem zea (p:Pl):∀(xs:List Et) (c:Cs),(z33 p c xs).length=xs.length
 | [],c=>rfl
 | x::xs,c=>by simp[z33,zea p xs]
theorem zsa (p:Pl):∀(xs:List Et) (c:Cs),heC (z33 p c xs) (endS p c xs)=c
 | [],c=>rfl
 | x::xs,c=>rfl
theorem zik (p:Pl):∀(es:List Et) (c:Cs),fresh (endS p c es)=fresh (run p (fresh c) es)
 | [],c=>rfl
 | e::es,c=>by
  have ih:=zik p es (nxt p c e)
  have h:=zo5 (nxt p c e).past (nxt p c e).told p es (fresh (nxt p c e))
  rw[zny] at h
  show fresh (endS p (nxt p c e) es)=fresh (run p (nxt p c e) es)
  rw[ih,h]
  rfl
theorem zji (p:Pl):∀(es:List Et) (c:Cs),anyA p c es=(run p (fresh c) es).told.any alW
 | [],c=>rfl
 | e::es,c=>by
  have ih:=zji p es (nxt p c e)
  show ((nxt p c e).told.any alW || anyA p (nxt p c e) es)=(run p (nxt p c e) es).told.any alW
  rw[zw1,ih]
noncomputable def cauS (p:Pl) (os:List Op) (pace:Int):Cs->List Nat->Nat->Option Nat
 | _,[],_=>none
 | c,k::ks,i=>if anyA p c (pas (z0m os k) pace) then some (i+1) else cauS p os pace (endS p c (pas (z0m os k) pace)) ks (i+1)
theorem zq6 (p:Pl) (os:List Op) (pace:Int):∀(ks:List Nat) (c c':Cs) (i:Nat),fresh c=fresh c'->cauS p os pace c ks i=cau p os pace c' ks i
 | [],c,c',i,h=>rfl
 | k::ks,c,c',i,h=>by
  have e1_:anyA p c (pas (z0m os k) pace)=(zg7 p os pace c' k).told.any alW:=by
   rw[zji,h]
   rfl
  have ih:=zq6 p os pace ks (endS p c (pas (z0m os k) pace)) (zg7 p os pace c' k) (i+1) (by
   rw[zik,h]
   rfl)
  simp only[cauS,cau,e1_,ih]
noncomputable def first (f:Option Nat) (g:Option Nat):Option Nat:=match f with
 | some q=>some q
 | none=>g
def at1 (i:Nat) (b:Bool):Option Nat:=if b then some (i+1) else none
theorem zsc (f:Option Nat) (i:Nat) (a b:Bool):first (first f (at1 i a)) (at1 i b)=first f (at1 i (a || b)):=by
 cases f <;> cases a <;> cases b <;> rfl
theorem zvv (caps:Ev) (ws:List (Int×Str×Option Str)) (s0 s1:Option Sl):z3m (gTu [(gNm 0),(gNm 1)]) (cstT true) (nmV 0) (ws.map z66) (s0::s1::caps)=some ((ws.map (·.2.1)).map .str):=by
 have:=zkk (enc:=z66) (x:=fun w=>.str w.2.1) (y:=fun w=>oS w.2.2) (g:=fun w=>.str w.2.1) (q:=fun _=>true) (cc:=cstT true) (ee:=nmV 0) (caps:=caps) (fun _=>rfl) ws s0 s1 fun w _=>⟨rfl,fun _=>rfl⟩
 rw[this,List.filter_eq_self.mpr (by simp),y2s]
 rfl
noncomputable def bE:Fs:=(seq (asgX 14 (zj7 1 z3d [] 4 [(nmV 5)]))
  (seq (asg 11 (op2 oAdd (nm 11) (cst (.int 1))))
  (iff (andT (tstB (op1 oIsN (nm 10))) (tstB (op2 (oIn false) (cst (.str "alarm")) (comp 2 [] (z0v (nmV 14)) (gTu [(gNm 0),(gNm 1)]) (cstT true) (nmV 0))))) (asg 10 (op2 oAdd (nm 12) (cst (.int 1)))) skip)))
section
variable {p:Pl} (wp:Wp p)
include wp
theorem ztt (s0 s1 s2 s3 s6 s7 s8 s9 s13 s15:Option Sl) (i:Nat):∀(evs es:List Et) (pre:List Cs) (c:Cs) (f:Option Nat) (m:Nat) (s5 s14:Option Sl),Wf p c->(∀e∈evs,okB p e)->es.length+evs.length<=5000->pre.length+evs.length<=5000 ->
  ∃s5' s14',forL (gNm 5) bE (evs.map encE) [s0,s1,s2,s3,some (.obj .own 1 (encB p es pre c)),s5,s6,s7,s8,s9,some (.imm (oN f)),some (.imm (.int m)),some (.imm (.int i)),s13,s14,s15] =
   some (.nx [s0,s1,s2,s3,some (.obj .own 1 (encB p (es++evs) (pre++z33 p c evs) (endS p c evs))),s5',s6,s7,s8,s9,some (.imm (oN (first f (at1 i (anyA p c evs))))),some (.imm (.int ((m+evs.length:Nat):Int))),some (.imm (.int i)),s13,s14',s15])
 | [],es,pre,c,f,m,s5,s14,_,_,_,_=>⟨s5,s14,by
  have:first f (at1 i (anyA p c []))=f:=by cases f <;> rfl
  simp[forL,z33,endS,this]⟩
 | e::evs,es,pre,c,f,m,s5,s14,hw,he,h1,h2=>by
  have hee:=he e (by simp)
  simp only[y0w] at h1 h2
  have hw':=zox hw hee.1
  obtain⟨s5',s14',ih⟩:=ztt s0 s1 s2 s3 s6 s7 s8 s9 s13 s15 i evs (es++[e]) (pre++[c]) (nxt p c e) (first f (at1 i ((nxt p c e).told.any alW))) (m+1) (some (.imm (encE e))) (some (.imm (.tuple ((nxt p c e).told.map z66)))) hw' (fun y hy=>he y (y05 _ hy)) (by simp only[y27,y0w,y2l];omega) (by simp only[y27,y0w,y2l];omega)
  refine⟨s5',s14',?_⟩
  have xd:=do_m wp hw hee (by omega) (by omega) (md:=.own) (by decide) (i:=4) (ε:=[s0,s1,s2,s3,some (.obj .own 1 (encB p es pre c)),some (.imm (encE e)),s6,s7,s8,s9,some (.imm (oN f)),some (.imm (.int m)),some (.imm (.int i)),s13,s14,s15]) rfl (f:=nmV 5) rfl
  simp only[y1m,y1j] at xd
  have tl:=za3 hw.fresh e
  have tw:Tw (nxt p c e):=(Tw.fresh c).happen hw.fresh hee.1
  have z0:(fresh c).told.length=0:=rfl
  have tl':(nxt p c e).told.length<=1000:=by
   have:(nxt p c e).told.length<=(fresh c).told.length+50:=tl
   omega
  have hb:((nxt p c e).told.map z66).length<=big:=by rw[y14];unfold big;omega
  have oi:=z6q false (n:="alarm") (ns:=(nxt p c e).told.map (·.2.1)) (z01 "alarm") (fun x hx=>by
   obtain⟨w,hw,rfl⟩:=y0m.mp hx
   exact (tw w hw).1)
  have ea:decide (("alarm":Str)∈(nxt p c e).told.map (·.2.1))=(nxt p c e).told.any alW:=by
   rw[Bool.eq_iff_iff]
   simp only[decide_eq_true_eq,y0m,List.any_eq_true,alW]
  have oi':oIn false (.str "alarm") (.list (((nxt p c e).told.map (·.2.1)).map .str))=some (.bool ((nxt p c e).told.any alW)):=by
   rw[oi,ea]
   rfl
  have step:bE [s0,s1,s2,s3,some (.obj .own 1 (encB p es pre c)),some (.imm (encE e)),s6,s7,s8,s9,some (.imm (oN f)),some (.imm (.int m)),some (.imm (.int i)),s13,s14,s15] =
    some (.nx [s0,s1,s2,s3,some (.obj .own 1 (encB p (es++[e]) (pre++[c]) (nxt p c e))),some (.imm (encE e)),s6,s7,s8,s9,some (.imm (oN (first f (at1 i ((nxt p c e).told.any alW))))),some (.imm (.int ((m+1:Nat):Int))),some (.imm (.int i)),s13,some (.imm (.tuple ((nxt p c e).told.map z66))),s15]):=by
   unfold bE
   refine z1v (ε':=[s0,s1,s2,s3,some (.obj .own 1 (encB p (es++[e]) (pre++[c]) (nxt p c e))),some (.imm (encE e)),s6,s7,s8,s9,some (.imm (oN f)),some (.imm (.int m)),some (.imm (.int i)),s13,some (.imm (.tuple ((nxt p c e).told.map z66))),s15]) ?_ ?_
   ·unfold asgX
    rw[xd]
    rfl
   refine z26 (t:=.int ((m+1:Nat):Int)) rfl ?_
   simp only[y1m,y1j]
   have cm:comp 2 [] (z0v (nmV 14)) (gTu [(gNm 0),(gNm 1)]) (cstT true) (nmV 0) [s0,s1,s2,s3,some (.obj .own 1 (encB p (es++[e]) (pre++[c]) (nxt p c e))),some (.imm (encE e)),s6,s7,s8,s9,some (.imm (oN f)),some (.imm (.int ((m+1:Nat):Int))),some (.imm (.int i)),s13,some (.imm (.tuple ((nxt p c e).told.map z66))),s15]=some (.list (((nxt p c e).told.map (·.2.1)).map .str)):=by
    simp only[comp,z0v,nmV,y2j,y2i,y0p,if_pos hb,z2h,y0g,y1a,y23]
    rw[zvv]
    rfl
   have t2:tstB (op2 (oIn false) (cst (.str "alarm")) (comp 2 [] (z0v (nmV 14)) (gTu [(gNm 0),(gNm 1)]) (cstT true) (nmV 0))) [s0,s1,s2,s3,some (.obj .own 1 (encB p (es++[e]) (pre++[c]) (nxt p c e))),some (.imm (encE e)),s6,s7,s8,s9,some (.imm (oN f)),some (.imm (.int ((m+1:Nat):Int))),some (.imm (.int i)),s13,some (.imm (.tuple ((nxt p c e).told.map z66))),s15]=some ((nxt p c e).told.any alW):=by
    unfold tstB op2
    rw[cm]
    simp only[cst,y0p,oi']
   unfold iff andT
   rw[t2]
   cases f with
   | some q=>rfl
   | none =>
    cases (nxt p c e).told.any alW with
    | true=>rfl
    | false=>rfl
  rw[y0e,forL]
  simp only[gNm,y1m,y1j,y0p,step]
  rw[ih,zsc]
  have ee:m+1+evs.length=m+(e::evs).length:=by simp only[y0w];omega
  rw[ee,y2p,y2p]
  rfl
def bW:Fs:=(for_ (z0v (opN z5s [(nmV 2),(z06 [(nmV 13)]),(nmV 7)])) (gNm 5) bE)
theorem zpq (f:Option Nat) (os:List Op) (pace:Int) (c:Cs) (k:Nat) (ks:List Nat) (i:Nat):first (first f (at1 i (anyA p c (pas (z0m os k) pace)))) (cauS p os pace (endS p c (pas (z0m os k) pace)) ks (i+1))=first f (cauS p os pace c (k::ks) i):=by
 cases f with
 | some q=>rfl
 | none =>
  simp only[cauS]
  cases anyA p c (pas (z0m os k) pace) <;> rfl
omit wp in
theorem zv0 {os:List Op} (hz:ZOk p os) {pace:Int} (hp:1<=pace) (k:Nat):∀e∈pas (z0m os k) pace,okB p e:=fun e he=>by
 refine⟨zol hz hp k e he,?_⟩
 cases e with
 | line _ _=>trivial
 | ticks _=>trivial
 | code f d z =>
  cases hzk:z0m os k <;> (rw[hzk] at he;simp[pas] at he)
omit wp in
theorem zkz (os:List Op) (k:Nat) (w:List Nat) (pace:Int):wlk os (k::w) pace=pas (z0m os k) pace++wlk os w pace:=by simp[wlk]
theorem zsw {R:Int} {os:List Op} (hz:ZOk p os) {pace:Int} (hp:1<=pace) (s0 s1 s3 s6 s8 s9 s15:Option Sl):∀(ks:List Nat) (i:Nat) (es:List Et) (pre:List Cs) (c:Cs) (f:Option Nat) (m:Nat) (s5 s12 s13 s14:Option Sl),Wf p c->(∀k∈ks,k<os.length)->es.length+4*ks.length<=5000->pre.length+4*ks.length<=5000 ->
  ∃s5' s12' s13' s14',forL (gTu [(gNm 12),(gNm 13)]) bW ((ks.zipIdx i).map fun q=>.tuple [.int (q.2:Nat),.int (q.1:Nat)]) [s0,s1,some (.imm (Ho.houseT R os)),s3,some (.obj .own 1 (encB p es pre c)),s5,s6,some (.imm (.int pace)),s8,s9,some (.imm (oN f)),some (.imm (.int m)),s12,s13,s14,s15] =
   some (.nx [s0,s1,some (.imm (Ho.houseT R os)),s3,some (.obj .own 1 (encB p (es++wlk os ks pace) (pre++z33 p c (wlk os ks pace)) (endS p c (wlk os ks pace)))),s5',s6,some (.imm (.int pace)),s8,s9,some (.imm (oN (first f (cauS p os pace c ks i)))),some (.imm (.int ((m+(wlk os ks pace).length:Nat):Int))),s12',s13',s14',s15])
 | [],i,es,pre,c,f,m,s5,s12,s13,s14,_,_,_,_=>⟨s5,s12,s13,s14,by
  have:first f (cauS p os pace c [] i)=f:=by cases f <;> rfl
  simp[forL,wlk,z33,endS,this]⟩
 | k::ks,i,es,pre,c,f,m,s5,s12,s13,s14,hw,hk,h1,h2=>by
  have hk0:=hk k (by simp)
  simp only[y0w] at h1 h2
  have pl:=zgm (z0m os k) pace
  have pk:=zv0 hz hp k
  have hw':=zpv hw fun e he=>(pk e he).1
  have xw:=zno (R:=R) (os:=os) (way:=[k]) (pace:=pace) (by simpa using hk0) (by simp)
  have e1_:wlk os [k] pace=pas (z0m os k) pace:=by simp[wlk]
  rw[e1_] at xw
  have xw':z5s [Ho.houseT R os,.tuple [.int k],.int pace]=some (.tuple ((pas (z0m os k) pace).map encE)):=xw
  obtain⟨t5,t14,xe⟩:=ztt wp s0 s1 (some (.imm (Ho.houseT R os))) s3 s6 (some (.imm (.int pace))) s8 s9 (some (.imm (.int k))) s15 i (pas (z0m os k) pace) es pre c f m s5 s14 hw pk (by omega) (by omega)
  obtain⟨s5',s12',s13',s14',ih⟩:=zsw hz hp s0 s1 s3 s6 s8 s9 s15 ks (i+1) (es++pas (z0m os k) pace) (pre++z33 p c (pas (z0m os k) pace)) (endS p c (pas (z0m os k) pace)) (first f (at1 i (anyA p c (pas (z0m os k) pace)))) (m+(pas (z0m os k) pace).length) t5 (some (.imm (.int i))) (some (.imm (.int k))) t14 hw' (fun y hy=>hk y (y05 _ hy)) (by simp only[y27];omega) (by simp only[y27,zea];omega)
  refine⟨s5',s12',s13',s14',?_⟩
  have tb1:(1:Nat)<=big:=by unfold big;omega
  have step:bW [s0,s1,some (.imm (Ho.houseT R os)),s3,some (.obj .own 1 (encB p es pre c)),s5,s6,some (.imm (.int pace)),s8,s9,some (.imm (oN f)),some (.imm (.int m)),some (.imm (.int i)),some (.imm (.int k)),s14,s15] =
    some (.nx [s0,s1,some (.imm (Ho.houseT R os)),s3,some (.obj .own 1 (encB p (es++pas (z0m os k) pace) (pre++z33 p c (pas (z0m os k) pace)) (endS p c (pas (z0m os k) pace)))),t5,s6,some (.imm (.int pace)),s8,s9,some (.imm (oN (first f (at1 i (anyA p c (pas (z0m os k) pace)))))),some (.imm (.int ((m+(pas (z0m os k) pace).length:Nat):Int))),some (.imm (.int i)),some (.imm (.int k)),t14,s15]):=by
   have mt:z06 [(nmV 13)] [s0,s1,some (.imm (Ho.houseT R os)),s3,some (.obj .own 1 (encB p es pre c)),s5,s6,some (.imm (.int pace)),s8,s9,some (.imm (oN f)),some (.imm (.int m)),some (.imm (.int i)),some (.imm (.int k)),s14,s15]=some (.tuple [.int k]):=by
    simp[z06,args,nmV,tb1]
   have it:z0v (opN z5s [(nmV 2),(z06 [(nmV 13)]),(nmV 7)]) [s0,s1,some (.imm (Ho.houseT R os)),s3,some (.obj .own 1 (encB p es pre c)),s5,s6,some (.imm (.int pace)),s8,s9,some (.imm (oN f)),some (.imm (.int m)),some (.imm (.int i)),some (.imm (.int k)),s14,s15]=some ((pas (z0m os k) pace).map encE):=by
    simp only[z0v,opN,args,mt,nmV,y2j,y2i,y0p,y1t,xw']
   unfold bW for_
   rw[it]
   exact xe
  rw[List.zipIdx_cons,y0e,forL]
  simp only[gTu,gAll,gNm,y1m,y1j,y0p,step]
  rw[ih,zpq wp,zkz,z8o,zfr,y2p,y2p,y27,Nat.add_assoc]
omit wp in
theorem zsy (es:List Et) (pre:List Cs) (c:Cs) (s0 s1 s2 s3 s5 s6 s7 s8 s9 s10 s11 s12 s13 s14:Option Sl):∀(l:List T) (evs:List Et) (s15:Option Sl),l.length=evs.length ->
  ∃s15',forL (gNm 15) (exX (z0s 1 z4b 4 [])) l [s0,s1,s2,s3,some (.obj .own 1 (encB p (es++evs) (pre++z33 p c evs) (endS p c evs))),s5,s6,s7,s8,s9,s10,s11,s12,s13,s14,s15] =
   some (.nx [s0,s1,s2,s3,some (.obj .own 1 (encB p es pre c)),s5,s6,s7,s8,s9,s10,s11,s12,s13,s14,s15'])
 | [],evs,s15,h=>by
  have:evs=[]:=List.length_eq_zero_iff.mp h.symm
  subst this
  exact⟨s15,by simp[forL,z33,endS]⟩
 | t::l,evs,s15,h=>by
  rcases List.eq_nil_or_concat evs with rfl|⟨evs',e,rfl⟩
  ·cases h
  rw[List.concat_eq_append] at h ⊢
  obtain⟨s15',ih⟩:=zsy es pre c s0 s1 s2 s3 s5 s6 s7 s8 s9 s10 s11 s12 s13 s14 l evs' (some (.imm t)) (by simpa using h)
  refine⟨s15',?_⟩
  have xu:=zw6 (p:=p) (es:=es++evs') (pre:=pre++z33 p c evs') (c:=endS p c evs') e (nxt p (endS p c evs') e) (md:=.own) (by decide) (i:=4) (ε:=[s0,s1,s2,s3,some (.obj .own 1 (encB p ((es++evs')++[e]) ((pre++z33 p c evs')++[endS p c evs']) (nxt p (endS p c evs') e))),s5,s6,s7,s8,s9,s10,s11,s12,s13,s14,some (.imm t)]) rfl
  simp only[y1m,y1j] at xu
  have c1:z33 p c (evs'++[e])=z33 p c evs'++[endS p c evs']:=z8o p evs' [e] c
  have c2:endS p c (evs'++[e])=nxt p (endS p c evs') e:=zfr p evs' [e] c
  rw[c1,c2,<- y2p,<- y2p,forL]
  simp only[gNm,y1m,y1j,y0p,xu]
  exact ih
theorem ztx (s0 s1 s2 s3 s6 s7 s8 s9 s10 s11 s12 s13 s14 s15:Option Sl):∀(evs es:List Et) (pre:List Cs) (c:Cs) (s5:Option Sl),Wf p c->(∀e∈evs,okB p e)->es.length+evs.length<=5000->pre.length+evs.length<=5000 ->
  ∃s5',forL (gNm 5) (exX (zj7 1 z3d [] 4 [(nmV 5)])) (evs.map encE) [s0,s1,s2,s3,some (.obj .own 1 (encB p es pre c)),s5,s6,s7,s8,s9,s10,s11,s12,s13,s14,s15] =
   some (.nx [s0,s1,s2,s3,some (.obj .own 1 (encB p (es++evs) (pre++z33 p c evs) (endS p c evs))),s5',s6,s7,s8,s9,s10,s11,s12,s13,s14,s15])
 | [],es,pre,c,s5,_,_,_,_=>⟨s5,by simp[forL,z33,endS]⟩
 | e::evs,es,pre,c,s5,hw,he,h1,h2=>by
  have hee:=he e (by simp)
  simp only[y0w] at h1 h2
  obtain⟨s5',ih⟩:=ztx s0 s1 s2 s3 s6 s7 s8 s9 s10 s11 s12 s13 s14 s15 evs (es++[e]) (pre++[c]) (nxt p c e) (some (.imm (encE e))) (zox hw hee.1) (fun y hy=>he y (y05 _ hy)) (by simp only[y27,y0w,y2l];omega) (by simp only[y27,y0w,y2l];omega)
  refine⟨s5',?_⟩
  have xd:=do_m wp hw hee (by omega) (by omega) (md:=.own) (by decide) (i:=4) (ε:=[s0,s1,s2,s3,some (.obj .own 1 (encB p es pre c)),some (.imm (encE e)),s6,s7,s8,s9,s10,s11,s12,s13,s14,s15]) rfl (f:=nmV 5) rfl
  simp only[y1m,y1j] at xd
  rw[y0e,forL]
  simp only[gNm,y1m,y1j,y0p,exX,xd,y1t]
  rw[ih,y2p,y2p]
  rfl
theorem zsn (zl:p.zones.length<=40):z3l [.obj .lent 1 [],.imm (encP p)]=some (.none,encB p [] [] (z23 p)):=by
 have eb:=zsp p zl wp
 have tb1:(1:Nat)<=big:=by unfold big;omega
 have hs:z51 [some (.obj .lent 1 []),some (.imm (encP p))]=some (.nx [some (.obj .lent 1 (encB p [] [] (z23 p))),some (.imm (encP p))]):=by
  unfold z51
  refine z1v (ε':=[some (.obj .lent 1 [.imm (encP p)]),some (.imm (encP p))]) rfl ?_
  refine z1v (ε':=[some (.obj .lent 1 [.imm (encP p),.own []]),some (.imm (encP p))]) ?_ ?_
  ·simp[z8u,z29,args,setF,objF]
  ·simp[z8u,z29,args,setF,objF,opN,nmV,eb,tb1,encB]
 unfold z3l runM
 show Option.bind (z51 [some (.obj .lent 1 []),some (.imm (encP p))]) _=_
 rw[hs]
 simp[z57]
noncomputable def askT (p:Pl) (es:List Et) (pre:List Cs) (c:Cs):T:=.tuple [encS c,.tuple [.str c.mode,.bool (decide (c.siren > 0)),.tuple ((z8g p c).map .str)],.tuple ((run p (fresh (heC pre c)) es).told.map encW),.tuple (es.map encE)]
theorem zy0 {es:List Et} {pre:List Cs} {c:Cs} (hw:Wf p c) (hh:Wf p (heC pre c)) (he:∀e∈es,okE p e) (hl:es.length<=1000) {ε:Ev} {md:Md} (h:ε[4]?=some (some (.obj md 1 (encB p es pre c)))) :
  z06 [(z21 1 z10 4 []),(z21 1 z32 4 []),(z21 1 z59 4 []),(z21 1 z3k 4 [])] ε=some (askT p es pre c):=by
 have h1:objF 1 4 ε=some (md,encB p es pre c):=by simp[objF,h]
 have m1:∀d:List Sl->Option T,z21 1 d 4 [] ε=d [.obj .ro 1 (encB p es pre c)]:=fun d=>by
  simp only[z21,h1,y0p,args,y1a]
 have tb1:(4:Nat)<=big:=by unfold big;omega
 simp only[z06,args,m1,zj8,zqd hw,zvz wp hh he hl,zqe (show es.length<10000 by omega),y0p,y1t,y0w,y2l]
 rw[if_pos tb1]
 rfl
omit wp in
theorem zxf {e:Et} (hz:∀z∈p.zones,okS z.1/\okS z.2) (h:okB p e):okN 1 (encE e):=by
 have zk:∀z,z∈p.zones.map (·.1)->okS z:=fun z hm=>by
  obtain⟨x,hx,rfl⟩:=y0m.mp hm
  exact (hz x hx).1
 cases e with
 | line z w =>
  have ow:okS w:=by rcases h.1.2 with q|q|q <;> (rw[q];exact z01 _)
  exact z1x fun x hx=>by
   simp only[y09,y2g,or_false] at hx
   rcases hx with rfl|rfl|rfl
   ·exact z3y 0 (z01 "line")
   ·exact z3y 0 (zk z h.1.1)
   ·exact z3y 0 ow
 | code f d z =>
  have od:okS d:=by rcases h.1.2.1 with q|q|q|q <;> (rw[q];exact z01 _)
  exact z1x fun x hx=>by
   simp only[y09,y2g,or_false] at hx
   rcases hx with rfl|rfl|rfl|rfl
   ·exact z3y 0 (z01 "code")
   ·exact z3y 0 h.1.1
   ·exact z3y 0 od
   ·exact zor 0 fun y hy=>zk y (h.2 y hy)
 | ticks n =>
  exact z1x fun x hx=>by
   simp only[y09,y2g,or_false] at hx
   rcases hx with rfl|rfl
   ·exact z3y 0 (z01 "ticks")
   ·exact z8e 0 n
omit wp in
theorem zv7 {es:List Et} {pre:List Cs} {c:Cs} (hw:Wf p c) (hh:Wf p (heC pre c)) (he:∀e∈es,okB p e):okN 3 (askT p es pre c):=z1x fun x hx=>by
 simp only[y09,y2g,or_false] at hx
 rcases hx with rfl|rfl|rfl|rfl
 ·exact zrr hw
 ·exact zoq 0 hw _
 ·exact zrq (Tw.run (Tw.fresh _) hh.fresh fun e h=>(he e h).1)
 ·exact z1x fun x hx=>by
   obtain⟨e,h,rfl⟩:=y0m.mp hx
   exact zxf hw.zn (he e h)
noncomputable def bY:Fs:=(seq (asg 9 (opN z6t [(nmV 1),(nmV 2),(op2 oIx (nm 6) (cst (.int 0))),(nmV 8),(nmV 7)]))
  (seq (asg 10 (cst .none))
  (seq (asg 11 (cst (.int 0)))
  (seq (for_ (z3f (z31 (nmV 8))) (gTu [(gNm 12),(gNm 13)]) bW)
  (seq (iff (tstB (op2 oNe (nm 10) (nm 9))) (rtn (cst (.bool false))) skip)
  (seq (for_ (z2w (nm 11)) (gNm 15)
  (exX (z0s 1 z4b 4 [])))
  (iff (tstB (op2 oNe (z06 [(z21 1 z10 4 []),(z21 1 z32 4 []),(z21 1 z59 4 []),(z21 1 z3k 4 [])]) (nm 6))) (rtn (cst (.bool false))) skip)))))))
omit wp in
theorem zu2 (os:List Op) (pace:Int) (w:List Nat):(wlk os w pace).length<=4*w.length:=by
 induction w with
 | nil=>simp[wlk]
 | cons k l ih =>
  have:=zgm (z0m os k) pace
  rw[zkz,y27,y0w]
  omega
theorem zsv {R:Int} {os:List Op} (hz:ZOk p os) {pace:Int} (hp:1<=pace) {es:List Et} {pre:List Cs} {c:Cs} (hw:Wf p c) (hh:Wf p (heC pre c)) (he:∀e∈es,okB p e) (hl:es.length<=1000) (hl2:pre.length<=1000) (s0 s3:Option Sl) :
  ∀(ws:List (List Nat)) (s5 s8 s9 s10 s11 s12 s13 s14 s15:Option Sl),(∀w∈ws,w.length<=20/\∀k∈w,k<os.length)->∃s5' s8' s9' s10' s11' s12' s13' s14' s15',
  forL (gNm 8) bY (ws.map Ho.wT) [s0,some (.imm (encP p)),some (.imm (Ho.houseT R os)),s3,some (.obj .own 1 (encB p es pre c)),s5,some (.imm (askT p es pre c)),some (.imm (.int pace)),s8,s9,s10,s11,s12,s13,s14,s15] =
   some (.nx [s0,some (.imm (encP p)),some (.imm (Ho.houseT R os)),s3,some (.obj .own 1 (encB p es pre c)),s5',some (.imm (askT p es pre c)),some (.imm (.int pace)),s8',s9',s10',s11',s12',s13',s14',s15'])
 | [],s5,s8,s9,s10,s11,s12,s13,s14,s15,_=>⟨s5,s8,s9,s10,s11,s12,s13,s14,s15,rfl⟩
 | w::ws,s5,s8,s9,s10,s11,s12,s13,s14,s15,hws=>by
  obtain⟨wl,wk⟩:=hws w (by simp)
  have xc:=zq5 wp (R:=R) hz hp hw wk
  have wll:=zu2 os pace w
  obtain⟨t5,t12,t13,t14,xw⟩:=zsw wp (R:=R) hz hp s0 (some (.imm (encP p))) s3 (some (.imm (askT p es pre c))) (some (.imm (Ho.wT w))) (some (.imm (oN (cau p os pace c w 0)))) s15 w 0 es pre c none 0 s5 s12 s13 s14 hw wk (by omega) (by omega)
  have ec:first none (cauS p os pace c w 0)=cau p os pace c w 0:=zq6 p os pace w c c 0 rfl
  rw[ec,Nat.zero_add] at xw
  have on:=zv9 (cau p os pace c w 0)
  obtain⟨t15,xu⟩:=zsy (p:=p) es pre c s0 (some (.imm (encP p))) (some (.imm (Ho.houseT R os))) s3 t5 (some (.imm (askT p es pre c))) (some (.imm (.int pace))) (some (.imm (Ho.wT w))) (some (.imm (oN (cau p os pace c w 0)))) (some (.imm (oN (cau p os pace c w 0)))) (some (.imm (.int (((wlk os w pace).length:Nat):Int)))) t12 t13 t14 ((List.range (wlk os w pace).length).map fun (k:Nat)=>PyData.int (k:Int)) (wlk os w pace) s15 (by simp)
  obtain⟨a1,a2,a3,a4,a5,a6,a7,a8,a9,ih⟩:=zsv hz hp hw hh he hl hl2 s0 s3 ws t5 (some (.imm (Ho.wT w))) (some (.imm (oN (cau p os pace c w 0)))) (some (.imm (oN (cau p os pace c w 0)))) (some (.imm (.int (((wlk os w pace).length:Nat):Int)))) t12 t13 t14 t15 fun y hy=>hws y (y05 _ hy)
  refine⟨a1,a2,a3,a4,a5,a6,a7,a8,a9,?_⟩
  have ak:=zgo (zv7 (pre:=pre) hw hh he)
  have ix0:oIx (askT p es pre c) (.int 0)=some (encS c):=by simp[oIx,atZ,ixOf,askT]
  have step:bY [s0,some (.imm (encP p)),some (.imm (Ho.houseT R os)),s3,some (.obj .own 1 (encB p es pre c)),s5,some (.imm (askT p es pre c)),some (.imm (.int pace)),some (.imm (Ho.wT w)),s9,s10,s11,s12,s13,s14,s15] =
    some (.nx [s0,some (.imm (encP p)),some (.imm (Ho.houseT R os)),s3,some (.obj .own 1 (encB p es pre c)),t5,some (.imm (askT p es pre c)),some (.imm (.int pace)),some (.imm (Ho.wT w)),some (.imm (oN (cau p os pace c w 0))),some (.imm (oN (cau p os pace c w 0))),some (.imm (.int (((wlk os w pace).length:Nat):Int))),t12,t13,t14,t15]):=by
   unfold bY
   refine z26 (t:=oN (cau p os pace c w 0)) (by
    simp only[opN,op2,args,nm,nmV,cst,y2j,y2i,y0p,y1t,ix0,xc]) ?_
   simp only[y1m,y1j]
   refine z26 (t:=.none) rfl ?_
   simp only[y1m,y1j]
   refine z26 (t:=.int 0) rfl ?_
   simp only[y1m,y1j]
   refine z1v (ε':=[s0,some (.imm (encP p)),some (.imm (Ho.houseT R os)),s3,some (.obj .own 1 (encB p (es++wlk os w pace) (pre++z33 p c (wlk os w pace)) (endS p c (wlk os w pace)))),t5,some (.imm (askT p es pre c)),some (.imm (.int pace)),some (.imm (Ho.wT w)),some (.imm (oN (cau p os pace c w 0))),some (.imm (oN (cau p os pace c w 0))),some (.imm (.int (((wlk os w pace).length:Nat):Int))),t12,t13,t14,s15]) ?_ ?_
   ·have it:z3f (z31 (nmV 8)) [s0,some (.imm (encP p)),some (.imm (Ho.houseT R os)),s3,some (.obj .own 1 (encB p es pre c)),s5,some (.imm (askT p es pre c)),some (.imm (.int pace)),some (.imm (Ho.wT w)),some (.imm (oN (cau p os pace c w 0))),some (.imm .none),some (.imm (.int 0)),s12,s13,s14,s15]=some ((w.zipIdx 0).map fun q=>.tuple [.int (q.2:Nat),.int (q.1:Nat)]):=by
     have e1_:z31 (nmV 8) [s0,some (.imm (encP p)),some (.imm (Ho.houseT R os)),s3,some (.obj .own 1 (encB p es pre c)),s5,some (.imm (askT p es pre c)),some (.imm (.int pace)),some (.imm (Ho.wT w)),some (.imm (oN (cau p os pace c w 0))),some (.imm .none),some (.imm (.int 0)),s12,s13,s14,s15]=some (w.map fun (k:Nat)=>PyData.int (k:Int)):=rfl
     unfold z3f
     rw[e1_]
     simp only[y1t,enum,List.zipIdx_map,y2s]
     rfl
    unfold for_
    rw[it]
    exact xw
   refine zgt ?_ ?_
   ·simp only[tstB,op2,nm,y2j,y2i,y0p,on]
   refine z1v (ε':=[s0,some (.imm (encP p)),some (.imm (Ho.houseT R os)),s3,some (.obj .own 1 (encB p es pre c)),t5,some (.imm (askT p es pre c)),some (.imm (.int pace)),some (.imm (Ho.wT w)),some (.imm (oN (cau p os pace c w 0))),some (.imm (oN (cau p os pace c w 0))),some (.imm (.int (((wlk os w pace).length:Nat):Int))),t12,t13,t14,t15]) ?_ ?_
   ·have it:z2w (nm 11) [s0,some (.imm (encP p)),some (.imm (Ho.houseT R os)),s3,some (.obj .own 1 (encB p (es++wlk os w pace) (pre++z33 p c (wlk os w pace)) (endS p c (wlk os w pace)))),t5,some (.imm (askT p es pre c)),some (.imm (.int pace)),some (.imm (Ho.wT w)),some (.imm (oN (cau p os pace c w 0))),some (.imm (oN (cau p os pace c w 0))),some (.imm (.int (((wlk os w pace).length:Nat):Int))),t12,t13,t14,s15]=some ((List.range (wlk os w pace).length).map fun (k:Nat)=>PyData.int (k:Int)):=by
     rw[<- zuf]
     exact zxp rfl (by omega) (by omega)
    unfold for_
    rw[it]
    exact xu
   ·have am:=zy0 wp hw hh (fun e h=>(he e h).1) hl (md:=.own) (ε:=[s0,some (.imm (encP p)),some (.imm (Ho.houseT R os)),s3,some (.obj .own 1 (encB p es pre c)),t5,some (.imm (askT p es pre c)),some (.imm (.int pace)),some (.imm (Ho.wT w)),some (.imm (oN (cau p os pace c w 0))),some (.imm (oN (cau p os pace c w 0))),some (.imm (.int (((wlk os w pace).length:Nat):Int))),t12,t13,t14,t15]) rfl
    refine (zxq (b:=false) ?_).trans rfl
    unfold tstB op2
    rw[am]
    simp only[nm,y2j,y2i,y0p,ak]
  rw[y0e,forL]
  simp only[gNm,y1m,y1j,y0p,step]
  exact ih
end
theorem DE.okB {p:Pl} {e:Et} (h:DE p e):okB p e:=by
 refine⟨h.ok,?_⟩
 cases e with
 | line _ _=>trivial
 | ticks _=>trivial
 | code f d z =>
  intro x hx
  rcases h.2 with ⟨_,q⟩|⟨_,y,q,hy⟩
  ·rw[q] at hx
   cases hx
  ·rw[q] at hx
   cases hx
   exact hy
theorem zs1 (ns:List Int) (h:ns.length<=63):zkj [z0h ns]=some (.bool true):=by
 obtain⟨m0,hm0,x0⟩:=zct ns 0
 obtain⟨m1,hm1,x1⟩:=zct ns 1
 obtain⟨m2,hm2,x2⟩:=zct ns 2
 obtain⟨p,hp,xp⟩:=zus m0
 obtain⟨R,os,d,hz,xh⟩:=zkb hp m1 hm1
 obtain⟨es,hes0,hel,xr⟩:=zwj hp m2 8 hm2 (by decide)
 have hes:∀e∈es,okB p e:=fun e he=>DE.okB (hes0 e he)
 have wp:=hp.wp
 have wb:=hp.begun
 have zl:=hp.zl
 have xi:=zsn wp (by omega)
 have we:=zpv wb fun e he=>(hes e he).1
 have hh:=zsa p es (z23 p)
 have cl:=zea p es (z23 p)
 obtain⟨q1,_,y1⟩:=divQ m2 512
 obtain⟨r1,_,r10,r11,y2⟩:=modQ q1 20
 obtain⟨q2,_,y3⟩:=divQ m2 64
 obtain⟨r2,_,r20,r21,y4⟩:=modQ q2 R (by have:=d.r1;omega)
 obtain⟨wys,w1,w2,_⟩:=Ho.ways_val d (1+r2)
 rw[<- znn] at w2
 have hpc:1<=1+r1:=by omega
 have wls:=Ho.ways_lens _ _ _ w1
 have wch:=Hg.ways_char w1
 obtain⟨t5,xa⟩:=ztx wp (some (.imm (z0h ns))) (some (.imm (encP p))) (some (.imm (Ho.houseT R os))) (some (.imm (.int m2))) none none none none none none none none none none es [] [] (z23 p) none wb hes (by simp;omega) (by simp;omega)
 simp only[y2q] at xa
 have whh:Wf p (heC (z33 p (z23 p) es) (endS p (z23 p) es)):=by rw[hh];exact wb
 obtain⟨a1,a2,a3,a4,a5,a6,a7,a8,a9,xy⟩:=zsv wp (R:=R) hz hpc we whh hes (by omega) (by omega) (some (.imm (z0h ns))) (some (.imm (.int m2))) (wys.take 5) t5 none none none none none none none none (fun w hw=>by
  have hw':=List.mem_of_mem_take hw
  refine⟨wls w hw',fun k hk=>?_⟩
  obtain⟨q,hf,_⟩:=(wch w).mp hw'
  simpa using zts hf k hk)
 have sl:oSl (.tuple (wys.map Ho.wT)) none (some 5)=some (.tuple ((wys.take 5).map Ho.wT)):=by
  show some (PyData.tuple (cutZ _ none (some 5)))=_
  unfold cutZ sIx
  simp only[List.drop_zero,Nat.sub_zero,y14]
  rw[List.map_take]
  congr 2
  rw[if_neg (by decide)]
  by_cases h8:5<=wys.length
  ·have:(min (5:Int) (wys.length:Int)).toNat=5:=by omega
   rw[this]
  ·have:(min (5:Int) (wys.length:Int)).toNat=wys.length:=by omega
   rw[this,List.take_of_length_le (by simp),List.take_of_length_le (by simp;omega)]
 have x0':z1e [z0h ns,.int 0]=some (.int m0):=x0
 have x1':z1e [z0h ns,.int 1]=some (.int m1):=x1
 have x2':z1e [z0h ns,.int 2]=some (.int m2):=x2
 suffices hs:zqj [some (.imm (z0h ns)),none,none,none,none,none,none,none,none,none,none,none,none,none,none,none]=some (.rt (.bool true)) by
  unfold zkj runF
  simp only[y0e,y1a,y0w,y2l,y2r,y2q]
  exact congrArg (fun o=>Option.bind o _) hs
 unfold zqj
 refine z26 (t:=encP p) (by simp only[opN,args,nmV,cst,y2i,y0p,y1t,x0',xp]) ?_
 simp only[y1m,y1j]
 refine z26 (t:=Ho.houseT R os) (by simp only[opN,args,nmV,cst,y2j,y2i,y0p,y1t,x1',xh]) ?_
 simp only[y1m,y1j]
 refine z26 (t:=.int m2) (by simp only[opN,args,nmV,cst,y2i,y0p,y1t,x2']) ?_
 simp only[y1m,y1j]
 refine z1v (ε':=[some (.imm (z0h ns)),some (.imm (encP p)),some (.imm (Ho.houseT R os)),some (.imm (.int m2)),some (.obj .own 1 (encB p [] [] (z23 p))),none,none,none,none,none,none,none,none,none,none,none]) ?_ ?_
 ·simp only[asgO,newO,args,nmV,y2j,y2i,y0p,y1t,y0e,y1a,xi]
  rfl
 refine z1v (ε':=[some (.imm (z0h ns)),some (.imm (encP p)),some (.imm (Ho.houseT R os)),some (.imm (.int m2)),some (.obj .own 1 (encB p es (z33 p (z23 p) es) (endS p (z23 p) es))),t5,none,none,none,none,none,none,none,none,none,none]) ?_ ?_
 ·have it:z0v (opN za5 [(nmV 1),(nmV 3),(cst (.int 8))]) [some (.imm (z0h ns)),some (.imm (encP p)),some (.imm (Ho.houseT R os)),some (.imm (.int m2)),some (.obj .own 1 (encB p [] [] (z23 p))),none,none,none,none,none,none,none,none,none,none,none]=some (es.map encE):=by
   simp only[z0v,opN,args,nmV,cst,y2j,y2i,y0p,y1t,xr]
  unfold for_
  rw[it]
  exact xa
 refine z26 (t:=askT p es (z33 p (z23 p) es) (endS p (z23 p) es)) (zy0 wp we whh (fun e he=>(hes e he).1) (by omega) (md:=.own) rfl) ?_
 simp only[y1m,y1j]
 refine z26 (t:=.int (1+r1)) (by simp only[op2,nm,cst,y2j,y2i,y0p,y1,y2,z36]) ?_
 simp only[y1m,y1j]
 refine z1v (ε':=[some (.imm (z0h ns)),some (.imm (encP p)),some (.imm (Ho.houseT R os)),some (.imm (.int m2)),some (.obj .own 1 (encB p es (z33 p (z23 p) es) (endS p (z23 p) es))),a1,some (.imm (askT p es (z33 p (z23 p) es) (endS p (z23 p) es))),some (.imm (.int (1+r1))),a2,a3,a4,a5,a6,a7,a8,a9]) ?_ rfl
 have it:z0v (slice (opN d_ways [(nmV 2),(op2 oAdd (cst (.int 1)) (op2 oMod (op2 oDiv (nm 3) (cst (.int 64))) (op2 oIx (nm 2) (cst (.int 0)))))]) optN (opt (cst (.int 5)))) [some (.imm (z0h ns)),some (.imm (encP p)),some (.imm (Ho.houseT R os)),some (.imm (.int m2)),some (.obj .own 1 (encB p es (z33 p (z23 p) es) (endS p (z23 p) es))),t5,some (.imm (askT p es (z33 p (z23 p) es) (endS p (z23 p) es))),some (.imm (.int (1+r1))),none,none,none,none,none,none,none,none]=some ((wys.take 5).map Ho.wT):=by
  simp only[z0v,slice,opN,op2,args,nm,nmV,cst,opt,optN,y2j,y2i,y0p,y1t,zz0,y3,y4,z36,w2,sl]
 show for_ _ (gNm 8) bY _=_
 unfold for_
 rw[it]
 exact xy
end K35
end
end
section
namespace K35
open PySem PySem.Spec PyProof.Rows L2 D Co K33 Bo
set_option hygiene false in
local macro_rules | `(unop% lk ($f, $oc, $od, $n, $q, $s, $a, $b, $c, $d, $e, $g, $h)) => `(K.lookup $f = some ⟨$oc, $od, .func (y0i $n $q (zbq $s) (z2v $s) (z02 $s) .none $a $b $c $d $e $g), $h⟩)
set_option hygiene false in
local macro_rules | `(binop% cd $c $q) => `(PySem.W.codeIn K $c $q = true)
set_option hygiene false in
local macro_rules | `(unop% kp $c) => `(y08 K (.ref $c) = true)
set_option hygiene false in
local macro_rules | `(unop% fi $c) => `(PySem.W.isFn K (.ref $c) = true)
set_option hygiene false in
local macro_rules | `(binop% ns $q $c) => `(y0s K y0n $q = some (some (.ref $c)))
set_option hygiene false in
local macro_rules | `(unop% zn $q) => `(y0s K y0n $q = some none)
set_option hygiene false in
local macro_rules | `(unop% fn ($C, $q, $c)) => `(y0d K (.ref $C) $q = some (some (.ref $c)))
set_option hygiene false in
local macro_rules | `(binop% fz $C $q) => `(y0d K (.ref $C) $q = some none)
local macro_rules | `(unop% mo $x) => `(($x).mono (by decide))
set_option hygiene false in
local macro_rules | `(unop% kk ($f $n $as*)) => `($f (P := l.prog) (w := w) (mg := mg) (base := base) (k := $n) $as*)
theorem all_mk {l:PySem.W.OpenLaw} {w:World} {K:y00} {h:Heap} {mg:Str->Option Value} {fa CCourse CBox f1 f2 f3 f4 f5 f6 f7 f8 f9 f10 f11 f12 f13 f14 f15 f16 f17 f18 f19 f20 f21 f22 f23 f24 f25 f26 f27 f28 f29 f30 f31 f32 f33 f34 f35 f36 f37 f38 f39 f40 f41 f42 f43 f44 f45 f46 f47 f48 f50 f51 f52 f53 f54 f55 f56 f57 f58 f59 f60 f61 f62 f63 a_KINDS_SHUT_TO_SET a_KINDS_LEFT_BY a_DEEDS_OF_ZONES:Addr} {od1 an1 od2 an2 od3 an3 od4 an4 od5 an5 od6 an6 od7 an7 od8 an8 od9 an9 od10 an10 od11 an11 od12 an12 od13 an13 od14 an14 od15 an15 od16 an16 od17 an17 od18 an18 od19 an19 od20 an20 od21 an21 od22 an22 od23 an23 od24 an24 od25 an25 od26 an26 od27 an27 od28 an28 od29 an29 od30 an30 od31 an31 od32 an32 od33 an33 od34 an34 od35 an35 od36 an36 od37 an37 od38 an38 od39 an39 od40 an40 od41 an41 od42 an42 od43 an43 od44 an44 od45 an45 od46 an46 od47 an47 od48 an48 od50 an50 od51 an51 od52 an52 od53 an53 od54 an54 od55 an55 od56 an56 od57 an57 od58 an58 od59 an59 od60 an60 od61 an61 od62 an62 od63 an63 od_KINDS_SHUT_TO_SET od_KINDS_LEFT_BY od_DEEDS_OF_ZONES:Option Addr} {sl1 sl2 sl3 sl4 sl5 sl6 sl7 sl8 sl9 sl10 sl11 sl12 sl13 sl14 sl15 sl16 sl17 sl18 sl19 sl20 sl21 sl22 sl23 sl24 sl25 sl26 sl27 sl28 sl29 sl30 sl31 sl32 sl33 sl34 sl35 sl36 sl37 sl38 sl39 sl40 sl41 sl42 sl43 sl44 sl45 sl46 sl47 sl48 sl50 sl51 sl52 sl53 sl54 sl55 sl56 sl57 sl58 sl59 sl60 sl61 sl62 sl63 sl_KINDS_SHUT_TO_SET sl_KINDS_LEFT_BY sl_DEEDS_OF_ZONES:Array (Option Value)} {oc1 kV1 dc1 pm1 cd1 ct1 oc2 kV2 dc2 pm2 cd2 ct2 oc3 kV3 dc3 pm3 cd3 ct3 oc4 kV4 dc4 pm4 cd4 ct4 oc5 kV5 dc5 pm5 cd5 ct5 oc6 kV6 dc6 pm6 cd6 ct6 oc7 kV7 dc7 pm7 cd7 ct7 oc8 kV8 dc8 pm8 cd8 ct8 oc9 kV9 dc9 pm9 cd9 ct9 oc10 kV10 dc10 pm10 cd10 ct10 oc11 kV11 dc11 pm11 cd11 ct11 oc12 kV12 dc12 pm12 cd12 ct12 oc13 kV13 dc13 pm13 cd13 ct13 oc14 kV14 dc14 pm14 cd14 ct14 oc15 kV15 dc15 pm15 cd15 ct15 oc16 kV16 dc16 pm16 cd16 ct16 oc17 kV17 dc17 pm17 cd17 ct17 oc18 kV18 dc18 pm18 cd18 ct18 oc19 kV19 dc19 pm19 cd19 ct19 oc20 kV20 dc20 pm20 cd20 ct20 oc21 kV21 dc21 pm21 cd21 ct21 oc22 kV22 dc22 pm22 cd22 ct22 oc23 kV23 dc23 pm23 cd23 ct23 oc24 kV24 dc24 pm24 cd24 ct24 oc25 kV25 dc25 pm25 cd25 ct25 oc26 kV26 dc26 pm26 cd26 ct26 oc27 kV27 dc27 pm27 cd27 ct27 oc28 kV28 dc28 pm28 cd28 ct28 oc29 kV29 dc29 pm29 cd29 ct29 oc30 kV30 dc30 pm30 cd30 ct30 oc31 kV31 dc31 pm31 cd31 ct31 oc32 kV32 dc32 pm32 cd32 ct32 oc33 kV33 dc33 pm33 cd33 ct33 oc34 kV34 dc34 pm34 cd34 ct34 oc35 kV35 dc35 pm35 cd35 ct35 oc36 kV36 dc36 pm36 cd36 ct36 oc37 kV37 dc37 pm37 cd37 ct37 oc38 kV38 dc38 pm38 cd38 ct38 oc39 kV39 dc39 pm39 cd39 ct39 oc40 kV40 dc40 pm40 cd40 ct40 oc41 kV41 dc41 pm41 cd41 ct41 oc42 kV42 dc42 pm42 cd42 ct42 oc43 kV43 dc43 pm43 cd43 ct43 oc44 kV44 dc44 pm44 cd44 ct44 oc45 kV45 dc45 pm45 cd45 ct45 oc46 kV46 dc46 pm46 cd46 ct46 oc47 kV47 dc47 pm47 cd47 ct47 oc48 kV48 dc48 pm48 cd48 ct48 oc50 kV50 dc50 pm50 cd50 ct50 oc51 kV51 dc51 pm51 cd51 ct51 oc52 kV52 dc52 pm52 cd52 ct52 oc53 kV53 dc53 pm53 cd53 ct53 oc54 kV54 dc54 pm54 cd54 ct54 oc55 kV55 dc55 pm55 cd55 ct55 oc56 kV56 dc56 pm56 cd56 ct56 oc57 kV57 dc57 pm57 cd57 ct57 oc58 kV58 dc58 pm58 cd58 ct58 oc59 kV59 dc59 pm59 cd59 ct59 oc60 kV60 dc60 pm60 cd60 ct60 oc61 kV61 dc61 pm61 cd61 ct61 oc62 kV62 dc62 pm62 cd62 ct62 oc63 kV63 dc63 pm63 cd63 ct63:Value} {t_WRONG_IN_A_ROW t_TICKS_LOCKED t_KINDS_SHUT_TO_SET0 t_KINDS_SHUT_TO_SET1 t_KINDS_LEFT_BY0 t_KINDS_LEFT_BY1 t_OUTSIDE t_TICKS_TO_PASS t_DEEDS_OF_ZONES0 t_DEEDS_OF_ZONES1:Tok} {n_KINDS_SHUT_TO_SET n_KINDS_LEFT_BY n_DEEDS_OF_ZONES:Nat} (X:K.In h) (G:h.Ns y0n mg) (hfa:mg "law"=some (.ref fa)) (aCCourse:binop% ns "Course" CCourse) (pgCourse:PySem.W.plainGet K CCourse Str.empty=true) (hdCourse:PySem.W.hasDictIn K CCourse=true) (poCourse:PySem.W.plainOver K CCourse=true) (saCourse:y0d K (.ref CCourse) "__setattr__"=some (some (.builtin "object.__setattr__"))) (mkCourse:PySem.W.makesIn K CCourse=true) (kpCourse:unop% kp CCourse) (naCourse0:binop% fz CCourse "plan") (naCourse1:binop% fz CCourse "mode") (naCourse2:binop% fz CCourse "left") (naCourse3:binop% fz CCourse "came") (naCourse4:binop% fz CCourse "lines") (naCourse5:binop% fz CCourse "shunts") (naCourse6:binop% fz CCourse "siren") (naCourse7:binop% fz CCourse "alarms") (naCourse8:binop% fz CCourse "tries") (naCourse9:binop% fz CCourse "locked") (naCourse10:binop% fz CCourse "used") (naCourse11:binop% fz CCourse "past") (naCourse12:binop% fz CCourse "told") (aCBox:binop% ns "Box" CBox) (pgBox:PySem.W.plainGet K CBox Str.empty=true) (hdBox:PySem.W.hasDictIn K CBox=true) (poBox:PySem.W.plainOver K CBox=true) (saBox:y0d K (.ref CBox) "__setattr__"=some (some (.builtin "object.__setattr__"))) (mkBox:PySem.W.makesIn K CBox=true) (kpBox:unop% kp CBox) (naBox0:binop% fz CBox "plan") (naBox1:binop% fz CBox "events") (naBox2:binop% fz CBox "states") (a1:binop% ns "kind_of" f1) (l1:unop% lk (f1,oc1,od1,"kind_of","kind_of",zan,kV1,dc1,pm1,an1,cd1,ct1,sl1)) (c1:binop% cd cd1 "kind_of") (k1:unop% kp f1) (a2:binop% ns "begun" f2) (l2:unop% lk (f2,oc2,od2,"begun","begun",zbi,kV2,dc2,pm2,an2,cd2,ct2,sl2)) (c2:binop% cd cd2 "begun") (k2:unop% kp f2) (a3:binop% ns "code_of" f3) (l3:unop% lk (f3,oc3,od3,"code_of","code_of",zao,kV3,dc3,pm3,an3,cd3,ct3,sl3)) (c3:binop% cd cd3 "code_of") (k3:unop% kp f3) (a4:binop% ns "lessened" f4) (l4:unop% lk (f4,oc4,od4,"lessened","lessened",z8x,kV4,dc4,pm4,an4,cd4,ct4,sl4)) (c4:binop% cd cd4 "lessened") (k4:unop% kp f4) (a5:unop% fn (CCourse,"__init__",f5)) (i5:unop% fi f5) (l5:unop% lk (f5,oc5,od5,"__init__","Course.__init__",z1n,kV5,dc5,pm5,an5,cd5,ct5,sl5)) (c5:binop% cd cd5 "Course.__init__") (k5:unop% kp f5) (a6:unop% fn (CCourse,"state",f6)) (i6:unop% fi f6) (l6:unop% lk (f6,oc6,od6,"state","Course.state",z4y,kV6,dc6,pm6,an6,cd6,ct6,sl6)) (c6:binop% cd cd6 "Course.state") (k6:unop% kp f6) (a7:unop% fn (CCourse,"tell",f7)) (i7:unop% fi f7) (l7:unop% lk (f7,oc7,od7,"tell","Course.tell",z5o,kV7,dc7,pm7,an7,cd7,ct7,sl7)) (c7:binop% cd cd7 "Course.tell") (k7:unop% kp f7) (a8:unop% fn (CCourse,"be_loud",f8)) (i8:unop% fi f8) (l8:unop% lk (f8,oc8,od8,"be_loud","Course.be_loud",z3t,kV8,dc8,pm8,an8,cd8,ct8,sl8)) (c8:binop% cd cd8 "Course.be_loud") (k8:unop% kp f8) (a9:unop% fn (CCourse,"alarm",f9)) (i9:unop% fi f9) (l9:unop% lk (f9,oc9,od9,"alarm","Course.alarm",z4z,kV9,dc9,pm9,an9,cd9,ct9,sl9)) (c9:binop% cd cd9 "Course.alarm") (k9:unop% kp f9) (a10:unop% fn (CCourse,"come_in",f10)) (i10:unop% fi f10) (l10:unop% lk (f10,oc10,od10,"come_in","Course.come_in",z3s,kV10,dc10,pm10,an10,cd10,ct10,sl10)) (c10:binop% cd cd10 "Course.come_in") (k10:unop% kp f10) (a11:unop% fn (CCourse,"disturb",f11)) (i11:unop% fi f11) (l11:unop% lk (f11,oc11,od11,"disturb","Course.disturb",z3r,kV11,dc11,pm11,an11,cd11,ct11,sl11)) (c11:binop% cd cd11 "Course.disturb") (k11:unop% kp f11) (a12:unop% fn (CCourse,"line",f12)) (i12:unop% fi f12) (l12:unop% lk (f12,oc12,od12,"line","Course.line",z5p,kV12,dc12,pm12,an12,cd12,ct12,sl12)) (c12:binop% cd cd12 "Course.line") (k12:unop% kp f12) (a13:unop% fn (CCourse,"is_used_up",f13)) (i13:unop% fi f13) (l13:unop% lk (f13,oc13,od13,"is_used_up","Course.is_used_up",z2l,kV13,dc13,pm13,an13,cd13,ct13,sl13)) (c13:binop% cd cd13 "Course.is_used_up") (k13:unop% kp f13) (a14:unop% fn (CCourse,"take_wrong",f14)) (i14:unop% fi f14) (l14:unop% lk (f14,oc14,od14,"take_wrong","Course.take_wrong",z2j,kV14,dc14,pm14,an14,cd14,ct14,sl14)) (c14:binop% cd cd14 "Course.take_wrong") (k14:unop% kp f14) (a15:unop% fn (CCourse,"is_untimely",f15)) (i15:unop% fi f15) (l15:unop% lk (f15,oc15,od15,"is_untimely","Course.is_untimely",z24,kV15,dc15,pm15,an15,cd15,ct15,sl15)) (c15:binop% cd cd15 "Course.is_untimely") (k15:unop% kp f15) (a16:unop% fn (CCourse,"bare_zones",f16)) (i16:unop% fi f16) (l16:unop% lk (f16,oc16,od16,"bare_zones","Course.bare_zones",z12,kV16,dc16,pm16,an16,cd16,ct16,sl16)) (c16:binop% cd cd16 "Course.bare_zones") (k16:unop% kp f16) (a17:unop% fn (CCourse,"what_is_against",f17)) (i17:unop% fi f17) (l17:unop% lk (f17,oc17,od17,"what_is_against","Course.what_is_against",z1a,kV17,dc17,pm17,an17,cd17,ct17,sl17)) (c17:binop% cd cd17 "Course.what_is_against") (k17:unop% kp f17) (a18:unop% fn (CCourse,"end_leaving",f18)) (i18:unop% fi f18) (l18:unop% lk (f18,oc18,od18,"end_leaving","Course.end_leaving",z25,kV18,dc18,pm18,an18,cd18,ct18,sl18)) (c18:binop% cd cd18 "Course.end_leaving") (k18:unop% kp f18) (a19:unop% fn (CCourse,"do_set",f19)) (i19:unop% fi f19) (l19:unop% lk (f19,oc19,od19,"do_set","Course.do_set",z4g,kV19,dc19,pm19,an19,cd19,ct19,sl19)) (c19:binop% cd cd19 "Course.do_set") (k19:unop% kp f19) (a20:unop% fn (CCourse,"do_unset",f20)) (i20:unop% fi f20) (l20:unop% lk (f20,oc20,od20,"do_unset","Course.do_unset",z3b,kV20,dc20,pm20,an20,cd20,ct20,sl20)) (c20:binop% cd cd20 "Course.do_unset") (k20:unop% kp f20) (a21:unop% fn (CCourse,"do_deed",f21)) (i21:unop% fi f21) (l21:unop% lk (f21,oc21,od21,"do_deed","Course.do_deed",z3q,kV21,dc21,pm21,an21,cd21,ct21,sl21)) (c21:binop% cd cd21 "Course.do_deed") (k21:unop% kp f21) (a22:unop% fn (CCourse,"take_right",f22)) (i22:unop% fi f22) (l22:unop% lk (f22,oc22,od22,"take_right","Course.take_right",z2k,kV22,dc22,pm22,an22,cd22,ct22,sl22)) (c22:binop% cd cd22 "Course.take_right") (k22:unop% kp f22) (a23:unop% fn (CCourse,"code",f23)) (i23:unop% fi f23) (l23:unop% lk (f23,oc23,od23,"code","Course.code",z5q,kV23,dc23,pm23,an23,cd23,ct23,sl23)) (c23:binop% cd cd23 "Course.code") (k23:unop% kp f23) (a24:unop% fn (CCourse,"count_down",f24)) (i24:unop% fi f24) (l24:unop% lk (f24,oc24,od24,"count_down","Course.count_down",z2n,kV24,dc24,pm24,an24,cd24,ct24,sl24)) (c24:binop% cd cd24 "Course.count_down") (k24:unop% kp f24) (a25:unop% fn (CCourse,"end_coming",f25)) (i25:unop% fi f25) (l25:unop% lk (f25,oc25,od25,"end_coming","Course.end_coming",z2m,kV25,dc25,pm25,an25,cd25,ct25,sl25)) (c25:binop% cd cd25 "Course.end_coming") (k25:unop% kp f25) (a26:unop% fn (CCourse,"end_time",f26)) (i26:unop% fi f26) (l26:unop% lk (f26,oc26,od26,"end_time","Course.end_time",z3a,kV26,dc26,pm26,an26,cd26,ct26,sl26)) (c26:binop% cd cd26 "Course.end_time") (k26:unop% kp f26) (a27:unop% fn (CCourse,"ticks",f27)) (i27:unop% fi f27) (l27:unop% lk (f27,oc27,od27,"ticks","Course.ticks",z4x,kV27,dc27,pm27,an27,cd27,ct27,sl27)) (c27:binop% cd cd27 "Course.ticks") (k27:unop% kp f27) (a28:unop% fn (CCourse,"happen",f28)) (i28:unop% fi f28) (l28:unop% lk (f28,oc28,od28,"happen","Course.happen",z4f,kV28,dc28,pm28,an28,cd28,ct28,sl28)) (c28:binop% cd cd28 "Course.happen") (k28:unop% kp f28) (a29:binop% ns "course_of" f29) (l29:unop% lk (f29,oc29,od29,"course_of","course_of",z7h,kV29,dc29,pm29,an29,cd29,ct29,sl29)) (c29:binop% cd cd29 "course_of") (k29:unop% kp f29) (a30:binop% ns "gone" f30) (l30:unop% lk (f30,oc30,od30,"gone","gone",zlb,kV30,dc30,pm30,an30,cd30,ct30,sl30)) (c30:binop% cd cd30 "gone") (k30:unop% kp f30) (a31:binop% ns "words" f31) (l31:unop% lk (f31,oc31,od31,"words","words",zda,kV31,dc31,pm31,an31,cd31,ct31,sl31)) (c31:binop% cd cd31 "words") (k31:unop% kp f31) (a32:binop% ns "after" f32) (l32:unop% lk (f32,oc32,od32,"after","after",zgf,kV32,dc32,pm32,an32,cd32,ct32,sl32)) (c32:binop% cd cd32 "after") (k32:unop% kp f32) (a33:binop% ns "story" f33) (l33:unop% lk (f33,oc33,od33,"story","story",zge,kV33,dc33,pm33,an33,cd33,ct33,sl33)) (c33:binop% cd cd33 "story") (k33:unop% kp f33) (a34:binop% ns "shown" f34) (l34:unop% lk (f34,oc34,od34,"shown","shown",z9w,kV34,dc34,pm34,an34,cd34,ct34,sl34)) (c34:binop% cd cd34 "shown") (k34:unop% kp f34) (a35:binop% ns "beyond" f35) (l35:unop% lk (f35,oc35,od35,"beyond","beyond",zcp,kV35,dc35,pm35,an35,cd35,ct35,sl35)) (c35:binop% cd cd35 "beyond") (k35:unop% kp f35) (a36:binop% ns "ways_on" f36) (l36:unop% lk (f36,oc36,od36,"ways_on","ways_on",z5y,kV36,dc36,pm36,an36,cd36,ct36,sl36)) (c36:binop% cd cd36 "ways_on") (k36:unop% kp f36) (a37:binop% ns "ways" f37) (l37:unop% lk (f37,oc37,od37,"ways","ways",zl9,kV37,dc37,pm37,an37,cd37,ct37,sl37)) (c37:binop% cd cd37 "ways") (k37:unop% kp f37) (a38:binop% ns "passed" f38) (l38:unop% lk (f38,oc38,od38,"passed","passed",zcn,kV38,dc38,pm38,an38,cd38,ct38,sl38)) (c38:binop% cd cd38 "passed") (k38:unop% kp f38) (a39:binop% ns "walked" f39) (l39:unop% lk (f39,oc39,od39,"walked","walked",zcm,kV39,dc39,pm39,an39,cd39,ct39,sl39)) (c39:binop% cd cd39 "walked") (k39:unop% kp f39) (a40:binop% ns "has_alarm" f40) (l40:unop% lk (f40,oc40,od40,"has_alarm","has_alarm",z5z,kV40,dc40,pm40,an40,cd40,ct40,sl40)) (c40:binop% cd cd40 "has_alarm") (k40:unop% kp f40) (a41:binop% ns "caught" f41) (l41:unop% lk (f41,oc41,od41,"caught","caught",zco,kV41,dc41,pm41,an41,cd41,ct41,sl41)) (c41:binop% cd cd41 "caught") (k41:unop% kp f41) (a42:unop% fn (CBox,"__init__",f42)) (i42:unop% fi f42) (l42:unop% lk (f42,oc42,od42,"__init__","Box.__init__",z50,kV42,dc42,pm42,an42,cd42,ct42,sl42)) (c42:binop% cd cd42 "Box.__init__") (k42:unop% kp f42) (a43:unop% fn (CBox,"state",f43)) (i43:unop% fi f43) (l43:unop% lk (f43,oc43,od43,"state","Box.state",z7j,kV43,dc43,pm43,an43,cd43,ct43,sl43)) (c43:binop% cd cd43 "Box.state") (k43:unop% kp f43) (a44:unop% fn (CBox,"happen",f44)) (i44:unop% fi f44) (l44:unop% lk (f44,oc44,od44,"happen","Box.happen",z6m,kV44,dc44,pm44,an44,cd44,ct44,sl44)) (c44:binop% cd cd44 "Box.happen") (k44:unop% kp f44) (a45:unop% fn (CBox,"need_zone",f45)) (i45:unop% fi f45) (l45:unop% lk (f45,oc45,od45,"need_zone","Box.need_zone",z4h,kV45,dc45,pm45,an45,cd45,ct45,sl45)) (c45:binop% cd cd45 "Box.need_zone") (k45:unop% kp f45) (a46:unop% fn (CBox,"line",f46)) (i46:unop% fi f46) (l46:unop% lk (f46,oc46,od46,"line","Box.line",z90,kV46,dc46,pm46,an46,cd46,ct46,sl46)) (c46:binop% cd cd46 "Box.line") (k46:unop% kp f46) (a47:unop% fn (CBox,"code",f47)) (i47:unop% fi f47) (l47:unop% lk (f47,oc47,od47,"code","Box.code",z91,kV47,dc47,pm47,an47,cd47,ct47,sl47)) (c47:binop% cd cd47 "Box.code") (k47:unop% kp f47) (a48:unop% fn (CBox,"ticks",f48)) (i48:unop% fi f48) (l48:unop% lk (f48,oc48,od48,"ticks","Box.ticks",z7i,kV48,dc48,pm48,an48,cd48,ct48,sl48)) (c48:binop% cd cd48 "Box.ticks") (k48:unop% kp f48) (a49:binop% ns "shown_rows" f34) (a50:unop% fn (CBox,"shown",f50)) (i50:unop% fi f50) (l50:unop% lk (f50,oc50,od50,"shown","Box.shown",z7k,kV50,dc50,pm50,an50,cd50,ct50,sl50)) (c50:binop% cd cd50 "Box.shown") (k50:unop% kp f50) (a51:unop% fn (CBox,"row",f51)) (i51:unop% fi f51) (l51:unop% lk (f51,oc51,od51,"row","Box.row",zap,kV51,dc51,pm51,an51,cd51,ct51,sl51)) (c51:binop% cd cd51 "Box.row") (k51:unop% kp f51) (a52:unop% fn (CBox,"log",f52)) (i52:unop% fi f52) (l52:unop% lk (f52,oc52,od52,"log","Box.log",zaq,kV52,dc52,pm52,an52,cd52,ct52,sl52)) (c52:binop% cd cd52 "Box.log") (k52:unop% kp f52) (a53:unop% fn (CBox,"undo",f53)) (i53:unop% fi f53) (l53:unop% lk (f53,oc53,od53,"undo","Box.undo",z8z,kV53,dc53,pm53,an53,cd53,ct53,sl53)) (c53:binop% cd cd53 "Box.undo") (k53:unop% kp f53) (a54:binop% ns "_law_cell_at" f54) (l54:unop% lk (f54,oc54,od54,"_law_cell_at","_law_cell_at",z7g,kV54,dc54,pm54,an54,cd54,ct54,sl54)) (c54:binop% cd cd54 "_law_cell_at") (k54:unop% kp f54) (a55:binop% ns "_law_mixed" f55) (l55:unop% lk (f55,oc55,od55,"_law_mixed","_law_mixed",zaj,kV55,dc55,pm55,an55,cd55,ct55,sl55)) (c55:binop% cd cd55 "_law_mixed") (k55:unop% kp f55) (a56:binop% ns "_law_drawn" f56) (l56:unop% lk (f56,oc56,od56,"_law_drawn","_law_drawn",zam,kV56,dc56,pm56,an56,cd56,ct56,sl56)) (c56:binop% cd cd56 "_law_drawn") (k56:unop% kp f56) (a57:binop% ns "_law_plan" f57) (l57:unop% lk (f57,oc57,od57,"_law_plan","_law_plan",zai,kV57,dc57,pm57,an57,cd57,ct57,sl57)) (c57:binop% cd cd57 "_law_plan") (k57:unop% kp f57) (a58:binop% ns "_law_event" f58) (l58:unop% lk (f58,oc58,od58,"_law_event","_law_event",zal,kV58,dc58,pm58,an58,cd58,ct58,sl58)) (c58:binop% cd cd58 "_law_event") (k58:unop% kp f58) (a59:binop% ns "_law_row" f59) (l59:unop% lk (f59,oc59,od59,"_law_row","_law_row",zdb,kV59,dc59,pm59,an59,cd59,ct59,sl59)) (c59:binop% cd cd59 "_law_row") (k59:unop% kp f59) (a60:binop% ns "_law_house" f60) (l60:unop% lk (f60,oc60,od60,"_law_house","_law_house",zak,kV60,dc60,pm60,an60,cd60,ct60,sl60)) (c60:binop% cd cd60 "_law_house") (k60:unop% kp f60) (a61:binop% ns "_law_house_of" f61) (l61:unop% lk (f61,oc61,od61,"_law_house_of","_law_house_of",z53,kV61,dc61,pm61,an61,cd61,ct61,sl61)) (c61:binop% cd cd61 "_law_house_of") (k61:unop% kp f61) (a62:binop% ns "_law_box_do" f62) (l62:unop% lk (f62,oc62,od62,"_law_box_do","_law_box_do",z8y,kV62,dc62,pm62,an62,cd62,ct62,sl62)) (c62:binop% cd cd62 "_law_box_do") (k62:unop% kp f62) (a63:binop% ns "law" f63) (l63:unop% lk (f63,oc63,od63,"law","law",zhu,kV63,dc63,pm63,an63,cd63,ct63,sl63)) (c63:binop% cd cd63 "law") (k63:unop% kp f63) (z_tuple:unop% zn "tuple") (z_max:unop% zn "max") (z_dict:unop% zn "dict") (z_list:unop% zn "list") (z_zip:unop% zn "zip") (z_sorted:unop% zn "sorted") (z_enumerate:unop% zn "enumerate") (z_len:unop% zn "len") (z_range:unop% zn "range") (z_min:unop% zn "min") (z_int:unop% zn "int") (g_WRONG_IN_A_ROW:y0s K y0n "WRONG_IN_A_ROW"=some (some (.int 3 t_WRONG_IN_A_ROW))) (g_TICKS_LOCKED:y0s K y0n "TICKS_LOCKED"=some (some (.int 90 t_TICKS_LOCKED))) (g_KINDS_SHUT_TO_SET:binop% ns "KINDS_SHUT_TO_SET" a_KINDS_SHUT_TO_SET) (q_KINDS_SHUT_TO_SET:K.lookup a_KINDS_SHUT_TO_SET=some ⟨.type "tuple",od_KINDS_SHUT_TO_SET,.seq #[.str "day" t_KINDS_SHUT_TO_SET0,.str "once" t_KINDS_SHUT_TO_SET1] n_KINDS_SHUT_TO_SET,sl_KINDS_SHUT_TO_SET⟩) (g_KINDS_LEFT_BY:binop% ns "KINDS_LEFT_BY" a_KINDS_LEFT_BY) (q_KINDS_LEFT_BY:K.lookup a_KINDS_LEFT_BY=some ⟨.type "tuple",od_KINDS_LEFT_BY,.seq #[.str "inner" t_KINDS_LEFT_BY0,.str "way" t_KINDS_LEFT_BY1] n_KINDS_LEFT_BY,sl_KINDS_LEFT_BY⟩) (g_OUTSIDE:y0s K y0n "OUTSIDE"=some (some (.int 0 t_OUTSIDE))) (g_TICKS_TO_PASS:y0s K y0n "TICKS_TO_PASS"=some (some (.int 1 t_TICKS_TO_PASS))) (g_DEEDS_OF_ZONES:binop% ns "DEEDS_OF_ZONES" a_DEEDS_OF_ZONES) (q_DEEDS_OF_ZONES:K.lookup a_DEEDS_OF_ZONES=some ⟨.type "tuple",od_DEEDS_OF_ZONES,.seq #[.str "shunt" t_DEEDS_OF_ZONES0,.str "free" t_DEEDS_OF_ZONES1] n_DEEDS_OF_ZONES,sl_DEEDS_OF_ZONES⟩) :
  ∃fd:y0b,(∀(s:y04) (v:Value),BindsTo s fd ⟨[v],[]⟩ [("_law_script",v)])/\∀base:Heap,K.In base->base.Ns y0n mg->FnOk l.prog w K mg base CX0 24 fa fd ["_law_script"] (@spT t0 K 1 zkj):=by
 have e:=hfa.symm.trans (y12 X G a63)
 cases e
 refine⟨y0i "law" "law" (zbq zhu) (z2v zhu) (z02 zhu) .none kV63 dc63 pm63 an63 cd63 ct63,fun s v=>.of_eq rfl,fun base _ _=>?_⟩
 letI tt:Tbl:=⟨[],fun c=>match c with|0=>["plan","mode","left","came","lines","shunts","siren","alarms","tries","locked","used","past","told"]|1=>["plan","events","states"]|_=>[],fun c=>match c with|0=>some CCourse|1=>some CBox|_=>none⟩
 have kcCourse:ClOk K 0 CCourse ["plan","mode","left","came","lines","shunts","siren","alarms","tries","locked","used","past","told"]:=⟨rfl,rfl,⟨pgCourse,hdCourse,poCourse,saCourse⟩,by decide +kernel,fun f hf=>by
  simp only[y09,y2g,or_false] at hf
  rcases hf with rfl|rfl|rfl|rfl|rfl|rfl|rfl|rfl|rfl|rfl|rfl|rfl|rfl
  ·exact naCourse0
  ·exact naCourse1
  ·exact naCourse2
  ·exact naCourse3
  ·exact naCourse4
  ·exact naCourse5
  ·exact naCourse6
  ·exact naCourse7
  ·exact naCourse8
  ·exact naCourse9
  ·exact naCourse10
  ·exact naCourse11
  ·exact naCourse12,by decide⟩
 have kcBox:ClOk K 1 CBox ["plan","events","states"]:=⟨rfl,rfl,⟨pgBox,hdBox,poBox,saBox⟩,by decide +kernel,fun f hf=>by
  simp only[y09,y2g,or_false] at hf
  rcases hf with rfl|rfl|rfl
  ·exact naBox0
  ·exact naBox1
  ·exact naBox2,by decide⟩
 replace z_tuple:=y1d X G z_tuple
 replace z_max:=y1d X G z_max
 replace z_dict:=y1d X G z_dict
 replace z_list:=y1d X G z_list
 replace z_zip:=y1d X G z_zip
 replace z_sorted:=y1d X G z_sorted
 replace z_enumerate:=y1d X G z_enumerate
 replace z_len:=y1d X G z_len
 replace z_range:=y1d X G z_range
 replace z_min:=y1d X G z_min
 replace z_int:=y1d X G z_int
 replace g_WRONG_IN_A_ROW:=y12 X G g_WRONG_IN_A_ROW
 replace g_TICKS_LOCKED:=y12 X G g_TICKS_LOCKED
 replace g_KINDS_SHUT_TO_SET:=y12 X G g_KINDS_SHUT_TO_SET
 have tt_KINDS_SHUT_TO_SET:∃(o:Obj) (its:Array Value) (n:Nat),K.lookup a_KINDS_SHUT_TO_SET=some o/\o.cls=.type "tuple"/\o.data=.seq its n/\its.size<=y0j/\Vals ((["day","once"]:List Str).map V.str) its.toList:=⟨_,_,_,q_KINDS_SHUT_TO_SET,rfl,rfl,by show 2<=y0j;decide,(.cons ⟨_,rfl⟩ (.cons ⟨_,rfl⟩ .nil))⟩
 replace g_KINDS_LEFT_BY:=y12 X G g_KINDS_LEFT_BY
 have tt_KINDS_LEFT_BY:∃(o:Obj) (its:Array Value) (n:Nat),K.lookup a_KINDS_LEFT_BY=some o/\o.cls=.type "tuple"/\o.data=.seq its n/\its.size<=y0j/\Vals ((["inner","way"]:List Str).map V.str) its.toList:=⟨_,_,_,q_KINDS_LEFT_BY,rfl,rfl,by show 2<=y0j;decide,(.cons ⟨_,rfl⟩ (.cons ⟨_,rfl⟩ .nil))⟩
 replace g_OUTSIDE:=y12 X G g_OUTSIDE
 replace g_TICKS_TO_PASS:=y12 X G g_TICKS_TO_PASS
 replace g_DEEDS_OF_ZONES:=y12 X G g_DEEDS_OF_ZONES
 have tt_DEEDS_OF_ZONES:∃(o:Obj) (its:Array Value) (n:Nat),K.lookup a_DEEDS_OF_ZONES=some o/\o.cls=.type "tuple"/\o.data=.seq its n/\its.size<=y0j/\Vals ((["shunt","free"]:List Str).map V.str) its.toList:=⟨_,_,_,q_DEEDS_OF_ZONES,rfl,rfl,by show 2<=y0j;decide,(.cons ⟨_,rfl⟩ (.cons ⟨_,rfl⟩ .nil))⟩
 have F1:=z0f (st:=zan) l1 c1 k1
 have C_kind_of:=unop% kk (z68 0 F1 (y12 X G a1))
 have F2:=z0f (st:=zbi) l2 c2 k2
 have C_begun:=unop% kk (zkr 0 F2 (y12 X G a2) z_tuple)
 have F3:=z0f (st:=zao) l3 c3 k3
 have C_code_of:=unop% kk (zef 0 F3 (y12 X G a3))
 have F4:=z0f (st:=z8x) l4 c4 k4
 have C_lessened:=unop% kk (z79 0 F4 (y12 X G a4) z_max)
 have F5:=z0f (st:=z1n) l5 c5 k5
 have C_Course:=unop% kk (zbv 0 F5 ⟨mkCourse,a5,i5,kpCourse⟩ (y12 X G aCCourse) kcCourse z_dict z_list z_zip)
 have F6:=z0f (st:=z4y) l6 c6 k6
 have C_Course_state:=unop% kk (z3n 0 F6 (⟨a6,i6,k6⟩) kcCourse z_tuple)
 have F7:=z0f (st:=z5o) l7 c7 k7
 have C_Course_tell:=unop% kk (z0a 0 F7 (⟨a7,i7,k7⟩) kcCourse)
 have F8:=z0f (st:=z3t) l8 c8 k8
 have C_Course_be_loud:=unop% kk (z2t 0 F8 (⟨a8,i8,k8⟩) kcCourse)
 have F9:=z0f (st:=z4z) l9 c9 k9
 have C_Course_alarm:=unop% kk (z0y 1 F9 (⟨a9,i9,k9⟩) kcCourse (unop% mo C_Course_be_loud) (unop% mo C_Course_tell))
 have F10:=z0f (st:=z3s) l10 c10 k10
 have C_Course_come_in:=unop% kk (z5g 2 F10 (⟨a10,i10,k10⟩) kcCourse (unop% mo C_Course_tell) (unop% mo C_Course_alarm))
 have F11:=z0f (st:=z3r) l11 c11 k11
 have C_Course_disturb:=unop% kk (z5f 3 F11 (⟨a11,i11,k11⟩) kcCourse (unop% mo C_kind_of) (unop% mo C_Course_alarm) (unop% mo C_Course_tell) (unop% mo C_Course_come_in))
 have F12:=z0f (st:=z5p) l12 c12 k12
 have C_Course_line:=unop% kk (z7v 4 F12 (⟨a12,i12,k12⟩) kcCourse (unop% mo C_Course_tell) (unop% mo C_Course_disturb))
 have F13:=z0f (st:=z2l) l13 c13 k13
 have C_Course_is_used_up:=unop% kk (z43 0 F13 (⟨a13,i13,k13⟩) kcCourse)
 have F14:=z0f (st:=z2j) l14 c14 k14
 have C_Course_take_wrong:=unop% kk (z41 1 F14 (⟨a14,i14,k14⟩) kcCourse (unop% mo C_Course_tell) (unop% mo C_Course_be_loud) g_WRONG_IN_A_ROW g_TICKS_LOCKED)
 have F15:=z0f (st:=z24) l15 c15 k15
 have C_Course_is_untimely:=unop% kk (z3h 1 F15 (⟨a15,i15,k15⟩) kcCourse (unop% mo C_kind_of))
 have F16:=z0f (st:=z12) l16 c16 k16
 have C_Course_bare_zones:=unop% kk (z1u 0 F16 (⟨a16,i16,k16⟩) kcCourse)
 have F17:=z0f (st:=z1a) l17 c17 k17
 have C_Course_what_is_against:=unop% kk (z2f 2 F17 (⟨a17,i17,k17⟩) kcCourse (unop% mo C_Course_is_untimely) (unop% mo C_Course_bare_zones) g_KINDS_SHUT_TO_SET tt_KINDS_SHUT_TO_SET)
 have F18:=z0f (st:=z25) l18 c18 k18
 have C_Course_end_leaving:=unop% kk (z1f 2 F18 (⟨a18,i18,k18⟩) kcCourse (unop% mo C_Course_tell) (unop% mo C_Course_bare_zones) (unop% mo C_Course_alarm) g_KINDS_LEFT_BY tt_KINDS_LEFT_BY)
 have F19:=z0f (st:=z4g) l19 c19 k19
 have C_Course_do_set:=unop% kk (z6a 3 F19 (⟨a19,i19,k19⟩) kcCourse (unop% mo C_Course_tell) (unop% mo C_Course_end_leaving))
 have F20:=z0f (st:=z3b) l20 c20 k20
 have C_Course_do_unset:=unop% kk (z4v 1 F20 (⟨a20,i20,k20⟩) kcCourse (unop% mo C_Course_tell))
 have F21:=z0f (st:=z3q) l21 c21 k21
 have C_Course_do_deed:=unop% kk (z5e 4 F21 (⟨a21,i21,k21⟩) kcCourse (unop% mo C_Course_do_set) (unop% mo C_Course_do_unset) z_sorted (unop% mo C_Course_tell))
 have F22:=z0f (st:=z2k) l22 c22 k22
 have C_Course_take_right:=unop% kk (z42 5 F22 (⟨a22,i22,k22⟩) kcCourse (unop% mo C_Course_what_is_against) (unop% mo C_Course_do_deed) (unop% mo C_Course_tell))
 have F23:=z0f (st:=z5q) l23 c23 k23
 have C_Course_code:=unop% kk (z7w 6 F23 (⟨a23,i23,k23⟩) kcCourse (unop% mo C_code_of) (unop% mo C_Course_tell) (unop% mo C_Course_is_used_up) (unop% mo C_Course_take_wrong) (unop% mo C_Course_take_right))
 have F24:=z0f (st:=z2n) l24 c24 k24
 have C_Course_count_down:=unop% kk (z1t 1 F24 (⟨a24,i24,k24⟩) kcCourse (unop% mo C_lessened))
 have F25:=z0f (st:=z2m) l25 c25 k25
 have C_Course_end_coming:=unop% kk (z44 2 F25 (⟨a25,i25,k25⟩) kcCourse (unop% mo C_Course_alarm))
 have F26:=z0f (st:=z3a) l26 c26 k26
 have C_Course_end_time:=unop% kk (z4u 3 F26 (⟨a26,i26,k26⟩) kcCourse (unop% mo C_Course_end_leaving) (unop% mo C_Course_end_coming))
 have F27:=z0f (st:=z4x) l27 c27 k27
 have C_Course_ticks:=unop% kk (z6y 4 F27 (⟨a27,i27,k27⟩) kcCourse (unop% mo C_Course_count_down) (unop% mo C_Course_end_time))
 have F28:=z0f (st:=z4f) l28 c28 k28
 have C_Course_happen:=unop% kk (z69 7 F28 (⟨a28,i28,k28⟩) kcCourse (unop% mo C_Course_line) (unop% mo C_Course_code) (unop% mo C_Course_ticks))
 have F29:=z0f (st:=z7h) l29 c29 k29
 have C_course_of:=unop% kk (z2o 8 F29 (y12 X G a29) kcCourse (unop% mo C_Course) (unop% mo C_Course_happen))
 have F30:=z0f (st:=zlb) l30 c30 k30
 have C_gone:=unop% kk (zqb 10 F30 (y12 X G a30) kcCourse (unop% mo C_Course_state) (unop% mo C_course_of))
 have F31:=z0f (st:=zda) l31 c31 k31
 have C_words:=unop% kk (zkp 10 F31 (y12 X G a31) kcCourse z_tuple (unop% mo C_course_of))
 have F32:=z0f (st:=zgf) l32 c32 k32
 have C_after:=unop% kk (zks 10 F32 (y12 X G a32) kcCourse (unop% mo C_Course_state) (unop% mo C_course_of))
 have F33:=z0f (st:=zge) l33 c33 k33
 have C_story:=unop% kk (zec 10 F33 (y12 X G a33) kcCourse z_tuple (unop% mo C_course_of))
 have F34:=z0f (st:=z9w) l34 c34 k34
 have C_shown:=unop% kk (zvy 0 F34 (y12 X G a34) z_tuple z_zip)
 have F35:=z0f (st:=zcp) l35 c35 k35
 have C_beyond:=unop% kk (z98 0 F35 (y12 X G a35))
 have F36:=z0f (st:=z5y) l36 c36 k36
 have C_ways_on:=unop% kk (z78 1 F36 (y12 X G a36) z_enumerate (unop% mo C_beyond) 20)
 have F37:=z0f (st:=zl9) l37 c37 k37
 have C_ways:=unop% kk (zqa 21 F37 (y12 X G a37) z_tuple (unop% mo C_ways_on) g_OUTSIDE)
 have F38:=z0f (st:=zcn) l38 c38 k38
 have C_passed:=unop% kk (zb5 0 F38 (y12 X G a38) g_TICKS_TO_PASS)
 have F39:=z0f (st:=zcm) l39 c39 k39
 have C_walked:=unop% kk (zh4 1 F39 (y12 X G a39) z_tuple (unop% mo C_passed))
 have F40:=z0f (st:=z5z) l40 c40 k40
 have C_has_alarm:=unop% kk (za8 0 F40 (y12 X G a40))
 have F41:=z0f (st:=zco) l41 c41 k41
 have C_caught:=unop% kk (zh6 11 F41 (y12 X G a41) z_enumerate (unop% mo C_passed) (unop% mo C_has_alarm) (unop% mo C_after) (unop% mo C_story))
 have F42:=z0f (st:=z50) l42 c42 k42
 have C_Box:=unop% kk (zes 1 F42 ⟨mkBox,a42,i42,kpBox⟩ (y12 X G aCBox) kcBox (unop% mo C_begun))
 have F43:=z0f (st:=z7j) l43 c43 k43
 have C_Box_state:=unop% kk (z2p 0 F43 (⟨a43,i43,k43⟩) kcBox)
 have F44:=z0f (st:=z6m) l44 c44 k44
 have C_Box_happen:=unop% kk (z35 11 F44 (⟨a44,i44,k44⟩) kcBox (unop% mo C_words) (unop% mo C_gone) (unop% mo C_Box_state))
 have F45:=z0f (st:=z4h) l45 c45 k45
 have C_Box_need_zone:=unop% kk (z34 1 F45 (⟨a45,i45,k45⟩) kcBox (unop% mo C_kind_of))
 have F46:=z0f (st:=z90) l46 c46 k46
 have C_Box_line:=unop% kk (zbx 12 F46 (⟨a46,i46,k46⟩) kcBox (unop% mo C_Box_need_zone) (unop% mo C_Box_happen))
 have F47:=z0f (st:=z91) l47 c47 k47
 have C_Box_code:=unop% kk (zby 12 F47 (⟨a47,i47,k47⟩) kcBox (unop% mo C_Box_happen) (unop% mo C_Box_need_zone) g_DEEDS_OF_ZONES tt_DEEDS_OF_ZONES)
 have F48:=z0f (st:=z7i) l48 c48 k48
 have C_Box_ticks:=unop% kk (za9 12 F48 (⟨a48,i48,k48⟩) kcBox (unop% mo C_Box_happen))
 have C_shown_rows:=unop% kk (z8p 0 F34 (y12 X G a49) z_tuple z_zip)
 have F50:=z0f (st:=z7k) l50 c50 k50
 have C_Box_shown:=unop% kk (z7x 1 F50 (⟨a50,i50,k50⟩) kcBox (unop% mo C_shown_rows) (unop% mo C_Box_state))
 have F51:=z0f (st:=zap) l51 c51 k51
 have C_Box_row:=unop% kk (z7a 0 F51 (⟨a51,i51,k51⟩) kcBox z_tuple)
 have F52:=z0f (st:=zaq) l52 c52 k52
 have C_Box_log:=unop% kk (zb6 11 F52 (⟨a52,i52,k52⟩) kcBox (unop% mo C_story) (unop% mo C_Box_row))
 have F53:=z0f (st:=z8z) l53 c53 k53
 have C_Box_undo:=unop% kk (zbw 0 F53 (⟨a53,i53,k53⟩) kcBox)
 have F54:=z0f (st:=z7g) l54 c54 k54
 have C_l_cell_at:=unop% kk (za7 0 F54 (y12 X G a54) z_len)
 have F55:=z0f (st:=zaj) l55 c55 k55
 have C_l_mixed:=unop% kk (z8q 1 F55 (y12 X G a55) (unop% mo C_l_cell_at))
 have F56:=z0f (st:=zam) l56 c56 k56
 have C_l_drawn:=unop% kk (z4n 0 F56 (y12 X G a56))
 have F57:=z0f (st:=zai) l57 c57 k57
 have C_l_plan:=unop% kk (zh5 1 F57 (y12 X G a57) z_enumerate (unop% mo C_l_drawn) z_tuple z_range)
 have F58:=z0f (st:=zal) l58 c58 k58
 have C_l_event:=unop% kk (zee 0 F58 (y12 X G a58) z_len)
 have F59:=z0f (st:=zdb) l59 c59 k59
 have C_l_row:=unop% kk (zkq 1 F59 (y12 X G a59) z_tuple (unop% mo C_l_event) z_len z_range (unop% mo C_l_drawn))
 have F60:=z0f (st:=zak) l60 c60 k60
 have C_l_house:=unop% kk (zed 1 F60 (y12 X G a60) z_range (unop% mo C_l_drawn) z_min z_max)
 have F61:=z0f (st:=z53) l61 c61 k61
 have C_l_house_of:=unop% kk (z8r 2 F61 (y12 X G a61) (unop% mo C_l_house) z_int)
 have F62:=z0f (st:=z8y) l62 c62 k62
 have C_l_box_do:=unop% kk (z97 13 F62 (y12 X G a62) kcBox (unop% mo C_Box_ticks) (unop% mo C_Box_line) (unop% mo C_Box_code))
 have F63:=z0f (st:=zhu) l63 c63 k63
 exact zvs rfl (zz3 (k:=22) F63 kcBox (unop% mo C_l_plan) (unop% mo C_l_house_of) (unop% mo C_l_mixed) (unop% mo C_Box) (unop% mo C_l_row) (unop% mo C_l_box_do) (unop% mo C_Box_state) (unop% mo C_Box_shown) (unop% mo C_Box_log) (unop% mo C_Box_row) (unop% mo C_ways) (unop% mo C_caught) z_enumerate z_range (unop% mo C_walked) (unop% mo C_Box_undo))
theorem walk {l:PySem.W.OpenLaw} {q:y0q} {loose:List Str} {XP:(Str->Option Value)->Heap->Prop} {YP:World->Heap->Prop} {d:DefRec} {K:Params->y00} (hn:l.most=some 63) (hdf:d.params.defaults=[]) (hL:∀w:World,noL (K w.params)=true) (hY:∀(w:World) (h:Heap),YP w h->(K w.params).In h) (F:∀(w:World) (mg:Str->Option Value) (fa:Addr) (h:Heap),(K w.params).In h->h.Ns y0n mg->mg d.name=some (.ref fa) ->
   ∃fd:y0b,(∀(s:y04) (u:Value),BindsTo s fd ⟨[u],[]⟩ [("_law_script",u)])/\∀base:Heap,(K w.params).In base->base.Ns y0n mg->FnOk l.prog w (K w.params) mg base CX0 24 fa fd ["_law_script"] (@spT t0 (K w.params) 1 zkj)) :
  PySem.W.WalkO q loose XP YP l.row.toRowW d [] (fun f vs=>PySem.call f vs) :=
 L2.walk_of (n:=63) (k:=24) (x:="_law_script") (CX:=fun _=>CX0) (sp:=fun w=>@spT t0 (K w.params) 1 zkj) hn (by decide) hdf ⟨rfl,by decide,by decide⟩ hY F (fun w _ _ ns hl _ hS=>znu (hL w) (zs1 ns hl) hS) fun _ _ _ _ _ z=>z
end K35
open PySem PySem.W PyProof.Rows
set_option maxRecDepth 100000 in
set_option maxHeartbeats 0 in
theorem PySem.Challenge.cw_doorwatch_k35_whole_walkers_at_a_box_holds : PySem.Challenge.rw_doorwatch_k35_whole_walkers_at_a_box.Holds := by
 w_on;o_law;k_head;(case hw=>w_witness2)
 k_fill
 refine K35.walk (l:=PySem.Challenge.rw_doorwatch_k35_whole_walkers_at_a_box) rfl rfl ?L (fun w h Y=>PySem.W.kIn_of Y) ?F
 case L =>
  intro w
  first|rfl|(with_unfolding_all rfl)|kernel_rfl
 case F =>
  intro w mg fa h KX G hmg
  refine' K35.all_mk KX G hmg ?aCCourse ?pgCourse ?hdCourse ?poCourse ?saCourse ?mkCourse ?kpCourse ?naCourse0 ?naCourse1 ?naCourse2 ?naCourse3 ?naCourse4 ?naCourse5 ?naCourse6 ?naCourse7 ?naCourse8 ?naCourse9 ?naCourse10 ?naCourse11 ?naCourse12 ?aCBox ?pgBox ?hdBox ?poBox ?saBox ?mkBox ?kpBox ?naBox0 ?naBox1 ?naBox2 ?a1 ?l1 ?c1 ?k1 ?a2 ?l2 ?c2 ?k2 ?a3 ?l3 ?c3 ?k3 ?a4 ?l4 ?c4 ?k4 ?a5 ?i5 ?l5 ?c5 ?k5 ?a6 ?i6 ?l6 ?c6 ?k6 ?a7 ?i7 ?l7 ?c7 ?k7 ?a8 ?i8 ?l8 ?c8 ?k8 ?a9 ?i9 ?l9 ?c9 ?k9 ?a10 ?i10 ?l10 ?c10 ?k10 ?a11 ?i11 ?l11 ?c11 ?k11 ?a12 ?i12 ?l12 ?c12 ?k12 ?a13 ?i13 ?l13 ?c13 ?k13 ?a14 ?i14 ?l14 ?c14 ?k14 ?a15 ?i15 ?l15 ?c15 ?k15 ?a16 ?i16 ?l16 ?c16 ?k16 ?a17 ?i17 ?l17 ?c17 ?k17 ?a18 ?i18 ?l18 ?c18 ?k18 ?a19 ?i19 ?l19 ?c19 ?k19 ?a20 ?i20 ?l20 ?c20 ?k20 ?a21 ?i21 ?l21 ?c21 ?k21 ?a22 ?i22 ?l22 ?c22 ?k22 ?a23 ?i23 ?l23 ?c23 ?k23 ?a24 ?i24 ?l24 ?c24 ?k24 ?a25 ?i25 ?l25 ?c25 ?k25 ?a26 ?i26 ?l26 ?c26 ?k26 ?a27 ?i27 ?l27 ?c27 ?k27 ?a28 ?i28 ?l28 ?c28 ?k28 ?a29 ?l29 ?c29 ?k29 ?a30 ?l30 ?c30 ?k30 ?a31 ?l31 ?c31 ?k31 ?a32 ?l32 ?c32 ?k32 ?a33 ?l33 ?c33 ?k33 ?a34 ?l34 ?c34 ?k34 ?a35 ?l35 ?c35 ?k35 ?a36 ?l36 ?c36 ?k36 ?a37 ?l37 ?c37 ?k37 ?a38 ?l38 ?c38 ?k38 ?a39 ?l39 ?c39 ?k39 ?a40 ?l40 ?c40 ?k40 ?a41 ?l41 ?c41 ?k41 ?a42 ?i42 ?l42 ?c42 ?k42 ?a43 ?i43 ?l43 ?c43 ?k43 ?a44 ?i44 ?l44 ?c44 ?k44 ?a45 ?i45 ?l45 ?c45 ?k45 ?a46 ?i46 ?l46 ?c46 ?k46 ?a47 ?i47 ?l47 ?c47 ?k47 ?a48 ?i48 ?l48 ?c48 ?k48 ?a49 ?a50 ?i50 ?l50 ?c50 ?k50 ?a51 ?i51 ?l51 ?c51 ?k51 ?a52 ?i52 ?l52 ?c52 ?k52 ?a53 ?i53 ?l53 ?c53 ?k53 ?a54 ?l54 ?c54 ?k54 ?a55 ?l55 ?c55 ?k55 ?a56 ?l56 ?c56 ?k56 ?a57 ?l57 ?c57 ?k57 ?a58 ?l58 ?c58 ?k58 ?a59 ?l59 ?c59 ?k59 ?a60 ?l60 ?c60 ?k60 ?a61 ?l61 ?c61 ?k61 ?a62 ?l62 ?c62 ?k62 ?a63 ?l63 ?c63 ?k63 ?z_tuple ?z_max ?z_dict ?z_list ?z_zip ?z_sorted ?z_enumerate ?z_len ?z_range ?z_min ?z_int ?g_WRONG_IN_A_ROW ?g_TICKS_LOCKED ?g_KINDS_SHUT_TO_SET ?q_KINDS_SHUT_TO_SET ?g_KINDS_LEFT_BY ?q_KINDS_LEFT_BY ?g_OUTSIDE ?g_TICKS_TO_PASS ?g_DEEDS_OF_ZONES ?q_DEEDS_OF_ZONES
  (case aCCourse|pgCourse|hdCourse|poCourse|saCourse|mkCourse|kpCourse|naCourse0|naCourse1|naCourse2|naCourse3|naCourse4|naCourse5|naCourse6|naCourse7|naCourse8|naCourse9|naCourse10|naCourse11|naCourse12|aCBox|pgBox|hdBox|poBox|saBox|mkBox|kpBox|naBox0|naBox1=>k_is)
  (case naBox2|a1|l1|c1|k1|a2|l2|c2|k2|a3|l3|c3|k3|a4|l4|c4|k4|a5|i5|l5|c5|k5|a6|i6|l6|c6|k6|a7|i7|l7|c7|k7|a8|i8|l8|c8|k8|a9|i9|l9|c9|k9|a10|i10|l10|c10|k10|a11|i11|l11|c11|k11|a12|i12|l12|c12|k12=>k_is)
  (case a13|i13|l13|c13|k13|a14|i14|l14|c14|k14|a15|i15|l15|c15|k15|a16|i16|l16|c16|k16|a17|i17|l17|c17|k17|a18|i18|l18|c18|k18|a19|i19|l19|c19|k19|a20|i20|l20|c20|k20|a21|i21|l21|c21|k21|a22|i22|l22|c22|k22|a23=>k_is)
  (case i23|l23|c23|k23|a24|i24|l24|c24|k24|a25|i25|l25|c25|k25|a26|i26|l26|c26|k26|a27|i27|l27|c27|k27|a28|i28|l28|c28|k28|a29|l29|c29|k29|a30|l30|c30|k30|a31|l31|c31|k31|a32|l32|c32|k32|a33|l33|c33|k33|a34|l34=>k_is)
  (case c34|k34|a35|l35|c35|k35|a36|l36|c36|k36|a37|l37|c37|k37|a38|l38|c38|k38|a39|l39|c39|k39|a40|l40|c40|k40|a41|l41|c41|k41|a42|i42|l42|c42|k42|a43|i43|l43|c43|k43|a44|i44|l44|c44|k44|a45|i45|l45|c45|k45|a46=>k_is)
  (case i46|l46|c46|k46|a47|i47|l47|c47|k47|a48|i48|l48|c48|k48|a49|a50|i50|l50|c50|k50|a51|i51|l51|c51|k51|a52|i52|l52|c52|k52|a53|i53|l53|c53|k53|a54|l54|c54|k54|a55|l55|c55|k55|a56|l56|c56|k56|a57|l57|c57|k57=>k_is)
  (case a58|l58|c58|k58|a59|l59|c59|k59|a60|l60|c60|k60|a61|l61|c61|k61|a62|l62|c62|k62|a63|l63|c63|k63|z_tuple|z_max|z_dict|z_list|z_zip|z_sorted|z_enumerate|z_len|z_range|z_min|z_int|g_WRONG_IN_A_ROW|g_TICKS_LOCKED|g_KINDS_SHUT_TO_SET=>k_is)
  (case q_KINDS_SHUT_TO_SET|g_KINDS_LEFT_BY|q_KINDS_LEFT_BY|g_OUTSIDE|g_TICKS_TO_PASS|g_DEEDS_OF_ZONES|q_DEEDS_OF_ZONES=>k_is)
end
end
