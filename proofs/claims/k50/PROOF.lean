import PyProof.Rows.All
import Wide.All
import OpenK.AllK
import Wide.FinOn
import Lean
import PyProof.EqAt
import PyProof.EqKinds
import PyProof.TupleCall
import PyProof.P3Statements
import KE.KSortTup
import PyProof.AttrMissHeap
import PyProof.ZipIter
import PyProof.Draws
import PyProof.ListMulRoad
import Wide.Seal
import KE.KLam
import KE.KNest
import KE.KNestM
import KE.KIsAll
import PyProof.ExcArgs
import PyProof.ReprStr
import PyProof.FString
import PyProof.FitsInt
import KE.KMinKey
import KE.KIntText
import KE.IntTextText
import PySem.Challenge.RW_doorwatch_k50_whole_texts
set_option Elab.async false
set_option linter.all false
set_option maxRecDepth 100000
set_option maxHeartbeats 0
open PySem.W renaming Frag → y00, keepIn → y08, codeIn → y0f, fnOf → y0i, nsIn → y0r, mg_of → y11, mg_none_of → y1a, kitOne → y2t
open Option renaming bind_eq_some_iff → y01, map_eq_some_iff → y07, bind_some → y0p, map_some → y1n
open PySem renaming wpAny_bind → y02, Shared → y04, wpAny_pure → y06, starEach → y0a, FuncData → y0b, sizeLine → y0j, mainGlobals → y0n, Program → y0q, wpAny → y0t, wpAny_mono → y1b, mem_of_lookup → y25, backTo → y2c, wpAny_field → y2d, wpAny_callSpecial?_slot → y2e, wpAny_seqItems → y2f, wpAny_pyIter_tuple → y2g, compareOp → y2h, wpAny_newObj_type → y2i, wpAny_call_entry → y2j, wpAny_setField_rec → y2k, behindInMarks → y2l, wpAny_truthy_bool → y2m, assignEach → y2n, call_meets → y2o, binaryOp → y2p, NameKind → y2q, model → y2r, foldedSetIterable → y2s
open PySem.Heap renaming get?_push_of_some → y03, lt_size → y0c, get?_push_size → y0l, size_push → y16
open List renaming mem_cons_of_mem → y05, mem_cons → y09, map_cons → y0d, mem_cons_self → y0e, replicate → y0g, size_toArray → y0h, getElem?_eq_some_iff → y0k, mem_map → y0m, getElem?_eq_getElem → y0u, length_cons → y0v, mem_singleton → y0y, mem_append → y10, length_map → y13, getElem?_map → y14, map_nil → y17, mem_append_right → y18, lookup_cons → y1d, set_cons_zero → y1g, set_cons_succ → y1i, getElem?_append_right → y1j, getElem?_append_left → y1k, Nodup → y1m, replicate_succ → y1o, append_nil → y1t, zip_cons_cons → y1w, length_append → y1x, flatten_cons → y22, not_mem_nil → y24, getElem?_cons_zero → y26, getElem?_cons_succ → y27, map_map → y2b
open Nat renaming le_refl → y0o, lt_of_lt_of_le → y0w, ne_of_lt → y0x, ne_of_gt → y15, le_trans → y1l, zero_le → y1z
open PySem.Builtin.SmallTypes renaming nextOf → y0s, ownedTupleIsFree → y0z
open PySem.Builtin.Tuple renaming tupleExact → y12
open Bool renaming and_eq_true → y19, false_eq_true → y1q, false_ne_true → y1y
open PySem.PyData renaming depthAll → y1c, canLayAll0 → y1e, str → y1r, eqv → y1v, depth → y20
open PyProof.Rows renaming slot_tuple_getitem → y1f, callWith_type1 → y1p
open PySem.Builtin.Slice renaming slicePlaces → y1h
open False renaming elim → y1s
open Array renaming length_toList → y1u
open PySem.PassesOwn renaming never → y21
open PySem.F renaming slot_tuple_iterator_next → y23
open Option.some renaming inj → y28
open Int renaming emod_nonneg → y29, emod_lt_of_pos → y2a
namespace PySem.W.Fast
def tw12314889615663532329:=0
def tw5418930793601932821:=0
def tw13845026753944352822:=0
def tw7624502301184455064:=0
def tw15050317562560016094:=0
def tw13182988451695317186:=0
def tw2576725300309506902:=0
def tw2733418056281952051:=0
def tw9250556477217960120:=0
def tw15823535965292952396:=0
def tw7282127500103363950:=0
def tw12897806262181855837:=0
def tw12470119456516710381:=0
def tw3806437682537487088:=0
def tw2774984465442815813:=0
def tw14640929648096441559:=0
def tw15625394144526117676:=0
def tw12615089442926688945:=0
def tw1973708574423254628:=0
def tw11496616896418087041:=0
def tw11677453257345838360:=0
def tw4280684742498008572:=0
def tw2933024005441682341:=0
def tw4696513919548963235:=0
def tw3319503498218956678:=0
def tw4023424756096923511:=0
def tw6082699972225495436:=0
def tw6401889188218560235:=0
def tw17380695749104311562:=0
def tw10104105857878877973:=0
def tw7013545209605201470:=0
def tw18287109936795817109:=0
def tw13308842323458640100:=0
def tw5147559748835322647:=0
def tw10408036036938589721:=0
def tw1109905291552426846:=0
def tw4252712924018935485:=0
def tw8330856874102156365:=0
def tw1034098421880310382:=0
def tw13222860760989126070:=0
def tw15782437695388736041:=0
def tw5047569836111176114:=0
def tw3579802087959222508:=0
def tw13317350835699366329:=0
def tw13381295878668046029:=0
def tw308277978336038201:=0
def tw14301713245725841119:=0
def tw3340158663459914159:=0
def tw8429126131512694655:=0
def tw10511746307324568845:=0
def tw15091218272169344117:=0
def tw9819027448505254419:=0
def tw3492937182407893115:=0
def tw17076854237051505726:=0
def tw2703290166753175453:=0
def tw15644751601359580896:=0
def tw3790127779083078807:=0
def tw12107427353223690659:=0
def tw8826226961680883878:=0
def tw11869215280924168546:=0
def tw5097643382998692381:=0
def tw5767329969185452858:=0
def tw7722095778651521414:=0
def tw6365246855811147167:=0
def tw17982735522030688139:=0
def tw3770693245531478874:=0
def tw18432699924195066199:=0
def tw7402918148544004369:=0
def tw9585294180648635835:=0
def tw3874570842760915469:=0
def tw16435249474909914133:=0
def tw7418210814351294048:=0
def tw3909660581375071174:=0
def tw1586338944982273784:=0
def tw14158843280764339662:=0
def tw6400726804893030078:=0
def tw1122675381158231042:=0
def tw10882624528056550991:=0
def tw4272595479556909077:=0
def tw16893617708386122312:=0
def tw9888514084926983412:=0
def tw17061552930245491631:=0
def tw119316844494181636:=0
def tw11983222510184485298:=0
def tw9716899574115130759:=0
def tw9225072479049252021:=0
def tw4790214019894264709:=0
def tw14366393198389313077:=0
def tw8715735522338074823:=0
def tw3274925681760426199:=0
def tw15175746292462396311:=0
def tw10158181465761697778:=0
def tw10985167054182893741:=0
def tw4844386902277609245:=0
def tw5945018051004246206:=0
def tw315404991064674253:=0
def tw12474536373903115229:=0
def tw5832972898540176750:=0
def tw4661994987389851752:=0
def tw2317621378354994911:=0
def tw2704125809926709800:=0
def tw5988725005633507934:=0
def tw5124443981277671489:=0
def tw16341424363429235052:=0
def tw11793317647814162378:=0
def tw6646538829184185548:=0
def tw2520256447314931860:=0
def tw2588783179891115868:=0
def tw3444263387138392592:=0
def tw8584869643892049938:=0
def tw12836835417844102635:=0
def tw15801755943437924459:=0
def tw10509647169551361117:=0
def tw2471123564230793122:=0
def tw6552927865514249452:=0
def tw5168891496927625065:=0
def tw15130456778114455364:=0
def tw13223905594947578036:=0
def tw6540852573755338350:=0
def tw10657832375351170720:=0
def tw14028379379753712024:=0
def tw30523634061163707:=0
def tw16291852163055312641:=0
end PySem.W.Fast
noncomputable section
section
namespace L2
open PySem PySem.Spec PyProof.Rows
abbrev Key:=Sum Int Str
def zum:Key->Value->Bool
 | .inl k,v=>Value.isInt k v
 | .inr x,v=>Value.isStrOf x v
def keyH (w:World):Key->Int
 | .inl k=>hashInt k
 | .inr x=>hashStr w x
theorem z24:∀{k:Key} {v:Value},zum k v=true->(∃i t,k=Sum.inl i/\v=Value.int i t)\/(∃x t,k=Sum.inr x/\v=Value.str x t)
 | .inl i,v,h=>by
  obtain⟨t,e⟩:=Value.isInt_shape (k:=i) (v:=v) h
  exact .inl ⟨i,t,rfl,e⟩
 | .inr x,v,h=>by
  obtain⟨t,e⟩:=Value.isStrOf_shape (x:=x) (v:=v) h
  exact .inr ⟨x,t,rfl,e⟩
theorem zul (a b:Int):decide ((Sum.inl a:Key)=Sum.inl b)=(a == b):=by
 by_cases e:a=b
 ·subst e;simp
 ·have h:¬(Sum.inl a:Key)=Sum.inl b:=fun q=>e (Sum.inl.inj q)
  rw[decide_eq_false h]
  exact (beq_eq_false_iff_ne.mpr e).symm
theorem zui (a b:Str):decide ((Sum.inr a:Key)=Sum.inr b)=decide (a=b):=by
 by_cases e:a=b
 ·subst e;simp
 ·have h:¬(Sum.inr a:Key)=Sum.inr b:=fun q=>e (Sum.inr.inj q)
  rw[decide_eq_false h,decide_eq_false e]
theorem zuk (a:Int) (b:Str):decide ((Sum.inl a:Key)=Sum.inr b)=false:=decide_eq_false (fun q=>nomatch q)
theorem zuj (a:Str) (b:Int):decide ((Sum.inr a:Key)=Sum.inl b)=false:=decide_eq_false (fun q=>nomatch q)
noncomputable def zhd (prog:y0q) (w:World):PySem.KeyKind prog w Key where
 is:=zum
 hash:=keyH w
 inj:=fun v a b ha hb=>by
  rcases z24 ha with ⟨i,t,rfl,rfl⟩|⟨x,t,rfl,rfl⟩
  ·rcases z24 hb with ⟨j,u,rfl,e⟩|⟨y,u,rfl,e⟩
   ·injection e with e1 _;rw[e1]
   ·exact nomatch e
  ·rcases z24 hb with ⟨j,u,rfl,e⟩|⟨y,u,rfl,e⟩
   ·exact nomatch e
   ·injection e with e1 _;rw[e1]
 byValue:=fun k v h=>by
  rcases z24 h with ⟨i,t,rfl,rfl⟩|⟨x,t,rfl,rfl⟩ <;> rfl
 pyHash:=fun hv h=>by
  rcases z24 hv with ⟨i,t,rfl,rfl⟩|⟨x,t,rfl,rfl⟩
  ·exact wpAny_pyHash_int h
  ·exact wpAny_pyHash_str h
 eqBool:=fun hu hv h=>by
  rcases z24 hu with ⟨i,t,rfl,rfl⟩|⟨x,t,rfl,rfl⟩
  ·rcases z24 hv with ⟨j,u,rfl,rfl⟩|⟨y,u,rfl,rfl⟩
   ·rw[zul] at h;exact wpAny_eqBool_int h
   ·rw[zuk] at h;exact SeqAt.EqAt.int_str i t y u _ _ _ _ h
  ·rcases z24 hv with ⟨j,u,rfl,rfl⟩|⟨y,u,rfl,rfl⟩
   ·rw[zuj] at h;exact SeqAt.EqAt.str_int x t j u _ _ _ _ h
   ·rw[zui] at h;exact wpAny_eqBool_str h
 «strs»:=fun k x t v h=>by
  rcases z24 h with ⟨i,u,rfl,e⟩|⟨y,u,rfl,e⟩
  ·exact nomatch e
  ·injection e with e1 _
   subst e1
   cases v <;> rfl
end L2
namespace L2
open PySem PySem.Spec PyProof.Rows
inductive V where
 | non|bl (b:Bool)|int (i:Int)|str (x:Str)|byt (b:Array UInt8)|flt (b:UInt64)|ref (a:Addr)|ty (n:String)
 deriving DecidableEq
noncomputable def RelV:V->Value->Prop
 | .non,u=>u=Value.none
 | .bl b,u=>u=Value.bool b
 | .int i,u=>∃t,u=Value.int i t
 | .str x,u=>∃t,u=Value.str x t
 | .byt b,u=>∃t,u=Value.bytes b t
 | .flt b,u=>∃t,u=Value.float b t
 | .ref a,u=>u=Value.ref a
 | .ty n,u=>u=Value.type n
abbrev Vals:List V->List Value->Prop:=Paired RelV
theorem Vals.length {xs:List V} {us:List Value} (r:Vals xs us):xs.length=us.length:=Paired.length r
theorem Vals.get:∀{xs:List V} {us:List Value} {i:Nat} {x:V},Vals xs us->xs[i]?=some x->∃u,us[i]?=some u/\RelV x u
 | _,_,_,_,.nil,e=>by simp at e
 | _,_,0,_,.cons r _,e=>by simp at e;subst e;exact⟨_,rfl,r⟩
 | _,_,i+1,x,.cons _ t,e=>by
  obtain⟨u,h1,h2⟩:=Vals.get (i:=i) (x:=x) t (by simpa using e)
  exact⟨u,by simpa using h1,h2⟩
theorem Vals.append:∀{xs ys:List V} {us ws:List Value},Vals xs us->Vals ys ws->Vals (xs++ys) (us++ws)
 | _,_,_,_,.nil,s=>s
 | _,_,_,_,.cons r t,s=>.cons r (Vals.append t s)
theorem Vals.take:∀{xs:List V} {us:List Value} (n:Nat),Vals xs us->Vals (xs.take n) (us.take n)
 | _,_,0,_=>.nil
 | _,_,_+1,.nil=>.nil
 | _,_,n+1,.cons r t=>.cons r (Vals.take n t)
theorem Vals.drop:∀{xs:List V} {us:List Value} (n:Nat),Vals xs us->Vals (xs.drop n) (us.drop n)
 | _,_,0,r=>r
 | _,_,_+1,.nil=>.nil
 | _,_,n+1,.cons _ t=>Vals.drop n t
def RelO:Option V->Option Value->Prop
 | some v,some u=>RelV v u
 | none,none=>True
 | _,_=>False
def KV {κ:Type}:List (κ×V)->List (κ×Value)->Prop:=Paired fun (p:κ×V) (q:κ×Value)=>p.1=q.1/\RelV p.2 q.2
def kV:Key->V
 | .inl i=>.int i
 | .inr x=>.str x
inductive HO where
 | lst (xs:List V)
 | tup (xs:List V)
 | dK (kvs:List (Key×V))|dT (kvs:List (List Key×V))
 | set (S:Int->Bool) (n:Nat)
 | ins (C dx:Addr) (fs:List (Str×V))
 | own (x:Addr)
 | xd (fs:List (Str×V))
 | met (f x:Addr)
 | rng (lo hi:Int)
 | frz (o:Obj) (u:HO)
 | tbl (ps:Array Value)
 | ext (φ:Heap->Prop)
abbrev Hp:=Addr->Option HO
def upd (H:Hp) (a:Addr) (o:HO):Hp:=fun b=>if b=a then some o else H b
theorem z0n {H:Hp} {a:Addr} {o:HO}:upd H a o a=some o:=by unfold upd;rw[if_pos rfl]
theorem z0i {H:Hp} {a b:Addr} {o:HO} (h:b≠a):upd H a o b=H b:=by unfold upd;rw[if_neg h]
theorem z0x {H:Hp} {a b:Addr} {o:HO} (h:H a=some o) (h':H b=none):a≠b:=by
 intro e;subst e;rw[h] at h';cases h'
section
variable (P:y0q) (w:World)
noncomputable def z99 (H:Hp) (h:Heap) (a:Addr):HO->Prop
 | .lst xs=>xs.length<=y0j/\∃(its:List Value) (n:Nat),Vals xs its/\h.get? a=some { cls:=.type "list",data:=.seq its.toArray n }
 | .tup xs=>xs.length<=y0j/\∃its:List Value,Vals xs its/\IsTup h a its.toArray
 | .dK kvs=>kvs.length<=y0j/\(a == sysModules)=false/\∃vs,KV kvs vs/\h.DictOf (zhd P w) a vs
 | .dT kvs=>kvs.length<=y0j/\(a == sysModules)=false/\∃xs:List (List Key×Addr×Value),
   Paired (fun (p:List Key×V) (q:List Key×Addr×Value)=>p.1=q.1/\H q.2.1=some (.tup (p.1.map kV))/\RelV p.2 q.2.2) kvs xs /\
   ∃o es ep,h.get? a=some o/\o.ExactDict/\o.data=.dict es ep/\es.toList=xs.map (entryOfKey (tupleKind (zhd P w)))/\(xs.map (·.1)).Nodup
 | .set S n=>h.SetOf (intKind P w) a S n
 | .ins C dx fs=>H dx=some (.own a)/\fs.length<=1000/\dx≠a/\h.get? a=some (PySem.W.instObj C dx) /\
   ∃mA,h.Ns1 dx mA/\(∀f,RelO (fs.lookup f) (mA f))/\PySem.Within mA (fs.map (·.1))
 | .own _=>∃o,h.get? a=some o
 | .xd fs=>∃mA,h.Ns1 a mA/\∀f,RelO (fs.lookup f) (mA f)
 | .rng lo hi=>∃t u v,h.get? a=some { cls:=.type "range",data:=.fields #[.int lo t,.int hi u,.int 1 v] }
 | .frz o u=>h.get? a=some o/\z99 H h a u
 | .tbl ps=>h.get? a=some { cls:=.none,data:=.fields ps }
 | .met f x=>h.get? a=some (PySem.W.methodObj (.ref f) (.ref x))
 | .ext φ=>φ h/\(∃o,h.get? a=some o)/\∀h1 h2:Heap,φ h1->(∀o,h1.get? a=some o->h2.get? a=some o)->φ h2
def HOk (H:Hp) (h:Heap):Prop:=∀a o,H a=some o->z99 P w H h a o
end
section
variable {P:y0q} {w:World} {H H':Hp} {h h':Heap} {a:Addr} {o:HO}
theorem z99.lt (x:z99 P w H h a o):a<h.objs.size:=by
 cases o with
 | lst xs=>obtain⟨_,_,_,_,e⟩:=x;exact y0c e
 | tup xs=>obtain⟨_,_,_,p⟩:=x;exact p.lt
 | dK kvs=>obtain⟨_,_,_,_,o,_,_,e,_⟩:=x;exact y0c e
 | dT kvs=>obtain⟨_,_,_,_,o,_,_,e,_⟩:=x;exact y0c e
 | set S n=>obtain⟨o,_,_,_,e,_⟩:=x;exact y0c e
 | ins C dx fs=>obtain⟨_,_,_,e,_⟩:=x;exact y0c e
 | own y=>obtain⟨_,e⟩:=x;exact y0c e
 | xd fs=>obtain⟨_,⟨_,_,_,e,_⟩,_⟩:=x;exact y0c e
 | rng lo hi=>obtain⟨_,_,_,e⟩:=x;exact y0c e
 | frz ob u=>obtain⟨e,_⟩:=x;exact y0c e
 | tbl ps=>exact y0c (show h.get? a=some _ from x)
 | met f y=>exact y0c (show h.get? a=some _ from x)
 | ext φ=>obtain⟨_,⟨_,e⟩,_⟩:=x;exact y0c e
theorem Paired.mapP {α β:Type} {F G:α->β->Prop}:∀{l₁:List α} {l₂:List β},Paired F l₁ l₂->(∀a b,F a b->G a b)->Paired G l₁ l₂
 | _,_,.nil,_=>.nil
 | _,_,.cons r t,f=>.cons (f _ _ r) (Paired.mapP t f)
theorem z99.stay (x:z99 P w H h a o) (k:∀b u,(b=a\/H b=some (.own a))->h.get? b=some u->h'.get? b=some u)
  (ho:∀b,H b=some (.own a)->H' b=some (.own a)) (ht:∀b xs,H b=some (.tup xs)->H' b=some (.tup xs)):z99 P w H' h' a o:=by
 induction o with
 | lst xs=>obtain⟨z,its,n,r,e⟩:=x;exact⟨z,its,n,r,k _ _ (.inl rfl) e⟩
 | tup xs=>obtain⟨z,its,r,ob,e,c⟩:=x;exact⟨z,its,r,ob,k _ _ (.inl rfl) e,c⟩
 | dK kvs=>obtain⟨z,y,vs,r,ob,es,ep,e,c⟩:=x;exact⟨z,y,vs,r,ob,es,ep,k _ _ (.inl rfl) e,c⟩
 | dT kvs =>
  obtain⟨z,y,xs,r,ob,es,ep,e,c⟩:=x
  exact⟨z,y,xs,Paired.mapP r fun p q z=>⟨z.1,ht _ _ z.2.1,z.2.2⟩,ob,es,ep,k _ _ (.inl rfl) e,c⟩
 | set S n=>obtain⟨ob,es,ep,t,e,c⟩:=x;exact⟨ob,es,ep,t,k _ _ (.inl rfl) e,c⟩
 | ins C dx fs =>
  obtain⟨d,z,ne,e,mA,⟨od,es,ep,e2,c⟩,r⟩:=x
  exact⟨ho _ d,z,ne,k _ _ (.inl rfl) e,mA,⟨od,es,ep,k _ _ (.inr d) e2,c⟩,r⟩
 | own y=>obtain⟨ob,e⟩:=x;exact⟨ob,k _ _ (.inl rfl) e⟩
 | xd fs=>obtain⟨mA,⟨od,es,ep,e,c⟩,r⟩:=x;exact⟨mA,⟨od,es,ep,k _ _ (.inl rfl) e,c⟩,r⟩
 | rng lo hi=>obtain⟨t,u,v,e⟩:=x;exact⟨t,u,v,k _ _ (.inl rfl) e⟩
 | frz ob u ih=>obtain⟨e,q⟩:=x;exact⟨k _ _ (.inl rfl) e,ih q⟩
 | tbl ps =>
  have e:h.get? a=some { cls:=.none,data:=.fields ps }:=x
  show h'.get? a=some { cls:=.none,data:=.fields ps }
  exact k a _ (.inl rfl) e
 | met f y =>
  have e:h.get? a=some (PySem.W.methodObj (.ref f) (.ref y)):=x
  show h'.get? a=some (PySem.W.methodObj (.ref f) (.ref y))
  exact k a _ (.inl rfl) e
 | ext φ=>obtain⟨p,⟨o,e⟩,st⟩:=x;exact⟨st _ _ p fun o q=>k _ _ (.inl rfl) q,⟨o,k _ _ (.inl rfl) e⟩,st⟩
theorem HOk.lt (x:HOk P w H h) (e:H a=some o):a<h.objs.size:=(x a o e).lt
theorem HOk.fresh (x:HOk P w H h) (e:h.objs.size<=a):H a=none:=by
 cases q:H a with
 | none=>rfl
 | some u=>exact absurd (y0w (x.lt q) e) (Nat.lt_irrefl _)
theorem HOk.kept (x:HOk P w H h) (k:∀b u,h.get? b=some u->h'.get? b=some u):HOk P w H h':=fun a o e =>
 (x a o e).stay (fun b u _ q=>k b u q) (fun _ q=>q) fun _ _ q=>q
theorem HOk.laid (x:HOk P w H h) (k:∀b u,h.get? b=some u->h'.get? b=some u) (hp:h.objs.size<=a) (new:z99 P w (upd H a o) h' a o):HOk P w (upd H a o) h':=fun b u e=>by
 have hn:=x.fresh hp
 by_cases hb:b=a
 ·subst hb;rw[z0n] at e;cases e;exact new
 ·rw[z0i hb] at e
  exact (x b u e).stay (fun c v _ q=>k c v q) (fun c q=>by rw[z0i (z0x q hn)];exact q) fun c xs q=>by rw[z0i (z0x q hn)];exact q
end
def Rd (H:Hp) (a:Addr) (u:HO):Prop:=H a=some u\/∃o,H a=some (.frz o u)
theorem Rd.ok {P:y0q} {w:World} {H:Hp} {h:Heap} {a:Addr} {u:HO} (r:Rd H a u) (x:HOk P w H h):z99 P w H h a u:=by
 rcases r with r|⟨o,r⟩
 ·exact x a u r
 ·obtain⟨_,q⟩:=x a _ r
  exact q
def Mut:Option HO->Prop
 | some (.lst _)=>True
 | some (.dK _)=>True
 | some (.dT _)=>True
 | some (.set _ _)=>True
 | some (.ins _ _ _)=>True
 | some (.ext _)=>True
 | _=>False
section
variable {P:y0q} {w:World} {H:Hp} {h h':Heap} {x e:Addr} {o':HO}
theorem HOk.write (ok:HOk P w H h) (mu:Mut (H x)) (he:e=x\/H e=some (.own x)) (k:∀b u,b≠e->h.get? b=some u->h'.get? b=some u) (heo:∃u,h'.get? e=some u)
  (new:z99 P w (upd H x o') h' x o'):HOk P w (upd H x o') h':=fun b u q=>by
 have nown:∀c y,H c=some (.own y)->c≠x:=fun c y r z=>by subst z;rw[r] at mu;exact mu
 have ntup:∀c xs,H c=some (.tup xs)->c≠x:=fun c xs r z=>by subst z;rw[r] at mu;exact mu
 by_cases hb:b=x
 ·subst hb;rw[z0n] at q;cases q;exact new
 ·rw[z0i hb] at q
  by_cases hbe:b=e
  ·have q':H b=some (.own x):=by
    rcases he with z|z
    ·exact absurd (hbe.trans z) hb
    ·rw[hbe];exact z
   rw[q] at q';cases q'
   obtain⟨v,hv⟩:=heo
   exact⟨v,by rw[hbe];exact hv⟩
  ·refine (ok b u q).stay (fun c v hc r=>k c v ?_ r) (fun c r=>by rw[z0i (nown c b r)];exact r) fun c xs r=>by rw[z0i (ntup c xs r)];exact r
   rcases hc with rfl|hc
   ·exact hbe
   ·rintro rfl
    rcases he with z|z
    ·exact nown c b hc z
    ·rw[hc] at z;cases z;exact hb rfl
end
structure Un (fs ex:List Addr) (H H':Hp) (h h':Heap):Prop where
 keep:∀b o,h.get? b=some o->H b=none->b∉fs->b∉ex->h'.get? b=some o
 slot:∀b o,h.get? b=some o->H b=none->b∈fs->b∉ex->∃sl,h'.get? b=some { o with slots:=sl }
 free:∀b o,h.get? b=some o->H b=none->b∉ex->H' b=none
 there:∀b o,h.get? b=some o->b∉ex->∃o',h'.get? b=some o'
 tups:∀b xs,H b=some (.tup xs)->H' b=some (.tup xs)
 frzs:∀b o u,H b=some (.frz o u)->H' b=some (.frz o u)
 tbls:∀b ps,H b=some (.tbl ps)->∃more,H' b=some (.tbl (ps++more))
section
variable {fs fs' ex ex':List Addr} {H H1 H2:Hp} {h h1 h2 h':Heap} {a x e:Addr} {o:HO}
theorem Un.any (u:Un fs ex H H1 h h1) {b:Addr} {ob:Obj} (q:h.get? b=some ob) (n:H b=none) (hx:b∉ex):∃sl,h1.get? b=some { ob with slots:=sl }:=by
 by_cases hb:b∈fs
 ·exact u.slot b ob q n hb hx
 ·exact⟨ob.slots,u.keep b ob q n hb hx⟩
theorem Un.kept (k:∀b u,h.get? b=some u->h'.get? b=some u):Un fs ex H H h h' :=
 ⟨fun b ob q _ _ _=>k b ob q,fun b ob q _ _ _=>⟨ob.slots,k b ob q⟩,fun _ _ _ n _=>n,fun b ob q _=>⟨ob,k b ob q⟩,fun _ _ q=>q,fun _ _ _ q=>q,fun _ ps q=>⟨#[],by rw[q];simp⟩⟩
theorem Un.refl:Un fs ex H H h h:=Un.kept fun _ _ q=>q
theorem Un.laid (k:∀b u,h.get? b=some u->h'.get? b=some u) (hp:h.objs.size<=a) (hn:H a=none):Un fs ex H (upd H a o) h h' where
 keep:=fun b u q _ _ _=>k b u q
 slot:=fun b u q _ _ _=>⟨u.slots,k b u q⟩
 free:=fun b u q n _=>by rw[z0i (y0x (y0w (y0c q) hp))];exact n
 there:=fun b u q _=>⟨u,k b u q⟩
 tups:=fun b xs q=>by rw[z0i (z0x q hn)];exact q
 frzs:=fun b u xs q=>by rw[z0i (z0x q hn)];exact q
 tbls:=fun b ps q=>⟨#[],by rw[z0i (z0x q hn),q];simp⟩
theorem Un.write (mu:Mut (H x)) (he:e=x\/H e=some (.own x)) (k:∀b u,b≠e->h.get? b=some u->h'.get? b=some u) (heo:∃u,h'.get? e=some u):Un fs ex H (upd H x o) h h':=by
 have hx:∀b,H b=none->b≠x:=fun b n z=>by subst z;rw[n] at mu;exact mu
 have hb:∀b,H b=none->b≠e:=fun b n z=>by
  subst z
  rcases he with r|r
  ·exact hx b n r
  ·rw[n] at r;cases r
 have hm:∀b u,H b=some u->¬Mut (some u)->b≠x:=fun b u q nm z=>by subst z;rw[q] at mu;exact nm mu
 refine⟨fun b u q n _ _=>k b u (hb b n) q,fun b u q n _ _=>⟨u.slots,k b u (hb b n) q⟩,fun b u q n _=>by rw[z0i (hx b n)];exact n,fun b u q _=>?_,
  fun b xs q=>by rw[z0i (hm b _ q fun z=>z)];exact q,fun b u xs q=>by rw[z0i (hm b _ q fun z=>z)];exact q,fun b ps q=>⟨#[],by rw[z0i (hm b _ q fun z=>z),q];simp⟩⟩
 by_cases hbe:b=e
 ·subst hbe;exact heo
 ·exact⟨u,k b u hbe q⟩
end
def trk (h:Heap) (H:Hp):List Addr:=(List.range h.objs.size).filter fun a=>(H a).isSome
def hidT (h:Heap) (H:Hp):Heap:=PySem.W.hideAll h (trk h H)
theorem zmh (h:Heap) (H:Hp):(hidT h H).objs.size=h.objs.size:=PySem.W.hideAll_size _ _
theorem zp5 {h:Heap} {H:Hp} {b:Addr} {o:Obj} (e:h.get? b=some o) (n:H b=none):(hidT h H).get? b=some o :=
 PySem.W.hideAll_get _ e fun hm=>by
  have q:(H b).isSome=true:=(List.mem_filter.mp hm).2
  rw[n] at q;simp at q
theorem zrv {h:Heap} {H:Hp} {b:Addr} {o:Obj} (e:(hidT h H).get? b=some o):h.get? b=some o/\H b=none:=by
 have e':h.get? b=some o:=PySem.W.of_hideAll (trk h H) e
 refine⟨e',?_⟩
 cases q:H b with
 | none=>rfl
 | some x =>
  have hm:b∈trk h H:=List.mem_filter.mpr ⟨List.mem_range.mpr (y0c e'),by simp[q]⟩
  have z:(hidT h H).get? b=none:=PySem.W.hideAll_none (trk h H) hm
  rw[z] at e;cases e
def zsj (g h:Heap) (L:Addr):List (Addr×Obj):=(List.range h.objs.size).filterMap fun a=>if a=L\/(g.get? a).isSome=true then none else (h.get? a).map fun o=>(a,o)
def rest (g h:Heap) (L d:Addr):List (Addr×Obj):=(zsj g h L).filter fun p=>decide (p.1≠d)
end L2
namespace L2
open PySem PySem.Spec PyProof.Rows
structure Mod (K:y00) (mg:Str->Option Value) (base:Heap):Prop where
 kin:K.In base
 glob:base.Ns y0n mg
 blt:∃mb,base.Ns builtinsNs mb/\∀x:Str,x≠"__name__"->mb x=bootBuiltins x
 nolimit:base.NoLimit
structure Cx where
 prog:y0q
 w:World
 K:y00
 mg:Str->Option Value
 base:Heap
 A:Around
 N:List Str
 s₀:y04
 H₀:Hp
 env:Env
 outer:List Env
 stack:List Env
 ex:List Addr
 fn:Str->Bool
 calm:Bool
 pn:List (Addr×Obj)
 xe:Value->y04->Prop
def frs (l:List Env):List Addr:=l.filterMap (·.frame)
abbrev Cx.fs (X:Cx):List Addr:=frs X.outer
def Vis (sc:Scope) (x:Str):Prop:=sc.names.lookup x=some .local\/sc.names.lookup x=some .cell\/sc.names.lookup x=some .free
def Loc (sc:Scope) (x:Str):Prop:=sc.names.lookup x=some .local\/sc.names.lookup x=some .cell
noncomputable def Look (env:Env) (h:Heap) (m:Str->Option Value) (x:Str) (u:Value):Prop :=
 (env.kindOf x=some .local/\m x=some u)\/((env.kindOf x=some .cell\/env.kindOf x=some .free)/\∃c,env.cells.lookup x=some c/\h.IsCell c (some u))
structure Cx.Ok (X:Cx):Prop where
 mod:Mod X.K X.mg X.base
 kind:X.env.scope.kind=.function
 glob:X.env.globals=y0n
 blt:X.env.builtins=builtinsNs
 above:X.s₀.heap.objs.size<=X.env.locals
 inj:∀x y c,X.env.cells.lookup x=some c->X.env.cells.lookup y=some c->x=y
 has:∀x,(X.env.kindOf x=some .cell\/X.env.kindOf x=some .free)->∃c,X.env.cells.lookup x=some c
 cab:∀x c,X.fn x=true->X.env.cells.lookup x=some c->X.s₀.heap.objs.size<=c
 hd:X.calm=true->X.A.handled=none
 frames:X.A.frames=some X.stack
 stk:X.stack=X.outer\/(X.stack=X.env::X.outer/\X.env.frame=some X.env.locals)
 exf:∀b∈X.ex,b≠X.env.locals/\∀x c,X.env.cells.lookup x=some c->c≠b
 bs:∀b o,X.base.get? b=some o->X.s₀.heap.get? b=some o/\X.H₀ b=none
 bsz:X.base.objs.size<=X.s₀.heap.objs.size
 noex:∀b o,X.base.get? b=some o->b∉X.ex
 exfs:∀b∈X.ex,b∉X.fs
 funs:X.s₀.heap.FunFrames X.base X.outer
 frf:∀b∈X.fs,X.H₀ b=none
structure Inv (X:Cx) (pins:List (Addr×Obj)) (σ:List (Option V)) (H:Hp) (s:y04):Prop where
 ok:X.Ok
 os:s.os=X.s₀.os
 bare:AllBare s.gens
 base:Un X.fs X.ex X.H₀ H X.s₀.heap s.heap
 loc:∃m,s.heap.Ns X.env.locals m/\∀(i:Nat) (x:Str) (v:V),X.N[i]?=some x->σ[i]?=some (some v)->Vis X.env.scope x->∃u,RelV v u/\Look X.env s.heap m x u
 cell:∀x c,X.env.cells.lookup x=some c->∃v,s.heap.IsCell c v
 free:H X.env.locals=none
 freeC:∀x c,X.env.cells.lookup x=some c->H c=none
 pin:∀p∈X.pn++pins,s.heap.get? p.1=some p.2/\H p.1=none/\p.1≠X.env.locals/\p.1∉X.fs/\∀v,p.2.data≠.cell v
 hok:HOk X.prog X.w H s.heap
 len:σ.length=X.N.length
section
variable {X:Cx} {pins:List (Addr×Obj)} {σ:List (Option V)} {H H':Hp} {s:y04} {h':Heap}
theorem Cx.Ok.nofr (ok:X.Ok) {b:Addr} {o:Obj} (e:X.base.get? b=some o):b∉X.fs:=fun hb=>by
 have:=(ok.funs.mem hb).1
 rw[e] at this;cases this
theorem Inv.bs (I:Inv X pins σ H s):∀b o,X.base.get? b=some o->s.heap.get? b=some o/\H b=none:=fun b o e =>
 ⟨I.base.keep b o (I.ok.bs b o e).1 (I.ok.bs b o e).2 (I.ok.nofr e) (I.ok.noex b o e),I.base.free b o (I.ok.bs b o e).1 (I.ok.bs b o e).2 (I.ok.noex b o e)⟩
theorem Inv.bk (I:Inv X pins σ H s):∀b o,X.base.get? b=some o->s.heap.get? b=some o:=fun b o e=>(I.bs b o e).1
theorem Inv.mod (I:Inv X pins σ H s):Mod X.K X.mg X.base:=I.ok.mod
theorem Inv.kIn (I:Inv X pins σ H s):X.K.In s.heap:=I.ok.mod.kin.keeps I.bk
theorem Inv.lt (I:Inv X pins σ H s):X.env.locals<s.heap.objs.size:=let ⟨_,hn,_⟩:=I.loc;hn.lt
theorem Inv.sz (I:Inv X pins σ H s):X.s₀.heap.objs.size<=s.heap.objs.size:=y1l I.ok.above (Nat.le_of_lt I.lt)
theorem Inv.nofs (I:Inv X pins σ H s) {a:Addr} (h:s.heap.objs.size<=a):a∉X.fs:=fun hb=>by
 obtain⟨_,o,ho,_⟩:=I.ok.funs.mem hb
 exact absurd (y0w (y0c ho) (y1l I.sz h)) (Nat.lt_irrefl _)
theorem Inv.cne (I:Inv X pins σ H s):∀x c,X.env.cells.lookup x=some c->c≠X.env.locals:=fun x c e z=>by
 obtain⟨v,o,ho,hd⟩:=I.cell x c e
 obtain⟨m,⟨o',es,ep,ho',hd',_⟩,_⟩:=I.loc
 rw[z,ho'] at ho;cases ho;rw[hd'] at hd;cases hd
theorem Inv.funs (I:Inv X pins σ H s):s.heap.FunFrames X.base X.outer:=by
 have all:∀(l:List Env),(∀b∈frs l,b∈X.fs)->X.s₀.heap.FunFrames X.base l->s.heap.FunFrames X.base l:=by
  intro l
  induction l with
  | nil=>intro _ _;trivial
  | cons env r ih =>
   intro hs hl
   obtain⟨hk,⟨L,o,hf,hn,ho,hd⟩,hr⟩:=hl
   have hL:L∈X.fs:=hs L (by unfold frs;rw[List.filterMap_cons,hf];exact y0e)
   obtain⟨sl,e⟩:=I.base.slot L o ho (I.ok.frf L hL) hL fun z=>I.ok.exfs L z hL
   exact⟨hk,⟨L,_,hf,hn,e,hd⟩,ih (fun b hb=>hs b (by unfold frs;rw[List.filterMap_cons,hf];exact y05 _ hb)) hr⟩
 exact all X.outer (fun _ hb=>hb) I.ok.funs
theorem Inv.stack (I:Inv X pins σ H s):s.heap.FunFrames X.base X.stack:=by
 rcases I.ok.stk with e|⟨e,hf⟩
 ·rw[e];exact I.funs
 ·rw[e]
  obtain⟨m,hn,_⟩:=I.loc
  refine .cons (by rw[I.ok.kind];decide) hf hn ?_ I.funs
  exact Heap.get?_none_of_le (y1l I.ok.bsz I.ok.above)
theorem Inv.stkSub (I:Inv X pins σ H s):∀b∈frs X.stack,b∈X.env.locals::X.fs:=fun b hb=>by
 rcases I.ok.stk with e|⟨e,hf⟩
 ·rw[e] at hb;exact y05 _ hb
 ·rw[e] at hb
  unfold frs at hb
  rw[List.filterMap_cons,hf] at hb
  exact hb
theorem Inv.stkFree (I:Inv X pins σ H s):∀b∈frs X.stack,H b=none:=fun b hb=>by
 rcases y09.mp (I.stkSub b hb) with e|hb
 ·rw[e];exact I.free
 ·obtain⟨_,o,ho,_⟩:=I.ok.funs.mem hb
  exact I.base.free b o ho (I.ok.frf b hb) fun z=>I.ok.exfs b z hb
theorem Inv.step {g':Array GenState} {t':Nat} {d':Drawn} {ch:List Addr} (I:Inv X pins σ H s)
  (hch:∀b∈ch,(b∈X.ex\/X.s₀.heap.objs.size<=b)/\b≠X.env.locals/\(∀x c,X.env.cells.lookup x=some c->c≠b)/\∀p∈X.pn++pins,p.1≠b)
  (keep:∀b o,b≠X.env.locals->b∉X.fs->b∉ch->s.heap.get? b=some o->H b=none->h'.get? b=some o)
  (slot:∀b o,b≠X.env.locals->b∈X.fs->b∉ch->s.heap.get? b=some o->H b=none->∃sl,h'.get? b=some { o with slots:=sl }) (free:∀b o,b∉ch->s.heap.get? b=some o->H b=none->H' b=none)
  (there:∀b o,b∉ch->s.heap.get? b=some o->∃o',h'.get? b=some o')
  (tups:∀b xs,H b=some (.tup xs)->H' b=some (.tup xs)) (frzs:∀b o u,H b=some (.frz o u)->H' b=some (.frz o u)) (tbls:∀b ps,H b=some (.tbl ps)->∃more,H' b=some (.tbl (ps++more)))
  (ns:∀m,s.heap.Ns X.env.locals m->h'.Ns X.env.locals m) (hok:HOk X.prog X.w H' h') (hg:AllBare g') :
  Inv X pins σ H' { s with heap:=h',gens:=g',drawn:=d',toks:=t' }:=by
 have neL:∀b o,X.s₀.heap.get? b=some o->b≠X.env.locals:=fun b o e=>y0x (y0w (y0c e) I.ok.above)
 have neC:∀b o,X.s₀.heap.get? b=some o->b∉X.ex->b∉ch:=fun b o e hx hb=>by
  rcases (hch b hb).1 with z|z
  ·exact hx z
  ·exact absurd (y0w (y0c e) z) (Nat.lt_irrefl _)
 have cellK:∀x c,X.env.cells.lookup x=some c->∀v,s.heap.IsCell c v->h'.IsCell c v:=fun x c e v ⟨o,ho,hd⟩=>by
  have nch:c∉ch:=fun z=>(hch c z).2.2.1 x c e rfl
  by_cases hc:c∈X.fs
  ·obtain⟨sl,q⟩:=slot c o (I.cne x c e) hc nch ho (I.freeC x c e)
   exact⟨_,q,hd⟩
  ·exact⟨o,keep c o (I.cne x c e) hc nch ho (I.freeC x c e),hd⟩
 refine⟨I.ok,I.os,hg,⟨fun b o e n hb hx=>?_,fun b o e n hb hx=>?_,fun b o e n hx=>?_,fun b o e hx=>?_,fun b xs e=>tups b xs (I.base.tups b xs e),fun b o xs e=>frzs b o xs (I.base.frzs b o xs e),fun b ps e=>?_⟩,?_,fun x c e=>?_,?_,fun x c e=>?_,fun p hp=>?_,hok,I.len⟩
 ·exact keep b o (neL b o e) hb (neC b o e hx) (I.base.keep b o e n hb hx) (I.base.free b o e n hx)
 ·obtain⟨sl,e1⟩:=I.base.slot b o e n hb hx
  obtain⟨sl',e2⟩:=slot b _ (neL b o e) hb (neC b o e hx) e1 (I.base.free b o e n hx)
  exact⟨sl',e2⟩
 ·obtain⟨o',e1⟩:=I.base.there b o e hx
  exact free b o' (neC b o e hx) e1 (I.base.free b o e n hx)
 ·obtain⟨o',e1⟩:=I.base.there b o e hx
  exact there b o' (neC b o e hx) e1
 ·obtain⟨m1,e1⟩:=I.base.tbls b ps e
  obtain⟨m2,e2⟩:=tbls b _ e1
  exact⟨m1++m2,by rw[e2,Array.append_assoc]⟩
 ·obtain⟨m,hn,hl⟩:=I.loc
  refine⟨m,ns m hn,fun i x v e1 e2 e3=>?_⟩
  obtain⟨u,r,l⟩:=hl i x v e1 e2 e3
  refine⟨u,r,?_⟩
  rcases l with l|⟨k,c,e,z⟩
  ·exact .inl l
  ·exact .inr ⟨k,c,e,cellK x c e _ z⟩
 ·obtain⟨v,z⟩:=I.cell x c e
  exact⟨v,cellK x c e v z⟩
 ·obtain⟨m,⟨o,_,_,ho,_⟩,_⟩:=I.loc
  exact free _ o (fun z=>(hch _ z).2.1 rfl) ho I.free
 ·obtain⟨v,o,ho,hd⟩:=I.cell x c e
  exact free c o (fun z=>(hch c z).2.2.1 x c e rfl) ho (I.freeC x c e)
 ·obtain⟨e,n,ne,nf,d⟩:=I.pin p hp
  have nch:p.1∉ch:=fun z=>(hch p.1 z).2.2.2 p hp rfl
  exact⟨keep p.1 p.2 ne nf nch e n,free p.1 p.2 nch e n,ne,nf,d⟩
theorem Inv.un {t':Nat} (I:Inv X pins σ H s) (u:Un X.fs [] H H' s.heap h') (hok:HOk X.prog X.w H' h'):Inv X pins σ H' { s with heap:=h',toks:=t' }:=by
 obtain⟨m,⟨o,es,ep,ho,r⟩,_⟩:=id I.loc
 obtain⟨sl,hL⟩:=u.any ho I.free (by simp)
 exact I.step (g':=s.gens) (d':=s.drawn) (ch:=[]) (fun _ z=>nomatch z) (fun b o _ hb _ e n=>u.keep b o e n hb (by simp)) (fun b o _ hb _ e n=>u.slot b o e n hb (by simp)) (fun b o _ e n=>u.free b o e n (by simp)) (fun b o _ e=>u.there b o e (by simp)) u.tups u.frzs u.tbls (fun m' hm=>by
  obtain⟨o',es',ep',ho',r'⟩:=hm
  rw[ho] at ho';cases ho'
  exact⟨_,es',ep',hL,r'⟩) hok I.bare
theorem Inv.call {g':Array GenState} {t':Nat} {d':Drawn} {ch:List Addr} (I:Inv X pins σ H s) (u:Un (frs X.stack) ch H H' s.heap h') (hok:HOk X.prog X.w H' h') (hg:AllBare g')
  (hch:∀b∈ch,(b∈X.ex\/X.s₀.heap.objs.size<=b)/\b≠X.env.locals/\(∀x c,X.env.cells.lookup x=some c->c≠b)/\∀p∈X.pn++pins,p.1≠b) :
  Inv X pins σ H' { s with heap:=h',gens:=g',drawn:=d',toks:=t' }:=by
 obtain⟨m,⟨o,es,ep,ho,r⟩,_⟩:=id I.loc
 obtain⟨sl,hL⟩:=u.any ho I.free fun z=>(hch _ z).2.1 rfl
 exact I.step (ch:=ch) hch (fun b o hL hb hc e n=>u.keep b o e n (fun z=>(y09.mp (I.stkSub b z)).elim hL hb) hc) (fun b o _ _ hc e n=>u.any e n hc) (fun b o hc e n=>u.free b o e n hc) (fun b o hc e=>u.there b o e hc) u.tups u.frzs u.tbls (fun m' hm=>by
  obtain⟨o',es',ep',ho',r'⟩:=hm
  rw[ho] at ho';cases ho'
  exact⟨_,es',ep',hL,r'⟩) hok hg
theorem Inv.turned {t':Nat} {it:Addr} (I:Inv X pins σ H s) (k:∀b o,b≠it->s.heap.get? b=some o->h'.get? b=some o) (hn:H it=none) (hL:it≠X.env.locals)
  (h1:it∈X.ex\/X.s₀.heap.objs.size<=it) (h2:∀x c,X.env.cells.lookup x=some c->c≠it) (h3:∀p∈X.pn++pins,p.1≠it):Inv X pins σ H { s with heap:=h',toks:=t' }:=by
 have nit:∀b u,H b=some u->b≠it:=fun b u e z=>by rw[z,hn] at e;cases e
 refine I.step (g':=s.gens) (d':=s.drawn) (ch:=[it]) (fun b hb=>?_) (fun b o _ _ hc e _=>k b o (fun z=>hc (by simp[z])) e) (fun b o _ _ hc e _=>⟨o.slots,k b o (fun z=>hc (by simp[z])) e⟩) (fun _ _ _ _ n=>n)
  (fun b o hc e=>⟨o,k b o (fun z=>hc (by simp[z])) e⟩) (fun _ _ e=>e) (fun _ _ _ e=>e) (fun b ps e=>⟨#[],by rw[e];simp⟩) (fun m hm=>?_) (fun b u e=>?_) I.bare
 ·have e:b=it:=by simpa using hb
  subst e
  exact⟨h1,hL,h2,h3⟩
 ·obtain⟨o,es,ep,ho,r⟩:=hm
  exact⟨o,es,ep,k _ o (Ne.symm hL) ho,r⟩
 ·refine (I.hok b u e).stay (fun c v hc q=>k c v ?_ q) (fun _ q=>q) fun _ _ q=>q
  rcases hc with z|z
  ·rw[z];exact nit b u e
  ·exact nit c _ z
theorem Inv.tok (I:Inv X pins σ H s) (t:Nat):Inv X pins σ H { s with toks:=t }:=I.un (h':=s.heap) (t':=t) Un.refl I.hok
theorem Inv.kept {t':Nat} (I:Inv X pins σ H s) (k:∀b u,s.heap.get? b=some u->h'.get? b=some u):Inv X pins σ H { s with heap:=h',toks:=t' }:=I.un (Un.kept k) (I.hok.kept k)
theorem Inv.laid {a:Addr} {o:HO} {t':Nat} (I:Inv X pins σ H s) (k:∀b u,s.heap.get? b=some u->h'.get? b=some u) (hp:s.heap.objs.size<=a) (new:z99 X.prog X.w (upd H a o) h' a o) :
  Inv X pins σ (upd H a o) { s with heap:=h',toks:=t' }:=I.un (Un.laid k hp (I.hok.fresh hp)) (I.hok.laid k hp new)
theorem Inv.write {x e:Addr} {o:HO} {t':Nat} (I:Inv X pins σ H s) (mu:Mut (H x)) (he:e=x\/H e=some (.own x)) (k:∀b u,b≠e->s.heap.get? b=some u->h'.get? b=some u) (heo:∃u,h'.get? e=some u)
  (new:z99 X.prog X.w (upd H x o) h' x o):Inv X pins σ (upd H x o) { s with heap:=h',toks:=t' }:=I.un (Un.write mu he k heo) (I.hok.write mu he k heo new)
theorem Inv.pins_of {pins':List (Addr×Obj)} (I:Inv X pins σ H s) (h:∀p∈pins',s.heap.get? p.1=some p.2/\H p.1=none/\p.1≠X.env.locals/\p.1∉X.fs/\∀v,p.2.data≠.cell v):Inv X pins' σ H s :=
 ⟨I.ok,I.os,I.bare,I.base,I.loc,I.cell,I.free,I.freeC,fun p hp=>(y10.mp hp).elim (fun z=>I.pin p (List.mem_append_left _ z)) (h p),I.hok,I.len⟩
theorem zig {N:List Str} (hN:N.Nodup) {i j:Nat} {x:Str} (a:N[i]?=some x) (b:N[j]?=some x):i=j:=by
 obtain⟨h1,e1⟩:=y0k.mp a
 obtain⟨h2,e2⟩:=y0k.mp b
 exact (List.getElem_inj hN).mp (e1.trans e2.symm)
theorem ze1 {M:Model} {A:Around} {E:Value->y04->Prop} {i:Nat} {x:Str} {v:V} {u:Value} {Q:Unit->y04->Prop} (I:Inv X pins σ H s) (hN:X.N.Nodup) (hi:X.N[i]?=some x) (hx:Loc X.env.scope x) (r:RelV v u)
  (h:∀s',Inv X pins (σ.set i (some v)) H s'->(∃a,Heap.SameBut a s.heap s'.heap/\(a=X.env.locals\/X.env.cells.lookup x=some a))->Q () s') (hf:X.fn x=true\/X.env.scope.names.lookup x=some .local:=by first|exact .inl rfl|exact .inr rfl|assumption):y0t M A (storeName X.env x u) Q E s:=by
 obtain⟨m,hn,hl⟩:=id I.loc
 have hcls:(X.env.scope.kind == .class || (X.env.scope.kind == .module && X.env.locals != X.env.globals))=false:=by rw[I.ok.kind];rfl
 have hiσ:i<σ.length:=by rw[I.len];exact (y0k.mp hi).1
 have cne:=I.cne
 have tracked:∀{a:Addr} {h':Heap},(∃o,s.heap.get? a=some o/\H a=none)->Heap.SameBut a s.heap h'->HOk X.prog X.w H h':=fun {a h'} ha hs b ob e=>by
  obtain⟨_,_,hfree⟩:=ha
  refine (I.hok b ob e).stay (fun c w' hc q=>(hs.2 c ?_).trans q) (fun _ q=>q) fun _ _ q=>q
  rintro rfl
  rcases hc with rfl|hc
  ·rw[hfree] at e;cases e
  ·rw[hfree] at hc;cases hc
 rcases hx with hk|hk
 ·refine wpAny_storeName_local hk hn (fun h' hn' hs=>?_) hcls
  obtain⟨oL,_,_,hoL,_⟩:=id hn
  refine h _ ⟨I.ok,I.os,I.bare,⟨fun b o e n hb hx=>?_,fun b o e n hb hx=>?_,I.base.free,fun b o e hx=>?_,I.base.tups,I.base.frzs,I.base.tbls⟩,⟨_,hn',fun j y v' e1 e2 e3=>?_⟩,fun y c e=>?_,I.free,I.freeC,fun p hp=>?_,tracked ⟨oL,hoL,I.free⟩ hs,by simpa using I.len⟩ ⟨_,hs,.inl rfl⟩
  ·exact (hs.2 b (y0x (y0w (y0c e) I.ok.above))).trans (I.base.keep b o e n hb hx)
  ·obtain⟨sl,e1⟩:=I.base.slot b o e n hb hx
   exact⟨sl,(hs.2 b (y0x (y0w (y0c e) I.ok.above))).trans e1⟩
  ·obtain⟨o',e1⟩:=I.base.there b o e hx
   exact⟨o',(hs.2 b (y0x (y0w (y0c e) I.ok.above))).trans e1⟩
  ·by_cases hj:j=i
   ·subst hj
    rw[hi] at e1;cases e1
    rw[List.getElem?_set_self hiσ] at e2
    cases e2
    exact⟨u,r,.inl ⟨hk,by simp⟩⟩
   ·rw[List.getElem?_set_ne (Ne.symm hj)] at e2
    obtain⟨u',r',q⟩:=hl j y v' e1 e2 e3
    refine⟨u',r',?_⟩
    rcases q with ⟨k,e⟩|⟨k,c,e,z⟩
    ·refine .inl ⟨k,?_⟩
     have:y≠x:=fun e=>hj (zig hN e1 (e▸hi))
     simp[this,e]
    ·exact .inr ⟨k,c,e,z.sameBut hs (cne y c e)⟩
  ·obtain⟨w',z⟩:=I.cell y c e
   exact⟨w',z.sameBut hs (cne y c e)⟩
  ·obtain⟨e,n,ne,nf,d⟩:=I.pin p hp
   exact⟨(hs.2 p.1 ne).trans e,n,ne,nf,d⟩
 ·have hfn:X.fn x=true:=by
   rcases hf with z|z
   ·exact z
   ·rw[z] at hk;cases hk
  obtain⟨c,hc⟩:=I.ok.has x (.inl hk)
  obtain⟨w',z⟩:=I.cell x c hc
  refine wpAny_storeName_cell I.ok.kind hk hc z (fun h' hc' hs=>?_)
  obtain⟨oc,hoc,hocd⟩:=id z
  refine h { s with heap:=h' } ⟨I.ok,I.os,I.bare,⟨fun b o e n hb hx=>?_,fun b o e n hb hx=>?_,I.base.free,fun b o e hx=>?_,I.base.tups,I.base.frzs,I.base.tbls⟩,⟨m,hn.sameBut hs (Ne.symm (cne x c hc)),fun j y v' e1 e2 e3=>?_⟩,fun y c' e=>?_,I.free,I.freeC,fun p hp=>?_,tracked ⟨oc,hoc,I.freeC x c hc⟩ hs,by simpa using I.len⟩ ⟨c,hs,.inr hc⟩
  ·exact (hs.2 b (y0x (y0w (y0c e) (I.ok.cab x c hfn hc)))).trans (I.base.keep b o e n hb hx)
  ·obtain⟨sl,e1⟩:=I.base.slot b o e n hb hx
   exact⟨sl,(hs.2 b (y0x (y0w (y0c e) (I.ok.cab x c hfn hc)))).trans e1⟩
  ·obtain⟨o',e1⟩:=I.base.there b o e hx
   exact⟨o',(hs.2 b (y0x (y0w (y0c e) (I.ok.cab x c hfn hc)))).trans e1⟩
  ·by_cases hj:j=i
   ·subst hj
    rw[hi] at e1;cases e1
    rw[List.getElem?_set_self hiσ] at e2
    cases e2
    exact⟨u,r,.inr ⟨.inl hk,c,hc,hc'⟩⟩
   ·rw[List.getElem?_set_ne (Ne.symm hj)] at e2
    obtain⟨u',r',q⟩:=hl j y v' e1 e2 e3
    refine⟨u',r',?_⟩
    rcases q with q|⟨k,c',e,z'⟩
    ·exact .inl q
    ·refine .inr ⟨k,c',e,z'.sameBut hs ?_⟩
     rintro rfl
     exact hj (zig hN e1 (I.ok.inj _ _ _ e hc▸hi))
  ·by_cases hcc:c'=c
   ·subst hcc;exact⟨_,hc'⟩
   ·obtain⟨w2,z2⟩:=I.cell y c' e
    exact⟨w2,z2.sameBut hs hcc⟩
  ·obtain⟨e,n,ne,nf,d⟩:=I.pin p hp
   refine⟨(hs.2 p.1 ?_).trans e,n,ne,nf,d⟩
   intro q
   rw[q,hoc] at e
   have q':oc=p.2:=y28 e
   exact d w' (by rw[<- q'];exact hocd)
theorem zi9 {M:Model} {A:Around} {E:Value->y04->Prop} {i:Nat} {x:Str} {v:V} {u:Value} {Q:Unit->y04->Prop} (I:Inv X pins σ H s) (hN:X.N.Nodup) (hi:X.N[i]?=some x) (hx:Loc X.env.scope x) (r:RelV v u)
  (h:∀s',Inv X pins (σ.set i (some v)) H s'->Q () s') (hf:X.fn x=true\/X.env.scope.names.lookup x=some .local:=by first|exact .inl rfl|exact .inr rfl|assumption):y0t M A (storeName X.env x u) Q E s :=
 ze1 I hN hi hx r (fun s' I' _=>h s' I') hf
end
abbrev XK:=Value->Option Addr->Hp->Prop
abbrev St:=List (Option V)
abbrev VK:=V->Hp->Prop
abbrev TE:=St->Hp->VK->Prop
abbrev TT:=St->Hp->(Bool->Hp->Prop)->Prop
abbrev TA:=St->Hp->(List V->Hp->Prop)->Prop
structure Ends where
 nx:St->Hp->Prop
 rt:VK
 bk:St->Hp->Prop:=fun _ _=>False
 ct:St->Hp->Prop:=fun _ _=>False
abbrev TS:=Ends->St->Hp->Prop
def EP (X:Cx) (pins:List (Addr×Obj)) (σ:St) (Q:VK) (u:Value) (s':y04):Prop:=∃v H',Inv X pins σ H' s'/\RelV v u/\Q v H'
def TP (X:Cx) (pins:List (Addr×Obj)) (σ:St) (Q:Bool->Hp->Prop) (b:Bool) (s':y04):Prop:=∃H',Inv X pins σ H' s'/\Q b H'
def AP (X:Cx) (pins:List (Addr×Obj)) (σ:St) (Q:List V->Hp->Prop) (us:List Value) (s':y04):Prop:=∃vs H',Inv X pins σ H' s'/\Vals vs us/\Q vs H'
noncomputable def SP (X:Cx) (pins:List (Addr×Obj)) (D:Ends) (f:Flow) (s':y04):Prop :=
 match f with
 | .next=>∃σ' H',Inv X pins σ' H' s'/\D.nx σ' H'
 | .brk=>∃σ' H',Inv X pins σ' H' s'/\D.bk σ' H'
 | .cont=>∃σ' H',Inv X pins σ' H' s'/\D.ct σ' H'
 | .ret u=>∃v σ' H',Inv X pins σ' H' s'/\RelV v u/\D.rt v H'
noncomputable def PE (X:Cx) (e:Expr) (t:TE):Prop :=
 ∀(pins:List (Addr×Obj)) (s:y04) (σ:St) (H:Hp) (Q:VK),Inv X pins σ H s->t σ H Q->y0t (y2r X.prog X.w) X.A (eval e X.env) (EP X pins σ Q) X.xe s
noncomputable def PT (X:Cx) (e:Expr) (t:TT):Prop :=
 ∀(pins:List (Addr×Obj)) (s:y04) (σ:St) (H:Hp) (Q:Bool->Hp->Prop),Inv X pins σ H s->t σ H Q->y0t (y2r X.prog X.w) X.A (isTrue e X.env (eval e X.env)) (TP X pins σ Q) X.xe s
noncomputable def PW (X:Cx) (e:Expr) (t:TT):Prop :=
 ∀(whole:Sem Value) (pins:List (Addr×Obj)) (s:y04) (σ:St) (H:Hp) (Q:Bool->Hp->Prop),Inv X pins σ H s->t σ H Q->y0t (y2r X.prog X.w) X.A (isTrue e X.env whole) (TP X pins σ Q) X.xe s
theorem PW.pt {X:Cx} {e:Expr} {t:TT} (h:PW X e t):PT X e t:=h _
noncomputable def PA (X:Cx) (es:List Expr) (t:TA):Prop :=
 ∀(pos:Pos) (pins:List (Addr×Obj)) (s:y04) (σ:St) (H:Hp) (Q:List V->Hp->Prop),Inv X pins σ H s->t σ H Q->y0t (y2r X.prog X.w) X.A (spliced (y2c pos (y0a es X.env))) (AP X pins σ Q) X.xe s
noncomputable def PS (X:Cx) (st:Stmt) (t:TS):Prop :=
 ∀(pins:List (Addr×Obj)) (s:y04) (σ:St) (H:Hp) (D:Ends),Inv X pins σ H s->t D σ H->y0t (y2r X.prog X.w) X.A (exec st X.env) (SP X pins D) X.xe s
noncomputable def PSs (X:Cx) (st:List Stmt) (t:TS):Prop :=
 ∀(pins:List (Addr×Obj)) (s:y04) (σ:St) (H:Hp) (D:Ends),Inv X pins σ H s->t D σ H->y0t (y2r X.prog X.w) X.A (execs st X.env) (SP X pins D) X.xe s
theorem thn {α:Type} {t:Sem α} {Q Q':α->y04->Prop} {M:Model} {A:Around} {E:Value->y04->Prop} {s:y04} (h:y0t M A t Q E s) (hQ:∀a s,Q a s->Q' a s):y0t M A t Q' E s:=y1b h hQ fun _ _ x=>x
end L2
namespace L2
open PySem PySem.Spec PyProof.Rows
section
variable {X:Cx}
def tVar (i:Nat):TE:=fun σ H Q=>∃v,σ[i]?=some (some v)/\Q v H
def tC (v:V):TE:=fun _ H Q=>Q v H
theorem ztv {i:Nat} {x:Str} {pos:Pos} (hN:X.N[i]?=some x) (hv:Vis X.env.scope x) (hd:(x == ("__debug__":Str))=false:=by decide) (hcd:(x == ("__classdict__":Str))=false:=by decide):PE X (.Name x pos) (tVar i):=by
 intro pins s σ H Q I h
 obtain⟨v,e,h⟩:=h
 obtain⟨m,hn,hl⟩:=I.loc
 obtain⟨u,r,l⟩:=hl i x v hN e hv
 have fin:EP X pins σ Q u s:=⟨v,H,I,r,h⟩
 rcases l with ⟨hk,hm⟩|⟨hk,c,hc,hcell⟩
 ·exact wpAny_Name (wpAny_loadName_local I.ok.kind hk hn hm fin) hd
 ·rcases hk with hk|hk
  ·exact wpAny_Name (wpAny_loadName_cell I.ok.kind hk hc hcell fin) hd
  ·exact wpAny_Name (wpAny_loadName_free I.ok.kind hk hc hcell fin hcd) hd
theorem zu2 {i j pos}:PE X (.Constant (.int i) j pos) (tC (.int i)):=fun _ _ _ H _ I h=>wpAny_Constant_int ⟨.int i,H,I.tok _,⟨_,rfl⟩,h⟩
theorem zw6 {b j pos}:PE X (.Constant (.bool b) j pos) (tC (.bl b)):=fun _ _ _ H _ I h=>Constant_bool ⟨.bl b,H,I,rfl,h⟩
theorem ztz {j pos}:PE X (.Constant .none j pos) (tC .non):=fun _ _ _ H _ I h=>Constant_none ⟨.non,H,I,rfl,h⟩
theorem ztx {x j pos}:PE X (.Constant (.str x) j pos) (tC (.str x)):=fun _ _ _ H _ I h=>Calls.Constant_str ⟨.str x,H,I.tok _,⟨_,rfl⟩,h⟩
def Gl (X:Cx) (x:Str):Prop:=X.env.kindOf x=some .globalImplicit
theorem zm4 {E:Value->y04->Prop} {pins:List (Addr×Obj)} {s:y04} {σ:St} {H:Hp} {x:Str} {u:Value} {pos:Pos} {Q:Value->y04->Prop} (I:Inv X pins σ H s) (hg:Gl X x) (hm:X.mg x=some u) (h:Q u s)
  (hd:(x == ("__debug__":Str))=false:=by decide):y0t (y2r X.prog X.w) X.A (eval (.Name x pos) X.env) Q E s :=
 Calls.Name_function_global I.ok.kind hg (Calls.loadGlobal_global (by rw[I.ok.glob];exact I.mod.glob.keeps I.bk) hm h) hd
theorem zas {E:Value->y04->Prop} {pins:List (Addr×Obj)} {s:y04} {σ:St} {H:Hp} {x:Str} {u:Value} {pos:Pos} {Q:Value->y04->Prop} (I:Inv X pins σ H s) (hg:Gl X x) (hm:X.mg x=none) (hv:bootBuiltins x=some u) (h:Q u s)
  (hn:x≠"__name__":=by decide) (hd:(x == ("__debug__":Str))=false:=by decide):y0t (y2r X.prog X.w) X.A (eval (.Name x pos) X.env) Q E s:=by
 obtain⟨mb,h1,h2⟩:=I.mod.blt
 exact Calls.Name_function_global I.ok.kind hg (Calls.loadGlobal_builtin (by rw[I.ok.glob];exact I.mod.glob.keeps I.bk) hm (by rw[I.ok.blt];exact h1.keeps I.bk) ((h2 x hn).trans hv) h) hd
theorem zlm {x:Str} {v:V} {u:Value} {pos:Pos} (hg:Gl X x) (hm:X.mg x=some u) (r:RelV v u) (hd:(x == ("__debug__":Str))=false:=by decide):PE X (.Name x pos) (tC v) :=
 fun _ _ _ H _ I h=>zm4 I hg hm ⟨v,H,I,r,h⟩ hd
variable {a b:Expr} {ta tb:TE} {pos:Pos}
noncomputable def PC (X:Cx) (op:CmpOp) (a b:Expr) (t:TE):Prop :=
 ∀(pins:List (Addr×Obj)) (s:y04) (σ:St) (H:Hp) (Q:VK),Inv X pins σ H s->t σ H Q ->
  y0t (y2r X.prog X.w) X.A (eval a X.env) (fun v s₁=>y0t (y2r X.prog X.w) X.A (eval b X.env) (fun u s₂=>y0t (y2r X.prog X.w) X.A (y2h op v u) (EP X pins σ Q) X.xe s₂) X.xe s₁) X.xe s
theorem zih (b:Expr) {op:CmpOp} (h:op≠.In) (h2:op≠.NotIn):y2l op b=false:=by
 have e1:(op == CmpOp.In)=false:=by cases op <;> first|rfl|exact absurd rfl h
 have e2:(op == CmpOp.NotIn)=false:=by cases op <;> first|rfl|exact absurd rfl h2
 cases b <;> simp[y2l,e1,e2]
def tIsN (ta:TE):TE:=fun σ H Q=>ta σ H fun x H1=>Q (.bl (decide (x=.non))) H1
def zvk (ta:TE):TE:=fun σ H Q=>ta σ H fun x H1=>Q (.bl (!decide (x=.non))) H1
theorem RelV.none_iff {x:V} {v:Value} (r:RelV x v):(v == Value.none)=decide (x=.non):=by
 cases x with
 | non=>cases r;rfl
 | bl _=>cases r;rfl
 | int _=>obtain⟨t,rfl⟩:=r;rfl
 | str _=>obtain⟨t,rfl⟩:=r;rfl
 | byt _=>obtain⟨t,rfl⟩:=r;rfl
 | flt _=>obtain⟨t,rfl⟩:=r;rfl
 | ref _=>cases r;rfl
 | ty _=>cases r;rfl
theorem zq5 {j pos'} (ha:PE X a ta):PC X .Is a (.Constant .none j pos') (tIsN ta):=by
 intro pins s σ H Q I h
 refine thn (ha pins s σ H _ I h) fun v s1 ⟨x,H1,I1,r1,q1⟩=>?_
 exact Constant_none (is_none_gen ⟨.bl _,H1,I1,by rw[r1.none_iff];rfl,q1⟩)
theorem zrm {j pos'} (ha:PE X a ta):PC X .IsNot a (.Constant .none j pos') (zvk ta):=by
 intro pins s σ H Q I h
 refine thn (ha pins s σ H _ I h) fun v s1 ⟨x,H1,I1,r1,q1⟩=>?_
 exact Constant_none (isnot_none_gen ⟨.bl _,H1,I1,by rw[r1.none_iff];rfl,q1⟩)
def tB (t:TE):TT:=fun σ H Q=>t σ H fun x H1=>∃c,x=.bl c/\Q c H1
theorem zu3 {op:CmpOp} {t:TE} (h:PC X op a b t) (h1:y2l op b=false:=by first|exact zih _ (by decide) (by decide)|rfl):PE X (.Compare a [op] [b] pos) t:=fun pins s σ H Q I hw=>wpAny_Compare1 (h pins s σ H Q I hw) h1
theorem zq1 {op:CmpOp} {t:TE} (h:PC X op a b t) (h1:y2l op b=false:=by first|exact zih _ (by decide) (by decide)|rfl):PT X (.Compare a [op] [b] pos) (tB t):=by
 intro pins s σ H Q I hw
 refine wpAny_isTrue_Compare1 (thn (h pins s σ H _ I hw) fun v s1 h1=>thn h1 fun u s2 h2=>thn h2 fun c s3 ⟨x,H1,I1,r1,q1⟩=>?_) h1
 obtain⟨d,rfl,q⟩:=q1
 cases r1
 exact y2m ⟨H1,I1,q⟩
theorem ztr {e:Expr} {t:TE} (h:PE X e t) (he:∀whole,isTrue e X.env whole=(do let v <- whole;standAt e.pos;holding [v] (truthy v)):=by intro _;rfl):PT X e (tB t):=by
 intro pins s σ H Q I hw
 refine isTrue_plain (thn (h pins s σ H _ I hw) fun v s1 ⟨x,H1,I1,r1,q1⟩=>?_) (he _)
 obtain⟨d,rfl,q⟩:=q1
 cases r1
 exact y2m ⟨H1,I1,q⟩
variable {tA tB':TT} {rest:List Expr}
def tAnd (t u:TT):TT:=fun σ H Q=>t σ H fun c H1=>if c=true then u σ H1 Q else Q false H1
def tOr (t u:TT):TT:=fun σ H Q=>t σ H fun c H1=>if c=true then Q true H1 else u σ H1 Q
def tNot (t:TT):TT:=fun σ H Q=>t σ H fun c H1=>Q (!c) H1
theorem zr9 (ha:PT X a tA):PW X (.BoolOp .And [a] pos) tA:=by
 intro wh pins s σ H Q I h
 refine isTrue_and (thn (ha pins s σ H Q I h) fun c s1 e=>?_)
 cases c with
 | true=>exact isTrue_and_nil e
 | false=>exact e
theorem ztp (ha:PT X a tA):PW X (.BoolOp .Or [a] pos) tA:=by
 intro wh pins s σ H Q I h
 refine isTrue_or (thn (ha pins s σ H Q I h) fun c s1 e=>?_)
 cases c with
 | false=>exact isTrue_or_nil e
 | true=>exact e
theorem ztq (ha:PT X a tA) (hb:PW X (.BoolOp .And (b::rest) pos) tB'):PW X (.BoolOp .And (a::b::rest) pos) (tAnd tA tB'):=by
 intro wh pins s σ H Q I h
 refine isTrue_and (thn (ha pins s σ H _ I h) fun c s1 ⟨H1,I1,q1⟩=>?_)
 cases c with
 | true=>exact hb wh pins s1 σ H1 Q I1 q1
 | false=>exact⟨H1,I1,q1⟩
theorem zw0 (ha:PT X a tA) (hb:PW X (.BoolOp .Or (b::rest) pos) tB'):PW X (.BoolOp .Or (a::b::rest) pos) (tOr tA tB'):=by
 intro wh pins s σ H Q I h
 refine isTrue_or (thn (ha pins s σ H _ I h) fun c s1 ⟨H1,I1,q1⟩=>?_)
 cases c with
 | true=>exact⟨H1,I1,q1⟩
 | false=>exact hb wh pins s1 σ H1 Q I1 q1
theorem zts (ha:PT X a tA):PT X (.UnaryOp .Not a pos) (tNot tA):=by
 intro pins s σ H Q I h
 exact isTrue_not (ha pins s σ H (fun c H1=>Q (!c) H1) I h)
def zvo (ta tb:TE):TE:=fun σ H Q=>ta σ H fun x H1=>∃c,x=.bl c/\if c=true then tb σ H1 Q else Q (.bl false) H1
def tOrV (ta tb:TE):TE:=fun σ H Q=>ta σ H fun x H1=>∃c,x=.bl c/\if c=true then Q (.bl true) H1 else tb σ H1 Q
def zvj (ta:TE):TE:=fun σ H Q=>ta σ H fun x H1=>∃c,x=.bl c/\Q (.bl (!c)) H1
theorem zq4 {op} {t:TE} (h:PE X a t):PE X (.BoolOp op [a] pos) t:=fun pins s σ H Q I hw=>BoolOp_one (h pins s σ H Q I hw)
theorem zu4 (ha:PE X a ta) (hb:PE X (.BoolOp .And (b::rest) pos) tb):PE X (.BoolOp .And (a::b::rest) pos) (zvo ta tb):=by
 intro pins s σ H Q I h
 refine BoolOp_and (thn (ha pins s σ H _ I h) fun v s1 ⟨x,H1,I1,r1,q1⟩=>?_)
 obtain⟨c,rfl,q1⟩:=q1
 cases r1
 refine y2m ?_
 cases c with
 | true=>exact hb pins s1 σ H1 Q I1 q1
 | false=>exact⟨.bl false,H1,I1,rfl,q1⟩
theorem zw4 (ha:PE X a ta) (hb:PE X (.BoolOp .Or (b::rest) pos) tb):PE X (.BoolOp .Or (a::b::rest) pos) (tOrV ta tb):=by
 intro pins s σ H Q I h
 refine BoolOp_or (thn (ha pins s σ H _ I h) fun v s1 ⟨x,H1,I1,r1,q1⟩=>?_)
 obtain⟨c,rfl,q1⟩:=q1
 cases r1
 refine y2m ?_
 cases c with
 | false=>exact hb pins s1 σ H1 Q I1 q1
 | true=>exact⟨.bl true,H1,I1,rfl,q1⟩
theorem zty (ha:PE X a ta):PE X (.UnaryOp .Not a pos) (zvj ta):=by
 intro pins s σ H Q I h
 refine UnaryOp_ (thn (ha pins s σ H _ I h) fun v s1 ⟨x,H1,I1,r1,q1⟩=>?_)
 obtain⟨c,rfl,q1⟩:=q1
 cases r1
 exact not_of (y2m ⟨.bl (!c),H1,I1,rfl,q1⟩)
def tIf (t:TT) (ta tb:TE):TE:=fun σ H Q=>t σ H fun c H1=>if c=true then ta σ H1 Q else tb σ H1 Q
theorem zoe {c:Expr} (hc:PT X c tA) (ha:PE X a ta) (hb:PE X b tb):PE X (.IfExp c a b pos) (tIf tA ta tb):=by
 intro pins s σ H Q I h
 refine wpAny_IfExp (thn (hc pins s σ H _ I h) fun d s1 ⟨H1,I1,q1⟩=>?_)
 cases d with
 | true=>exact ha pins s1 σ H1 Q I1 q1
 | false=>exact hb pins s1 σ H1 Q I1 q1
end
end L2
namespace L2
open PySem PySem.Spec PyProof.Rows
noncomputable def SqL (K:y00) (H:Hp) (a:Addr) (xs:List V):Prop :=
 Rd H a (.lst xs) \/
  ∃(o:Obj) (its:Array Value) (n:Nat),K.lookup a=some o/\o.cls=.type "list"/\o.dict=none/\o.data=.seq its n/\its.size<=y0j/\Vals xs its.toList
noncomputable def SqT (K:y00) (H:Hp) (a:Addr) (xs:List V):Prop :=
 Rd H a (.tup xs) \/
  ∃(o:Obj) (its:Array Value) (n:Nat),K.lookup a=some o/\o.cls=.type "tuple"/\o.data=.seq its n/\its.size<=y0j/\Vals xs its.toList
noncomputable def absV:Value->Option V
 | .none=>some .non
 | .bool b=>some (.bl b)
 | .int i _=>some (.int i)
 | .str x _=>some (.str x)
 | .bytes b _=>some (.byt b)
 | .float b _=>some (.flt b)
 | .ref a=>some (.ref a)
 | .type n=>some (.ty n)
 | _=>none
theorem RelV.abs {x:V} {u:Value} (r:RelV x u):absV u=some x:=by
 cases x with
 | non=>cases r;rfl
 | bl _=>cases r;rfl
 | int _=>obtain⟨t,rfl⟩:=r;rfl
 | str _=>obtain⟨t,rfl⟩:=r;rfl
 | byt _=>obtain⟨t,rfl⟩:=r;rfl
 | flt _=>obtain⟨t,rfl⟩:=r;rfl
 | ref _=>cases r;rfl
 | ty _=>cases r;rfl
theorem RelV.inj {x y:V} {u:Value} (r:RelV x u) (q:RelV y u):x=y:=y28 (r.abs.symm.trans q.abs)
theorem Vals.inj:∀{xs ys:List V} {us:List Value},Vals xs us->Vals ys us->xs=ys
 | _,_,_,.nil,.nil=>rfl
 | _,_,_,.cons r t,.cons r' t'=>by rw[r.inj r',Vals.inj t t']
section
variable {X:Cx} {pins:List (Addr×Obj)} {σ:St} {H:Hp} {s:y04} {a:Addr} {xs ys:List V}
theorem SqL.of {K:y00} (h:H a=some (.lst xs)):SqL K H a xs:=.inl (.inl h)
theorem SqT.of {K:y00} (h:H a=some (.tup xs)):SqT K H a xs:=.inl (.inl h)
theorem Inv.list (I:Inv X pins σ H s) (h:SqL X.K H a xs):∃its:List Value,Vals xs its/\PlainL s.heap a its.toArray/\xs.length<=y0j:=by
 rcases h with h|⟨o,its,n,hk,hc,hd,hs,hz,r⟩
 ·obtain⟨z,its,n,r,e⟩:=h.ok I.hok
  exact⟨its,r,⟨_,n,e,rfl,rfl,rfl⟩,z⟩
 ·refine⟨its.toList,r,⟨o,n,I.kIn a o hk,hc,hd,by simpa using hs⟩,?_⟩
  have e:=r.length
  simp only[y1u] at e
  omega
theorem Inv.tuple (I:Inv X pins σ H s) (h:SqT X.K H a xs):∃its:List Value,Vals xs its/\IsTup s.heap a its.toArray/\xs.length<=y0j:=by
 rcases h with h|⟨o,its,n,hk,hc,hs,hz,r⟩
 ·obtain⟨z,its,r,p⟩:=h.ok I.hok
  exact⟨its,r,p,z⟩
 ·refine⟨its.toList,r,⟨o,I.kIn a o hk,hc,n,by simpa using hs⟩,?_⟩
  have e:=r.length
  simp only[y1u] at e
  omega
theorem Inv.list_inj (I:Inv X pins σ H s) (h:SqL X.K H a xs) (h':SqL X.K H a ys):xs=ys:=by
 obtain⟨its,r,⟨o,n,e,_,_,d⟩,_⟩:=I.list h
 obtain⟨its',r',⟨o',n',e',_,_,d'⟩,_⟩:=I.list h'
 rw[e] at e';cases e'
 rw[d] at d'
 injection d' with d1 _
 have:its=its':=by simpa using congrArg Array.toList d1
 subst this
 exact r.inj r'
theorem Inv.tuple_inj (I:Inv X pins σ H s) (h:SqT X.K H a xs) (h':SqT X.K H a ys):xs=ys:=by
 obtain⟨its,r,⟨o,e,_,n,d⟩,_⟩:=I.tuple h
 obtain⟨its',r',⟨o',e',_,n',d'⟩,_⟩:=I.tuple h'
 rw[e] at e';cases e'
 rw[d] at d'
 injection d' with d1 _
 have:its=its':=by simpa using congrArg Array.toList d1
 subst this
 exact r.inj r'
end
abbrev Cx.wish (X:Cx) (E:Value->y04->Prop):Cx:={ X with xe:=E }
abbrev Cx.nox (X:Cx):Cx:=X.wish fun _ _=>False
theorem Cx.Ok.wish {X:Cx} (ok:X.Ok) (E:Value->y04->Prop):(X.wish E).Ok :=
 ⟨ok.mod,ok.kind,ok.glob,ok.blt,ok.above,ok.inj,ok.has,ok.cab,ok.hd,ok.frames,ok.stk,ok.exf,ok.bs,ok.bsz,ok.noex,ok.exfs,ok.funs,ok.frf⟩
theorem Cx.Ok.unwish {X:Cx} {E:Value->y04->Prop} (ok:(X.wish E).Ok):X.Ok :=
 ⟨ok.mod,ok.kind,ok.glob,ok.blt,ok.above,ok.inj,ok.has,ok.cab,ok.hd,ok.frames,ok.stk,ok.exf,ok.bs,ok.bsz,ok.noex,ok.exfs,ok.funs,ok.frf⟩
section
variable {X:Cx} {pins:List (Addr×Obj)} {σ:St} {H:Hp} {s:y04} {E:Value->y04->Prop}
theorem Inv.wish (I:Inv X pins σ H s) (E:Value->y04->Prop):Inv (X.wish E) pins σ H s:=⟨I.ok.wish E,I.os,I.bare,I.base,I.loc,I.cell,I.free,I.freeC,I.pin,I.hok,I.len⟩
theorem Inv.unwish (I:Inv (X.wish E) pins σ H s):Inv X pins σ H s:=⟨I.ok.unwish,I.os,I.bare,I.base,I.loc,I.cell,I.free,I.freeC,I.pin,I.hok,I.len⟩
theorem SP.unwish {D:Ends} {f:Flow} {s':y04} (h:SP (X.wish E) pins D f s'):SP X pins D f s':=by
 cases f with
 | next=>obtain⟨σ',H',I,q⟩:=h;exact⟨σ',H',I.unwish,q⟩
 | brk=>obtain⟨σ',H',I,q⟩:=h;exact⟨σ',H',I.unwish,q⟩
 | cont=>obtain⟨σ',H',I,q⟩:=h;exact⟨σ',H',I.unwish,q⟩
 | ret u=>obtain⟨v,σ',H',I,r,q⟩:=h;exact⟨v,σ',H',I.unwish,r,q⟩
theorem PSs.nox {st:List Stmt} {t:TS} (h:PSs X.nox st t):PSs X st t:=fun pins s σ H D I hw =>
 y1b (h pins s σ H D (I.wish _) hw) (fun _ _ q=>q.unwish) fun _ _ z=>y1s z
end
section
variable {X:Cx} {st:Stmt} {rest:List Stmt} {t u:TS} {e:Expr} {te:TE} {pos:Pos}
def zvl:TS:=fun D σ H=>D.nx σ H
def tSeq (t u:TS):TS:=fun D σ H=>t { D with nx:=u D } σ H
theorem zrc:PSs X [] zvl:=fun _ _ σ H _ I h=>wpAny_execs_nil ⟨σ,H,I,h⟩
theorem zo8 (h1:PS X st t) (h2:PSs X rest u):PSs X (st::rest) (tSeq t u):=by
 intro pins s σ H D I h
 refine wpAny_execs_cons (thn (h1 pins s σ H { D with nx:=u D } I h) fun f s1 q=>?_)
 cases f with
 | next =>
  obtain⟨σ',H',I',q⟩:=q
  exact h2 pins s1 σ' H' D I' q
 | ret v=>exact q
 | brk=>exact q
 | cont=>exact q
theorem zrb (h1:PS X st t):PSs X [st] t:=by
 intro pins s σ H D I h
 refine wpAny_execs_cons (thn (h1 pins s σ H D I h) fun f s1 q=>?_)
 cases f with
 | next=>exact wpAny_execs_nil q
 | ret v=>exact q
 | brk=>exact q
 | cont=>exact q
theorem Inv.quiet {pins:List (Addr×Obj)} {σ:St} {H:Hp} {s:y04} (I:Inv X pins σ H s):interactive X.env=false:=by simp[interactive,I.ok.kind]
def zvm (te:TE):TS:=fun D σ H=>te σ H fun _ H1=>D.nx σ H1
theorem zrd (he:PE X e te) (hs:swapsWith e none pos.line X.env=pure false:=by rfl):PS X (.Expr e pos) (zvm te):=by
 intro pins s σ H D I h
 exact wpAny_Expr_any (thn (he pins s σ H _ I h) fun v s1 ⟨x,H1,I1,r1,q1⟩=>⟨σ,H1,I1,q1⟩) I.quiet hs
def tRet (te:TE):TS:=fun D σ H=>te σ H D.rt
theorem zq3 (he:PE X e te):PS X (.Return (some e) pos) (tRet te):=by
 intro pins s σ H D I h
 exact wpAny_Return_some (thn (he pins s σ H _ I h) fun v s1 ⟨x,H1,I1,r1,q1⟩=>⟨x,σ,H1,I1,r1,q1⟩)
def tIfS (c:TT) (t u:TS):TS:=fun D σ H=>c σ H fun b H1=>if b=true then t D σ H1 else u D σ H1
theorem zw2 {c:Expr} {a b:List Stmt} {tc:TT} (hc:PT X c tc) (ha:PSs X a t) (hb:PSs X b u):PS X (.If c a b pos) (tIfS tc t u):=by
 intro pins s σ H D I h
 refine wpAny_If (thn (hc pins s σ H _ I h) fun d s1 ⟨H1,I1,q1⟩=>?_)
 cases d with
 | true=>exact ha pins s1 σ H1 D I1 q1
 | false=>exact hb pins s1 σ H1 D I1 q1
end
abbrev TG:=V->St->Hp->(St->Hp->Prop)->Prop
abbrev TGs:=List V->St->Hp->(St->Hp->Prop)->Prop
noncomputable def PG (X:Cx) (target:Expr) (t:TG):Prop :=
 ∀(pins:List (Addr×Obj)) (s:y04) (σ:St) (H:Hp) (v:V) (u:Value) (Q:St->Hp->Prop),Inv X pins σ H s->RelV v u->t v σ H Q ->
  y0t (y2r X.prog X.w) X.A (assign target X.env u) (fun _ s'=>∃σ' H',Inv X pins σ' H' s'/\Q σ' H') X.xe s
noncomputable def PGs (X:Cx) (ts:List Expr) (t:TGs):Prop :=
 ∀(pins:List (Addr×Obj)) (s:y04) (σ:St) (H:Hp) (vs:List V) (us:List Value) (Q:St->Hp->Prop),Inv X pins σ H s->Vals vs us->t vs σ H Q ->
  y0t (y2r X.prog X.w) X.A (assignInOrder ((y2n ts X.env).map (·.2)) us) (fun _ s'=>∃σ' H',Inv X pins σ' H' s'/\Q σ' H') X.xe s
section
variable {X:Cx} {pos:Pos}
def zux (i:Nat):TG:=fun v σ H Q=>Q (σ.set i (some v)) H
theorem zrj {i:Nat} {x:Str} (hN:X.N.Nodup) (hi:X.N[i]?=some x) (hx:Loc X.env.scope x) (hf:X.fn x=true\/X.env.scope.names.lookup x=some .local:=by first|exact .inl rfl|exact .inr rfl|assumption):PG X (.Name x pos) (zux i):=by
 intro pins s σ H v u Q I r h
 exact wpAny_assign_Name (zi9 I hN hi hx r (fun s' I'=>⟨_,H,I',h⟩) hf)
def gNil:TGs:=fun vs σ H Q=>vs=[]/\Q σ H
def zwi (t:TG) (u:TGs):TGs:=fun vs σ H Q=>∃v r,vs=v::r/\t v σ H fun σ' H'=>u r σ' H' Q
theorem zri:PGs X [] gNil:=by
 intro pins s σ H vs us Q I r h
 obtain⟨e,h⟩:=h
 subst e
 cases r
 exact assignInOrder_nil ⟨σ,H,I,h⟩
theorem zod {e:Expr} {es:List Expr} {t:TG} {u:TGs} (h1:PG X e t) (h2:PGs X es u)
  (hs:(y2n (e::es) X.env).map (·.2)=assign e X.env::(y2n es X.env).map (·.2):=by rfl):PGs X (e::es) (zwi t u):=by
 intro pins s σ H vs us Q I r h
 obtain⟨v,vr,e1,h⟩:=h
 subst e1
 cases r with
 | cons r rr =>
  rw[hs]
  refine assignInOrder_cons (thn (h1 pins s σ H _ _ _ I r h) fun _ s1 ⟨σ1,H1,I1,q1⟩=>?_)
  exact h2 pins s1 σ1 H1 _ _ Q I1 rr q1
def gTup (K:y00) (n:Nat) (t:TGs):TG:=fun v σ H Q=>∃a xs,v=.ref a/\SqT K H a xs/\xs.length=n/\t xs σ H Q
theorem ztu {es:List Expr} {k:Nat} {t:TGs} {n:Nat} (hc:X.calm=true) (h:PGs X es t)
  (hn:(y2n es X.env).length=n:=by rfl) (hst:(y2n es X.env).findIdx? (·.1)=none:=by rfl):PG X (.Tuple es k pos) (gTup X.K n t):=by
 intro pins s σ H v u Q I r hw
 obtain⟨a,xs,e1,hq,hl,hw⟩:=hw
 subst e1
 cases r
 obtain⟨its,rv,ht,hz⟩:=I.tuple hq
 refine assign_Tuple_tuple (I.ok.hd hc) ht (by simp[hn,<- hl,rv.length]) hst fun h' hx=>?_
 have I1:Inv X pins σ H { s with heap:=h' }:=I.kept (t':=s.toks) fun b o e=>hx b o (y0x (y0c e)) e
 exact h pins _ σ H xs _ Q I1 (by simpa using rv) hw
def tAsg (te:TE) (g:TG):TS:=fun D σ H=>te σ H fun x H1=>g x σ H1 D.nx
theorem zq2 {i:Nat} {x:Str} {e:Expr} {te:TE} {pos':Pos} (hN:X.N.Nodup) (hi:X.N[i]?=some x) (hx:Loc X.env.scope x) (he:PE X e te) (hs:swapsWith e (some (.Name x pos')) pos.line X.env=pure false:=by rfl) (hf:X.fn x=true\/X.env.scope.names.lookup x=some .local:=by first|exact .inl rfl|exact .inr rfl|assumption) :
  PS X (.Assign [.Name x pos'] e pos) (tAsg te (zux i)):=by
 intro pins s σ H D I h
 refine wpAny_Assign_Name (thn (he pins s σ H _ I h) fun v s1 ⟨y,H1,I1,r1,q1⟩=>?_) hs
 exact zi9 I1 hN hi hx r1 (fun s2 I2=>⟨_,H1,I2,q1⟩) hf
end
section
variable {X:Cx} {pos:Pos}
noncomputable def zt2 (c:TT) (tb:TS):TS:=fun D σ H=>∃W:Nat->St->Hp->Prop,(∃m,W m σ H)/\∀m σ H,W m σ H ->
 c σ H fun b H1=>if b=true then ∃N:St->Hp->Prop,(∀σ' H',N σ' H'->∃m',m'<m/\W m' σ' H')/\tb { D with nx:=N,ct:=N,bk:=D.nx } σ H1 else D.nx σ H1
theorem zo9 {c:Expr} {body:List Stmt} {tc:TT} {tb:TS} (hp:PassesOwn (y2r X.prog X.w) X.A X.env X.xe) (hc:PT X c tc) (hb:PSs X body tb):PS X (.While c body [] pos) (zt2 tc tb):=by
 intro pins s σ H D I h
 obtain⟨W,⟨m0,w0⟩,turn⟩:=h
 refine wpAny_While (codeAny_whileLoop (fun n s'=>∃σ' H',Inv X pins σ' H' s'/\W n σ' H') ?_ m0 ⟨σ,H,I,w0⟩)
 rintro n s1 ⟨σ1,H1,I1,w1⟩
 refine wpAny_passesOwn hp (thn (hc pins s1 σ1 H1 _ I1 (turn n σ1 H1 w1)) fun b s2 ⟨H2,I2,q2⟩=>?_)
 cases b with
 | true =>
  obtain⟨N,hN,q2⟩:=q2
  rw[if_pos rfl]
  refine wpAny_passesOwn hp (thn (hb pins s2 σ1 H2 _ I2 q2) fun f s3 q3=>?_)
  cases f with
  | next =>
   obtain⟨σ3,H3,I3,n3⟩:=q3
   obtain⟨m',hm,w3⟩:=hN σ3 H3 n3
   exact⟨m',hm,σ3,H3,I3,w3⟩
  | cont =>
   obtain⟨σ3,H3,I3,n3⟩:=q3
   obtain⟨m',hm,w3⟩:=hN σ3 H3 n3
   exact⟨m',hm,σ3,H3,I3,w3⟩
  | brk=>exact q3
  | ret v=>exact q3
 | false =>
  rw[if_neg y1y]
  exact wpAny_execs_nil ⟨σ1,H2,I2,q2⟩
end
structure It where
 go:Nat->Hp->Prop
 yld:Nat->Hp->V->Hp->Prop
 stop:Nat->Hp->Prop
noncomputable def FpOk (X:Cx) (pins:List (Addr×Obj)) (H:Hp) (b:Addr):Prop :=
 H b=none/\b≠X.env.locals/\b∉X.fs/\(b∈X.ex\/X.s₀.heap.objs.size<=b)/\(∀x c,X.env.cells.lookup x=some c->c≠b)/\∀p∈X.pn++pins,p.1≠b
theorem Inv.fpOk {X:Cx} {pins:List (Addr×Obj)} {σ:St} {H H':Hp} {s:y04} {b:Addr} (I:Inv X pins σ H s) (hb:s.heap.objs.size<=b) (hn:H' b=none):FpOk X pins H' b:=by
 refine⟨hn,y15 (y0w I.lt hb),I.nofs hb,.inr (y1l I.sz hb),fun x c e z=>?_,fun p hp z=>?_⟩
 ·obtain⟨v,q⟩:=I.cell x c e
  exact absurd (y0w q.lt (by rw[z];exact hb)) (Nat.lt_irrefl _)
 ·exact absurd (y0w (y0c (I.pin p hp).1) (by rw[z];exact hb)) (Nat.lt_irrefl _)
structure Turn (P:y0q) (w:World) (K:y00) (tg:Expr) (J:It) (fp:List Addr) (it:Addr) (tn:Nat->Heap->Prop):Prop where
 mem:it∈fp
 obj:∀i h,tn i h->∀b∈fp,∃o,h.get? b=some o/\∀v,o.data≠.cell v
 keep:∀i h h',tn i h->(∀b∈fp,∀o,h.get? b=some o->h'.get? b=some o)->tn i h'
 item:∀(X:Cx),X.prog=P->X.w=w->X.K=K->X.calm=true->∀(i:Nat) (pins:List (Addr×Obj)) (s:y04) (σ:St) (H:Hp) (E:Value->y04->Prop),Inv X pins σ H s->(∀b∈fp,FpOk X pins H b)->tn i s.heap->J.go i H ->
  y0t (y2r P w) X.A (pyNext (.ref it)) (fun r s1=>∃u,r=some u /\
   y0t (y2r P w) X.A (letOwnedTupleGo tg (.ref it) u) (fun _ s2=>∃x H',Inv X pins σ H' s2/\RelV x u/\J.yld i H x H'/\tn (i+1) s2.heap/\∀b∈fp,H' b=none) E s1) E s
 done:∀(X:Cx),X.prog=P->X.w=w->X.K=K->X.calm=true->∀(i:Nat) (pins:List (Addr×Obj)) (s:y04) (σ:St) (H:Hp) (E:Value->y04->Prop),Inv X pins σ H s->(∀b∈fp,FpOk X pins H b)->tn i s.heap->J.stop i H ->
  y0t (y2r P w) X.A (pyNext (.ref it)) (fun r s1=>r=none/\Inv X pins σ H s1) E s
 self:∀(A:Around) (i:Nat) (s:y04) (Q:Value->y04->Prop) (E:Value->y04->Prop),tn i s.heap->Q (.ref it) s->y0t (y2r P w) A (pyIter (.ref it)) Q E s
abbrev TI:=St->Hp->(It->Hp->Prop)->Prop
noncomputable def PIE (X:Cx) (pins:List (Addr×Obj)) (σ:St) (tg:Expr) (R:It->Hp->Prop) (itv:Value) (s2:y04):Prop :=
 ∃(it:Addr) (fp:List Addr) (tn:Nat->Heap->Prop) (J:It) (H':Hp),itv=.ref it/\Inv X pins σ H' s2/\Turn X.prog X.w X.K tg J fp it tn/\tn 0 s2.heap/\(∀b∈fp,FpOk X pins H' b)/\R J H'
noncomputable def PI (X:Cx) (tg iter:Expr) (wi:TI):Prop :=
 ∀(pins:List (Addr×Obj)) (s:y04) (σ:St) (H:Hp) (R:It->Hp->Prop),Inv X pins σ H s->wi σ H R ->
  y0t (y2r X.prog X.w) X.A (eval iter X.env) (fun v s1=>y0t (y2r X.prog X.w) X.A (pyIter v) (PIE X pins σ tg R) X.xe s1) X.xe s
theorem zp7 {M:Model} {A:Around} {E:Value->y04->Prop} {s:y04} {tg:Expr} {it:Addr} {u:Value} {o:Obj} {n:String} {vs:Array Value} {Q:Unit->y04->Prop} (ho:s.heap.get? it=some o) (hc:o.cls=.type n) (hd:o.data=.fields vs)
    (hn:["enumerate","zip","dict_itemiterator","dict_reverseitemiterator","odict_iterator","itertools.zip_longest","itertools.pairwise"].contains n=false) (hQ:Q () s):y0t M A (letOwnedTupleGo tg (.ref it) u) Q E s:=by
  unfold letOwnedTupleGo
  cases tg <;> first
    | exact y06 hQ
    | (cases u <;> first
        | exact y06 hQ
        | (refine y02 (wpAny_load ho ?_)
           rw[hc,hd]
           show y0t M A (if (["enumerate","zip","dict_itemiterator","dict_reverseitemiterator","odict_iterator","itertools.zip_longest","itertools.pairwise"].contains n && vs[0]? == some (rawInt _))=true then _ else _) Q E s
           rw[if_neg (by intro h;rw[hn,Bool.false_and] at h;cases h)]
           exact y06 hQ))
noncomputable def Itl (K:y00) (a:Addr):It :=
 ⟨fun i H=>∃xs x,SqL K H a xs/\xs[i]?=some x,fun i H x H'=>H'=H/\∀xs,SqL K H a xs->xs[i]?=some x,fun i H=>∃xs,SqL K H a xs/\xs.length<=i⟩
noncomputable def Itt (K:y00) (a:Addr):It :=
 ⟨fun i H=>∃xs x,SqT K H a xs/\xs[i]?=some x,fun i H x H'=>H'=H/\∀xs,SqT K H a xs->xs[i]?=some x,fun i H=>∃xs,SqT K H a xs/\xs.length<=i⟩
def Itr (lo:Int) (n:Nat):It:=⟨fun i _=>i<n,fun i H x H'=>H'=H/\x=.int (lo+i),fun i _=>n<=i⟩
theorem zkv {P:y0q} {w:World} {K:y00} {tg:Expr} (a it:Addr):Turn P w K tg (Itl K a) [it] it (fun i h=>h.IsListIter it a i) where
 mem:=by simp
 obj:=fun i h st b hb=>by
  have e:b=it:=by simpa using hb
  subst e
  obtain⟨o,e,c,d⟩:=st
  exact⟨o,e,fun v z=>by rw[d] at z;cases z⟩
 keep:=fun i h h' st k=>st.at fun o e=>k it (by simp) o e
 item:=by
  intro X hP hw hK hc i pins s σ H E I hf st hg
  subst hP hw hK
  obtain⟨xs,x,hq,hx⟩:=hg
  obtain⟨its,rv,p,hz⟩:=I.list hq
  obtain⟨u,hu,ru⟩:=rv.get hx
  obtain⟨f0,f1,f2,f3,f4,f5⟩:=hf it (by simp)
  refine wpAny_pyNext_list_item st p.isList (x:=u) (by simpa using hu) fun h' st' sb=>?_
  have I1:Inv X pins σ H { s with heap:=h' }:=I.turned (t':=s.toks) (fun b o hb e=>(sb.2 b hb).trans e) f0 f1 f3 f4 f5
  obtain⟨o,e,c,d⟩:=id st'
  exact⟨u,rfl,zp7 (s:={ s with heap:=h' }) e c d (by decide) ⟨x,H,I1,ru,⟨rfl,fun ys hy=>by rw[I.list_inj hy hq];exact hx⟩,st',fun b hb=>(hf b hb).1⟩⟩
 done:=by
  intro X hP hw hK hc i pins s σ H E I hf st hg
  subst hP hw hK
  obtain⟨xs,hq,hx⟩:=hg
  obtain⟨its,rv,p,hz⟩:=I.list hq
  obtain⟨f0,f1,f2,f3,f4,f5⟩:=hf it (by simp)
  have hl:=rv.length
  exact wpAny_pyNext_list_end (I.ok.hd hc) st p.isList (by simp;omega) fun h' eb=>⟨rfl,I.turned (t':=s.toks) (fun b o hb e=>eb b o hb e) f0 f1 f3 f4 f5⟩
 self:=fun _ _ _ _ _ st h=>wpAny_pyIter_listiter st h
theorem zj0 {P:y0q} {w:World} {K:y00} {tg:Expr} (a it:Addr):Turn P w K tg (Itt K a) [it] it (fun i h=>h.IsTupleIter it a i) where
 mem:=by simp
 obj:=fun i h st b hb=>by
  have e:b=it:=by simpa using hb
  subst e
  obtain⟨o,e,c,d⟩:=st
  exact⟨o,e,fun v z=>by rw[d] at z;cases z⟩
 keep:=fun i h h' st k=>st.at fun o e=>k it (by simp) o e
 item:=by
  intro X hP hw hK hc i pins s σ H E I hf st hg
  subst hP hw hK
  obtain⟨xs,x,hq,hx⟩:=hg
  obtain⟨its,rv,p,hz⟩:=I.tuple hq
  obtain⟨u,hu,ru⟩:=rv.get hx
  obtain⟨f0,f1,f2,f3,f4,f5⟩:=hf it (by simp)
  refine wpAny_pyNext_tuple_item st (show s.heap.IsTuple a its.toArray from p) (x:=u) (by simpa using hu) fun h' st' sb=>?_
  have I1:Inv X pins σ H { s with heap:=h' }:=I.turned (t':=s.toks) (fun b o hb e=>(sb.2 b hb).trans e) f0 f1 f3 f4 f5
  obtain⟨o,e,c,d⟩:=id st'
  exact⟨u,rfl,zp7 (s:={ s with heap:=h' }) e c d (by decide) ⟨x,H,I1,ru,⟨rfl,fun ys hy=>by rw[I.tuple_inj hy hq];exact hx⟩,st',fun b hb=>(hf b hb).1⟩⟩
 done:=by
  intro X hP hw hK hc i pins s σ H E I hf st hg
  subst hP hw hK
  obtain⟨xs,hq,hx⟩:=hg
  obtain⟨its,rv,p,hz⟩:=I.tuple hq
  obtain⟨f0,f1,f2,f3,f4,f5⟩:=hf it (by simp)
  have hl:=rv.length
  exact wpAny_pyNext_tuple_end (I.ok.hd hc) st (show s.heap.IsTuple a its.toArray from p) (by simp;omega) fun h' eb=>⟨rfl,I.turned (t':=s.toks) (fun b o hb e=>eb b o hb e) f0 f1 f3 f4 f5⟩
 self:=fun _ _ _ _ _ st h=>wpAny_pyIter_tupleiter st h
theorem zj1 {P:y0q} {w:World} {K:y00} {tg:Expr} (it:Addr) (lo:Int) (n:Nat):Turn P w K tg (Itr lo n) [it] it (fun i h=>IsRangeIter h it (lo+(i:Nat)*1) ((n:Int) - (i:Nat)) 1) where
 mem:=by simp
 obj:=fun i h st b hb=>by
  have e:b=it:=by simpa using hb
  subst e
  exact⟨_,st,fun v z=>by
   have z':Data.fields _=Data.cell v:=z
   cases z'⟩
 keep:=fun i h h' st k=>k it (by simp) _ st
 item:=by
  intro X hP hw hK hc i pins s σ H E I hf st hg
  subst hP hw hK
  obtain⟨f0,f1,f2,f3,f4,f5⟩:=hf it (by simp)
  have W:=Walks.range (prog:=X.prog) (w:=X.w) (I.ok.hd hc) it lo 1 n
  refine W.item i s _ _ hg st fun v h' tk hv st' kk=>?_
  obtain⟨t,rfl⟩:=hv
  have I1:Inv X pins σ H { s with heap:=h',toks:=tk }:=I.turned (fun b o hb e=>kk b o (by simpa using hb) e) f0 f1 f3 f4 f5
  refine⟨_,rfl,zp7 (s:={ s with heap:=h',toks:=tk }) (n:="range_iterator") st' rfl rfl (by decide) ⟨.int (lo+i),H,I1,⟨t,?_⟩,⟨rfl,rfl⟩,st',fun b hb=>(hf b hb).1⟩⟩
  rw[Int.mul_one]
 done:=by
  intro X hP hw hK hc i pins s σ H E I hf st hg
  subst hP hw hK
  obtain⟨f0,f1,f2,f3,f4,f5⟩:=hf it (by simp)
  exact wpAny_pyNext_range_end (I.ok.hd hc) st (by have:n<=i:=hg;omega) fun h' eb=>⟨rfl,I.turned (t':=s.toks) (fun b o hb e=>eb b o hb e) f0 f1 f3 f4 f5⟩
 self:=fun _ _ _ _ _ st h=>wpAny_pyIter_rangeiter st h
end L2
namespace L2
open PySem PySem.Spec PyProof.Rows
section
variable {X:Cx} {tg:Expr}
theorem zo3 {pins:List (Addr×Obj)} {σ:St} {H:Hp} {s:y04} {R:It->Hp->Prop} {E:Value->y04->Prop} {lo hi:Int} {t u v:Tok} {tk:Nat} (I:Inv X pins σ H s) (h1:-(2 ^ 62)<=lo) (h2:lo<2 ^ 62) (h3:-(2 ^ 62)<=hi) (h4:hi<2 ^ 62)
  (q:R (Itr lo (hi - lo).toNat) H):y0t (y2r X.prog X.w) X.A (pyIter (.ref s.heap.objs.size)) (PIE X pins σ tg R) E { s with heap:=s.heap.push { cls:=.type "range",data:=.fields #[.int lo t,.int hi u,.int 1 v] },toks:=tk }:=by
 refine wpAny_pyIter_range (IsRange.new ..) (small_one h1 h2 h3 h4) ?_
 have I1:Inv X pins σ H { s with heap:=s.heap.push { cls:=.type "range",data:=.fields #[.int lo t,.int hi u,.int 1 v] },toks:=tk }:=I.kept fun b o e=>y03 _ e
 refine⟨(s.heap.push { cls:=.type "range",data:=.fields #[.int lo t,.int hi u,.int 1 v] }).objs.size,[(s.heap.push { cls:=.type "range",data:=.fields #[.int lo t,.int hi u,.int 1 v] }).objs.size],_,_,H,rfl,
  I1.kept (t':=tk) fun b o e=>y03 _ e,zj1 _ lo (hi - lo).toNat,?_,fun b hb=>?_,q⟩
 ·have e1:lo+((0:Nat):Int)*1=lo:=by simp
  have e2:(((hi - lo).toNat:Nat):Int) - ((0:Nat):Int)=Builtin.Range.rangeSize lo hi 1:=by rw[rangeSize_one];split <;> omega
  show IsRangeIter _ _ (lo+((0:Nat):Int)*1) ((((hi - lo).toNat:Nat):Int) - ((0:Nat):Int)) 1
  rw[e1,e2]
  exact y0l _ rfl
 ·have e:b=(s.heap.push { cls:=.type "range",data:=.fields #[.int lo t,.int hi u,.int 1 v] }).objs.size:=by simpa using hb
  subst e
  exact I1.fpOk (y0o _) (I1.hok.fresh (y0o _))
def zwf (ta:TA):TI:=fun σ H R=>ta σ H fun vs H1=>∃j:Int,vs=[.int j]/\-(2 ^ 62)<=j/\j<2 ^ 62/\R (Itr 0 j.toNat) H1
theorem zll {a:Expr} {ta:TA} {p pos:Pos} (hg:Gl X "range") (hm:X.mg "range"=none) (ha:PA X [a] ta) (hs:y0a [a] X.env=[(false,eval a X.env)]:=by rfl):PI X tg (.Call (.Name "range" p) [a] [] pos) (zwf ta):=by
 intro pins s σ H R I h
 refine Call_ (zas I hg hm boot_range (y1p (thn (ha pos pins s σ H _ I h) fun us s1 ⟨vs,H1,I1,r1,q1⟩=>?_) hs rfl))
 obtain⟨j,e,q1,q2,q⟩:=q1
 subst e
 cases r1 with
 | cons r rr =>
  cases rr
  obtain⟨t,rfl⟩:=r
  exact call_range_1 (zo3 I1 (by omega) (by omega) q1 q2 (by simpa using q))
noncomputable def tFor (wi:TI) (g:TG) (tb:TS):TS:=fun D σ H=>wi σ H fun J H1=>∃W:Nat->Nat->St->Hp->Prop,(∃m,W 0 m σ H1)/\∀i m σ H,W i m σ H ->
 (J.stop i H/\D.nx σ H)\/(J.go i H/\∃N:St->Hp->Prop,(∀σ' H',N σ' H'->∃m',m'<m/\W (i+1) m' σ' H')/\∀x H',J.yld i H x H'->g x σ H' fun σ2 H2=>tb { D with nx:=N,ct:=N,bk:=D.nx } σ2 H2)
def zei (fp:List Addr) (h:Heap):List (Addr×Obj):=fp.filterMap fun b=>(h.get? b).map fun o=>(b,o)
theorem z7b {fp:List Addr} {h:Heap} {b:Addr} {o:Obj} (hb:b∈fp) (e:h.get? b=some o):(b,o)∈zei fp h:=List.mem_filterMap.mpr ⟨b,hb,by rw[e];rfl⟩
theorem zls {fp:List Addr} {h:Heap} {p:Addr×Obj} (hp:p∈zei fp h):p.1∈fp/\h.get? p.1=some p.2:=by
 obtain⟨b,hb,e⟩:=List.mem_filterMap.mp hp
 cases q:h.get? b with
 | none=>rw[q] at e;cases e
 | some o =>
  rw[q] at e
  have e':(b,o)=p:=y28 e
  subst e'
  exact⟨hb,q⟩
theorem Inv.pinned {pins:List (Addr×Obj)} {σ:St} {H:Hp} {s:y04} {fp:List Addr} (I:Inv X pins σ H s) (hf:∀b∈fp,FpOk X pins H b) (ho:∀b∈fp,∃o,s.heap.get? b=some o/\∀v,o.data≠.cell v):Inv X (pins++zei fp s.heap) σ H s :=
 I.pins_of fun p hp=>(y10.mp hp).elim (fun z=>I.pin p (y18 _ z)) fun z=>by
  obtain⟨hb,e⟩:=zls z
  obtain⟨f0,f1,f2,_⟩:=hf p.1 hb
  obtain⟨o,e',d⟩:=ho p.1 hb
  rw[e] at e';cases e'
  exact⟨e,f0,f1,f2,d⟩
theorem Inv.unpinned {pins pl:List (Addr×Obj)} {σ:St} {H:Hp} {s:y04} (I:Inv X (pins++pl) σ H s):Inv X pins σ H s:=I.pins_of fun p hp=>I.pin p (y18 _ (List.mem_append_left _ hp))
theorem ztt {iter:Expr} {body:List Stmt} {wi:TI} {g:TG} {tb:TS} {pos:Pos} (hp:PassesOwn (y2r X.prog X.w) X.A X.env X.xe) (hc:X.calm=true) (hi:PI X tg iter wi) (hg:PG X tg g) (hb:PSs X body tb)
  (hs:∀x,y2s iter X.env x=pure x:=by intro _;rfl):PS X (.For tg iter body [] pos) (tFor wi g tb):=by
 intro pins s σ H D I h
 refine wpAny_For (thn (hi pins s σ H _ I h) fun v s1 h1=>thn h1 fun itv s2 h2=>?_) hs
 obtain⟨it,fp,tn,J,H2,e,I2,T,st2,f2,W,⟨m0,w0⟩,turn⟩:=h2
 subst e
 have stat:∀{H':Hp},(∀b∈fp,H' b=none)->∀b∈fp,FpOk X pins H' b:=fun hn b hb=>⟨hn b hb,(f2 b hb).2⟩
 refine codeAny_forLoop_any (fun n s'=>∃i σ' H',Inv X pins σ' H' s'/\tn i s'.heap/\(∀b∈fp,H' b=none)/\W i n σ' H') ?_ m0 ⟨0,σ,H2,I2,st2,fun b hb=>(f2 b hb).1,w0⟩
 rintro n s3 ⟨i,σ3,H3,I3,st3,fr3,w3⟩
 rcases turn i n σ3 H3 w3 with ⟨stop,qn⟩|⟨go,N,hN,step⟩
 ·refine wpAny_passesOwn hp (thn (T.done X rfl rfl rfl hc i pins s3 σ3 H3 X.xe I3 (stat fr3) st3 stop) fun r s4 ⟨hr,I4⟩=>?_)
  subst hr
  exact wpAny_execs_nil ⟨σ3,H3,I4,qn⟩
 ·refine wpAny_passesOwn hp (thn (T.item X rfl rfl rfl hc i pins s3 σ3 H3 X.xe I3 (stat fr3) st3 go) fun r s4 ⟨u,hr,h4⟩=>?_)
  subst hr
  refine wpAny_passesOwn hp (thn h4 fun _ s5 ⟨x,H5,I5,r5,y5,st5,fr5⟩=>?_)
  have I5':=I5.pinned (stat fr5) (T.obj _ _ st5)
  refine wpAny_passesOwn hp (thn (hg _ s5 σ3 H5 x u _ I5' r5 (step x H5 y5)) fun _ s6 ⟨σ6,H6,I6,q6⟩=>?_)
  refine wpAny_passesOwn hp (thn (hb _ s6 σ6 H6 _ I6 q6) fun f s7 q7=>?_)
  have again:∀{σ7:St} {H7:Hp},Inv X (pins++zei fp s5.heap) σ7 H7 s7->N σ7 H7->∃m,m<n/\∃i σ' H',Inv X pins σ' H' s7/\tn i s7.heap/\(∀b∈fp,H' b=none)/\W i m σ' H':=fun {σ7 H7} I7 n7=>by
   obtain⟨m',hm,w7⟩:=hN σ7 H7 n7
   refine⟨m',hm,i+1,σ7,H7,I7.unpinned,T.keep _ _ _ st5 fun b hb o e=>(I7.pin (b,o) (y18 _ (y18 _ (z7b hb e)))).1,fun b hb=>?_,w7⟩
   obtain⟨o,e,d⟩:=T.obj _ _ st5 b hb
   exact (I7.pin (b,o) (y18 _ (y18 _ (z7b hb e)))).2.1
  cases f with
  | next=>obtain⟨σ7,H7,I7,n7⟩:=q7;exact again I7 n7
  | cont=>obtain⟨σ7,H7,I7,n7⟩:=q7;exact again I7 n7
  | brk=>obtain⟨σ7,H7,I7,q7⟩:=q7;exact⟨σ7,H7,I7.unpinned,q7⟩
  | ret v=>obtain⟨x7,σ7,H7,I7,r7,q7⟩:=q7;exact⟨x7,σ7,H7,I7.unpinned,r7,q7⟩
end
end L2
namespace L2
open PySem PySem.Spec PyProof.Rows
abbrev R2:=V->V->Hp->VK->Prop
noncomputable def OpR (X:Cx) (f:Value->Value->Sem Value) (r:R2):Prop :=
 ∀(pins:List (Addr×Obj)) (s:y04) (σ:St) (H:Hp) (x y:V) (v u:Value) (Q:VK),Inv X pins σ H s->RelV x v->RelV y u->r x y H Q ->
  y0t (y2r X.prog X.w) X.A (f v u) (EP X pins σ Q) X.xe s
noncomputable def UnR (X:Cx) (f:Value->Sem Value) (r:V->Hp->VK->Prop):Prop :=
 ∀(pins:List (Addr×Obj)) (s:y04) (σ:St) (H:Hp) (x:V) (v:Value) (Q:VK),Inv X pins σ H s->RelV x v->r x H Q ->
  y0t (y2r X.prog X.w) X.A (f v) (EP X pins σ Q) X.xe s
noncomputable def z7h (X:Cx) (f:Value) (r:List V->Hp->VK->Prop):Prop :=
 ∀(pins:List (Addr×Obj)) (s:y04) (σ:St) (H:Hp) (xs:List V) (us:List Value) (Q:VK),Inv X pins σ H s->Vals xs us->r xs H Q ->
  y0t (y2r X.prog X.w) X.A (call f us) (EP X pins σ Q) X.xe s
noncomputable def TruR (X:Cx) (r:V->Hp->(Bool->Hp->Prop)->Prop):Prop :=
 ∀(pins:List (Addr×Obj)) (s:y04) (σ:St) (H:Hp) (x:V) (v:Value) (Q:Bool->Hp->Prop),Inv X pins σ H s->RelV x v->r x H Q ->
  y0t (y2r X.prog X.w) X.A (truthy v) (TP X pins σ Q) X.xe s
def tOp (r:R2) (ta tb:TE):TE:=fun σ H Q=>ta σ H fun x H1=>tb σ H1 fun y H2=>r x y H2 Q
def tUn (r:V->Hp->VK->Prop) (ta:TE):TE:=fun σ H Q=>ta σ H fun x H1=>r x H1 Q
def rI (C:Int->Int->Prop) (g:Int->Int->V):R2:=fun x y H Q=>∃i j,x=.int i/\y=.int j/\C i j/\Q (g i j) H
def rI0 (g:Int->Int->V):R2:=fun x y H Q=>∃i j,x=.int i/\y=.int j/\Q (g i j) H
def rU (g:Int->V):V->Hp->VK->Prop:=fun x H Q=>∃i,x=.int i/\Q (g i) H
section
variable {X:Cx} {a b c:Expr} {ta tb tc:TE} {pos:Pos}
theorem binT (ha:PE X a ta) (hb:PE X b tb) {pins:List (Addr×Obj)} {s:y04} {σ:St} {H:Hp} {R:V->V->Hp->Prop} (I:Inv X pins σ H s)
  (h:ta σ H fun x H1=>tb σ H1 fun y H2=>R x y H2) {Q:Value->y04->Prop} {f:Value->Value->Sem Value}
  (hf:∀v u s2 x y H2,Inv X pins σ H2 s2->RelV x v->RelV y u->R x y H2->y0t (y2r X.prog X.w) X.A (f v u) Q X.xe s2) :
  y0t (y2r X.prog X.w) X.A (eval a X.env) (fun v s₁=>y0t (y2r X.prog X.w) X.A (eval b X.env) (fun u s₂=>y0t (y2r X.prog X.w) X.A (f v u) Q X.xe s₂) X.xe s₁) X.xe s:=by
 refine thn (ha pins s σ H _ I h) fun v s1 ⟨x,H1,I1,r1,q1⟩=>?_
 refine thn (hb pins s1 σ H1 _ I1 q1) fun u s2 ⟨y,H2,I2,r2,q2⟩=>?_
 exact hf v u s2 x y H2 I2 r1 r2 q2
theorem zd2 {op:Operator} {r:R2} (ho:OpR X (y2p op) r) (ha:PE X a ta) (hb:PE X b tb):PE X (.BinOp a op b pos) (tOp r ta tb):=by
 intro pins s σ H Q I h
 exact wpAny_BinOp (binT ha hb I h fun v u s2 x y H2 I2 rx ry q=>ho pins s2 σ H2 x y v u Q I2 rx ry q)
theorem zw3 {op:UnaryOp} {r:V->Hp->VK->Prop} (ho:UnR X (unaryOp op) r) (ha:PE X a ta):PE X (.UnaryOp op a pos) (tUn r ta):=by
 intro pins s σ H Q I h
 exact UnaryOp_ (thn (ha pins s σ H _ I h) fun v s1 ⟨x,H1,I1,r1,q1⟩=>ho pins s1 σ H1 x v Q I1 r1 q1)
theorem opI {f:Value->Value->Sem Value} {C:Int->Int->Prop} {g:Int->Int->Int}
  (rule:∀(i j:Int) (t u:Tok) (s:y04) (Q:Value->y04->Prop) (E:Value->y04->Prop),C i j->Q (.int (g i j) s.toks) { s with toks:=s.toks+1 }->y0t (y2r X.prog X.w) X.A (f (.int i t) (.int j u)) Q E s) :
  OpR X f (rI C fun i j=>.int (g i j)):=by
 intro pins s σ H x y v u Q I rx ry h
 obtain⟨i,j,rfl,rfl,hc,q⟩:=h
 obtain⟨t,rfl⟩:=rx
 obtain⟨t',rfl⟩:=ry
 exact rule i j t t' s _ _ hc ⟨.int (g i j),H,I.tok _,⟨_,rfl⟩,q⟩
theorem opI0 {f:Value->Value->Sem Value} {g:Int->Int->Int}
  (rule:∀(i j:Int) (t u:Tok) (s:y04) (Q:Value->y04->Prop) (E:Value->y04->Prop),Q (.int (g i j) s.toks) { s with toks:=s.toks+1 }->y0t (y2r X.prog X.w) X.A (f (.int i t) (.int j u)) Q E s) :
  OpR X f (rI0 fun i j=>.int (g i j)):=by
 intro pins s σ H x y v u Q I rx ry h
 obtain⟨i,j,rfl,rfl,q⟩:=h
 obtain⟨t,rfl⟩:=rx
 obtain⟨t',rfl⟩:=ry
 exact rule i j t t' s _ _ ⟨.int (g i j),H,I.tok _,⟨_,rfl⟩,q⟩
theorem opB0 {f:Value->Value->Sem Value} {g:Int->Int->Bool}
  (rule:∀(i j:Int) (t u:Tok) (s:y04) (Q:Value->y04->Prop) (E:Value->y04->Prop),Q (.bool (g i j)) s->y0t (y2r X.prog X.w) X.A (f (.int i t) (.int j u)) Q E s) :
  OpR X f (rI0 fun i j=>.bl (g i j)):=by
 intro pins s σ H x y v u Q I rx ry h
 obtain⟨i,j,rfl,rfl,q⟩:=h
 obtain⟨t,rfl⟩:=rx
 obtain⟨t',rfl⟩:=ry
 exact rule i j t t' s _ _ ⟨.bl (g i j),H,I,rfl,q⟩
def CDiv (i j:Int):Prop:=0<j/\j<1073741824
def CPow (i j:Int):Prop:=0<=j/\j<=1000000/\i.natAbs<2 ^ 64
def CMul (i j:Int):Prop:=(-(2 ^ 64)<i/\i<2 ^ 64)\/(-(2 ^ 64)<j/\j<2 ^ 64)
theorem CMul.ok {i j:Int} (h:CMul i j):IntMulOk i j:=by
 rcases h with ⟨h1,h2⟩|⟨h1,h2⟩
 ·exact .of_left (intBits_le_64 h1 h2)
 ·exact .of_right (intBits_le_64 h1 h2)
theorem zub:OpR X (y2p .Add) (rI0 fun i j=>.int (i+j)):=opI0 fun _ _ _ _ _ _ _ q=>add_int q
theorem zu6:OpR X (y2p .Sub) (rI0 fun i j=>.int (i - j)):=opI0 fun _ _ _ _ _ _ _ q=>sub_int q
theorem zu8:OpR X (y2p .Mult) (rI CMul fun i j=>.int (i*j)):=opI fun _ _ _ _ _ _ _ hc q=>mul_int q hc.ok
theorem zrs:OpR X (y2p .FloorDiv) (rI CDiv fun i j=>.int (i / j)):=opI fun i j _ _ _ _ _ hc q=>by
 have h1:(0:Int)<j:=hc.1
 have h2:j<1073741824:=hc.2
 exact floordiv_int (by omega) (by rw[Int.fdiv_eq_ediv_of_nonneg i (by omega)];exact q) (.inl (PyProof.noPylong_small (by omega)))
theorem zu9:OpR X (y2p .Mod) (rI (fun _ j=>0<j) fun i j=>.int (i % j)):=opI fun i j _ _ _ _ _ hc q=>by
 have h1:(0:Int)<j:=hc
 exact mod_int' (by omega) (by rw[Int.fmod_eq_emod_of_nonneg i (by omega)];exact q)
theorem zu7:OpR X (y2p .Pow) (rI CPow fun i j=>.int (i ^ j.toNat)):=opI fun _ _ _ _ _ _ _ hc q=>pow_int_small hc.1 hc.2.1 hc.2.2 q
theorem unI {f:Value->Sem Value} {g:Int->Int}
  (rule:∀(i:Int) (t:Tok) (s:y04) (Q:Value->y04->Prop) (E:Value->y04->Prop),Q (.int (g i) s.toks) { s with toks:=s.toks+1 }->y0t (y2r X.prog X.w) X.A (f (.int i t)) Q E s) :
  UnR X f (rU fun i=>.int (g i)):=by
 intro pins s σ H x v Q I rx h
 obtain⟨i,rfl,q⟩:=h
 obtain⟨t,rfl⟩:=rx
 exact rule i t s _ _ ⟨.int (g i),H,I.tok _,⟨_,rfl⟩,q⟩
theorem zsu:UnR X (unaryOp .USub) (rU fun i=>.int (-i)):=unI fun _ _ _ _ _ q=>neg_int q
end
section
variable {X:Cx} {a b c:Expr} {ta tb tc:TE} {pos:Pos}
theorem ziq {pins:List (Addr×Obj)} {σ:St} {H:Hp} {s:y04} {Q:VK} {k k':Bool} (I:Inv X pins σ H s) (q:Q (.bl k) H) (e:k=k'):EP X pins σ Q (.bool k') s:=by
 subst e
 exact⟨.bl k,H,I,rfl,q⟩
theorem zln:OpR X (y2h .Lt) (rI0 fun i j=>.bl (decide (i<j))):=opB0 fun _ _ _ _ _ _ _ q=>lt_int q
theorem zoh:OpR X (y2h .LtE) (rI0 fun i j=>.bl (decide (i<=j))):=opB0 fun _ _ _ _ _ _ _ q=>le_int q
theorem zrr:OpR X (y2h .Gt) (rI0 fun i j=>.bl (decide (j<i))):=opB0 fun _ _ _ _ _ _ _ q=>gt_int q
theorem zua:OpR X (y2h .GtE) (rI0 fun i j=>.bl (decide (j<=i))):=opB0 fun _ _ _ _ _ _ _ q=>ge_int q
theorem z6n:OpR X (y2h .Lt) (fun x y H Q=>∃i j,x=.str i/\y=.str j/\Q (.bl (decide (i.cps.toList<j.cps.toList))) H):=by
 intro pins s σ H x y v u Q I rx ry h
 obtain⟨i,j,rfl,rfl,q⟩:=h
 obtain⟨t,rfl⟩:=rx
 obtain⟨t',rfl⟩:=ry
 exact lt_str (ziq I q rfl)
theorem OpR.or {f:Value->Value->Sem Value} {r r':R2} (h:OpR X f r) (h':OpR X f r'):OpR X f (fun x y H Q=>r x y H Q\/r' x y H Q):=by
 intro pins s σ H x y v u Q I rx ry q
 rcases q with q|q
 ·exact h pins s σ H x y v u Q I rx ry q
 ·exact h' pins s σ H x y v u Q I rx ry q
theorem zq8 (b:Expr) {op:CmpOp} (h:op≠.In:=by decide) (h2:op≠.NotIn:=by decide):y2l op b=false:=by
 have e1:(op == CmpOp.In)=false:=by cases op <;> first|rfl|exact absurd rfl h
 have e2:(op == CmpOp.NotIn)=false:=by cases op <;> first|rfl|exact absurd rfl h2
 cases b <;> simp[y2l,e1,e2]
theorem zrk {op:CmpOp} {r:R2} (ho:OpR X (y2h op) r) (ha:PE X a ta) (hb:PE X b tb) (hm:y2l op b=false):PE X (.Compare a [op] [b] pos) (tOp r ta tb):=by
 intro pins s σ H Q I h
 exact wpAny_Compare1 (binT ha hb I h fun v u s2 x y H2 I2 rx ry q=>ho pins s2 σ H2 x y v u Q I2 rx ry q) hm
def zt3 (t:TE):TT:=fun σ H Q=>t σ H fun x H'=>∃k,x=.bl k/\Q k H'
theorem zra {op:CmpOp} {r:R2} (ho:OpR X (y2h op) r) (ha:PE X a ta) (hb:PE X b tb) (hm:y2l op b=false):PT X (.Compare a [op] [b] pos) (zt3 (tOp r ta tb)):=by
 intro pins s σ H Q I h
 refine wpAny_isTrue_Compare1 (thn (ha pins s σ H _ I h) fun v s1 ⟨x,H1,I1,r1,q1⟩=>thn (hb pins s1 σ H1 _ I1 q1) fun u s2 ⟨y,H2,I2,r2,q2⟩ =>
  thn (ho pins s2 σ H2 x y v u _ I2 r1 r2 q2) fun c s3 ⟨z,H3,I3,r3,k,e,q3⟩=>?_) hm
 subst e
 cases r3
 exact y2m ⟨H3,I3,q3⟩
noncomputable def zky (r r':R2) (ta tb tc:TE):TE:=fun σ H Q=>ta σ H fun x H1=>tb σ H1 fun y H2=>r x y H2 fun z H3=>∃k,z=.bl k /\
 (if k=true then tc σ H3 fun w' H4=>r' y w' H4 Q else Q (.bl false) H3)
theorem zof {op op':CmpOp} {r r':R2} (ho:OpR X (y2h op) r) (ho':OpR X (y2h op') r') (ha:PE X a ta) (hb:PE X b tb) (hc:PE X c tc)
  (hm:lastMarks [op,op'] [b,c]=false:=by with_unfolding_all rfl):PE X (.Compare a [op,op'] [b,c] pos) (zky r r' ta tb tc):=by
 intro pins s σ H Q I h
 refine Compare_chain (thn (ha pins s σ H _ I h) fun v s1 ⟨x,H1,I1,r1,q1⟩=>chain_link (thn (hb pins s1 σ H1 _ I1 q1) fun u s2 ⟨y,H2,I2,r2,q2⟩ =>
  thn (ho pins s2 σ H2 x y v u _ I2 r1 r2 q2) fun d s3 ⟨z,H3,I3,r3,k,e,q3⟩=>?_)) hm
 subst e
 cases r3
 refine y2m ?_
 cases k with
 | false=>exact ite_ff ⟨.bl false,H3,I3,rfl,q3⟩
 | true=>exact ite_tt (chain_last (thn (hc pins s3 σ H3 _ I3 q3) fun w' s4 ⟨z',H4,I4,r4,q4⟩=>ho' pins s4 σ H4 y z' u w' Q I4 r2 r4 q4))
theorem zo7 {op op':CmpOp} {r r':R2} (ho:OpR X (y2h op) r) (ho':OpR X (y2h op') r') (ha:PE X a ta) (hb:PE X b tb) (hc:PE X c tc)
  (hm:lastMarks [op,op'] [b,c]=false:=by with_unfolding_all rfl):PT X (.Compare a [op,op'] [b,c] pos) (zt3 (zky r r' ta tb tc)):=by
 intro pins s σ H Q I h
 refine isTrue_chain (thn (ha pins s σ H _ I h) fun v s1 ⟨x,H1,I1,r1,q1⟩=>test_link (thn (hb pins s1 σ H1 _ I1 q1) fun u s2 ⟨y,H2,I2,r2,q2⟩ =>
  thn (ho pins s2 σ H2 x y v u _ I2 r1 r2 q2) fun d s3 ⟨z,H3,I3,r3,k,e,q3⟩=>?_)) hm
 subst e
 cases r3
 refine y2m ?_
 cases k with
 | false =>
  obtain⟨k',e',q'⟩:=q3
  cases e'
  exact ite_ff ⟨H3,I3,q'⟩
 | true =>
  refine ite_tt (test_last (thn (hc pins s3 σ H3 _ I3 q3) fun w' s4 ⟨z',H4,I4,r4,q4⟩=>thn (ho' pins s4 σ H4 y z' u w' _ I4 r2 r4 q4) fun d' s5 ⟨z2,H5,I5,r5,k2,e2,q5⟩=>?_))
  subst e2
  cases r5
  exact y2m ⟨H5,I5,q5⟩
noncomputable def TruV (K:y00) (x:V) (H:Hp) (k:Bool):Prop :=
 match x with
 | .non=>k=false
 | .bl b=>k=b
 | .int i=>k=(i != 0)
 | .str y=>y.length<=y0j/\k=((y.length:Int) != 0)
 | .byt y=>y.size<=y0j/\k=((y.size:Int) != 0)
 | .ref p=>(∃xs,SqL K H p xs/\k=!xs.isEmpty)\/(∃xs,SqT K H p xs/\k=!xs.isEmpty)\/∃kvs,H p=some (.dK kvs)/\k=!kvs.isEmpty
 | _=>False
theorem zk1 {κ:Type} {kvs:List (κ×V)} {vs:List (κ×Value)} (r:KV kvs vs):(!vs.isEmpty)=!kvs.isEmpty:=by
 cases r <;> rfl
theorem zc8 {xs:List V} {its:List Value} (r:Vals xs its):(!its.toArray.isEmpty)=!xs.isEmpty:=by
 cases r <;> simp
theorem zc7:(y0j:Nat)<2 ^ 63:=by rw[sizeLine_eq];decide
theorem zsx:TruR X (fun x H Q=>∃k,TruV X.K x H k/\Q k H):=by
 intro pins s σ H x v Q I rx h
 obtain⟨k,e,q⟩:=h
 have hl:=zc7
 have hs:y0j=16777216:=sizeLine_eq
 cases x with
 | non =>
  cases rx
  have e':k=false:=e
  subst e'
  exact truthy_none ⟨H,I,q⟩
 | bl b =>
  cases rx
  have e':k=b:=e
  subst e'
  exact y2m ⟨H,I,q⟩
 | int i =>
  obtain⟨t,rfl⟩:=rx
  have e':k=(i != 0):=e
  subst e'
  exact PySem.P.truthy_int ⟨H,I,q⟩
 | str y =>
  obtain⟨t,rfl⟩:=rx
  obtain⟨hy,e'⟩:y.length<=y0j/\k=((y.length:Int) != 0):=e
  subst e'
  exact PySem.P.truthy_str (by omega) ⟨H,I.tok _,q⟩
 | byt y =>
  obtain⟨t,rfl⟩:=rx
  obtain⟨hy,e'⟩:y.size<=y0j/\k=((y.size:Int) != 0):=e
  subst e'
  exact PySem.W.truthy_bytes (by omega) ⟨H,I.tok _,q⟩
 | ref p =>
  cases rx
  have e':(∃xs,SqL X.K H p xs/\k=!xs.isEmpty)\/(∃xs,SqT X.K H p xs/\k=!xs.isEmpty)\/∃kvs,H p=some (.dK kvs)/\k=!kvs.isEmpty:=e
  rcases e' with ⟨xs,hx,e'⟩|⟨xs,hx,e'⟩|⟨kvs,hx,e'⟩
  ·subst e'
   obtain⟨its,r,pl,hz⟩:=I.list hx
   have hlen:=r.length
   exact wpAny_truthy_list pl.isList (by simp only[y0h];omega) ⟨H,I.tok _,by rw[zc8 r];exact q⟩
  ·subst e'
   obtain⟨its,r,pl,hz⟩:=I.tuple hx
   have hlen:=r.length
   exact truthy_tuple pl (by simp only[y0h];omega) ⟨H,I.tok _,by rw[zc8 r];exact q⟩
  ·subst e'
   obtain⟨hz,hS,vs,r,m⟩:kvs.length<=y0j/\(p == sysModules)=false/\∃vs,KV kvs vs/\s.heap.DictOf (zhd X.prog X.w) p vs:=I.hok p _ hx
   have hlen:kvs.length=vs.length:=Paired.length r
   exact wpAny_truthy_dict hS m (by omega) ⟨H,I.tok _,by rw[zk1 r];exact q⟩
 | _=>exact (show False from e).elim
theorem zo6 (ha:PE X a ta) (he:∀whole,isTrue a X.env whole=(do let v <- whole;standAt a.pos;holding [v] (truthy v))) :
  PT X a (fun σ H Q=>ta σ H fun x H'=>∃k,TruV X.K x H' k/\Q k H'):=by
 intro pins s σ H Q I h
 exact isTrue_plain (thn (ha pins s σ H _ I h) fun v s1 ⟨x,H1,I1,r1,q1⟩=>zsx pins s1 σ H1 x v Q I1 r1 q1) (he _)
theorem zjj:OpR X (y2p .Add) (fun x y H Q=>∃i j,x=.str i/\y=.str j/\i.length+j.length<=y0j/\Q (.str (i++j)) H):=by
 intro pins s σ H x y v u Q I rx ry h
 obtain⟨i,j,rfl,rfl,hz,q⟩:=h
 obtain⟨t,rfl⟩:=rx
 obtain⟨t',rfl⟩:=ry
 exact add_str (fun t' tk=>⟨.str (i++j),H,I.tok _,⟨_,rfl⟩,q⟩) hz
theorem vals1 {x:V} {us:List Value} (r:Vals [x] us):∃u,us=[u]/\RelV x u:=by
 cases r with
 | cons r1 r2=>cases r2;exact⟨_,rfl,r1⟩
theorem vals2 {x y:V} {us:List Value} (r:Vals [x,y] us):∃u w',us=[u,w']/\RelV x u/\RelV y w':=by
 cases r with
 | cons r1 r2 =>
  cases r2 with
  | cons r3 r4=>cases r4;exact⟨_,_,rfl,r1,r3⟩
theorem zn0 (hc:X.calm=true):z7h X (.builtin "max") (fun xs H Q=>∃i j,xs=[.int i,.int j]/\Q (.int (if j > i then j else i)) H):=by
 intro pins s σ H xs us Q I r h
 obtain⟨i,j,rfl,q⟩:=h
 obtain⟨u,w',rfl,⟨t,rfl⟩,⟨t',rfl⟩⟩:=vals2 r
 refine max_two_ints (I.ok.hd hc) fun h' tk k=>⟨_,H,I.kept k,?_,q⟩
 by_cases hj:j > i
 ·rw[if_pos hj,if_pos hj];exact⟨_,rfl⟩
 ·rw[if_neg hj,if_neg hj];exact⟨_,rfl⟩
theorem zmz (hc:X.calm=true):z7h X (.builtin "min") (fun xs H Q=>∃i j,xs=[.int i,.int j]/\Q (.int (if j<i then j else i)) H):=by
 intro pins s σ H xs us Q I r h
 obtain⟨i,j,rfl,q⟩:=h
 obtain⟨u,w',rfl,⟨t,rfl⟩,⟨t',rfl⟩⟩:=vals2 r
 refine min_two_ints (I.ok.hd hc) fun h' tk k=>⟨_,H,I.kept k,?_,q⟩
 by_cases hj:j<i
 ·rw[if_pos hj,if_pos hj];exact⟨_,rfl⟩
 ·rw[if_neg hj,if_neg hj];exact⟨_,rfl⟩
theorem zn1:z7h X (.type "int") (fun xs H Q=>(∃i,xs=[.int i]/\Q (.int i) H)\/∃k,xs=[.bl k]/\Q (.int (if k then 1 else 0)) H):=by
 intro pins s σ H xs us Q I r h
 rcases h with ⟨i,rfl,q⟩|⟨k,rfl,q⟩
 ·obtain⟨u,rfl,t,rfl⟩:=vals1 r
  exact call_int_int ⟨.int i,H,I,⟨_,rfl⟩,q⟩
 ·obtain⟨u,rfl,r1⟩:=vals1 r
  cases r1
  exact call_int_bool ⟨.int (if k then 1 else 0),H,I.tok _,⟨_,rfl⟩,q⟩
theorem zpk:z7h X (.builtin "ord") (fun xs H Q=>∃x,xs=[.str x]/\x.length=1/\Q (.int (x.cps.getD 0 0:Nat)) H):=by
 intro pins s σ H xs us Q I r h
 obtain⟨x,rfl,hz,q⟩:=h
 obtain⟨u,rfl,t,rfl⟩:=vals1 r
 exact ord_of_one hz ⟨.int _,H,I.tok _,⟨_,rfl⟩,q⟩
end
end L2
namespace L2
open PySem PySem.Spec PyProof.Rows
section
variable {prog:y0q} {w:World} {A:Around} {E:Value->y04->Prop} {s:y04} {K:y00} {x dx C f:Addr} {mA:Str->Option Value} {name:Str} {v:Value}
end
section
variable {P:y0q} {w:World} {H H':Hp} {h h':Heap} {a C dx:Addr} {fs fs':List (Str×V)}
end
section
variable {X:Cx} {pins:List (Addr×Obj)} {σ:St} {H:Hp} {s:y04} {a C dx:Addr} {fs:List (Str×V)} {f:Str} {v:V} {A:Around} {E:Value->y04->Prop}
end
section
variable {X:Cx} {o e value:Expr} {f:Str} {pos pos' tpos:Pos} {ta tv:TE}
end
section
variable {X:Cx} {pins:List (Addr×Obj)} {σ:St} {H:Hp} {s:y04} {A:Around} {E:Value->y04->Prop} {Q:Value->y04->Prop} {c:Value} {b:Bool}
end
end L2
namespace L2
open PySem PySem.Spec PyProof.Rows
structure Room (k:Nat) (A:Around):Prop where
 hd:A.handled=none
 dp:A.depth+3*k+5<recursionLimit
 un:A.units+16*k+200<cLine
 gd:A.guards=some []
theorem Room.mono {j k:Nat} {A:Around} (r:Room k A) (h:j<=k):Room j A:=⟨r.hd,by have:=r.dp;omega,by have:=r.un;omega,r.gd⟩
theorem Room.deeper {k:Nat} {A:Around} (r:Room (k+1) A) (env:Env):Room k (A.deeper env) :=
 ⟨r.hd,by have:=r.dp;show A.depth+1+3*k+5<_;omega,by have:=r.un;show A.units+3+16*k+200<_;omega,r.gd⟩
theorem Room.depth {k:Nat} {A:Around} (r:Room k A):A.depth<recursionLimit:=by have:=r.dp;omega
theorem Room.units {k:Nat} {A:Around} (r:Room k A):A.units+64<cLine:=by have:=r.un;omega
def tNil:TA:=fun _ H Q=>Q [] H
def tCons (ta:TE) (tr:TA):TA:=fun σ H Q=>ta σ H fun x H1=>tr σ H1 fun xs H2=>Q (x::xs) H2
section
variable {X:Cx} {e:Expr} {es:List Expr} {te:TE} {t:TA} {pos:Pos}
theorem z8b:PA X [] tNil:=fun _ _ _ _ H Q I h=>Calls.spliced_nil ⟨[],H,I,.nil,h⟩
theorem z5s (ha:PE X e te) (hr:PA X es t) (hs:y0a (e::es) X.env=(false,eval e X.env)::y0a es X.env:=by rfl):PA X (e::es) (tCons te t):=by
 intro pos pins s σ H Q I h
 rw[hs]
 show y0t _ _ (spliced ((false,eval e X.env)::y2c pos (y0a es X.env))) _ _ s
 refine Calls.spliced_cons (thn (ha pins s σ H _ I h) fun u s1 ⟨x,H1,I1,r1,q1⟩=>?_)
 exact thn (hr pos pins s1 σ H1 _ I1 q1) fun us s2 ⟨xs,H2,I2,r2,q2⟩=>⟨x::xs,H2,I2,.cons r1 r2,q2⟩
def tTup (t:TA):TE:=fun σ H Q=>t σ H fun xs H1=>xs.length<=y0j/\∀p,H1 p=none->Q (.ref p) (upd H1 p (.tup xs))
def tLst (t:TA):TE:=fun σ H Q=>t σ H fun xs H1=>xs.length<=y0j/\∀p,H1 p=none->Q (.ref p) (upd H1 p (.lst xs))
theorem ztw {x1} (h:PA X es t):PE X (.Tuple es x1 pos) (tTup t):=by
 intro pins s σ H Q I hq
 refine wpAny_Tuple_spliced (thn (h pos pins s σ H _ I hq) fun us s1 ⟨xs,H1,I1,r,z,q⟩=>⟨by rw[<- r.length];exact z,?_⟩)
 have hf:H1 s1.heap.objs.size=none:=I1.hok.fresh (y0o _)
 refine⟨.ref s1.heap.objs.size,upd H1 s1.heap.objs.size (.tup xs),I1.laid (t':=s1.toks) (fun b u e=>y03 _ e) (y0o _) ?_,rfl,q _ hf⟩
 exact⟨z,us,r,⟨_,y0l _ rfl,rfl,_,rfl⟩⟩
theorem zu0 (h:PA X es t):PE X (.List es pos) (tLst t):=by
 intro pins s σ H Q I hq
 refine wpAny_List_spliced (thn (h pos pins s σ H _ I hq) fun us s1 ⟨xs,H1,I1,r,z,q⟩=>⟨by rw[<- r.length];exact z,?_⟩)
 have hf:H1 s1.heap.objs.size=none:=I1.hok.fresh (y0o _)
 refine⟨.ref s1.heap.objs.size,upd H1 s1.heap.objs.size (.lst xs),I1.laid (t':=s1.toks) (fun b u e=>y03 _ e) (y0o _) ?_,rfl,q _ hf⟩
 exact⟨z,us,0,r,y0l _ rfl⟩
end
abbrev Sp:=List V->Hp->VK->XK->Prop
abbrev CXT:=List Env->Hp->y04->XK->Value->y04->Prop
structure Env0 (P:y0q) (w:World) (K:y00) (mg:Str->Option Value) (base:Heap) (A:Around) (outer:List Env) (s:y04) (H:Hp):Prop where
 frames:A.frames=some outer
 mod:Mod K mg base
 bs:∀b o,base.get? b=some o->s.heap.get? b=some o/\H b=none
 bsz:base.objs.size<=s.heap.objs.size
 funs:s.heap.FunFrames base outer
 frf:∀b∈frs outer,H b=none
 hok:HOk P w H s.heap
 bare:AllBare s.gens
noncomputable def CE (outer:List Env) (P:y0q) (w:World) (H:Hp) (s:y04) (Q:VK) (u:Value) (s':y04):Prop :=
 ∃v H',s'.os=s.os/\AllBare s'.gens/\Un (frs outer) [] H H' s.heap s'.heap/\HOk P w H' s'.heap/\RelV v u/\Q v H'
noncomputable def CR (CX:CXT) (outer:List Env) (P:y0q) (w:World) (H:Hp) (s:y04) (Q:VK) (E:XK) (r:Result) (s':y04):Prop :=
 match r with
 | .ok (.ret u)=>CE outer P w H s Q u s'
 | .ok _=>False
 | .error e=>CX outer H s E e s'
structure FnOk (P:y0q) (w:World) (K:y00) (mg:Str->Option Value) (base:Heap) (CX:CXT) (k:Nat) (f:Addr) (fd:y0b) (ps:List Str) (sp:Sp):Prop where
 len:∀vs H Q E,sp vs H Q E->vs.length=ps.length
 run:∀(A:Around) (outer:List Env) (s:y04) (H:Hp) (args:Args) (us:List Value) (vs:List V) (Q:VK) (E:XK),Room k A->Env0 P w K mg base A outer s H->BindsTo s fd args (ps.zip us)->Vals vs us->sp vs H Q E ->
  codeAny (y2r P w) A (.call (.ref f) args) (CR CX outer P w H s Q E) s
theorem FnOk.mono {P:y0q} {w:World} {K:y00} {mg:Str->Option Value} {base:Heap} {CX:CXT} {j k:Nat} {f:Addr} {fd:y0b} {ps:List Str} {sp:Sp} (F:FnOk P w K mg base CX j f fd ps sp) (h:j<=k) :
  FnOk P w K mg base CX k f fd ps sp:=⟨F.len,fun A outer s H args us vs Q E hr=>F.run A outer s H args us vs Q E (hr.mono h)⟩
theorem FnOk.imp {P:y0q} {w:World} {K:y00} {mg:Str->Option Value} {base:Heap} {CX:CXT} {k:Nat} {f:Addr} {fd:y0b} {ps:List Str} {sp sp':Sp} (F:FnOk P w K mg base CX k f fd ps sp)
  (h:∀vs H Q E,sp' vs H Q E->sp vs H Q E):FnOk P w K mg base CX k f fd ps sp' :=
 ⟨fun vs H Q E q=>F.len vs H Q E (h _ _ _ _ q),fun A outer s H args us vs Q E hr he hb hv hs=>F.run A outer s H args us vs Q E hr he hb hv (h _ _ _ _ hs)⟩
section
variable {X:Cx} {pins:List (Addr×Obj)} {σ:St} {H:Hp} {s s':y04}
theorem Inv.env0 (I:Inv X pins σ H s):Env0 X.prog X.w X.K X.mg X.base X.A X.stack s H :=
 ⟨I.ok.frames,I.ok.mod,I.bs,y1l I.ok.bsz I.sz,I.stack,I.stkFree,I.hok,I.bare⟩
theorem Inv.after {Q:VK} {u:Value} (I:Inv X pins σ H s) (h:CE X.stack X.prog X.w H s Q u s'):EP X pins σ Q u s':=by
 obtain⟨v,H',os,bare,un,hok,r,q⟩:=h
 obtain⟨hh,g,d,t,os'⟩:=s'
 obtain rfl:os'=s.os:=os
 exact⟨v,H',I.call (h':=hh) (g':=g) (d':=d) (t':=t) (ch:=[]) un hok bare (fun b z=>absurd z (by simp)),r,q⟩
end
def zvn (sp:Sp) (dvs:List V) (E:XK) (t:TA):TE:=fun σ H Q=>t σ H fun vs H1=>sp (vs++dvs) H1 Q E
def Binds (K:y00) (fd:y0b) (ps:List Str) (ds:List Value):Prop :=
 ∀(s:y04) (us:List Value),K.In s.heap->(us++ds).length=ps.length->BindsTo s fd ⟨us,[]⟩ (ps.zip (us++ds))
theorem Binds.all {K:y00} {fd:y0b} {ps:List Str} (h:∀us:List Value,us.length=ps.length->bindArgs fd ⟨us,[]⟩=pure (ps.zip us)):Binds K fd ps []:=fun s us _ hl=>by
 rw[y1t] at hl ⊢
 exact .of_eq (h us hl)
def Passes (CX:CXT) (X:Cx) (E:XK):Prop:=∀(pins:List (Addr×Obj)) (σ:St) (H:Hp) (s:y04) (e:Value) (s':y04),Inv X pins σ H s->CX X.stack H s E e s'->X.xe e s'
section
variable {X:Cx} {CX:CXT} {k:Nat} {f C:Addr} {fd:y0b} {ps:List Str} {sp:Sp} {dvs:List V} {ds:List Value} {E:XK} {x m:Str} {p pos apos:Pos} {e o:Expr} {es:List Expr} {ta:TE} {t:TA}
theorem zta {pins:List (Addr×Obj)} {σ:St} {H:Hp} {s:y04} {Q:VK} {us:List Value} {vs:List V} (F:FnOk X.prog X.w X.K X.mg X.base CX k f fd ps sp) (hr:Room k X.A) (hb:Binds X.K fd ps ds) (hd:Vals dvs ds) (hx:Passes CX X E)
  (I:Inv X pins σ H s) (r:Vals vs us) (h:sp (vs++dvs) H Q E):y0t (y2r X.prog X.w) X.A (call (.ref f) us) (EP X pins σ Q) X.xe s:=by
 have r2:Vals (vs++dvs) (us++ds):=r.append hd
 have hl:(us++ds).length=ps.length:=by rw[<- r2.length];exact F.len _ _ _ _ h
 refine wpAny_call (codeAny_mono (F.run X.A X.stack s H ⟨us,[]⟩ (us++ds) (vs++dvs) Q E hr I.env0 (hb s us I.kIn hl) r2 h) fun r s' hq=>?_)
 cases r with
 | error e=>exact hx pins σ H s e s' I hq
 | ok fl =>
  cases fl with
  | ret u=>exact I.after hq
  | next=>exact y1s hq
  | brk=>exact y1s hq
  | cont=>exact y1s hq
theorem zrl (F:FnOk X.prog X.w X.K X.mg X.base CX k f fd ps sp) (hr:Room k X.A) (hg:Gl X x) (hm:X.mg x=some (.ref f)) (hk:y08 X.K (.ref f)=true) (hb:Binds X.K fd ps ds) (hd:Vals dvs ds) (hx:Passes CX X E)
  (ha:PA X (e::es) t) (hdb:(x == ("__debug__":Str))=false:=by decide) (he:y0a (e::es) X.env=(false,eval e X.env)::y0a es X.env:=by rfl) (hpl:(y2c pos (y0a es X.env)).any (·.1)=false:=by rfl) :
  PE X (.Call (.Name x p) (e::es) [] pos) (zvn sp dvs E t):=by
 intro pins s σ H Q I h
 refine wpAny_Call_Name_kw (zm4 I hg hm ?_ hdb)
 refine PySem.W.callWith_K (h₀:=X.base) I.ok.mod.kin hk (thn (ha pos pins s σ H _ I h) fun us s1 ⟨vs,H1,I1,r,q⟩=>⟨I1.kIn,?_⟩) he hpl
 exact zta F hr hb hd hx I1 r q
end
section
variable {X:Cx} {CX:CXT} {k:Nat} {f C:Addr} {fd:y0b} {ps ks:List Str} {sp:Sp} {E:XK} {x m:Str} {p pos apos kpos:Pos} {e o:Expr} {es:List Expr} {kws:List Keyword} {te ta:TE} {t tk:TA} {nm:Option Str}
variable {g:List Value->List Value->List Value} {gV:List V->List V->List V}
end
structure FnScope (N P:List Str) (sc:Scope):Prop where
 kind:sc.kind=.function
 co:sc.isCoroutine=false
 gen:sc.isGenerator=false
 nd:N.Nodup
 pre:N.take P.length=P
 par:∀x∈P,sc.names.lookup x=some .local\/sc.names.lookup x=some .cell
 nofree:∀y∈sc.names,y.2≠.free
theorem zfk {kindOf:Str->Option y2q} {x:Str}:∀{binds:List (Str×Value)} {m:Str->Option Value},(∀v,(x,v)∉binds)->bindL kindOf binds m x=m x
  | [],_,_=>rfl
  | (n,v)::r,m,h=>by
    unfold bindL
    rw[zfk fun w hw=>h w (y05 _ hw)]
    split
    · have:x≠n:=by rintro rfl;exact h v y0e
      simp[this]
    · rfl
theorem zfm {kindOf:Str->Option y2q} {x:Str}:∀{binds:List (Str×Value)} {m:Str->Option Value},(∀v,(x,v)∉binds)->bindC kindOf binds m x=m x
  | [],_,_=>rfl
  | (n,v)::r,m,h=>by
    unfold bindC
    rw[zfm fun w hw=>h w (y05 _ hw)]
    split
    · rfl
    · have:x≠n:=by rintro rfl;exact h v y0e
      simp[this]
theorem zfl {kindOf:Str->Option y2q} {x:Str} {v:Value}:∀{P:List Str} {vs:List Value} {i:Nat} {m:Str->Option Value},P.Nodup->P[i]?=some x->vs[i]?=some v->kindOf x=some .local ->
  bindL kindOf (P.zip vs) m x=some v
 | [],_,_,_,_,h,_,_=>by simp at h
 | _::_,[],_,_,_,_,h,_=>by simp at h
 | p::P,w::vs,0,m,nd,h1,h2,hk=>by
  simp at h1 h2;subst h1;subst h2
  show bindL kindOf ((p,w)::P.zip vs) m p=_
  unfold bindL
  rw[zfk fun v hv=>(List.nodup_cons.mp nd).1 (List.of_mem_zip hv).1,if_pos hk]
  simp
 | p::P,w::vs,i+1,m,nd,h1,h2,hk=>by
  show bindL kindOf ((p,w)::P.zip vs) m x=_
  unfold bindL
  exact zfl (i:=i) (List.nodup_cons.mp nd).2 (by simpa using h1) (by simpa using h2) hk
theorem zfn {kindOf:Str->Option y2q} {x:Str} {v:Value}:∀{P:List Str} {vs:List Value} {i:Nat} {m:Str->Option Value},P.Nodup->P[i]?=some x->vs[i]?=some v->kindOf x≠some .local ->
  bindC kindOf (P.zip vs) m x=some v
 | [],_,_,_,_,h,_,_=>by simp at h
 | _::_,[],_,_,_,_,h,_=>by simp at h
 | p::P,w::vs,0,m,nd,h1,h2,hk=>by
  simp at h1 h2;subst h1;subst h2
  show bindC kindOf ((p,w)::P.zip vs) m p=_
  unfold bindC
  rw[zfm fun v hv=>(List.nodup_cons.mp nd).1 (List.of_mem_zip hv).1,if_neg hk]
  simp
 | p::P,w::vs,i+1,m,nd,h1,h2,hk=>by
  show bindC kindOf ((p,w)::P.zip vs) m x=_
  unfold bindC
  exact zfn (i:=i) (List.nodup_cons.mp nd).2 (by simpa using h1) (by simpa using h2) hk
def start (N:List Str) (vs:List V):St:=vs.map some++y0g (N.length - vs.length) none
noncomputable def cxOf (CX:CXT) (P:y0q) (w:World) (K:y00) (mg:Str->Option Value) (base:Heap) (N:List Str) (qual:Str) (scope:Scope) (f:Addr) (cd:Value) (A:Around) (outer:List Env) (s:y04) (H:Hp) (E:XK):Cx where
 prog:=P
 w:=w
 K:=K
 mg:=mg
 base:=base
 A:=A.deeper (envOfC qual scope s.heap.objs.size f cd)
 N:=N
 s₀:=s
 H₀:=H
 env:=envOfC qual scope s.heap.objs.size f cd
 outer:=outer
 stack:=envOfC qual scope s.heap.objs.size f cd::outer
 ex:=[]
 calm:=true
 fn:=fun _=>true
 pn:=[]
 xe:=fun e s'=>y0t (y2r P w) (A.deeper (envOfC qual scope s.heap.objs.size f cd)) (leaving (envOfC qual scope s.heap.objs.size f cd) e) (fun _ s''=>CX outer H s E e s'') (fun e' s''=>CX outer H s E e' s'') s'
theorem ziu {sc:Scope} {n:Nat} {x:Str} (h:sc.names.lookup x=some .cell):∃c,(cellsFrom n sc.names []).lookup x=some c:=by
 have q:=PySem.W.cellsFrom_some sc.names n [] (.inl h)
 exact Option.isSome_iff_exists.mp q
theorem zmd {CX:CXT} {P:y0q} {w:World} {K:y00} {mg:Str->Option Value} {base:Heap} {N ps:List Str} {qual:Str} {scope:Scope} {f:Addr} {cd:Value} {A:Around} {outer:List Env} {s s1:y04} {H:Hp} {E:XK} {us:List Value} {vs:List V}
  (S:FnScope N ps scope) (hd:A.handled=none) (e0:Env0 P w K mg base A outer s H) (hl:vs.length=ps.length) (r:Vals vs us)
  (x:InCallC s s.heap.objs.size (bindL (envOfC qual scope s.heap.objs.size f cd).kindOf (ps.zip us) fun _=>none) (cellsFrom (s.heap.objs.size+1) scope.names []) (bindC (envOfC qual scope s.heap.objs.size f cd).kindOf (ps.zip us) fun _=>none) s1) :
  Inv (cxOf CX P w K mg base N qual scope f cd A outer s H E) [] (start N vs) H s1:=by
 have hpl:ps.length<=N.length:=by have:=congrArg List.length S.pre;rw[List.length_take] at this;omega
 obtain⟨h1,tk,rfl,hk⟩:=x.done
 have noA:∀b:Addr,b∉(cxOf CX P w K mg base N qual scope f cd A outer s H E).ex:=fun b z=>absurd (show b∈([]:List Addr) from z) (by simp)
 refine⟨⟨e0.mod,S.kind,rfl,rfl,y0o _,fun y z c h1 h2=>?_,fun y hy=>?_,fun y c _ h=>?_,fun _=>hd,Around.frames_deeper e0.frames,.inr ⟨rfl,rfl⟩,fun b z=>absurd z (noA b),e0.bs,e0.bsz,fun b _ _=>noA b,fun b z=>absurd z (noA b),e0.funs,e0.frf⟩,
  rfl,e0.bare,Un.kept hk,⟨_,x.toInCall.ns,fun i y v h1 h2 h3=>?_⟩,fun y c h=>⟨_,x.cell y c h⟩,e0.hok.fresh (y0o _),fun y c h=>?_,fun p hp=>absurd (show p∈([]:List (Addr×Obj)) from hp) (by simp),e0.hok.kept hk,?_⟩
 ·exact name_of_addr x.apart (y25 h1) (y25 h2)
 ·have hy:scope.names.lookup y=some .cell\/scope.names.lookup y=some .free:=hy
  rcases hy with hy|hy
  ·exact ziu hy
  ·exact absurd rfl (S.nofree _ (y25 hy))
 ·exact Nat.le_of_lt (x.above y c (y25 h))
 ·have hi:i<vs.length:=by
   unfold start at h2
   by_cases hi:i<vs.length
   ·exact hi
   ·rw[y1j (by simpa using hi)] at h2
    rw[List.getElem?_replicate] at h2
    split at h2 <;> cases h2
  have ha:vs[i]?=some v:=by
   unfold start at h2
   rw[y1k (by simpa using hi),y14] at h2
   cases e:vs[i]? with
   | none=>rw[e] at h2;cases h2
   | some a=>rw[e] at h2;cases h2;rfl
  obtain⟨u,hu,rv⟩:=r.get ha
  have hp:ps[i]?=some y:=by
   rw[<- S.pre,List.getElem?_take_of_lt (by omega)];exact h1
  have ndP:ps.Nodup:=by rw[<- S.pre];exact S.nd.sublist (List.take_sublist _ _)
  refine⟨u,rv,?_⟩
  rcases S.par y (List.mem_of_getElem? hp) with k|k
  ·exact .inl ⟨k,zfl ndP hp hu k⟩
  ·obtain⟨c,e⟩:=ziu (n:=s.heap.objs.size+1) k
   refine .inr ⟨.inl k,c,e,?_⟩
   have q:=x.cell y c e
   rw[zfn ndP hp hu (by show scope.names.lookup y≠_;rw[k];decide)] at q
   exact q
 ·exact e0.hok.fresh (Nat.le_of_lt (x.above y c (y25 h)))
 ·unfold start
  show _=N.length
  rw[y1x,y13,List.length_replicate]
  omega
theorem zwj {CX:CXT} {P:y0q} {w:World} {K:y00} {mg:Str->Option Value} {base:Heap} {k:Nat} {f:Addr} {name qual:Str} {params:Arguments} {body:List Stmt} {scope:Scope} {dV kV doc pm cdv ct oc:Value} {an od:Option Addr}
  {osl:Array (Option Value)} {N ps:List Str} {sp:Sp} (lk:K.lookup f=some ⟨oc,od,.func (y0i name qual params body scope dV kV doc pm an cdv ct),osl⟩) (hcd:y0f K cdv qual=true) (S:FnScope N ps scope)
  (len:∀vs H Q E,sp vs H Q E->vs.length=ps.length)
  (hbody:∀(A:Around) (outer:List Env) (s:y04) (H:Hp) (vs:List V) (Q:VK) (E:XK),Room k (A.deeper (envOfC qual scope s.heap.objs.size f cdv))->sp vs H Q E ->
   ∃t,PSs (cxOf CX P w K mg base N qual scope f cdv A outer s H E) body t/\t { nx:=fun _ H'=>Q .non H',rt:=Q } (start N vs) H) :
  FnOk P w K mg base CX (k+1) f (y0i name qual params body scope dV kV doc pm an cdv ct) ps sp:=by
 refine⟨len,fun A outer s H args us vs Q E hr e0 hb r hsp=>?_⟩
 have hl:=len _ _ _ _ hsp
 have KX:K.In s.heap:=e0.mod.kin.keeps fun b o e=>(e0.bs b o e).1
 have lim:s.heap.NoLimit:=e0.mod.nolimit.keeps fun b o e=>(e0.bs b o e).1
 have hkind:∀y∈ps.zip us,scope.names.lookup y.1=some .local\/(scope.names.lookup y.1=some .cell/\((cellsFrom (s.heap.objs.size+1) scope.names []).lookup y.1).isSome=true):=fun⟨n,v⟩ hy=>by
  rcases S.par n (List.of_mem_zip hy).1 with q|q
  ·exact .inl q
  ·exact .inr ⟨q,PySem.W.cellsFrom_some _ _ _ (.inl q)⟩
 refine codeAny_call_function hr.depth (KX _ _ lk) rfl S.co S.gen rfl (PySem.W.codeRec_of KX hcd) (hb _ _ _ _ ?_)
 refine wpAny_newFunctionEnv_cells S.kind hkind fun env he s1 x=>?_
 subst he
 refine⟨lim.keeps x.toInCall.keep,codeAny_func ?_⟩
 obtain⟨t,ht,hq⟩:=hbody A outer s H vs Q E (hr.deeper _) hsp
 have I:Inv (cxOf CX P w K mg base N qual scope f cdv A outer s H E) [] (start N vs) H s1:=zmd S hr.hd e0 hl r x
 refine y1b (ht [] s1 (start N vs) H _ I hq) (fun fl s' hs=>?_) fun e s' hs=>hs
 have fin:∀{σ':St} {H':Hp} {v:V} {u:Value},Inv (cxOf CX P w K mg base N qual scope f cdv A outer s H E) [] σ' H' s'->RelV v u->Q v H'->CE outer P w H s Q u s' :=
  fun {σ' H' v u} J rv q=>⟨v,H',J.os,J.bare,J.base,J.hok,rv,q⟩
 cases fl with
 | ret u =>
  obtain⟨v,σ',H',J,rv,q⟩:=hs
  exact fin J rv q
 | next =>
  obtain⟨σ',H',J,q⟩:=hs
  exact fin (v:=V.non) (u:=Value.none) J rfl q
 | brk =>
  obtain⟨_,_,_,q⟩:=hs
  exact y1s q
 | cont =>
  obtain⟨_,_,_,q⟩:=hs
  exact y1s q
end L2
namespace L2
open PySem PySem.Spec PyProof.Rows
section
variable {X:Cx} {x:Str} {p pos:Pos} {e:Expr} {es:List Expr} {t:TA} {id T:String} {r:List V->Hp->VK->Prop}
def tCB (r:List V->Hp->VK->Prop) (t:TA):TE:=fun σ H Q=>t σ H fun vs H1=>r vs H1 Q
theorem z79 (hc:z7h X (.builtin id) r) (hg:Gl X x) (hm:X.mg x=none) (hv:bootBuiltins x=some (.builtin id)) (ha:PA X (e::es) t) (hn:x≠"__name__":=by decide) (hdb:(x == ("__debug__":Str))=false:=by decide)
  (he:y0a (e::es) X.env=(false,eval e X.env)::y0a es X.env:=by rfl) (hpl:(y2c pos (y0a es X.env)).any (·.1)=false:=by rfl):PE X (.Call (.Name x p) (e::es) [] pos) (tCB r t):=by
 intro pins s σ H Q I h
 refine wpAny_Call_Name_kw (zas I hg hm hv ?_ hn hdb)
 exact PyProof.Rows.callWith_builtin1 (thn (ha pos pins s σ H _ I h) fun us s1 ⟨vs,H1,I1,r1,q1⟩=>hc pins s1 σ H1 vs us Q I1 r1 q1) he hpl
theorem zai (hc:z7h X (.type T) r) (hg:Gl X x) (hm:X.mg x=none) (hv:bootBuiltins x=some (.type T)) (ha:PA X (e::es) t) (hn:x≠"__name__":=by decide) (hdb:(x == ("__debug__":Str))=false:=by decide)
  (he:y0a (e::es) X.env=(false,eval e X.env)::y0a es X.env:=by rfl) (hpl:(y2c pos (y0a es X.env)).any (·.1)=false:=by rfl):PE X (.Call (.Name x p) (e::es) [] pos) (tCB r t):=by
 intro pins s σ H Q I h
 refine wpAny_Call_Name_kw (zas I hg hm hv ?_ hn hdb)
 exact y1p (thn (ha pos pins s σ H _ I h) fun us s1 ⟨vs,H1,I1,r1,q1⟩=>hc pins s1 σ H1 vs us Q I1 r1 q1) he hpl
end
end L2
namespace HT
open PySem PyProof.Rows
section
open PySem.SeqAt
open PySem.AutoSeq1 (wpAny_loadPart')
open PySem.MeetsSeq PySem.MeetsSeq2 PySem.MeetsSeq3
end
section
variable {prog:y0q} {w:World} {A:Around} {E:Value->y04->Prop} {s:y04}
theorem cat_tup {t b:Addr} {vs ws:List Value} {Q:Value->y04->Prop} (ht:IsTup s.heap t vs.toArray) (hb:IsTup s.heap b ws.toArray) (hv:vs≠[])
  (h1:ws=[]->Q (.ref t) s) (h2:ws≠[]->Q (.ref s.heap.objs.size) { s with heap:=s.heap.push { cls:=.type "tuple",data:=.seq (vs++ws).toArray } })
  (hsz:vs.length+ws.length<=y0j):y0t (y2r prog w) A (y2p .Add (.ref t) (.ref b)) Q E s:=by
 obtain⟨⟨cls,dd,data,sl⟩,ho,hc,n,hd⟩:=id ht
 obtain⟨⟨cls2,dd2,data2,sl2⟩,ho2,hc2,n2,hd2⟩:=id hb
 simp only at hc hd hc2 hd2
 subst hc hd hc2 hd2
 have e:vs.toArray++ws.toArray=(vs++ws).toArray:=by simp
 by_cases hw:ws=[]
 ·exact concat_meets ⟨_,ho,rfl⟩ ⟨_,ho2,rfl⟩ noFill_tuple_add seq_tuple_add PySem.F.slot_tuple_add PySem.F.entry_tuple_add (PySem.F.args_tuple_add_2 _ _)
   (tuple_addW1 t b vs.toArray ws.toArray n n2 dd dd2 sl sl2 (by simpa using hv) (by simp[hw])) ⟨ho,ho2,h1 hw⟩
 ·refine concat_meets ⟨_,ho,rfl⟩ ⟨_,ho2,rfl⟩ noFill_tuple_add seq_tuple_add PySem.F.slot_tuple_add PySem.F.entry_tuple_add (PySem.F.args_tuple_add_2 _ _)
   (tuple_addW2 t b vs.toArray ws.toArray n n2 dd dd2 sl sl2 (by simpa using hv) (by simpa using hw) (by rw[y0h,y0h];exact hsz)) ⟨ho,ho2,?_⟩
  rw[e]
  exact h2 hw
def sIx (n d:Nat):Option Int->Nat
 | none=>d
 | some v=>if v<0 then (v+(n:Int)).toNat else min v.toNat n
theorem zea (n d:Nat) (hd:d<=n) (o:Option Int):sIx n d o<=n:=by
 cases o with
 | none=>exact hd
 | some v =>
  show (if v<0 then (v+(n:Int)).toNat else min v.toNat n)<=n
  by_cases hv:v<0
  ·rw[if_pos hv];omega
  ·rw[if_neg hv];exact Nat.min_le_right _ _
theorem zmv (v:Int) (n d:Nat):(if v<0 then max (v+(n:Int)) 0 else min v (n:Int))=((sIx n d (some v):Nat):Int):=by
 show (if v<0 then max (v+(n:Int)) 0 else min v (n:Int))=(((if v<0 then (v+(n:Int)).toNat else min v.toNat n):Nat):Int)
 by_cases hv:v<0
 ·simp only[if_pos hv];omega
 ·simp only[if_neg hv];omega
theorem zko (lo hi:Option Int) (n:Nat):Builtin.Slice.sliceAdjust lo hi 1 (n:Int)=(((sIx n 0 lo:Nat):Int),((sIx n n hi:Nat):Int)):=by
 have h1:¬((1:Int)<0):=by omega
 unfold Builtin.Slice.sliceAdjust
 simp only[h1,if_false]
 refine Prod.ext ?_ ?_
 ·cases lo with
  | none=>rfl
  | some v=>exact zmv v n 0
 ·cases hi with
  | none=>rfl
  | some v=>exact zmv v n n
theorem zjh (i j:Nat):y1h (i:Int) (j:Int) 1=j - i:=by
 unfold y1h
 have h1:(1:Int) > 0:=by omega
 simp only[h1,if_true,Int.ediv_one]
 split <;> omega
theorem zbx {v:Value} {o:Option Int} {Q:Option Int->y04->Prop} (p:IsPart v o) (h:Q o s):y0t (y2r prog w) A (Builtin.Slice.slicePartIndex v) Q E s:=by
 cases p with
 | none=>exact slicePart_none h
 | int i t=>exact slicePart_int h
theorem sliceApplied_gen {sl:Addr} {vl vu:Value} {lo hi:Option Int} {n:Nat} {Q:Int×Int×Nat->y04->Prop} (hs:s.heap.IsSliceOf sl vl vu .none) (pl:IsPart vl lo) (pu:IsPart vu hi)
  (h:Q (((sIx n 0 lo:Nat):Int),1,sIx n n hi - sIx n 0 lo) s):y0t (y2r prog w) A (Builtin.Slice.sliceApplied (.ref sl) (pure (n:Int))) Q E s:=by
 obtain⟨os,hos,hcs,hds⟩:=id hs
 unfold Builtin.Slice.sliceApplied Builtin.Slice.sliceFields
 refine y02 (y02 (y2d hos hds (x:=vl) rfl (y02 (y2d hos hds (x:=vu) rfl (y02 (y2d hos hds (x:=.none) rfl (y06 ?_)))))))
 refine y02 (slicePart_none ?_)
 show y0t _ _ (if ((1:Int) == 0)=true then _ else _) _ _ s
 rw[if_neg (by decide)]
 refine y02 (zbx pl (y02 (zbx pu (y02 (y06 ?_)))))
 show y0t _ _ (match Builtin.Slice.sliceAdjust lo hi 1 (n:Int) with|(lo,hi)=>pure (lo,(1:Int),y1h lo hi 1)) _ _ s
 rw[zko lo hi n]
 show y0t _ _ (pure (((sIx n 0 lo:Nat):Int),(1:Int),y1h ((sIx n 0 lo:Nat):Int) ((sIx n n hi:Nat):Int) 1)) _ _ s
 rw[zjh]
 exact y06 h
theorem zoc (xs:Array Value) (i k:Nat):((List.range k).filterMap fun (m:Nat)=>xs[((i:Int)+(m:Int)*1).toNat]?).toArray=((xs.toList.drop i).take k).toArray:=by
 have e:(fun (m:Nat)=>xs[((i:Int)+(m:Int)*1).toNat]?)=fun m=>xs[i+m]?:=by
  funext m
  have:((i:Int)+(m:Int)*1).toNat=i+m:=by omega
  rw[this]
 rw[e]
 have:=pick_run xs i k
 rw[List.filterMap_map] at this
 have e2:((fun x=>xs[x]?) ∘ fun x=>i+x)=fun m=>xs[i+m]?:=rfl
 rw[e2] at this
 rw[this]
theorem getItem_tuple_cut {t sl:Addr} {items:Array Value} {vl vu:Value} {lo hi:Option Int} {Q:Value->y04->Prop} (ht:IsTup s.heap t items) (hs:s.heap.IsSliceOf sl vl vu .none) (pl:IsPart vl lo) (pu:IsPart vu hi)
  (hw:¬(sIx items.size 0 lo=0/\sIx items.size items.size hi=items.size))
  (h:Q (.ref s.heap.objs.size) { s with heap:=s.heap.push { cls:=.type "tuple",data:=.seq ((items.toList.drop (sIx items.size 0 lo)).take (sIx items.size items.size hi - sIx items.size 0 lo)).toArray } })
  (hsz:items.size<=y0j):y0t (y2r prog w) A (getItem (.ref t) (.ref sl)) Q E s:=by
 have htake:sizeOk (.seq ((items.toList.drop (sIx items.size 0 lo)).take (sIx items.size items.size hi - sIx items.size 0 lo)).toArray):=by
  show ((items.toList.drop (sIx items.size 0 lo)).take (sIx items.size items.size hi - sIx items.size 0 lo)).toArray.size<=y0j
  rw[y0h,List.length_take,List.length_drop,y1u]
  omega
 have hj:sIx items.size items.size hi<=items.size:=zea _ _ (y0o _) hi
 obtain⟨os,hos,hcs,hds⟩:=id hs
 have hTs:s.TypeIs (.ref sl) "slice":=⟨os,hos,hcs⟩
 unfold getItem
 try with_reducible refine wpAny_holding ?_
 first|refine y02 (y06 ?_)|skip
 refine y02 (wpAny_sequenceKey ht.typeIs (by decide) ?_)
 refine y02 (y2e (name:=Str.ofString "__getitem__") ht.typeIs y1f
  (y2j y1f ht.typeIs entry_tuple_getitem ?_ (args_tuple_getitem _ _)))
 show y0t _ _ (Builtin.Tuple.tupleItemsOf (.ref t) >>= _) _ _ s
 refine y02 (tupleItemsOf_ ht ?_)
 refine y02 (wpAny_typeOf hTs ?_)
 rw[if_pos (by decide)]
 refine y02 (sliceApplied_gen hs pl pu ?_)
 have hno:¬((((sIx items.size 0 lo:Nat):Int) == 0 && (1:Int) == 1 && (sIx items.size items.size hi - sIx items.size 0 lo) == items.size)=true):=by
  intro q
  rw[y19,y19] at q
  have q1:((sIx items.size 0 lo:Nat):Int)=0:=eq_of_beq q.1.1
  have q2:sIx items.size items.size hi - sIx items.size 0 lo=items.size:=eq_of_beq q.2
  exact hw ⟨by omega,by omega⟩
 show y0t _ _ (if (((sIx items.size 0 lo:Nat):Int) == 0 && (1:Int) == 1 && (sIx items.size items.size hi - sIx items.size 0 lo) == items.size)=true then _ else _) _ _ s
 rw[if_neg hno,zoc]
 first
  | exact y02 (m:=y12 _) (y2i (y06 ⟨_,rfl,y06 h⟩) htake)
  | exact y02 (m:=y12 _) (y2i (y02 (y06 (y06 ⟨_,rfl,y06 h⟩))) htake)
  | exact y02 (y02 (m:=y12 _) (y2i (y06 (y06 ⟨_,rfl,y06 h⟩)) htake))
  | exact y02 (y02 (m:=y12 _) (y2i (y06 ⟨_,rfl,y06 h⟩) htake))
end
end HT
namespace L2
open PySem PySem.Spec PyProof.Rows
abbrev TO:=St->Hp->(Option Int->Hp->Prop)->Prop
noncomputable def PO (X:Cx) (e:Option Expr) (t:TO):Prop :=
 ∀(pins:List (Addr×Obj)) (s:y04) (σ:St) (H:Hp) (Q:Option Int->Hp->Prop),Inv X pins σ H s->t σ H Q ->
  y0t (y2r X.prog X.w) X.A (evalPart e X.env) (fun u s'=>∃o H',Inv X pins σ H' s'/\IsPart u o/\Q o H') X.xe s
def zqz:TO:=fun _ H Q=>Q none H
def zvi (t:TE):TO:=fun σ H Q=>t σ H fun x H1=>∃i,x=.int i/\Q (some i) H1
section
variable {X:Cx} {e:Expr} {te:TE} {lo hi:Option Expr} {tl th:TO} {pos p2:Pos}
theorem zrf:PO X none zqz:=by
 intro pins s σ H Q I h
 rw[evalPart_none]
 exact y06 ⟨none,H,I,.none,h⟩
theorem zre (h:PE X e te):PO X (some e) (zvi te):=by
 intro pins s σ H Q I hw
 rw[evalPart_some]
 refine thn (h pins s σ H _ I hw) fun u s1 ⟨x,H1,I1,r1,q1⟩=>?_
 obtain⟨i,rfl,q⟩:=q1
 obtain⟨t,rfl⟩:=r1
 exact⟨some i,H1,I1,.int i t,q⟩
noncomputable def SlR (X:Cx) (r:V->Option Int->Option Int->Hp->VK->Prop):Prop :=
 ∀(pins:List (Addr×Obj)) (s:y04) (σ:St) (H:Hp) (x:V) (v vl vu:Value) (lo hi:Option Int) (sl:Addr) (Q:VK),Inv X pins σ H s->RelV x v->s.heap.IsSliceOf sl vl vu .none->IsPart vl lo->IsPart vu hi->r x lo hi H Q ->
  ∃T id,typeLookup (.type T) "__getitem__"=pure (some (.builtin id))/\s.TypeIs v T/\y0t (y2r X.prog X.w) X.A (getItem v (.ref sl)) (EP X pins σ Q) X.xe s
theorem SlR.or {r r':V->Option Int->Option Int->Hp->VK->Prop} (h:SlR X r) (h':SlR X r'):SlR X (fun x lo hi H Q=>r x lo hi H Q\/r' x lo hi H Q):=by
 intro pins s σ H x v vl vu lo hi sl Q I rx hs pl pu q
 rcases q with q|q
 ·exact h pins s σ H x v vl vu lo hi sl Q I rx hs pl pu q
 ·exact h' pins s σ H x v vl vu lo hi sl Q I rx hs pl pu q
def tSl (r:V->Option Int->Option Int->Hp->VK->Prop) (te:TE) (tl th:TO):TE:=fun σ H Q=>te σ H fun x H1=>tl σ H1 fun l H2=>th σ H2 fun u H3=>r x l u H3 Q
theorem zid {r:V->Option Int->Option Int->Hp->VK->Prop} (hr:SlR X r) (he:PE X e te) (hl:PO X lo tl) (hu:PO X hi th):PE X (.Subscript e (.Slice lo hi none p2) pos) (tSl r te tl th):=by
 intro pins s σ H Q I h
 refine Subscript_ (thn (he pins s σ H _ I h) fun v s1 ⟨x,H1,I1,r1,q1⟩=>?_)
 refine wpAny_Slice (thn (hl pins s1 σ H1 _ I1 q1) fun vl s2 ⟨l,H2,I2,pl,q2⟩=>thn (hu pins s2 σ H2 _ I2 q2) fun vu s3 ⟨u,H3,I3,pu,q3⟩=>?_)
 rw[evalPart_none]
 refine y06 ?_
 have I4:Inv X pins σ H3 { s3 with heap:=s3.heap.push { cls:=.type "slice",data:=.fields #[vl,vu,.none] } }:=I3.kept (t':=s3.toks) fun b ob q=>y03 _ q
 obtain⟨T,id,hT,ht,hg⟩:=hr pins { s3 with heap:=s3.heap.push { cls:=.type "slice",data:=.fields #[vl,vu,.none] } } σ H3 x v vl vu l u s3.heap.objs.size Q I4 r1 (Heap.IsSliceOf.new ..) pl pu q3
 show y0t (y2r X.prog X.w) X.A (subscriptTail e (.Slice lo hi none p2) v (.ref s3.heap.objs.size)) (EP X pins σ Q) X.xe { s3 with heap:=s3.heap.push { cls:=.type "slice",data:=.fields #[vl,vu,.none] } }
 exact tail_any (ops:=[.ref s3.heap.objs.size,v]) ht hT hg (by with_unfolding_all rfl)
def cutV (xs:List V) (lo hi:Option Int):List V:=(xs.drop (HT.sIx xs.length 0 lo)).take (HT.sIx xs.length xs.length hi - HT.sIx xs.length 0 lo)
theorem zb3 (xs:List V) (lo hi:Option Int):(cutV xs lo hi).length<=xs.length:=by
 unfold cutV
 rw[List.length_take,List.length_drop]
 omega
noncomputable def rSlT (K:y00):V->Option Int->Option Int->Hp->VK->Prop:=fun x lo hi H Q=>∃a xs,x=.ref a/\SqT K H a xs /\
 ¬(HT.sIx xs.length 0 lo=0/\HT.sIx xs.length xs.length hi=xs.length)/\∀p,H p=none->Q (.ref p) (upd H p (.tup (cutV xs lo hi)))
theorem zpx:SlR X (rSlT X.K):=by
 intro pins s σ H x v vl vu lo hi sl Q I rx hs pl pu h
 obtain⟨a,xs,rfl,hx,hw,q⟩:=h
 cases rx
 obtain⟨its,r,ht,hz⟩:=I.tuple hx
 have hlen:its.toArray.size=xs.length:=by rw[y0h];exact r.length.symm
 refine⟨"tuple",_,PyProof.Rows.slot_tuple_getitem.lookup,ht.typeIs,?_⟩
 refine HT.getItem_tuple_cut ht hs pl pu (by rw[hlen];exact hw) ?_ (by rw[hlen];exact hz)
 rw[hlen]
 refine⟨.ref s.heap.objs.size,_,I.laid (t':=s.toks) (o:=.tup (cutV xs lo hi)) (fun b ob q=>y03 _ q) (y0o _) ?_,rfl,q _ (I.hok.fresh (y0o _))⟩
 exact⟨y1l (zb3 xs lo hi) hz,_,(r.drop (HT.sIx xs.length 0 lo)).take (HT.sIx xs.length xs.length hi - HT.sIx xs.length 0 lo),IsTup.new _ _⟩
noncomputable def zvt (K:y00):R2:=fun x y H Q=>∃a b xs ys,x=.ref a/\y=.ref b/\SqT K H a xs/\SqT K H b ys/\xs≠[]/\xs.length+ys.length<=y0j /\
 (ys=[]->Q (.ref a) H)/\(ys≠[]->∀p,H p=none->Q (.ref p) (upd H p (.tup (xs++ys))))
theorem Vals.nil_iff {xs:List V} {us:List Value} (r:Vals xs us):us=[] <-> xs=[]:=by
 cases r with
 | nil=>simp
 | cons _ _=>simp
theorem zrt:OpR X (y2p .Add) (zvt X.K):=by
 intro pins s σ H x y v u Q I rx ry h
 obtain⟨a,b,xs,ys,rfl,rfl,ha,hb,hx,hz,q1,q2⟩:=h
 cases rx
 cases ry
 obtain⟨its,r1,p1,_⟩:=I.tuple ha
 obtain⟨its2,r2,p2,_⟩:=I.tuple hb
 refine HT.cat_tup p1 p2 (fun z=>hx (r1.nil_iff.mp z)) (fun z=>⟨.ref a,H,I,rfl,q1 (r2.nil_iff.mp z)⟩) (fun z=>?_) (by rw[<- r1.length,<- r2.length];exact hz)
 refine⟨.ref s.heap.objs.size,_,I.laid (t':=s.toks) (o:=.tup (xs++ys)) (fun b ob q=>y03 _ q) (y0o _) ?_,rfl,q2 (fun w=>z (r2.nil_iff.mpr w)) _ (I.hok.fresh (y0o _))⟩
 exact⟨by rw[y1x];exact hz,_,r1.append r2,IsTup.new _ _⟩
end
end L2
namespace L2
open PySem PySem.Spec PyProof.Rows
def ixN (n:Nat) (i:Int):Option Nat:=if 0<=i then (if i<n then some i.toNat else none) else if -(n:Int)<=i then some (i+n).toNat else none
def atI {α:Type} (xs:List α) (i:Int):Option α:=(ixN xs.length i).bind fun j=>xs[j]?
theorem zs3 {n:Nat} {i:Int} {j:Nat} (h:ixN n i=some j):seqIndex? i n=some j/\j<n/\-(n:Int)<=i/\i<n:=by
 unfold ixN at h
 by_cases h0:0<=i
 ·rw[if_pos h0] at h
  by_cases h1:i<n
  ·rw[if_pos h1] at h
   have e:i.toNat=j:=y28 h
   exact⟨by rw[seqIndex_of h0 h1,e],by omega,by omega,h1⟩
  ·rw[if_neg h1] at h;cases h
 ·rw[if_neg h0] at h
  by_cases h1:-(n:Int)<=i
  ·rw[if_pos h1] at h
   have e:(i+n).toNat=j:=y28 h
   exact⟨by rw[seqIndex_neg (by omega) h1,e],by omega,h1,by omega⟩
  ·rw[if_neg h1] at h;cases h
theorem zhz {α:Type} {xs:List α} {i:Int} {v:α} (h:atI xs i=some v):∃j,seqIndex? i xs.length=some j/\xs[j]?=some v/\j<xs.length/\-(xs.length:Int)<=i/\i<xs.length:=by
 unfold atI at h
 cases e:ixN xs.length i with
 | none=>rw[e] at h;cases h
 | some j =>
  rw[e] at h
  obtain⟨h1,h2,h3,h4⟩:=zs3 e
  exact⟨j,h1,h,h2,h3,h4⟩
def zng (b:Expr):Prop:=∀o i,subscripted b false o i=operate [o,i] (getItem o i)
noncomputable def IxR (X:Cx) (r:R2):Prop :=
 ∀(value slice:Expr) (pins:List (Addr×Obj)) (s:y04) (σ:St) (H:Hp) (x y:V) (v u:Value) (Q:VK),Inv X pins σ H s->RelV x v->RelV y u->r x y H Q ->
  subscripted slice false v u=operate [v,u] (getItem v u)->y0t (y2r X.prog X.w) X.A (subscriptTail value slice v u) (EP X pins σ Q) X.xe s
noncomputable def MtR (X:Cx) (id:String) (r:V->List V->Hp->VK->Prop):Prop :=
 ∀(pins:List (Addr×Obj)) (s:y04) (σ:St) (H:Hp) (x:V) (xs:List V) (v:Value) (us:List Value) (Q:VK),Inv X pins σ H s->RelV x v->Vals xs us->r x xs H Q ->
  y0t (y2r X.prog X.w) X.A (call (.builtin id) (v::us)) (EP X pins σ Q) X.xe s
section
variable {X:Cx} {a b:Expr} {ta tb:TE} {pos:Pos}
theorem IxR.or {r r':R2} (h:IxR X r) (h':IxR X r'):IxR X (fun x y H Q=>r x y H Q\/r' x y H Q):=by
 intro value slice pins s σ H x y v u Q I rx ry q hs
 rcases q with q|q
 ·exact h value slice pins s σ H x y v u Q I rx ry q hs
 ·exact h' value slice pins s σ H x y v u Q I rx ry q hs
theorem zw5 {r:R2} (hr:IxR X r) (ha:PE X a ta) (hb:PE X b tb) (hs:zng b):PE X (.Subscript a b pos) (tOp r ta tb):=by
 intro pins s σ H Q I h
 exact Subscript_ (binT ha hb I h fun v u s2 x y H2 I2 rx ry q=>hr a b pins s2 σ H2 x y v u Q I2 rx ry q (hs _ _))
def rIxL (K:y00):R2:=fun x y H Q=>∃p xs i v,x=.ref p/\y=.int i/\SqL K H p xs/\atI xs i=some v/\Q v H
def rIxT (K:y00):R2:=fun x y H Q=>∃p xs i v,x=.ref p/\y=.int i/\SqT K H p xs/\atI xs i=some v/\Q v H
def rIxS:R2:=fun x y H Q=>∃z i c,x=.str z/\y=.int i/\z.length<=y0j/\atI z.cps.toList i=some c/\Q (.str ⟨#[c]⟩) H
theorem zs2:IxR X (rIxL X.K):=by
 intro value slice pins s σ H x y v u Q I rx ry h hs
 obtain⟨p,xs,i,z,rfl,rfl,hq,he,q⟩:=h
 cases rx
 obtain⟨t,rfl⟩:=ry
 obtain⟨its,r,pl,hz⟩:=I.list hq
 obtain⟨j,h1,h2,h3,h4,h5⟩:=zhz he
 obtain⟨w,ew,rw'⟩:=r.get h2
 have hl:=r.length
 have hn:=zc7
 have fin:EP X pins σ Q w s:=⟨z,H,I,rw',q⟩
 by_cases h0:0<=i
 ·have hj:i.toNat=j:=by
   rw[seqIndex_of h0 h5] at h1
   exact y28 h1
  exact item_listR pl.isList h0 (by omega) (by rw[hj];simpa using ew) fin hs
 ·have hj:(i+(its.toArray.size:Int)).toNat=j:=by
   rw[seqIndex_neg (by omega) h4] at h1
   rw[y0h,<- hl]
   exact y28 h1
  exact subscriptTail_builtinR (x:=w) pl.isList.typeIs slot_list_getitem.lookup
   (wpAny_getItem_list_neg (Q:=fun r s'=>r=w/\EP X pins σ Q r s') pl.isList (by omega) (by rw[y0h] <;> omega) (by omega) (by rw[hj];simpa using ew) ⟨rfl,fin⟩) hs
theorem zuo:IxR X (rIxT X.K):=by
 intro value slice pins s σ H x y v u Q I rx ry h hs
 obtain⟨p,xs,i,z,rfl,rfl,hq,he,q⟩:=h
 cases rx
 obtain⟨t,rfl⟩:=ry
 obtain⟨its,r,pl,hz⟩:=I.tuple hq
 obtain⟨j,h1,h2,h3,h4,h5⟩:=zhz he
 obtain⟨w,ew,rw'⟩:=r.get h2
 have hl:=r.length
 have hn:=zc7
 have fin:EP X pins σ Q w s:=⟨z,H,I,rw',q⟩
 exact subscriptTail_builtinR (x:=w) pl.typeIs slot_tuple_getitem.lookup
  (getItem_tuple (j:=j) (Q:=fun r s'=>r=w/\EP X pins σ Q r s') pl (by omega) (by omega) (by rw[y0h,<- hl];exact h1) (by simpa using ew) ⟨rfl,fin⟩) hs
theorem zup:IxR X rIxS:=by
 intro value slice pins s σ H x y v u Q I rx ry h hs
 obtain⟨z,i,c,rfl,rfl,hz,he,q⟩:=h
 obtain⟨t,rfl⟩:=rx
 obtain⟨t',rfl⟩:=ry
 obtain⟨j,h1,h2,h3,h4,h5⟩:=zhz he
 have hl:z.cps.toList.length=z.length:=by simp[Str.length]
 rw[hl] at h1 h4 h5
 have hn:=zc7
 exact tail_any (typeIs_str s z t) slot_str_getitem.lookup (getItem_str (c:=c) (by
  have e1:decide (i < -(2 ^ 63:Int))=false:=decide_eq_false (by omega)
  have e2:decide (i >= 2 ^ 63)=false:=decide_eq_false (by omega)
  rw[e1,e2,Bool.or_false]) (by rw[h1];simpa using h2) ⟨.str ⟨#[c]⟩,H,I.tok _,⟨_,rfl⟩,q⟩) hs
def rIx (K:y00):R2:=fun x y H Q=>rIxL K x y H Q\/rIxT K x y H Q\/rIxS x y H Q
theorem zuq:IxR X (rIx X.K):=zs2.or (zuo.or zup)
theorem ze3 (lo hi:Option Int) (n:Nat):(sliceBounds lo hi none n).1=((HT.sIx n 0 lo:Nat):Int)/\(sliceBounds lo hi none n).2.1=((HT.sIx n n hi:Nat):Int)/\(sliceBounds lo hi none n).2.2=1:=by
 refine⟨?_,?_,rfl⟩
 ·cases lo with
  | none=>simp[sliceBounds,HT.sIx]
  | some i =>
   simp only[sliceBounds,HT.sIx,Option.getD_none,show (1:Int) > 0 by decide,if_true]
   by_cases h:i<0
   ·simp only[h,if_true] <;> omega
   ·simp only[h,if_false] <;> omega
 ·cases hi with
  | none=>simp[sliceBounds,HT.sIx]
  | some i =>
   simp only[sliceBounds,HT.sIx,Option.getD_none,show (1:Int) > 0 by decide,if_true]
   by_cases h:i<0
   ·simp only[h,if_true] <;> omega
   ·simp only[h,if_false] <;> omega
theorem zcn (its:List Value) (lo hi:Option Int):slicePick its.toArray lo hi none=((its.drop (HT.sIx its.length 0 lo)).take (HT.sIx its.length its.length hi - HT.sIx its.length 0 lo)).toArray:=by
 obtain⟨h1,h2,h3⟩:=ze3 lo hi its.toArray.size
 unfold slicePick
 rw[h1,h2,h3]
 simp only[sliceRange_one,pick_run,y0h] <;> rfl
def rSlL (K:y00):V->Option Int->Option Int->Hp->VK->Prop:=fun x lo hi H Q=>∃a xs,x=.ref a/\SqL K H a xs/\∀p,H p=none->Q (.ref p) (upd H p (.lst (cutV xs lo hi)))
theorem zl5:SlR X (rSlL X.K):=by
 intro pins s σ H x v vl vu lo hi sl Q I rx hs pl pu h
 obtain⟨a,xs,rfl,hx,q⟩:=h
 cases rx
 obtain⟨its,r,ht,hz⟩:=I.list hx
 have hlen:=r.length
 refine⟨"list",_,slot_list_getitem.lookup,ht.isList.typeIs,?_⟩
 refine wpAny_getItem_list_slice ht.isList hs pl pu .none (by simp) ?_ (by rw[y0h] <;> omega)
 rw[zcn,<- hlen]
 refine⟨.ref s.heap.objs.size,_,I.laid (t':=s.toks) (o:=.lst (cutV xs lo hi)) (fun b ob q=>y03 _ q) (y0o _) ?_,rfl,q _ (I.hok.fresh (y0o _))⟩
 exact⟨y1l (zb3 xs lo hi) hz,_,0,(r.drop (HT.sIx xs.length 0 lo)).take (HT.sIx xs.length xs.length hi - HT.sIx xs.length 0 lo),y0l _ rfl⟩
theorem zfj:z7h X (.builtin "len") (fun xs H Q=>∃p ys,xs=[.ref p]/\(SqL X.K H p ys\/SqT X.K H p ys)/\Q (.int ys.length) H):=by
 intro pins s σ H xs us Q I r h
 obtain⟨p,ys,rfl,hq,q⟩:=h
 obtain⟨u,rfl,rx⟩:=vals1 r
 cases rx
 have hn:=zc7
 rcases hq with hq|hq
 ·obtain⟨its,r',pl,hz⟩:=I.list hq
  have hlen:=r'.length
  exact Calls.call_len_list pl.isList (by simp only[y0h] <;> omega) ⟨.int ys.length,H,I.tok _,⟨s.toks+1,by rw[y0h,hlen]⟩,q⟩
 ·obtain⟨its,r',pl,hz⟩:=I.tuple hq
  have hlen:=r'.length
  exact len_tuple pl (by simp only[y0h] <;> omega) ⟨.int ys.length,H,I.tok _,⟨s.toks+1,by rw[y0h,hlen]⟩,q⟩
theorem zfi:z7h X (.builtin "len") (fun xs H Q=>∃z,xs=[.str z]/\z.length<=y0j/\Q (.int z.length) H):=by
 intro pins s σ H xs us Q I r h
 obtain⟨z,rfl,hz,q⟩:=h
 obtain⟨u,rfl,t,rfl⟩:=vals1 r
 have hn:=zc7
 exact len_str (by omega) ⟨.int z.length,H,I.tok _,⟨_,rfl⟩,q⟩
theorem z7h.or {f:Value} {r r':List V->Hp->VK->Prop} (h:z7h X f r) (h':z7h X f r'):z7h X f (fun xs H Q=>r xs H Q\/r' xs H Q):=by
 intro pins s σ H xs us Q I rs q
 rcases q with q|q
 ·exact h pins s σ H xs us Q I rs q
 ·exact h' pins s σ H xs us Q I rs q
theorem zdh:z7h X (.type "tuple") (fun xs H Q=>∃p ys,xs=[.ref p]/\((SqL X.K H p ys/\∀l,H l=none->Q (.ref l) (upd H l (.tup ys)))\/(SqT X.K H p ys/\Q (.ref p) H))):=by
 intro pins s σ H xs us Q I r h
 obtain⟨p,ys,rfl,h⟩:=h
 obtain⟨u,rfl,rx⟩:=vals1 r
 cases rx
 rcases h with ⟨hq,q⟩|⟨hq,q⟩
 ·obtain⟨its,r',pl,hz⟩:=I.list hq
  have hlen:=r'.length
  refine call_tuple_list pl.isList (fun h' kp=>?_) (by simp only[y0h] <;> omega)
  have I1:Inv X pins σ H { s with heap:=h' }:=I.kept (t':=s.toks) kp
  have I2:Inv X pins σ (upd H h'.objs.size (.tup ys)) { s with heap:=h'.push { cls:=.type "tuple",data:=.seq its.toArray } } :=
   I1.laid (t':=s.toks) (fun b o e=>y03 _ e) (y0o _) (show z99 X.prog X.w _ _ _ (.tup ys) from ⟨hz,its,r',IsTup.new _ _⟩)
  exact⟨.ref h'.objs.size,_,I2,rfl,q _ (I1.hok.fresh (y0o _))⟩
 ·obtain⟨its,r',pl,hz⟩:=I.tuple hq
  exact call_tuple_same pl ⟨.ref p,H,I,rfl,q⟩
noncomputable def tyV (K:y00) (T:String) (x:V) (H:Hp):Prop:=match x with
 | .str _=>T="str"
 | .int _=>T="int"
 | .ref p=>(T="list"/\∃xs,SqL K H p xs)\/(T="tuple"/\∃o,K.lookup p=some o/\o.cls=.type "tuple"/\o.dict=none) \/
   (T="dict"/\((∃kvs,H p=some (.dK kvs))\/∃kvs,H p=some (.dT kvs)))\/(T="set"/\∃S n,H p=some (.set S n))
 | _=>False
theorem zsv {pins:List (Addr×Obj)} {σ:St} {H:Hp} {s:y04} {T:String} {x:V} {v:Value} (I:Inv X pins σ H s) (r:RelV x v) (ty:tyV X.K T x H) :
  s.TypeIs v T/\∀a,v=.ref a->∃ob,s.heap.get? a=some ob/\ob.dict=none:=by
 cases x with
 | str z =>
  obtain⟨t,rfl⟩:=r
  cases (show T="str" from ty)
  exact⟨typeIs_str s z t,fun _ e=>nomatch e⟩
 | int i =>
  obtain⟨t,rfl⟩:=r
  cases (show T="int" from ty)
  exact⟨typeIs_int s i t,fun _ e=>nomatch e⟩
 | ref p =>
  cases r
  rcases ty with ⟨rfl,xs,hq⟩|⟨rfl,o,hk,hc,hd⟩|⟨rfl,hk⟩|⟨rfl,S,n,hk⟩
  ·obtain⟨its,_,pl,_⟩:=I.list hq
   refine⟨pl.isList.typeIs,fun a e=>?_⟩
   cases e
   obtain⟨o,n,e,c,hd,_⟩:=pl
   exact⟨o,e,hd⟩
  ·refine⟨⟨o,I.kIn p o hk,hc⟩,fun a e=>?_⟩
   cases e
   exact⟨o,I.kIn _ o hk,hd⟩
  ·have z:∃o,s.heap.get? p=some o/\o.ExactDict:=by
    rcases hk with ⟨kvs,hk⟩|⟨kvs,hk⟩
    ·obtain⟨_,_,_,_,o,_,_,e,ex,_⟩:=I.hok p _ hk
     exact⟨o,e,ex⟩
    ·obtain⟨_,_,_,_,o,_,_,e,ex,_⟩:=I.hok p _ hk
     exact⟨o,e,ex⟩
   obtain⟨o,e,ex⟩:=z
   refine⟨⟨o,e,ex.1⟩,fun a e2=>?_⟩
   cases e2
   exact⟨o,e,ex.2.1⟩
  ·obtain⟨o,_,_,_,e,ex,_⟩:=I.hok p _ hk
   refine⟨⟨o,e,ex.1⟩,fun a e2=>?_⟩
   cases e2
   exact⟨o,e,ex.2.1⟩
 | _=>exact y1s ty
def tBM (K:y00) (T:String) (r:V->List V->Hp->VK->Prop) (to:TE) (t:TA):TE:=fun σ H Q=>to σ H fun x H1=>tyV K T x H1/\t σ H1 fun xs H2=>r x xs H2 Q
variable {o e:Expr} {es:List Expr} {to:TE} {t:TA} {name:Str} {apos cpos:Pos} {T id:String} {r:V->List V->Hp->VK->Prop}
theorem zog (pa:PlainAttrs T) (slot:Slot T name id) (hty:typeOf (.builtin id)=pure (.type "method_descriptor")) (hm:MtR X id r) (ho:PE X o to) (ha:PA X (e::es) t)
  (hbase:attributeBase o name X.env (eval o X.env)=eval o X.env:=by rfl)
  (hfew:((y2c cpos (y0a (e::es) X.env)).all (fun x=>!x.1) && (backToKw cpos (keywordEach [] X.env)).all (fun x=>x.1.isSome)
   && decide ((e::es).length+([]:List Keyword).length+(if ([]:List Keyword).isEmpty then 0 else 1)<30))=true:=by rfl)
  (hline:(apos.endLine == cpos.line)=true:=by rfl) (hs:y0a (e::es) X.env=(false,eval e X.env)::y0a es X.env:=by rfl) (hplain:(y2c cpos (y0a es X.env)).any (·.1)=false:=by rfl) :
  PE X (.Call (.Attribute o name apos) (e::es) [] cpos) (tBM X.K T r to t):=by
 intro pins s σ H Q I h
 refine wpAny_Call_method_late hbase hfew hline rfl (thn (ho pins s σ H _ I h) fun v s1 ⟨x,H1,I1,r1,ty,q1⟩=>?_)
 obtain⟨h1,h2⟩:=zsv I1 r1 ty
 refine⟨T,id,pa,slot,hty,h1,h2,?_⟩
 have hA:=ha cpos pins s1 σ H1 _ I1 q1
 rw[hs] at hA ⊢
 refine Calls.callWith_builtin (by show (false || (y2c cpos (y0a es X.env)).any (·.1))=false;rw[hplain] <;> rfl) (Calls.evalArgs_plain ?_)
 exact thn hA fun us s2 ⟨vs,H2,I2,r2,q2⟩=>hm pins s2 σ H2 x vs v us Q I2 r1 r2 q2
end
end L2
namespace L2
open PySem PySem.Spec PyProof.Rows
noncomputable def MtM (X:Cx) (id:String) (r:V->List V->Hp->VK->Prop):Prop :=
 ∀(pins:List (Addr×Obj)) (s:y04) (σ:St) (H:Hp) (x:V) (xs:List V) (v:Value) (us:List Value) (Q:VK),Inv X pins σ H s->RelV x v->Vals xs us->r x xs H Q ->
  y0t (y2r X.prog X.w) X.A (call (.builtin id) (v::us)) (EP X pins σ Q) X.xe s
theorem Vals.one:∀{x:V} {us:List Value},Vals [x] us->∃u,us=[u]/\RelV x u
 | _,_,.cons r .nil=>⟨_,rfl,r⟩
theorem Vals.two:∀{x y:V} {us:List Value},Vals [x,y] us->∃u v,us=[u,v]/\RelV x u/\RelV y v
 | _,_,_,.cons r (.cons q .nil)=>⟨_,_,rfl,r,q⟩
theorem Vals.rep {xs:List V} {us:List Value} (h:Vals xs us):∀k:Nat,Vals (y0g k xs).flatten (y0g k us).flatten
 | 0=>.nil
 | k+1=>by
  rw[y1o,y1o,y22,y22]
  exact Vals.append h (Vals.rep h k)
theorem foldl_rep (its:List Value):∀(k:Nat) (acc:List Value),
  List.foldl (fun x1 x2=>x1++x2) acc.toArray (y0g k its.toArray)=(acc++(y0g k its).flatten).toArray
 | 0,acc=>by simp
 | k+1,acc=>by
  have e:acc.toArray++its.toArray=(acc++its).toArray:=by simp
  have e2:(acc++its)++(y0g k its).flatten=acc++(y0g (k+1) its).flatten:=by
   rw[y1o,y22,List.append_assoc]
  rw[<- e2,<- foldl_rep its k (acc++its),<- e,y1o,List.foldl_cons]
section
variable {X:Cx} {pins:List (Addr×Obj)} {σ:St} {H:Hp} {s:y04} {l b:Addr} {xs ys zs:List V}
theorem Inv.lset {its its':List Value} {n:Nat} {f:Array Value->Array Value} {t':Nat} (I:Inv X pins σ H s) (hH:H l=some (.lst xs))
  (e:s.heap.get? l=some { cls:=.type "list",data:=.seq its.toArray n }) (hf:f its.toArray=its'.toArray) (hv:Vals ys its') (hz:ys.length<=y0j) :
  Inv X pins σ (upd H l (.lst ys)) { s with heap:=s.heap.update l (Obj.mapSeq f),toks:=t' }:=by
 have q:=PySem.IsL.update e f
 rw[hf] at q
 refine I.write (x:=l) (e:=l) (by rw[hH];exact trivial) (.inl rfl) (fun b' u hb hu=>(Heap.get?_update_other s.heap (Obj.mapSeq f) (Ne.symm hb)).trans hu) ⟨_,q⟩ ?_
 exact⟨hz,its',_,hv,q⟩
theorem Inv.lnew {its:List Value} {t':Nat} (I:Inv X pins σ H s) (hv:Vals ys its) (hz:ys.length<=y0j) :
  Inv X pins σ (upd H s.heap.objs.size (.lst ys)) { s with heap:=s.heap.push { cls:=.type "list",data:=.seq its.toArray },toks:=t' } :=
 I.laid (fun _ _ q=>y03 _ q) (y0o _) ⟨hz,its,0,hv,y0l _ rfl⟩
theorem Inv.fresh (I:Inv X pins σ H s):H s.heap.objs.size=none:=I.hok.fresh (y0o _)
theorem Inv.lstM (I:Inv X pins σ H s) (hH:H l=some (.lst xs)):xs.length<=y0j/\∃(its:List Value) (n:Nat),Vals xs its/\xs.length=its.length/\s.heap.get? l=some { cls:=.type "list",data:=.seq its.toArray n }:=by
 obtain⟨z,its,n,r,e⟩:=I.hok l _ hH
 exact⟨z,its,n,r,r.length,e⟩
theorem zop {n:Nat} (h:n<=y0j):Builtin.List.listTooLong n=false:=by
 unfold Builtin.List.listTooLong
 exact decide_eq_false (by omega)
end
section
variable {X:Cx}
def zr3:V->List V->Hp->VK->Prop:=fun x vs H Q=>∃l xs y,x=.ref l/\vs=[y]/\H l=some (.lst xs)/\xs.length<y0j/\Q .non (upd H l (.lst (xs++[y])))
theorem zf3:MtM X "list.append" zr3:=by
 intro pins s σ H x vs v us Q I rx rv h
 obtain⟨l,xs,y,rfl,rfl,hH,hz,q⟩:=h
 cases rx
 obtain⟨u,rfl,ru⟩:=rv.one
 obtain⟨z,its,n,r,hl,e⟩:=I.lstM hH
 refine y2o F.slot_list_append ⟨_,e,rfl⟩ F.entry_list_append (F.args_list_append_2 _ _) (PySem.list_append l its.toArray n u (by rw[y0h];omega)) ⟨e,?_⟩
 refine⟨.non,_,I.lset (its':=its++[u]) hH e (by simp) (r.append (.cons ru .nil)) ?_,rfl,q⟩
 rw[y1x,List.length_singleton]
 omega
theorem len_rep {α:Type} (xs:List α) (k:Nat):(y0g k xs).flatten.length=k*xs.length:=by
 induction k with
 | zero=>simp
 | succ k ih=>rw[y1o,y22,y1x,ih,Nat.succ_mul,Nat.add_comm]
end
section
variable {prog:y0q} {w:World} {A:Around} {E:Value->y04->Prop} {s:y04}
end
section
variable {X:Cx}
end
end L2
namespace Att
open PySem PySem.W PySem.Calls PyProof.Rows
theorem zat {P:Params} {h:Heap}:∀(ns:List Int) (vs:List Value),WellAll P h vs (ns.map WData.int)->IntsAre vs ns:=by
 intro ns
 induction ns with
 | nil =>
  intro vs w
  rw[y17] at w
  cases w
  exact .nil
 | cons n ns ih =>
  intro vs w
  rw[y0d] at w
  cases w with
  | cons a b =>
   cases a
   exact .cons _ _ (ih _ b)
theorem zl7 {l:OpenLaw} {n:Nat} (hn:l.most=some n) {P:Params} {h:Heap} {args:List WData} {vals:List Value}
    (hpre:l.row.toRowW.claim.pre args=true) (hwl:WellAll P h vals args) :
    ∃a vs ns,vals=[Value.ref a]/\args=[WData.list (ns.map WData.int)]/\h.get? a=some { cls:=.type "list",data:=.seq vs.toArray }/\IntsAre vs ns/\ns.length<=n:=by
  have hsh:WShape.hasAll [] args [.list .int]=true:=(pre_splitW hpre).1
  have hc:l.pre.holds [] { args:=args }=true:=(pre_splitW hpre).2
  obtain⟨d,r,rfl,h1,h2⟩:=hasAllW_cons hsh
  obtain rfl:=hasAllW_nil h2
  obtain⟨xs,rfl,h3⟩:=hasW_list h1
  obtain⟨ns,rfl⟩:=items_int h3
  have hlen:ns.length<=n:=by
    unfold OpenLaw.pre at hc
    have h4:(WTm.not (.lt (.lit (.int (n:Int))) (.len (.arg 0)))).holds [] { args:=[.list (ns.map .int)] }=true:=by
      have h4:=(holds_andW hc).1
      rw[hn] at h4
      exact h4
    have h5:=condW_of h4 (w_not (w_lt w_lit (w_len_list (w_arg rfl))))
    rw[y13] at h5
    refine Nat.le_of_not_lt fun q=>?_
    have q':(n:Int)<((ns.length:Nat):Int):=by omega
    first
      | (rw[decide_eq_true q'] at h5;exact absurd h5 (by decide))
      | (simp at h5;omega)
  cases hwl with
  | cons w1 w2 =>
    cases w2
    cases w1 with
    | list ho hall=>exact⟨_,_,ns,rfl,rfl,ho,zat ns _ hall,hlen⟩
theorem zli (l:OpenLaw) (args:List WData):l.row.toRowW.claim.post args (.bool true) args=true :=
 postW_of (r:=l.row.toRowW) (X:=(true == true))
  (show WShape.has [] (.bool true) .bool=true by first|rfl|decide|simp[WShape.has,WShape.arms,WShape.armsAll])
  (show (WTm.eq .res (.lit (.bool true))).value [] { args:=args,res:=some (.bool true),after:=args }=some (.bool (true == true)) from w_eq_bool (w_res rfl) w_lit) rfl
theorem attach_call {l:OpenLaw} {n:Nat} {q:y0q} {loose:List Str} {XP:(Str->Option Value)->Heap->Prop} {YP:World->Heap->Prop} {d:DefRec}
  (hn:l.most=some n) (hdf:d.params.defaults=[])
  (call:∀(w:World) (s₀ s₁:y04) (mg mb:Str->Option Value) (fa:Addr) (o:Obj) (pm cd doc:Value) (a:Addr) (vs:List Value) (ns:List Int),
   Ground q loose [] XP w s₀ mg mb s₁.heap->YP w s₁.heap ->
   s₁.heap.get? fa=some o->o.data=.func (docDef d.name d.params d.body d.scope pm cd doc)->s₁.heap.CodeRec cd d.name->mg d.name=some (.ref fa) ->
   s₁.heap.get? a=some { cls:=.type "list",data:=.seq vs.toArray }->IntsAre vs ns->ns.length<=n->s₁.gens=#[] ->
   codeAny (y2r l.prog w) callerA (.call (.ref fa) ⟨[.ref a],[]⟩) (fun r s'=>r=.ok (.ret (.bool true))/\OldK s₁.heap s'.heap/\s'.os=s₁.os/\AllBare s'.gens) s₁) :
  WalkO q loose XP YP l.row.toRowW d [] (fun f vs=>PySem.call f vs):=by
 intro w s₀ s₁ mg mb G Y fa o pm cd doc dV kV ho hd hcd hD hmg hg args vals as hpre hlay hrd hwl hlo
 obtain rfl:dV=.none:=Dflts.none hD hdf
 obtain rfl:kV=.none:=Dflts.noKw hD
 obtain⟨a,vs,ns,rfl,rfl,hobj,hints,hlen⟩:=zl7 hn hpre hwl
 refine enter_call (codeAny_mono (call w s₀ s₁ mg mb fa o pm cd doc a vs ns G Y ho (fd_plain hd) hcd hmg hobj hints hlen hg) fun r s' hq=>?_)
 obtain⟨rfl,h2,h3,h4⟩:=hq
 exact⟨.inl ⟨.bool true,.bool true,[],rfl,fun _=>rfl,.bool true,zli l _,fun _=>⟨List.Pairwise.nil,fun _ hm=>(nomatch hm)⟩⟩,h2,h3,h4⟩
section
variable {prog:y0q} {w:World} {A:Around} {E:Value->y04->Prop} {s:y04} {K:Frag}
end
end Att
namespace L2
open PySem PySem.Spec PyProof.Rows
theorem zdu:∀{vs:List Value} {ns:List Int},IntsAre vs ns->Vals (ns.map V.int) vs
 | _,_,.nil=>.nil
 | _,_,.cons n t h=>.cons ⟨t,rfl⟩ (zdu h)
def Only (H:Hp):Prop:=∀b,H b=none\/∃o xs,H b=some (.frz o (.lst xs))
theorem zoy {P:y0q} {w:World} {K:y00} {mg mb:Str->Option Value} {CX:CXT} {k:Nat} {fa a:Addr} {fd:y0b} {x:Str} {sp:Sp} {s₁:y04} {vs:List Value} {ns:List Int}
  (KX:K.In s₁.heap) (hns:s₁.heap.Ns y0n mg) (hb:s₁.heap.Ns builtinsNs mb) (hbb:∀x:Str,x≠"__name__"->mb x=bootBuiltins x) (hlim:s₁.heap.NoLimit) (hg:s₁.gens=#[])
  (ha:s₁.heap.get? a=some { cls:=.type "list",data:=.seq vs.toArray }) (hi:IntsAre vs ns) (hl:ns.length<=y0j) (hr:Room k callerA)
  (F:∀base:Heap,K.In base->base.Ns y0n mg->FnOk P w K mg base CX k fa fd [x] sp) (hbind:∀(s:y04) (u:Value),BindsTo s fd ⟨[u],[]⟩ [(x,u)])
  (hsp:∀H:Hp,Only H->SqL K H a (ns.map V.int)->sp [.ref a] H (fun v _=>v=.bl true) fun _ _ _=>False)
  (hCX:∀H e s',CX [] H s₁ (fun _ _ _=>False) e s'->False) :
  codeAny (y2r P w) callerA (.call (.ref fa) ⟨[.ref a],[]⟩) (fun r s'=>r=.ok (.ret (.bool true))/\OldK s₁.heap s'.heap/\s'.os=s₁.os/\AllBare s'.gens) s₁:=by
 have rv:=zdu hi
 have lenV:=hi.length
 have core:∀H:Hp,Only H->SqL K H a (ns.map V.int)->HOk P w H s₁.heap->(∀b,H b≠none->b=a)->(H a≠none->K.lookup a=none) ->
   codeAny (y2r P w) callerA (.call (.ref fa) ⟨[.ref a],[]⟩) (fun r s'=>r=.ok (.ret (.bool true))/\OldK s₁.heap s'.heap/\s'.os=s₁.os/\AllBare s'.gens) s₁:=by
  intro H hO hS hok hA hK
  have base_of:∀{b:Addr} {o:Obj},s₁.heap.get? b=some o->H b=none->(hidT s₁.heap H).get? b=some o:=fun e n=>zp5 e n
  have noA:∀{b:Addr} {o:Obj} {es:Array DictEntry} {ep:Nat},s₁.heap.get? b=some o->o.data=.dict es ep->H b=none:=fun {b o es ep} e d=>by
   cases q:H b with
   | none=>rfl
   | some u =>
    have e':b=a:=hA b (by rw[q];simp)
    subst e'
    rw[ha] at e;cases e
    have d':Data.seq vs.toArray _=Data.dict es ep:=d
    cases d'
  have nsK:∀{b:Addr} {m:Str->Option Value},s₁.heap.Ns b m->(hidT s₁.heap H).Ns b m:=fun {b m} ⟨o,es,ep,e,d,r⟩=>⟨o,es,ep,base_of e (noA e d),d,r⟩
  have hKb:K.In (hidT s₁.heap H):=fun b o e=>base_of (KX b o e) (by
   cases q:H b with
   | none=>rfl
   | some u =>
    have e':b=a:=hA b (by rw[q];simp)
    subst e'
    rw[hK (by rw[q];simp)] at e;cases e)
  have hM:Mod K mg (hidT s₁.heap H):=⟨hKb,nsK hns,⟨mb,nsK hb,hbb⟩,let ⟨mc,h1,h2⟩:=hlim;⟨mc,nsK h1,h2⟩⟩
  have e0:Env0 P w K mg (hidT s₁.heap H) callerA [] s₁ H:=⟨rfl,hM,fun b o e=>zrv e,Nat.le_of_eq (zmh _ _),trivial,fun b hb=>absurd (show b∈([]:List Addr) from hb) (by simp),hok,.of_eq hg⟩
  refine codeAny_mono ((F _ hKb (nsK hns)).run callerA [] s₁ H ⟨[.ref a],[]⟩ [.ref a] [.ref a] _ _ hr e0 (hbind s₁ (.ref a)) (.cons rfl .nil) (hsp H hO hS)) fun r s' h=>?_
  cases r with
  | error e=>exact (hCX H e s' h).elim
  | ok fl =>
   cases fl with
   | next=>exact y1s h
   | brk=>exact y1s h
   | cont=>exact y1s h
   | ret u =>
    obtain⟨v,H',os,bare,un,hok',r',q⟩:=h
    have q':v=.bl true:=q
    subst q'
    obtain rfl:u=Value.bool true:=r'
    refine⟨rfl,OldK.of_keep fun b o e=>?_,os,bare⟩
    cases q:H b with
    | none=>exact un.keep b o e q (by intro z;exact absurd (show b∈([]:List Addr) from z) (by simp)) (by simp)
    | some u =>
     rcases hO b with z|⟨ob,xs,z⟩
     ·rw[q] at z;cases z
     ·have z2:=un.frzs b ob _ z
      obtain⟨e1,_⟩:=hok b _ z
      obtain⟨e2,_⟩:=hok' b _ z2
      rw[e] at e1;cases e1
      exact e2
 cases hk:K.lookup a with
 | some o =>
  have e:=KX a o hk
  rw[ha] at e
  cases e
  refine core (fun _=>none) (fun _=>.inl rfl) (.inr ⟨_,vs.toArray,_,hk,rfl,rfl,rfl,by rw[y0h,lenV];exact hl,by simpa using rv⟩) (fun b u z=>by have z':(none:Option HO)=some u:=z;cases z') (fun b z=>absurd rfl z) fun z=>absurd rfl z
 | none =>
  refine core (fun b=>if b=a then some (.frz { cls:=.type "list",data:=.seq vs.toArray } (.lst (ns.map V.int))) else none) (fun b=>?_) (.inl (.inr ⟨{ cls:=.type "list",data:=.seq vs.toArray },if_pos rfl⟩)) (fun b u z=>?_) (fun b z=>?_) fun _=>hk
  ·by_cases hb:b=a
   ·exact .inr ⟨_,_,if_pos hb⟩
   ·exact .inl (if_neg hb)
  ·by_cases hb:b=a
   ·have z':=(if_pos hb).symm.trans z
    cases z'
    subst hb
    exact⟨ha,by rw[y13];exact hl,vs,_,rv,ha⟩
   ·have z':=(if_neg hb).symm.trans z
    cases z'
  ·by_cases hb:b=a
   ·exact hb
   ·exact absurd (if_neg hb) z
end L2
namespace L2
open PySem PySem.Spec PyProof.Rows
theorem walk_of {l:PySem.W.OpenLaw} {n k:Nat} {q:y0q} {loose:List Str} {XP:(Str->Option Value)->Heap->Prop} {YP:World->Heap->Prop} {d:DefRec} {K:Params->y00} {CX:World->CXT} {sp:World->Sp} {x:Str}
  (hn:l.most=some n) (hn2:n<=y0j) (hdf:d.params.defaults=[]) (hr:Room k callerA)
  (hY:∀(w:World) (h:Heap),YP w h->(K w.params).In h)
  (F:∀(w:World) (mg:Str->Option Value) (fa:Addr) (h:Heap),(K w.params).In h->h.Ns y0n mg->mg d.name=some (.ref fa) ->
   ∃fd:y0b,(∀(s:y04) (u:Value),BindsTo s fd ⟨[u],[]⟩ [(x,u)]) /\
    ∀base:Heap,(K w.params).In base->base.Ns y0n mg->FnOk l.prog w (K w.params) mg base (CX w) k fa fd [x] (sp w))
  (hsp:∀(w:World) (H:Hp) (a:Addr) (ns:List Int),ns.length<=n->Only H->SqL (K w.params) H a (ns.map V.int)->sp w [.ref a] H (fun v _=>v=.bl true) fun _ _ _=>False)
  (hCX:∀(w:World) (H:Hp) (s:y04) (e:Value) (s':y04),CX w [] H s (fun _ _ _=>False) e s'->False) :
  PySem.W.WalkO q loose XP YP l.row.toRowW d [] (fun f vs=>PySem.call f vs):=by
 refine Att.attach_call hn hdf fun w s₀ s₁ mg mb fa o pm cd doc a vs ns G Y ho hd hcd hmg hobj hints hlen hg=>?_
 have KX:=hY w _ Y
 obtain⟨fd,hb,hF⟩:=F w mg fa _ KX G.T.g hmg
 exact zoy KX G.T.g G.T.b G.T.builtins G.T.nolimit hg hobj hints (y1l hlen hn2) hr hF hb (fun H hO hS=>hsp w H a ns hlen hO hS) fun H e s'=>hCX w H s₁ e s'
end L2
namespace L2
open PySem PySem.Spec PyProof.Rows
noncomputable def z0b (s:Stmt):Arguments:=match s with
 | .FunctionDef _ a _ _ _ _ _ _ _ _=>a
 | _=>{ posonlyargs:=[],args:=[],vararg:=none,kwonlyargs:=[],kw_defaults:=[],kwarg:=none,defaults:=[] }
def z0a (s:Stmt):List Stmt:=match s with
 | .FunctionDef _ _ b _ _ _ _ _ _ _=>b
 | _=>[]
def z01 (s:Stmt):Scope:=match s with
 | .FunctionDef _ _ _ _ _ _ sc _ _ _=>sc
 | _=>{ kind:=.function,names:=[],isGenerator:=false,isCoroutine:=false }
abbrev CX0:CXT:=fun _ _ _ _ _ _=>False
abbrev E0:XK:=fun _ _ _=>False
theorem zw7 {X:Cx}:Passes CX0 X E0:=fun _ _ _ _ _ _ _ h=>h.elim
structure Fun (K:y00) (x qual:Str) (st:Stmt) (f:Addr) (fd:y0b):Prop where
 ex:∃(oc:Value) (od:Option Addr) (kV doc pm:Value) (an:Option Addr) (cdv ct:Value) (osl:Array (Option Value)),
  fd=y0i x qual (z0b st) (z0a st) (z01 st) .none kV doc pm an cdv ct/\K.lookup f=some ⟨oc,od,.func fd,osl⟩/\y0f K cdv qual=true
 kp:y08 K (.ref f)=true
section
variable {P:y0q} {w:World} {K:y00} {mg:Str->Option Value} {base:Heap}
theorem Fun.ok {x qual:Str} {st:Stmt} {f:Addr} {fd:y0b} {N ps:List Str} {k:Nat} {sp:Sp} (F:Fun K x qual st f fd) (S:FnScope N ps (z01 st)) (len:∀vs H Q E,sp vs H Q E->vs.length=ps.length)
  (hbody:∀(cdv:Value) (A:Around) (outer:List Env) (s:y04) (H:Hp) (vs:List V) (Q:VK) (E:XK),Room k (A.deeper (envOfC qual (z01 st) s.heap.objs.size f cdv))->sp vs H Q E ->
   ∃t,PSs (cxOf CX0 P w K mg base N qual (z01 st) f cdv A outer s H E).nox (z0a st) t/\t { nx:=fun _ H'=>Q .non H',rt:=Q } (start N vs) H):FnOk P w K mg base CX0 (k+1) f fd ps sp:=by
 obtain⟨oc,od,kV,doc,pm,an,cdv,ct,osl,rfl,lk,hcd⟩:=F.ex
 refine zwj lk hcd S len fun A outer s H vs Q E hr hsp=>?_
 obtain⟨t,h,q⟩:=hbody cdv A outer s H vs Q E hr hsp
 exact⟨t,h.nox,q⟩
theorem Fun.binds {x qual:Str} {st:Stmt} {f:Addr} {fd:y0b} {ps:List Str} (F:Fun K x qual st f fd)
  (h:∀(kV doc pm:Value) (an:Option Addr) (cdv ct:Value) (us:List Value),us.length=ps.length->bindArgs (y0i x qual (z0b st) (z0a st) (z01 st) .none kV doc pm an cdv ct) ⟨us,[]⟩=pure (ps.zip us)):Binds K fd ps []:=by
 obtain⟨oc,od,kV,doc,pm,an,cdv,ct,osl,rfl,lk,hcd⟩:=F.ex
 exact .all (h kV doc pm an cdv ct)
theorem z0k {x qual:Str} {st:Stmt} {f:Addr} {oc:Value} {od an:Option Addr} {osl:Array (Option Value)} {kV doc pm cdv ct:Value} (l:K.lookup f=some ⟨oc,od,.func (y0i x qual (z0b st) (z0a st) (z01 st) .none kV doc pm an cdv ct),osl⟩)
  (c:y0f K cdv qual=true) (k:y08 K (.ref f)=true):Fun K x qual st f (y0i x qual (z0b st) (z0a st) (z01 st) .none kV doc pm an cdv ct):=⟨⟨oc,od,kV,doc,pm,an,cdv,ct,osl,rfl,l,c⟩,k⟩
end
section
variable {X:Cx}
theorem pv (i:Nat) {x:Str} {pos:Pos} (hN:X.N[i]?=some x:=by rfl) (hv:Vis X.env.scope x:=by first|exact Or.inl rfl|exact Or.inr (Or.inl rfl)|exact Or.inr (Or.inr rfl)) (hd:(x == ("__debug__":Str))=false:=by decide)
  (hcd:(x == ("__classdict__":Str))=false:=by decide):PE X (.Name x pos) (tVar i):=ztv hN hv hd hcd
end
theorem iteF {A B:Prop} (h:B):if false=true then A else B:=by
 rw[if_neg y1y]
 exact h
theorem iteT {A B:Prop} (h:A):if true=true then A else B:=by
 rw[if_pos rfl]
 exact h
def Same (H H':Hp):Prop:=∀b o,H b=some o->H' b=some o
end L2
end
section
namespace D
open PySem
abbrev T:=PyData
def okT (a:T):Bool:=a.canLay0 && decide (a.depth<=60)
def okL (as:List T):Bool:=y1e as && decide (y1c as<=60)
abbrev Key:=Sum Int Str
inductive Md where
 | ro|own|lent
 deriving DecidableEq
inductive Sl where
 | imm (t:T)|own (ts:List T)|dic (kvs:List (Key×T))|obj (m:Md) (c:Nat) (fs:List Sl)
abbrev Ev:=List (Option Sl)
inductive Out where
 | nx (ε:Ev)|rt (t:T)|bk (ε:Ev)|ct (ε:Ev)|rtm (t:T) (ε:Ev)|rto (s:Sl)
abbrev Fe:=Ev->Option T
abbrev Ft:=Ev->Option Bool
abbrev Fs:=Ev->Option Out
abbrev Fi:=Ev->Option (List T)
abbrev Fg:=T->Ev->Option Ev
def big:Nat:=16777216
noncomputable def oAdd:T->T->Option T
 | .int i,.int j=>some (.int (i+j))
 | .str x,.str y=>if x.length+y.length<=big then some (.str (x++y)) else none
 | .tuple xs,.tuple ys=>if xs.length+ys.length<=big then some (.tuple (xs++ys)) else none
 | .list xs,.list ys=>if xs.length+ys.length<=big then some (.list (xs++ys)) else none
 | _,_=>none
def oSub:T->T->Option T
 | .int i,.int j=>some (.int (i - j))
 | _,_=>none
def zjx (i j:Int):Bool:=(decide (-(2 ^ 64)<i) && decide (i<2 ^ 64)) || (decide (-(2 ^ 64)<j) && decide (j<2 ^ 64))
def oMul:T->T->Option T
 | .int i,.int j=>if zjx i j then some (.int (i*j)) else none
 | _,_=>none
def oDiv:T->T->Option T
 | .int i,.int j=>if 0<j/\j<1073741824 then some (.int (i / j)) else none
 | _,_=>none
def oMod:T->T->Option T
 | .int i,.int j=>if 0<j then some (.int (i % j)) else none
 | _,_=>none
def oNeg:T->Option T
 | .int i=>some (.int (-i))
 | _=>none
def ixOf (n:Nat) (i:Int):Option Nat:=if 0<=i then (if i<n then some i.toNat else none) else if -(n:Int)<=i then some (i+n).toNat else none
def atZ {α:Type} (xs:List α) (i:Int):Option α:=(ixOf xs.length i).bind fun j=>xs[j]?
noncomputable def oIx:T->T->Option T
 | .tuple xs,.int i=>atZ xs i
 | .list xs,.int i=>atZ xs i
 | .str x,.int i=>if x.length<=big then (atZ x.cps.toList i).map fun c=>.str ⟨#[c]⟩ else none
 | _,_=>none
def oEq (a b:T):Option T:=if okT a && okT b then some (.bool (y1v a b)) else none
def oNe (a b:T):Option T:=if okT a && okT b then some (.bool (!PyData.eqv a b)) else none
def oIsN (a:T):Option T:=some (.bool (match a with|.none=>true|_=>false))
def z5i (a:T):Option T:=some (.bool (match a with|.none=>false|_=>true))
def strLt (x y:Str):Bool:=decide (x.cps.toList<y.cps.toList)
def oLt:T->T->Option T
 | .int i,.int j=>some (.bool (decide (i<j)))
 | .str x,.str y=>some (.bool (strLt x y))
 | _,_=>none
def oLe:T->T->Option T
 | .int i,.int j=>some (.bool (decide (i<=j)))
 | .str x,.str y=>some (.bool (!strLt y x))
 | _,_=>none
def oGt:T->T->Option T
 | .int i,.int j=>some (.bool (decide (j<i)))
 | .str x,.str y=>some (.bool (strLt y x))
 | _,_=>none
def oGe:T->T->Option T
 | .int i,.int j=>some (.bool (decide (j<=i)))
 | .str x,.str y=>some (.bool (!strLt x y))
 | _,_=>none
def hasT (x:T) (ts:List T):Bool:=ts.any fun y=>y1v y x
noncomputable def oIn (neg:Bool):T->T->Option T
 | x,.tuple ys=>if okT x && okL ys then some (.bool (if neg then !hasT x ys else hasT x ys)) else none
 | x,.list ys=>if okT x && okL ys then some (.bool (if neg then !hasT x ys else hasT x ys)) else none
 | _,_=>none
def oLen:List T->Option T
 | [.tuple xs]=>some (.int xs.length)
 | [.list xs]=>some (.int xs.length)
 | [.str x]=>if x.length<=big then some (.int x.length) else none
 | _=>none
def oMin:List T->Option T
 | [.int i,.int j]=>some (.int (if j<i then j else i))
 | _=>none
def oMax:List T->Option T
 | [.int i,.int j]=>some (.int (if j > i then j else i))
 | _=>none
def z0t:List T->Option T
 | [.tuple xs]=>some (.tuple xs)
 | [.list xs]=>some (.tuple xs)
 | _=>none
def zok:List T->Option T
 | [.tuple xs]=>some (.list xs)
 | [.list xs]=>some (.list xs)
 | _=>none
def oInt:List T->Option T
 | [.int i]=>some (.int i)
 | [.bool b]=>some (.int (if b then 1 else 0))
 | _=>none
def sIx (n d:Nat):Option Int->Nat
 | none=>d
 | some v=>(if v<0 then max (v+n) 0 else min v n).toNat
def cutZ {α:Type} (xs:List α) (lo hi:Option Int):List α:=(xs.drop (sIx xs.length 0 lo)).take (sIx xs.length xs.length hi - sIx xs.length 0 lo)
def oSl (t:T) (lo hi:Option Int):Option T:=match t with
 | .tuple xs=>some (.tuple (cutZ xs lo hi))
 | .list xs=>some (.list (cutZ xs lo hi))
 | _=>none
def intsOf:List T->Option (List Int)
 | []=>some []
 | .int i::ts=>(intsOf ts).map fun r=>i::r
 | _::_=>none
def strsOf:List T->Option (List Str)
 | []=>some []
 | .str x::ts=>(strsOf ts).map fun r=>x::r
 | _::_=>none
def insI (x:Int):List Int->List Int
 | []=>[x]
 | y::ys=>if x<=y then x::y::ys else y::insI x ys
def sortI:List Int->List Int
 | []=>[]
 | x::xs=>insI x (sortI xs)
def insS (x:Str):List Str->List Str
 | []=>[x]
 | y::ys=>if !strLt y x then x::y::ys else y::insS x ys
def znv:List Str->List Str
 | []=>[]
 | x::xs=>insS x (znv xs)
def dedup {α:Type} [DecidableEq α]:List α->List α
 | []=>[]
 | x::xs=>x::(dedup xs).filter fun y=>decide (y≠x)
def keyOf:T->Option Key
 | .int i=>some (.inl i)
 | .str x=>some (.inr x)
 | _=>none
def putD (kvs:List (Key×T)) (k:Key) (v:T):List (Key×T):=if kvs.any (fun p=>decide (p.1=k)) then kvs.map fun p=>if p.1=k then (k,v) else p else kvs++[(k,v)]
def getD (kvs:List (Key×T)) (k:Key):Option T:=(kvs.find? fun p=>decide (p.1=k)).map (·.2)
def cst (t:T):Fe:=fun _=>some t
def nm (i:Nat):Fe:=fun ε=>match ε[i]? with
 | some (some (.imm t))=>some t
 | some (some (.own ts))=>some (.list ts)
 | _=>none
def nmV (i:Nat):Fe:=fun ε=>match ε[i]? with
 | some (some (.imm t))=>some t
 | _=>none
def op1 (o:T->Option T) (f:Fe):Fe:=fun ε=>(f ε).bind o
def op2 (o:T->T->Option T) (f g:Fe):Fe:=fun ε=>(f ε).bind fun x=>(g ε).bind fun y=>o x y
def args:List Fe->Ev->Option (List T)
 | [],_=>some []
 | f::fs,ε=>(f ε).bind fun t=>(args fs ε).map fun ts=>t::ts
def opN (o:List T->Option T) (fs:List Fe):Fe:=fun ε=>(args fs ε).bind o
def z06 (fs:List Fe):Fe:=fun ε=>(args fs ε).bind fun ts=>if ts.length<=big then some (.tuple ts) else none
def z3g (fs:List Fe):Fe:=fun ε=>(args fs ε).bind fun ts=>if ts.length<=big then some (.list ts) else none
def opt (f:Fe):Ev->Option (Option Int):=fun ε=>(f ε).bind fun t=>match t with|.int i=>some (some i)|_=>none
def optN:Ev->Option (Option Int):=fun _=>some none
def slice (f:Fe) (lo hi:Ev->Option (Option Int)):Fe:=fun ε=>(f ε).bind fun t=>(lo ε).bind fun l=>(hi ε).bind fun h=>oSl t l h
def andV (f g:Fe):Fe:=fun ε=>(f ε).bind fun t=>match t with|.bool true=>g ε|.bool false=>some (.bool false)|_=>none
def orV (f g:Fe):Fe:=fun ε=>(f ε).bind fun t=>match t with|.bool false=>g ε|.bool true=>some (.bool true)|_=>none
def notV (f:Fe):Fe:=fun ε=>(f ε).bind fun t=>match t with|.bool b=>some (.bool (!b))|_=>none
noncomputable def chain (o p:T->T->Option T) (f g h:Fe):Fe:=fun ε=>(f ε).bind fun x=>(g ε).bind fun y=>(o x y).bind fun r=>match r with
 | .bool true=>(h ε).bind fun z=>p y z
 | .bool false=>some (.bool false)
 | _=>none
def tstB (f:Fe):Ft:=fun ε=>(f ε).bind fun t=>match t with|.bool b=>some b|_=>none
def tstL (f:Fe):Ft:=fun ε=>(f ε).bind fun t=>match t with|.list ts=>some (!ts.isEmpty)|.tuple ts=>some (!ts.isEmpty)|_=>none
def andT (f g:Ft):Ft:=fun ε=>(f ε).bind fun b=>if b then g ε else some false
def orT (f g:Ft):Ft:=fun ε=>(f ε).bind fun b=>if b then some true else g ε
def notT (f:Ft):Ft:=fun ε=>(f ε).map fun b=>!b
def ifE (c:Ft) (f g:Fe):Fe:=fun ε=>(c ε).bind fun b=>if b then f ε else g ε
def cstT (b:Bool):Ft:=fun _=>some b
def ofT (c:Ft):Fe:=fun ε=>(c ε).map .bool
def z3n (f:Fe):Fi:=fun ε=>(f ε).bind fun t=>match t with|.tuple ts=>some ts|.list ts=>some ts|_=>none
def z9o (f:Fe):Fi:=fun ε=>(f ε).bind fun t=>match t with|.tuple ts=>some ts|_=>none
def rng (lo hi:Int):List T:=(List.range (hi - lo).toNat).map fun (k:Nat)=>.int (lo+(k:Int))
def z6h (i:Int):Bool:=decide (-(2 ^ 62)<=i) && decide (i<2 ^ 62)
def z3p (f:Fe):Fi:=fun ε=>(f ε).bind fun t=>match t with|.int j=>if z6h j then some (rng 0 j) else none|_=>none
def enum (ts:List T):List T:=ts.zipIdx.map fun p=>.tuple [.int p.2,p.1]
def z6e (f:Fi):Fi:=fun ε=>(f ε).map enum
def gNm (i:Nat):Fg:=fun t ε=>some (ε.set i (some (.imm t)))
def gAll:List Fg->List T->Ev->Option Ev
 | [],[],ε=>some ε
 | g::gs,t::ts,ε=>(g t ε).bind fun ε'=>gAll gs ts ε'
 | _,_,_=>none
def gTu (gs:List Fg):Fg:=fun t ε=>match t with|.tuple ts=>gAll gs ts ε|_=>none
noncomputable def z36 (g:Fg) (c:Ft) (e:Fe):List T->Ev->Option (List T)
 | [],_=>some []
 | t::ts,ε=>(g t ε).bind fun ε1=>(c ε1).bind fun b=>if b then (e ε1).bind fun y=>(z36 g c e ts ε1).map fun ys=>y::ys else z36 g c e ts ε1
def z2t (own:Nat) (caps:List Nat) (ε:Ev):Ev:=y0g own none++caps.map fun i=>(ε[i]?).join
def comp (own:Nat) (caps:List Nat) (it:Fi) (g:Fg) (c:Ft) (e:Fe):Fe:=fun ε=>(it ε).bind fun ts=>if ts.length<=big then (z36 g c e ts (z2t own caps ε)).map .list else none
def skip:Fs:=fun ε=>some (.nx ε)
def seq (a b:Fs):Fs:=fun ε=>(a ε).bind fun o=>match o with|.nx ε'=>b ε'|o=>some o
def asg (i:Nat) (f:Fe):Fs:=fun ε=>(f ε).map fun t=>.nx (ε.set i (some (.imm t)))
def asgN (i:Nat) (f:Fe):Fs:=fun ε=>(f ε).bind fun t=>match t with|.list ts=>some (.nx (ε.set i (some (.own ts))))|_=>none
def asgT (g:Fg) (f:Fe):Fs:=fun ε=>(f ε).bind fun t=>(g t ε).map .nx
def rtn (f:Fe):Fs:=fun ε=>(f ε).map .rt
def iff (c:Ft) (a b:Fs):Fs:=fun ε=>(c ε).bind fun x=>if x then a ε else b ε
def brk:Fs:=fun ε=>some (.bk ε)
noncomputable def forL (g:Fg) (b:Fs):List T->Ev->Option Out
 | [],ε=>some (.nx ε)
 | t::ts,ε=>(g t ε).bind fun ε1=>(b ε1).bind fun o=>match o with
  | .nx ε2=>forL g b ts ε2
  | .ct ε2=>forL g b ts ε2
  | .bk ε2=>some (.nx ε2)
  | .rt t=>some (.rt t)
  | .rtm t ε2=>some (.rtm t ε2)
  | .rto s=>some (.rto s)
def for_ (it:Fi) (g:Fg) (b:Fs):Fs:=fun ε=>(it ε).bind fun ts=>forL g b ts ε
noncomputable def whl (c:Ft) (b:Fs):Nat->Fs
 | 0,_=>none
 | n+1,ε=>(c ε).bind fun x=>if x then (b ε).bind fun o=>(match o with
   | .nx ε2=>whl c b n ε2
   | .ct ε2=>whl c b n ε2
   | .bk ε2=>some (.nx ε2)
   | .rt t=>some (.rt t)
   | .rtm t ε2=>some (.rtm t ε2)
   | .rto s=>some (.rto s)) else some (.nx ε)
noncomputable def app (i:Nat) (f:Fe):Fs:=fun ε=>match ε[i]? with
 | some (some (.own ts))=>(f ε).bind fun t=>if ts.length<big then some (.nx (ε.set i (some (.own (ts++[t]))))) else none
 | _=>none
noncomputable def ext (i:Nat) (f:Fe):Fs:=fun ε=>match ε[i]? with
 | some (some (.own ts))=>(f ε).bind fun t=>match t with
  | .list us=>if ts.length+us.length<=big then some (.nx (ε.set i (some (.own (ts++us))))) else none
  | _=>none
 | _=>none
noncomputable def par (i j:Nat) (own:Bool) (f g:Fe):Fs:=fun ε=>(f ε).bind fun t=>(g ε).bind fun u=>if own then (match u with|.list us=>some (.nx ((ε.set i (some (.imm t))).set j (some (.own us))))|_=>none) else some (.nx ((ε.set i (some (.imm t))).set j (some (.imm u))))
noncomputable def runF (b:Fs) (n:Nat) (as:List T):Option T:=(b ((as.map fun t=>some (.imm t))++y0g (n - as.length) none)).bind fun o=>match o with
 | .rt t=>some t
 | .nx _=>some .none
 | _=>none
end D
end
section
namespace D
open PySem PySem.Spec PyProof.Rows L2
section
mutual
noncomputable def Rep (K:y00) (F:Addr->Prop) (H:Hp):T->V->Prop
 | .none,v=>v=.non
 | .bool b,v=>v=.bl b
 | .int i,v=>v=.int i
 | .str x,v=>v=.str x
 | .dict _,_=>False
 | .tuple ts,v=>∃a vs,v=.ref a/\SqT K H a vs/\RepL K F H ts vs
 | .list ts,v=>∃a vs,v=.ref a/\F a/\Rd H a (.lst vs)/\RepL K F H ts vs
noncomputable def RepL (K:y00) (F:Addr->Prop) (H:Hp):List T->List V->Prop
 | [],vs=>vs=[]
 | t::ts,vs=>∃v r,vs=v::r/\Rep K F H t v/\RepL K F H ts r
end
section
variable {K:y00} {F F':Addr->Prop} {H H':Hp}
mutual
theorem Rep.keep (h1:∀b xs,SqT K H b xs->SqT K H' b xs) (h2:∀b xs,F b->Rd H b (.lst xs)->F' b/\Rd H' b (.lst xs)):∀{t:T} {v:V},Rep K F H t v->Rep K F' H' t v
 | .none,v,h=>by simpa [Rep] using h
 | .bool _,v,h=>by simpa [Rep] using h
 | .dict _,v,h=>by simp[Rep] at h
 | .int _,v,h=>by simpa [Rep] using h
 | .str _,v,h=>by simpa [Rep] using h
 | .tuple ts,v,h=>by
  simp only[Rep] at h ⊢
  obtain⟨a,vs,e,q,r⟩:=h
  exact⟨a,vs,e,h1 _ _ q,RepL.keep h1 h2 r⟩
 | .list ts,v,h=>by
  simp only[Rep] at h ⊢
  obtain⟨a,vs,e,f,q,r⟩:=h
  exact⟨a,vs,e,(h2 _ _ f q).1,(h2 _ _ f q).2,RepL.keep h1 h2 r⟩
theorem RepL.keep (h1:∀b xs,SqT K H b xs->SqT K H' b xs) (h2:∀b xs,F b->Rd H b (.lst xs)->F' b/\Rd H' b (.lst xs)):∀{ts:List T} {vs:List V},RepL K F H ts vs->RepL K F' H' ts vs
 | [],vs,h=>by simpa [RepL] using h
 | t::ts,vs,h=>by
  simp only[RepL] at h ⊢
  obtain⟨v,r,e,q,z⟩:=h
  exact⟨v,r,e,Rep.keep h1 h2 q,RepL.keep h1 h2 z⟩
end
theorem RepL.nil:RepL K F H [] []:=by simp[RepL]
theorem RepL.cons {t:T} {v:V} {ts:List T} {vs:List V} (h:Rep K F H t v) (r:RepL K F H ts vs):RepL K F H (t::ts) (v::vs):=by
 simp only[RepL]
 exact⟨v,vs,rfl,h,r⟩
theorem RepL.length:∀{ts:List T} {vs:List V},RepL K F H ts vs->ts.length=vs.length
 | [],vs,h=>by
  simp only[RepL] at h
  subst h
  rfl
 | t::ts,vs,h=>by
  simp only[RepL] at h
  obtain⟨v,r,e,q,z⟩:=h
  subst e
  simp[RepL.length z]
theorem RepL.get:∀{ts:List T} {vs:List V} {i:Nat} {t:T},RepL K F H ts vs->ts[i]?=some t->∃v,vs[i]?=some v/\Rep K F H t v
 | [],vs,i,t,h,e=>by simp at e
 | x::ts,vs,0,t,h,e=>by
  simp only[RepL] at h
  obtain⟨v,r,rfl,q,z⟩:=h
  simp at e
  subst e
  exact⟨v,rfl,q⟩
 | x::ts,vs,i+1,t,h,e=>by
  simp only[RepL] at h
  obtain⟨v,r,rfl,q,z⟩:=h
  obtain⟨u,h1,h2⟩:=RepL.get (i:=i) (t:=t) z (by simpa using e)
  exact⟨u,by simpa using h1,h2⟩
theorem RepL.append:∀{ts us:List T} {vs ws:List V},RepL K F H ts vs->RepL K F H us ws->RepL K F H (ts++us) (vs++ws)
 | [],us,vs,ws,h,r=>by
  simp only[RepL] at h
  subst h
  exact r
 | t::ts,us,vs,ws,h,r=>by
  simp only[RepL] at h
  obtain⟨v,z,rfl,q,y⟩:=h
  exact RepL.cons q (RepL.append y r)
theorem RepL.take:∀{ts:List T} {vs:List V} (n:Nat),RepL K F H ts vs->RepL K F H (ts.take n) (vs.take n)
 | [],vs,n,h=>by
  simp only[RepL] at h
  subst h
  simpa using RepL.nil
 | t::ts,vs,0,h=>by simpa using RepL.nil
 | t::ts,vs,n+1,h=>by
  simp only[RepL] at h
  obtain⟨v,z,rfl,q,y⟩:=h
  simpa using RepL.cons q (RepL.take n y)
theorem RepL.drop:∀{ts:List T} {vs:List V} (n:Nat),RepL K F H ts vs->RepL K F H (ts.drop n) (vs.drop n)
 | [],vs,n,h=>by
  simp only[RepL] at h
  subst h
  simpa using RepL.nil
 | t::ts,vs,0,h=>by simpa using h
 | t::ts,vs,n+1,h=>by
  simp only[RepL] at h
  obtain⟨v,z,rfl,q,y⟩:=h
  simpa using RepL.drop n y
end
class Tbl where
 tb:List (Addr×Str)
 cn:Nat->List Str
 ck:Nat->Option Addr
noncomputable def TbG (H:Hp) (b:Addr) (q:Str):Prop:=∃ps:Array Value,H b=some (.tbl ps)/\TriplesOk ps.toList/\∀pos cv,codeAmong pos ps.toList=some cv->∃c,cv=.ref c/\H c=some (.ext fun h=>h.CodeRec (.ref c) q)
def TbS [t:Tbl] (H:Hp):Prop:=∀p∈t.tb,TbG H p.1 p.2
theorem TbG.keep {H H':Hp} {b:Addr} {q:Str} (h:TbG H b q) (k1:∀a ps,H a=some (.tbl ps)->H' a=some (.tbl ps)) (k2:∀a φ,H a=some (.ext φ)->H' a=some (.ext φ)):TbG H' b q:=by
 obtain⟨ps,h1,h2,h3⟩:=h
 refine⟨ps,k1 _ _ h1,h2,fun pos cv e=>?_⟩
 obtain⟨c,e1,e2⟩:=h3 pos cv e
 exact⟨c,e1,k2 _ _ e2⟩
variable [Tbl]
def HoM (u:HO):Prop:=(∃xs,u=.lst xs)\/(∃xs,u=.dK xs)\/∃C dx fs,u=.ins C dx fs
theorem HoM.cases {P:Prop} {u:HO} (h:HoM u) (h1:∀xs,u=.lst xs->P) (h2:∀xs,u=.dK xs->P) (h3:∀C dx fs,u=.ins C dx fs->P):P:=by
 rcases h with ⟨xs,e⟩|⟨xs,e⟩|⟨C,dx,fs,e⟩
 ·exact h1 xs e
 ·exact h2 xs e
 ·exact h3 C dx fs e
theorem TbS.updM {H:Hp} (h:TbS H) {p:Addr} {o:HO} (hp:∀u,H p=some u->HoM u):TbS (upd H p o):=fun b hb =>
 (h b hb).keep (fun a ps e=>by
  have nb:a≠p:=by
   rintro rfl
   exact (hp _ e).cases (fun _ z=>by cases z) (fun _ z=>by cases z) (fun _ _ _ z=>by cases z)
  rw[z0i nb];exact e) fun a φ e=>by
  have nb:a≠p:=by
   rintro rfl
   exact (hp _ e).cases (fun _ z=>by cases z) (fun _ z=>by cases z) (fun _ _ _ z=>by cases z)
  rw[z0i nb];exact e
theorem TbS.upd {H:Hp} (h:TbS H) {p:Addr} {o:HO} (hp:∀u,H p=some u->(∃xs,u=.lst xs)\/∃xs,u=.dK xs):TbS (upd H p o):=h.updM fun u e=>by
 rcases hp u e with z|z
 ·exact .inl z
 ·exact .inr (.inl z)
theorem TbS.new {H:Hp} (h:TbS H) {p:Addr} {o:HO} (hp:H p=none):TbS (L2.upd H p o):=h.upd fun u e=>by rw[hp] at e;cases e
structure Dom (F:Addr->Prop) (H:Hp):Prop where
 dm:∀a,F a->∃o,H a=some o
 tgs:TbS H
instance {F:Addr->Prop} {H:Hp}:CoeFun (Dom F H) fun _=>∀a,F a->∃o,H a=some o:=⟨Dom.dm⟩
def z7g (H H':Hp):Prop:=∀b o,H b=some o->H' b=some o\/∃ps ps',o=.tbl ps/\H' b=some (.tbl ps')
theorem z7g.refl (H:Hp):z7g H H:=fun _ _ h=>.inl h
theorem z7g.ne {H H':Hp} (s:z7g H H') {b:Addr} {o:HO} (e:H b=some o):∃u,H' b=some u:=by
 rcases s b o e with h|⟨_,_,_,h⟩
 ·exact⟨_,h⟩
 ·exact⟨_,h⟩
theorem z7g.none {H H':Hp} (s:z7g H H') {b:Addr} (e:H' b=none):H b=none:=by
 cases z:H b with
 | none=>rfl
 | some o =>
  obtain⟨u,q⟩:=s.ne z
  rw[e] at q
  cases q
theorem z7g.get {H H':Hp} (s:z7g H H') {b:Addr} {o:HO} (e:H b=some o) (n:∀ps,o≠.tbl ps:=by intro _ z;cases z):H' b=some o:=by
 rcases s b o e with h|⟨_,_,z,_⟩
 ·exact h
 ·exact absurd z (n _)
theorem z7g.trans {H H1 H2:Hp} (a:z7g H H1) (b:z7g H1 H2):z7g H H2:=fun c o h=>by
 rcases a c o h with q|⟨ps,ps1,z,q⟩
 ·exact b c o q
 ·rcases b c _ q with q2|⟨_,ps2,z2,q2⟩
  ·exact .inr ⟨ps,ps1,z,q2⟩
  ·exact .inr ⟨ps,ps2,z,q2⟩
structure Ext (F:Addr->Prop) (H:Hp) (F':Addr->Prop) (H':Hp):Prop where
 same:z7g H H'
 sub:∀a,F a->F' a
 new:∀a,F' a->F a\/H a=none
 dom:Dom F' H'
section
variable {K:y00} {F F1 F2:Addr->Prop} {H H1 H2:Hp}
theorem Ext.refl (d:Dom F H):Ext F H F H:=⟨z7g.refl H,fun _ h=>h,fun _ h=>.inl h,d⟩
theorem Ext.trans (a:Ext F H F1 H1) (b:Ext F1 H1 F2 H2):Ext F H F2 H2 :=
 ⟨a.same.trans b.same,fun x h=>b.sub x (a.sub x h),fun x h=>(b.new x h).elim (fun z=>a.new x z) fun z=>.inr (a.same.none z),b.dom⟩
theorem Rd.same {a:Addr} {u:HO} (s:z7g H H1) (r:Rd H a u) (n:∀ps,u≠.tbl ps:=by intro _ z;cases z):Rd H1 a u:=by
 rcases r with r|⟨o,r⟩
 ·exact .inl (s.get r n)
 ·exact .inr ⟨o,s.get r⟩
theorem SqT.same {a:Addr} {xs:List V} (s:z7g H H1) (r:SqT K H a xs):SqT K H1 a xs:=by
 rcases r with r|r
 ·exact .inl (Rd.same s r)
 ·exact .inr r
theorem Rep.ext {t:T} {v:V} (r:Rep K F H t v) (x:Ext F H F1 H1):Rep K F1 H1 t v:=r.keep (fun _ _ q=>SqT.same x.same q) fun b _ f q=>⟨x.sub b f,Rd.same x.same q⟩
theorem RepL.ext {t:List T} {v:List V} (r:RepL K F H t v) (x:Ext F H F1 H1):RepL K F1 H1 t v:=r.keep (fun _ _ q=>SqT.same x.same q) fun b _ f q=>⟨x.sub b f,Rd.same x.same q⟩
theorem Ext.laid {p:Addr} {o:HO} (d:Dom F H) (hp:H p=none):Ext F H F (upd H p o) :=
 ⟨fun b u q=>.inl (same_new' hp o b u q),fun _ h=>h,fun _ h=>.inl h,⟨fun a h=>by
  obtain⟨u,e⟩:=d a h
  exact⟨u,same_new' hp o a u e⟩,d.tgs.new hp⟩⟩
where same_new' {H:Hp} {p:Addr} (h:H p=none) (o:HO):Same H (upd H p o):=fun b u q=>by rw[z0i (z0x q h)];exact q
theorem Ext.laidF {p:Addr} {o:HO} (d:Dom F H) (hp:H p=none):Ext F H (fun a=>F a\/a=p) (upd H p o) :=
 ⟨fun b u q=>.inl (Ext.laid.same_new' hp o b u q),fun _ h=>.inl h,fun a h=>by
  rcases h with h|rfl
  ·exact .inl h
  ·exact .inr hp,⟨fun a h=>by
  rcases h with h|rfl
  ·obtain⟨u,e⟩:=d a h
   exact⟨u,Ext.laid.same_new' hp o a u e⟩
  ·exact⟨o,z0n⟩,d.tgs.new hp⟩⟩
end
structure Kp (K:y00) (F:Addr->Prop) (H:Hp) (F':Addr->Prop) (H':Hp):Prop where
 tup:∀b xs,SqT K H b xs->SqT K H' b xs
 lst:∀b xs,F b->Rd H b (.lst xs)->F' b/\Rd H' b (.lst xs)
section
variable {K:y00} {F F1 F2:Addr->Prop} {H H1 H2:Hp}
theorem Kp.refl:Kp K F H F H:=⟨fun _ _ h=>h,fun _ _ f h=>⟨f,h⟩⟩
theorem Kp.trans (a:Kp K F H F1 H1) (b:Kp K F1 H1 F2 H2):Kp K F H F2 H2:=⟨fun x xs h=>b.tup x xs (a.tup x xs h),fun x xs f h=>b.lst x xs (a.lst x xs f h).1 (a.lst x xs f h).2⟩
theorem Ext.kp (x:Ext F H F1 H1):Kp K F H F1 H1:=⟨fun _ _ q=>SqT.same x.same q,fun b _ f q=>⟨x.sub b f,Rd.same x.same q⟩⟩
theorem Rep.kp {t:T} {v:V} (r:Rep K F H t v) (x:Kp K F H F1 H1):Rep K F1 H1 t v:=r.keep x.tup x.lst
theorem RepL.kp {t:List T} {v:List V} (r:RepL K F H t v) (x:Kp K F H F1 H1):RepL K F1 H1 t v:=r.keep x.tup x.lst
end
def RepR (K:y00) (O F:Addr->Prop) (H:Hp) (t:T) (v:V):Prop :=
 Rep K F H t v\/∃ts a vs,t=.list ts/\v=.ref a/\H a=some (.lst vs)/\RepL K F H ts vs
section
variable {K:y00} {O F F1:Addr->Prop} {H H1:Hp} {v:V}
theorem RepR.ext {t:T} (r:RepR K O F H t v) (x:Ext F H F1 H1):RepR K O F1 H1 t v:=by
 rcases r with r|⟨ts,a,vs,e1,e2,e4,r⟩
 ·exact .inl (r.ext x)
 ·exact .inr ⟨ts,a,vs,e1,e2,x.same.get e4,r.ext x⟩
theorem RepR.non (r:RepR K O F H .none v):v=.non:=by
 rcases r with r|⟨ts,a,vs,e1,_⟩
 ·simpa [Rep] using r
 ·cases e1
theorem RepR.bl {b:Bool} (r:RepR K O F H (.bool b) v):v=.bl b:=by
 rcases r with r|⟨ts,a,vs,e1,_⟩
 ·simpa [Rep] using r
 ·cases e1
theorem RepR.int {i:Int} (r:RepR K O F H (.int i) v):v=.int i:=by
 rcases r with r|⟨ts,a,vs,e1,_⟩
 ·simpa [Rep] using r
 ·cases e1
theorem RepR.str {x:Str} (r:RepR K O F H (.str x) v):v=.str x:=by
 rcases r with r|⟨ts,a,vs,e1,_⟩
 ·simpa [Rep] using r
 ·cases e1
theorem RepR.tup {ts:List T} (r:RepR K O F H (.tuple ts) v):∃a vs,v=.ref a/\SqT K H a vs/\RepL K F H ts vs:=by
 rcases r with r|⟨ts,a,vs,e1,_⟩
 ·simpa [Rep] using r
 ·cases e1
theorem RepR.lst {ts:List T} (r:RepR K O F H (.list ts) v):∃a vs,v=.ref a/\Rd H a (.lst vs)/\RepL K F H ts vs:=by
 rcases r with r|⟨us,a,vs,e1,e2,e4,r⟩
 ·simp only[Rep] at r
  obtain⟨a,vs,e,_,q,z⟩:=r
  exact⟨a,vs,e,q,z⟩
 ·cases e1
  exact⟨a,vs,e2,.inl e4,r⟩
end
def RepD (K:y00) (F:Addr->Prop) (H:Hp):List (D.Key×T)->List (D.Key×V)->Prop
 | [],vs=>vs=[]
 | p::ts,vs=>∃v r,vs=(p.1,v)::r/\Rep K F H p.2 v/\RepD K F H ts r
theorem RepD.kp {K:y00} {F F':Addr->Prop} {H H':Hp} (x:Kp K F H F' H'):∀{ts:List (D.Key×T)} {vs:List (D.Key×V)},RepD K F H ts vs->RepD K F' H' ts vs
 | [],vs,h=>h
 | p::ts,vs,h=>by
  obtain⟨v,r,e,q,z⟩:=h
  exact⟨v,r,e,q.kp x,RepD.kp x z⟩
structure En where
 h:Hp
 la:Addr
def rf:V->List Addr
 | .ref a=>[a]
 | _=>[]
def fp0:Sl->V->List Addr
 | .imm _,_=>[]
 | _,v=>rf v
def fpF:List Sl->List V->List Addr
 | s::ss,v::vs=>fp0 s v++fpF ss vs
 | _,_=>[]
def zi5 (H:Hp):V->List V
 | .ref a=>(match H a with
  | some (.ins _ _ kvs)=>kvs.map (·.2)
  | some (.dK kvs)=>kvs.map (·.2)
  | _=>[])
 | _=>[]
def fpS (H:Hp):Sl->V->List Addr
 | .imm _,_=>[]
 | .own _,v=>rf v
 | .dic _,v=>rf v
 | .obj _ _ fs,v=>rf v++fpF fs (zi5 H v)
noncomputable def zbs (H:Hp) (a:Addr) (c:Nat) (vs:List V):Prop:=vs.length<=(Tbl.cn c).length/\match Tbl.ck c with
 | some C=>∃dx,H a=some (.ins C dx ((Tbl.cn c).zip vs))
 | none=>H a=some (.dK (((Tbl.cn c).zip vs).map fun p=>(.inr p.1,p.2)))
noncomputable def zkp (K:y00) (F:Addr->Prop) (H:Hp):Sl->V->Prop
 | .imm t,v=>Rep K F H t v
 | .own ts,v=>∃b us,v=.ref b/\H b=some (.lst us)/\RepL K F H ts us
 | .dic kvs,v=>∃b us,v=.ref b/\H b=some (.dK us)/\RepD K F H kvs us
 | .obj _ _ _,_=>False
def RelF (K:y00) (F:Addr->Prop) (H:Hp):List Sl->List V->Prop
 | [],vs=>vs=[]
 | s::ss,vs=>∃v r,vs=v::r/\zkp K F H s v/\RelF K F H ss r
def OwnM (E:En) (O F:Addr->Prop) (m:Md) (b:Addr):Prop:=¬F b/\match m with
 | .ro=>E.h b≠none
 | _=>O b
noncomputable def z49 (K:y00) (E:En) (O F:Addr->Prop) (H:Hp):Sl->V->Prop
 | .imm t,v=>Rep K F H t v
 | .own ts,v=>∃a vs,v=.ref a/\¬F a/\O a/\H a=some (.lst vs)/\RepL K F H ts vs
 | .dic kvs,v=>∃a vs,v=.ref a/\¬F a/\O a/\H a=some (.dK vs)/\RepD K F H kvs vs
 | .obj m c fs,v=>∃a vs,v=.ref a/\zbs H a c vs/\RelF K F H fs vs/\(a::fpF fs vs).Nodup/\(∀b∈a::fpF fs vs,OwnM E O F m b)/\(m=.lent->a=E.la)
def Sl.isOwn:Sl->Bool
 | .imm _=>false
 | .obj .ro _ _=>false
 | _=>true
section
variable {K:y00} {F F' O O':Addr->Prop} {H H':Hp} {E:En}
theorem zg7 {α β:Type}:∀{xs:List α} {ys:List β},ys.length<=xs.length->(xs.zip ys).map (·.2)=ys
 | xs,[],_=>by simp
 | [],y::ys,h=>by simp at h
 | x::xs,y::ys,h=>by simp[zg7 (xs:=xs) (ys:=ys) (by simpa using h)]
theorem zbs.vals {a:Addr} {c:Nat} {vs:List V} (h:zbs H a c vs):zi5 H (.ref a)=vs:=by
 obtain⟨hl,h⟩:=h
 unfold zi5
 split at h
 ·obtain⟨dx,e⟩:=h
  simp only[e]
  exact zg7 hl
 ·simp only[h,y2b]
  exact zg7 hl
theorem zbs.mem {a:Addr} {c:Nat} {vs:List V} (h:zbs H a c vs):∃o,H a=some o/\HoM o:=by
 obtain⟨hl,h⟩:=h
 split at h
 ·obtain⟨dx,e⟩:=h
  exact⟨_,e,.inr (.inr ⟨_,_,_,rfl⟩)⟩
 ·exact⟨_,h,.inr (.inl ⟨_,rfl⟩)⟩
theorem zbs.keep {a:Addr} {c:Nat} {vs:List V} (h:zbs H a c vs) (e:H' a=H a):zbs H' a c vs:=by
 obtain⟨hl,h⟩:=h
 refine⟨hl,?_⟩
 rw[e]
 exact h
theorem zc2 {v:V} {b:Addr} (h:b∈rf v):v=.ref b:=by
 unfold rf at h
 split at h
 ·simp at h
  rw[h]
 ·simp at h
theorem zkp.at {s:Sl} {v:V} {b:Addr} (r:zkp K F H s v) (h:b∈fp0 s v):∃o,H b=some o/\HoM o:=by
 cases s with
 | imm t=>simp[fp0] at h
 | own ts =>
  obtain⟨b',us,e,eh,_⟩:=r
  have:=zc2 h
  rw[e] at this
  cases this
  exact⟨_,eh,.inl ⟨_,rfl⟩⟩
 | dic ts =>
  obtain⟨b',us,e,eh,_⟩:=r
  have:=zc2 h
  rw[e] at this
  cases this
  exact⟨_,eh,.inr (.inl ⟨_,rfl⟩)⟩
 | obj m c fs=>exact r.elim
theorem RelF.at:∀{fs:List Sl} {vs:List V} {b:Addr},RelF K F H fs vs->b∈fpF fs vs->∃o,H b=some o/\HoM o
 | [],vs,b,r,h=>by simp[fpF] at h
 | s::ss,vs,b,r,h=>by
  obtain⟨v,z,rfl,r1,r2⟩:=r
  rw[show fpF (s::ss) (v::z)=fp0 s v++fpF ss z from rfl] at h
  rcases y10.mp h with h|h
  ·exact r1.at h
  ·exact RelF.at r2 h
theorem zay {m:Md} {c:Nat} {fs:List Sl} {a:Addr} {vs:List V} (h:zbs H a c vs):fpS H (.obj m c fs) (.ref a)=a::fpF fs vs:=by
 show rf (.ref a)++fpF fs (zi5 H (.ref a))=_
 rw[h.vals]
 rfl
theorem z49.at {s:Sl} {v:V} {b:Addr} (r:z49 K E O F H s v) (h:b∈fpS H s v):∃o,H b=some o/\HoM o:=by
 cases s with
 | imm t=>simp[fpS] at h
 | own ts =>
  obtain⟨b',us,e,_,_,eh,_⟩:=r
  have:=zc2 h
  rw[e] at this
  cases this
  exact⟨_,eh,.inl ⟨_,rfl⟩⟩
 | dic ts =>
  obtain⟨b',us,e,_,_,eh,_⟩:=r
  have:=zc2 h
  rw[e] at this
  cases this
  exact⟨_,eh,.inr (.inl ⟨_,rfl⟩)⟩
 | obj m c fs =>
  obtain⟨a,vs,rfl,ha,hf,_⟩:=r
  rw[zay ha] at h
  rcases y09.mp h with rfl|h
  ·exact ha.mem
  ·exact hf.at h
theorem z49.held {s:Sl} {v:V} {b:Addr} (r:z49 K E O F H s v) (h:b∈fpS H s v):¬F b/\(s.isOwn=true->O b)/\(s.isOwn=false->E.h b≠none):=by
 cases s with
 | imm t=>simp[fpS] at h
 | own ts =>
  obtain⟨b',us,e,n,o,eh,_⟩:=r
  have:=zc2 h
  rw[e] at this
  cases this
  exact⟨n,fun _=>o,fun z=>by cases z⟩
 | dic ts =>
  obtain⟨b',us,e,n,o,eh,_⟩:=r
  have:=zc2 h
  rw[e] at this
  cases this
  exact⟨n,fun _=>o,fun z=>by cases z⟩
 | obj m c fs =>
  obtain⟨a,vs,rfl,ha,hf,nd,ow,_⟩:=r
  rw[zay ha] at h
  obtain⟨n,q⟩:=ow b h
  refine⟨n,fun z=>?_,fun z=>?_⟩
  ·cases m with
   | ro=>cases z
   | own=>exact q
   | lent=>exact q
  ·cases m with
   | ro=>exact q
   | own=>cases z
   | lent=>cases z
theorem zkp.keep {s:Sl} {v:V} (r:zkp K F H s v) (kp:Kp K F H F' H') (hh:∀b∈fp0 s v,H' b=H b):zkp K F' H' s v:=by
 cases s with
 | imm t=>exact Rep.kp r kp
 | own ts =>
  obtain⟨b,us,rfl,eh,z⟩:=r
  exact⟨b,us,rfl,by rw[hh b (by simp[fp0,rf])];exact eh,z.kp kp⟩
 | dic ts =>
  obtain⟨b,us,rfl,eh,z⟩:=r
  exact⟨b,us,rfl,by rw[hh b (by simp[fp0,rf])];exact eh,RepD.kp kp z⟩
 | obj m c fs=>exact r.elim
theorem RelF.keep:∀{fs:List Sl} {vs:List V},RelF K F H fs vs->Kp K F H F' H'->(∀b∈fpF fs vs,H' b=H b)->RelF K F' H' fs vs
 | [],vs,r,_,_=>r
 | s::ss,vs,r,kp,hh=>by
  obtain⟨v,z,rfl,r1,r2⟩:=r
  rw[show fpF (s::ss) (v::z)=fp0 s v++fpF ss z from rfl] at hh
  exact⟨v,z,rfl,r1.keep kp fun b h=>hh b (y10.mpr (.inl h)),RelF.keep r2 kp fun b h=>hh b (y10.mpr (.inr h))⟩
theorem z49.keep {s:Sl} {v:V} (r:z49 K E O F H s v) (kp:Kp K F H F' H') (hh:∀b∈fpS H s v,H' b=H b) (hf:∀b∈fpS H s v,F' b->F b) (ho:∀b∈fpS H s v,O b->O' b) :
  z49 K E O' F' H' s v/\fpS H' s v=fpS H s v:=by
 cases s with
 | imm t=>exact⟨Rep.kp r kp,rfl⟩
 | own ts =>
  obtain⟨a,vs,rfl,n,o,eh,z⟩:=r
  have m:a∈fpS H (.own ts) (.ref a):=by simp[fpS,rf]
  exact⟨⟨a,vs,rfl,fun f=>n (hf a m f),ho a m o,by rw[hh a m];exact eh,z.kp kp⟩,rfl⟩
 | dic ts =>
  obtain⟨a,vs,rfl,n,o,eh,z⟩:=r
  have m:a∈fpS H (.dic ts) (.ref a):=by simp[fpS,rf]
  exact⟨⟨a,vs,rfl,fun f=>n (hf a m f),ho a m o,by rw[hh a m];exact eh,RepD.kp kp z⟩,rfl⟩
 | obj m c fs =>
  obtain⟨a,vs,rfl,ha,hr,nd,ow,la⟩:=r
  rw[zay ha] at hh hf ho
  have ha':zbs H' a c vs:=ha.keep (hh a (by simp))
  refine⟨⟨a,vs,rfl,ha',hr.keep kp fun b h=>hh b (y05 _ h),nd,fun b h=>?_,la⟩,by rw[zay ha,zay ha']⟩
  obtain⟨n,q⟩:=ow b h
  refine⟨fun f=>n (hf b h f),?_⟩
  cases m with
  | ro=>exact q
  | own=>exact ho b h q
  | lent=>exact ho b h q
theorem z49.extP {s:Sl} {v:V} (r:z49 K E O F H s v) (x:Ext F H F' H'):z49 K E O F' H' s v/\fpS H' s v=fpS H s v :=
 r.keep x.kp (fun b h=>by
  obtain⟨o,e,m⟩:=r.at h
  rw[e]
  exact x.same.get e fun ps z=>by subst z;exact m.cases (fun _ z=>by cases z) (fun _ z=>by cases z) (fun _ _ _ z=>by cases z)) (fun b h f=>by
  rcases x.new b f with z|z
  ·exact z
  ·obtain⟨o,e,_⟩:=r.at h
   rw[z] at e
   cases e) fun _ _ o=>o
theorem z49.ext {s:Sl} {v:V} (r:z49 K E O F H s v) (x:Ext F H F' H'):z49 K E O F' H' s v:=(r.extP x).1
end
structure RelE (K:y00) (F₀:Addr->Prop) (E:En) (O F:Addr->Prop) (H:Hp) (ε:Ev) (σ:L2.St):Prop where
 len:ε.length=σ.length
 val:∀(i:Nat) (s:Sl),ε[i]?=some (some s)->∃v,σ[i]?=some (some v)/\z49 K E O F H s v
 ne:∀(i j:Nat) (s u:Sl) (v w:V),i≠j->ε[i]?=some (some s)->ε[j]?=some (some u)->s.isOwn=true->u.isOwn=true->σ[i]?=some (some v)->σ[j]?=some (some w)->∀a∈fpS H s v,a∉fpS H u w
 ent:Ext F₀ E.h F H
 o0:∀a,O a->E.h a=none
 fr:∀a,H a=none->O a
section
variable {K:y00} {F₀ O F F1:Addr->Prop} {E:En} {H H1:Hp} {ε:Ev} {σ:L2.St}
theorem RelE.dom (r:RelE K F₀ E O F H ε σ):Dom F H:=r.ent.dom
theorem RelE.ext (r:RelE K F₀ E O F H ε σ) (x:Ext F H F1 H1):RelE K F₀ E O F1 H1 ε σ :=
 ⟨r.len,fun i s e=>by
  obtain⟨v,h1,h2⟩:=r.val i s e
  exact⟨v,h1,h2.ext x⟩,fun i j s u v w hij e1 e2 o1 o2 h1 h2=>by
  obtain⟨v',h1',r1⟩:=r.val i s e1
  obtain⟨w',h2',r2⟩:=r.val j u e2
  rw[h1] at h1'
  rw[h2] at h2'
  cases h1'
  cases h2'
  rw[(r1.extP x).2,(r2.extP x).2]
  exact r.ne i j s u v w hij e1 e2 o1 o2 h1 h2,r.ent.trans x,r.o0,fun a e=>r.fr a (x.same.none e)⟩
theorem get_set {α:Type} {l:List (Option α)} {i j:Nat} {x:Option α} {y:α} (h:(l.set i x)[j]?=some (some y)):(i=j/\x=some y/\j<l.length)\/(i≠j/\l[j]?=some (some y)):=by
 rw[List.getElem?_set] at h
 by_cases e:i=j
 ·subst e
  rw[if_pos rfl] at h
  split at h
  next hl=>exact .inl ⟨rfl,y28 h,hl⟩
  next=>cases h
 ·rw[if_neg e] at h
  exact .inr ⟨e,h⟩
theorem zga {α:Type} {l:List (Option α)} {i:Nat} {x:Option α} (h:i<l.length):(l.set i x)[i]?=some x:=by
 rw[List.getElem?_set,if_pos rfl,if_pos h]
theorem z76 {α:Type} {l:List (Option α)} {i j:Nat} {x:Option α} (h:i≠j):(l.set i x)[j]?=l[j]?:=by
 rw[List.getElem?_set,if_neg h]
theorem RelE.setG {s:Sl} {v:V} (r:RelE K F₀ E O F H ε σ) (i:Nat) (h:z49 K E O F H s v) (fr:s.isOwn=true->∀(j:Nat) (u:Sl) (w:V),i≠j->ε[j]?=some (some u)->u.isOwn=true->σ[j]?=some (some w)->∀a∈fpS H s v,a∉fpS H u w) :
  RelE K F₀ E O F H (ε.set i (some s)) (σ.set i (some v)):=by
 refine⟨by simp[r.len],fun j u e=>?_,fun j k u w vu vw hjk e1 e2 o1 o2 h1 h2=>?_,r.ent,r.o0,r.fr⟩
 ·rcases get_set e with ⟨rfl,e',hl⟩|⟨ne,e'⟩
  ·cases e'
   exact⟨_,zga (by rw[<- r.len];exact hl),h⟩
  ·obtain⟨w,h1,h2⟩:=r.val j u e'
   exact⟨w,by rw[z76 ne];exact h1,h2⟩
 ·rcases get_set e1 with ⟨rfl,e',hl⟩|⟨ne1,e1'⟩
  ·rcases get_set e2 with ⟨rfl,_,_⟩|⟨ne2,e2'⟩
   ·exact absurd rfl hjk
   ·rw[zga (by rw[<- r.len];exact hl)] at h1
    rw[z76 ne2] at h2
    cases h1
    cases e'
    exact fr o1 k w vw ne2 e2' o2 h2
  ·rw[z76 ne1] at h1
   rcases get_set e2 with ⟨rfl,e',hl⟩|⟨ne2,e2'⟩
   ·rw[zga (by rw[<- r.len];exact hl)] at h2
    cases h2
    cases e'
    intro a ha hb
    exact fr o2 j u vu ne1 e1' o1 h1 a hb ha
   ·rw[z76 ne2] at h2
    exact r.ne j k u w vu vw hjk e1' e2' o1 o2 h1 h2
theorem RelE.set {t:T} {v:V} (r:RelE K F₀ E O F H ε σ) (i:Nat) (h:Rep K F H t v):RelE K F₀ E O F H (ε.set i (some (.imm t))) (σ.set i (some v)):=r.setG (s:=.imm t) i h fun z=>by cases z
theorem RelE.setNew {s:Sl} {v:V} (r:RelE K F₀ E O F H ε σ) (i:Nat) (x:Ext F H F1 H1) (h:z49 K E O F1 H1 s v) (hn:∀a∈fpS H1 s v,H a=none):RelE K F₀ E O F1 H1 (ε.set i (some s)) (σ.set i (some v)) :=
 (r.ext x).setG i h fun _ j u w _ ej _ hj a ha hb=>by
  obtain⟨w',h1,h2⟩:=r.val j u ej
  rw[hj] at h1
  cases h1
  rw[(h2.extP x).2] at hb
  obtain⟨o,e,_⟩:=h2.at hb
  rw[hn a ha] at e
  cases e
theorem zm5 {x:Addr} {o o':HO} (hn:¬F x) (hx:H x=some o) (hm:HoM o):Kp K F H F (upd H x o'):=by
 refine⟨fun b xs q=>?_,fun b xs f q=>⟨f,?_⟩⟩
 ·rcases q with q|q
  ·refine .inl ?_
   have nb:b≠x:=by
    rintro rfl
    rcases q with q|⟨_,q⟩ <;> (rw[hx] at q;cases q;exact hm.cases (fun _ z=>by cases z) (fun _ z=>by cases z) (fun _ _ _ z=>by cases z))
   rcases q with q|⟨u,q⟩
   ·exact .inl (by rw[z0i nb];exact q)
   ·exact .inr ⟨u,by rw[z0i nb];exact q⟩
  ·exact .inr q
 ·have nb:b≠x:=by
   rintro rfl
   exact hn f
  rcases q with q|⟨u,q⟩
  ·exact .inl (by rw[z0i nb];exact q)
  ·exact .inr ⟨u,by rw[z0i nb];exact q⟩
theorem zir {x:Addr} {o o':HO} {h0:Hp} (e:Ext F₀ h0 F H) (h0x:h0 x=none) (hn:¬F x) (hx:H x=some o) (hm:HoM o):Ext F₀ h0 F (upd H x o'):=by
 refine⟨fun b u q=>?_,e.sub,e.new,⟨fun b f=>?_,e.dom.tgs.updM fun u z=>by rw[hx] at z;cases z;exact hm⟩⟩
 ·have nb:b≠x:=by
   rintro rfl
   rw[h0x] at q
   cases q
  rw[z0i nb]
  exact e.same b u q
 ·have nb:b≠x:=by
   rintro rfl
   exact hn f
  rw[z0i nb]
  exact e.dom b f
theorem RelE.mutG {s s':Sl} {v:V} {x:Addr} {o':HO} (r:RelE K F₀ E O F H ε σ) {i:Nat} (e:ε[i]?=some (some s)) (ho:s.isOwn=true) (hv:σ[i]?=some (some v)) (hx:x∈fpS H s v)
  (h:Kp K F H F (upd H x o')->z49 K E O F (upd H x o') s' v)
  (hp:∀b∈fpS (upd H x o') s' v,b∈fpS H s v\/∀(j:Nat) (u:Sl) (w:V),i≠j->ε[j]?=some (some u)->u.isOwn=true->σ[j]?=some (some w)->b∉fpS H u w) :
  Kp K F H F (upd H x o')/\RelE K F₀ E O F (upd H x o') (ε.set i (some s')) σ:=by
 obtain⟨v',hv',rs⟩:=r.val i s e
 rw[hv] at hv'
 cases hv'
 obtain⟨o,eo,hm⟩:=rs.at hx
 obtain⟨nF,hO,_⟩:=rs.held hx
 have hOx:=hO ho
 have kp:Kp K F H F (upd H x o'):=zm5 nF eo hm
 have h0:=r.o0 x hOx
 have keep:∀(j:Nat) (u:Sl) (w:V),i≠j->ε[j]?=some (some u)->σ[j]?=some (some w)->z49 K E O F H u w->z49 K E O F (upd H x o') u w/\fpS (upd H x o') u w=fpS H u w:=by
  intro j u w hij ej hj ru
  refine ru.keep kp (fun b hb=>z0i ?_) (fun _ _ f=>f) fun _ _ o=>o
  rintro rfl
  cases ou:u.isOwn with
  | true=>exact r.ne i j s u v w hij e ej ho ou hv hj b hx hb
  | false=>exact (ru.held hb).2.2 ou h0
 refine⟨kp,⟨by simp[r.len],fun j u e'=>?_,fun j k u w vu vw hjk e1 e2 o1 o2 h1 h2=>?_,zir r.ent h0 nF eo hm,r.o0,fun b e'=>r.fr b ?_⟩⟩
 ·rcases get_set e' with ⟨rfl,e'',hl⟩|⟨ne,e''⟩
  ·cases e''
   exact⟨_,hv,h kp⟩
  ·obtain⟨w,h1,h2⟩:=r.val j u e''
   exact⟨w,h1,(keep j u w ne e'' h1 h2).1⟩
 ·rcases get_set e1 with ⟨rfl,e',hl⟩|⟨ne1,e1'⟩
  ·rcases get_set e2 with ⟨rfl,_,_⟩|⟨ne2,e2'⟩
   ·exact absurd rfl hjk
   ·cases e'
    rw[hv] at h1
    cases h1
    obtain⟨w',h2',r2⟩:=r.val k w e2'
    rw[h2] at h2'
    cases h2'
    rw[(keep k w vw ne2 e2' h2 r2).2]
    intro a ha hb
    rcases hp a ha with z|z
    ·exact r.ne i k s w v vw ne2 e e2' ho o2 hv h2 a z hb
    ·exact z k w vw ne2 e2' o2 h2 hb
  ·obtain⟨v1,h1',r1⟩:=r.val j u e1'
   rw[h1] at h1'
   cases h1'
   rw[(keep j u vu ne1 e1' h1 r1).2]
   rcases get_set e2 with ⟨rfl,e',hl⟩|⟨ne2,e2'⟩
   ·cases e'
    rw[hv] at h2
    cases h2
    intro a ha hb
    rcases hp a hb with z|z
    ·exact r.ne i j s u v vu ne1 e e1' ho o1 hv h1 a z ha
    ·exact z j u vu ne1 e1' o1 h1 ha
   ·obtain⟨w',h2',r2⟩:=r.val k w e2'
    rw[h2] at h2'
    cases h2'
    rw[(keep k w vw ne2 e2' h2 r2).2]
    exact r.ne j k u w vu vw hjk e1' e2' o1 o2 h1 h2
 ·by_cases nb:b=x
  ·subst nb
   rw[z0n] at e'
   cases e'
  ·rwa [z0i nb] at e'
theorem RelE.mut {s s':Sl} {a:Addr} {o o':HO} (r:RelE K F₀ E O F H ε σ) {i:Nat} (e:ε[i]?=some (some s)) (ho:s.isOwn=true) (hv:σ[i]?=some (some (.ref a))) (hn:¬F a) (ho':O a) (ha:H a=some o)
  (hk:(∃xs,o=.lst xs)\/∃xs,o=.dK xs) (h:Kp K F H F (upd H a o')->z49 K E O F (upd H a o') s' (.ref a)) (f1:∀H:Hp,fpS H s (.ref a)=[a]:=by intro _;rfl) (f2:∀H:Hp,fpS H s' (.ref a)=[a]:=by intro _;rfl) :
  Kp K F H F (upd H a o')/\RelE K F₀ E O F (upd H a o') (ε.set i (some s')) σ :=
 r.mutG e ho hv (by rw[f1];simp) h fun b hb=>by
  rw[f2] at hb
  rw[f1]
  exact .inl hb
end
def tR (K:y00) (f:Fe):TE:=fun σ H Q=>∃F₀ H₀ O F ε t,RelE K F₀ H₀ O F H ε σ/\f ε=some t/\∀v F' H',Ext F H F' H'->RepR K O F' H' t v->Q v H'
def tV (K:y00) (f:Fe):TE:=fun σ H Q=>∃F₀ H₀ O F ε t,RelE K F₀ H₀ O F H ε σ/\f ε=some t/\∀v F' H',Ext F H F' H'->Rep K F' H' t v->Q v H'
noncomputable def tN (K:y00) (f:Fe):TE:=fun σ H Q=>∃F₀ H₀ O F ε ts,RelE K F₀ H₀ O F H ε σ/\f ε=some (.list ts)/\∀a vs F' H',Ext F H F' H'->H a=none->¬F' a->H' a=some (.lst vs)->RepL K F' H' ts vs->Q (.ref a) H'
def tT (K:y00) (f:Ft):TT:=fun σ H Q=>∃F₀ H₀ O F ε b,RelE K F₀ H₀ O F H ε σ/\f ε=some b/\∀F' H',Ext F H F' H'->Q b H'
def tAR (K:y00) (fs:List Fe):TA:=fun σ H Q=>∃F₀ H₀ O F ε ts,RelE K F₀ H₀ O F H ε σ/\args fs ε=some ts/\∀vs F' H',Ext F H F' H'->Paired (RepR K O F' H') ts vs->Q vs H'
def tAV (K:y00) (fs:List Fe):TA:=fun σ H Q=>∃F₀ H₀ O F ε ts,RelE K F₀ H₀ O F H ε σ/\args fs ε=some ts/\∀vs F' H',Ext F H F' H'->RepL K F' H' ts vs->Q vs H'
abbrev PEr (X:Cx) (e:Expr) (f:Fe):Prop:=PE X e (tR X.K f)
abbrev PEv (X:Cx) (e:Expr) (f:Fe):Prop:=PE X e (tV X.K f)
abbrev PEn (X:Cx) (e:Expr) (f:Fe):Prop:=PE X e (tN X.K f)
abbrev PTt (X:Cx) (e:Expr) (f:Ft):Prop:=PT X e (tT X.K f)
abbrev PWt (X:Cx) (e:Expr) (f:Ft):Prop:=PW X e (tT X.K f)
abbrev PAr (X:Cx) (es:List Expr) (fs:List Fe):Prop:=PA X es (tAR X.K fs)
abbrev PAv (X:Cx) (es:List Expr) (fs:List Fe):Prop:=PA X es (tAV X.K fs)
theorem z0v {X:Cx} {e:Expr} {t t':TE} (h:PE X e t) (k:∀σ H Q,t' σ H Q->t σ H Q):PE X e t':=fun pins s σ H Q I q=>h pins s σ H Q I (k σ H Q q)
theorem zbk {X:Cx} {e:Expr} {t t':TT} (h:PT X e t) (k:∀σ H Q,t' σ H Q->t σ H Q):PT X e t':=fun pins s σ H Q I q=>h pins s σ H Q I (k σ H Q q)
theorem zql {X:Cx} {e:Expr} {t t':TT} (h:PW X e t) (k:∀σ H Q,t' σ H Q->t σ H Q):PW X e t':=fun w pins s σ H Q I q=>h w pins s σ H Q I (k σ H Q q)
theorem ziz {X:Cx} {e:List Expr} {t t':TA} (h:PA X e t) (k:∀σ H Q,t' σ H Q->t σ H Q):PA X e t':=fun pos pins s σ H Q I q=>h pos pins s σ H Q I (k σ H Q q)
theorem z9i {X:Cx} {e:Stmt} {t t':TS} (h:PS X e t) (k:∀D σ H,t' D σ H->t D σ H):PS X e t':=fun pins s σ H D I q=>h pins s σ H D I (k D σ H q)
theorem zi1 {X:Cx} {e:List Stmt} {t t':TS} (h:PSs X e t) (k:∀D σ H,t' D σ H->t D σ H):PSs X e t':=fun pins s σ H D I q=>h pins s σ H D I (k D σ H q)
section
variable {X:Cx} {e:Expr} {f:Fe}
theorem v2r (h:PEv X e f):PEr X e f:=z0v h fun σ H Q ⟨F₀,H₀,O,F,ε,t,r,e,k⟩=>⟨F₀,H₀,O,F,ε,t,r,e,fun v F' H' x q=>k v F' H' x (.inl q)⟩
theorem n2v (h:PEn X e f) (hf:∀ε t,f ε=some t->∃ts,t=.list ts):PEv X e f:=z0v h fun σ H Q ⟨F₀,H₀,O,F,ε,t,r,e,k⟩=>by
 obtain⟨ts,rfl⟩:=hf _ _ e
 refine⟨F₀,H₀,O,F,ε,ts,r,e,fun a vs F' H' x hn nf ha q=>?_⟩
 have y:Ext F H (fun b=>F' b\/b=a) H':=⟨x.same,fun b z=>.inl (x.sub b z),fun b z=>by
  rcases z with z|rfl
  ·exact x.new b z
  ·exact .inr hn,⟨fun b z=>by
  rcases z with z|rfl
  ·exact x.dom b z
  ·exact⟨_,ha⟩,x.dom.tgs⟩⟩
 refine k (.ref a) _ H' y ?_
 simp only[Rep]
 exact⟨a,vs,rfl,.inr rfl,.inl ha,q.keep (fun _ _ z=>z) fun b _ z w=>⟨.inl z,w⟩⟩
end
end
section
variable [Tbl]
section
variable {X:Cx} {a b c e:Expr} {f g h:Fe} {pos:Pos}
theorem zjf {t:T} {v:V} (he:PE X e (tC v)) (hr:∀F H,Rep X.K F H t v):PEv X e (cst t):=z0v he fun σ H Q ⟨F₀,H₀,O,F,ε,t',r,e,k⟩=>by
 cases e
 exact k v F H (Ext.refl r.dom) (hr _ _)
theorem z03 {i j}:PEv X (.Constant (.int i) j pos) (cst (.int i)):=zjf zu2 fun _ _=>by simp[Rep]
theorem q_bl {i j}:PEv X (.Constant (.bool i) j pos) (cst (.bool i)):=zjf zw6 fun _ _=>by simp[Rep]
theorem z0f {i j}:PEv X (.Constant (.str i) j pos) (cst (.str i)):=zjf ztx fun _ _=>by simp[Rep]
theorem zgo {j}:PEv X (.Constant .none j pos) (cst .none):=zjf ztz fun _ _=>by simp[Rep]
theorem q_nm (i:Nat) {x:Str} (hN:X.N[i]?=some x:=by rfl) (hv:Vis X.env.scope x:=by first|exact Or.inl rfl|exact Or.inr (Or.inl rfl)|exact Or.inr (Or.inr rfl)) (hd:(x == ("__debug__":Str))=false:=by decide)
  (hcd:(x == ("__classdict__":Str))=false:=by decide):PEr X (.Name x pos) (nm i):=z0v (pv i hN hv hd hcd) fun σ H Q ⟨F₀,H₀,O,F,ε,t,r,e,k⟩=>by
 unfold nm at e
 split at e
 next t' he =>
  cases e
  obtain⟨v,h1,h2⟩:=r.val _ _ he
  exact⟨v,h1,k v F H (Ext.refl r.dom) (.inl h2)⟩
 next ts he =>
  cases e
  obtain⟨v,h1,a,vs,rfl,n,h0,hh,hr⟩:=r.val _ _ he
  exact⟨_,h1,k _ F H (Ext.refl r.dom) (.inr ⟨ts,a,vs,rfl,rfl,hh,hr⟩)⟩
 next=>cases e
theorem z07 (i:Nat) {x:Str} (hN:X.N[i]?=some x:=by rfl) (hv:Vis X.env.scope x:=by first|exact Or.inl rfl|exact Or.inr (Or.inl rfl)|exact Or.inr (Or.inr rfl)) (hd:(x == ("__debug__":Str))=false:=by decide)
  (hcd:(x == ("__classdict__":Str))=false:=by decide):PEv X (.Name x pos) (nmV i):=z0v (pv i hN hv hd hcd) fun σ H Q ⟨F₀,H₀,O,F,ε,t,r,e,k⟩=>by
 unfold nmV at e
 split at e
 next t' he =>
  cases e
  obtain⟨v,h1,h2⟩:=r.val _ _ he
  exact⟨v,h1,k v F H (Ext.refl r.dom) h2⟩
 next=>cases e
noncomputable def Op2 (K:y00) (o:T->T->Option T) (R:R2):Prop :=
 ∀(O F:Addr->Prop) (H:Hp) (x y t:T) (vx vy:V) (Q:VK),Dom F H->RepR K O F H x vx->RepR K O F H y vy->o x y=some t ->
  (∀v F' H',Ext F H F' H'->Rep K F' H' t v->Q v H')->R vx vy H Q
theorem z4y {o:T->T->Option T} {R:R2} (h:Op2 X.K o R):∀σ H Q,tV X.K (op2 o f g) σ H Q->tOp R (tR X.K f) (tR X.K g) σ H Q:=by
 rintro σ H Q ⟨F₀,H₀,O,F,ε,t,r,e,k⟩
 simp only[op2,y01] at e
 obtain⟨x,ex,y,ey,eo⟩:=e
 refine⟨F₀,H₀,O,F,ε,x,r,ex,fun vx F1 H1 x1 rx=>⟨F₀,H₀,O,F1,ε,y,r.ext x1,ey,fun vy F2 H2 x2 ry=>?_⟩⟩
 exact h O F2 H2 x y t vx vy Q x2.dom (rx.ext x2) ry eo fun v F' H' x3 q3=>k v F' H' ((x1.trans x2).trans x3) q3
theorem Inv.lstR {pins:List (Addr×Obj)} {σ:L2.St} {H:Hp} {s:y04} {l:Addr} {xs:List V} (I:Inv X pins σ H s) (hH:Rd H l (.lst xs)) :
  xs.length<=y0j/\∃(its:List Value) (n:Nat),Vals xs its/\xs.length=its.length/\s.heap.get? l=some { cls:=.type "list",data:=.seq its.toArray n }:=by
 obtain⟨z,its,n,r,e⟩:=hH.ok I.hok
 exact⟨z,its,n,r,r.length,e⟩
noncomputable def zvu:R2:=fun x y H Q=>∃l b xs zs,x=.ref l/\y=.ref b/\Rd H l (.lst xs)/\Rd H b (.lst zs)/\xs.length+zs.length<=y0j/\∀p,H p=none->Q (.ref p) (upd H p (.lst (xs++zs)))
theorem zlo:OpR X (y2p .Add) zvu:=by
 intro pins s σ H x y v u Q I rx ry h
 obtain⟨l,b,xs,zs,rfl,rfl,hH,hB,hz,q⟩:=h
 cases rx
 cases ry
 obtain⟨z,its,n,r,hl,e⟩:=Inv.lstR I hH
 obtain⟨z2,its2,n2,r2,hl2,e2⟩:=Inv.lstR I hB
 refine PySem.P.add_list e e2 ?_ (by rw[y0h,y0h];omega)
 have ea:its.toArray++its2.toArray=(its++its2).toArray:=by simp
 rw[ea]
 exact⟨.ref _,_,I.lnew (t':=s.toks) (r.append r2) (by rw[y1x];omega),rfl,q _ I.fresh⟩
def ztf (K:y00):R2:=fun x y H Q=>∃a b ys,x=.ref a/\y=.ref b/\SqT K H a []/\SqT K H b ys/\Q (.ref b) H
theorem zoj:OpR X (y2p .Add) (ztf X.K):=by
 intro pins s σ H x y v u Q I rx ry h
 obtain⟨a,b,ys,rfl,rfl,ha,hb,q⟩:=h
 cases rx
 cases ry
 obtain⟨its,r1,p1,_⟩:=I.tuple ha
 obtain⟨its2,r2,p2,_⟩:=I.tuple hb
 have ei:its=[]:=r1.nil_iff.mpr rfl
 subst ei
 obtain⟨⟨cls,dd,data,sl⟩,ho,hc,n,hd⟩:=id p1
 obtain⟨⟨cls2,dd2,data2,sl2⟩,ho2,hc2,n2,hd2⟩:=id p2
 simp only at hc hd hc2 hd2
 subst hc hd hc2 hd2
 exact concat_meets ⟨_,ho,rfl⟩ ⟨_,ho2,rfl⟩ noFill_tuple_add seq_tuple_add PySem.F.slot_tuple_add PySem.F.entry_tuple_add (PySem.F.args_tuple_add_2 _ _)
   (tuple_addW0 a b ([]:List Value).toArray its2.toArray n n2 dd dd2 sl sl2 (by simp)) ⟨ho,ho2,⟨.ref b,H,I,rfl,q⟩⟩
theorem z7n:y0j=big:=by rw[sizeLine_eq];rfl
theorem z19 (ha:PEr X a f) (hb:PEr X b g):PEv X (.BinOp a .Add b pos) (op2 oAdd f g) :=
 z0v (zd2 (zub.or (zjj.or (zoj.or (zrt.or zlo)))) ha hb) (z4y (by
  intro O F H x y t vx vy Q d rx ry e k
  unfold oAdd at e
  split at e
  ·cases e
   rw[rx.int,ry.int]
   exact .inl ⟨_,_,rfl,rfl,k _ F H (Ext.refl d) (by simp[Rep])⟩
  ·split at e
   next hz =>
    cases e
    rw[rx.str,ry.str]
    exact .inr (.inl ⟨_,_,rfl,rfl,by rw[z7n];exact hz,k _ F H (Ext.refl d) (by simp[Rep])⟩)
   next=>cases e
  ·split at e
   next xs ys hz =>
    cases e
    obtain⟨ax,vs,rfl,hs,hr⟩:=rx.tup
    obtain⟨ay,ws,rfl,hs',hr'⟩:=ry.tup
    cases xs with
    | nil =>
     simp only[RepL] at hr
     subst hr
     refine .inr (.inr (.inl ⟨_,_,_,rfl,rfl,hs,hs',k _ F H (Ext.refl d) ?_⟩))
     simp only[Rep]
     exact⟨_,_,rfl,hs',by simpa using hr'⟩
    | cons x0 xr =>
     refine .inr (.inr (.inr (.inl ⟨_,_,_,_,rfl,rfl,hs,hs',?_,?_,fun e0=>?_,fun e0 p hp=>?_⟩)))
     ·intro z
      subst z
      have:=hr.length
      simp at this
     ·rw[z7n,<- hr.length,<- hr'.length]
      exact hz
     ·refine k _ F H (Ext.refl d) ?_
      subst e0
      have e1:ys=[]:=List.eq_nil_of_length_eq_zero (by rw[hr'.length];rfl)
      subst e1
      simp only[Rep]
      exact⟨_,_,rfl,hs,by simpa using hr⟩
     ·have x1:=Ext.laid (o:=.tup (vs++ws)) d hp
      refine k _ F _ x1 ?_
      simp only[Rep]
      exact⟨p,_,rfl,SqT.of z0n,(hr.append hr').ext x1⟩
   next=>cases e
  ·split at e
   next xs ys hz =>
    cases e
    obtain⟨ax,vs,rfl,hs,hr⟩:=rx.lst
    obtain⟨ay,ws,rfl,hs',hr'⟩:=ry.lst
    refine .inr (.inr (.inr (.inr ⟨_,_,_,_,rfl,rfl,hs,hs',by rw[z7n,<- hr.length,<- hr'.length];exact hz,fun p hp=>?_⟩)))
    have x1:=Ext.laidF (o:=.lst (vs++ws)) d hp
    refine k _ _ _ x1 ?_
    simp only[Rep]
    exact⟨p,_,rfl,.inr rfl,.inl z0n,(hr.append hr').ext x1⟩
   next=>cases e
  ·cases e))
theorem ztg (ha:PEr X a f) (hb:PEr X b g):PEv X (.BinOp a .Sub b pos) (op2 oSub f g) :=
 z0v (zd2 zu6 ha hb) (z4y (by
  intro O F H x y t vx vy Q d rx ry e k
  unfold oSub at e
  split at e
  ·cases e
   rw[rx.int,ry.int]
   exact⟨_,_,rfl,rfl,k _ F H (Ext.refl d) (by simp[Rep])⟩
  ·cases e))
theorem zd0 (ha:PEr X a f) (hb:PEr X b g):PEv X (.BinOp a .Mult b pos) (op2 oMul f g) :=
 z0v (zd2 zu8 ha hb) (z4y (by
  intro O F H x y t vx vy Q d rx ry e k
  unfold oMul at e
  split at e
  ·split at e
   next hm =>
    cases e
    rw[rx.int,ry.int]
    refine⟨_,_,rfl,rfl,?_,k _ F H (Ext.refl d) (by simp[Rep])⟩
    simpa [zjx,CMul] using hm
   next=>cases e
  ·cases e))
theorem z3u (ha:PEr X a f) (hb:PEr X b g):PEv X (.BinOp a .FloorDiv b pos) (op2 oDiv f g) :=
 z0v (zd2 zrs ha hb) (z4y (by
  intro O F H x y t vx vy Q d rx ry e k
  unfold oDiv at e
  split at e
  ·split at e
   next hm =>
    cases e
    rw[rx.int,ry.int]
    exact⟨_,_,rfl,rfl,hm,k _ F H (Ext.refl d) (by simp[Rep])⟩
   next=>cases e
  ·cases e))
theorem z2a (ha:PEr X a f) (hb:PEr X b g):PEv X (.BinOp a .Mod b pos) (op2 oMod f g) :=
 z0v (zd2 zu9 ha hb) (z4y (by
  intro O F H x y t vx vy Q d rx ry e k
  unfold oMod at e
  split at e
  ·split at e
   next hm =>
    cases e
    rw[rx.int,ry.int]
    exact⟨_,_,rfl,rfl,hm,k _ F H (Ext.refl d) (by simp[Rep])⟩
   next=>cases e
  ·cases e))
theorem q_ix (ha:PEr X a f) (hb:PEr X b g) (hs:zng b:=by intro _ _;rfl):PEv X (.Subscript a b pos) (op2 oIx f g) :=
 z0v (zw5 zuq ha hb hs) (z4y (by
  intro O F H x y t vx vy Q d rx ry e k
  unfold oIx at e
  split at e
  ·obtain⟨ax,vs,rfl,hs,hr⟩:=rx.tup
   rw[ry.int]
   simp only[atZ,y01] at e
   obtain⟨j,hj,et⟩:=e
   obtain⟨v,hv,rv⟩:=hr.get et
   refine .inr (.inl ⟨_,_,_,v,rfl,rfl,hs,?_,k _ F H (Ext.refl d) rv⟩)
   rw[hr.length] at hj
   show (ixN _ _).bind _=_
   rw[show ixN vs.length _=some j from hj]
   exact hv
  ·obtain⟨ax,vs,rfl,hs,hr⟩:=rx.lst
   rw[ry.int]
   simp only[atZ,y01] at e
   obtain⟨j,hj,et⟩:=e
   obtain⟨v,hv,rv⟩:=hr.get et
   refine .inl ⟨_,_,_,v,rfl,rfl,.inl hs,?_,k _ F H (Ext.refl d) rv⟩
   rw[hr.length] at hj
   show (ixN _ _).bind _=_
   rw[show ixN vs.length _=some j from hj]
   exact hv
  ·split at e
   next hz =>
    rw[rx.str,ry.int]
    simp only[y07] at e
    obtain⟨c,hc,rfl⟩:=e
    exact .inr (.inr ⟨_,_,c,rfl,rfl,by rw[z7n];exact hz,hc,k _ F H (Ext.refl d) (by simp[Rep])⟩)
   next=>cases e
  ·cases e))
end
end
section
variable [Tbl]
noncomputable def DO (K:y00) (F₀:Addr->Prop) (H₀:En) (O F:Addr->Prop) (H:Hp) (D:Ends):Out->Prop
 | .nx ε'=>∀σ' F' H',Kp K F H F' H'->RelE K F₀ H₀ O F' H' ε' σ'->D.nx σ' H'
 | .rt t=>∀v F' H',Ext F₀ H₀.h F' H'->Rep K F' H' t v->D.rt v H'
 | .rtm t ε'=>∀v σ' F' H',RelE K F₀ H₀ O F' H' ε' σ'->Rep K F' H' t v->D.rt v H'
 | .rto s=>∀a F' H',Ext F₀ H₀.h F' H'->z49 K H₀ O F' H' s (.ref a)->D.rt (.ref a) H'
 | .bk ε'=>∀σ' F' H',Kp K F H F' H'->RelE K F₀ H₀ O F' H' ε' σ'->D.bk σ' H'
 | .ct ε'=>∀σ' F' H',Kp K F H F' H'->RelE K F₀ H₀ O F' H' ε' σ'->D.ct σ' H'
def tS (K:y00) (g:Fs):TS:=fun D σ H=>∃F₀ H₀ O F ε o,RelE K F₀ H₀ O F H ε σ/\g ε=some o/\DO K F₀ H₀ O F H D o
abbrev PSt (X:Cx) (s:Stmt) (g:Fs):Prop:=PS X s (tS X.K g)
abbrev PBt (X:Cx) (s:List Stmt) (g:Fs):Prop:=PSs X s (tS X.K g)
theorem DO.kp {K:y00} {F₀ O F F1:Addr->Prop} {H₀:En} {H H1:Hp} {D:Ends} {o:Out} (h:DO K F₀ H₀ O F H D o) (x:Kp K F H F1 H1):DO K F₀ H₀ O F1 H1 D o:=by
 cases o with
 | nx ε=>exact fun σ' F' H' k r=>h σ' F' H' (x.trans k) r
 | rt t=>exact h
 | bk ε=>exact fun σ' F' H' k r=>h σ' F' H' (x.trans k) r
 | ct ε=>exact fun σ' F' H' k r=>h σ' F' H' (x.trans k) r
 | rtm t ε=>exact h
 | rto s=>exact h
section
variable {X:Cx} {e a b c:Expr} {f:Fe} {g g':Fs} {ft:Ft} {st:Stmt} {rest:List Stmt} {pos:Pos}
theorem z37:PBt X [] skip:=zi1 zrc fun D σ H ⟨F₀,H₀,O,F,ε,o,r,e,k⟩=>by
 cases e
 exact k σ F H Kp.refl r
theorem z0h (h:PSt X st g):PBt X [st] g:=zrb h
theorem z08 (h1:PSt X st g) (h2:PBt X rest g'):PBt X (st::rest) (seq g g'):=zi1 (zo8 h1 h2) fun D σ H ⟨F₀,H₀,O,F,ε,o,r,e,k⟩=>by
 simp only[seq,y01] at e
 obtain⟨o1,e1,e2⟩:=e
 refine⟨F₀,H₀,O,F,ε,o1,r,e1,?_⟩
 cases o1 with
 | nx ε'=>exact fun σ' F' H' x r'=>⟨F₀,H₀,O,F',ε',o,r',e2,k.kp x⟩
 | rt t =>
  cases e2
  exact k
 | bk ε' =>
  cases e2
  exact k
 | ct ε' =>
  cases e2
  exact k
 | rtm t ε' =>
  cases e2
  exact k
 | rto s =>
  cases e2
  exact k
theorem z0o (h:PEv X e f):PSt X (.Return (some e) pos) (rtn f):=z9i (zq3 h) fun D σ H ⟨F₀,H₀,O,F,ε,o,r,e,k⟩=>by
 simp only[rtn,y07] at e
 obtain⟨t,et,rfl⟩:=e
 exact⟨F₀,H₀,O,F,ε,t,r,et,fun v F' H' x q=>k v F' H' (r.ent.trans x) q⟩
theorem zad (i:Nat) {x:Str} {npos:Pos} (hN:X.N[i]?=some x:=by rfl) (hv:Vis X.env.scope x:=by first|exact Or.inl rfl|exact Or.inr (Or.inl rfl)|exact Or.inr (Or.inr rfl)) (hd:(x == ("__debug__":Str))=false:=by decide)
  (hcd:(x == ("__classdict__":Str))=false:=by decide):PSt X (.Return (some (.Name x npos)) pos) (rtn (nm i)):=z9i (zq3 (pv i hN hv hd hcd)) fun D σ H ⟨F₀,H₀,O,F,ε,o,r,e,k⟩=>by
 simp only[rtn,y07] at e
 obtain⟨t,et,rfl⟩:=e
 unfold nm at et
 split at et
 next t' he =>
  cases et
  obtain⟨v,h1,h2⟩:=r.val _ _ he
  exact⟨v,h1,k v F H r.ent h2⟩
 next ts he =>
  cases et
  obtain⟨v,h1,a,vs,rfl,n,h0,ha,q⟩:=r.val _ _ he
  have x2:=r.ent
  have y:Ext F₀ H₀.h (fun b=>F b\/b=a) H:=⟨x2.same,fun b z=>.inl (x2.sub b z),fun b z=>by
   rcases z with z|rfl
   ·exact x2.new b z
   ·exact .inr (r.o0 _ h0),⟨fun b z=>by
   rcases z with z|rfl
   ·exact x2.dom b z
   ·exact⟨_,ha⟩,x2.dom.tgs⟩⟩
  refine⟨_,h1,k _ _ H y ?_⟩
  simp only[Rep]
  exact⟨a,vs,rfl,.inr rfl,.inl ha,q.keep (fun _ _ z=>z) fun b _ z w=>⟨.inl z,w⟩⟩
 next=>cases et
theorem s_if (hc:PTt X c ft) (ha:PBt X rest g) {els:List Stmt} (hb:PBt X els g'):PSt X (.If c rest els pos) (iff ft g g'):=z9i (zw2 hc ha hb) fun D σ H ⟨F₀,H₀,O,F,ε,o,r,e,k⟩=>by
 simp only[iff,y01] at e
 obtain⟨b,eb,e⟩:=e
 refine⟨F₀,H₀,O,F,ε,b,r,eb,fun F' H' x=>?_⟩
 cases b with
 | true=>exact iteT ⟨F₀,H₀,O,F',ε,o,r.ext x,by simpa using e,k.kp x.kp⟩
 | false=>exact iteF ⟨F₀,H₀,O,F',ε,o,r.ext x,by simpa using e,k.kp x.kp⟩
theorem z10 (i:Nat) {x:Str} {pos':Pos} (hN:X.N.Nodup) (he:PEv X e f) (hi:X.N[i]?=some x:=by rfl) (hx:Loc X.env.scope x:=by first|exact Or.inl rfl|exact Or.inr rfl)
  (hs:swapsWith e (some (.Name x pos')) pos.line X.env=pure false:=by rfl) (hf:X.fn x=true\/X.env.scope.names.lookup x=some .local:=by first|exact .inl rfl|exact .inr rfl) :
  PSt X (.Assign [.Name x pos'] e pos) (asg i f):=z9i (zq2 hN hi hx he hs hf) fun D σ H ⟨F₀,H₀,O,F,ε,o,r,e,k⟩=>by
 simp only[asg,y07] at e
 obtain⟨t,et,rfl⟩:=e
 refine⟨F₀,H₀,O,F,ε,t,r,et,fun v F' H' x q=>?_⟩
 exact k _ F' H' x.kp ((r.ext x).set i q)
theorem zt8 (i:Nat) {x:Str} {pos':Pos} (hN:X.N.Nodup) (he:PEn X e f) (hi:X.N[i]?=some x:=by rfl) (hx:Loc X.env.scope x:=by first|exact Or.inl rfl|exact Or.inr rfl)
  (hs:swapsWith e (some (.Name x pos')) pos.line X.env=pure false:=by rfl) (hf:X.fn x=true\/X.env.scope.names.lookup x=some .local:=by first|exact .inl rfl|exact .inr rfl) :
  PSt X (.Assign [.Name x pos'] e pos) (asgN i f):=z9i (zq2 hN hi hx he hs hf) fun D σ H ⟨F₀,H₀,O,F,ε,o,r,e,k⟩=>by
 simp only[asgN,y01] at e
 obtain⟨t,et,e⟩:=e
 split at e
 next ts =>
  cases e
  refine⟨F₀,H₀,O,F,ε,ts,r,et,fun a vs F' H' x hn nf ha q=>?_⟩
  exact k _ F' H' x.kp (r.setNew (s:=.own ts) i x ⟨a,vs,rfl,nf,r.fr a hn,ha,q⟩ fun b hb=>by
   have:b=a:=by simpa [fpS,rf] using hb
   rw[this]
   exact hn)
 next=>cases e
def tG (K:y00) (g:Fg):TG:=fun v σ H Q=>∃F₀ H₀ O F ε t ε',RelE K F₀ H₀ O F H ε σ/\Rep K F H t v/\g t ε=some ε'/\∀σ',RelE K F₀ H₀ O F H ε' σ'->Q σ' H
def tGs (K:y00) (gs:List Fg):TGs:=fun vs σ H Q=>∃F₀ H₀ O F ε ts ε',RelE K F₀ H₀ O F H ε σ/\RepL K F H ts vs/\gAll gs ts ε=some ε'/\∀σ',RelE K F₀ H₀ O F H ε' σ'->Q σ' H
abbrev PGt (X:Cx) (e:Expr) (g:Fg):Prop:=PG X e (tG X.K g)
abbrev PGst (X:Cx) (es:List Expr) (gs:List Fg):Prop:=PGs X es (tGs X.K gs)
theorem zqn {X:Cx} {e:Expr} {t t':TG} (h:PG X e t) (k:∀v σ H Q,t' v σ H Q->t v σ H Q):PG X e t':=fun pins s σ H v u Q I r q=>h pins s σ H v u Q I r (k v σ H Q q)
theorem znh {X:Cx} {e:List Expr} {t t':TGs} (h:PGs X e t) (k:∀v σ H Q,t' v σ H Q->t v σ H Q):PGs X e t':=fun pins s σ H v u Q I r q=>h pins s σ H v u Q I r (k v σ H Q q)
theorem g_nm (i:Nat) {x:Str} (hN:X.N.Nodup) (hi:X.N[i]?=some x:=by rfl) (hx:Loc X.env.scope x:=by first|exact Or.inl rfl|exact Or.inr rfl)
  (hf:X.fn x=true\/X.env.scope.names.lookup x=some .local:=by first|exact .inl rfl|exact .inr rfl):PGt X (.Name x pos) (gNm i):=zqn (zrj hN hi hx hf) fun v σ H Q ⟨F₀,H₀,O,F,ε,t,ε',r,q,e,k⟩=>by
 cases e
 exact k _ (r.set i q)
theorem zmj:PGst X [] []:=znh zri fun vs σ H Q ⟨F₀,H₀,O,F,ε,ts,ε',r,q,e,k⟩=>by
 cases ts with
 | nil =>
  cases e
  simp only[RepL] at q
  exact⟨q,k σ r⟩
 | cons t ts=>cases e
theorem z5v {es:List Expr} {g:Fg} {gs:List Fg} (h1:PGt X e g) (h2:PGst X es gs) (hs:(y2n (e::es) X.env).map (·.2)=assign e X.env::(y2n es X.env).map (·.2):=by rfl):PGst X (e::es) (g::gs) :=
 znh (zod h1 h2 hs) fun vs σ H Q ⟨F₀,H₀,O,F,ε,ts,ε',r,q,e,k⟩=>by
 cases ts with
 | nil=>cases e
 | cons t ts =>
  simp only[gAll,y01] at e
  obtain⟨ε1,e1,e2⟩:=e
  simp only[RepL] at q
  obtain⟨v,vr,rfl,q1,q2⟩:=q
  exact⟨v,vr,rfl,F₀,H₀,O,F,ε,t,ε1,r,q1,e1,fun σ1 r1=>⟨F₀,H₀,O,F,ε1,ts,ε',r1,q2,e2,k⟩⟩
theorem zin:∀{gs:List Fg} {ts:List T} {ε ε':Ev},gAll gs ts ε=some ε'->ts.length=gs.length
 | [],[],_,_,_=>rfl
 | [],_::_,_,_,h=>by cases h
 | _::_,[],_,_,h=>by cases h
 | g::gs,t::ts,ε,ε',h=>by
  simp only[gAll,y01] at h
  obtain⟨ε1,_,h⟩:=h
  simp[zin h]
theorem zmi {es:List Expr} {k:Nat} {gs:List Fg} (h:PGst X es gs) (hc:X.calm=true:=by rfl) (hn:(y2n es X.env).length=gs.length:=by rfl) (hst:(y2n es X.env).findIdx? (·.1)=none:=by rfl) :
  PGt X (.Tuple es k pos) (gTu gs):=zqn (ztu hc h hn hst) fun v σ H Q ⟨F₀,H₀,O,F,ε,t,ε',r,q,e,k⟩=>by
 unfold gTu at e
 split at e
 next ts =>
  simp only[Rep] at q
  obtain⟨a,vs,rfl,hs,hr⟩:=q
  exact⟨a,vs,rfl,hs,by rw[<- hr.length];exact zin e,F₀,H₀,O,F,ε,ts,ε',r,hr,e,k⟩
 next=>cases e
structure ItOk (K:y00) (J:It) (F1:Addr->Prop) (H1:Hp) (ts:List T):Prop where
 go:∀i F H t,Kp K F1 H1 F H->Dom F H->ts[i]?=some t->J.go i H
 yld:∀i F H t x H',Kp K F1 H1 F H->Dom F H->ts[i]?=some t->J.yld i H x H'->∃F',Ext F H F' H'/\Rep K F' H' t x
 stop:∀i F H,Kp K F1 H1 F H->ts.length<=i->J.stop i H
def tI (K:y00) (f:Fi):TI:=fun σ H R=>∃F₀ H₀ O F ε ts,RelE K F₀ H₀ O F H ε σ/\f ε=some ts/\∀J F' H',Ext F H F' H'->ItOk K J F' H' ts->R J H'
abbrev PIt (X:Cx) (tg e:Expr) (f:Fi):Prop:=PI X tg e (tI X.K f)
theorem ziy {X:Cx} {tg e:Expr} {t t':TI} (h:PI X tg e t) (k:∀σ H R,t' σ H R->t σ H R):PI X tg e t':=fun pins s σ H R I q=>h pins s σ H R I (k σ H R q)
theorem zma {K:y00} {a:Addr} {F1:Addr->Prop} {H1:Hp} {ts:List T} {vs:List V} (fa:F1 a) (hr:Rd H1 a (.lst vs)) (q:RepL K F1 H1 ts vs):ItOk K (Itl K a) F1 H1 ts where
 go:=fun i F H t kp d e=>by
  obtain⟨v,h1,_⟩:=q.get e
  exact⟨vs,v,.inl (kp.lst _ _ fa hr).2,h1⟩
 yld:=fun i F H t x H' kp d e y=>by
  obtain⟨rfl,y⟩:=y
  obtain⟨v,h1,h2⟩:=(q.kp kp).get e
  have:=y vs (.inl (kp.lst _ _ fa hr).2)
  rw[h1] at this
  cases this
  exact⟨F,Ext.refl d,h2⟩
 stop:=fun i F H kp hl=>⟨vs,.inl (kp.lst _ _ fa hr).2,by rw[<- q.length];exact hl⟩
theorem zp1 {K:y00} {a:Addr} {F1:Addr->Prop} {H1:Hp} {ts:List T} {vs:List V} (hr:SqT K H1 a vs) (q:RepL K F1 H1 ts vs):ItOk K (Itt K a) F1 H1 ts where
 go:=fun i F H t kp d e=>by
  obtain⟨v,h1,_⟩:=q.get e
  exact⟨vs,v,kp.tup _ _ hr,h1⟩
 yld:=fun i F H t x H' kp d e y=>by
  obtain⟨rfl,y⟩:=y
  obtain⟨v,h1,h2⟩:=(q.kp kp).get e
  have:=y vs (kp.tup _ _ hr)
  rw[h1] at this
  cases this
  exact⟨F,Ext.refl d,h2⟩
 stop:=fun i F H kp hl=>⟨vs,kp.tup _ _ hr,by rw[<- q.length];exact hl⟩
theorem zgk (lo hi:Int):(rng lo hi).length=(hi - lo).toNat:=by simp[rng]
theorem zp3 {K:y00} {F1:Addr->Prop} {H1:Hp} (lo hi:Int):ItOk K (Itr lo (hi - lo).toNat) F1 H1 (rng lo hi) where
 go:=fun i F H t kp d e=>by
  have h:=(y0k.mp e).1
  rw[zgk] at h
  exact h
 yld:=fun i F H t x H' kp d e y=>by
  obtain⟨rfl,rfl⟩:=y
  refine⟨F,Ext.refl d,?_⟩
  have h:=(y0k.mp e).1
  rw[zgk] at h
  unfold rng at e
  rw[y14,List.getElem?_range h] at e
  simp at e
  subst e
  simp[Rep]
 stop:=fun i F H kp hl=>by
  rw[zgk] at hl
  exact hl
theorem zme {tg a:Expr} {f:Fe} {p pos:Pos} (hm:X.mg "range"=none) (ha:PEr X a f) (hg:Gl X "range":=by rfl) (hs:y0a [a] X.env=[(false,eval a X.env)]:=by rfl) (hs2:y0a [a] X.env=(false,eval a X.env)::y0a [] X.env:=by rfl) :
  PIt X tg (.Call (.Name "range" p) [a] [] pos) (z3p f):=ziy (zll hg hm (z5s ha z8b hs2) hs) fun σ H R ⟨F₀,H₀,O,F,ε,ts,r,e,k⟩=>by
 simp only[z3p,y01] at e
 obtain⟨t,et,e⟩:=e
 split at e
 next j =>
  split at e
  next hz =>
   cases e
   refine⟨F₀,H₀,O,F,ε,_,r,et,fun v F' H' x q=>⟨j,by rw[q.int],?_,?_,k _ F' H' x (by simpa using zp3 0 j)⟩⟩
   ·simp[z6h] at hz
    omega
   ·simp[z6h] at hz
    omega
  next=>cases e
 next=>cases e
theorem zja {tg iter:Expr} {body:List Stmt} {it:Fi} {gg:Fg} {bb:Fs} (hp:PassesOwn (y2r X.prog X.w) X.A X.env X.xe) (hi:PIt X tg iter it) (hg:PGt X tg gg) (hb:PBt X body bb) (hc:X.calm=true:=by rfl)
  (hs:∀x,y2s iter X.env x=pure x:=by intro _;rfl):PSt X (.For tg iter body [] pos) (for_ it gg bb):=z9i (ztt hp hc hi hg hb hs) fun D σ H ⟨F₀,H₀,O,F,ε,o,r,e,k⟩=>by
 simp only[for_,y01] at e
 obtain⟨ts,et,e⟩:=e
 refine⟨F₀,H₀,O,F,ε,ts,r,et,fun J F1 H1 x1 ok=>?_⟩
 refine⟨fun i m σ' H'=>m=ts.length - i/\i<=ts.length/\∃F' ε' ,Kp X.K F1 H1 F' H'/\RelE X.K F₀ H₀ O F' H' ε' σ'/\forL gg bb (ts.drop i) ε'=some o,⟨_,rfl,y1z _,F1,ε,Kp.refl,r.ext x1,by simpa using e⟩,?_⟩
 rintro i m σ' H' ⟨rfl,hi',F',ε',kp,r',e'⟩
 by_cases hlt:i<ts.length
 ·have hd:ts.drop i=ts[i]::ts.drop (i+1):=List.drop_eq_getElem_cons hlt
  have hg':ts[i]?=some ts[i]:=y0u hlt
  rw[hd] at e'
  simp only[forL,y01] at e'
  obtain⟨ε1,eg,o1,eb,e'⟩:=e'
  refine .inr ⟨ok.go i F' H' _ kp r'.dom hg',fun σ2 H2=>∃m',m'<ts.length - i/\(m'=ts.length - (i+1)/\i+1<=ts.length/\∃F2 ε2,Kp X.K F1 H1 F2 H2/\RelE X.K F₀ H₀ O F2 H2 ε2 σ2/\forL gg bb (ts.drop (i+1)) ε2=some o),fun _ _ z=>z,fun x H2 y=>?_⟩
  obtain⟨F2,x2,rx⟩:=ok.yld i F' H' _ x H2 kp r'.dom hg' y
  refine⟨F₀,H₀,O,F2,ε',_,ε1,r'.ext x2,rx,eg,fun σ3 r3=>⟨F₀,H₀,O,F2,ε1,o1,r3,eb,?_⟩⟩
  have kp2:Kp X.K F1 H1 F2 H2:=kp.trans x2.kp
  cases o1 with
  | nx ε2=>exact fun σ4 F4 H4 k4 r4=>⟨_,by omega,rfl,hlt,F4,ε2,kp2.trans k4,r4,e'⟩
  | ct ε2=>exact fun σ4 F4 H4 k4 r4=>⟨_,by omega,rfl,hlt,F4,ε2,kp2.trans k4,r4,e'⟩
  | bk ε2 =>
   cases e'
   exact fun σ4 F4 H4 k4 r4=>k σ4 F4 H4 ((x1.kp.trans kp2).trans k4) r4
  | rt t =>
   cases e'
   exact k
  | rtm t ε2 =>
   cases e'
   exact k
  | rto s =>
   cases e'
   exact k
 ·have hd:ts.drop i=[]:=List.drop_eq_nil_of_le (by omega)
  rw[hd] at e'
  cases e'
  exact .inl ⟨ok.stop i F' H' kp (by omega),k σ' F' H' (x1.kp.trans kp) r'⟩
theorem zr2 {body:List Stmt} {bb:Fs} (n:Nat) (hp:PassesOwn (y2r X.prog X.w) X.A X.env X.xe) (hc:PTt X c ft) (hb:PBt X body bb):PSt X (.While c body [] pos) (whl ft bb n):=z9i (zo9 hp hc hb) fun D σ H ⟨F₀,H₀,O,F,ε,o,r,e,k⟩=>by
 refine⟨fun m σ' H'=>∃F' ε',Kp X.K F H F' H'/\RelE X.K F₀ H₀ O F' H' ε' σ'/\whl ft bb m ε'=some o,⟨n,F,ε,Kp.refl,r,e⟩,?_⟩
 rintro m σ' H' ⟨F',ε',kp,r',e'⟩
 cases m with
 | zero=>cases e'
 | succ m =>
  simp only[whl,y01] at e'
  obtain⟨x,ex,e'⟩:=e'
  refine⟨F₀,H₀,O,F',ε',x,r',ex,fun F1 H1 x1=>?_⟩
  cases x with
  | false =>
   simp only[y1q,if_false] at e'
   cases e'
   exact iteF (k σ' F1 H1 (kp.trans x1.kp) (r'.ext x1))
  | true =>
   simp only[if_true,y01] at e'
   obtain⟨o1,eb,e'⟩:=e'
   refine iteT ⟨fun σ2 H2=>∃m',m'<m+1/\∃F2 ε2,Kp X.K F H F2 H2/\RelE X.K F₀ H₀ O F2 H2 ε2 σ2/\whl ft bb m' ε2=some o,fun _ _ z=>z,F₀,H₀,O,F1,ε',o1,r'.ext x1,eb,?_⟩
   have kp2:=kp.trans (x1.kp (K:=X.K))
   cases o1 with
   | nx ε2=>exact fun σ4 F4 H4 k4 r4=>⟨m,by omega,F4,ε2,kp2.trans k4,r4,e'⟩
   | ct ε2=>exact fun σ4 F4 H4 k4 r4=>⟨m,by omega,F4,ε2,kp2.trans k4,r4,e'⟩
   | bk ε2 =>
    cases e'
    exact fun σ4 F4 H4 k4 r4=>k σ4 F4 H4 (kp2.trans k4) r4
   | rt t =>
    cases e'
    exact k
   | rtm t ε2 =>
    cases e'
    exact k
   | rto s =>
    cases e'
    exact k
theorem zvr (i:Nat) {x:Str} {px apos cpos:Pos} (he:PEv X e f) (hN:X.N[i]?=some x:=by rfl) (hv:Vis X.env.scope x:=by first|exact Or.inl rfl|exact Or.inr (Or.inl rfl)|exact Or.inr (Or.inr rfl)) (hd:(x == ("__debug__":Str))=false:=by decide)
  (hcd:(x == ("__classdict__":Str))=false:=by decide) (hs1:y0a [e] X.env=(false,eval e X.env)::y0a [] X.env:=by rfl)
  (hbase:attributeBase (.Name x px) "append" X.env (eval (.Name x px) X.env)=eval (.Name x px) X.env:=by rfl)
  (hfew:((y2c cpos (y0a [e] X.env)).all (fun x=>!x.1) && (backToKw cpos (keywordEach [] X.env)).all (fun x=>x.1.isSome)
   && decide (([e]:List Expr).length+([]:List Keyword).length+(if ([]:List Keyword).isEmpty then 0 else 1)<30))=true:=by rfl)
  (hline:(apos.endLine == cpos.line)=true:=by rfl) (hplain:(y2c cpos (y0a [] X.env)).any (·.1)=false:=by rfl)
  (hsw:swapsWith (.Call (.Attribute (.Name x px) "append" apos) [e] [] cpos) none pos.line X.env=pure false:=by rfl) :
  PSt X (.Expr (.Call (.Attribute (.Name x px) "append" apos) [e] [] cpos) pos) (app i f) :=
 z9i (zrd (zog PySem.F.plainAttrs_list PySem.F.slot_list_append PySem.F.type_list_append zf3 (pv i hN hv hd hcd) (z5s he z8b hs1) hbase hfew hline hs1 hplain) hsw) fun D σ H ⟨F₀,H₀,O,F,ε,o,r,e,k⟩=>by
 unfold app at e
 split at e
 next ts he =>
  simp only[y01] at e
  obtain⟨t,et,e⟩:=e
  split at e
  next hz =>
   cases e
   obtain⟨v,h1,a,vs,rfl,n,h0,hh,hr⟩:=r.val _ _ he
   refine⟨_,h1,.inl ⟨rfl,_,SqL.of hh⟩,F₀,H₀,O,F,ε,t,r,et,fun v F' H' x q=>?_⟩
   have r1:=r.ext x
   obtain⟨v1,h1',a1,vs1,e1,n1,h01,hh1,hr1⟩:=r1.val _ _ he
   rw[h1] at h1'
   cases h1'
   cases e1
   refine⟨a,vs1,v,rfl,rfl,hh1,by rw[z7n,<- hr1.length];exact hz,?_⟩
   obtain⟨kp,r2⟩:=r1.mut (s':=.own (ts++[t])) (o':=.lst (vs1++[v])) he rfl h1 n1 h0 hh1 (.inl ⟨_,rfl⟩) fun kp=>⟨a,_,rfl,n1,h0,z0n,(hr1.kp kp).append (RepL.cons (q.kp kp) RepL.nil)⟩
   exact k σ F' _ (x.kp.trans kp) r2
  next=>cases e
 next=>cases e
end
end
section
variable [Tbl]
section
variable {X:Cx} {a b c e:Expr} {es:List Expr} {f g h:Fe} {fs:List Fe} {ft gt:Ft} {pos p:Pos}
theorem z0r:PAr X [] []:=ziz z8b fun σ H Q ⟨F₀,H₀,O,F,ε,ts,r,e,k⟩=>by
 cases e
 exact k [] F H (Ext.refl r.dom) .nil
theorem z0g (ha:PEr X e f) (hr:PAr X es fs) (hs:y0a (e::es) X.env=(false,eval e X.env)::y0a es X.env:=by rfl):PAr X (e::es) (f::fs):=ziz (z5s ha hr hs) fun σ H Q ⟨F₀,H₀,O,F,ε,ts,r,e,k⟩=>by
 simp only[args,y01,y07] at e
 obtain⟨t,et,us,eu,rfl⟩:=e
 refine⟨F₀,H₀,O,F,ε,t,r,et,fun v F1 H1 x1 q1=>⟨F₀,H₀,O,F1,ε,us,r.ext x1,eu,fun vs F2 H2 x2 q2=>?_⟩⟩
 exact k _ F2 H2 (x1.trans x2) (.cons (q1.ext x2) q2)
theorem z02:PAv X [] []:=ziz z8b fun σ H Q ⟨F₀,H₀,O,F,ε,ts,r,e,k⟩=>by
 cases e
 exact k [] F H (Ext.refl r.dom) RepL.nil
theorem z00 (ha:PEv X e f) (hr:PAv X es fs) (hs:y0a (e::es) X.env=(false,eval e X.env)::y0a es X.env:=by rfl):PAv X (e::es) (f::fs):=ziz (z5s ha hr hs) fun σ H Q ⟨F₀,H₀,O,F,ε,ts,r,e,k⟩=>by
 simp only[args,y01,y07] at e
 obtain⟨t,et,us,eu,rfl⟩:=e
 refine⟨F₀,H₀,O,F,ε,t,r,et,fun v F1 H1 x1 q1=>⟨F₀,H₀,O,F1,ε,us,r.ext x1,eu,fun vs F2 H2 x2 q2=>?_⟩⟩
 exact k _ F2 H2 (x1.trans x2) (RepL.cons (q1.ext x2) q2)
theorem z0y {x1} (h:PAv X es fs):PEv X (.Tuple es x1 pos) (z06 fs):=z0v (ztw h) fun σ H Q ⟨F₀,H₀,O,F,ε,t,r,e,k⟩=>by
 simp only[z06,y01] at e
 obtain⟨ts,et,e⟩:=e
 split at e
 next hz =>
  cases e
  refine⟨F₀,H₀,O,F,ε,ts,r,et,fun vs F1 H1 x1 q1=>⟨by rw[z7n,<- q1.length];exact hz,fun p hp=>?_⟩⟩
  have x2:=Ext.laid (o:=.tup vs) x1.dom hp
  refine k _ F1 _ (x1.trans x2) ?_
  simp only[Rep]
  exact⟨p,vs,rfl,SqT.of z0n,q1.ext x2⟩
 next=>cases e
theorem zvz (h:PAv X es fs):PEn X (.List es pos) (z3g fs):=z0v (zu0 h) fun σ H Q ⟨F₀,H₀,O,F,ε,us,r,e,k⟩=>by
 simp only[z3g,y01] at e
 obtain⟨ts,et,e⟩:=e
 split at e
 next hz =>
  cases e
  refine⟨F₀,H₀,O,F,ε,_,r,et,fun vs F1 H1 x1 q1=>⟨by rw[z7n,<- q1.length];exact hz,fun p hp=>?_⟩⟩
  have x2:=Ext.laid (o:=.lst vs) x1.dom hp
  refine k p vs F1 _ (x1.trans x2) ?_ ?_ z0n (q1.ext x2)
  ·exact x1.same.none hp
  ·intro fp
   obtain⟨o,eo⟩:=x1.dom p fp
   rw[hp] at eo
   cases eo
 next=>cases e
theorem zc5 (h:PAv X es fs):PEv X (.List es pos) (z3g fs):=n2v (zvz h) fun ε t e=>by
 simp only[z3g,y01] at e
 obtain⟨ts,et,e⟩:=e
 split at e
 ·cases e
  exact⟨_,rfl⟩
 ·cases e
mutual
theorem zcy {F:Addr->Prop} {pins:List (Addr×Obj)} {σ:L2.St} {H:Hp} {s:y04} (I:Inv X pins σ H s):∀{t:T} {v:V} {u:Value},Rep X.K F H t v->RelV v u->∃as,Reads s.heap u t as
 | .none,v,u,h,r=>by
  simp only[Rep] at h
  subst h
  cases r
  exact⟨_,.none⟩
 | .bool b,v,u,h,r=>by
  simp only[Rep] at h
  subst h
  cases r
  exact⟨_,.bool b⟩
 | .int i,v,u,h,r=>by
  simp only[Rep] at h
  subst h
  obtain⟨t,rfl⟩:=r
  exact⟨_,.int i t⟩
 | .str x,v,u,h,r=>by
  simp only[Rep] at h
  subst h
  obtain⟨t,rfl⟩:=r
  exact⟨_,.str x t⟩
 | .dict _,v,u,h,r=>by simp[Rep] at h
 | .tuple ts,v,u,h,r=>by
  simp only[Rep] at h
  obtain⟨a,vs,rfl,hs,hr⟩:=h
  cases r
  obtain⟨its,rv,⟨o,h1,h2,n,h3⟩,hz⟩:=I.tuple hs
  obtain⟨as,ra⟩:=z89 I hr rv
  exact⟨_,.tuple h1 h2 h3 (by simpa using ra)⟩
 | .list ts,v,u,h,r=>by
  simp only[Rep] at h
  obtain⟨a,vs,rfl,fa,hs,hr⟩:=h
  cases r
  obtain⟨z,its,n,rv,hl,e⟩:=Inv.lstR I hs
  obtain⟨as,ra⟩:=z89 I hr rv
  exact⟨_,.list e rfl rfl (by simpa using ra)⟩
theorem z89 {F:Addr->Prop} {pins:List (Addr×Obj)} {σ:L2.St} {H:Hp} {s:y04} (I:Inv X pins σ H s):∀{ts:List T} {vs:List V} {us:List Value},RepL X.K F H ts vs->Vals vs us->∃as,ReadsAll s.heap us ts as
 | [],vs,us,h,r=>by
  simp only[RepL] at h
  subst h
  cases r
  exact⟨_,.nil⟩
 | t::ts,vs,us,h,r=>by
  simp only[RepL] at h
  obtain⟨v,vr,rfl,h1,h2⟩:=h
  cases r with
  | cons r1 r2 =>
   obtain⟨as,q1⟩:=zcy I h1 r1
   obtain⟨bs,q2⟩:=z89 I h2 r2
   exact⟨_,.cons q1 q2⟩
end
theorem z4x {O F:Addr->Prop} {pins:List (Addr×Obj)} {σ:L2.St} {H:Hp} {s:y04} (I:Inv X pins σ H s) {t:T} {v:V} {u:Value} (h:RepR X.K O F H t v) (r:RelV v u):∃as,Reads s.heap u t as:=by
 rcases h with h|⟨ts,a,vs,rfl,rfl,ha,h⟩
 ·exact zcy I h r
 ·cases r
  obtain⟨z,its,n,rv,hl,e⟩:=Inv.lstR I (.inl ha)
  obtain⟨as,ra⟩:=z89 I h rv
  exact⟨_,.list e rfl rfl (by simpa using ra)⟩
theorem zem {t:T} (h:okT t=true):t.canLay0=true/\t.depth<=60:=by
 simp only[okT,y19,decide_eq_true_eq] at h
 exact h
theorem zuc {t:List T} (h:okL t=true):y1e t=true/\y1c t<=60:=by
 simp only[okL,y19,decide_eq_true_eq] at h
 exact h
noncomputable def zo4 (K:y00) (n:Bool):R2:=fun x y H Q=>∃(O F:Addr->Prop) (s t:T),RepR K O F H s x/\RepR K O F H t y/\okT s=true/\okT t=true/\Q (.bl (if n then !PyData.eqv s t else y1v s t)) H
theorem z3e (hu:X.A.units+64<cLine):OpR X (y2h .Eq) (zo4 X.K false):=by
 intro pins s σ H x y v u Q I rx ry ⟨O,F,d,t,h1,h2,o1,o2,q⟩
 obtain⟨as,ra⟩:=z4x I h1 rx
 obtain⟨bs,rb⟩:=z4x I h2 ry
 obtain⟨c1,l1⟩:=zem o1
 obtain⟨c2,l2⟩:=zem o2
 refine SeqAt.compareEq_reads ra rb c1 c2 (by have:=Nat.min_le_left d.depth t.depth;omega) ?_
 exact⟨.bl _,H,I,rfl,q⟩
theorem z5o (hu:X.A.units+64<cLine):OpR X (y2h .NotEq) (zo4 X.K true):=by
 intro pins s σ H x y v u Q I rx ry ⟨O,F,d,t,h1,h2,o1,o2,q⟩
 obtain⟨as,ra⟩:=z4x I h1 rx
 obtain⟨bs,rb⟩:=z4x I h2 ry
 obtain⟨c1,l1⟩:=zem o1
 obtain⟨c2,l2⟩:=zem o2
 refine SeqAt.compareNe_reads ra rb c1 c2 (by have:=Nat.min_le_left d.depth t.depth;omega) ?_
 exact⟨.bl _,H,I,rfl,q⟩
theorem z7p {op:CmpOp} {R:R2} {o:T->T->Option T} (ho:OpR X (y2h op) R) (h2:Op2 X.K o R) (ha:PEr X a f) (hb:PEr X b g) (hm:y2l op b=false:=by first|exact zq8 _|rfl):PEv X (.Compare a [op] [b] pos) (op2 o f g):=z0v (zrk ho ha hb hm) (z4y h2)
theorem z2d {op:CmpOp} {R:R2} {o:T->T->Option T} (ho:OpR X (y2h op) R) (h2:Op2 X.K o R) (ha:PEr X a f) (hb:PEr X b g) (hm:y2l op b=false:=by first|exact zq8 _|rfl):PTt X (.Compare a [op] [b] pos) (tstB (op2 o f g)) :=
 zbk (zra ho ha hb hm) fun σ H Q ⟨F₀,H₀,O,F,ε,b,r,e,k⟩=>by
 simp only[tstB,y01] at e
 obtain⟨t,et,e⟩:=e
 split at e
 ·cases e
  refine z4y h2 σ H _ ⟨F₀,H₀,O,F,ε,_,r,et,fun v F' H' x q=>?_⟩
  simp only[Rep] at q
  exact⟨_,q,k F' H' x⟩
 ·cases e
theorem z3f:Op2 X.K oEq (zo4 X.K false):=by
  intro O F H x y t vx vy Q d rx ry e k
  unfold oEq at e
  split at e
  next hz =>
   cases e
   rw[y19] at hz
   exact⟨O,F,x,y,rx,ry,hz.1,hz.2,k _ F H (Ext.refl d) (by simp[Rep])⟩
  next=>cases e
theorem z5p:Op2 X.K oNe (zo4 X.K true):=by
  intro O F H x y t vx vy Q d rx ry e k
  unfold oNe at e
  split at e
  next hz =>
   cases e
   rw[y19] at hz
   exact⟨O,F,x,y,rx,ry,hz.1,hz.2,k _ F H (Ext.refl d) (by simp[Rep])⟩
  next=>cases e
noncomputable def rInT (K:y00) (n:Bool):R2:=fun x y H Q=>∃(O F:Addr->Prop) (s:T) (ts:List T),RepR K O F H s x/\(RepR K O F H (.tuple ts) y\/RepR K O F H (.list ts) y)/\okT s=true/\okL ts=true/\Q (.bl (if n then !hasT s ts else hasT s ts)) H
theorem zak (hu:X.A.units+64<cLine):OpR X (y2h .In) (rInT X.K false):=by
 intro pins s σ H x y v u Q I rx ry ⟨O,F,d,ts,h1,h2,o1,o2,q⟩
 obtain⟨as,ra⟩:=z4x I h1 rx
 obtain⟨c1,l1⟩:=zem o1
 obtain⟨c2,l2⟩:=zuc o2
 have hm:=Nat.min_le_left (y1c ts) d.depth
 rcases h2 with h2|h2
 ·obtain⟨bs,rb⟩:=z4x I h2 ry
  exact SeqAt.in_tuple_reads rb ra c2 c1 (by omega) ⟨.bl _,H,I,rfl,q⟩
 ·obtain⟨bs,rb⟩:=z4x I h2 ry
  exact SeqAt.in_list_reads rb ra c2 c1 (by omega) ⟨.bl _,H,I,rfl,q⟩
theorem zam {n:Bool}:Op2 X.K (oIn n) (rInT X.K n):=by
 intro O F H x y t vx vy Q d rx ry e k
 unfold oIn at e
 split at e
 ·split at e
  next hz =>
   cases e
   rw[y19] at hz
   exact⟨O,F,x,_,rx,.inl ry,hz.1,hz.2,k _ F H (Ext.refl d) (by simp[Rep])⟩
  next=>cases e
 ·split at e
  next hz =>
   cases e
   rw[y19] at hz
   exact⟨O,F,x,_,rx,.inr ry,hz.1,hz.2,k _ F H (Ext.refl d) (by simp[Rep])⟩
  next=>cases e
 ·cases e
theorem zel:Op2 X.K oLt (fun x y H Q=>rI0 (fun i j=>.bl (decide (i<j))) x y H Q\/∃i j,x=.str i/\y=.str j/\Q (.bl (decide (i.cps.toList<j.cps.toList))) H):=by
  intro O F H x y t vx vy Q d rx ry e k
  unfold oLt at e
  split at e
  ·cases e
   rw[rx.int,ry.int]
   exact .inl ⟨_,_,rfl,rfl,k _ F H (Ext.refl d) (by simp[Rep])⟩
  ·cases e
   rw[rx.str,ry.str]
   exact .inr ⟨_,_,rfl,rfl,k _ F H (Ext.refl d) (by simp[Rep,strLt])⟩
  ·cases e
theorem z8d:OpR X (y2h .LtE) (fun x y H Q=>∃i j,x=.str i/\y=.str j/\Q (.bl (!strLt j i)) H):=by
 intro pins s σ H x y v u Q I rx ry ⟨i,j,e1,e2,q⟩
 subst e1 e2
 obtain⟨t,rfl⟩:=rx
 obtain⟨t',rfl⟩:=ry
 exact PySem.P.le_str (ziq I q (by simp[strLt]))
theorem zek:OpR X (y2h .GtE) (fun x y H Q=>∃i j,x=.str i/\y=.str j/\Q (.bl (!strLt i j)) H):=by
 intro pins s σ H x y v u Q I rx ry ⟨i,j,e1,e2,q⟩
 subst e1 e2
 obtain⟨t,rfl⟩:=rx
 obtain⟨t',rfl⟩:=ry
 exact PySem.P.ge_str (ziq I q (by simp[strLt]))
theorem zal:OpR X (y2h .Gt) (fun x y H Q=>∃i j,x=.str i/\y=.str j/\Q (.bl (strLt j i)) H):=by
 intro pins s σ H x y v u Q I rx ry ⟨i,j,e1,e2,q⟩
 subst e1 e2
 obtain⟨t,rfl⟩:=rx
 obtain⟨t',rfl⟩:=ry
 exact PySem.P.gt_str (ziq I q (by simp[strLt]))
theorem zie:Op2 X.K oLe (fun x y H Q=>rI0 (fun i j=>.bl (decide (i<=j))) x y H Q\/∃i j,x=.str i/\y=.str j/\Q (.bl (!strLt j i)) H):=by
 intro O F H x y t vx vy Q d rx ry e k
 unfold oLe at e
 split at e
 ·cases e
  rw[rx.int,ry.int]
  exact .inl ⟨_,_,rfl,rfl,k _ F H (Ext.refl d) (by simp[Rep])⟩
 ·cases e
  rw[rx.str,ry.str]
  exact .inr ⟨_,_,rfl,rfl,k _ F H (Ext.refl d) (by simp[Rep])⟩
 ·cases e
theorem zlp:Op2 X.K oGt (fun x y H Q=>rI0 (fun i j=>.bl (decide (j<i))) x y H Q\/∃i j,x=.str i/\y=.str j/\Q (.bl (strLt j i)) H):=by
 intro O F H x y t vx vy Q d rx ry e k
 unfold oGt at e
 split at e
 ·cases e
  rw[rx.int,ry.int]
  exact .inl ⟨_,_,rfl,rfl,k _ F H (Ext.refl d) (by simp[Rep])⟩
 ·cases e
  rw[rx.str,ry.str]
  exact .inr ⟨_,_,rfl,rfl,k _ F H (Ext.refl d) (by simp[Rep])⟩
 ·cases e
theorem zq6:Op2 X.K oGe (fun x y H Q=>rI0 (fun i j=>.bl (decide (j<=i))) x y H Q\/∃i j,x=.str i/\y=.str j/\Q (.bl (!strLt i j)) H):=by
 intro O F H x y t vx vy Q d rx ry e k
 unfold oGe at e
 split at e
 ·cases e
  rw[rx.int,ry.int]
  exact .inl ⟨_,_,rfl,rfl,k _ F H (Ext.refl d) (by simp[Rep])⟩
 ·cases e
  rw[rx.str,ry.str]
  exact .inr ⟨_,_,rfl,rfl,k _ F H (Ext.refl d) (by simp[Rep])⟩
 ·cases e
theorem zlf (ha:PEr X a f) (hb:PEr X b g) (hc:PEr X c h) (hm:lastMarks [.LtE,.LtE] [b,c]=false:=by with_unfolding_all rfl):PEv X (.Compare a [.LtE,.LtE] [b,c] pos) (chain oLe oLe f g h) :=
 z0v (zof (zoh.or z8d) (zoh.or z8d) ha hb hc hm) fun σ H Q ⟨F₀,H₀,O,F,ε,t,r,e,k⟩=>by
 simp only[chain,y01] at e
 obtain⟨x,ex,y,ey,z,ez,e⟩:=e
 refine⟨F₀,H₀,O,F,ε,x,r,ex,fun vx F1 H1 x1 rx=>⟨F₀,H₀,O,F1,ε,y,r.ext x1,ey,fun vy F2 H2 x2 ry=>?_⟩⟩
 refine zie (X:=X) O F2 H2 x y z vx vy _ x2.dom (rx.ext x2) ry ez fun v F3 H3 x3 q3=>?_
 split at e
 ·simp only[Rep] at q3
  subst q3
  simp only[y01] at e
  obtain⟨w,ew,ep⟩:=e
  refine⟨true,rfl,iteT ⟨F₀,H₀,O,F3,ε,w,((r.ext x1).ext x2).ext x3,ew,fun vw F4 H4 x4 rw'=>?_⟩⟩
  exact zie (X:=X) O F4 H4 y w t vy vw _ x4.dom ((ry.ext x3).ext x4) rw' ep fun v F5 H5 x5 q5=>k v F5 H5 ((((x1.trans x2).trans x3).trans x4).trans x5) q5
 ·simp only[Rep] at q3
  subst q3
  cases e
  exact⟨false,rfl,iteF (k _ F3 H3 ((x1.trans x2).trans x3) (by simp[Rep]))⟩
 ·cases e
theorem zr7 {j pos'} (ha:PEr X a f):PEv X (.Compare a [.Is] [.Constant .none j pos'] pos) (op1 oIsN f):=z0v (zu3 (zq5 ha)) fun σ H Q ⟨F₀,H₀,O,F,ε,t,r,e,k⟩=>by
 simp only[op1,y01] at e
 obtain⟨x,ex,e⟩:=e
 cases e
 refine⟨F₀,H₀,O,F,ε,x,r,ex,fun v F1 H1 x1 rx=>k _ F1 H1 x1 ?_⟩
 cases x with
 | none=>rw[rx.non];simp[Rep]
 | bool b=>rw[rx.bl];simp[Rep]
 | int b=>rw[rx.int];simp[Rep]
 | str b=>rw[rx.str];simp[Rep]
 | tuple b=>obtain⟨_,_,e,_⟩:=rx.tup;rw[e];simp[Rep]
 | list b=>obtain⟨_,_,e,_⟩:=rx.lst;rw[e];simp[Rep]
 | dict b=>rcases rx with rx|⟨_,_,_,z,_⟩;simp[Rep] at rx;cases z
theorem ztj (ha:PEr X a f):PEv X (.UnaryOp .USub a pos) (op1 oNeg f):=z0v (zw3 zsu ha) fun σ H Q ⟨F₀,H₀,O,F,ε,t,r,e,k⟩=>by
 simp only[op1,y01] at e
 obtain⟨x,ex,e⟩:=e
 unfold oNeg at e
 split at e
 ·cases e
  exact⟨F₀,H₀,O,F,ε,_,r,ex,fun v F1 H1 x1 rx=>⟨_,rx.int,k _ F1 H1 x1 (by simp[Rep])⟩⟩
 ·cases e
noncomputable def OpN (K:y00) (o:List T->Option T) (R:List V->Hp->VK->Prop):Prop :=
 ∀(O F:Addr->Prop) (H:Hp) (ts:List T) (t:T) (vs:List V) (Q:VK),Dom F H->Paired (RepR K O F H) ts vs->o ts=some t ->
  (∀v F' H',Ext F H F' H'->Rep K F' H' t v->Q v H')->R vs H Q
theorem z64 {o:List T->Option T} {R:List V->Hp->VK->Prop} (hR:OpN X.K o R):∀σ H Q,tV X.K (opN o fs) σ H Q->tCB R (tAR X.K fs) σ H Q:=by
 rintro σ H Q ⟨F₀,H₀,O,F,ε,t,r,e,k⟩
 simp only[opN,y01] at e
 obtain⟨ts,et,eo⟩:=e
 exact⟨F₀,H₀,O,F,ε,ts,r,et,fun vs F1 H1 x1 q=>hR O F1 H1 ts t vs Q x1.dom q eo fun v F' H' x3 q3=>k v F' H' (x1.trans x3) q3⟩
theorem zeg (hm:X.mg "len"=none) (ha:PAr X (e::es) fs) (hg:Gl X "len":=by rfl) (he:y0a (e::es) X.env=(false,eval e X.env)::y0a es X.env:=by rfl) (hpl:(y2c pos (y0a es X.env)).any (·.1)=false:=by rfl) :
  PEv X (.Call (.Name "len" p) (e::es) [] pos) (opN oLen fs):=z0v (z79 (zfj.or zfi) hg hm PySem.boot_len ha (he:=he) (hpl:=hpl)) (z64 (by
 intro O F H ts t vs Q d q e k
 unfold oLen at e
 split at e
 ·cases e
  cases q with
  | cons q1 q2 =>
   cases q2
   obtain⟨a,ws,rfl,hs,hr⟩:=q1.tup
   exact .inl ⟨a,ws,rfl,.inr hs,k _ F H (Ext.refl d) (by simp[Rep,hr.length])⟩
 ·cases e
  cases q with
  | cons q1 q2 =>
   cases q2
   obtain⟨a,ws,rfl,hs,hr⟩:=q1.lst
   exact .inl ⟨a,ws,rfl,.inl (.inl hs),k _ F H (Ext.refl d) (by simp[Rep,hr.length])⟩
 ·split at e
  next hz =>
   cases e
   cases q with
   | cons q1 q2 =>
    cases q2
    exact .inr ⟨_,by rw[q1.str],by rw[z7n];exact hz,k _ F H (Ext.refl d) (by simp[Rep])⟩
  next=>cases e
 ·cases e))
theorem zvx (hm:X.mg "min"=none) (ha:PAr X (e::es) fs) (hc:X.calm=true:=by rfl) (hg:Gl X "min":=by rfl) (he:y0a (e::es) X.env=(false,eval e X.env)::y0a es X.env:=by rfl) (hpl:(y2c pos (y0a es X.env)).any (·.1)=false:=by rfl) :
  PEv X (.Call (.Name "min" p) (e::es) [] pos) (opN oMin fs):=z0v (z79 (zmz hc) hg hm (by decide +kernel) ha (he:=he) (hpl:=hpl)) (z64 (by
 intro O F H ts t vs Q d q e k
 unfold oMin at e
 split at e
 ·cases e
  cases q with
  | cons q1 q2 =>
   cases q2 with
   | cons q2 q3 =>
    cases q3
    exact⟨_,_,by rw[q1.int,q2.int],k _ F H (Ext.refl d) (by simp[Rep])⟩
 ·cases e))
theorem zvy (hm:X.mg "max"=none) (ha:PAr X (e::es) fs) (hc:X.calm=true:=by rfl) (hg:Gl X "max":=by rfl) (he:y0a (e::es) X.env=(false,eval e X.env)::y0a es X.env:=by rfl) (hpl:(y2c pos (y0a es X.env)).any (·.1)=false:=by rfl) :
  PEv X (.Call (.Name "max" p) (e::es) [] pos) (opN oMax fs):=z0v (z79 (zn0 hc) hg hm (by decide +kernel) ha (he:=he) (hpl:=hpl)) (z64 (by
 intro O F H ts t vs Q d q e k
 unfold oMax at e
 split at e
 ·cases e
  cases q with
  | cons q1 q2 =>
   cases q2 with
   | cons q2 q3 =>
    cases q3
    exact⟨_,_,by rw[q1.int,q2.int],k _ F H (Ext.refl d) (by simp[Rep])⟩
 ·cases e))
theorem z3t (hm:X.mg "tuple"=none) (ha:PAr X (e::es) fs) (hg:Gl X "tuple":=by rfl) (he:y0a (e::es) X.env=(false,eval e X.env)::y0a es X.env:=by rfl) (hpl:(y2c pos (y0a es X.env)).any (·.1)=false:=by rfl) :
  PEv X (.Call (.Name "tuple" p) (e::es) [] pos) (opN z0t fs):=z0v (zai zdh hg hm (by decide +kernel) ha (he:=he) (hpl:=hpl)) (z64 (by
 intro O F H ts t vs Q d q e k
 unfold z0t at e
 split at e
 ·cases e
  cases q with
  | cons q1 q2 =>
   cases q2
   obtain⟨a,ws,rfl,hs,hr⟩:=q1.tup
   refine⟨a,ws,rfl,.inr ⟨hs,k _ F H (Ext.refl d) ?_⟩⟩
   simp only[Rep]
   exact⟨a,ws,rfl,hs,hr⟩
 ·cases e
  cases q with
  | cons q1 q2 =>
   cases q2
   obtain⟨a,ws,rfl,hs,hr⟩:=q1.lst
   refine⟨a,ws,rfl,.inl ⟨.inl hs,fun l hl=>?_⟩⟩
   have x1:=Ext.laid (o:=.tup ws) d hl
   refine k _ F _ x1 ?_
   simp only[Rep]
   exact⟨l,ws,rfl,SqT.of z0n,hr.ext x1⟩
 ·cases e))
theorem ztk (hm:X.mg "int"=none) (ha:PAr X (e::es) fs) (hg:Gl X "int":=by rfl) (he:y0a (e::es) X.env=(false,eval e X.env)::y0a es X.env:=by rfl) (hpl:(y2c pos (y0a es X.env)).any (·.1)=false:=by rfl) :
  PEv X (.Call (.Name "int" p) (e::es) [] pos) (opN oInt fs):=z0v (zai zn1 hg hm (by decide +kernel) ha (he:=he) (hpl:=hpl)) (z64 (by
 intro O F H ts t vs Q d q e k
 unfold oInt at e
 split at e
 ·cases e
  cases q with
  | cons q1 q2 =>
   cases q2
   exact .inl ⟨_,by rw[q1.int],k _ F H (Ext.refl d) (by simp[Rep])⟩
 ·cases e
  cases q with
  | cons q1 q2 =>
   cases q2
   exact .inr ⟨_,by rw[q1.bl],k _ F H (Ext.refl d) (by simp[Rep])⟩
 ·cases e))
theorem z3o (h:PEr X e f) (he:∀whole,isTrue e X.env whole=(do let v <- whole;standAt e.pos;holding [v] (truthy v)):=by intro _;rfl):PTt X e (tstB f):=zbk (ztr h he) fun σ H Q ⟨F₀,H₀,O,F,ε,b,r,e,k⟩=>by
 simp only[tstB,y01] at e
 obtain⟨t,et,e⟩:=e
 split at e
 ·cases e
  exact⟨F₀,H₀,O,F,ε,_,r,et,fun v F1 H1 x1 rx=>⟨_,rx.bl,k F1 H1 x1⟩⟩
 ·cases e
theorem zt1 {j pos'} (ha:PEr X a f):PTt X (.Compare a [.Is] [.Constant .none j pos'] pos) (tstB (op1 oIsN f)):=zbk (zq1 (zq5 ha)) fun σ H Q ⟨F₀,H₀,O,F,ε,t,r,e,k⟩=>by
 simp only[tstB,op1,oIsN,y01] at e
 obtain⟨_,⟨x,ex,e1⟩,e⟩:=e
 cases e1
 cases e
 refine⟨F₀,H₀,O,F,ε,x,r,ex,fun v F1 H1 x1 rx=>⟨_,?_,k F1 H1 x1⟩⟩
 cases x with
 | none=>rw[rx.non];simp
 | bool b=>rw[rx.bl];simp
 | int b=>rw[rx.int];simp
 | str b=>rw[rx.str];simp
 | tuple b=>obtain⟨_,_,e,_⟩:=rx.tup;rw[e];simp
 | list b=>obtain⟨_,_,e,_⟩:=rx.lst;rw[e];simp
 | dict b=>rcases rx with rx|⟨_,_,_,z,_⟩;simp[Rep] at rx;cases z
theorem zsy {j pos'} (ha:PEr X a f):PTt X (.Compare a [.IsNot] [.Constant .none j pos'] pos) (tstB (op1 z5i f)):=zbk (zq1 (zrm ha)) fun σ H Q ⟨F₀,H₀,O,F,ε,t,r,e,k⟩=>by
 simp only[tstB,op1,z5i,y01] at e
 obtain⟨_,⟨x,ex,e1⟩,e⟩:=e
 cases e1
 cases e
 refine⟨F₀,H₀,O,F,ε,x,r,ex,fun v F1 H1 x1 rx=>⟨_,?_,k F1 H1 x1⟩⟩
 cases x with
 | none=>rw[rx.non];simp
 | bool b=>rw[rx.bl];simp
 | int b=>rw[rx.int];simp
 | str b=>rw[rx.str];simp
 | tuple b=>obtain⟨_,_,e,_⟩:=rx.tup;rw[e];simp
 | list b=>obtain⟨_,_,e,_⟩:=rx.lst;rw[e];simp
 | dict b=>rcases rx with rx|⟨_,_,_,z,_⟩;simp[Rep] at rx;cases z
theorem zsz (h:PEr X e f) (he:∀whole,isTrue e X.env whole=(do let v <- whole;standAt e.pos;holding [v] (truthy v)):=by intro _;rfl):PTt X e (tstL f):=zbk (zo6 h he) fun σ H Q ⟨F₀,H₀,O,F,ε,b,r,e,k⟩=>by
 simp only[tstL,y01] at e
 obtain⟨t,et,e⟩:=e
 have emp:∀{ts:List T} {vs:List V} {F1:Addr->Prop} {H1:Hp},RepL X.K F1 H1 ts vs->ts.isEmpty=vs.isEmpty:=fun {ts vs F1 H1} q=>by
  have:=q.length
  cases ts <;> cases vs <;> simp_all
 split at e
 ·cases e
  refine⟨F₀,H₀,O,F,ε,_,r,et,fun v F1 H1 x1 rx=>?_⟩
  obtain⟨a,vs,rfl,hs,hr⟩:=rx.lst
  exact⟨_,.inl ⟨vs,.inl hs,by rw[emp hr]⟩,k F1 H1 x1⟩
 ·cases e
  refine⟨F₀,H₀,O,F,ε,_,r,et,fun v F1 H1 x1 rx=>?_⟩
  obtain⟨a,vs,rfl,hs,hr⟩:=rx.tup
  exact⟨_,.inr (.inl ⟨vs,hs,by rw[emp hr]⟩),k F1 H1 x1⟩
 ·cases e
theorem z62 (h:PTt X e ft):PTt X (.UnaryOp .Not e pos) (notT ft):=zbk (zts h) fun σ H Q ⟨F₀,H₀,O,F,ε,b,r,e,k⟩=>by
 simp only[notT,y07] at e
 obtain⟨c,ec,rfl⟩:=e
 exact⟨F₀,H₀,O,F,ε,c,r,ec,fun F1 H1 x1=>k F1 H1 x1⟩
theorem zkt (h:PTt X e ft):PWt X (.BoolOp .And [e] pos) ft:=zr9 h
theorem z85 (h:PTt X e ft):PWt X (.BoolOp .Or [e] pos) ft:=ztp h
theorem w_and (h:PTt X a ft) (h2:PWt X (.BoolOp .And (b::es) pos) gt):PWt X (.BoolOp .And (a::b::es) pos) (andT ft gt):=zql (ztq h h2) fun σ H Q ⟨F₀,H₀,O,F,ε,b,r,e,k⟩=>by
 simp only[andT,y01] at e
 obtain⟨c,ec,e⟩:=e
 refine⟨F₀,H₀,O,F,ε,c,r,ec,fun F1 H1 x1=>?_⟩
 cases c with
 | true=>exact iteT ⟨F₀,H₀,O,F1,ε,b,r.ext x1,by simpa using e,fun F2 H2 x2=>k F2 H2 (x1.trans x2)⟩
 | false =>
  have:b=false:=by simpa using e.symm
  subst this
  exact iteF (k F1 H1 x1)
theorem w_or (h:PTt X a ft) (h2:PWt X (.BoolOp .Or (b::es) pos) gt):PWt X (.BoolOp .Or (a::b::es) pos) (orT ft gt):=zql (zw0 h h2) fun σ H Q ⟨F₀,H₀,O,F,ε,b,r,e,k⟩=>by
 simp only[orT,y01] at e
 obtain⟨c,ec,e⟩:=e
 refine⟨F₀,H₀,O,F,ε,c,r,ec,fun F1 H1 x1=>?_⟩
 cases c with
 | true =>
  have:b=true:=by simpa using e.symm
  subst this
  exact iteT (k F1 H1 x1)
 | false=>exact iteF ⟨F₀,H₀,O,F1,ε,b,r.ext x1,by simpa using e,fun F2 H2 x2=>k F2 H2 (x1.trans x2)⟩
theorem w_t (h:PWt X e ft):PTt X e ft:=h.pt
end
end
section
variable [Tbl]
noncomputable def spT (K:y00) (n:Nat) (d:List T->Option T):Sp:=fun vs H Q _=>vs.length=n/\∃F ts t,Dom F H/\RepL K F H ts vs/\d ts=some t/\∀v F' H',Ext F H F' H'->Rep K F' H' t v->Q v H'
section
variable {X:Cx} {k n:Nat} {fa:Addr} {fd:y0b} {ps:List Str} {d:List T->Option T} {x:Str} {p pos:Pos} {e:Expr} {es:List Expr} {fs:List Fe}
theorem ztn (F:FnOk X.prog X.w X.K X.mg X.base CX0 k fa fd ps (spT X.K n d)) (hr:Room k X.A) (hg:Gl X x) (hm:X.mg x=some (.ref fa)) (hk:y08 X.K (.ref fa)=true) (hb:Binds X.K fd ps [])
  (ha:PAv X (e::es) fs) (hn:fs.length=n:=by rfl) (hdb:(x == ("__debug__":Str))=false:=by decide) (he:y0a (e::es) X.env=(false,eval e X.env)::y0a es X.env:=by rfl) (hpl:(y2c pos (y0a es X.env)).any (·.1)=false:=by rfl) :
  PEv X (.Call (.Name x p) (e::es) [] pos) (opN d fs):=z0v (zrl F hr hg hm hk hb .nil zw7 ha hdb he hpl) fun σ H Q ⟨F₀,H₀,O,F,ε,t,r,e,k⟩=>by
 simp only[opN,y01] at e
 obtain⟨ts,et,ed⟩:=e
 have hl:∀(gs:List Fe) (us:List T),args gs ε=some us->us.length=gs.length:=by
  intro gs
  induction gs with
  | nil=>intro us e;cases e;rfl
  | cons g gs ih =>
   intro us e
   simp only[args,y01,y07] at e
   obtain⟨t,_,vs,ev,rfl⟩:=e
   simp[ih vs ev]
 refine⟨F₀,H₀,O,F,ε,ts,r,et,fun vs F1 H1 x1 q=>⟨?_,F1,ts,t,x1.dom,by simpa using q,ed,fun v F' H' x2 q2=>k v F' H' (x1.trans x2) q2⟩⟩
 rw[y1t,<- q.length,hl fs ts et,hn]
end
section
variable {P:y0q} {w:World} {K:y00} {mg:Str->Option Value} {base:Heap}
theorem zje {F:Addr->Prop} {H:Hp} {ts:List T} {vs:List V} {N:List Str} (dom:Dom F H) (q:RepL K F H ts vs) (n:Nat) :
  RelE K F ⟨H,0⟩ (fun a=>H a=none) F H ((ts.map fun t=>some (.imm t))++y0g n none) (vs.map some++y0g n none):=by
 have imm:∀(i:Nat) (s:Sl),((ts.map fun t=>some (Sl.imm t))++y0g n none)[i]?=some (some s)->∃t,s=.imm t/\ts[i]?=some t:=by
  intro i s e
  by_cases hi:i<ts.length
  ·rw[y1k (by simpa using hi),y14] at e
   rw[y0u hi] at e ⊢
   simp at e
   exact⟨_,e.symm,rfl⟩
  ·rw[y1j (by simpa using hi),List.getElem?_replicate] at e
   split at e <;> cases e
 refine⟨by simp[q.length],fun i s e=>?_,fun i j s u v w hij e1 e2 o1=>?_,Ext.refl dom,fun _ h=>h,fun _ h=>h⟩
 ·obtain⟨t,rfl,ht⟩:=imm i s e
  obtain⟨v,hv,rv⟩:=q.get ht
  refine⟨v,?_,rv⟩
  rw[y1k (by have:=(y0k.mp hv).1;simpa using this),y14,hv]
  rfl
 ·obtain⟨t,rfl,_⟩:=imm i s e1
  cases o1
theorem zqe {x qual:Str} {st:Stmt} {f:Addr} {fd:y0b} {N ps:List Str} {k:Nat} {b:Fs} (F:Fun K x qual st f fd) (S:FnScope N ps (z01 st))
  (hb:∀(cdv:Value) (A:Around) (outer:List Env) (s:y04) (H:Hp) (E:XK),Room k (A.deeper (envOfC qual (z01 st) s.heap.objs.size f cdv)) ->
   PBt (cxOf CX0 P w K mg base N qual (z01 st) f cdv A outer s H E).nox (z0a st) b) :
  FnOk P w K mg base CX0 (k+1) f fd ps (spT K ps.length (runF b N.length)):=by
 refine F.ok S (fun vs H Q E h=>h.1) fun cdv A outer s H vs Q E hr h=>⟨_,hb cdv A outer s H E hr,?_⟩
 obtain⟨hl,F,ts,t,dom,q,e,kq⟩:=h
 simp only[runF,y01] at e
 obtain⟨o,eo,e⟩:=e
 refine⟨F,⟨H,0⟩,fun a=>H a=none,F,_,o,?_,eo,?_⟩
 ·have:=zje (N:=N) dom q (N.length - ts.length)
  unfold L2.start
  rw[q.length] at this ⊢
  exact this
 ·cases o with
  | rt t' =>
   cases e
   exact fun v F' H' x q=>kq v F' H' x q
  | nx ε' =>
   cases e
   exact fun σ' F' H' _ r=>kq _ F' H' r.ent (by simp[Rep])
  | bk _=>cases e
  | ct _=>cases e
  | rtm _ _=>cases e
  | rto _=>cases e
end
end
section
variable [Tbl]
noncomputable def clos (env:Env):List (Str×y2q)->List (Str×Addr)->List (Str×Addr)
 | [],cs=>cs
 | x::r,cs=>if x.2 == .free then clos env r ((x.1,(env.cells.lookup x.1).getD 0)::cs) else clos env r cs
theorem zde {scope:Scope} {env:Env} (h:∀x∈scope.names,x.2=.free->∃c,env.cells.lookup x.1=some c):closureFor scope env=pure (clos env scope.names []):=by
 have go:∀(l:List (Str×y2q)) (cs:List (Str×Addr)),(∀x∈l,x.2=.free->∃c,env.cells.lookup x.1=some c) ->
   (forIn l cs (fun x r=>(if (x.2 == NameKind.free)=true then do let a <- cellOf env x.1;pure (ForInStep.yield ((x.1,a)::r)) else pure (ForInStep.yield r)):_->_->Sem (ForInStep (List (Str×Addr)))):Sem (List (Str×Addr)))=pure (clos env l cs):=by
  intro l
  induction l with
  | nil=>intro cs _;rfl
  | cons x r ih =>
   intro cs hl
   rw[List.forIn_cons]
   have hr:=fun y hy=>hl y (y05 _ hy)
   by_cases k:x.2=.free
   ·obtain⟨c,hc⟩:=hl x y0e k
    have e1:(x.2 == NameKind.free)=true:=by simp[k]
    simp only[e1,if_true,cellOf,hc,clos,Option.getD_some]
    exact ih _ hr
   ·have e1:(x.2 == NameKind.free)=false:=by simpa using k
    simp only[e1,y1q,if_false,clos]
    exact ih _ hr
 have:=go scope.names [] h
 simp only[closureFor]
 exact congrArg (fun m=>m >>= fun cs=>pure cs) this
theorem z8k {env:Env}:∀{l:List (Str×y2q)} {cs:List (Str×Addr)},(∀x∈l,x.2=.free->∃c,env.cells.lookup x.1=some c)->(∀x c,cs.lookup x=some c->env.cells.lookup x=some c)->∀x c,(clos env l cs).lookup x=some c->env.cells.lookup x=some c
 | [],cs,_,h,x,c,e=>h x c e
 | y::r,cs,hl,h,x,c,e=>by
  unfold clos at e
  have hr:=fun z hz=>hl z (y05 _ hz)
  split at e
  next k =>
   refine z8k hr (fun x c e=>?_) x c e
   rw[y1d] at e
   split at e
   next hb =>
    obtain⟨c',hc⟩:=hl y y0e (by simpa using k)
    have:x=y.1:=by simpa using hb
    subst this
    rw[hc] at e ⊢
    simpa using e
   next=>exact h x c e
  next=>exact z8k hr h x c e
theorem za4 {env:Env}:∀{l:List (Str×y2q)} {cs:List (Str×Addr)} {x:Str},((∃y∈l,y.2=.free/\y.1=x)\/∃c,cs.lookup x=some c)->∃c,(clos env l cs).lookup x=some c
 | [],cs,x,h=>by
  rcases h with ⟨y,hy,_⟩|h
  ·cases hy
  ·exact h
 | y::r,cs,x,h=>by
  unfold clos
  split
  next k =>
   refine za4 ?_
   rcases h with ⟨z,hz,k',e⟩|⟨c,h⟩
   ·rcases y09.mp hz with rfl|hz
    ·refine .inr ?_
     subst e
     rw[y1d]
     simp
    ·exact .inl ⟨z,hz,k',e⟩
   ·refine .inr ?_
    rw[y1d]
    split
    ·exact⟨_,rfl⟩
    ·exact⟨c,h⟩
  next k =>
   refine za4 ?_
   rcases h with ⟨z,hz,k',e⟩|h
   ·rcases y09.mp hz with rfl|hz
    ·exact absurd (by simpa using k') k
    ·exact .inl ⟨z,hz,k',e⟩
   ·exact .inr h
noncomputable def z3k (X:Cx) (N':List Str) (scope:Scope) (cl:List (Str×Addr)) (C:Addr) (s₀:y04) (H₀:Hp) (fp:List Addr) (pn:List (Addr×Obj)):Cx where
 prog:=X.prog
 w:=X.w
 K:=X.K
 mg:=X.mg
 base:=X.base
 A:=X.A
 N:=N'
 s₀:=s₀
 H₀:=H₀
 env:=compEnvC scope cl C X.env
 outer:=X.stack
 stack:=X.stack
 ex:=fp
 fn:=fun _=>false
 calm:=X.calm
 pn:=pn
 xe:=fun _ _=>False
noncomputable def PTs (X:Cx) (ifs:List Expr) (cc:Ft):Prop:=∀(pins:List (Addr×Obj)) (s:y04) (σ:L2.St) (H:Hp) (Q:Bool->Hp->Prop),L2.Inv X pins σ H s->tT X.K cc σ H Q ->
 y0t (y2r X.prog X.w) X.A (forIn ifs true fun c r=>if r=true then do let ok <- isTrue c X.env (eval c X.env);pure (ForInStep.yield ok) else pure (ForInStep.yield r)) (TP X pins σ Q) X.xe s
theorem z2b {X:Cx}:PTs X [] (cstT true):=fun pins s σ H Q I ⟨F₀,H₀,O,F,ε,b,r,e,k⟩=>by
 cases e
 exact wpAny_tests_nil ⟨H,I,k F H (Ext.refl r.dom)⟩
theorem zi7 {X:Cx} {c:Expr} {cc:Ft} (h:PTt X c cc):PTs X [c] cc:=fun pins s σ H Q I q=>wpAny_tests_one (h pins s σ H Q I q)
section
variable {prog:y0q} {w:World} {A:Around} {R:Result->y04->Prop} {s:y04}
theorem zfe {elt target iter:Expr} {ifs:List Expr} {scope:Scope} {pos:Pos} {it acc:Value} {env:Env} (I:Nat->y04->Prop)
  (turn:∀n s,I n s->y0t (y2r prog w) A (pyNext it) (fun r s₁=>match r with
   | none=>R (.ok .next) s₁
   | some v=>y0t (y2r prog w) A (letOwnedTupleGo target it v) (fun _ s₁'=>y0t (y2r prog w) A (assign target env v) (fun _ s₂ =>
     y0t (y2r prog w) A (forIn ifs true fun c r=>if r=true then do let ok <- isTrue c env (eval c env);pure (ForInStep.yield ok) else pure (ForInStep.yield r)) (fun ok s₃ =>
      if ok=true then y0t (y2r prog w) A (eval elt env) (fun x s₄ =>
       y0t (y2r prog w) A (call (.builtin "list.append") [acc,x]) (fun _ s₅=>∃m,m<n/\I m s₅) (fun _ _=>False) s₄) (fun _ _=>False) s₃
      else ∃m,m<n/\I m s₃) (fun _ _=>False) s₂) (fun _ _=>False) s₁') (fun _ _=>False) s₁) (fun _ _=>False) s)
  (n:Nat) (h:I n s):codeAny (y2r prog w) A (.compLoop (.ListComp elt [⟨target,iter,ifs,0⟩] scope pos) 0 it acc env) R s:=by
 refine codeAny_loop rfl I (fun n s hI=>?_) n h
 show y0t _ A ((compTurn (.ListComp elt [⟨target,iter,ifs,0⟩] scope pos) 0 it acc env).onRaise (fun x=>do noteFrame x env;theTreesLotGoes x)) _ _ s
 refine wpAny_noted ?_
 rw[compTurn_list]
 refine y02 (wpAny_standAt (y02 (y1b (turn n s hI) (fun r s₁ h₁=>?_) fun _ _ h'=>h'.elim)))
 cases r with
 | none=>exact y06 h₁
 | some v =>
  refine y02 (y1b h₁ (fun _ s₁' h₁'=>?_) fun _ _ h'=>h'.elim)
  refine y02 (y1b h₁' (fun _ s₂ h₂=>y02 (y1b h₂ (fun ok s₃ h₃=>?_) fun _ _ h'=>h'.elim)) fun _ _ h'=>h'.elim)
  cases ok with
  | false=>exact y06 ⟨rfl,h₃⟩
  | true =>
   exact y02 (y02 (y1b h₃ (fun x s₄ h₄=>y02 (y1b h₄ (fun _ s₅ h₅=>y06 (y06 ⟨rfl,h₅⟩)) fun _ _ h'=>h'.elim)) fun _ _ h'=>h'.elim))
end
end
section
variable [Tbl]
theorem z7j {env:Env} {k:y2q}:∀{names:List (Str×y2q)} {x:Str},names.lookup x=some k->∃k',(names.map fun (n,k)=>if (k == NameKind.free && env.scope.kind == .function && env.kindOf n == some .cell) then (n,NameKind.cell) else (n,k)).lookup x=some k'/\(k'=k\/(k=.free/\k'=.cell))
  | [],x,h=>by simp at h
  | (n,j)::r,x,h=>by
    have ih:=@z7j env k r x
    show ∃k',List.lookup x ((if (j == NameKind.free && env.scope.kind == .function && env.kindOf n == some .cell)=true then (n,NameKind.cell) else (n,j))::_)=some k'/\_
    cases hx:x == n with
    | true =>
      simp only[y1d,hx] at h
      cases h
      by_cases hc:(k == NameKind.free && env.scope.kind == .function && env.kindOf n == some .cell)=true
      · rw[if_pos hc]
        refine⟨.cell,by simp[y1d,hx],.inr ⟨?_,rfl⟩⟩
        simp only[y19] at hc
        simpa using hc.1.1
      · rw[if_neg hc]
        exact⟨k,by simp[y1d,hx],.inl rfl⟩
    | false =>
      simp only[y1d,hx] at h
      obtain⟨k',h1,h2⟩:=ih h
      refine⟨k',?_,h2⟩
      by_cases hc:(j == NameKind.free && env.scope.kind == .function && env.kindOf n == some .cell)=true
      · rw[if_pos hc];simp only[y1d,hx];exact h1
      · rw[if_neg hc];simp only[y1d,hx];exact h1
theorem mem_lookup {names:List (Str×y2q)} {x:Str} {k:y2q} (h:names.lookup x=some k):∃y∈names,y.2=k/\y.1=x:=by
 induction names with
 | nil=>simp at h
 | cons y r ih =>
  rw[y1d] at h
  split at h
  next hb =>
   cases h
   exact⟨y,y0e,rfl,by simpa using (beq_iff_eq.mp hb).symm⟩
  next =>
   obtain⟨z,hz,h1,h2⟩:=ih h
   exact⟨z,y05 _ hz,h1,h2⟩
theorem zee {scope:Scope} {env:Env} (hcell:∀y∈scope.names,y.2≠.cell) {x:Str} (h:(relabel scope env).names.lookup x=some .cell\/(relabel scope env).names.lookup x=some .free):∃y∈scope.names,y.2=.free/\y.1=x:=by
 have go:∀{k:y2q},(relabel scope env).names.lookup x=some k->(k=.cell\/k=.free)->∃y∈scope.names,y.2=.free/\y.1=x:=fun {k} e hk=>by
  obtain⟨y,hy,h1,h2⟩:=mem_lookup e
  obtain⟨⟨n,j⟩,hz,e2⟩:=y0m.mp (show y∈scope.names.map _ from hy)
  by_cases hc:(j == NameKind.free && env.scope.kind == .function && env.kindOf n == some .cell)=true
  ·have e3:(n,NameKind.cell)=y:=by
    have e4:(if (j == NameKind.free && env.scope.kind == .function && env.kindOf n == some .cell)=true then (n,NameKind.cell) else (n,j))=y:=e2
    rwa [if_pos hc] at e4
   subst e3
   simp only[y19] at hc
   exact⟨(n,j),hz,by simpa using hc.1.1,h2⟩
  ·have e3:(n,j)=y:=by
    have e4:(if (j == NameKind.free && env.scope.kind == .function && env.kindOf n == some .cell)=true then (n,NameKind.cell) else (n,j))=y:=e2
    rwa [if_neg hc] at e4
   subst e3
   rcases hk with rfl|rfl
   ·exact absurd h1 (hcell _ hz)
   ·exact⟨(n,j),hz,h1,h2⟩
 rcases h with h|h
 ·exact go h (.inl rfl)
 ·exact go h (.inr rfl)
theorem RelE.other {K:y00} {F₀ O F:Addr->Prop} {E:En} {H:Hp} {ε:Ev} {σ:L2.St} {a:Addr} {xs ys:List V} (r:RelE K F₀ E O F H ε σ) (hn:¬F a) (ho:¬O a) (h0:E.h a=none) (ha:H a=some (.lst xs)) :
  Kp K F H F (upd H a (.lst ys))/\RelE K F₀ E O F (upd H a (.lst ys)) ε σ:=by
 have hm:HoM (.lst xs):=.inl ⟨_,rfl⟩
 have kp:Kp K F H F (upd H a (.lst ys)):=zm5 hn ha hm
 have keep:∀(u:Sl) (w:V),z49 K E O F H u w->z49 K E O F (upd H a (.lst ys)) u w/\fpS (upd H a (.lst ys)) u w=fpS H u w:=by
  intro u w ru
  refine ru.keep kp (fun b hb=>z0i ?_) (fun _ _ f=>f) fun _ _ o=>o
  rintro rfl
  cases ou:u.isOwn with
  | true=>exact ho ((ru.held hb).2.1 ou)
  | false=>exact (ru.held hb).2.2 ou h0
 refine⟨kp,⟨r.len,fun j u e=>?_,fun i j s u v w hij e1 e2 o1 o2 h1 h2=>?_,zir r.ent h0 hn ha hm,r.o0,fun b e=>r.fr b ?_⟩⟩
 ·obtain⟨v,h1,h2⟩:=r.val j u e
  exact⟨v,h1,(keep u v h2).1⟩
 ·obtain⟨v',h1',r1⟩:=r.val i s e1
  obtain⟨w',h2',r2⟩:=r.val j u e2
  rw[h1] at h1'
  rw[h2] at h2'
  cases h1'
  cases h2'
  rw[(keep s v r1).2,(keep u w r2).2]
  exact r.ne i j s u v w hij e1 e2 o1 o2 h1 h2
 ·by_cases nb:b=a
  ·subst nb
   rw[z0n] at e
   cases e
  ·rwa [z0i nb] at e
def zpj (n:Nat) (caps:List Nat) (σ:L2.St):L2.St:=y0g n none++caps.map fun i=>(σ[i]?).join
theorem join_some {α:Type} {o:Option (Option α)} {x:α} (h:o.join=some x):o=some (some x):=by
 cases o with
 | none=>cases h
 | some o=>exact congrArg some h
theorem z92 {α:Type} {n:Nat} {caps:List Nat} {l:List (Option α)} {i:Nat} {x:α} (h:(y0g n none++caps.map fun i=>(l[i]?).join)[i]?=some (some x)):∃j,n<=i/\caps[i - n]?=some j/\l[j]?=some (some x):=by
 by_cases hi:i<n
 ·rw[y1k (by simpa using hi),List.getElem?_replicate] at h
  rw[if_pos hi] at h
  cases h
 ·rw[y1j (by simpa using hi),List.length_replicate,y14] at h
  cases e:caps[i - n]? with
  | none =>
   rw[e] at h
   cases h
  | some j =>
   rw[e] at h
   exact⟨j,by omega,rfl,join_some (y28 h)⟩
theorem zs6 {α:Type} {n:Nat} {caps:List Nat} {l:List (Option α)} {i j:Nat} {x:α} (hi:n<=i) (hc:caps[i - n]?=some j) (h:l[j]?=some (some x)):(y0g n none++caps.map fun i=>(l[i]?).join)[i]?=some (some x):=by
 rw[y1j (by simpa using hi),List.length_replicate,y14,hc]
 simp[h]
theorem RelE.cap {K:y00} {F₀ O F:Addr->Prop} {E:En} {H:Hp} {ε:Ev} {σ:L2.St} {D:Addr} (r:RelE K F₀ E O F H ε σ) (n:Nat) {caps:List Nat} (nd:caps.Nodup) (hD:H D=none) :
  RelE K F₀ E (fun a=>O a/\a≠D) F (upd H D (.lst [])) (z2t n caps ε) (zpj n caps σ):=by
 have x:=Ext.laid (o:=.lst []) r.dom hD
 have keep:∀(u:Sl) (w:V),z49 K E O F H u w->z49 K E (fun a=>O a/\a≠D) F (upd H D (.lst [])) u w/\fpS (upd H D (.lst [])) u w=fpS H u w:=by
  intro u w ru
  have nb:∀b∈fpS H u w,b≠D:=fun b hb z=>by
   obtain⟨o,e,_⟩:=ru.at hb
   rw[z,hD] at e
   cases e
  exact ru.keep x.kp (fun b hb=>z0i (nb b hb)) (fun _ _ f=>f) fun b hb o=>⟨o,nb b hb⟩
 refine⟨by simp[z2t,zpj],fun i s e=>?_,fun i j s u v w hij e1 e2 o1 o2 h1 h2=>?_,r.ent.trans x,fun a h=>r.o0 a h.1,fun a h=>?_⟩
 ·obtain⟨j,hn,hc,e'⟩:=z92 e
  obtain⟨v,h1,h2⟩:=r.val j s e'
  exact⟨v,zs6 hn hc h1,(keep s v h2).1⟩
 ·obtain⟨i',hi,ci,e1'⟩:=z92 e1
  obtain⟨j',hj,cj,e2'⟩:=z92 e2
  obtain⟨i2,_,ci2,h1'⟩:=z92 (l:=σ) h1
  obtain⟨j2,_,cj2,h2'⟩:=z92 (l:=σ) h2
  rw[ci] at ci2
  rw[cj] at cj2
  cases ci2
  cases cj2
  obtain⟨v',q1,r1⟩:=r.val i' s e1'
  obtain⟨w',q2,r2⟩:=r.val j' u e2'
  rw[h1'] at q1
  rw[h2'] at q2
  cases q1
  cases q2
  rw[(keep s v r1).2,(keep u w r2).2]
  refine r.ne i' j' s u v w (fun z=>?_) e1' e2' o1 o2 h1' h2'
  subst z
  obtain⟨l1,m1⟩:=y0k.mp ci
  obtain⟨l2,m2⟩:=y0k.mp cj
  have ne:i - n≠j - n:=by omega
  rcases Nat.lt_or_gt_of_ne ne with q|q
  ·exact (List.pairwise_iff_getElem.mp nd _ _ l1 l2 q) (m1.trans m2.symm)
  ·exact (List.pairwise_iff_getElem.mp nd _ _ l2 l1 q) (m2.trans m1.symm)
 ·have nd:a≠D:=by
   rintro rfl
   rw[z0n] at h
   cases h
  rw[z0i nd] at h
  exact⟨r.fr a h,nd⟩
end
section
variable [Tbl]
structure CompOk (X:Cx) (scope:Scope) (own:List Str) (caps:List (Nat×Str)):Prop where
 kind:scope.kind=.function
 names:∀y∈scope.names,y.2=.local->scope.names.lookup y.1=some .local
 cell:∀y∈scope.names,y.2≠.cell
 free:∀y∈scope.names,y.2=.free->X.env.kindOf y.1=some .cell\/X.env.kindOf y.1=some .free
 cap:∀p∈caps,X.N[p.1]?=some p.2/\scope.names.lookup p.2=some .free
 nd:(caps.map (·.1)).Nodup
 calm:X.calm=true
section
variable {X:Cx} {tg iter elt:Expr} {ifs:List Expr} {scope:Scope} {it:Fi} {gg:Fg} {cc:Ft} {ee:Fe} {pos:Pos} {own:List Str} {caps:List (Nat×Str)}
theorem zmr {pins:List (Addr×Obj)} {σ:L2.St} {H2:Hp} {s2:y04} {fp:List Addr} (S:CompOk X scope own caps) (I2:L2.Inv X pins σ H2 s2) (f2:∀b∈fp,FpOk X pins H2 b) (hfp:∀b∈fp,b<s2.heap.objs.size) (N':List Str) :
  (z3k X N' scope (clos X.env scope.names []) (s2.heap.push { cls:=.type "list",data:=.seq ([]:List Value).toArray }).objs.size { s2 with heap:=s2.heap.push { cls:=.type "list",data:=.seq ([]:List Value).toArray } } (upd H2 s2.heap.objs.size (.lst [])) fp (X.pn++pins)).Ok:=by
 have hcl:∀x∈scope.names,x.2=.free->∃c,X.env.cells.lookup x.1=some c:=fun x hx hk=>I2.ok.has x.1 (S.free x hx hk)
 have cf:∀x c,(clos X.env scope.names []).lookup x=some c->X.env.cells.lookup x=some c:=z8k hcl (fun x c e=>by simp at e)
 have I3:=I2.lnew (its:=[]) (ys:=[]) (t':=s2.toks) .nil (y1z _)
 have sz:(s2.heap.push { cls:=.type "list",data:=.seq ([]:List Value).toArray }).objs.size=s2.heap.objs.size+1:=y16 ..
 refine⟨I2.ok.mod,S.kind,I2.ok.glob,I2.ok.blt,y0o _,fun x y c e1 e2=>I2.ok.inj x y c (cf x c e1) (cf y c e2),fun x hx=>?_,fun x c h=>(by cases h),I2.ok.hd,I2.ok.frames,.inl rfl,fun b hb=>⟨?_,fun x c e=>(f2 b hb).2.2.2.2.1 x c (cf x c e)⟩,fun b o e=>?_,?_,fun b o e hb=>?_,fun b hb hf=>?_,I3.stack,I3.stkFree⟩
 ·exact za4 (.inl (zee S.cell hx))
 ·show b≠(s2.heap.push { cls:=.type "list",data:=.seq ([]:List Value).toArray }).objs.size
  have h:=hfp b hb
  rw[sz]
  exact y0x (Nat.lt_succ_of_lt h)
 ·obtain⟨h1,h2⟩:=I3.bs b o e
  exact⟨h1,h2⟩
 ·have h1:=y1l I2.ok.bsz I2.sz
  show X.base.objs.size<=(s2.heap.push { cls:=.type "list",data:=.seq ([]:List Value).toArray }).objs.size
  omega
 ·rcases (f2 b hb).2.2.2.1 with q|q
  ·exact I2.ok.noex b o e q
  ·exact absurd (y0w (y0c (I2.ok.bs b o e).1) q) (Nat.lt_irrefl _)
 ·rcases y09.mp (I2.stkSub b hf) with q|q
  ·exact (f2 b hb).2.1 q
  ·exact (f2 b hb).2.2.1 q
theorem zpf {pins:List (Addr×Obj)} {σ:L2.St} {H2:Hp} {s2:y04} {fp:List Addr} (S:CompOk X scope own caps) (I2:L2.Inv X pins σ H2 s2) (f2:∀b∈fp,FpOk X pins H2 b) (hfp:∀b∈fp,b<s2.heap.objs.size) {h₁:Heap} {m:Str->Option Value} {tk:Nat}
  (hns:h₁.Ns (s2.heap.push { cls:=.type "list",data:=.seq ([]:List Value).toArray }).objs.size m) (keep:∀b u,(s2.heap.push { cls:=.type "list",data:=.seq ([]:List Value).toArray }).get? b=some u->h₁.get? b=some u) :
  L2.Inv (z3k X (own++caps.map (·.2)) scope (clos X.env scope.names []) (s2.heap.push { cls:=.type "list",data:=.seq ([]:List Value).toArray }).objs.size { s2 with heap:=s2.heap.push { cls:=.type "list",data:=.seq ([]:List Value).toArray } } (upd H2 s2.heap.objs.size (.lst [])) fp (X.pn++pins)) []
   (zpj own.length (caps.map (·.1)) σ) (upd H2 s2.heap.objs.size (.lst [])) { s2 with heap:=h₁,toks:=tk }:=by
 have hcl:∀x∈scope.names,x.2=.free->∃c,X.env.cells.lookup x.1=some c:=fun x hx hk=>I2.ok.has x.1 (S.free x hx hk)
 have cf:∀x c,(clos X.env scope.names []).lookup x=some c->X.env.cells.lookup x=some c:=z8k hcl (fun x c e=>by simp at e)
 have I3:=I2.lnew (its:=[]) (ys:=[]) (t':=s2.toks) .nil (y1z _)
 refine⟨zmr S I2 f2 hfp _,rfl,I2.bare,Un.kept keep,⟨m,hns,fun i x v h1 h2 hv=>?_⟩,fun x c e=>?_,?_,fun x c e=>I3.freeC x c (cf x c e),fun p hp=>?_,I3.hok.kept keep,by simp[zpj,z3k]⟩
 ·obtain⟨j,hn,hc,hj⟩:=z92 (l:=σ) h2
  have hx:(caps.map (·.2))[i - own.length]?=some x:=by
   have:(own++caps.map (·.2))[i]?=some x:=h1
   rwa [y1j hn] at this
  rw[y14] at hc hx
  cases ep:caps[i - own.length]? with
  | none=>rw[ep] at hc;cases hc
  | some p =>
   rw[ep] at hc hx
   cases hc
   cases hx
   obtain⟨hN,hf⟩:=S.cap p (List.mem_of_getElem? ep)
   obtain⟨y,hy,k1,k2⟩:=mem_lookup hf
   have hk:=S.free y hy k1
   rw[k2] at hk
   obtain⟨m3,hn3,hl3⟩:=I3.loc
   have vis:Vis X.env.scope p.2:=by
    rcases hk with hk|hk
    ·exact .inr (.inl hk)
    ·exact .inr (.inr hk)
   obtain⟨u,ru,lu⟩:=hl3 p.1 p.2 v hN hj vis
   refine⟨u,ru,.inr ⟨?_,?_⟩⟩
   ·obtain⟨k',e1,e2⟩:=z7j (env:=X.env) hf
    rcases e2 with rfl|⟨_,rfl⟩
    ·exact .inr e1
    ·exact .inl e1
   ·rcases lu with ⟨q,_⟩|⟨_,c,hc,hcell⟩
    ·rcases hk with hk|hk
     ·rw[hk] at q;cases q
     ·rw[hk] at q;cases q
    ·obtain⟨c',hc'⟩:=za4 (env:=X.env) (l:=scope.names) (cs:=[]) (x:=p.2) (.inl ⟨y,hy,k1,k2⟩)
     have:=cf _ _ hc'
     rw[hc] at this
     cases this
     obtain⟨oc,ho,hd⟩:=hcell
     exact⟨c,hc',oc,keep _ _ ho,hd⟩
 ·obtain⟨v,oc,ho,hd⟩:=I3.cell x c (cf x c e)
  exact⟨v,oc,keep _ _ ho,hd⟩
 ·exact I3.hok.fresh (y0o _)
 ·have hp':p∈X.pn++pins:=by simpa [z3k] using hp
  obtain⟨h1,h2,h3,h4,h5⟩:=I3.pin p hp'
  refine⟨keep _ _ h1,h2,y0x (y0c h1),fun z=>?_,h5⟩
  rcases y09.mp (I2.stkSub p.1 z) with q|q
  ·exact h3 q
  ·exact h4 q
theorem zk5 {pins:List (Addr×Obj)} {σ σ':L2.St} {H2 H':Hp} {s2 s':y04} {fp:List Addr} {N':List Str} (I2:L2.Inv X pins σ H2 s2) (f2:∀b∈fp,FpOk X pins H2 b)
  (J:L2.Inv (z3k X N' scope (clos X.env scope.names []) (s2.heap.push { cls:=.type "list",data:=.seq ([]:List Value).toArray }).objs.size { s2 with heap:=s2.heap.push { cls:=.type "list",data:=.seq ([]:List Value).toArray } } (upd H2 s2.heap.objs.size (.lst [])) fp (X.pn++pins)) [] σ' H' s')
  {h':Heap} (sb:Heap.SameBut (s2.heap.push { cls:=.type "list",data:=.seq ([]:List Value).toArray }).objs.size s'.heap h'):L2.Inv X pins σ H' { s' with heap:=h' }:=by
 have I3:=I2.lnew (its:=[]) (ys:=[]) (t':=s2.toks) .nil (y1z _)
 have u:=J.base
 have free:H' (s2.heap.push { cls:=.type "list",data:=.seq ([]:List Value).toArray }).objs.size=none:=J.free
 have old:∀b o,(s2.heap.push { cls:=.type "list",data:=.seq ([]:List Value).toArray }).get? b=some o->b≠(s2.heap.push { cls:=.type "list",data:=.seq ([]:List Value).toArray }).objs.size:=fun b o e=>y0x (y0c e)
 have eqh:∀b,b≠(s2.heap.push { cls:=.type "list",data:=.seq ([]:List Value).toArray }).objs.size->∀o,s'.heap.get? b=some o->h'.get? b=some o:=fun b hb o e=>sb.extBut b o hb e
 have u2:Un (frs X.stack) fp (upd H2 s2.heap.objs.size (.lst [])) H' (s2.heap.push { cls:=.type "list",data:=.seq ([]:List Value).toArray }) h':=by
  refine⟨fun b o e n hf hx=>eqh b (old b o e) _ (u.keep b o e n hf hx),fun b o e n hf hx=>?_,u.free,fun b o e hx=>?_,u.tups,u.frzs,u.tbls⟩
  ·obtain⟨sl,q⟩:=u.slot b o e n hf hx
   exact⟨sl,eqh b (old b o e) _ q⟩
  ·obtain⟨o',q⟩:=u.there b o e hx
   exact⟨o',eqh b (old b o e) _ q⟩
 have hok:HOk X.prog X.w H' h':=fun b o e=>by
  refine (J.hok b o e).stay (fun c v hc q=>eqh c (fun z=>?_) v q) (fun _ q=>q) fun _ _ q=>q
  rcases hc with rfl|hc
  ·rw[z,free] at e
   cases e
  ·rw[z,free] at hc
   cases hc
 have hos:=J.os
 have hbare:=J.bare
 obtain⟨hh,g,d,t,os⟩:=s'
 obtain rfl:os=s2.os:=hos
 have fin:=I3.call (h':=h') (g':=g) (d':=d) (t':=t) (ch:=fp) u2 hok hbare fun b hb=>⟨(f2 b hb).2.2.2.1,(f2 b hb).2.1,(f2 b hb).2.2.2.2.1,(f2 b hb).2.2.2.2.2⟩
 exact fin
theorem zms {X':Cx} {R:Result->y04->Prop} {J:It} {fp:List Addr} {it' D:Addr} {tn:Nat->Heap->Prop} {F₀ O F1:Addr->Prop} {H₀:En} {H2:Hp} {ts ys:List T} (hx:X'.xe=fun _ _=>False) (hc:X'.calm=true) (hg:PGt X' tg gg) (ht:PTs X' ifs cc) (he:PEv X' elt ee)
  (T:Turn X'.prog X'.w X'.K tg J fp it' tn) (stat:∀H':Hp,(∀b∈fp,H' b=none)->∀b∈fp,FpOk X' [] H' b) (ok:ItOk X'.K J F1 H2 ts) (hbig:ts.length<=big) (hD2:H2 D=none) (hO:¬O D) (hH0:H₀.h D=none)
  (fin:∀σ' H' F' s1 vs,L2.Inv X' [] σ' H' s1->Ext F1 H2 F' H'->H' D=some (.lst vs)->¬F' D->RepL X'.K F' H' ys vs->R (.ok .next) s1)
  {s:y04} {σ:L2.St} {H:Hp} {F:Addr->Prop} {ε:Ev} (I:L2.Inv X' [] σ H s) (st:tn 0 s.heap) (fr:∀b∈fp,H b=none) (x:Ext F1 H2 F H) (r:RelE X'.K F₀ H₀ O F H ε σ) (hD:H D=some (.lst [])) (nD:¬F D) (ey:z36 gg cc ee ts ε=some ys) :
  codeAny (y2r X'.prog X'.w) X'.A (.compLoop (.ListComp elt [⟨tg,iter,ifs,0⟩] scope pos) 0 (.ref it') (.ref D) X'.env) R s:=by
 refine zfe (fun n s'=>∃i σ' H' F' ε' dn vs,n=ts.length - i/\i<=ts.length/\L2.Inv X' [] σ' H' s'/\tn i s'.heap/\(∀b∈fp,H' b=none)/\Ext F1 H2 F' H'/\RelE X'.K F₀ H₀ O F' H' ε' σ'/\H' D=some (.lst vs)/\¬F' D/\RepL X'.K F' H' dn vs/\dn.length<=i /\
  ∃rest,z36 gg cc ee (ts.drop i) ε'=some rest/\ys=dn++rest) ?_ ts.length ⟨0,σ,H,F,ε,[],[],rfl,y1z _,I,st,fr,x,r,hD,nD,RepL.nil,y0o _,ys,by simpa using ey,by simp⟩
 rintro n s3 ⟨i,σ3,H3,F3,ε3,dn,vs,rfl,hi,I3,st3,fr3,x3,r3,hD3,nD3,q3,hl3,rest,er,es⟩
 have nf:∀{F4:Addr->Prop} {H4:Hp} {F5:Addr->Prop} {H5:Hp} {o:HO},Ext F4 H4 F5 H5->H4 D=some o->¬F4 D->¬F5 D:=fun y e n z=>by
  rcases y.new D z with q|q
  ·exact n q
  ·rw[e] at q
   cases q
 by_cases hlt:i<ts.length
 ·have hd:ts.drop i=ts[i]::ts.drop (i+1):=List.drop_eq_getElem_cons hlt
  have hg':ts[i]?=some ts[i]:=y0u hlt
  rw[hd] at er
  simp only[z36,y01] at er
  obtain⟨ε4,eg,b,eb,er⟩:=er
  refine y1b (T.item X' rfl rfl rfl hc i [] s3 σ3 H3 (fun _ _=>False) I3 (stat H3 fr3) st3 (ok.go i F3 H3 _ x3.kp r3.dom hg')) (fun rv s4 ⟨u,hr,h4⟩=>?_) fun _ _ z=>z
  subst hr
  refine y1b h4 (fun _ s5 ⟨x',H5,I5,r5,y5,st5,fr5⟩=>?_) fun _ _ z=>z
  obtain⟨F5,x5,rx⟩:=ok.yld i F3 H3 _ x' H5 x3.kp r3.dom hg' y5
  have I5':=I5.pinned (stat H5 fr5) (T.obj _ _ st5)
  have hg2:=hg _ s5 σ3 H5 x' u (fun σ6 H6=>H6=H5/\RelE X'.K F₀ H₀ O F5 H5 ε4 σ6) I5' r5 ⟨F₀,H₀,O,F5,ε3,_,ε4,r3.ext x5,rx,eg,fun σ6 r6=>⟨rfl,r6⟩⟩
  rw[hx] at hg2
  refine y1b hg2 (fun _ s6 ⟨σ6,H6,I6,e6,r6⟩=>?_) fun _ _ z=>z
  subst e6
  have again:∀{σ7:L2.St} {H7:Hp} {s7:y04},L2.Inv X' ([]++zei fp s5.heap) σ7 H7 s7->tn (i+1) s7.heap/\(∀b∈fp,H7 b=none)/\L2.Inv X' [] σ7 H7 s7:=fun {σ7 H7 s7} I7=>by
   refine⟨T.keep _ _ _ st5 fun b hb o e=>(I7.pin (b,o) (y18 _ (y18 _ (z7b hb e)))).1,fun b hb=>?_,I7.unpinned⟩
   obtain⟨o,e,d⟩:=T.obj _ _ st5 b hb
   exact (I7.pin (b,o) (y18 _ (y18 _ (z7b hb e)))).2.1
  have ht2:=ht _ s6 σ6 H6 (fun b' H7=>b'=b/\∃F7,Ext F5 H6 F7 H7) I6 ⟨F₀,H₀,O,F5,ε4,b,r6,eb,fun F7 H7 x7=>⟨rfl,F7,x7⟩⟩
  rw[hx] at ht2
  refine y1b ht2 (fun ok' s7 ⟨H7,I7,e7,F7,x7⟩=>?_) fun _ _ z=>z
  subst e7
  have x37:=x5.trans x7
  have r7:=r6.ext x7
  cases ok' with
  | false =>
   simp only[y1q,if_false] at er ⊢
   obtain⟨a1,a2,a3⟩:=again I7
   exact⟨_,by omega,i+1,σ6,H7,F7,ε4,dn,vs,rfl,hlt,a3,a1,a2,x3.trans x37,r7,x37.same.get hD3,nf x37 hD3 nD3,q3.ext x37,by omega,rest,er,es⟩
  | true =>
   simp only[if_true,y01,y07] at er ⊢
   obtain⟨y,ey',rest',er',rfl⟩:=er
   have he2:=he _ s7 σ6 H7 (fun v H8=>∃F8,Ext F7 H7 F8 H8/\Rep X'.K F8 H8 y v) I7 ⟨F₀,H₀,O,F7,ε4,y,r7,ey',fun v F8 H8 x8 q8=>⟨F8,x8,q8⟩⟩
   rw[hx] at he2
   refine y1b he2 (fun u8 s8 ⟨v8,H8,I8,r8,F8,x8,q8⟩=>?_) fun _ _ z=>z
   have x38:=x37.trans x8
   have hD8:=x38.same.get hD3
   have nD8:=nf x38 hD3 nD3
   obtain⟨kp9,r9⟩:=(r7.ext x8).other (ys:=vs++[v8]) nD8 hO hH0 hD8
   have ha:=zf3 (X:=X') _ s8 σ6 H8 (.ref D) [v8] (.ref D) [u8] (fun _ H9=>H9=upd H8 D (.lst (vs++[v8]))) I8 rfl (.cons r8 .nil) ⟨D,vs,v8,rfl,rfl,hD8,by rw[z7n,<- q3.length];omega,rfl⟩
   rw[hx] at ha
   refine y1b ha (fun u9 s9 ⟨v9,H9,I9,r9',e9⟩=>?_) fun _ _ z=>z
   subst e9
   obtain⟨a1,a2,a3⟩:=again I9
   have x9:Ext F1 H2 F8 (upd H8 D (.lst (vs++[v8]))):=by
    have y:=x3.trans x38
    refine⟨fun b o e=>?_,y.sub,y.new,⟨fun b f=>?_,y.dom.tgs.upd fun u e=>.inl ⟨_,y28 (e.symm.trans hD8)⟩⟩⟩
    ·have nb:b≠D:=by
      rintro rfl
      rw[hD2] at e
      cases e
     rw[z0i nb]
     exact y.same b o e
    ·have nb:b≠D:=by
      rintro rfl
      exact nD8 f
     rw[z0i nb]
     exact y.dom b f
   refine⟨_,by omega,i+1,σ6,_,F8,ε4,dn++[y],vs++[v8],rfl,hlt,a3,a1,a2,x9,r9,z0n,nD8,((q3.ext x38).append (RepL.cons q8 RepL.nil)).kp kp9,by simp;omega,rest',er',by rw[es];simp⟩
 ·have hd:ts.drop i=[]:=List.drop_eq_nil_of_le (by omega)
  rw[hd] at er
  cases er
  refine y1b (T.done X' rfl rfl rfl hc i [] s3 σ3 H3 (fun _ _=>False) I3 (stat H3 fr3) st3 (ok.stop i F3 H3 x3.kp (by omega))) (fun rv s4 ⟨hr,I4⟩=>?_) fun _ _ z=>z
  subst hr
  exact fin σ3 H3 F3 s4 vs I4 x3 hD3 nD3 (by rw[es,y1t];exact q3)
structure After (X:Cx) (pins:List (Addr×Obj)) (σ:L2.St) (F:Addr->Prop) (H:Hp) (ys:List T) (D C:Addr) (H':Hp) (F':Addr->Prop) (s1:y04) (vs:List V):Prop where
 inv:∀h',Heap.SameBut C s1.heap h'->L2.Inv X pins σ H' { s1 with heap:=h' }
 ns:∃m,s1.heap.Ns C m
 free:H' C=none
 above:X.s₀.heap.objs.size<=C
 cells:∀x c,X.env.cells.lookup x=some c->c≠C
 pin:∀p∈X.pn++pins,p.1≠C
 loc:C≠X.env.locals
 new:H D=none
 ext:Ext F H F' H'
 nf:¬F' D
 lst:H' D=some (.lst vs)
 rep:RepL X.K F' H' ys vs
theorem zit {use:Option (Value->Sem Unit)} {Q:Value->y04->Prop} {p2:Pos} (S:CompOk X scope own caps) (hi:PIt X tg iter it)
  (hg:∀cl C s₀ H₀ fp pn,PGt (z3k X (own++caps.map (·.2)) scope cl C s₀ H₀ fp pn) tg gg)
  (ht:∀cl C s₀ H₀ fp pn,PTs (z3k X (own++caps.map (·.2)) scope cl C s₀ H₀ fp pn) ifs cc)
  (he:∀cl C s₀ H₀ fp pn,PEv (z3k X (own++caps.map (·.2)) scope cl C s₀ H₀ fp pn) elt ee)
  (hs:∀x,y2s iter X.env x=pure x) {pins:List (Addr×Obj)} {s:y04} {σ:L2.St} {H:Hp} {F₀ O F:Addr->Prop} {H₀:En} {ε:Ev} {ys:List T} (I:L2.Inv X pins σ H s) (r:RelE X.K F₀ H₀ O F H ε σ)
  (e:comp own.length (caps.map (·.1)) it gg cc ee ε=some (.list ys)) (fin:∀D C H' F' s1 vs,After X pins σ F H ys D C H' F' s1 vs->compPost (y2r X.prog X.w) X.A X.xe use Q (.ref D) C (.ok .next) s1) :
  y0t (y2r X.prog X.w) X.A (comprehension (.ListComp elt [⟨tg,iter,ifs,0⟩] scope pos) scope X.env p2 (newList []) false (eval iter X.env) use) Q X.xe s:=by
 simp only[comp,y01] at e
 obtain⟨ts,et,e⟩:=e
 split at e
 case isFalse=>cases e
 next hbig =>
 simp only[y07] at e
 obtain⟨ys',ey,e⟩:=e
 cases e
 have hcl:∀x∈scope.names,x.2=.free->∃c,X.env.cells.lookup x.1=some c:=fun x hx hk=>I.ok.has x.1 (S.free x hx hk)
 refine wpAny_comprehension_free rfl hs (zde hcl) S.kind S.names (thn (hi pins s σ H (fun J H1=>∃F1,Ext F H F1 H1/\ItOk X.K J F1 H1 ts) I ⟨F₀,H₀,O,F,ε,ts,r,et,fun J F1 H1 x1 ok=>⟨F1,x1,ok⟩⟩) fun v s1 h1=>thn h1 fun itv s2 h2=>?_)
 obtain⟨it',fp,tn,J,H2,rfl,I2,T,st2,f2,F1,x1,ok⟩:=h2
 have hfp:∀b∈fp,b<s2.heap.objs.size:=fun b hb=>by
  obtain⟨o,ho,_⟩:=T.obj 0 _ st2 b hb
  exact y0c ho
 have hD2:H2 s2.heap.objs.size=none:=I2.fresh
 have hD:H s2.heap.objs.size=none:=x1.same.none hD2
 have sz:(s2.heap.push { cls:=.type "list",data:=.seq ([]:List Value).toArray }).objs.size=s2.heap.objs.size+1:=y16 ..
 refine wpAny_newList ?_ (y1z _)
 refine wpAny_newFunctionEnv S.cell (by intro y hy;simp at hy) (fun h₁ hns₁ hsb₁=>?_) S.kind
 have keep:∀b u,(s2.heap.push { cls:=.type "list",data:=.seq ([]:List Value).toArray }).get? b=some u->h₁.get? b=some u:=fun b u e=>hsb₁.extBut b u (y0x (y0c e)) (y03 _ e)
 have I4:=zpf (tk:=s2.toks+0) S I2 f2 hfp hns₁ keep
 have r4:=(r.ext x1).cap (D:=s2.heap.objs.size) own.length S.nd hD2
 refine codeAny_compStart_list ?loop (T.self _ 0 _ _ _ (T.keep 0 _ _ st2 fun b hb o e=>keep b o (y03 _ e)) ?loop)
 refine zms (X':=z3k X (own++caps.map (·.2)) scope (clos X.env scope.names []) (s2.heap.push { cls:=.type "list",data:=.seq ([]:List Value).toArray }).objs.size { s2 with heap:=s2.heap.push { cls:=.type "list",data:=.seq ([]:List Value).toArray } } (upd H2 s2.heap.objs.size (.lst [])) fp (X.pn++pins))
  rfl S.calm (hg _ _ _ _ _ _) (ht _ _ _ _ _ _) (he _ _ _ _ _ _) T (fun H' hn b hb=>?_) ok hbig hD2 (fun z=>z.2 rfl) (r.o0 _ (r.fr _ hD)) (fun σ' H' F' s1 vs J1 x' hD' nD' q'=>?_) I4 (T.keep 0 _ _ st2 fun b hb o e=>keep b o (y03 _ e)) (fun b hb=>?_) (Ext.laid x1.dom hD2) r4 z0n ?_ ey
 ·have okX:=zmr S I2 f2 hfp (own++caps.map (·.2))
  refine⟨hn b hb,(okX.exf b hb).1,okX.exfs b hb,.inl hb,fun x c e=>(okX.exf b hb).2 x c e,fun p hp=>?_⟩
  have hp':p∈X.pn++pins:=by simpa [z3k] using hp
  exact (f2 b hb).2.2.2.2.2 p hp'
 ·obtain⟨m,hn,_⟩:=id J1.loc
  refine fin s2.heap.objs.size _ H' F' s1 vs ⟨fun h' sb=>zk5 I2 f2 J1 sb,⟨m,hn⟩,J1.free,?_,fun x c e z=>?_,fun p hp z=>?_,?_,hD,x1.trans x',nD',hD',q'⟩
  ·rw[sz]
   exact Nat.le_succ_of_le I2.sz
  ·obtain⟨v,q⟩:=I2.cell x c e
   have:=q.lt
   rw[z,sz] at this
   exact absurd this (Nat.not_lt.mpr (Nat.le_succ _))
  ·have:=y0c (I2.pin p hp).1
   rw[z,sz] at this
   exact absurd this (Nat.not_lt.mpr (Nat.le_succ _))
  ·have:=I2.lt
   rw[sz]
   exact y15 (Nat.lt_succ_of_lt this)
 ·have:=(f2 b hb).1
  rw[z0i (y0x (hfp b hb))]
  exact this
 ·intro z
  obtain⟨o,e⟩:=x1.dom _ z
  rw[hD2] at e
  cases e
theorem ztm (S:CompOk X scope own caps) (hi:PIt X tg iter it)
  (hg:∀cl C s₀ H₀ fp pn,PGt (z3k X (own++caps.map (·.2)) scope cl C s₀ H₀ fp pn) tg gg)
  (ht:∀cl C s₀ H₀ fp pn,PTs (z3k X (own++caps.map (·.2)) scope cl C s₀ H₀ fp pn) ifs cc)
  (he:∀cl C s₀ H₀ fp pn,PEv (z3k X (own++caps.map (·.2)) scope cl C s₀ H₀ fp pn) elt ee)
  (hs:∀x,y2s iter X.env x=pure x:=by intro _;rfl):PEn X (.ListComp elt [⟨tg,iter,ifs,0⟩] scope pos) (comp own.length (caps.map (·.1)) it gg cc ee):=by
 intro pins s σ H Q I ⟨F₀,H₀,O,F,ε,ys,r,e,k⟩
 rw[eval_ListComp]
 refine zit S hi hg ht he hs I r e fun D C H' F' s1 vs a=>?_
 obtain⟨m,hn⟩:=a.ns
 exact⟨m,hn,fun h' sb=>⟨.ref D,H',a.inv h' sb,rfl,k D vs F' H' a.ext a.new a.nf a.lst a.rep⟩⟩
theorem zfd {ε:Ev} {n:Nat} {cs:List Nat} {t:T} (e:comp n cs it gg cc ee ε=some t):∃ts,t=.list ts:=by
 simp only[comp,y01] at e
 obtain⟨ts,_,e⟩:=e
 split at e
 ·simp only[y07] at e
  obtain⟨ys,_,e⟩:=e
  exact⟨ys,e.symm⟩
 ·cases e
theorem z12 (S:CompOk X scope own caps) (hi:PIt X tg iter it)
  (hg:∀cl C s₀ H₀ fp pn,PGt (z3k X (own++caps.map (·.2)) scope cl C s₀ H₀ fp pn) tg gg)
  (ht:∀cl C s₀ H₀ fp pn,PTs (z3k X (own++caps.map (·.2)) scope cl C s₀ H₀ fp pn) ifs cc)
  (he:∀cl C s₀ H₀ fp pn,PEv (z3k X (own++caps.map (·.2)) scope cl C s₀ H₀ fp pn) elt ee)
  (hs:∀x,y2s iter X.env x=pure x:=by intro _;rfl):PEv X (.ListComp elt [⟨tg,iter,ifs,0⟩] scope pos) (comp own.length (caps.map (·.1)) it gg cc ee) :=
 n2v (ztm S hi hg ht he hs) fun ε t e=>zfd e
theorem zpz (i:Nat) {x:Str} {px spos:Pos} (hN:X.N.Nodup) (S:CompOk X scope own caps) (hit:PIt X tg iter it)
  (hg:∀cl C s₀ H₀ fp pn,PGt (z3k X (own++caps.map (·.2)) scope cl C s₀ H₀ fp pn) tg gg)
  (ht:∀cl C s₀ H₀ fp pn,PTs (z3k X (own++caps.map (·.2)) scope cl C s₀ H₀ fp pn) ifs cc)
  (he:∀cl C s₀ H₀ fp pn,PEv (z3k X (own++caps.map (·.2)) scope cl C s₀ H₀ fp pn) elt ee)
  (hi:X.N[i]?=some x:=by rfl) (hx:Loc X.env.scope x:=by first|exact Or.inl rfl|exact Or.inr rfl)
  (hsw:swapsWith (.ListComp elt [⟨tg,iter,ifs,0⟩] scope pos) (some (.Name x px)) spos.line X.env=pure true:=by rfl)
  (hf:X.fn x=true\/X.env.scope.names.lookup x=some .local:=by first|exact .inl rfl|exact .inr rfl)
  (hs:∀x,y2s iter X.env x=pure x:=by intro _;rfl) :
  PSt X (.Assign [.Name x px] (.ListComp elt [⟨tg,iter,ifs,0⟩] scope pos) spos) (asg i (comp own.length (caps.map (·.1)) it gg cc ee)):=by
 intro pins s σ H D I ⟨F₀,H₀,O,F,ε,o,r,e,k⟩
 simp only[asg,y07] at e
 obtain⟨t,et,rfl⟩:=e
 obtain⟨ys,rfl⟩:=zfd et
 rw[exec_Assign_Name_used _ _ _ _ hsw]
 refine y02 (wpAny_standAt (y02 ?_))
 show y0t _ X.A (do let _ <- comprehension (.ListComp elt [⟨tg,iter,ifs,0⟩] scope pos) scope X.env _ (newList []) false (eval iter X.env) (some (assign (.Name x px) X.env))) _ _ s
 refine y02 (thn (zit (use:=some (assign (.Name x px) X.env)) (Q:=fun _ s'=>SP X pins D .next s') S hit hg ht he hs I r et fun D' C H' F' s1 vs a=>?_) fun _ s' hq=>y06 (y06 hq))
 have IX:=a.inv s1.heap (Heap.SameBut.refl ..)
 have IX':L2.Inv X pins σ H' s1:=IX
 show y0t _ X.A (assign (.Name x px) X.env (.ref D')) _ _ _
 refine wpAny_assign_Name (ze1 (v:=.ref D') IX' hN hi hx rfl (fun s2 I2 ⟨b,sb,hb⟩=>?_) hf)
 obtain⟨m,hn⟩:=a.ns
 have nb:C≠b:=by
  rcases hb with rfl|hb
  ·exact a.loc
  ·exact (a.cells x b hb).symm
 refine⟨m,hn.sameBut sb nb,fun h' sb'=>?_⟩
 have I3:L2.Inv X pins (σ.set i (some (.ref D'))) H' { s2 with heap:=h' }:=I2.turned (t':=s2.toks) (it:=C) (fun b o hb e=>sb'.extBut b o hb e) a.free a.loc (.inr a.above) a.cells a.pin
 refine⟨_,H',I3,?_⟩
 have y:Ext F H (fun b=>F' b\/b=D') H':=⟨a.ext.same,fun b z=>.inl (a.ext.sub b z),fun b z=>by
  rcases z with z|rfl
  ·exact a.ext.new b z
  ·exact .inr a.new,⟨fun b z=>by
  rcases z with z|rfl
  ·exact a.ext.dom b z
  ·exact⟨_,a.lst⟩,a.ext.dom.tgs⟩⟩
 refine k _ _ H' y.kp ((r.ext y).set i ?_)
 simp only[Rep]
 exact⟨D',vs,rfl,.inr rfl,.inl a.lst,a.rep.keep (fun _ _ z=>z) fun b _ z w=>⟨.inl z,w⟩⟩
end
end
section
variable [Tbl]
open AutoSeq1 (wpAny_loadPart')
theorem z7e (l:Addr) (items:Array Value) (n:Nat) (dct:Option Addr) (sl:Array (Option Value)) :
  Meets (Builtin.«enumerate.__new__» ⟨[.type "enumerate",.ref l],[]⟩) (fun _ R s=>s.heap.get? l=some { cls:=.type "tuple",dict:=dct,data:=.seq items n,slots:=sl } /\
   R (.ok (.ret (.ref (s.heap.push { cls:=.type "tuple_iterator",data:=.fields #[.ref l,.int 0 0] }).objs.size)))
    { s with heap:=(s.heap.push { cls:=.type "tuple_iterator",data:=.fields #[.ref l,.int 0 0] }).push { cls:=.type "enumerate",data:=.fields #[.none,.bool false,.ref s.heap.objs.size,rawInt 0,.none,.none] } }) :=
 .of_wp fun prog w A R s h=>by
  obtain⟨hp,g,d,tk,os⟩:=s;obtain⟨hl,h⟩:=h
  have hsub:=sub_enumerate
  have hL:Heap.IsTuple (Shared.heap ⟨hp,g,d,tk,os⟩) l items:=⟨_,hl,rfl,n,rfl⟩
  wp_walk using wpAny_loadPart' hl
  refine wpAny_stack_any fun st=>y06 ?_
  split
  ·rename_i c _ _ _ _ _
   cases (c == Value.type "enumerate")
   ·wp_walk using wpAny_loadPart' hl,y2g hL
    exact⟨_,rfl,h⟩
   ·wp_walk using wpAny_loadPart' hl,y2g hL
    exact⟨_,rfl,h⟩
  ·wp_walk using wpAny_loadPart' hl,y2g hL
   exact⟨_,rfl,h⟩
section
variable {prog:y0q} {w:World} {A:Around} {E:Value->y04->Prop} {s:y04}
theorem z7f {l:Addr} {items:Array Value} {Q:Value->y04->Prop} (hL:s.heap.IsTuple l items)
  (h:∀h',IsEnum h' (s.heap.objs.size+1) s.heap.objs.size 0 .none->h'.IsTupleIter s.heap.objs.size l 0->h'.objs.size=s.heap.objs.size+2 ->
   (∀b o,s.heap.get? b=some o->h'.get? b=some o)->Q (.ref (s.heap.objs.size+1)) { s with heap:=h' }) :
  y0t (y2r prog w) A (call (.type "enumerate") [.ref l]) Q E s:=by
 obtain⟨⟨c,dct,dt,sl⟩,hl,hc,n,hd⟩:=hL
 replace hc:c=.type "tuple":=hc
 replace hd:dt=.seq items n:=hd
 subst hc hd
 refine callType_new F.called_enumerate (by decide) (F.typeCall_enumerate_1 _) (F.newCall_enumerate_1 _) (fun obj=>F.args_object_init_2 obj _) F.entry_enumerate_new
  (z7e l items n dct sl) ⟨hl,?_⟩
 have hz:(s.heap.push { cls:=.type "tuple_iterator",data:=.fields #[.ref l,.int 0 0] }).objs.size=s.heap.objs.size+1:=y16 ..
 show _/\_
 rw[hz]
 have he:IsEnum ((s.heap.push { cls:=.type "tuple_iterator",data:=.fields #[.ref l,.int 0 0] }).push
   { cls:=.type "enumerate",data:=.fields #[.none,.bool false,.ref s.heap.objs.size,rawInt 0,.none,.none] }) (s.heap.objs.size+1) s.heap.objs.size 0 .none:=by
  have:=y0l (s.heap.push { cls:=.type "tuple_iterator",data:=.fields #[.ref l,.int 0 0] })
   (o:={ cls:=.type "enumerate",data:=.fields #[.none,.bool false,.ref s.heap.objs.size,rawInt 0,.none,.none] }) rfl
  rw[hz] at this;exact this
 refine⟨⟨_,he,rfl⟩,h _ he ⟨_,y03 _ (y0l _ rfl),rfl,rfl⟩ (by rw[y16,hz]) fun b o x=>y03 _ (y03 _ x)⟩
theorem z8y {it l:Addr} {i:Nat} {items} {x:Value} {Q:Value->y04->Prop} (hit:s.heap.IsTupleIter it l i)
  (hl:s.heap.IsTuple l items) (hx:items[i]?=some x)
  (hQ:∀h',h'.IsTupleIter it l (i+1)->Heap.SameBut it s.heap h'->Q x { s with heap:=h' }) :
  y0t (y2r prog w) A (y0s (.ref it)) Q E s:=by
 obtain⟨o,ho,hc,hd⟩:=id hit
 obtain⟨ol,hol,_,nl,hdl⟩:=hl
 unfold y0s
 refine y02 (y2e (name:=Str.ofString "__next__") hit.typeIs y23
  (y2j y23 hit.typeIs F.entry_tuple_iterator_next ?_ (F.args_tuple_iterator_next_1 _)))
 show y0t _ _ (field (.ref it) 0 >>= _) _ _ s
 refine y02 (y2d ho hd (x:=.ref l) rfl ?_)
 show y0t _ _ (if (Value.ref l == Value.none)=true then _ else _) _ _ s
 rw[if_neg (show ¬((Value.ref l == Value.none)=true) from y1y)]
 show y0t _ _ (field (.ref it) 1 >>= _) _ _ s
 refine y02 (y2d ho hd (x:=.int i 0) rfl ?_)
 show y0t _ _ (seqItems? (.ref l) >>= _) _ _ s
 refine y02 (y2f hol hdl ?_)
 simp only[Int.toNat_natCast,hx]
 refine y02 (wpAny_setField ho hd (by simp) (y06 ⟨x,rfl,y06 (hQ _ ?_ (Heap.SameBut.update ..))⟩))
 exact⟨_,Heap.get?_update_self _ ho (Obj.isFreed_of_fields (Obj.data_mapFields hd _)),(Obj.cls_mapFields ..).trans hc,by
  rw[Obj.data_mapFields hd];simp[rawInt]⟩
theorem z6c {it l:Addr} {i:Nat} {items} {Q:Value->y04->Prop} (hh:A.handled=none)
  (hit:s.heap.IsTupleIter it l i) (hl:s.heap.IsTuple l items) (hx:items[i]?=none)
  (hE:∀h' e,Heap.ExtBut it s.heap h'->(∃o,h'.get? e=some o/\o.cls=.type "StopIteration")->E (.ref e) { s with heap:=h' }) :
  y0t (y2r prog w) A (y0s (.ref it)) Q E s:=by
 obtain⟨o,ho,hc,hd⟩:=id hit
 obtain⟨ol,hol,_,nl,hdl⟩:=hl
 unfold y0s
 refine y02 (y2e (name:=Str.ofString "__next__") hit.typeIs y23
  (y2j y23 hit.typeIs F.entry_tuple_iterator_next ?_ (F.args_tuple_iterator_next_1 _)))
 show y0t _ _ (field (.ref it) 0 >>= _) _ _ s
 refine y02 (y2d ho hd (x:=.ref l) rfl ?_)
 show y0t _ _ (if (Value.ref l == Value.none)=true then _ else _) _ _ s
 rw[if_neg (show ¬((Value.ref l == Value.none)=true) from y1y)]
 show y0t _ _ (field (.ref it) 1 >>= _) _ _ s
 refine y02 (y2d ho hd (x:=.int i 0) rfl ?_)
 show y0t _ _ (seqItems? (.ref l) >>= _) _ _ s
 refine y02 (y2f hol hdl ?_)
 simp only[Int.toNat_natCast,hx]
 refine y02 (wpAny_rule (y02 (wpAny_setField ho hd (by simp) ?_)))
 show y0t _ _ (newExc (.type "StopIteration") [] >>= _) _ _ _
 refine y02 ?_
 simp only[newExc,newTuple]
 refine y02 (y2i ?_ (by size_fits))
 refine y02 (m:=firstArgMember _ _) (wpAny_of_eq (a:=Value.none) (by first|rfl|(simp only[firstArgMember];rfl)) ?_)
 refine y2i ?_ (by size_fits)
 simp only[raiseNew]
 refine y02 (wpAny_handled ?_)
 first|rw[show A.in1.handled=none from hh]|rw[hh]
 refine y02 (y06 (wpAny_throw ?_))
 exact hE _ _ (((Heap.SameBut.update ..).extBut.push _).push _) ⟨_,y0l _ rfl,rfl⟩
end
theorem zb1 {prog:y0q} {w:World} {A:Around} (hh:A.handled=none) (it l:Addr) (hne:l≠it) (items:Array Value) :
  Draws prog w A it [it,l] items.size (fun i v=>items[i]?=some v) (fun i h=>h.IsTupleIter it l i/\h.IsTuple l items) where
 live:=fun _ _ st=>let ⟨o,ho,_⟩:=st.1;⟨o,ho⟩
 frame:=fun _ _ _ st hk=>⟨st.1.at fun o e=>hk it (by simp) o e,let ⟨o,ho,r⟩:=st.2;⟨o,hk l (by simp) o ho,r⟩⟩
 item:=fun i s Q E hi st hQ=>by
  refine z8y st.1 st.2 (x:=items[i]) (by simp[hi]) fun h' hit' hs'=>?_
  exact hQ _ h' s.toks (by simp[hi]) ⟨hit',st.2.extBut hs'.extBut hne⟩ hs'
 done:=fun s Q E st hE=>z6c hh st.1 st.2 (by simp) hE
noncomputable def Ite (K:y00) (a:Addr):It :=
 ⟨fun i H=>∃xs x,SqT K H a xs/\xs[i]?=some x,fun i H x H'=>∃p v,H p=none/\x=.ref p/\H'=upd H p (.tup [.int i,v])/\∀xs,SqT K H a xs->xs[i]?=some v,fun i H=>∃xs,SqT K H a xs/\xs.length<=i⟩
theorem zkw {P:y0q} {w:World} {K:y00} {es:List Expr} {k:Nat} {pos:Pos} (a it e:Addr) (hne:e≠it) (hai:a≠it) (hae:a≠e):Turn P w K (.Tuple es k pos) (Ite K a) [e,it] e (fun i h=>(∃old,IsEnum h e it i old)/\h.IsTupleIter it a i) where
 mem:=by simp
 obj:=fun i h st b hb=>by
  obtain⟨⟨old,he⟩,o,ho,hc,hd⟩:=st
  rcases y09.mp hb with rfl|hb
  ·exact⟨_,he,fun v z=>by
    have z':Data.fields _=Data.cell v:=z
    cases z'⟩
  ·have e1:b=it:=by simpa using hb
   subst e1
   exact⟨o,ho,fun v z=>by rw[hd] at z;cases z⟩
 keep:=fun i h h' st kk=>by
  obtain⟨⟨old,he⟩,st2⟩:=st
  exact⟨⟨old,kk e (by simp) _ he⟩,st2.at fun o q=>kk it (by simp) o q⟩
 item:=by
  intro X hP hw hK hc i pins s σ H E I hf st hg
  subst hP hw hK
  obtain⟨xs,x,hq,hx⟩:=hg
  obtain⟨its,rv,p,hz⟩:=I.tuple hq
  obtain⟨u,hu,ru⟩:=rv.get hx
  obtain⟨⟨old,he⟩,hit⟩:=st
  obtain⟨f0,f1,f2,f3,f4,f5⟩:=hf e (by simp)
  obtain⟨g0,g1,g2,g3,g4,g5⟩:=hf it (by simp)
  have hi:i<its.toArray.size:=by
   rw[y0h]
   exact (y0k.mp hu).1
  have hnf:e∉[it,a]:=by
   intro z
   rcases y09.mp z with z|z
   ·exact hne z
   ·have z':e=a:=by simpa using z
    exact hae z'.symm
  refine wpAny_pyNext_enum_itemD (zb1 (A:=X.A.in1) (I.ok.hd hc) it a hai its.toArray) he ⟨hit,p⟩ hi hne hnf fun x' h' tk hP' ho hs' hT hsz hk=>?_
  have ex:x'=u:=by
   have:=hP'
   rw[<- Array.getElem?_toList] at this
   rw[show (its.toArray).toList=its from rfl,hu] at this
   exact (y28 this).symm
  subst ex
  refine⟨_,rfl,wpAny_letOwnedTupleGo_enum ho fun h2 he2 hs2=>?_⟩
  have helt:e<s.heap.objs.size:=y0c he
  have hilt:it<s.heap.objs.size:=by obtain⟨o,ho',_⟩:=hit;exact y0c ho'
  have k2:∀b o,b≠e->b≠it->s.heap.get? b=some o->h2.get? b=some o:=fun b o h1 h3 q=>hs2.extBut b o h1 (hk b o h1 h3 q)
  have fr:H s.heap.objs.size=none:=I.hok.fresh (y0o _)
  have hT2:h2.get? s.heap.objs.size=some { cls:=.type "tuple",data:=.seq #[.int i tk,x'] }:=hs2.extBut _ _ (y15 helt) hT
  have nH:∀b o,H b=some o->b≠e/\b≠it:=fun b o q=>⟨fun z=>(by rw[z,f0] at q;cases q),fun z=>(by rw[z,g0] at q;cases q)⟩
  have hok2:HOk X.prog X.w (upd H s.heap.objs.size (.tup [.int i,x])) h2:=by
   intro b o q
   by_cases hb:b=s.heap.objs.size
   ·subst hb
    rw[z0n] at q
    cases q
    exact⟨by show 2<=y0j;decide,[.int i tk,x'],.cons ⟨tk,rfl⟩ (.cons ru .nil),⟨_,hT2,rfl,_,rfl⟩⟩
   ·rw[z0i hb] at q
    refine (I.hok b o q).stay (fun c v hc' q'=>k2 c v ?_ ?_ q') (fun c q'=>?_) fun c ys q'=>?_
    ·rcases hc' with rfl|hc'
     ·exact (nH _ _ q).1
     ·exact (nH _ _ hc').1
    ·rcases hc' with rfl|hc'
     ·exact (nH _ _ q).2
     ·exact (nH _ _ hc').2
    ·rw[z0i (z0x q' fr)]
     exact q'
    ·rw[z0i (z0x q' fr)]
     exact q'
  have I2:L2.Inv X pins σ (upd H s.heap.objs.size (.tup [.int i,x])) { s with heap:=h2,toks:=tk+1 }:=by
   refine I.step (g':=s.gens) (d':=s.drawn) (ch:=[e,it]) (fun b hb=>?_) (fun b o _ _ hc' q _=>k2 b o (fun z=>hc' (by simp[z])) (fun z=>hc' (by simp[z])) q) (fun b o _ _ hc' q _=>⟨o.slots,k2 b o (fun z=>hc' (by simp[z])) (fun z=>hc' (by simp[z])) q⟩) (fun b o _ q n=>?_)
    (fun b o hc' q=>⟨o,k2 b o (fun z=>hc' (by simp[z])) (fun z=>hc' (by simp[z])) q⟩) (fun b ys q=>by rw[z0i (z0x q fr)];exact q) (fun b o u q=>by rw[z0i (z0x q fr)];exact q) (fun b ps q=>⟨#[],by rw[z0i (z0x q fr),q];simp⟩) (fun m hm=>?_) hok2 I.bare
   ·rcases y09.mp hb with rfl|hb
    ·exact⟨f3,f1,f4,f5⟩
    ·have:b=it:=by simpa using hb
     subst this
     exact⟨g3,g1,g4,g5⟩
   ·rw[z0i (y0x (y0c q))]
    exact n
   ·obtain⟨o,es',ep,ho',r⟩:=hm
    exact⟨o,es',ep,k2 _ o (Ne.symm f1) (Ne.symm g1) ho',r⟩
  refine⟨.ref s.heap.objs.size,_,I2,rfl,⟨s.heap.objs.size,x,fr,rfl,rfl,fun ys hy=>by rw[I.tuple_inj hy hq];exact hx⟩,⟨⟨_,by simpa using he2⟩,hs'.1.at fun o q=>(hs2.2 it hne.symm).trans q⟩,fun b hb=>?_⟩
  rcases y09.mp hb with rfl|hb
  ·rw[z0i (y0x helt)]
   exact f0
  ·have:b=it:=by simpa using hb
   subst this
   rw[z0i (y0x hilt)]
   exact g0
 done:=by
  intro X hP hw hK hc i pins s σ H E I hf st hg
  subst hP hw hK
  obtain⟨xs,hq,hx⟩:=hg
  obtain⟨its,rv,p,hz⟩:=I.tuple hq
  obtain⟨⟨old,he⟩,hit⟩:=st
  obtain⟨g0,g1,g2,g3,g4,g5⟩:=hf it (by simp)
  have hT:s.TypeIs (.ref e) "enumerate":=⟨_,he,rfl⟩
  have hl:=rv.length
  unfold pyNext
  refine y02 (wpAny_attempt (y2e (name:=Str.ofString "__next__") hT F.slot_enumerate_next
   (y2j F.slot_enumerate_next hT F.entry_enumerate_next ?_ (F.args_enumerate_next_1 _))))
  show y0t _ _ (field (.ref e) 2 >>= _) _ _ _
  refine y02 (y2d he rfl (x:=.ref it) rfl ?_)
  refine y02 (z6c (I.ok.hd hc) hit (show s.heap.IsTuple a its.toArray from p) (by simp;omega) fun h' x he' hx'=>?_)
  obtain⟨o,ho,hc'⟩:=hx'
  refine y02 (wpAny_isInstance (T:="StopIteration") (b:=true) ⟨o,ho,hc'⟩ isSubtype_stop ?_)
  exact y06 ⟨rfl,I.turned (t':=s.toks) (fun b o hb q=>he' b o hb q) g0 g1 g3 g4 g5⟩
 self:=fun _ _ _ _ _ st h=>by
  obtain⟨⟨old,he⟩,_⟩:=st
  exact wpAny_pyIter_enum he h
def iEn (K:y00) (ta:TA):TI:=fun σ H R=>ta σ H fun vs H1=>∃a xs,vs=[.ref a]/\SqT K H1 a xs/\R (Ite K a) H1
section
variable {X:Cx} {es:List Expr} {k:Nat} {p pos p2:Pos} {a:Expr} {f:Fe}
theorem zrh {ta:TA} (hg:Gl X "enumerate") (hm:X.mg "enumerate"=none) (ha:PA X [a] ta) (hs:y0a [a] X.env=[(false,eval a X.env)]:=by rfl):PI X (.Tuple es k p2) (.Call (.Name "enumerate" p) [a] [] pos) (iEn X.K ta):=by
 intro pins s σ H R I h
 refine Call_ (zas I hg hm PyProof.Rows.boot_enumerate (y1p (thn (ha pos pins s σ H _ I h) fun us s1 ⟨vs,H1,I1,r1,q1⟩=>?_) hs rfl))
 obtain⟨a,xs,rfl,hq,q⟩:=q1
 cases r1 with
 | cons r rr =>
  cases rr
  cases r
  obtain⟨its,rv,pl,hz⟩:=I1.tuple hq
  have hal:a<s1.heap.objs.size:=by obtain⟨o,ho,_⟩:=pl;exact y0c ho
  refine z7f (show s1.heap.IsTuple a its.toArray from pl) fun h' he hit hsz hk=>wpAny_pyIter_enum he ?_
  refine⟨s1.heap.objs.size+1,[s1.heap.objs.size+1,s1.heap.objs.size],_,_,H1,rfl,I1.kept (t':=s1.toks) hk,zkw a s1.heap.objs.size (s1.heap.objs.size+1) (Nat.succ_ne_self _) (y0x hal) (y0x (Nat.lt_succ_of_lt hal)),⟨⟨_,he⟩,hit⟩,fun b hb=>?_,q⟩
  have hb':s1.heap.objs.size<=b:=by
   rcases y09.mp hb with rfl|hb
   ·exact Nat.le_succ _
   ·have:b=s1.heap.objs.size:=by simpa using hb
    rw[this]
    exact y0o _
  exact I1.fpOk hb' (I1.hok.fresh hb')
theorem zmb {K:y00} {a:Addr} {F1:Addr->Prop} {H1:Hp} {ts:List T} {vs:List V} (hr:SqT K H1 a vs) (q:RepL K F1 H1 ts vs):ItOk K (Ite K a) F1 H1 (enum ts) where
 go:=fun i F H t kp d e=>by
  have hi:=(y0k.mp e).1
  simp only[enum,y13,List.length_zipIdx] at hi
  obtain⟨v,h1,_⟩:=q.get (y0u hi)
  exact⟨vs,v,kp.tup _ _ hr,h1⟩
 yld:=fun i F H t x H' kp d e y=>by
  obtain⟨p,v,hp,rfl,rfl,y⟩:=y
  have hi:=(y0k.mp e).1
  simp only[enum,y13,List.length_zipIdx] at hi
  obtain⟨v',h1,h2⟩:=(q.kp kp).get (y0u hi)
  have h3:=y vs (kp.tup _ _ hr)
  rw[h1] at h3
  cases h3
  have x1:=Ext.laid (o:=.tup [.int i,v]) d hp
  refine⟨F,x1,?_⟩
  have et:t=.tuple [.int i,ts[i]]:=by
   simp only[enum,y14,List.getElem?_zipIdx,y0u hi] at e
   simpa using e.symm
  subst et
  simp only[Rep]
  exact⟨p,_,rfl,SqT.of z0n,RepL.cons (by simp[Rep]) (RepL.cons (h2.ext x1) RepL.nil)⟩
 stop:=fun i F H kp hl=>⟨vs,kp.tup _ _ hr,by
  simp only[enum,y13,List.length_zipIdx] at hl
  rw[<- q.length]
  exact hl⟩
theorem zqc (hm:X.mg "enumerate"=none) (ha:PEv X a f) (hg:Gl X "enumerate":=by rfl) (hs:y0a [a] X.env=[(false,eval a X.env)]:=by rfl) (hs2:y0a [a] X.env=(false,eval a X.env)::y0a [] X.env:=by rfl) :
  PIt X (.Tuple es k p2) (.Call (.Name "enumerate" p) [a] [] pos) (z6e (z9o f)):=ziy (zrh hg hm (z5s ha z8b hs2) hs) fun σ H R ⟨F₀,H₀,O,F,ε,ts,r,e,k⟩=>by
 simp only[z6e,z9o,y07,y01] at e
 obtain⟨us,⟨t,et,e⟩,rfl⟩:=e
 split at e
 ·cases e
  refine⟨F₀,H₀,O,F,ε,_,r,et,fun v F' H' x q=>?_⟩
  simp only[Rep] at q
  obtain⟨a,vs,rfl,hs,hr⟩:=q
  exact⟨a,vs,rfl,hs,k _ F' H' x (zmb hs hr)⟩
 ·cases e
end
end
section
variable [Tbl]
structure Cl (P:y0q) (w:World) (K:y00) (mg:Str->Option Value) (base:Heap) (x:Str) (k n:Nat) (d:List T->Option T):Prop where
 ex:∃fa fd ps,FnOk P w K mg base CX0 k fa fd ps (spT K n d)/\mg x=some (.ref fa)/\y08 K (.ref fa)=true/\Binds K fd ps []
section
variable {P:y0q} {w:World} {K:y00} {mg:Str->Option Value} {base:Heap} {x:Str} {k n:Nat} {d:List T->Option T}
theorem Cl.mono {j:Nat} (c:Cl P w K mg base x j n d) (h:j<=k):Cl P w K mg base x k n d:=by
 obtain⟨fa,fd,ps,F,r⟩:=c.ex
 exact⟨fa,fd,ps,F.mono h,r⟩
theorem Cl.mk' {fa:Addr} {fd:y0b} {ps:List Str} (F:FnOk P w K mg base CX0 k fa fd ps (spT K n d)) (m:mg x=some (.ref fa)) (kp:y08 K (.ref fa)=true) (b:Binds K fd ps []):Cl P w K mg base x k n d:=⟨fa,fd,ps,F,m,kp,b⟩
end
section
variable {X:Cx} {k n:Nat} {d:List T->Option T} {x:Str} {p pos:Pos} {e:Expr} {es:List Expr} {fs:List Fe}
theorem z04 (C:Cl X.prog X.w X.K X.mg X.base x k n d) (hr:Room k X.A) (ha:PAv X (e::es) fs) (hg:Gl X x:=by rfl) (hn:fs.length=n:=by rfl) (hdb:(x == ("__debug__":Str))=false:=by decide)
  (he:y0a (e::es) X.env=(false,eval e X.env)::y0a es X.env:=by rfl) (hpl:(y2c pos (y0a es X.env)).any (·.1)=false:=by rfl):PEv X (.Call (.Name x p) (e::es) [] pos) (opN d fs):=by
 obtain⟨fa,fd,ps,F,m,kp,b⟩:=C.ex
 exact ztn F hr hg m kp b ha hn hdb he hpl
theorem q_gI {i:Int} {t:Tok} (hm:X.mg x=some (.int i t)) (hg:Gl X x:=by rfl) (hd:(x == ("__debug__":Str))=false:=by decide):PEv X (.Name x pos) (cst (.int i)):=zjf (v:=.int i) (zlm (v:=.int i) hg hm ⟨t,rfl⟩ hd) fun _ _=>by simp[Rep]
noncomputable def zv4 (scope sc:Scope) (N:List Str) (caps:List (Nat×Str)):Bool :=
 decide (scope.kind=.function) && scope.names.all (fun y=>(decide (y.2≠.local) || decide (scope.names.lookup y.1=some .local)) && decide (y.2≠.cell) && (decide (y.2≠.free) || decide (sc.names.lookup y.1=some .cell) || decide (sc.names.lookup y.1=some .free)))
  && caps.all (fun q=>decide (N[q.1]?=some q.2) && decide (scope.names.lookup q.2=some .free)) && decide ((caps.map (·.1)).Nodup)
theorem z1q {scope sc:Scope} {own:List Str} {caps:List (Nat×Str)} (N:List Str) (hsc:X.env.scope=sc) (hN:X.N=N) (hc:X.calm=true) (h:zv4 scope sc N caps=true):CompOk X scope own caps:=by
 simp only[zv4,y19,List.all_eq_true,decide_eq_true_eq,Bool.or_eq_true] at h
 obtain⟨⟨⟨h1,h2⟩,h3⟩,h4⟩:=h
 refine⟨h1,fun y hy hl=>?_,fun y hy=>(h2 y hy).1.2,fun y hy hf=>?_,fun q hq=>by rw[hN];exact h3 q hq,h4,hc⟩
 ·rcases (h2 y hy).1.1 with z|z
  ·exact absurd hl z
  ·exact z
 ·have hk:X.env.kindOf y.1=sc.names.lookup y.1:=by rw[<- hsc];rfl
  rw[hk]
  rcases (h2 y hy).2 with (z|z)|z
  ·exact absurd hf z
  ·exact .inl z
  ·exact .inr z
end
theorem z1a {P:y0q} {w:World} {K:y00} {mg:Str->Option Value} {base:Heap} {x:Str} {st:Stmt} {f:Addr} {fd:y0b} {N ps:List Str} {k:Nat} {b:Fs} (F:Fun K x x st f fd) (S:FnScope N ps (z01 st)) (bd:Binds K fd ps []) (m:mg x=some (.ref f))
  (hb:∀(cdv:Value) (A:Around) (outer:List Env) (s:y04) (H:Hp) (E:XK),Room k (A.deeper (envOfC x (z01 st) s.heap.objs.size f cdv)) ->
   PBt (cxOf CX0 P w K mg base N x (z01 st) f cdv A outer s H E).nox (z0a st) b):Cl P w K mg base x (k+1) ps.length (runF b N.length):=.mk' (zqe F S hb) m F.kp bd
end
end D
end
section
namespace L2
open PySem PySem.Spec PyProof.Rows
section
variable {κ:Type} [DecidableEq κ]
end
section
variable {P:y0q} {w:World} {H:Hp} {h:Heap} {a:Addr}
end
section
variable {X:Cx} {pins:List (Addr×Obj)} {σ:St} {H:Hp} {s:y04} {a:Addr} {y v:V} {u r:Value} {o:Option V} {A:Around} {E:Value->y04->Prop}
end
section
variable {X:Cx} {pins:List (Addr×Obj)} {σ:St} {H:Hp} {s:y04} {a:Addr} {kvs:List (Key×V)} {k:Key} {u:Value} {A:Around} {E:Value->y04->Prop}
end
section
variable {X:Cx} {o i e value:Expr} {pos pos' tpos:Pos} {td ty tv:TE}
end
section
variable {X:Cx} {pos:Pos}
end
section
variable {X:Cx} {pins:List (Addr×Obj)} {σ:St} {H:Hp} {s:y04} {a:Addr} {y d:V} {u r:Value} {o:Option V} {A:Around} {E:Value->y04->Prop}
end
section
variable {X:Cx} {o e f:Expr} {apos cpos:Pos} {td ty tx:TE}
end
section
variable {X:Cx} {pins:List (Addr×Obj)} {σ:St} {H:Hp} {s:y04} {a:Addr} {kvs:List (Key×V)} {A:Around} {E:Value->y04->Prop}
end
section
variable {X:Cx} {pins:List (Addr×Obj)} {σ:St} {H:Hp} {s:y04} {a:Addr} {y:V} {u:Value} {A:Around} {E:Value->y04->Prop}
end
end L2
end
section
namespace D
open PySem PySem.Spec PyProof.Rows L2
variable [Tbl]
section
variable {K:y00} {F:Addr->Prop} {H:Hp}
end
section
variable {X:Cx} {a b e:Expr} {f g:Fe} {pos:Pos}
variable {x:Str} {px:Pos}
theorem zvh {R:TE} {h:Fe} (k:∀σ H Q,tV X.K h σ H Q->R σ H Q):∀σ H Q,tT X.K (tstB h) σ H Q->L2.tB R σ H Q:=fun σ H Q ⟨F₀,H₀,O,F,ε,b,r,e,kk⟩=>by
 simp only[tstB,y01] at e
 obtain⟨t,et,e⟩:=e
 split at e
 ·cases e
  refine k σ H _ ⟨F₀,H₀,O,F,ε,_,r,et,fun v F' H' x q=>?_⟩
  simp only[Rep] at q
  exact⟨_,q,kk F' H' x⟩
 ·cases e
end
end D
end
section
namespace D
open PySem
variable [Tbl]
end D
end
section
namespace D
open PySem PySem.Spec PyProof.Rows L2
section
variable [Tbl]
section
variable {prog:y0q} {w:World} {K:Type} [DecidableEq K] (knd:PySem.KeyKind prog w K)
variable {knd} {A:Around} {E:Value->y04->Prop} {s:y04}
section
variable {R:Result->y04->Prop} {I:Addr} {fp wr:List Addr} {G:Array GenState->Array GenState->Prop} {St:Nat->y04->Prop} {items:Array Value}
end
end
end
section
variable [Tbl]
section
variable {prog:y0q} {w:World} {A:Around} {E:Value->y04->Prop} {s:y04}
end
section
variable {prog:y0q} {w:World} {A:Around} {E:Value->y04->Prop} {s:y04}
variable {a I:Addr} {es:Array (Int×Value)} {ep:Nat} {t:SetTable}
end
end
section
variable [Tbl]
section
variable {prog:y0q} {w:World} {A:Around} {E:Value->y04->Prop} {s:y04}
variable {a I:Addr} {es:Array (Int×Value)} {ep:Nat} {t:SetTable}
end
end
section
variable [Tbl]
section
variable {prog:y0q} {w:World} {K:Type} [DecidableEq K] {knd:PySem.KeyKind prog w K} {A:Around} {E:Value->y04->Prop} {s:y04} {a:Addr} {ks:List K}
end
end
section
variable [Tbl]
section
variable {K:Type} [DecidableEq K]
end
end
section
variable [Tbl]
section
variable {prog:y0q} {w:World} {A:Around} {E:Value->y04->Prop} {s:y04}
end
section
variable {X:Cx} {pins:List (Addr×Obj)} {σ:L2.St} {H:Hp} {s:y04}
end
end
section
variable [Tbl]
theorem ze0:∀{ts:List T} {ss:List Str},strsOf ts=some ss->ts=ss.map .str
 | [],ns,e=>by
  cases e
  rfl
 | t::ts,ns,e=>by
  unfold strsOf at e
  split at e
  ·rename_i h
   cases h
  ·rename_i h
   cases h
   simp only[y07] at e
   obtain⟨r,e1,rfl⟩:=e
   rw[ze0 e1]
   rfl
  ·cases e
section
variable {K:y00} {F:Addr->Prop} {H:Hp}
theorem zed:∀(ns:List Int),RepL K F H (ns.map .int) (ns.map V.int)
 | []=>RepL.nil
 | n::ns=>RepL.cons (by simp[Rep]) (zed ns)
theorem zec:∀(ns:List Str),RepL K F H (ns.map .str) (ns.map V.str)
 | []=>RepL.nil
 | n::ns=>RepL.cons (by simp[Rep]) (zec ns)
theorem z8v:∀{ns:List Str} {vs:List V},RepL K F H (ns.map .str) vs->vs=ns.map V.str
 | [],vs,h=>by simpa [RepL] using h
 | n::ns,vs,h=>by
  simp only[y0d,RepL,Rep] at h
  obtain⟨v,r,rfl,rfl,z⟩:=h
  rw[z8v z]
  rfl
end
noncomputable def z7q:List T->Option T
 | [.list xs]=>if xs.length<64 then
   match intsOf xs with
   | some ns=>some (.list ((sortI (dedup ns)).map .int))
   | none=>(strsOf xs).map fun ss=>.list ((znv (dedup ss)).map .str)
  else none
 | _=>none
section
variable {X:Cx} {a e:Expr} {es:List Expr} {f:Fe} {fs:List Fe} {p p2 pos pos2:Pos}
end
section
variable {prog:y0q} {w:World} {A:Around} {E:Value->y04->Prop} {s:y04}
end
section
variable {X:Cx} {e st:Expr} {te:TE} {f:Fe} {pos p2:Pos}
end
end
section
variable [Tbl]
section
variable {prog:y0q} {w:World} {K:Type} [DecidableEq K] {knd:PySem.KeyKind prog w K} {A:Around} {E:Value->y04->Prop} {s:y04}
end
end
section
variable [Tbl]
section
variable {X:Cx} {a b e:Expr} {es rest:List Expr} {f g:Fe} {fs:List Fe} {p p2 pos pos2:Pos}
theorem z5u {op:BoolOp} (h:PEv X a f):PEv X (.BoolOp op [a] pos) f:=zq4 h
theorem zti {op:BoolOp} (h:PEv X a f):PEv X (.BoolOp op [a] pos) f:=zq4 h
theorem z4d (ha:PEv X a f) (hb:PEv X (.BoolOp .And (b::rest) pos) g):PEv X (.BoolOp .And (a::b::rest) pos) (andV f g):=z0v (zu4 ha hb) fun σ H Q ⟨F₀,H₀,O,F,ε,t,r,e,k⟩=>by
 simp only[andV,y01] at e
 obtain⟨x,ex,e⟩:=e
 refine⟨F₀,H₀,O,F,ε,x,r,ex,fun v F1 H1 x1 rx=>?_⟩
 split at e
 ·simp only[Rep] at rx
  refine⟨true,rx,?_⟩
  rw[if_pos rfl]
  exact⟨F₀,H₀,O,F1,ε,t,r.ext x1,e,fun v F' H' x2 q=>k v F' H' (x1.trans x2) q⟩
 ·cases e
  simp only[Rep] at rx
  refine⟨false,rx,?_⟩
  rw[if_neg (by decide)]
  exact k _ F1 H1 x1 (by simp[Rep])
 ·cases e
theorem q_or (ha:PEv X a f) (hb:PEv X (.BoolOp .Or (b::rest) pos) g):PEv X (.BoolOp .Or (a::b::rest) pos) (orV f g):=z0v (zw4 ha hb) fun σ H Q ⟨F₀,H₀,O,F,ε,t,r,e,k⟩=>by
 simp only[orV,y01] at e
 obtain⟨x,ex,e⟩:=e
 refine⟨F₀,H₀,O,F,ε,x,r,ex,fun v F1 H1 x1 rx=>?_⟩
 split at e
 ·simp only[Rep] at rx
  refine⟨false,rx,?_⟩
  rw[if_neg (by decide)]
  exact⟨F₀,H₀,O,F1,ε,t,r.ext x1,e,fun v F' H' x2 q=>k v F' H' (x1.trans x2) q⟩
 ·cases e
  simp only[Rep] at rx
  refine⟨true,rx,?_⟩
  rw[if_pos rfl]
  exact k _ F1 H1 x1 (by simp[Rep])
 ·cases e
theorem zvw (ha:PEv X a f):PEv X (.UnaryOp .Not a pos) (notV f):=z0v (zty ha) fun σ H Q ⟨F₀,H₀,O,F,ε,t,r,e,k⟩=>by
 simp only[notV,y01] at e
 obtain⟨x,ex,e⟩:=e
 refine⟨F₀,H₀,O,F,ε,x,r,ex,fun v F1 H1 x1 rx=>?_⟩
 split at e
 ·cases e
  simp only[Rep] at rx
  exact⟨_,rx,k _ F1 H1 x1 (by simp[Rep])⟩
 ·cases e
def tOt (K:y00) (f:Ev->Option (Option Int)):TO:=fun σ H Q=>∃F₀ H₀ O F ε i,RelE K F₀ H₀ O F H ε σ/\f ε=some i/\∀F' H',Ext F H F' H'->Q i H'
theorem zqm {x:Option Expr} {t t':TO} (h:PO X x t) (k:∀σ H Q,t' σ H Q->t σ H Q):PO X x t':=fun pins s σ H Q I q=>h pins s σ H Q I (k σ H Q q)
theorem z6p:PO X none (tOt X.K optN):=zqm zrf fun σ H Q ⟨F₀,H₀,O,F,ε,i,r,e,k⟩=>by
 cases e
 exact k F H (Ext.refl r.dom)
theorem z4z (h:PEr X a f):PO X (some a) (tOt X.K (opt f)):=zqm (zre h) fun σ H Q ⟨F₀,H₀,O,F,ε,i,r,e,k⟩=>by
 simp only[opt,y01] at e
 obtain⟨x,ex,e⟩:=e
 refine⟨F₀,H₀,O,F,ε,x,r,ex,fun v F1 H1 x1 rx=>?_⟩
 split at e
 ·cases e
  exact⟨_,rx.int,k F1 H1 x1⟩
 ·cases e
noncomputable def rSlW (K:y00):V->Option Int->Option Int->Hp->VK->Prop:=fun x lo hi H Q=>∃a xs,x=.ref a/\SqT K H a xs/\(HT.sIx xs.length 0 lo=0/\HT.sIx xs.length xs.length hi=xs.length)/\Q (.ref a) H
theorem z7u {prog:y0q} {w:World} {A:Around} {E:Value->y04->Prop} {s:y04} {t sl:Addr} {items:Array Value} {vl vu:Value} {lo hi:Option Int} {Q:Value->y04->Prop} (ht:IsTup s.heap t items) (hs:s.heap.IsSliceOf sl vl vu .none) (pl:IsPart vl lo) (pu:IsPart vu hi)
  (hw:HT.sIx items.size 0 lo=0/\HT.sIx items.size items.size hi=items.size) (h:Q (.ref t) s):y0t (y2r prog w) A (getItem (.ref t) (.ref sl)) Q E s:=by
 obtain⟨os,hos,hcs,hds⟩:=id hs
 have hTs:s.TypeIs (.ref sl) "slice":=⟨os,hos,hcs⟩
 unfold getItem
 try with_reducible refine wpAny_holding ?_
 first|refine y02 (y06 ?_)|skip
 refine y02 (wpAny_sequenceKey ht.typeIs (by decide) ?_)
 refine y02 (y2e (name:=Str.ofString "__getitem__") ht.typeIs y1f
  (y2j y1f ht.typeIs entry_tuple_getitem ?_ (args_tuple_getitem _ _)))
 show y0t _ _ (Builtin.Tuple.tupleItemsOf (.ref t) >>= _) _ _ s
 refine y02 (tupleItemsOf_ ht ?_)
 refine y02 (wpAny_typeOf hTs ?_)
 rw[if_pos (by decide)]
 refine y02 (HT.sliceApplied_gen hs pl pu ?_)
 rw[hw.1,hw.2]
 show y0t _ _ (if (((0:Nat):Int) == 0 && (1:Int) == 1 && (items.size - 0) == items.size)=true then _ else _) _ _ s
 rw[if_pos (by simp)]
 unfold Builtin.Tuple.tupleIsExact
 refine y02 (y02 (wpAny_typeOf ht.typeIs (y06 ?_)))
 rw[if_pos (by decide)]
 refine y02 (wpAny_rule ?_)
 exact y06 ⟨_,rfl,y06 h⟩
theorem zib:SlR X (rSlW X.K):=by
 intro pins s σ H x v vl vu lo hi sl Q I rx hs pl pu h
 obtain⟨a,xs,rfl,hx,hw,q⟩:=h
 cases rx
 obtain⟨its,r,ht,hz⟩:=I.tuple hx
 have hlen:its.toArray.size=xs.length:=by rw[y0h];exact r.length.symm
 refine⟨"tuple",_,PyProof.Rows.slot_tuple_getitem.lookup,ht.typeIs,?_⟩
 exact z7u ht hs pl pu (by rw[hlen];exact hw) ⟨.ref a,H,I,rfl,q⟩
theorem zt9 (n d:Nat) (o:Option Int):D.sIx n d o=HT.sIx n d o:=by
 cases o with
 | none=>rfl
 | some v =>
  unfold D.sIx HT.sIx
  dsimp only
  split <;> omega
theorem z78 {K:y00} {F:Addr->Prop} {H:Hp} {ts:List T} {vs:List V} (h:RepL K F H ts vs) (lo hi:Option Int):RepL K F H (cutZ ts lo hi) (cutV vs lo hi):=by
 unfold cutZ cutV
 simp only[zt9,h.length]
 exact (h.drop _).take _
theorem zr5 {lo hi:Option Expr} {fl fh:Ev->Option (Option Int)} (ha:PEr X e f) (hl:PO X lo (tOt X.K fl)) (hu:PO X hi (tOt X.K fh)):PEv X (.Subscript e (.Slice lo hi none p2) pos) (slice f fl fh):=z0v (zid ((zpx.or zib).or zl5) ha hl hu) fun σ H Q ⟨F₀,H₀,O,F,ε,t,r,e,k⟩=>by
 simp only[slice,y01] at e
 obtain⟨x,ex,l,el,h,eh,e⟩:=e
 refine⟨F₀,H₀,O,F,ε,x,r,ex,fun v F1 H1 x1 rx=>⟨F₀,H₀,O,F1,ε,l,r.ext x1,el,fun F2 H2 x2=>⟨F₀,H₀,O,F2,ε,h,(r.ext x1).ext x2,eh,fun F3 H3 x3=>?_⟩⟩⟩
 have x23:=x2.trans x3
 have x13:=x1.trans x23
 unfold oSl at e
 split at e
 ·cases e
  obtain⟨a,vs,rfl,hs,hr⟩:=(rx.ext x23).tup
  by_cases hw:HT.sIx vs.length 0 l=0/\HT.sIx vs.length vs.length h=vs.length
  ·refine .inl (.inr ⟨a,vs,rfl,hs,hw,k _ F3 H3 x13 ?_⟩)
   simp only[Rep]
   refine⟨a,vs,rfl,hs,?_⟩
   have:=z78 hr l h
   unfold cutV at this
   rw[hw.1,hw.2,List.drop_zero,Nat.sub_zero,List.take_length] at this
   exact this
  ·refine .inl (.inl ⟨a,vs,rfl,hs,hw,fun q hq=>?_⟩)
   have x4:=Ext.laid (o:=.tup (cutV vs l h)) x13.dom hq
   refine k _ F3 _ (x13.trans x4) ?_
   simp only[Rep]
   exact⟨q,_,rfl,SqT.of z0n,(z78 hr l h).ext x4⟩
 ·cases e
  obtain⟨a,vs,rfl,hs,hr⟩:=(rx.ext x23).lst
  refine .inr ⟨a,vs,rfl,.inl hs,fun q hq=>?_⟩
  have x4:=Ext.laidF (o:=.lst (cutV vs l h)) x13.dom hq
  refine k _ _ _ (x13.trans x4) ?_
  simp only[Rep]
  exact⟨q,_,rfl,.inr rfl,.inl z0n,(z78 hr l h).ext x4⟩
 ·cases e
end
section
variable {X:Cx} {a e:Expr} {f:Fe} {p p2 pos pos2:Pos}
end
end
end D
end
section
namespace D
open PySem PySem.W PyProof.Rows
structure OrdK (n:Nat) (lt:Nat->Nat->Bool):Prop where
 asym:∀i j,lt i j=true->lt j i=false
 trans:∀i j k,lt i j=true->lt j k=true->lt i k=true
 tot:∀i j,i<n->j<n->i≠j->lt i j=true\/lt j i=true
def SP (lt:Nat->Nat->Bool) (p:Array Nat) (m:Nat):Prop:=∀i j,i<j->j<m->lt (p.getD i 0) (p.getD j 0)=true
def DP (lt:Nat->Nat->Bool) (p:Array Nat) (m:Nat):Prop:=∀i j,i<j->j<m->lt (p.getD j 0) (p.getD i 0)=true
section
variable {n:Nat} {lt:Nat->Nat->Bool} (O:OrdK n lt)
include O
end
end D
end
section
namespace D
open PySem
variable [Tbl]
end D
end
section
namespace D
open PySem PySem.Spec PyProof.Rows L2
section
variable [Tbl]
open PySem.W (kas_ask kas_sort kat_run kat_snds kat_lt kat_kind KatTups KatLex KatGo kas_item KasT)
section
variable {prog:y0q} {w:World} {A:Around} {E:Value->y04->Prop} {s:y04}
end
section
variable {X:Cx}
variable {e:Expr} {es:List Expr} {fs:List Fe} {p pos:Pos}
end
end
section
variable [Tbl]
section
variable {prog:y0q} {w:World} {K:Type} [DecidableEq K] {knd:PySem.KeyKind prog w K} {A:Around}
variable {R:Result->y04->Prop} {I:Addr} {fp wr:List Addr} {G:Array GenState->Array GenState->Prop} {St:Nat->y04->Prop} {items:Array Value}
variable {E:Value->y04->Prop} {s:y04}
end
end
section
variable [Tbl]
section
variable {X:Cx}
variable {a b e:Expr} {f g:Fe} {x y:Str} {p px py pos pos2:Pos}
end
end
section
variable [Tbl]
open AutoSeq1 (wpAny_loadPart')
section
variable {X:Cx} {es:List Expr} {k:Nat} {p pos p2:Pos} {a:Expr} {f:Fe}
end
end
section
variable [Tbl]
open AutoSeq1 (wpAny_loadPart')
section
variable {prog:y0q} {w:World} {A:Around} {E:Value->y04->Prop} {s:y04}
end
end
section
variable [Tbl]
section
variable {K:y00} {F:Addr->Prop} {H:Hp}
theorem zc3:∀{bs:List Bool} {vs:List V},RepL K F H (bs.map .bool) vs->vs=bs.map V.bl
 | [],vs,h=>by simpa [RepL] using h
 | n::ns,vs,h=>by
  simp only[y0d,RepL,Rep] at h
  obtain⟨v,r,rfl,rfl,z⟩:=h
  rw[zc3 z]
  rfl
end
section
variable {X:Cx} {a e:Expr} {es:List Expr} {f:Fe} {fs:List Fe} {p p2 pos pos2:Pos}
end
end
section
variable [Tbl]
mutual
noncomputable def ltD:T->T->Option Bool
 | .int a,.int b=>some (decide (a<b))
 | .tuple xs,.tuple ys=>lexD xs ys
 | _,_=>none
noncomputable def lexD:List T->List T->Option Bool
 | [],[]=>some false
 | [],_::_=>some true
 | _::_,[]=>some false
 | x::xs,y::ys=>if y1v x y then lexD xs ys else ltD x y
end
noncomputable def LtAt (A:Around) (s:y04) (y x:Value) (b:Bool):Prop :=
 ∀(prog:y0q) (w:World) (E:Value->y04->Prop) (Q:Value->y04->Prop),Q (.bool b) s->y0t (y2r prog w) A (richCompare .Lt y x) Q E s
inductive GoodP (A:Around) (s:y04) (fin:Bool):List (Value×Value)->Bool->Prop
 | nil:GoodP A s fin [] fin
 | eq {y x:Value} {r:List (Value×Value)} {b:Bool}:SeqAt.EqAt A s y x true->GoodP A s fin r b->GoodP A s fin ((y,x)::r) b
 | lt {y x:Value} {r:List (Value×Value)} {b:Bool}:SeqAt.EqAt A s y x false->LtAt A s y x b->GoodP A s fin ((y,x)::r) b
section
open PySem.SeqAt
open PySem.AutoSeq1 (wpAny_loadPart')
open PySem.MeetsSeq PySem.MeetsSeq2 PySem.MeetsSeq3
theorem zdx (l b:Addr) (items items2:Array Value) (n n2:Nat) (dd dd2:Option Addr) (sl sl2:Array (Option Value)) (z:Bool) :
  Meets (Builtin.«tuple.__lt__» ⟨[.ref l,.ref b],[]⟩)
   (fun A R s=>s.heap.get? l=some { cls:=.type "tuple",dict:=dd,data:=.seq items n,slots:=sl }/\s.heap.get? b=some { cls:=.type "tuple",dict:=dd2,data:=.seq items2 n2,slots:=sl2 } /\
    GoodP A.in1 s (decide (items.size<items2.size)) (items.toList.zip items2.toList) z/\R (.ok (.ret (.bool z))) s) :=
 .of_wp fun prog w A R s h=>by
  obtain⟨hp,g,d,tk,os⟩:=s;obtain⟨hl,hb,hg,h⟩:=h
  have f2:=AutoSeq1.sub_tuple_tuple
  wp_walk using wpAny_loadPart' hl,wpAny_loadPart' hb,wpAny_forIn_list _ (fun rest b s'=>b.1=none/\s'=⟨hp,g,d,tk,os⟩/\GoodP A.in1 ⟨hp,g,d,tk,os⟩ (decide (items.size<items2.size)) rest z) _
  case turn =>
   rintro⟨y,x⟩ rest b s' ⟨hb',rfl,hG⟩
   cases hG with
   | eq he hG =>
    refine y02 (he prog w _ _ ?_)
    wp_walk
    exact⟨rfl,rfl,hG⟩
   | lt he hlt =>
    refine y02 (he prog w _ _ ?_)
    have hri:=hlt prog w
    wp_walk using hri
    exact⟨_,rfl,h⟩
  case fin =>
   rintro⟨b1,b2⟩ s' ⟨hb',rfl,hG⟩
   simp only at hb'
   subst hb'
   cases hG
   wp_walk
   exact⟨_,rfl,by simpa [Builtin.Tuple.tupleCompareSizes] using h⟩
  case h =>
   exact⟨rfl,rfl,hg⟩
mutual
theorem zou:∀(da db:T) (A:Around) (s:y04) (a b:Value) (as bs:List Addr) (r:Bool),Reads s.heap a da as->Reads s.heap b db bs->da.canLay0=true->db.canLay0=true->A.units+min da.depth db.depth<cLine->ltD da db=some r->LtAt A s a b r
 | .int i,.int j,A,s,_,_,_,_,r,.int _ t,.int _ u,_,_,_,e=>by
  unfold ltD at e
  cases e
  exact fun prog w E Q q=>(PyProof.Rows.lt_int q:y0t (y2r prog w) A (y2h .Lt (.int i t) (.int j u)) Q E s)
 | .tuple xs,.tuple ys,A,s,_,_,_,_,r,.tuple (a:=l) (o:=o) (vs:=vs) (n:=n) h1 h2 h3 h4,.tuple (a:=l') (o:=o') (vs:=vs') (n:=n') k1 k2 k3 k4,ha,hb,hu,e=>by
  unfold ltD at e
  simp only[PyData.canLay0] at ha hb
  simp only[y20] at hu
  have hG:=good_reads xs ys A.in1 s vs.toList vs'.toList _ _ r h4 k4 ha hb (room_in hu) e
  obtain⟨cls,dd,data,sl⟩:=o
  obtain⟨cls2,dd2,data2,sl2⟩:=o'
  simp only at h2 h3 k2 k3
  subst h2 h3 k2 k3
  rw[y1u,y1u] at hG
  exact fun prog w E Q q=>richCompare_meets_room (op:=.Lt) ⟨_,h1,rfl⟩ ⟨_,k1,rfl⟩ PySem.F.slot_tuple_lt PySem.F.entry_tuple_lt (PySem.F.args_tuple_lt_2 _ _) (zdx l l' vs vs' n n' dd dd2 sl sl2 r)
   ⟨h1,k1,hG,show Value.bool r≠Value.notImplemented/\Q (.bool r) s from ⟨(fun x=>nomatch x),q⟩⟩ (by omega)
 | .none,_,_,_,_,_,_,_,_,_,_,_,_,_,e=>by simp[ltD] at e
 | .bool _,_,_,_,_,_,_,_,_,_,_,_,_,_,e=>by simp[ltD] at e
 | .str _,_,_,_,_,_,_,_,_,_,_,_,_,_,e=>by simp[ltD] at e
 | .list _,_,_,_,_,_,_,_,_,_,_,_,_,_,e=>by simp[ltD] at e
 | .dict _,_,_,_,_,_,_,_,_,_,_,_,_,_,e=>by simp[ltD] at e
 | .int _,.none,_,_,_,_,_,_,_,_,_,_,_,_,e=>by simp[ltD] at e
 | .int _,.bool _,_,_,_,_,_,_,_,_,_,_,_,_,e=>by simp[ltD] at e
 | .int _,.str _,_,_,_,_,_,_,_,_,_,_,_,_,e=>by simp[ltD] at e
 | .int _,.list _,_,_,_,_,_,_,_,_,_,_,_,_,e=>by simp[ltD] at e
 | .int _,.dict _,_,_,_,_,_,_,_,_,_,_,_,_,e=>by simp[ltD] at e
 | .int _,.tuple _,_,_,_,_,_,_,_,_,_,_,_,_,e=>by simp[ltD] at e
 | .tuple _,.none,_,_,_,_,_,_,_,_,_,_,_,_,e=>by simp[ltD] at e
 | .tuple _,.bool _,_,_,_,_,_,_,_,_,_,_,_,_,e=>by simp[ltD] at e
 | .tuple _,.str _,_,_,_,_,_,_,_,_,_,_,_,_,e=>by simp[ltD] at e
 | .tuple _,.list _,_,_,_,_,_,_,_,_,_,_,_,_,e=>by simp[ltD] at e
 | .tuple _,.dict _,_,_,_,_,_,_,_,_,_,_,_,_,e=>by simp[ltD] at e
 | .tuple _,.int _,_,_,_,_,_,_,_,_,_,_,_,_,e=>by simp[ltD] at e
theorem good_reads:∀(xs ys:List T) (A:Around) (s:y04) (vs ws:List Value) (as bs:List Addr) (r:Bool),ReadsAll s.heap vs xs as->ReadsAll s.heap ws ys bs->y1e xs=true->y1e ys=true->A.units+min (y1c xs) (y1c ys)<cLine->lexD xs ys=some r->GoodP A s (decide (vs.length<ws.length)) (vs.zip ws) r
 | [],[],A,s,_,_,_,_,r,.nil,.nil,_,_,_,e=>by
  unfold lexD at e
  cases e
  exact .nil
 | [],_::_,A,s,_,_,_,_,r,.nil,.cons _ _,_,_,_,e=>by
  unfold lexD at e
  cases e
  exact GoodP.nil
 | _::_,[],A,s,_,_,_,_,r,.cons _ _,.nil,_,_,_,e=>by
  unfold lexD at e
  cases e
  exact GoodP.nil
 | x::xs,y::ys,A,s,_,_,_,_,r,.cons r1 r2,.cons q1 q2,ha,hb,hu,e=>by
  simp only[y1e,y19] at ha hb
  simp only[y1c] at hu
  unfold lexD at e
  have he:=eqAt_reads x y A s _ _ _ _ r1 q1 ha.1 hb.1 (room_head hu)
  split at e
  next h =>
   rw[h] at he
   have ih:=good_reads xs ys A s _ _ _ _ r r2 q2 ha.2 hb.2 (room_tail hu) e
   rw[y1w]
   simp only[y0v,Nat.add_lt_add_iff_right]
   exact .eq he ih
  next h =>
   rw[Bool.not_eq_true] at h
   rw[h] at he
   rw[y1w]
   exact .lt he (zou x y A s _ _ _ _ r r1 q1 ha.1 hb.1 (room_head hu) e)
end
end
section
variable {prog:y0q} {w:World} {A:Around} {R:Result->y04->Prop} {I:Addr} {fp wr:List Addr} {G:Array GenState->Array GenState->Prop} {St:Nat->y04->Prop} {items:Array Value}
variable {E:Value->y04->Prop} {s:y04}
end
section
variable {X:Cx} {e:Expr} {es:List Expr} {fs:List Fe} {p pos:Pos}
end
end
section
variable [Tbl]
end
end D
end
section
namespace D
open PySem
inductive Ag where
 | v (f:Fe)|o (i:Nat)
abbrev Fx:=Ev->Option (T×Ev)
abbrev Fo:=Ev->Option Sl
def objF (c i:Nat) (ε:Ev):Option (Md×List Sl):=match ε[i]? with
 | some (some (.obj m c' fs))=>if c'=c then some (m,fs) else none
 | _=>none
def fld (c i j:Nat):Fe:=fun ε=>(objF c i ε).bind fun o=>match o.2[j]? with
 | some (.imm t)=>some t
 | some (.own ts)=>some (.list ts)
 | _=>none
def fldV (c i j:Nat):Fe:=fun ε=>(objF c i ε).bind fun o=>match o.2[j]? with
 | some (.imm t)=>some t
 | _=>none
def fldD (c i j:Nat):Ev->Option (List (Key×T)):=fun ε=>(objF c i ε).bind fun o=>match o.2[j]? with
 | some (.dic kvs)=>some kvs
 | _=>none
def fldL (c i j:Nat):Ev->Option (List T):=fun ε=>(objF c i ε).bind fun o=>match o.2[j]? with
 | some (.own ts)=>some ts
 | _=>none
def fGet (c i j:Nat) (k:Fe):Fe:=fun ε=>(k ε).bind fun t=>(keyOf t).bind fun k=>(fldD c i j ε).bind fun kvs=>getD kvs k
noncomputable def setF (c i j:Nat) (s:Sl) (ε:Ev):Option Ev:=(objF c i ε).bind fun o=>if o.1=.ro then none else
 if j<o.2.length then some (ε.set i (some (.obj o.1 c (o.2.set j s)))) else if j=o.2.length then some (ε.set i (some (.obj o.1 c (o.2++[s])))) else none
def asgF (c i j:Nat) (f:Fe):Fs:=fun ε=>(f ε).bind fun t=>(setF c i j (.imm t) ε).map .nx
def zna (c i j:Nat) (f:Fe):Fs:=fun ε=>(f ε).bind fun t=>match t with
 | .list ts=>(setF c i j (.own ts) ε).map .nx
 | _=>none
def zgv:T->T->Option Int
 | .int i,.int j=>some (i+j)
 | _,_=>none
def augF (c i j:Nat) (f:Fe):Fs:=fun ε=>(fldV c i j ε).bind fun x=>(f ε).bind fun y=>(zgv x y).bind fun z=>(setF c i j (.imm (.int z)) ε).map .nx
def appF (c i j:Nat) (f:Fe):Fs:=fun ε=>(f ε).bind fun t=>(fldL c i j ε).bind fun ts=>if ts.length<big then (setF c i j (.own (ts++[t])) ε).map .nx else none
noncomputable def zlh (c i j:Nat) (k v:Fe):Fs:=fun ε=>(v ε).bind fun v=>(k ε).bind fun t=>(keyOf t).bind fun k=>(fldD c i j ε).bind fun kvs=>if kvs.length<big then (setF c i j (.dic (putD kvs k v)) ε).map .nx else none
noncomputable def zn9 (c i j:Nat) (k v:Fe):Fs:=fun ε=>(k ε).bind fun t=>(keyOf t).bind fun k=>(fldD c i j ε).bind fun kvs=>(getD kvs k).bind fun x=>(v ε).bind fun y=>(zgv x y).bind fun z=>if kvs.length<big then (setF c i j (.dic (putD kvs k (.int z))) ε).map .nx else none
def zk0 (f g:Fi):Fi:=fun ε=>(f ε).bind fun a=>(g ε).map fun b=>List.zipWith (fun x y=>.tuple [x,y]) a b
def zm1 (c:Nat) (d:List Sl->Option T) (i:Nat) (fs:List Fe):Fe:=fun ε=>(objF c i ε).bind fun o=>(args fs ε).bind fun ts=>d (.obj .ro c o.2::ts.map .imm)
noncomputable def zm2 (c:Nat) (d:List Sl->Option (T×List Sl)) (i:Nat) (fs:List Fe):Fx:=fun ε=>(objF c i ε).bind fun o=>if o.1=.ro then none else (args fs ε).bind fun ts =>
 (d (.obj .lent c o.2::ts.map .imm)).map fun r=>(r.1,ε.set i (some (.obj o.1 c r.2)))
def exX (f:Fx):Fs:=fun ε=>(f ε).map fun r=>.nx r.2
def rtnX (f:Fx):Fs:=fun ε=>(f ε).map fun r=>.rtm r.1 r.2
def rtnM (f:Fe):Fs:=fun ε=>(f ε).map fun t=>.rtm t ε
def asgX (i:Nat) (f:Fx):Fs:=fun ε=>(f ε).map fun r=>.nx (r.2.set i (some (.imm r.1)))
def zl8:Fs:=fun ε=>some (.rtm .none ε)
def never:Fs:=fun _=>none
def zaa (n:Nat) (ss:List Sl):Ev:=ss.map some++y0g (n - ss.length) none
def runR (b:Fs) (n:Nat) (ss:List Sl):Option T:=(b (zaa n ss)).bind fun o=>match o with
 | .rt t=>some t
 | .nx _=>some .none
 | _=>none
def zaq (c p:Nat) (ε:Ev):Option (List Sl):=match ε[p]? with
 | some (some (.obj .lent c' fs))=>if c'=c then some fs else none
 | _=>none
noncomputable def runM (c p:Nat) (b:Fs) (n:Nat) (ss:List Sl):Option (T×List Sl):=(b (zaa n ss)).bind fun o=>match o with
 | .rtm t ε=>(zaq c p ε).map fun fs=>(t,fs)
 | .nx ε=>(zaq c p ε).map fun fs=>(.none,fs)
 | _=>none
end D
end
section
namespace D
open PySem PySem.Spec PyProof.Rows L2
section
variable [Tbl]
section
variable {K:y00} {F F' O:Addr->Prop} {H H':Hp} {E:En}
end
section
variable {K:y00} {F₀ F F1 O:Addr->Prop} {H H1:Hp} {E:En} {ε ε':Ev} {σ:L2.St} {c C i j:Nat} {ns:List Str}
end
end
section
variable [Tbl]
section
variable {K:y00} {F₀ F O:Addr->Prop} {H:Hp} {E:En} {ε:Ev} {σ:L2.St} {c C i j:Nat} {ns:List Str} {f:Str}
end
section
variable {X:Cx} {c C i j:Nat} {ns:List Str} {f:Str} {o e a:Expr} {g h:Fe} {pos apos:Pos}
end
end
section
variable [Tbl]
section
variable {X:Cx} {e:Expr} {es:List Expr} {as:List Ag} {f:Fe} {i:Nat}
end
section
variable {K:y00} {F F' F₀ O:Addr->Prop} {H H':Hp} {E E':En}
end
section
variable {P:y0q} {w:World} {K:y00} {mg:Str->Option Value} {base:Heap}
end
section
variable {X:Cx} {k n c C i:Nat} {ns:List Str} {d:List Sl->Option T} {x m:Str} {p pos apos:Pos} {o e:Expr} {es:List Expr} {as:List Ag} {fs:List Fe}
end
end
section
variable [Tbl]
section
variable {K:y00} {F F' F₀ O:Addr->Prop} {H H':Hp} {E:En} {P:List Addr} {a b:Addr} {o:HO} {ε:Ev} {σ:L2.St} {c i:Nat} {m:Md} {fs fs':List Sl}
end
section
variable {P:y0q} {w:World} {K:y00} {mg:Str->Option Value} {base:Heap}
end
section
variable {X:Cx} {k n c C i:Nat} {ns:List Str} {d:List Sl->Option (T×List Sl)} {x m:Str} {p pos apos:Pos} {o e:Expr} {es:List Expr} {fs gs:List Fe} {fx:Fx}
theorem zgh {st:Stmt}:PSt X st never:=fun pins s σ H D I ⟨F₀,E,O,F,ε,o,r,e,k⟩=>by cases e
end
end
section
variable [Tbl]
section
variable {P:y0q} {w:World} {K:y00} {mg:Str->Option Value} {base:Heap}
end
section
variable {X:Cx} {k n c C i j:Nat} {ns:List Str} {x m f:Str} {p pos apos:Pos} {o e:Expr} {es:List Expr} {fs:List Fe} {fo:Fo}
theorem zr8 {ct a b:Expr} {ft:Ft} {g h:Fe} (hc:PTt X ct ft) (ha:PEv X a g) (hb:PEv X b h):PEv X (.IfExp ct a b pos) (ifE ft g h):=z0v (zoe hc ha hb) fun σ H Q ⟨F₀,E,O,F,ε,t,r,e,k⟩=>by
 simp only[ifE,y01] at e
 obtain⟨v,ev,e⟩:=e
 refine⟨F₀,E,O,F,ε,v,r,ev,fun F1 H1 x1=>?_⟩
 cases v with
 | true=>exact iteT ⟨F₀,E,O,F1,ε,t,r.ext x1,by simpa using e,fun v F' H' x2 q=>k v F' H' (x1.trans x2) q⟩
 | false=>exact iteF ⟨F₀,E,O,F1,ε,t,r.ext x1,by simpa using e,fun v F' H' x2 q=>k v F' H' (x1.trans x2) q⟩
def z8p (xs:List Str):List T:=xs.map .str
theorem q_gT {xs:List Str} {a:Addr} (hm:X.mg x=some (.ref a)) (hk:∃(o:Obj) (its:Array Value) (n:Nat),X.K.lookup a=some o/\o.cls=.type "tuple"/\o.data=.seq its n/\its.size<=y0j/\Vals (xs.map V.str) its.toList) (hg:Gl X x:=by rfl) (hd:(x == ("__debug__":Str))=false:=by decide):PEv X (.Name x pos) (cst (.tuple (z8p xs))) :=
 zjf (v:=.ref a) (zlm (v:=.ref a) hg hm rfl hd) fun F H=>by
  simp only[Rep]
  refine⟨a,xs.map V.str,rfl,.inr hk,?_⟩
  unfold z8p
  clear hm hk hg hd
  induction xs with
  | nil=>exact RepL.nil
  | cons y ys ih=>exact RepL.cons (by simp[Rep]) ih
end
end
section
variable [Tbl]
open AutoSeq1 (wpAny_loadPart')
section
variable {X:Cx} {a e o:Expr} {f g:Fe} {p pos apos:Pos}
end
section
variable {X:Cx} {c C i j:Nat} {ns:List Str} {f:Str} {o e:Expr} {g:Fe} {pos apos:Pos}
end
end
section
variable [Tbl]
open AutoSeq1 (wpAny_loadPart')
section
variable {prog:y0q} {w:World} {A:Around} {E:Value->y04->Prop} {s:y04} {T:String} {r d:Addr} {n:Nat} {P:Nat->Value->Prop} {OK:Heap->Prop}
end
section
variable {X:Cx}
variable {c C i j:Nat} {ns:List Str} {f:Str} {o:Expr} {p pos apos bpos cpos:Pos}
end
end
section
variable [Tbl]
open AutoSeq1 (wpAny_loadPart')
def ZipR (h:Heap) (z TI TO:Addr) (f0 f1:Value):Prop:=h.get? z=some { cls:=.type "zip",dict:=none,data:=.fields #[f0,f1,.bool false,.ref TI,.ref TO],slots:=#[] }
section
variable {prog:y0q} {w:World} {A:Around} {E:Value->y04->Prop} {s:y04} {z TI TO i1 i2 l1 l2:Addr} {k n1 n2:Nat} {P1 P2:Nat->Value->Prop} {S1 S2:Nat->Heap->Prop} {a b f1:Value}
theorem znj {Q:Value->y04->Prop} (D:ZipApart z TI TO i1 i2 l1 l2) (D1:Draws prog w A i1 [i1,l1] n1 P1 S1) (D2:Draws prog w A i2 [i2,l2] n2 P2 S2) (hz:ZipR s.heap z TI TO .none f1) (hTI:IsPair s.heap TI (.ref i1) (.ref i2)) (hTO:IsPair s.heap TO a b)
  (s1:S1 k s.heap) (s2:S2 k s.heap) (h1:k<n1) (h2:k<n2)
  (hQ:∀h' x y tk,P1 k x->P2 k y->ZipR h' z TI TO (rawInt s.heap.objs.size) (.bool false)->IsPair h' TO x y->S1 (k+1) h'->S2 (k+1) h'->IsPair h' s.heap.objs.size x y->h'.objs.size=s.heap.objs.size+1 ->
   (∀c o,c≠z->c≠TO->c≠i1->c≠i2->s.heap.get? c=some o->h'.get? c=some o)->Q (.ref s.heap.objs.size) { s with heap:=h',toks:=tk }) :
  y0t (y2r prog w) A (Builtin.«zip.__next__» ⟨[.ref z],[]⟩) (fun fin s'=>∃v,fin=.done (.ret v)/\Q v s') E s:=by
 unfold ZipR at hz
 refine y02 (m:=field (.ref z) 2) (y2d hz rfl (x:=.bool false) rfl (y02 (m:=field (.ref z) 3) (y2d hz rfl (x:=.ref TI) rfl (y02 (y2f hTI rfl ?_)))))
 refine y02 (m:=y0z (.ref z)) ?_
 unfold y0z
 refine y02 (y2d hz rfl (x:=.none) rfl (y06 ?_))
 simp only[if_true]
 refine y02 (wpAny_rule (y02 (y2d hz rfl (x:=.ref TO) rfl (y02 (y2k hz (by simp) fun h₁ hz₁ e₁=>?_)))))
 replace hz₁:ZipR h₁ z TI TO .ellipsis f1:=hz₁
 refine y02 ?_
 simp only[List.zipIdx_cons,List.zipIdx_nil,List.forIn_cons,List.forIn_nil]
 have st1:S1 k h₁:=D1.frame k _ _ s1 fun c hc o e=>by
  rcases y09.mp hc with rfl|hc
  ·exact e₁.extBut _ _ D.i1z e
  ·rw[y0y.mp hc] at e ⊢
   exact e₁.extBut _ _ D.l1z e
 refine y02 (y02 (wpAny_onRaise (y02 (m:=y0s (.ref i1)) (D1.item k _ _ _ h1 st1 fun x h₂ tk px t1 e₂=>y06 ?_))))
 have hTO₂:IsPair h₂ TO a b:=e₂.extBut _ _ D.TOi1 (e₁.extBut _ _ D.TOz hTO)
 refine y02 (y2f hTO₂ rfl (y02 (wpAny_updateSeq_pair hTO₂ fun h₃ hTO₃ e₃=>?_)))
 replace hTO₃:IsPair h₃ TO x b:=hTO₃
 refine y02 (wpAny_letGo (y06 ?_))
 have st2:S2 k h₃:=D2.frame k _ _ s2 fun c hc o e=>by
  rcases y09.mp hc with rfl|hc
  ·exact e₃.extBut _ _ D.TOi2.symm (e₂.extBut _ _ D.i12.symm (e₁.extBut _ _ D.i2z e))
  ·rw[y0y.mp hc] at e ⊢
   exact e₃.extBut _ _ D.l2TO (e₂.extBut _ _ D.l2i1 (e₁.extBut _ _ D.l2z e))
 refine y02 (y02 (wpAny_onRaise (y02 (m:=y0s (.ref i2)) (D2.item k _ _ _ h2 st2 fun y h₄ tk2 py t2 e₄=>y06 ?_))))
 have hTO₄:IsPair h₄ TO x b:=e₄.extBut _ _ D.TOi2 hTO₃
 refine y02 (y2f hTO₄ rfl (y02 (wpAny_updateSeq_pair hTO₄ fun h₅ hTO₅ e₅=>?_)))
 replace hTO₅:IsPair h₅ TO x y:=hTO₅
 refine y02 (wpAny_letGo (y06 (y06 (y02 (y2f hTO₅ rfl (y02 (wpAny_newTuple ?_)))))))
 have sz5:h₅.objs.size=s.heap.objs.size:=by rw[e₅.1,e₄.1,e₃.1,e₂.1,e₁.1]
 have hz₅:ZipR h₅ z TI TO .ellipsis f1:=e₅.extBut _ _ D.TOz.symm (e₄.extBut _ _ D.i2z.symm (e₃.extBut _ _ D.TOz.symm (e₂.extBut _ _ D.i1z.symm hz₁)))
 have kp5:∀c o,c≠z->c≠TO->c≠i1->c≠i2->s.heap.get? c=some o->h₅.get? c=some o:=fun c o c1 c2 c3 c4 e=>e₅.extBut _ _ c2 (e₄.extBut _ _ c4 (e₃.extBut _ _ c2 (e₂.extBut _ _ c3 (e₁.extBut _ _ c1 e))))
 have u1:S1 (k+1) h₅:=D1.frame _ _ _ t1 fun c hc o e=>by
  rcases y09.mp hc with rfl|hc
  ·exact e₅.extBut _ _ D.TOi1.symm (e₄.extBut _ _ D.i12 (e₃.extBut _ _ D.TOi1.symm e))
  ·rw[y0y.mp hc] at e ⊢
   exact e₅.extBut _ _ D.l1TO (e₄.extBut _ _ D.l1i2 (e₃.extBut _ _ D.l1TO e))
 have u2:S2 (k+1) h₅:=D2.frame _ _ _ t2 fun c hc o e=>by
  rcases y09.mp hc with rfl|hc
  ·exact e₅.extBut _ _ D.TOi2.symm e
  ·rw[y0y.mp hc] at e ⊢
   exact e₅.extBut _ _ D.l2TO e
 have zlt:z<h₅.objs.size:=y0c hz₅
 refine y02 (m:=Builtin.SmallTypes.ownedTupleHandOut (.ref z) (.ref h₅.objs.size)) ?_
 unfold Builtin.SmallTypes.ownedTupleHandOut
 have hz₆:ZipR (h₅.push { cls:=.type "tuple",data:=.seq #[x,y] }) z TI TO .ellipsis f1:=y03 _ hz₅
 refine y02 (y2k hz₆ (by simp) fun h₇ hz₇ e₇=>?_)
 replace hz₇:ZipR h₇ z TI TO (rawInt h₅.objs.size) f1:=hz₇
 refine y2k hz₇ (by simp) fun h₈ hz₈ e₈=>?_
 replace hz₈:ZipR h₈ z TI TO (rawInt h₅.objs.size) (.bool false):=hz₈
 have up:∀c o,c≠z->h₅.get? c=some o->h₈.get? c=some o:=fun c o c1 e=>e₈.extBut _ _ c1 (e₇.extBut _ _ c1 (y03 _ e))
 have hT:IsPair h₈ h₅.objs.size x y:=e₈.extBut _ _ (y15 zlt) (e₇.extBut _ _ (y15 zlt) (y0l _ rfl))
 have sz8:h₈.objs.size=h₅.objs.size+1:=by rw[e₈.1,e₇.1,y16]
 rw[sz5] at hz₈ hT sz8
 refine y06 ⟨_,rfl,?_⟩
 show Q (.ref h₅.objs.size) _
 rw[sz5]
 refine hQ h₈ x y _ px py hz₈ (up _ _ D.TOz hTO₅) (D1.frame _ _ _ u1 fun c hc o e=>?_) (D2.frame _ _ _ u2 fun c hc o e=>?_) hT sz8 fun c o c1 c2 c3 c4 e=>up c o c1 (kp5 c o c1 c2 c3 c4 e)
 ·refine up c o ?_ e
  rcases y09.mp hc with rfl|hc
  ·exact D.i1z
  ·rw[y0y.mp hc]
   exact D.l1z
 ·refine up c o ?_ e
  rcases y09.mp hc with rfl|hc
  ·exact D.i2z
  ·rw[y0y.mp hc]
   exact D.l2z
theorem zni {Q:Fin->y04->Prop} (D:ZipApart z TI TO i1 i2 l1 l2) (D1:Draws prog w A i1 [i1,l1] n1 P1 S1) (D2:Draws prog w A i2 [i2,l2] n2 P2 S2) (hz:ZipR s.heap z TI TO .none f1) (hTI:IsPair s.heap TI (.ref i1) (.ref i2)) (hTO:IsPair s.heap TO a b)
  (s1:S1 k s.heap) (s2:S2 k s.heap) (hk:k=n1\/(k<n1/\k=n2))
  (hE:∀h' e tk,(∀c o,c≠z->c≠TO->c≠i1->c≠i2->s.heap.get? c=some o->h'.get? c=some o)->(∃o,h'.get? e=some o/\o.cls=.type "StopIteration")->E (.ref e) { s with heap:=h',toks:=tk }) :
  y0t (y2r prog w) A (Builtin.«zip.__next__» ⟨[.ref z],[]⟩) Q E s:=by
 unfold ZipR at hz
 refine y02 (m:=field (.ref z) 2) (y2d hz rfl (x:=.bool false) rfl (y02 (m:=field (.ref z) 3) (y2d hz rfl (x:=.ref TI) rfl (y02 (y2f hTI rfl ?_)))))
 refine y02 (m:=y0z (.ref z)) ?_
 unfold y0z
 refine y02 (y2d hz rfl (x:=.none) rfl (y06 ?_))
 simp only[if_true]
 refine y02 (wpAny_rule (y02 (y2d hz rfl (x:=.ref TO) rfl (y02 (y2k hz (by simp) fun h₁ hz₁ e₁=>?_)))))
 replace hz₁:ZipR h₁ z TI TO .ellipsis f1:=hz₁
 refine y02 ?_
 simp only[List.zipIdx_cons,List.zipIdx_nil,List.forIn_cons,List.forIn_nil]
 have st1:S1 k h₁:=D1.frame k _ _ s1 fun c hc o e=>by
  rcases y09.mp hc with rfl|hc
  ·exact e₁.extBut _ _ D.i1z e
  ·rw[y0y.mp hc] at e ⊢
   exact e₁.extBut _ _ D.l1z e
 rcases hk with rfl|⟨h1,rfl⟩
 ·refine y02 (y02 (wpAny_onRaise (y02 (m:=y0s (.ref i1)) (D1.done _ _ _ st1 fun h₂ e e₂ he=>?_))))
  obtain⟨oe,hoe,hce⟩:=he
  have hz₂:ZipR h₂ z TI TO .ellipsis f1:=e₂ _ _ D.i1z.symm hz₁
  have ne:e≠z:=fun q=>by
   subst q
   unfold ZipR at hz₂
   rw[hz₂] at hoe
   cases hoe
   simp at hce
  exact y2k hz₂ (by simp) fun h₃ _ e₃=>hE h₃ e _ (fun c o c1 _ c3 _ q=>e₃.extBut _ _ c1 (e₂ _ _ c3 (e₁.extBut _ _ c1 q))) ⟨oe,e₃.extBut _ _ ne hoe,hce⟩
 ·refine y02 (y02 (wpAny_onRaise (y02 (m:=y0s (.ref i1)) (D1.item k _ _ _ h1 st1 fun x h₂ tk px t1 e₂=>y06 ?_))))
  have hTO₂:IsPair h₂ TO a b:=e₂.extBut _ _ D.TOi1 (e₁.extBut _ _ D.TOz hTO)
  refine y02 (y2f hTO₂ rfl (y02 (wpAny_updateSeq_pair hTO₂ fun h₃ hTO₃ e₃=>?_)))
  refine y02 (wpAny_letGo (y06 ?_))
  have st2:S2 k h₃:=D2.frame k _ _ s2 fun c hc o e=>by
   rcases y09.mp hc with rfl|hc
   ·exact e₃.extBut _ _ D.TOi2.symm (e₂.extBut _ _ D.i12.symm (e₁.extBut _ _ D.i2z e))
   ·rw[y0y.mp hc] at e ⊢
    exact e₃.extBut _ _ D.l2TO (e₂.extBut _ _ D.l2i1 (e₁.extBut _ _ D.l2z e))
  refine y02 (y02 (wpAny_onRaise (y02 (m:=y0s (.ref i2)) (D2.done _ _ _ st2 fun h₄ e e₄ he=>?_))))
  obtain⟨oe,hoe,hce⟩:=he
  have hz₄:ZipR h₄ z TI TO .ellipsis f1:=e₄ _ _ D.i2z.symm (e₃.extBut _ _ D.TOz.symm (e₂.extBut _ _ D.i1z.symm hz₁))
  have ne:e≠z:=fun q=>by
   subst q
   unfold ZipR at hz₄
   rw[hz₄] at hoe
   cases hoe
   simp at hce
  exact y2k hz₄ (by simp) fun h₅ _ e₅=>hE h₅ e _ (fun c o c1 c2 c3 c4 q=>e₅.extBut _ _ c1 (e₄ _ _ c4 (e₃.extBut _ _ c2 (e₂.extBut _ _ c3 (e₁.extBut _ _ c1 q))))) ⟨oe,e₅.extBut _ _ ne hoe,hce⟩
end
end
section
variable [Tbl]
open AutoSeq1 (wpAny_loadPart')
def itN (b:Bool):String:=if b then "list_iterator" else "tuple_iterator"
def itK (b:Bool) (h:Heap) (it l:Addr) (i:Nat):Prop:=match b with
 | true=>h.IsListIter it l i
 | false=>h.IsTupleIter it l i
def sqK (b:Bool) (h:Heap) (l:Addr) (xs:Array Value):Prop:=match b with
 | true=>h.IsList l xs
 | false=>h.IsTuple l xs
theorem itK.at {b:Bool} {h h':Heap} {it l:Addr} {i:Nat} (x:itK b h it l i) (k:∀o,h.get? it=some o->h'.get? it=some o):itK b h' it l i:=by
 cases b with
 | true=>exact Heap.IsListIter.at x k
 | false =>
  obtain⟨o,ho,r⟩:=x
  exact⟨o,k o ho,r⟩
theorem itK.obj {b:Bool} {h:Heap} {it l:Addr} {i:Nat} (x:itK b h it l i):∃o,h.get? it=some o/\∀v,o.data≠.cell v:=by
 cases b with
 | true =>
  obtain⟨o,ho,hc,hd⟩:=x
  exact⟨o,ho,fun v z=>by rw[hd] at z;cases z⟩
 | false =>
  obtain⟨o,ho,hc,hd⟩:=x
  exact⟨o,ho,fun v z=>by rw[hd] at z;cases z⟩
theorem sqK.at {b:Bool} {h h':Heap} {l:Addr} {xs:Array Value} (x:sqK b h l xs) (k:∀o,h.get? l=some o->h'.get? l=some o):sqK b h' l xs:=by
 cases b with
 | true =>
  obtain⟨o,ho,r⟩:=x
  exact⟨o,k o ho,r⟩
 | false =>
  obtain⟨o,ho,r⟩:=x
  exact⟨o,k o ho,r⟩
theorem sqK.lt {b:Bool} {h:Heap} {l:Addr} {xs:Array Value} (x:sqK b h l xs):l<h.objs.size:=by
 cases b with
 | true =>
  obtain⟨o,ho,r⟩:=x
  exact y0c ho
 | false =>
  obtain⟨o,ho,r⟩:=x
  exact y0c ho
theorem zdc {prog:y0q} {w:World} {A:Around} (b:Bool) (hh:A.handled=none) (it l:Addr) (hne:l≠it) (xs:Array Value) :
  Draws prog w A it [it,l] xs.size (fun i v=>xs[i]?=some v) (fun i h=>itK b h it l i/\sqK b h l xs):=by
 cases b with
 | true=>exact Draws.list hh it l hne xs
 | false=>exact zb1 hh it l hne xs
abbrev zmc (b:Bool) (l:Addr):Obj:={ cls:=.type (itN b),data:=.fields #[.ref l,.int 0 0] }
abbrev zip3 (b1 b2:Bool) (h:Heap) (l1 l2:Addr):Heap:=((h.push (zmc b1 l1)).push (zmc b2 l2)).push { cls:=.type "tuple",data:=.seq #[.ref h.objs.size,.ref (h.objs.size+1)] }
abbrev zip4 (b1 b2:Bool) (h:Heap) (l1 l2:Addr):Heap:=(zip3 b1 b2 h l1 l2).push { cls:=.type "tuple",data:=.seq #[.none,.none] }
abbrev zip5 (b1 b2:Bool) (h:Heap) (l1 l2:Addr):Heap:=(zip4 b1 b2 h l1 l2).push { cls:=.type "zip",data:=.fields #[.none,.bool false,.bool false,.ref (h.objs.size+2),.ref (h.objs.size+3)] }
section
variable {prog:y0q} {w:World} {A:Around} {E:Value->y04->Prop} {s:y04}
theorem zqb {b:Bool} {l:Addr} {xs:Array Value} {Q:Value->y04->Prop} (hl:sqK b s.heap l xs) (h:Q (.ref s.heap.objs.size) { s with heap:=s.heap.push (zmc b l) }):y0t (y2r prog w) A (pyIter (.ref l)) Q E s:=by
 cases b with
 | true=>exact wpAny_pyIter_list hl h
 | false=>exact y2g hl h
theorem zjy (b1 b2:Bool) (l1 l2:Addr) (xs ys:Array Value) :
  Meets (Builtin.«zip.__new__» ⟨[.type "zip",.ref l1,.ref l2],[]⟩) (fun _ R s=>sqK b1 s.heap l1 xs/\sqK b2 s.heap l2 ys /\
   R (.ok (.ret (.ref (s.heap.objs.size+4)))) { s with heap:=zip5 b1 b2 s.heap l1 l2 }) :=
 .of_wp fun prog w A R s h=>by
  obtain⟨hp,g,d,tk,os⟩:=s
  obtain⟨h1,h2,h⟩:=h
  have hsub:=sub_zip
  have h1':sqK b1 (Shared.heap ⟨hp,g,d,tk,os⟩) l1 xs:=h1
  have h2':sqK b2 (Shared.heap ⟨hp.push (zmc b1 l1),g,d,tk,os⟩) l2 ys:=h2.at fun o e=>y03 _ e
  wp_walk using zqb h1',zqb h2'
  refine⟨_,rfl,?_⟩
  simp only[y16] at h ⊢
  exact h
theorem zmx {b1 b2:Bool} {l1 l2:Addr} {xs ys:Array Value} {Q:Value->y04->Prop} (h1:sqK b1 s.heap l1 xs) (h2:sqK b2 s.heap l2 ys)
  (h:∀h',ZipR h' (s.heap.objs.size+4) (s.heap.objs.size+2) (s.heap.objs.size+3) .none (.bool false)->IsPair h' (s.heap.objs.size+2) (.ref s.heap.objs.size) (.ref (s.heap.objs.size+1))->IsPair h' (s.heap.objs.size+3) .none .none ->
   itK b1 h' s.heap.objs.size l1 0->itK b2 h' (s.heap.objs.size+1) l2 0->h'.objs.size=s.heap.objs.size+5->(∀c o,s.heap.get? c=some o->h'.get? c=some o)->Q (.ref (s.heap.objs.size+4)) { s with heap:=h' }) :
  y0t (y2r prog w) A (call (.type "zip") [.ref l1,.ref l2]) Q E s:=by
 have hi:∀(b:Bool) (h':Heap) (it l:Addr),h'.get? it=some (zmc b l)->itK b h' it l 0:=fun b h' it l e=>by
  cases b with
  | true=>exact⟨_,e,rfl,rfl⟩
  | false=>exact⟨_,e,rfl,rfl⟩
 refine callType_new F.called_zip (by decide) (F.typeCall_zip_2 _ _) (F.newCall_zip_2 _ _) (fun obj=>F.args_object_init_3 obj _ _) F.entry_zip_new (zjy b1 b2 l1 l2 xs ys) ⟨h1,h2,?_⟩
 have at_:∀(hh:Heap) (n:Nat) (o o':Obj),hh.objs.size=n->o.isFreed=false->(hh.push o).get? n=some o:=fun hh n o o' e f=>by
  rw[<- e]
  exact y0l _ f
 have g5:(zip5 b1 b2 s.heap l1 l2).get? (s.heap.objs.size+4)=some _:=at_ (zip4 b1 b2 s.heap l1 l2) (s.heap.objs.size+4) _ default (by simp only[y16]) rfl
 refine⟨⟨_,g5,rfl⟩,h _ g5 ?_ ?_ ?_ ?_ (by simp only[y16]) fun c o e=>y03 _ (y03 _ (y03 _ (y03 _ (y03 _ e))))⟩
 ·exact y03 _ (y03 _ (at_ _ _ _ default (by simp only[y16]) rfl))
 ·exact y03 _ (at_ _ _ _ default (by simp only[y16]) rfl)
 ·exact hi b1 _ _ _ (y03 _ (y03 _ (y03 _ (y03 _ (y0l _ rfl)))))
 ·exact hi b2 _ _ _ (y03 _ (y03 _ (y03 _ (at_ _ _ _ default (by simp only[y16]) rfl))))
end
end
section
variable [Tbl]
section
variable {prog:y0q} {w:World} {K:Type} [DecidableEq K] {knd:PySem.KeyKind prog w K} {A:Around} {E:Value->y04->Prop} {s:y04} {R:Result->y04->Prop} {z TI TO i1 i2 l1 l2:Addr} {b1 b2:Bool} {xs ys:Array Value}
end
end
section
variable [Tbl]
theorem zg8 {n l1 l2:Nat} (h1:l1<n) (h2:l2<n):ZipApart (n+4) (n+2) (n+3) n (n+1) l1 l2:=by constructor <;> (show (_:Nat)≠_) <;> omega
section
variable {X:Cx} {a b:Expr} {f g:Fe} {p p2 pos pos2:Pos}
variable {c C i j:Nat} {ns:List Str} {fn:Str} {o:Expr} {apos:Pos}
end
end
section
variable [Tbl]
open AutoSeq1 (wpAny_loadPart')
noncomputable def oRep:T->T->Option T
 | .tuple xs,.int k=>if 2<=k/\k<1000/\xs≠[]/\xs.length*k.toNat<=big then some (.tuple (y0g k.toNat xs).flatten) else none
 | .list xs,.int k=>if 0<=k/\k<1000/\xs.length*k.toNat<=big then some (.list (y0g k.toNat xs).flatten) else none
 | _,_=>none
theorem z8x:fillsNumberSlot (.type "tuple") "mul"=pure false :=
 PySem.fillsNumberSlot_seq (id:="tuple.__mul__") (r:=some (.builtin "tuple.__rmul__")) F.slot_tuple_mul.lookup (by decide +kernel) F.slot_tuple_rmul.lookup (by decide +kernel)
theorem zcx:seqRepeat? (.type "tuple")=pure (some (.builtin "tuple.__mul__")):=by
 unfold seqRepeat?
 rw[PySem.seqSlot_of (T:="tuple") (name:="__mul__") (id:="tuple.__mul__") F.slot_tuple_mul.lookup (by decide +kernel),PySem.seqSlot_of (T:="tuple") (name:="__rmul__") (id:="tuple.__rmul__") F.slot_tuple_rmul.lookup (by decide +kernel)]
 rfl
theorem zgl (a:Int) (t:Tok) (l:Addr) (its:Array Value) (n:Nat) (dd:Option Addr) (sl:Array (Option Value)):Meets (Builtin.«int.__rmul__» ⟨[.int a t,.ref l],[]⟩) (fun _ R s=>s.heap.get? l=some { cls:=.type "tuple",dict:=dd,data:=.seq its n,slots:=sl }/\R (.ok (.ret Value.notImplemented)) s) :=
 .of_wp fun prog w A R s h=>by
  obtain⟨hp,g,d,tk,os⟩:=s
  obtain⟨hl,h⟩:=h
  wp_walk
  exact⟨_,rfl,h⟩
theorem zjw (l:Addr) (its:Array Value) (n:Nat) (dd:Option Addr) (sl:Array (Option Value)) (k:Int) (t:Tok) (h1:2<=k) (h2:k<1000) (hne:its.isEmpty=false) (hz:its.size*k.toNat<=y0j) :
  Meets (Builtin.«tuple.__mul__» ⟨[.ref l,.int k t],[]⟩) (fun _ R s=>s.heap.get? l=some { cls:=.type "tuple",dict:=dd,data:=.seq its n,slots:=sl } /\
   R (.ok (.ret (.ref s.heap.objs.size))) { s with heap:=s.heap.push { cls:=.type "tuple",data:=.seq ((y0g k.toNat its).foldl (·++·) #[]) } }) :=
 .of_wp fun prog w A R s h=>by
  obtain⟨hp,g,d,tk,os⟩:=s
  obtain⟨hl,h⟩:=h
  have c1:¬(decide (k < -(2 ^ 63)) || decide (k >= 2 ^ 63))=true:=by simp;omega
  have c2:¬(its.isEmpty || k == 1)=true:=by simp[hne];omega
  have c3:¬(decide (k<=0) || its.isEmpty)=true:=by simp[hne];omega
  wp_walk using wpAny_loadPart' hl
  have hzk:(its.size:Int)*k=((its.size*k.toNat:Nat):Int):=by
   have:(k.toNat:Int)=k:=Int.toNat_of_nonneg (by omega)
   rw[<- this]
   push_cast
   simp
  have c4:¬((its.size:Int)*k > (2 ^ 63 - 1) / 8):=by
   rw[hzk]
   rw[sizeLine_eq] at hz
   omega
  have c5:¬Builtin.Tuple.tupleTooMany ((its.size:Int)*k)=true:=by
   unfold Builtin.Tuple.tupleTooMany
   rw[hzk,decide_eq_true_iff]
   omega
  rw[if_neg c1]
  wp_walk using wpAny_loadPart' hl
  rw[if_neg c2,if_neg c3,if_neg c4,if_neg c5]
  unfold y12
  refine y02 (y2i (y06 ⟨_,rfl,h⟩) ?_)
  have e:=foldl_rep its.toList k.toNat []
  rw[List.nil_append] at e
  show (List.foldl _ #[] (y0g k.toNat its)).size<=y0j
  have e':List.foldl (fun x1 x2=>x1++x2) #[] (y0g k.toNat its)=(y0g k.toNat its.toList).flatten.toArray:=by simpa using e
  rw[e',y0h,len_rep,y1u,Nat.mul_comm]
  exact hz
section
variable {X:Cx} {a b:Expr} {f g:Fe} {pos:Pos}
theorem zrp:OpR X (y2p .Mult) (fun x y H Q=>∃a k xs,x=.ref a/\y=.int k/\SqT X.K H a xs/\xs≠[]/\2<=k/\k<1000/\xs.length*k.toNat<=y0j/\∀p,H p=none->Q (.ref p) (upd H p (.tup (y0g k.toNat xs).flatten))):=by
 intro pins s σ H x y v u Q I rx ry h
 obtain⟨l,k,xs,rfl,rfl,hH,hne,h1,h2,hz,q⟩:=h
 cases rx
 obtain⟨t,rfl⟩:=ry
 obtain⟨its,r,pl,_⟩:=I.tuple hH
 have hl:=r.length
 obtain⟨⟨cls,dd,data,sl⟩,ho,hc,n,hd⟩:=id pl
 simp only at hc hd
 subst hc hd
 have hem:its.toArray.isEmpty=false:=by
  cases its with
  | nil =>
   cases xs with
   | nil=>exact absurd rfl hne
   | cons x xs=>simp at hl
  | cons=>rfl
 refine wpAny_binaryOp_repeat_ref (T:="tuple") (U:="int") (by decide) ⟨_,ho,rfl⟩ (fun s'=>typeIs_int s' k t) z8x F.fills_int_mul F.slot_int_rmul zcx F.slot_int_index.lookup
  (y2o F.slot_int_rmul (typeIs_int s k t) F.entry_int_rmul (F.args_int_rmul_2 _ _) (zgl k t l its.toArray n dd sl)
   ⟨ho,rfl,⟨_,ho,rfl⟩,y2o F.slot_tuple_mul ⟨_,ho,rfl⟩ F.entry_tuple_mul (F.args_tuple_mul_2 _ _) (zjw l its.toArray n dd sl k t h1 h2 hem (by rw[y0h,<- hl];exact hz)) ⟨ho,?_⟩⟩)
 have e:List.foldl (fun x1 x2=>x1++x2) #[] (y0g k.toNat its.toArray)=(y0g k.toNat its).flatten.toArray:=by simpa using foldl_rep its k.toNat []
 have hz2:(y0g k.toNat xs).flatten.length<=y0j:=by rw[len_rep,Nat.mul_comm];exact hz
 refine⟨.ref s.heap.objs.size,upd H s.heap.objs.size (.tup (y0g k.toNat xs).flatten),I.laid (t':=s.toks) (fun b u e=>y03 _ e) (y0o _) ⟨hz2,_,r.rep k.toNat,⟨_,y0l _ rfl,rfl,0,?_⟩⟩,rfl,q _ I.fresh⟩
 exact congrArg (fun z=>Data.seq z 0) e
theorem zrq:OpR X (y2p .Mult) (fun x y H Q=>∃l k xs,x=.ref l/\y=.int k/\Rd H l (.lst xs)/\0<=k/\k<1000/\xs.length*k.toNat<=y0j/\∀p,H p=none->Q (.ref p) (upd H p (.lst (y0g k.toNat xs).flatten))):=by
 intro pins s σ H x y v u Q I rx ry h
 obtain⟨l,k,xs,rfl,rfl,hH,h1,h2,hz,q⟩:=h
 cases rx
 obtain⟨t,rfl⟩:=ry
 obtain⟨z,its,n,r,hl,e⟩:=Inv.lstR I hH
 have hlen:its.toArray.size*k.toNat<=y0j:=by rw[y0h,<- hl];exact hz
 have hcap:¬its.toArray.size*k.toNat > (2 ^ 63 - 1) / 8:=by
  have:(y0j:Nat)<=(2 ^ 63 - 1) / 8:=by decide
  omega
 have hfit:¬(!Builtin.List.listFitsIndex k)=true:=by rw[fitsIndex_both (by omega) (by omega)];exact y1y
 have hlong:¬Builtin.List.listTooLong (its.toArray.size*k.toNat)=true:=by rw[zop hlen];exact y1y
 have f0:∀m:Nat,List.foldl (fun x1 x2=>x1++x2) #[] (y0g m its.toArray)=(y0g m its).flatten.toArray:=fun m=>by simpa using foldl_rep its m []
 have hnew:List.foldl (fun x1 x2=>x1++x2) #[] (y0g (if its.toArray.isEmpty=true then 0 else k.toNat) its.toArray)=(y0g k.toNat its).flatten.toArray:=by
  rw[f0]
  cases its with
  | nil=>simp
  | cons a r'=>rw[if_neg (by simp)]
 refine wpAny_binaryOp_repeat_ref (T:="list") (U:="int") (by decide) ⟨_,e,rfl⟩ (fun s'=>typeIs_int s' k t) noFill_list_mul F.fills_int_mul F.slot_int_rmul repeat_list F.slot_int_index.lookup
  (y2o F.slot_int_rmul (typeIs_int s k t) F.entry_int_rmul (F.args_int_rmul_2 _ _) (int___rmul___int_list k t l its.toArray n) ⟨e,rfl,⟨_,e,rfl⟩,y2o F.slot_list_mul ⟨_,e,rfl⟩ F.entry_list_mul (F.args_list_mul_2 _ _) (AutoListH.list___mul___list_int_3 l its.toArray n k t hfit hcap hlong) ⟨e,?_⟩⟩)
 rw[hnew]
 exact⟨.ref _,_,I.lnew (t':=s.toks) (r.rep k.toNat) (by rw[len_rep,Nat.mul_comm];exact hz),rfl,q _ I.fresh⟩
theorem RepL.rep {K:y00} {F:Addr->Prop} {H:Hp} {ts:List T} {vs:List V} (h:RepL K F H ts vs):∀k:Nat,RepL K F H (y0g k ts).flatten (y0g k vs).flatten
 | 0=>RepL.nil
 | k+1=>by
  rw[y1o,y1o,y22,y22]
  exact h.append (RepL.rep h k)
theorem zvv (ha:PEr X a f) (hb:PEr X b g):PEv X (.BinOp a .Mult b pos) (op2 oRep f g):=z0v (zd2 (zrp.or zrq) ha hb) (z4y (by
 intro O F H x y t vx vy Q d rx ry e k
 unfold oRep at e
 split at e
 next xs n =>
  split at e
  next hz =>
   cases e
   obtain⟨ax,vs,rfl,hs,hr⟩:=rx.tup
   rw[ry.int]
   refine .inl ⟨ax,_,vs,rfl,rfl,hs,fun z=>?_,hz.1,hz.2.1,by rw[z7n,<- hr.length];exact hz.2.2.2,fun p hp=>?_⟩
   ·subst z
    exact hz.2.2.1 (List.eq_nil_of_length_eq_zero (by rw[hr.length];rfl))
   ·have x1:=Ext.laid (o:=.tup (y0g n.toNat vs).flatten) d hp
    refine k _ F _ x1 ?_
    simp only[Rep]
    exact⟨p,_,rfl,SqT.of z0n,(hr.rep _).ext x1⟩
  next=>cases e
 next xs n =>
  split at e
  next hz =>
   cases e
   obtain⟨ax,vs,rfl,hs,hr⟩:=rx.lst
   rw[ry.int]
   refine .inr ⟨ax,_,vs,rfl,rfl,hs,hz.1,hz.2.1,by rw[z7n,<- hr.length];exact hz.2.2,fun p hp=>?_⟩
   have x1:=Ext.laidF (o:=.lst (y0g n.toNat vs).flatten) d hp
   refine k _ _ _ x1 ?_
   simp only[Rep]
   exact⟨p,_,rfl,.inr rfl,.inl z0n,(hr.rep _).ext x1⟩
  next=>cases e
 ·cases e))
end
end
section
variable [Tbl]
section
variable {X:Cx} {a b c:Expr} {f g h:Fe} {pos:Pos}
theorem zmw:∀σ H Q,tV X.K (chain oLe oLe f g h) σ H Q->zky (fun x y H Q=>rI0 (fun i j=>.bl (decide (i<=j))) x y H Q\/∃i j,x=.str i/\y=.str j/\Q (.bl (!strLt j i)) H) (fun x y H Q=>rI0 (fun i j=>.bl (decide (i<=j))) x y H Q\/∃i j,x=.str i/\y=.str j/\Q (.bl (!strLt j i)) H) (tR X.K f) (tR X.K g) (tR X.K h) σ H Q :=
 fun σ H Q ⟨F₀,H₀,O,F,ε,t,r,e,k⟩=>by
 simp only[chain,y01] at e
 obtain⟨x,ex,y,ey,z,ez,e⟩:=e
 refine⟨F₀,H₀,O,F,ε,x,r,ex,fun vx F1 H1 x1 rx=>⟨F₀,H₀,O,F1,ε,y,r.ext x1,ey,fun vy F2 H2 x2 ry=>?_⟩⟩
 refine zie (X:=X) O F2 H2 x y z vx vy _ x2.dom (rx.ext x2) ry ez fun v F3 H3 x3 q3=>?_
 split at e
 ·simp only[Rep] at q3
  subst q3
  simp only[y01] at e
  obtain⟨w,ew,ep⟩:=e
  refine⟨true,rfl,iteT ⟨F₀,H₀,O,F3,ε,w,((r.ext x1).ext x2).ext x3,ew,fun vw F4 H4 x4 rw'=>?_⟩⟩
  exact zie (X:=X) O F4 H4 y w t vy vw _ x4.dom ((ry.ext x3).ext x4) rw' ep fun v F5 H5 x5 q5=>k v F5 H5 ((((x1.trans x2).trans x3).trans x4).trans x5) q5
 ·simp only[Rep] at q3
  subst q3
  cases e
  exact⟨false,rfl,iteF (k _ F3 H3 ((x1.trans x2).trans x3) (by simp[Rep]))⟩
 ·cases e
theorem zt0 (ha:PEr X a f) (hb:PEr X b g) (hc:PEr X c h) (hm:lastMarks [.LtE,.LtE] [b,c]=false:=by with_unfolding_all rfl):PTt X (.Compare a [.LtE,.LtE] [b,c] pos) (tstB (chain oLe oLe f g h)) :=
 zbk (zo7 (zoh.or z8d) (zoh.or z8d) ha hb hc hm) (zvh zmw)
end
section
variable {X:Cx} {c C i j:Nat} {ns:List Str} {f:Str} {o:Expr} {pos apos:Pos}
end
end
section
abbrev t0:Tbl:=⟨[],fun _=>[],fun _=>none⟩
def z0e (ns:List Int):T:=.list (ns.map .int)
def noL (K:y00):Bool:=K.all fun p=>match p.2.cls with
 | .type t=>t != "list"
 | _=>true
theorem zap {α β:Type} [BEq α] [LawfulBEq α] {a:α} {b:β}:∀{l:List (α×β)},l.lookup a=some b->(a,b)∈l
  | [],h=>by cases h
  | (x,y)::l,h=>by
    rw[y1d] at h
    split at h
    next q =>
      cases h
      have:a=x:=by simpa using q
      subst this
      simp
    next=>exact y05 _ (zap h)
theorem zl4 {K:y00} {H:Hp} {a:Addr} {ns:List Int} {d:List T->Option T} (hL:noL K=true) (hd:d [z0e ns]=some (.bool true)) (hS:SqL K H a (ns.map V.int)):@spT t0 K 1 d [.ref a] H (fun v _=>v=.bl true) fun _ _ _=>False:=by
 letI:=t0
 rcases hS with hS|⟨o,its,n,hk,hc,_⟩
 ·refine⟨rfl,fun b=>b=a,[z0e ns],.bool true,⟨?_,fun p hp=>by cases hp⟩,RepL.cons ?_ RepL.nil,hd,fun v F' H' x r=>by simpa [Rep] using r⟩
  ·rintro b rfl
   rcases hS with q|⟨u,q⟩
   ·exact⟨_,q⟩
   ·exact⟨_,q⟩
  ·simp only[z0e,Rep]
   exact⟨a,_,rfl,rfl,hS,zed ns⟩
 ·have:=List.all_eq_true.mp hL _ (zap hk)
  simp[hc] at this
theorem zs9 {t:Tbl} (ht:t.tb=[]) {P:y0q} {w:World} {K:y00} {mg:Str->Option Value} {base:Heap} {k n:Nat} {f:Addr} {fd:y0b} {ps:List Str} {d:List T->Option T} (F:FnOk P w K mg base CX0 k f fd ps (@spT t K n d)):FnOk P w K mg base CX0 k f fd ps (@spT t0 K n d):=by
 have d1:∀{F:Addr->Prop} {H:Hp},@Dom t0 F H->@Dom t F H:=fun {F H} h=>@Dom.mk t F H (@Dom.dm t0 F H h) (fun p hp=>by rw[ht] at hp;cases hp)
 have d2:∀{F:Addr->Prop} {H:Hp},@Dom t F H->@Dom t0 F H:=fun {F H} h=>@Dom.mk t0 F H (@Dom.dm t F H h) (fun p hp=>by cases hp)
 refine F.imp fun vs H Q E h=>?_
 obtain⟨hl,F,ts,r,dom,q,e,kq⟩:=h
 exact⟨hl,F,ts,r,d1 dom,q,e,fun v F' H' x rv=>kq v F' H' (@Ext.mk t0 F H F' H' (@Ext.same t F H F' H' x) (@Ext.sub t F H F' H' x) (@Ext.new t F H F' H' x) (d2 (@Ext.dom t F H F' H' x))) rv⟩
end
section
section
variable [Tbl]
variable {X:Cx} {e:Expr} {es:List Expr} {fs:List Fe} {p pos:Pos}
end
end
section
variable [Tbl]
open AutoSeq1 (wpAny_loadPart')
section
variable {X:Cx} {a b:Expr} {f g:Fe} {pos:Pos}
end
end
section
variable [Tbl]
section
variable {X:Cx} {es:List Expr} {k:Nat} {p pos p2:Pos} {a b:Expr} {f g:Fe}
def zipT (ts us:List T):List T:=List.zipWith (fun x y=>.tuple [x,y]) ts us
end
end
section
section
variable [Tbl]
variable {X:Cx} {a b:Expr} {f g:Fe} {pos:Pos}
end
end
section
section
variable [Tbl]
variable {X:Cx} {e:Expr} {f:Fe} {pos:Pos}
end
end
section
variable [Tbl]
section
variable {X:Cx} {a b c:Expr} {f g h:Fe} {pos:Pos}
end
section
variable {X:Cx} {pos:Pos}
end
section
variable {X:Cx} {a:Expr} {f:Fe} {p px pos pos2:Pos}
end
end
section
section
variable {X:Cx} {pins:List (Addr×Obj)} {σ:L2.St} {H:Hp} {s:y04} {a:Addr} {d:V} {r:Value} {A:Around} {E:Value->y04->Prop}
end
section
variable {X:Cx} {o e f:Expr} {apos cpos:Pos} {td ty tx:TE}
end
variable [Tbl]
section
variable {X:Cx} {a b:Expr} {f g:Fe} {x:Str} {px apos cpos pos:Pos}
end
section
variable {X:Cx} {a b:Expr} {f g:Fe} {p p2 pos pos2:Pos}
variable {x:Str} {px dpos:Pos}
end
end
section
variable [Tbl]
open PySem.W (kas_ask kas_sort kat_run kat_snds kat_lt kat_kind KatTups KatLex KatGo kas_item KasT)
def hT (x:Str×List T):T:=.tuple (.str x.1::x.2)
section
variable {prog:y0q} {w:World} {A:Around} {s:y04}
end
section
variable {X:Cx}
variable {e:Expr} {es:List Expr} {fs:List Fe} {p pos:Pos}
end
section
variable {X:Cx} {o e:Expr} {f g:Fe} {apos cpos:Pos}
end
section
variable {X:Cx} {a b:Expr} {f g:Fe} {pos:Pos}
end
end
section
section
variable {prog:y0q} {w:World} {A:Around} {E:Value->y04->Prop} {s:y04} {ar:Array Keyed}
def Rz (ar:Array Keyed) (st st':SortSt):Prop:=arrOf st'=arrOf st/\failedOf st'=none/\pendingOf st'=#[(0,ar.size,0)]
end
variable [Tbl]
section
variable {X:Cx}
variable {e:Expr} {es:List Expr} {fs:List Fe} {p pos:Pos}
end
end
section
open AutoSeq1 (wpAny_loadPart')
section
variable {prog:y0q} {w:World} {A:Around} {E:Value->y04->Prop} {s:y04}
end
end
section
variable [Tbl]
section
variable {M:Model} {A:Around} {E:Value->y04->Prop} {s:y04} {env:Env}
end
section
variable {prog:y0q} {w:World} {A:Around} {E:Value->y04->Prop} {s:y04}
end
section
variable {X:Cx} {es:List Expr} {k kc:Nat} {p pos p2 pc pk:Pos} {a:Expr} {f:Fe}
end
section
variable {X:Cx} {e:Expr} {f:Fe} {pos:Pos}
end
end
section
variable [Tbl]
section
variable {X:Cx} {e:Expr} {f:Fe} {te:TE} {pos p p2 p3:Pos}
end
section
variable {X:Cx} {e st:Expr} {te:TE} {tl:TO} {f:Fe} {pos p2:Pos} {lo:Option Expr}
end
end
section
variable [Tbl]
section
variable {X:Cx} {k n c C i:Nat} {ns:List Str} {d:List Sl->Option (T×List Sl)} {x:Str} {p pos:Pos} {o e:Expr} {es:List Expr} {fs:List Fe} {f:Fe}
end
end
section
variable [Tbl]
end
section
variable [Tbl]
end
section
variable [Tbl]
end
section
variable [Tbl]
section
variable {P:y0q} {w:World} {K:y00} {mg:Str->Option Value} {base:Heap} {k:Nat} {q c':Addr} {N:List Str} {qual:Str} {scope:Scope} {cd:Value} {cl:List (Str×Addr)} {A:Around} {outer:List Env} {s:y04} {H:Hp} {σ:L2.St}
end
end
section
variable [Tbl]
end
section
variable [Tbl]
end
section

end
section
variable [Tbl]
abbrev Ftx:=Ev->Option (Bool×Ev)
section
variable {X:Cx} {a b e:Expr} {es:List Expr} {f g:Fx} {fe:Fe} {ft:Ft} {c d:Ftx} {pos:Pos}
end
end
section
variable [Tbl]
section
variable {X:Cx} {a b:Expr} {f g:Fo} {pos:Pos}
end
end
section
variable [Tbl]
end
section

end
end D
end
section
namespace D
open PySem PySem.Spec PySem.Calls PySem.W PyProof.Rows PySem.Builtin PySem.Builtin.ObjectAttr PySem.Builtin.Getset_descriptor
section
variable {prog:y0q} {w:World} {A:Around} {E:Value->y04->Prop} {s:y04} {K:Frag} {x C:Addr} {R:Result->y04->Prop}
end
end D
end
section
namespace D
open PySem PySem.Spec PyProof.Rows L2
section
section
variable {X:Cx} {pins:List (Addr×Obj)} {σ:L2.St} {H1 H':Hp} {s1 s2:y04} {C:Addr} {e:Value} {env:Env} {outer:List Env} {E:XK}
end
end
section
variable [Tbl]
abbrev Fz:=Ev->Bool
def seqZ (b:Fs) (r:Fz):Fz:=fun ε=>match b ε with
 | some (.nx ε')=>r ε'
 | _=>false
section
variable {X:Cx} {C:Addr} {e c:Expr} {st:Stmt} {rest els:List Stmt} {r r':Fz} {b:Fs} {ft:Ft} {pos:Pos}
end
section
variable {P:y0q} {w:World} {K:y00} {mg:Str->Option Value} {base:Heap}
end
section
variable {X:Cx} {k n c C CO i:Nat} {ns:List Str} {r:List Sl->Bool} {x m:Str} {p pos apos:Pos} {o e:Expr} {es:List Expr} {as:List Ag} {fs:List Fe}
end
end
section
section
variable {X:Cx} {pins:List (Addr×Obj)} {σ:L2.St} {H:Hp} {s:y04} {ea:Addr}
end
end
section

end
section
variable [Tbl]
section
variable {P:y0q} {w:World} {K:y00} {mg:Str->Option Value} {base:Heap} {k:Nat} {q c':Addr} {N:List Str} {qual:Str} {scope:Scope} {cl:List (Str×Addr)} {A:Around} {outer:List Env} {s:y04} {H:Hp} {σ:L2.St} {C:Addr}
end
end
section
variable [Tbl]
end
section
section
variable [Tbl] {X:Cx} {C CD cz cw cd ct:Addr} {j:Nat} {pos p p1:Pos}
end
end
section
variable [Tbl]
end
section
variable [Tbl]
end
section
variable [Tbl]
section
variable {P:y0q} {w:World} {K:y00} {mg:Str->Option Value} {base:Heap} {k:Nat} {q c':Addr} {N:List Str} {qual:Str} {scope:Scope} {cd:Value} {cl:List (Str×Addr)} {A:Around} {outer:List Env} {s:y04} {H:Hp} {σ:L2.St} {y:Str}
end
section
variable {M:Model} {A:Around} {E:Value->y04->Prop} {s:y04} {env:Env}
end
end
section
variable [Tbl]
mutual
noncomputable def gtD:T->T->Option Bool
 | .int a,.int b=>some (decide (b<a))
 | .tuple xs,.tuple ys=>lexG xs ys
 | _,_=>none
noncomputable def lexG:List T->List T->Option Bool
 | [],[]=>some false
 | [],_::_=>some false
 | _::_,[]=>some true
 | x::xs,y::ys=>if y1v x y then lexG xs ys else gtD x y
end
noncomputable def GtAt (A:Around) (s:y04) (y x:Value) (b:Bool):Prop :=
 ∀(prog:y0q) (w:World) (E:Value->y04->Prop) (Q:Value->y04->Prop),Q (.bool b) s->y0t (y2r prog w) A (richCompare .Gt y x) Q E s
inductive GoodG (A:Around) (s:y04) (fin:Bool):List (Value×Value)->Bool->Prop
 | nil:GoodG A s fin [] fin
 | eq {y x:Value} {r:List (Value×Value)} {b:Bool}:SeqAt.EqAt A s y x true->GoodG A s fin r b->GoodG A s fin ((y,x)::r) b
 | lt {y x:Value} {r:List (Value×Value)} {b:Bool}:SeqAt.EqAt A s y x false->GtAt A s y x b->GoodG A s fin ((y,x)::r) b
section
open PySem.SeqAt
open PySem.AutoSeq1 (wpAny_loadPart')
open PySem.MeetsSeq PySem.MeetsSeq2 PySem.MeetsSeq3
theorem zdy (l b:Addr) (items items2:Array Value) (n n2:Nat) (dd dd2:Option Addr) (sl sl2:Array (Option Value)) (z:Bool) :
  Meets (Builtin.«tuple.__gt__» ⟨[.ref l,.ref b],[]⟩)
   (fun A R s=>s.heap.get? l=some { cls:=.type "tuple",dict:=dd,data:=.seq items n,slots:=sl }/\s.heap.get? b=some { cls:=.type "tuple",dict:=dd2,data:=.seq items2 n2,slots:=sl2 } /\
    GoodG A.in1 s (decide (items2.size<items.size)) (items.toList.zip items2.toList) z/\R (.ok (.ret (.bool z))) s) :=
 .of_wp fun prog w A R s h=>by
  obtain⟨hp,g,d,tk,os⟩:=s;obtain⟨hl,hb,hg,h⟩:=h
  have f2:=AutoSeq1.sub_tuple_tuple
  wp_walk using wpAny_loadPart' hl,wpAny_loadPart' hb,wpAny_forIn_list _ (fun rest b s'=>b.1=none/\s'=⟨hp,g,d,tk,os⟩/\GoodG A.in1 ⟨hp,g,d,tk,os⟩ (decide (items2.size<items.size)) rest z) _
  case turn =>
   rintro⟨y,x⟩ rest b s' ⟨hb',rfl,hG⟩
   cases hG with
   | eq he hG =>
    refine y02 (he prog w _ _ ?_)
    wp_walk
    exact⟨rfl,rfl,hG⟩
   | lt he hlt =>
    refine y02 (he prog w _ _ ?_)
    have hri:=hlt prog w
    wp_walk using hri
    exact⟨_,rfl,h⟩
  case fin =>
   rintro⟨b1,b2⟩ s' ⟨hb',rfl,hG⟩
   simp only at hb'
   subst hb'
   cases hG
   wp_walk
   exact⟨_,rfl,by simpa [Builtin.Tuple.tupleCompareSizes] using h⟩
  case h =>
   exact⟨rfl,rfl,hg⟩
mutual
theorem zp6:∀(da db:T) (A:Around) (s:y04) (a b:Value) (as bs:List Addr) (r:Bool),Reads s.heap a da as->Reads s.heap b db bs->da.canLay0=true->db.canLay0=true->A.units+min da.depth db.depth<cLine->gtD da db=some r->GtAt A s a b r
 | .int i,.int j,A,s,_,_,_,_,r,.int _ t,.int _ u,_,_,_,e=>by
  unfold gtD at e
  cases e
  exact fun prog w E Q q=>(PyProof.Rows.gt_int q:y0t (y2r prog w) A (y2h .Gt (.int i t) (.int j u)) Q E s)
 | .tuple xs,.tuple ys,A,s,_,_,_,_,r,.tuple (a:=l) (o:=o) (vs:=vs) (n:=n) h1 h2 h3 h4,.tuple (a:=l') (o:=o') (vs:=vs') (n:=n') k1 k2 k3 k4,ha,hb,hu,e=>by
  unfold gtD at e
  simp only[PyData.canLay0] at ha hb
  simp only[y20] at hu
  have hG:=goodG_reads xs ys A.in1 s vs.toList vs'.toList _ _ r h4 k4 ha hb (room_in hu) e
  obtain⟨cls,dd,data,sl⟩:=o
  obtain⟨cls2,dd2,data2,sl2⟩:=o'
  simp only at h2 h3 k2 k3
  subst h2 h3 k2 k3
  rw[y1u,y1u] at hG
  exact fun prog w E Q q=>richCompare_meets_room (op:=.Gt) ⟨_,h1,rfl⟩ ⟨_,k1,rfl⟩ PySem.F.slot_tuple_gt PySem.F.entry_tuple_gt (PySem.F.args_tuple_gt_2 _ _) (zdy l l' vs vs' n n' dd dd2 sl sl2 r)
   ⟨h1,k1,hG,show Value.bool r≠Value.notImplemented/\Q (.bool r) s from ⟨(fun x=>nomatch x),q⟩⟩ (by omega)
 | .none,_,_,_,_,_,_,_,_,_,_,_,_,_,e=>by simp[gtD] at e
 | .bool _,_,_,_,_,_,_,_,_,_,_,_,_,_,e=>by simp[gtD] at e
 | .str _,_,_,_,_,_,_,_,_,_,_,_,_,_,e=>by simp[gtD] at e
 | .list _,_,_,_,_,_,_,_,_,_,_,_,_,_,e=>by simp[gtD] at e
 | .dict _,_,_,_,_,_,_,_,_,_,_,_,_,_,e=>by simp[gtD] at e
 | .int _,.none,_,_,_,_,_,_,_,_,_,_,_,_,e=>by simp[gtD] at e
 | .int _,.bool _,_,_,_,_,_,_,_,_,_,_,_,_,e=>by simp[gtD] at e
 | .int _,.str _,_,_,_,_,_,_,_,_,_,_,_,_,e=>by simp[gtD] at e
 | .int _,.list _,_,_,_,_,_,_,_,_,_,_,_,_,e=>by simp[gtD] at e
 | .int _,.dict _,_,_,_,_,_,_,_,_,_,_,_,_,e=>by simp[gtD] at e
 | .int _,.tuple _,_,_,_,_,_,_,_,_,_,_,_,_,e=>by simp[gtD] at e
 | .tuple _,.none,_,_,_,_,_,_,_,_,_,_,_,_,e=>by simp[gtD] at e
 | .tuple _,.bool _,_,_,_,_,_,_,_,_,_,_,_,_,e=>by simp[gtD] at e
 | .tuple _,.str _,_,_,_,_,_,_,_,_,_,_,_,_,e=>by simp[gtD] at e
 | .tuple _,.list _,_,_,_,_,_,_,_,_,_,_,_,_,e=>by simp[gtD] at e
 | .tuple _,.dict _,_,_,_,_,_,_,_,_,_,_,_,_,e=>by simp[gtD] at e
 | .tuple _,.int _,_,_,_,_,_,_,_,_,_,_,_,_,e=>by simp[gtD] at e
theorem goodG_reads:∀(xs ys:List T) (A:Around) (s:y04) (vs ws:List Value) (as bs:List Addr) (r:Bool),ReadsAll s.heap vs xs as->ReadsAll s.heap ws ys bs->y1e xs=true->y1e ys=true->A.units+min (y1c xs) (y1c ys)<cLine->lexG xs ys=some r->GoodG A s (decide (ws.length<vs.length)) (vs.zip ws) r
 | [],[],A,s,_,_,_,_,r,.nil,.nil,_,_,_,e=>by
  unfold lexG at e
  cases e
  exact .nil
 | [],_::_,A,s,_,_,_,_,r,.nil,.cons _ _,_,_,_,e=>by
  unfold lexG at e
  cases e
  exact GoodG.nil
 | _::_,[],A,s,_,_,_,_,r,.cons _ _,.nil,_,_,_,e=>by
  unfold lexG at e
  cases e
  exact GoodG.nil
 | x::xs,y::ys,A,s,_,_,_,_,r,.cons r1 r2,.cons q1 q2,ha,hb,hu,e=>by
  simp only[y1e,y19] at ha hb
  simp only[y1c] at hu
  unfold lexG at e
  have he:=eqAt_reads x y A s _ _ _ _ r1 q1 ha.1 hb.1 (room_head hu)
  split at e
  next h =>
   rw[h] at he
   have ih:=goodG_reads xs ys A s _ _ _ _ r r2 q2 ha.2 hb.2 (room_tail hu) e
   rw[y1w]
   simp only[y0v,Nat.add_lt_add_iff_right]
   exact .eq he ih
  next h =>
   rw[Bool.not_eq_true] at h
   rw[h] at he
   rw[y1w]
   exact .lt he (zp6 x y A s _ _ _ _ r r1 q1 ha.1 hb.1 (room_head hu) e)
end
end
end
section
variable [Tbl]
section
variable {X:Cx} {e:Expr} {fx:Fx} {pos:Pos}
end
end
section
variable [Tbl]
open PySem.SeqAt
open PySem.W (kas_ask kas_sort kat_run kat_snds kat_lt kat_kind KatTups KatLex KatGo kas_item KasT)
section
variable {prog:y0q} {w:World} {A:Around} {E:Value->y04->Prop} {s:y04}
end
section
variable {prog:y0q} {w:World} {A:Around} {s:y04}
end
section
variable {X:Cx}
variable {e:Expr} {es:List Expr} {fs:List Fe} {p pos:Pos}
end
end
section
variable [Tbl]
section
variable {X:Cx} {e b:Expr} {es:List Expr} {f g:Fe} {fs:List Fe} {pos:Pos}
end
section
variable {X:Cx} {e:Expr} {pos:Pos}
end
end
section
variable [Tbl]
section
variable {X:Cx} {iter elt:Expr} {scope:Scope} {it:Fi} {fx:Fx} {pos py:Pos} {y:Str} {N2:List Str}
end
section
variable {X:Cx} {k n c C:Nat} {ns:List Str} {d:List Sl->Option T} {x:Str} {p pos:Pos} {o:Expr} {fo:Fo}
end
end
end D
end
section
namespace D
open PySem
def isI (ct:String):T->Bool
 | .int _=>ct == "int"
 | .bool _=>ct == "int" || ct == "bool"
 | .str _=>ct == "str"
 | .tuple _=>ct == "tuple"
 | .list _=>ct == "list"
 | _=>false
def oIsI (ct:String):T->Option T
 | .dict _=>none
 | t=>some (.bool (isI ct t))
def zch (x:Str):Bool:=x.cps.toList.all fun c=>decide (c<128)
def chT (c:Nat):T:=.str ⟨#[c]⟩
def itA (f:Fe):Fi:=fun ε=>(f ε).bind fun t=>match t with
 | .tuple ts=>some ts
 | .list ts=>some ts
 | .str x=>if zch x then some (x.cps.toList.map chT) else none
 | _=>none
def oSlA (t:T) (lo hi:Option Int):Option T:=match t with
 | .str x=>if x.length<=big then some (.str ⟨(cutZ x.cps.toList lo hi).toArray⟩) else none
 | t=>oSl t lo hi
def z1i (f:Fe) (lo hi:Ev->Option (Option Int)):Fe:=fun ε=>(f ε).bind fun t=>(lo ε).bind fun l=>(hi ε).bind fun h=>oSlA t l h
def zc6:T->T->Option T
 | .str x,.str y=>if y.length=1/\x.length+2<=big then some (.list ((Txt.split x y).map .str)) else none
 | _,_=>none
noncomputable def z7r:T->T->Option T
 | .str x,.list ts=>(strsOf ts).bind fun ss=>if JoinOk x ss then some (.str (Txt.join x ss)) else none
 | .str x,.tuple ts=>(strsOf ts).bind fun ss=>if JoinOk x ss then some (.str (Txt.join x ss)) else none
 | _,_=>none
def zov (i:Int):Bool:=decide (i.natAbs.log2<1920)
def strI (i:Int):Str:=Str.ofString (toString i)
def oStr:List T->Option T
 | [.str x]=>some (.str x)
 | [.int i]=>if zov i then some (.str (strI i)) else none
 | _=>none
def oOrd:List T->Option T
 | [.str x]=>if x.length=1 then some (.int (x.cps.getD 0 0:Nat)) else none
 | _=>none
def zan:T->T->Option T
 | .str x,.int i=>if 0<=i/\i<=1000 then some (.str (Txt.zfill x i)) else none
 | _,_=>none
def z8e:T->T->Option T
 | .int i,.int j=>if i=10/\0<=j/\j<=1000 then some (.int (10 ^ j.toNat)) else none
 | _,_=>none
def zsd (j:Int):Bool:=decide (0<j) && decide (j.natAbs.log2<8000)
def zlu:T->T->Option T
 | .int i,.int j=>if zsd j then some (.int (i / j)) else none
 | _,_=>none
def bools:List T->Option (List Bool)
 | []=>some []
 | .bool b::ts=>(bools ts).map fun r=>b::r
 | _::_=>none
def z6q:List T->Option T
 | [.list xs]=>(bools xs).map fun bs=>.bool (bs.all id)
 | _=>none
end D
end
section
namespace D
open PySem PySem.Spec PyProof.Rows L2
section
variable [Tbl]
structure KI (ct:String):Prop where
 n:∀K:y00,y2t K (.type "NoneType") (.type ct)=some false
 b:∀(K:y00) (b:Bool),y2t K (.type "bool") (.type ct)=some (isI ct (.bool b))
 i:∀(K:y00) (i:Int),y2t K (.type "int") (.type ct)=some (isI ct (.int i))
 s:∀(K:y00) (i:Str),y2t K (.type "str") (.type ct)=some (isI ct (.str i))
 t:∀(K:y00) (i:List T),y2t K (.type "tuple") (.type ct)=some (isI ct (.tuple i))
 l:∀(K:y00) (i:List T),y2t K (.type "list") (.type ct)=some (isI ct (.list i))
theorem zuh:KI "int":=⟨fun _=>rfl,fun _ _=>rfl,fun _ _=>rfl,fun _ _=>rfl,fun _ _=>rfl,fun _ _=>rfl⟩
theorem zrz:KI "bool":=⟨fun _=>rfl,fun _ _=>rfl,fun _ _=>rfl,fun _ _=>rfl,fun _ _=>rfl,fun _ _=>rfl⟩
theorem zug:KI "str":=⟨fun _=>rfl,fun _ _=>rfl,fun _ _=>rfl,fun _ _=>rfl,fun _ _=>rfl,fun _ _=>rfl⟩
theorem zoz:KI "tuple":=⟨fun _=>rfl,fun _ _=>rfl,fun _ _=>rfl,fun _ _=>rfl,fun _ _=>rfl,fun _ _=>rfl⟩
section
variable {X:Cx} {e:Expr} {f:Fe} {te:TE} {pos p p2 p3:Pos} {cn:Str} {ct:String}
def tIsI (K:y00) (ct:String) (te:TE):TE:=fun σ H Q=>te σ H fun x H1=>∃(O F:Addr->Prop) (t:T),RepR K O F H1 t x/\Q (.bl (isI ct t)) H1
theorem zu1 (ki:KI ct) (hb:bootBuiltins cn=some (.type ct)) (hm:X.mg "isinstance"=none) (hm2:X.mg cn=none) (he:PE X e te) (hg:Gl X "isinstance":=by rfl) (hg2:Gl X cn:=by rfl) (hn:cn≠"__name__":=by decide) (hdb:(cn == ("__debug__":Str))=false:=by decide)
  (hs:y0a [e,.Name cn p2] X.env=(false,eval e X.env)::y0a [.Name cn p2] X.env:=by rfl) :
  PE X (.Call (.Name "isinstance" p) [e,.Name cn p2] [] pos) (tIsI X.K ct te):=by
 intro pins s σ H Q I h
 refine wpAny_Call_Name_kw (zas I hg hm (u:=.builtin "isinstance") (by decide +kernel) ?_)
 refine PyProof.Rows.callWith_builtin1 ?_ hs rfl
 rw[hs]
 show y0t _ _ (spliced ((false,eval e X.env)::y2c pos (y0a [.Name cn p2] X.env))) _ _ s
 refine Calls.spliced_cons (thn (he pins s σ H _ I h) fun u s1 ⟨x,H1,I1,r1,q1⟩=>?_)
 show y0t _ _ (spliced ((false,eval (.Name cn p2) X.env)::[])) _ _ s1
 refine Calls.spliced_cons (zas I1 hg2 hm2 hb (Calls.spliced_nil ?_) hn hdb)
 obtain⟨O,F,t,rx,q⟩:=q1
 cases t with
 | none =>
  rw[rx.non] at r1
  cases r1
  exact PySem.W.kia_one PySem.W.kitx_none I1.kIn trivial (ki.n _) (fun z=>nomatch z) fun tk=>⟨.bl _,H1,I1.kept (t':=tk) fun _ _ z=>z,rfl,q⟩
 | bool b =>
  rw[rx.bl] at r1
  cases r1
  exact PySem.W.kia_one PySem.W.kitx_bool I1.kIn trivial (ki.b _ b) (fun z=>nomatch z) fun tk=>⟨.bl _,H1,I1.kept (t':=tk) fun _ _ z=>z,rfl,q⟩
 | int i =>
  rw[rx.int] at r1
  obtain⟨tk0,rfl⟩:=r1
  exact PySem.W.kia_one PySem.W.kitx_int I1.kIn trivial (ki.i _ i) (fun z=>nomatch z) fun tk=>⟨.bl _,H1,I1.kept (t':=tk) fun _ _ z=>z,rfl,q⟩
 | str i =>
  rw[rx.str] at r1
  obtain⟨tk0,rfl⟩:=r1
  exact PySem.W.kia_one PySem.W.kitx_str I1.kIn trivial (ki.s _ i) (fun z=>nomatch z) fun tk=>⟨.bl _,H1,I1.kept (t':=tk) fun _ _ z=>z,rfl,q⟩
 | tuple ts =>
  obtain⟨a,vs,rfl,hs,hr⟩:=rx.tup
  cases r1
  obtain⟨its,r,ht,hz⟩:=I1.tuple hs
  obtain⟨o,h1,h2,_⟩:=ht
  exact PySem.W.kia_one PySem.W.kitx_tuple I1.kIn ⟨o,h1,h2⟩ (ki.t _ ts) (fun z=>nomatch z) fun tk=>⟨.bl _,H1,I1.kept (t':=tk) fun _ _ z=>z,rfl,q⟩
 | list ts =>
  obtain⟨a,vs,rfl,hs,hr⟩:=rx.lst
  cases r1
  obtain⟨_,its,n,r,hl,e1⟩:=Inv.lstR I1 hs
  exact PySem.W.kia_one PySem.W.kitx_list I1.kIn ⟨_,e1,rfl⟩ (ki.l _ ts) (fun z=>nomatch z) fun tk=>⟨.bl _,H1,I1.kept (t':=tk) fun _ _ z=>z,rfl,q⟩
 | dict d=>rcases rx with rx|⟨_,_,_,z,_⟩;simp[Rep] at rx;cases z
theorem zo5 (ki:KI ct) (hb:bootBuiltins cn=some (.type ct)) (hm:X.mg "isinstance"=none) (hm2:X.mg cn=none) (ha:PEr X e f) (hg:Gl X "isinstance":=by rfl) (hg2:Gl X cn:=by rfl) (hn:cn≠"__name__":=by decide) (hdb:(cn == ("__debug__":Str))=false:=by decide)
  (hs:y0a [e,.Name cn p2] X.env=(false,eval e X.env)::y0a [.Name cn p2] X.env:=by rfl) :
  PEv X (.Call (.Name "isinstance" p) [e,.Name cn p2] [] pos) (op1 (oIsI ct) f):=z0v (zu1 ki hb hm hm2 ha hg hg2 hn hdb hs) fun σ H Q ⟨F₀,H₀,O,F,ε,t,r,e,k⟩=>by
 simp only[op1,y01] at e
 obtain⟨x,ex,e⟩:=e
 have e':t=.bool (isI ct x):=by
  cases x <;> first|exact (y28 e).symm|cases e
 subst e'
 exact⟨F₀,H₀,O,F,ε,_,r,ex,fun v F1 H1 x1 rx=>⟨O,F1,x,rx,k _ F1 H1 x1 (by simp[Rep])⟩⟩
theorem zva:bootBuiltins "int"=some (.type "int"):=by decide +kernel
theorem zsh:bootBuiltins "bool"=some (.type "bool"):=by decide +kernel
theorem zv9:bootBuiltins "str"=some (.type "str"):=by decide +kernel
theorem zpl:bootBuiltins "tuple"=some (.type "tuple"):=by decide +kernel
end
def Its (x:Str):It:=⟨fun i _=>i<x.cps.size,fun i H v H'=>H'=H/\∃c,x.cps[i]?=some c/\v=.str ⟨#[c]⟩,fun i _=>x.cps.size<=i⟩
theorem znm {P:y0q} {w:World} {K:y00} {tg:Expr} (x:Str) (t:Tok) (it:Addr):Turn P w K tg (Its x) [it] it (fun i h=>h.IsStrIter it "str_ascii_iterator" x t i) where
 mem:=by simp
 obj:=fun i h st b hb=>by
  have e:b=it:=by simpa using hb
  subst e
  obtain⟨o,e,c,d⟩:=st
  exact⟨o,e,fun v z=>by rw[d] at z;cases z⟩
 keep:=fun i h h' st k=>by
  obtain⟨o,e,c,d⟩:=st
  exact⟨o,k it (by simp) o e,c,d⟩
 item:=by
  intro X hP hw hK hc i pins s σ H E I hf st hg
  subst hP hw hK
  obtain⟨f0,f1,f2,f3,f4,f5⟩:=hf it (by simp)
  have hx:x.cps[i]?=some (x.cps[i]'hg):=Array.getElem?_eq_getElem hg
  refine wpAny_pyNext_ascii_item st hx fun h' st' sb=>?_
  have I1:Inv X pins σ H { s with heap:=h',toks:=s.toks+1 }:=I.turned (t':=s.toks+1) (fun b o hb e=>(sb.2 b hb).trans e) f0 f1 f3 f4 f5
  obtain⟨o,e,c,d⟩:=id st'
  exact⟨_,rfl,zp7 (s:={ s with heap:=h',toks:=s.toks+1 }) e c d (by decide) ⟨.str _,H,I1,⟨_,rfl⟩,⟨rfl,_,hx,rfl⟩,st',fun b hb=>(hf b hb).1⟩⟩
 done:=by
  intro X hP hw hK hc i pins s σ H E I hf st hg
  subst hP hw hK
  obtain⟨f0,f1,f2,f3,f4,f5⟩:=hf it (by simp)
  exact wpAny_pyNext_ascii_end (I.ok.hd hc) st (Array.getElem?_eq_none hg) fun h' eb=>⟨rfl,I.turned (t':=s.toks) (fun b o hb e=>eb b o hb e) f0 f1 f3 f4 f5⟩
 self:=fun _ _ _ _ _ st h=>wpAny_pyIter_striter_ascii st h
theorem zpq {x:Str} (h:zch x=true):strIterType x="str_ascii_iterator":=by
 unfold strIterType
 rw[if_pos]
 rw[<- Array.all_toList]
 exact h
noncomputable def iA (K:y00) (tl:TE):TI:=fun σ H R=>tl σ H fun x H1=>(∃a,x=.ref a/\(((∃xs,SqL K H1 a xs)/\R (Itl K a) H1)\/((∃xs,SqT K H1 a xs)/\R (Itt K a) H1)))\/∃z,x=.str z/\zch z=true/\R (Its z) H1
section
variable {X:Cx} {tg l:Expr} {tl:TE} {f:Fe}
theorem pi_A (hl:PE X l tl):PI X tg l (iA X.K tl):=by
 intro pins s σ H R I h
 refine thn (hl pins s σ H _ I h) fun v s1 ⟨x,H1,I1,r1,q⟩=>?_
 have fp:∀b∈[s1.heap.objs.size],FpOk X pins H1 b:=fun b hb=>by
  have e:b=s1.heap.objs.size:=by simpa using hb
  subst e
  exact I1.fpOk (y0o _) (I1.hok.fresh (y0o _))
 rcases q with ⟨a,e1,q⟩|⟨z,e1,ha,q⟩
 ·subst e1
  cases r1
  rcases q with ⟨⟨xs,hq⟩,q⟩|⟨⟨xs,hq⟩,q⟩
  ·obtain⟨its,rv,p,hz⟩:=I1.list hq
   refine wpAny_pyIter_list p.isList ?_
   exact⟨s1.heap.objs.size,[s1.heap.objs.size],_,_,H1,rfl,I1.kept (t':=s1.toks) fun b o e=>y03 _ e,zkv a _,⟨_,y0l _ rfl,rfl,rfl⟩,fp,q⟩
  ·obtain⟨its,rv,p,hz⟩:=I1.tuple hq
   refine y2g (show s1.heap.IsTuple a its.toArray from p) ?_
   exact⟨s1.heap.objs.size,[s1.heap.objs.size],_,_,H1,rfl,I1.kept (t':=s1.toks) fun b o e=>y03 _ e,zj0 a _,⟨_,y0l _ rfl,rfl,rfl⟩,fp,q⟩
 ·subst e1
  obtain⟨t,rfl⟩:=r1
  refine wpAny_pyIter_strU ?_
  rw[zpq ha]
  exact⟨s1.heap.objs.size,[s1.heap.objs.size],_,_,H1,rfl,I1.kept (t':=s1.toks) fun b o e=>y03 _ e,znm z t _,⟨_,y0l _ rfl,rfl,rfl⟩,fp,q⟩
theorem zp2 {K:y00} {F1:Addr->Prop} {H1:Hp} (x:Str):ItOk K (Its x) F1 H1 (x.cps.toList.map chT) where
 go:=fun i F H t kp d e=>by
  have h:=(y0k.mp e).1
  simpa [Its] using h
 yld:=fun i F H t v H' kp d e y=>by
  obtain⟨rfl,c,hc,rfl⟩:=y
  refine⟨F,Ext.refl d,?_⟩
  rw[y14,Array.getElem?_toList,hc] at e
  cases e
  simp[Rep,chT]
 stop:=fun i F H kp hl=>by
  simpa [Its] using hl
theorem i_A (hl:PEv X l f):PIt X tg l (itA f):=ziy (pi_A hl) fun σ H R ⟨F₀,H₀,O,F,ε,ts,r,e,k⟩=>by
 simp only[itA,y01] at e
 obtain⟨t,et,e⟩:=e
 split at e
 ·cases e
  refine⟨F₀,H₀,O,F,ε,_,r,et,fun v F' H' x q=>?_⟩
  simp only[Rep] at q
  obtain⟨a,vs,rfl,hs,hr⟩:=q
  exact .inl ⟨a,rfl,.inr ⟨⟨vs,hs⟩,k _ F' H' x (zp1 hs hr)⟩⟩
 ·cases e
  refine⟨F₀,H₀,O,F,ε,_,r,et,fun v F' H' x q=>?_⟩
  simp only[Rep] at q
  obtain⟨a,vs,rfl,fa,hs,hr⟩:=q
  exact .inl ⟨a,rfl,.inl ⟨⟨vs,.inl hs⟩,k _ F' H' x (zma fa hs hr)⟩⟩
 ·split at e
  next ha =>
   cases e
   refine⟨F₀,H₀,O,F,ε,_,r,et,fun v F' H' x q=>?_⟩
   simp only[Rep] at q
   subst q
   exact .inr ⟨_,rfl,ha,k _ F' H' x (zp2 _)⟩
  next=>cases e
 ·cases e
end
end
section
variable [Tbl]
theorem zea (n d:Nat) (hd:d<=n) (o:Option Int):D.sIx n d o<=n:=by
 cases o with
 | none=>exact hd
 | some v =>
  simp only[D.sIx]
  split <;> omega
theorem zt5 (lo hi:Option Int) (n:Nat):Builtin.Str.strSliceIndices lo hi 1 n=sliceRange ((D.sIx n 0 lo:Nat):Int) ((D.sIx n n hi:Nat):Int) 1:=by
 unfold Builtin.Str.strSliceIndices
 have h1:∀(o:Option Int) (d:Nat),(match o with|none=>(d:Int)|some i=>(if (1:Int) > 0 then max 0 (min (if i<0 then i+(n:Int) else i) n) else max (-1) (min (if i<0 then i+(n:Int) else i) ((n:Int) - 1))))=((D.sIx n d o:Nat):Int):=by
  intro o d
  cases o with
  | none=>rfl
  | some v =>
   simp only[D.sIx]
   rw[if_pos (by decide)]
   split <;> omega
 have e1:=h1 lo 0
 have e2:=h1 hi n
 dsimp only
 rw[if_pos (show (1:Int) > 0 by decide)] at *
 rw[if_pos (show (1:Int) > 0 by decide)]
 exact congrFun (congr (congrArg sliceRange e1) e2) 1
theorem zns {α:Type} (l:List α) (lo hi:Option Int):(Builtin.Str.strSliceIndices lo hi 1 l.length).filterMap (fun k=>l[k]?)=cutZ l lo hi/\(Builtin.Str.strSliceIndices lo hi 1 l.length).length=(cutZ l lo hi).length:=by
 rw[zt5]
 have ha:=zea l.length 0 (y1z _) lo
 have hb:=zea l.length l.length (y0o _) hi
 unfold cutZ
 generalize D.sIx l.length 0 lo=a at *
 generalize D.sIx l.length l.length hi=b at *
 have e:sliceRange (a:Int) (b:Int) 1=(List.range (b - a)).map fun k=>a+k:=by
  unfold sliceRange
  have ec:((if (1:Int) > 0 then (if (a:Int)<(b:Int) then ((b:Int) - (a:Int)+1 - 1) / 1 else 0) else (if (a:Int) > (b:Int) then ((a:Int) - (b:Int) - 1 - 1) / (-1) else 0)):Int).toNat=b - a:=by
   rw[if_pos (by decide)]
   split <;> omega
  dsimp only
  rw[ec]
  congr 1
  funext k
  omega
 rw[e]
 by_cases hab:a<=b
 ·exact⟨StrLaws.picks l (b - a) a (by omega),by simp;omega⟩
 ·have z:b - a=0:=by omega
  rw[z]
  simp
def rSlS:V->Option Int->Option Int->Hp->VK->Prop:=fun x lo hi H Q=>∃z,x=.str z/\z.length<=y0j/\Q (.str ⟨(cutZ z.cps.toList lo hi).toArray⟩) H
section
variable {X:Cx} {a b e:Expr} {es:List Expr} {f g h:Fe} {fs:List Fe} {pos p p2 apos cpos:Pos}
theorem zmq {α:Type} (l:List α) (lo hi:Option Int) (h:(cutZ l lo hi).length=l.length):cutZ l lo hi=l:=by
 unfold cutZ at h ⊢
 have ha:=zea l.length 0 (y1z _) lo
 generalize D.sIx l.length 0 lo=a at *
 generalize D.sIx l.length l.length hi=b at *
 rw[List.length_take,List.length_drop] at h
 cases l with
 | nil=>simp
 | cons c r =>
  have:a=0:=by simp only[y0v] at *;omega
  subst this
  rw[List.drop_zero,List.take_of_length_le (by simp only[y0v] at *;omega)]
theorem zt7:SlR X rSlS:=by
 intro pins s σ H x v vl vu lo hi sl Q I rx hs pl pu h
 obtain⟨z,rfl,hzl,q⟩:=h
 obtain⟨t,rfl⟩:=rx
 refine⟨"str",_,slot_str_getitem.lookup,typeIs_str s z t,?_⟩
 obtain⟨h1,h2⟩:=zns z.cps.toList lo hi
 have hlen:z.length=z.cps.toList.length:=by simp[Str.length]
 have key:∀l u:Option (Int×Tok),l.map (·.1)=lo->u.map (·.1)=hi->Made.post (sliceMade z t l u none) (EP X pins σ Q) s:=by
  intro l u el eu
  unfold sliceMade slicePicked
  rw[el,eu]
  dsimp only[Option.map_none,Option.getD_none]
  rw[hlen]
  split
  next hw =>
   have hw2:(cutZ z.cps.toList lo hi).length=z.cps.toList.length:=by
    rw[<- h2]
    simpa using hw
   refine⟨.str z,H,I,⟨t,rfl⟩,?_⟩
   have:=zmq _ _ _ hw2
   rw[this] at q
   simpa using q
  next =>
   have e:(List.filterMap (fun k=>z.cps[k]?) (Builtin.Str.strSliceIndices lo hi 1 z.cps.toList.length))=cutZ z.cps.toList lo hi:=by
    rw[<- h1]
    congr 1
    funext k
    simp
   rw[e]
   refine⟨?_,⟨.str _,H,I.tok _,⟨_,rfl⟩,q⟩⟩
   show (cutZ z.cps.toList lo hi).toArray.size<=y0j
   have:(cutZ z.cps.toList lo hi).length<=z.cps.toList.length:=by
    unfold cutZ
    rw[List.length_take,List.length_drop]
    omega
   rw[y0h]
   omega
 obtain⟨o,ho,hc,hd⟩:=hs
 cases pl with
 | none =>
  cases pu with
  | none=>exact wpAny_getItem_str_slice (l:=none) (u:=none) (st:=none) ⟨o,ho,hc,hd⟩ rfl (key _ _ rfl rfl)
  | int i2 t2=>exact wpAny_getItem_str_slice (l:=none) (u:=some (i2,t2)) (st:=none) ⟨o,ho,hc,hd⟩ rfl (key _ _ rfl rfl)
 | int i1 t1 =>
  cases pu with
  | none=>exact wpAny_getItem_str_slice (l:=some (i1,t1)) (u:=none) (st:=none) ⟨o,ho,hc,hd⟩ rfl (key _ _ rfl rfl)
  | int i2 t2=>exact wpAny_getItem_str_slice (l:=some (i1,t1)) (u:=some (i2,t2)) (st:=none) ⟨o,ho,hc,hd⟩ rfl (key _ _ rfl rfl)
theorem z2x {lo hi:Option Expr} {fl fh:Ev->Option (Option Int)} (ha:PEr X e f) (hl:PO X lo (tOt X.K fl)) (hu:PO X hi (tOt X.K fh)):PEv X (.Subscript e (.Slice lo hi none p2) pos) (z1i f fl fh):=z0v (zid (((zpx.or zib).or zl5).or zt7) ha hl hu) fun σ H Q ⟨F₀,H₀,O,F,ε,t,r,e,k⟩=>by
 simp only[z1i,y01] at e
 obtain⟨x,ex,l,el,h,eh,e⟩:=e
 refine⟨F₀,H₀,O,F,ε,x,r,ex,fun v F1 H1 x1 rx=>⟨F₀,H₀,O,F1,ε,l,r.ext x1,el,fun F2 H2 x2=>⟨F₀,H₀,O,F2,ε,h,(r.ext x1).ext x2,eh,fun F3 H3 x3=>?_⟩⟩⟩
 have x23:=x2.trans x3
 have x13:=x1.trans x23
 unfold oSlA at e
 split at e
 ·split at e
  next hz =>
   cases e
   rw[(rx.ext x23).str]
   exact .inr ⟨_,rfl,by rw[z7n];exact hz,k _ F3 H3 x13 (by simp[Rep])⟩
  next=>cases e
 unfold oSl at e
 split at e
 ·cases e
  obtain⟨a,vs,rfl,hs,hr⟩:=(rx.ext x23).tup
  by_cases hw:HT.sIx vs.length 0 l=0/\HT.sIx vs.length vs.length h=vs.length
  ·refine .inl (.inl (.inr ⟨a,vs,rfl,hs,hw,k _ F3 H3 x13 ?_⟩))
   simp only[Rep]
   refine⟨a,vs,rfl,hs,?_⟩
   have:=z78 hr l h
   unfold cutV at this
   rw[hw.1,hw.2,List.drop_zero,Nat.sub_zero,List.take_length] at this
   exact this
  ·refine .inl (.inl (.inl ⟨a,vs,rfl,hs,hw,fun q hq=>?_⟩))
   have x4:=Ext.laid (o:=.tup (cutV vs l h)) x13.dom hq
   refine k _ F3 _ (x13.trans x4) ?_
   simp only[Rep]
   exact⟨q,_,rfl,SqT.of z0n,(z78 hr l h).ext x4⟩
 ·cases e
  obtain⟨a,vs,rfl,hs,hr⟩:=(rx.ext x23).lst
  refine .inl (.inr ⟨a,vs,rfl,.inl hs,fun q hq=>?_⟩)
  have x4:=Ext.laidF (o:=.lst (cutV vs l h)) x13.dom hq
  refine k _ _ _ (x13.trans x4) ?_
  simp only[Rep]
  exact⟨q,_,rfl,.inr rfl,.inl z0n,(z78 hr l h).ext x4⟩
 ·cases e
end
end
section
variable [Tbl]
def SqX (K:y00) (b:Bool) (H:Hp) (a:Addr) (xs:List V):Prop:=match b with
 | true=>SqL K H a xs
 | false=>SqT K H a xs
def SqF (K:y00) (F:Addr->Prop) (H:Hp) (b:Bool) (a:Addr) (xs:List V):Prop:=match b with
 | true=>F a/\Rd H a (.lst xs)
 | false=>SqT K H a xs
theorem SqF.kp {K:y00} {F F1:Addr->Prop} {H H1:Hp} {b:Bool} {a:Addr} {xs:List V} (h:SqF K F H b a xs) (k:Kp K F H F1 H1):SqX K b H1 a xs:=by
 cases b with
 | true=>exact .inl (k.lst _ _ h.1 h.2).2
 | false=>exact k.tup _ _ h
theorem Inv.sqx {X:Cx} {pins:List (Addr×Obj)} {σ:L2.St} {H:Hp} {s:y04} {b:Bool} {a:Addr} {xs:List V} (I:Inv X pins σ H s) (h:SqX X.K b H a xs):∃its:List Value,Vals xs its/\sqK b s.heap a its.toArray/\xs.length<=y0j:=by
 cases b with
 | true =>
  obtain⟨its,r,p,z⟩:=I.list h
  exact⟨its,r,p.isList,z⟩
 | false=>exact I.tuple h
theorem Inv.sqx_inj {X:Cx} {pins:List (Addr×Obj)} {σ:L2.St} {H:Hp} {s:y04} {b:Bool} {a:Addr} {xs ys:List V} (I:Inv X pins σ H s) (h:SqX X.K b H a xs) (h':SqX X.K b H a ys):xs=ys:=by
 cases b with
 | true=>exact I.list_inj h h'
 | false=>exact I.tuple_inj h h'
noncomputable def Itz2 (K:y00) (b1 b2:Bool) (a b:Addr) (n m:Nat):It :=
 ⟨fun i H=>∃xs x ys y,SqX K b1 H a xs/\xs[i]?=some x/\SqX K b2 H b ys/\ys[i]?=some y/\xs.length=n/\ys.length=m,
  fun i H x H'=>∃p u v,H p=none/\x=.ref p/\H'=upd H p (.tup [u,v])/\(∀xs,SqX K b1 H a xs->xs[i]?=some u)/\∀ys,SqX K b2 H b ys->ys[i]?=some v,
  fun i H=>∃xs ys,SqX K b1 H a xs/\SqX K b2 H b ys/\xs.length=n/\ys.length=m/\(n<=i\/m<=i)⟩
noncomputable def TnZ2 (b1 b2:Bool) (z TI TO i1 i2 l1 l2:Addr) (n m i:Nat) (h:Heap):Prop:=ZipR h z TI TO .none (.bool false)/\IsPair h TI (.ref i1) (.ref i2)/\(∃a b,IsPair h TO a b)/\itK b1 h i1 l1 i/\itK b2 h i2 l2 i/\i<=n/\i<=m
theorem zku {b1 b2:Bool} {P:y0q} {w:World} {K:y00} {es:List Expr} {k:Nat} {pos:Pos} {z TI TO i1 i2 l1 l2:Addr} {n m:Nat} (D:ZipApart z TI TO i1 i2 l1 l2):Turn P w K (.Tuple es k pos) (Itz2 K b1 b2 l1 l2 n m) [z,TI,TO,i1,i2] z (TnZ2 b1 b2 z TI TO i1 i2 l1 l2 n m) where
 mem:=by simp
 obj:=fun i h st b hb=>by
  obtain⟨hz,hTI,⟨a,c,hTO⟩,h1,h2,_⟩:=st
  simp only[y09,y24,or_false] at hb
  rcases hb with rfl|rfl|rfl|rfl|rfl
  ·exact⟨_,hz,fun v q=>by cases (show Data.fields _=Data.cell v from q)⟩
  ·exact⟨_,hTI,fun v q=>by cases (show Data.seq _ _=Data.cell v from q)⟩
  ·exact⟨_,hTO,fun v q=>by cases (show Data.seq _ _=Data.cell v from q)⟩
  ·exact h1.obj
  ·exact h2.obj
 keep:=fun i h h' st kk=>by
  obtain⟨hz,hTI,⟨a,c,hTO⟩,h1,h2,hn⟩:=st
  exact⟨kk z (by simp) _ hz,kk TI (by simp) _ hTI,⟨a,c,kk TO (by simp) _ hTO⟩,h1.at fun o q=>kk i1 (by simp) o q,h2.at fun o q=>kk i2 (by simp) o q,hn⟩
 item:=by
  intro X hP hw hK hc i pins s σ H E I hf st hg
  subst hP hw hK
  obtain⟨xs,x,ys,y,hq1,hx,hq2,hy,hn,hm⟩:=hg
  obtain⟨its,rv,p1,_⟩:=Inv.sqx I hq1
  obtain⟨its2,rv2,p2,_⟩:=Inv.sqx I hq2
  obtain⟨u,hu,ru⟩:=rv.get hx
  obtain⟨v,hv,rv'⟩:=rv2.get hy
  obtain⟨hz,hTI,⟨a,c,hTO⟩,h1,h2,hin,him⟩:=st
  have hi:i<its.toArray.size:=by
   rw[y0h]
   exact (y0k.mp hu).1
  have hj:i<its2.toArray.size:=by
   rw[y0h]
   exact (y0k.mp hv).1
  have hlx:=rv.length
  have hly:=rv2.length
  have hT:s.TypeIs (.ref z) "zip":=⟨_,hz,rfl⟩
  have zlt:z<s.heap.objs.size:=y0c hz
  have TOlt:TO<s.heap.objs.size:=y0c hTO
  have TIlt:TI<s.heap.objs.size:=y0c hTI
  have i1lt:i1<s.heap.objs.size:=by obtain⟨o,e,_⟩:=h1.obj;exact y0c e
  have i2lt:i2<s.heap.objs.size:=by obtain⟨o,e,_⟩:=h2.obj;exact y0c e
  have hh:=I.ok.hd hc
  unfold pyNext
  refine y02 (wpAny_attempt (y2e (name:=Str.ofString "__next__") hT F.slot_zip_next (y2j F.slot_zip_next hT F.entry_zip_next ?_ (F.args_zip_next_1 _))))
  refine znj (S1:=fun i h=>itK b1 h i1 l1 i/\sqK b1 h l1 its.toArray) (S2:=fun i h=>itK b2 h i2 l2 i/\sqK b2 h l2 its2.toArray) D (zdc (A:=X.A.in1) b1 hh i1 l1 D.l1i1 its.toArray) (zdc (A:=X.A.in1) b2 hh i2 l2 D.l2i2 its2.toArray) hz hTI hTO ⟨h1,p1⟩ ⟨h2,p2⟩ hi hj fun h' x' y' tk px py hz' hTO' s1 s2 hp hsz kp=>y06 ?_
  have ex:x'=u:=by
   rw[<- Array.getElem?_toList,show (its.toArray).toList=its from rfl,hu] at px
   exact (y28 px).symm
  have ey:y'=v:=by
   rw[<- Array.getElem?_toList,show (its2.toArray).toList=its2 from rfl,hv] at py
   exact (y28 py).symm
  subst ex ey
  refine⟨_,rfl,wpAny_letOwnedTupleGo_zip hz' fun h2' hz2 hs2=>?_⟩
  have k2:∀b o,b≠z->b≠TO->b≠i1->b≠i2->s.heap.get? b=some o->h2'.get? b=some o:=fun b o b1 b2 b3 b4 q=>hs2.extBut b o b1 (kp b o b1 b2 b3 b4 q)
  have fr:H s.heap.objs.size=none:=I.hok.fresh (y0o _)
  have hT2:h2'.get? s.heap.objs.size=some { cls:=.type "tuple",data:=.seq #[x',y'] }:=hs2.extBut _ _ (y15 zlt) hp
  obtain⟨z0,z1,z2,z3,z4,z5⟩:=hf z (by simp)
  obtain⟨o0,o1,o2,o3,o4,o5⟩:=hf TO (by simp)
  obtain⟨f0,f1,f2,f3,f4,f5⟩:=hf i1 (by simp)
  obtain⟨g0,g1,g2,g3,g4,g5⟩:=hf i2 (by simp)
  obtain⟨t0,_⟩:=hf TI (by simp)
  have nH:∀b o,H b=some o->b≠z/\b≠TO/\b≠i1/\b≠i2:=fun b o q=>⟨fun e=>(by rw[e,z0] at q;cases q),fun e=>(by rw[e,o0] at q;cases q),fun e=>(by rw[e,f0] at q;cases q),fun e=>(by rw[e,g0] at q;cases q)⟩
  have k3:∀b o,b∉[z,TO,i1,i2]->s.heap.get? b=some o->h2'.get? b=some o:=fun b o hb q=>by
   simp only[y09,y24,or_false,not_or] at hb
   exact k2 b o hb.1 hb.2.1 hb.2.2.1 hb.2.2.2 q
  have nH3:∀b o,H b=some o->b∉[z,TO,i1,i2]:=fun b o q=>by
   simp only[y09,y24,or_false,not_or]
   exact nH b o q
  have hok2:HOk X.prog X.w (upd H s.heap.objs.size (.tup [x,y])) h2':=by
   intro b o q
   by_cases hb:b=s.heap.objs.size
   ·subst hb
    rw[z0n] at q
    cases q
    exact⟨by show 2<=y0j;decide,[x',y'],.cons ru (.cons rv' .nil),⟨_,hT2,rfl,_,rfl⟩⟩
   ·rw[z0i hb] at q
    refine (I.hok b o q).stay (fun c v hc' q'=>k3 c v ?_ q') (fun c q'=>?_) fun c ys q'=>?_
    ·rcases hc' with rfl|hc'
     ·exact nH3 _ _ q
     ·exact nH3 _ _ hc'
    ·rw[z0i (z0x q' fr)]
     exact q'
    ·rw[z0i (z0x q' fr)]
     exact q'
  have I2:L2.Inv X pins σ (upd H s.heap.objs.size (.tup [x,y])) { s with heap:=h2',toks:=tk }:=by
   refine I.step (g':=s.gens) (d':=s.drawn) (ch:=[z,TO,i1,i2]) (fun b hb=>?_) (fun b o _ _ hc' q _=>k3 b o hc' q) (fun b o _ _ hc' q _=>⟨o.slots,k3 b o hc' q⟩) (fun b o _ q n=>?_)
    (fun b o hc' q=>⟨o,k3 b o hc' q⟩) (fun b ys q=>by rw[z0i (z0x q fr)];exact q) (fun b o u q=>by rw[z0i (z0x q fr)];exact q) (fun b ps q=>⟨#[],by rw[z0i (z0x q fr),q];simp⟩) (fun m hm=>?_) hok2 I.bare
   ·simp only[y09,y24,or_false] at hb
    rcases hb with rfl|rfl|rfl|rfl
    ·exact⟨z3,z1,z4,z5⟩
    ·exact⟨o3,o1,o4,o5⟩
    ·exact⟨f3,f1,f4,f5⟩
    ·exact⟨g3,g1,g4,g5⟩
   ·rw[z0i (y0x (y0c q))]
    exact n
   ·obtain⟨o,es',ep,ho',r⟩:=hm
    exact⟨o,es',ep,k2 _ o (Ne.symm z1) (Ne.symm o1) (Ne.symm f1) (Ne.symm g1) ho',r⟩
  refine⟨.ref s.heap.objs.size,_,I2,rfl,⟨s.heap.objs.size,x,y,fr,rfl,rfl,fun ws hw=>by rw[Inv.sqx_inj I hw hq1];exact hx,fun ws hw=>by rw[Inv.sqx_inj I hw hq2];exact hy⟩,⟨hz2,hs2.extBut _ _ D.TIz (kp _ _ D.TIz D.TITO D.TIi1 D.TIi2 hTI),⟨_,_,hs2.extBut _ _ D.TOz hTO'⟩,s1.1.at fun o q=>hs2.extBut _ _ D.i1z q,s2.1.at fun o q=>hs2.extBut _ _ D.i2z q,?_,?_⟩,fun b hb=>?_⟩
  ·rw[y0h] at hi
   omega
  ·rw[y0h] at hj
   omega
  ·simp only[y09,y24,or_false] at hb
   rcases hb with rfl|rfl|rfl|rfl|rfl
   ·rw[z0i (y0x zlt)]
    exact z0
   ·rw[z0i (y0x TIlt)]
    exact t0
   ·rw[z0i (y0x TOlt)]
    exact o0
   ·rw[z0i (y0x i1lt)]
    exact f0
   ·rw[z0i (y0x i2lt)]
    exact g0
 done:=by
  intro X hP hw hK hc i pins s σ H E I hf st hg
  subst hP hw hK
  obtain⟨xs,ys,hq1,hq2,hn,hm,hs⟩:=hg
  obtain⟨its,rv,p1,_⟩:=Inv.sqx I hq1
  obtain⟨its2,rv2,p2,_⟩:=Inv.sqx I hq2
  obtain⟨hz,hTI,⟨a,c,hTO⟩,h1,h2,hin,him⟩:=st
  have hlx:=rv.length
  have hly:=rv2.length
  have hT:s.TypeIs (.ref z) "zip":=⟨_,hz,rfl⟩
  have hh:=I.ok.hd hc
  have hk:i=its.toArray.size\/(i<its.toArray.size/\i=its2.toArray.size):=by
   rw[y0h,y0h]
   omega
  unfold pyNext
  refine y02 (wpAny_attempt (y2e (name:=Str.ofString "__next__") hT F.slot_zip_next (y2j F.slot_zip_next hT F.entry_zip_next ?_ (F.args_zip_next_1 _))))
  refine zni (S1:=fun i h=>itK b1 h i1 l1 i/\sqK b1 h l1 its.toArray) (S2:=fun i h=>itK b2 h i2 l2 i/\sqK b2 h l2 its2.toArray) D (zdc (A:=X.A.in1) b1 hh i1 l1 D.l1i1 its.toArray) (zdc (A:=X.A.in1) b2 hh i2 l2 D.l2i2 its2.toArray) hz hTI hTO ⟨h1,p1⟩ ⟨h2,p2⟩ hk fun h' e tk kp he=>?_
  obtain⟨o,ho,hc'⟩:=he
  refine y02 (wpAny_isInstance (T:="StopIteration") (b:=true) ⟨o,ho,hc'⟩ isSubtype_stop (y06 ⟨rfl,?_⟩))
  obtain⟨z0,z1,z2,z3,z4,z5⟩:=hf z (by simp)
  obtain⟨o0,o1,o2,o3,o4,o5⟩:=hf TO (by simp)
  obtain⟨f0,f1,f2,f3,f4,f5⟩:=hf i1 (by simp)
  obtain⟨g0,g1,g2,g3,g4,g5⟩:=hf i2 (by simp)
  have k3:∀b o,b∉[z,TO,i1,i2]->s.heap.get? b=some o->h'.get? b=some o:=fun b o hb q=>by
   simp only[y09,y24,or_false,not_or] at hb
   exact kp b o hb.1 hb.2.1 hb.2.2.1 hb.2.2.2 q
  have nH3:∀b o,H b=some o->b∉[z,TO,i1,i2]:=fun b o q=>by
   simp only[y09,y24,or_false,not_or]
   exact⟨fun e=>(by rw[e,z0] at q;cases q),fun e=>(by rw[e,o0] at q;cases q),fun e=>(by rw[e,f0] at q;cases q),fun e=>(by rw[e,g0] at q;cases q)⟩
  have hok2:HOk X.prog X.w H h':=by
   intro b o q
   refine (I.hok b o q).stay (fun c v hc' q'=>k3 c v ?_ q') (fun c q'=>q') fun c ys q'=>q'
   rcases hc' with rfl|hc'
   ·exact nH3 _ _ q
   ·exact nH3 _ _ hc'
  refine I.step (g':=s.gens) (d':=s.drawn) (ch:=[z,TO,i1,i2]) (fun b hb=>?_) (fun b o _ _ hc' q _=>k3 b o hc' q) (fun b o _ _ hc' q _=>⟨o.slots,k3 b o hc' q⟩) (fun b o _ q n=>n)
    (fun b o hc' q=>⟨o,k3 b o hc' q⟩) (fun b ys q=>q) (fun b o u q=>q) (fun b ps q=>⟨#[],by rw[q];simp⟩) (fun m hm=>?_) hok2 I.bare
  ·simp only[y09,y24,or_false] at hb
   rcases hb with rfl|rfl|rfl|rfl
   ·exact⟨z3,z1,z4,z5⟩
   ·exact⟨o3,o1,o4,o5⟩
   ·exact⟨f3,f1,f4,f5⟩
   ·exact⟨g3,g1,g4,g5⟩
  ·obtain⟨o,es',ep,ho',r⟩:=hm
   exact⟨o,es',ep,kp _ o (Ne.symm z1) (Ne.symm o1) (Ne.symm f1) (Ne.symm g1) ho',r⟩
 self:=fun _ _ _ _ _ st h=>wpAny_pyIter_zip (f0:=.none) st.1 h
def iZp2 (K:y00) (ta:TA):TI:=fun σ H R=>ta σ H fun vs H1=>∃b1 b2 a b xs ys,vs=[.ref a,.ref b]/\SqX K b1 H1 a xs/\SqX K b2 H1 b ys/\R (Itz2 K b1 b2 a b xs.length ys.length) H1
section
variable {X:Cx} {es:List Expr} {k:Nat} {p pos p2:Pos} {a b:Expr} {f g:Fe}
theorem zrg {ta:TA} (hg:Gl X "zip") (hm:X.mg "zip"=none) (ha:PA X [a,b] ta) (hs:y0a [a,b] X.env=(false,eval a X.env)::y0a [b] X.env) (hpl:(y2c pos (y0a [b] X.env)).any (·.1)=false):PI X (.Tuple es k p2) (.Call (.Name "zip" p) [a,b] [] pos) (iZp2 X.K ta):=by
 intro pins s σ H R I h
 refine Call_ (zas I hg hm PyProof.Rows.boot_zip (y1p (thn (ha pos pins s σ H _ I h) fun us s1 ⟨vs,H1,I1,r1,q1⟩=>?_) hs hpl))
 obtain⟨b1,b2,l1,l2,xs,ys,rfl,hq1,hq2,q⟩:=q1
 obtain⟨u1,u2,rfl,e1,e2⟩:=r1.two
 cases e1
 cases e2
 obtain⟨its,rv,k1,_⟩:=Inv.sqx I1 hq1
 obtain⟨its2,rv2,k2,_⟩:=Inv.sqx I1 hq2
 refine zmx k1 k2 fun h' hzr hTI hTO hi1 hi2 hsz hk=>wpAny_pyIter_zip (f0:=.none) hzr ?_
 refine⟨s1.heap.objs.size+4,[s1.heap.objs.size+4,s1.heap.objs.size+2,s1.heap.objs.size+3,s1.heap.objs.size,s1.heap.objs.size+1],_,_,H1,rfl,I1.kept (t':=s1.toks) hk,zku (zg8 k1.lt k2.lt),⟨hzr,hTI,⟨_,_,hTO⟩,hi1,hi2,y1z _,y1z _⟩,fun b hb=>?_,q⟩
 have hb':s1.heap.objs.size<=b:=by
  simp only[y09,y24,or_false] at hb
  rcases hb with rfl|rfl|rfl|rfl|rfl
  ·exact Nat.le_add_right _ _
  ·exact Nat.le_add_right _ _
  ·exact Nat.le_add_right _ _
  ·exact y0o _
  ·exact Nat.le_add_right _ _
 exact I1.fpOk hb' (I1.hok.fresh hb')
theorem zm9 {b1 b2:Bool} {K:y00} {a b:Addr} {F1:Addr->Prop} {H1:Hp} {ts us:List T} {vs ws:List V} (hr:SqF K F1 H1 b1 a vs) (q:RepL K F1 H1 ts vs) (hr2:SqF K F1 H1 b2 b ws) (q2:RepL K F1 H1 us ws):ItOk K (Itz2 K b1 b2 a b vs.length ws.length) F1 H1 (zipT ts us) where
 go:=fun i F H t kp d e=>by
  have hi:=(y0k.mp e).1
  simp only[zipT,List.length_zipWith] at hi
  obtain⟨v,h1,_⟩:=q.get (y0u (show i<ts.length by omega))
  obtain⟨v2,h2,_⟩:=q2.get (y0u (show i<us.length by omega))
  exact⟨vs,v,ws,v2,hr.kp kp,h1,hr2.kp kp,h2,rfl,rfl⟩
 yld:=fun i F H t x H' kp d e y=>by
  obtain⟨p,v,v2,hp,rfl,rfl,y1,y2⟩:=y
  have hi:=(y0k.mp e).1
  simp only[zipT,List.length_zipWith] at hi
  have hi1:i<ts.length:=by omega
  have hi2:i<us.length:=by omega
  obtain⟨v',h1,h2⟩:=(q.kp kp).get (y0u hi1)
  obtain⟨v2',h3,h4⟩:=(q2.kp kp).get (y0u hi2)
  have h5:=y1 vs (hr.kp kp)
  rw[h1] at h5
  cases h5
  have h6:=y2 ws (hr2.kp kp)
  rw[h3] at h6
  cases h6
  have x1:=Ext.laid (o:=.tup [v,v2]) d hp
  refine⟨F,x1,?_⟩
  have et:t=.tuple [ts[i],us[i]]:=by
   rw[zipT,List.getElem?_zipWith,y0u hi1,y0u hi2] at e
   exact (y28 e).symm
  subst et
  simp only[Rep]
  exact⟨p,_,rfl,SqT.of z0n,RepL.cons (h2.ext x1) (RepL.cons (h4.ext x1) RepL.nil)⟩
 stop:=fun i F H kp hl=>⟨vs,ws,hr.kp kp,hr2.kp kp,rfl,rfl,by
  simp only[zipT,List.length_zipWith] at hl
  rw[<- q.length,<- q2.length]
  omega⟩
theorem zpv {K:y00} {F:Addr->Prop} {H:Hp} {t:T} {ts:List T} {v:V} (h:(match t with|.tuple ts=>some ts|.list ts=>some ts|_=>(none:Option (List T)))=some ts) (q:Rep K F H t v):∃b a vs,v=.ref a/\SqF K F H b a vs/\RepL K F H ts vs:=by
 split at h
 ·cases h
  simp only[Rep] at q
  obtain⟨a,vs,rfl,hs,hr⟩:=q
  exact⟨false,a,vs,rfl,hs,hr⟩
 ·cases h
  simp only[Rep] at q
  obtain⟨a,vs,rfl,f,hs,hr⟩:=q
  exact⟨true,a,vs,rfl,⟨f,hs⟩,hr⟩
 ·cases h
theorem zut (hm:X.mg "zip"=none) (ha:PEv X a f) (hb:PEv X b g) (hg:Gl X "zip":=by rfl) (hs:y0a [a,b] X.env=(false,eval a X.env)::y0a [b] X.env:=by rfl) (hs2:y0a [b] X.env=(false,eval b X.env)::y0a [] X.env:=by rfl) (hpl:(y2c pos (y0a [b] X.env)).any (·.1)=false:=by rfl) :
  PIt X (.Tuple es k p2) (.Call (.Name "zip" p) [a,b] [] pos) (zk0 (z3n f) (z3n g)):=ziy (zrg hg hm (z5s ha (z5s hb z8b hs2) hs) hs hpl) fun σ H R ⟨F₀,H₀,O,F,ε,ts,r,e,k⟩=>by
 simp only[zk0,z3n,y07,y01] at e
 obtain⟨xs,⟨t,et,e1⟩,ys,⟨u,eu,e2⟩,rfl⟩:=e
 refine⟨F₀,H₀,O,F,ε,_,r,et,fun v F1 H1 x1 q1=>⟨F₀,H₀,O,F1,ε,_,r.ext x1,eu,fun w F2 H2 x2 q2=>?_⟩⟩
 obtain⟨c1,a1,vs,rfl,hs1,hr1⟩:=zpv e1 (q1.ext x2)
 obtain⟨c2,a2,ws,rfl,hs2,hr2⟩:=zpv e2 q2
 exact⟨c1,c2,a1,a2,vs,ws,rfl,hs1.kp Kp.refl,hs2.kp Kp.refl,k _ F2 H2 (x1.trans x2) (zm9 hs1 hr1 hs2 hr2)⟩
end
end
section
variable [Tbl]
theorem z86:∀(tk:Nat) (ps:List Str),Vals (ps.map V.str) (strsFrom tk ps)
 | _,[]=>.nil
 | tk,p::ps=>.cons ⟨tk,rfl⟩ (z86 (tk+1) ps)
theorem za6:∀{ss:List Str} {us:List Value},Vals (ss.map V.str) us->∃l:List (Str×Tok),us=strValues l/\l.map (·.1)=ss
 | [],_,.nil=>⟨[],rfl,rfl⟩
 | x::ss,_,.cons ⟨t,e⟩ r=>by
  obtain⟨l,e1,e2⟩:=za6 r
  subst e1 e2 e
  exact⟨(x,t)::l,rfl,rfl⟩
section
variable {X:Cx} {a b e:Expr} {es:List Expr} {f g h:Fe} {fs:List Fe} {pos p p2 apos cpos:Pos}
noncomputable def zte:V->List V->Hp->VK->Prop:=fun x vs H Q=>∃z y,x=.str z/\vs=[.str y]/\y.length=1/\z.length+2<=y0j/\∀p,H p=none->Q (.ref p) (upd H p (.lst ((Txt.split z y).map V.str)))
theorem zot:MtM X "str.split" zte:=by
 intro pins s σ H x vs v us Q I rx rv h
 obtain⟨z,y,rfl,rfl,hy,hz,q⟩:=h
 obtain⟨t,rfl⟩:=rx
 obtain⟨w,rfl,t2,rfl⟩:=rv.one
 have hy0:(y.length == 0)=false:=by rw[hy];rfl
 have hsl:(Txt.split z y).length<=z.length+2:=PyProof.Rows.split_le z y
 have self1:∀(e:Txt.split z y=[z]),listOfItself z t X.A (wants (EP X pins σ Q) X.xe) s:=fun e=>by
  refine⟨.ref _,_,I.lnew (t':=s.toks) (ys:=[V.str z]) (its:=[.str z t]) (.cons ⟨t,rfl⟩ .nil) (by show 1<=y0j;decide),rfl,?_⟩
  have:=q _ I.fresh
  rw[e] at this
  exact this
 cases c1:(decide (z.length<y.length) || decide (Builtin.Str.strKind z<Builtin.Str.strKind y)) with
 | true=>exact y2o F.slot_str_split (typeIs_str s z t) F.entry_str_split (F.args_str_split_2 _ _) (meets_str_split_cannot_occur z y t t2 c1) (self1 (by unfold Txt.split;rw[if_pos c1]))
 | false =>
  cases c2:(Builtin.Str.occurrences z y 0 z.length (z.length+1)).isEmpty with
  | true=>exact y2o F.slot_str_split (typeIs_str s z t) F.entry_str_split (F.args_str_split_2 _ _) (meets_str_split_not_found z y t t2 c1 hy0 c2) (self1 (by unfold Txt.split;rw[if_neg (by rw[c1];exact y1y),if_pos c2]))
  | false =>
   have es:Txt.split z y=Builtin.Str.partsBetween z (Builtin.Str.occurrences z y 0 z.length (z.length+1)) y.length:=by
    unfold Txt.split
    rw[if_neg (by rw[c1];exact y1y),if_neg (by rw[c2];exact y1y)]
   rw[es] at q hsl
   refine y2o F.slot_str_split (typeIs_str s z t) F.entry_str_split (F.args_str_split_2 _ _) (meets_str_split_sep z y t t2 c1 hy0 c2 (by omega) (by omega)) ?_
   exact⟨.ref _,_,I.lnew (z86 _ _) (by rw[y13];omega),rfl,q _ I.fresh⟩
theorem zld (ha:PEr X a f) (hb:PEr X b g) (hs1:y0a [b] X.env=(false,eval b X.env)::y0a [] X.env:=by rfl)
  (hbase:attributeBase a "split" X.env (eval a X.env)=eval a X.env:=by rfl)
  (hfew:((y2c cpos (y0a [b] X.env)).all (fun x=>!x.1) && (backToKw cpos (keywordEach [] X.env)).all (fun x=>x.1.isSome)
   && decide (([b]:List Expr).length+([]:List Keyword).length+(if ([]:List Keyword).isEmpty then 0 else 1)<30))=true:=by rfl)
  (hline:(apos.endLine == cpos.line)=true:=by rfl) (hplain:(y2c cpos (y0a [] X.env)).any (·.1)=false:=by rfl) :
  PEv X (.Call (.Attribute a "split" apos) [b] [] cpos) (op2 zc6 f g) :=
 z0v (zog PySem.F.plainAttrs_str PySem.F.slot_str_split PySem.F.type_str_split zot ha (z5s hb z8b hs1) hbase hfew hline hs1 hplain) fun σ H Q ⟨F₀,H₀,O,F,ε,t,r,e,k⟩=>by
 simp only[op2,y01] at e
 obtain⟨x,ex,y,ey,e⟩:=e
 unfold zc6 at e
 split at e
 ·split at e
  next hc =>
   cases e
   refine⟨F₀,H₀,O,F,ε,_,r,ex,fun vx F1 H1 x1 rx=>?_⟩
   rw[rx.str]
   refine⟨rfl,F₀,H₀,O,F1,ε,_,r.ext x1,ey,fun vy F2 H2 x2 ry=>?_⟩
   rw[ry.str]
   refine⟨_,_,rfl,rfl,hc.1,by rw[z7n];exact hc.2,fun q hq=>?_⟩
   refine k _ _ _ ((x1.trans x2).trans (Ext.laidF x2.dom hq)) ?_
   simp only[Rep]
   exact⟨q,_,rfl,.inr rfl,.inl z0n,zec _⟩
  next=>cases e
 ·cases e
noncomputable def rJoin (K:y00):V->List V->Hp->VK->Prop:=fun x vs H Q=>∃z p ss,x=.str z/\vs=[.ref p]/\(SqL K H p (ss.map V.str)\/SqT K H p (ss.map V.str))/\JoinOk z ss=true/\Q (.str (Txt.join z ss)) H
theorem zs0 {z:Str} {l:List Str} (h:Builtin.Str.tooLong (Array.foldl (fun x1 x2=>x1+Str.length x2+Str.length z) 0 (List.toArray l))=false):(Builtin.Str.glued z l).length<=y0j:=by
 rw[StrLaws.glued_eq_join]
 rw[StrLaws.joinTotal] at h
 have h2:=StrLaws.join_length_le z l
 have h3:¬(_ > y0j):=of_decide_eq_false h
 omega
theorem zry:MtM X "str.join" (rJoin X.K):=by
 intro pins s σ H x vs v us Q I rx rv h
 obtain⟨z,p,ss,rfl,rfl,hs,hj,q⟩:=h
 obtain⟨t,rfl⟩:=rx
 obtain⟨w,rfl,ew⟩:=rv.one
 cases ew
 rcases hs with hs|hs
 ·obtain⟨its,r,pl,hz⟩:=I.list hs
  obtain⟨l,rfl,el⟩:=za6 r
  exact SC.join pl.isList el hj fun t' k=>⟨.str _,H,I.tok k,⟨_,rfl⟩,q⟩
 ·obtain⟨its,r,pl,hz⟩:=I.tuple hs
  obtain⟨l,rfl,el⟩:=za6 r
  obtain⟨o,ho,hc,n,hd⟩:=pl
  have hj':Builtin.Str.tooLong (Array.foldl (fun x1 x2=>x1+Str.length x2+Str.length z) 0 (List.toArray (List.map (fun x=>Prod.fst x) l)))=false:=by
   rw[el]
   simpa [JoinOk] using hj
  refine y2o F.slot_str_join (typeIs_str s z t) F.entry_str_join (F.args_str_join_2 _ _) (meets_str_join_tuple z t p l hj') ⟨⟨o,n,ho,hc,hd⟩,?_⟩
  subst el
  unfold joinMade
  split
  next pr=>exact⟨.str _,H,I,⟨_,rfl⟩,by simpa [Txt.join,StrLaws.glued_eq_join,Str.join] using q⟩
  next=>exact⟨zs0 hj',.str _,H,I.tok _,⟨_,rfl⟩,q⟩
theorem zlg (ha:PEr X a f) (hb:PEr X b g) (hs1:y0a [b] X.env=(false,eval b X.env)::y0a [] X.env:=by rfl)
  (hbase:attributeBase a "join" X.env (eval a X.env)=eval a X.env:=by rfl)
  (hfew:((y2c cpos (y0a [b] X.env)).all (fun x=>!x.1) && (backToKw cpos (keywordEach [] X.env)).all (fun x=>x.1.isSome)
   && decide (([b]:List Expr).length+([]:List Keyword).length+(if ([]:List Keyword).isEmpty then 0 else 1)<30))=true:=by rfl)
  (hline:(apos.endLine == cpos.line)=true:=by rfl) (hplain:(y2c cpos (y0a [] X.env)).any (·.1)=false:=by rfl) :
  PEv X (.Call (.Attribute a "join" apos) [b] [] cpos) (op2 z7r f g) :=
 z0v (zog PySem.F.plainAttrs_str PySem.F.slot_str_join PySem.F.type_str_join zry ha (z5s hb z8b hs1) hbase hfew hline hs1 hplain) fun σ H Q ⟨F₀,H₀,O,F,ε,t,r,e,k⟩=>by
 simp only[op2,y01] at e
 obtain⟨x,ex,y,ey,e⟩:=e
 have key:∀z ts,x=.str z->(∃ss,strsOf ts=some ss/\JoinOk z ss=true/\t=.str (Txt.join z ss))->(y=.list ts\/y=.tuple ts)->tBM X.K "str" (rJoin X.K) (tR X.K f) (L2.tCons (tR X.K g) L2.tNil) σ H Q:=by
  intro z ts exz ⟨ss,es,hj,et⟩ hy
  subst exz et
  refine⟨F₀,H₀,O,F,ε,_,r,ex,fun vx F1 H1 x1 rx=>?_⟩
  rw[rx.str]
  refine⟨rfl,F₀,H₀,O,F1,ε,_,r.ext x1,ey,fun vy F2 H2 x2 ry=>?_⟩
  have e1:=ze0 es
  rcases hy with rfl|rfl
  ·obtain⟨p,vs,rfl,hs,hr⟩:=ry.lst
   rw[e1] at hr
   rw[z8v hr] at hs
   exact⟨_,_,ss,rfl,rfl,.inl (.inl hs),hj,k _ F2 H2 (x1.trans x2) (by simp[Rep])⟩
  ·obtain⟨p,vs,rfl,hs,hr⟩:=ry.tup
   rw[e1] at hr
   rw[z8v hr] at hs
   exact⟨_,_,ss,rfl,rfl,.inr hs,hj,k _ F2 H2 (x1.trans x2) (by simp[Rep])⟩
 unfold z7r at e
 split at e
 ·simp only[y01] at e
  obtain⟨ss,es,e⟩:=e
  split at e
  next hj=>cases e;exact key _ _ rfl ⟨ss,es,hj,rfl⟩ (.inl rfl)
  next=>cases e
 ·simp only[y01] at e
  obtain⟨ss,es,e⟩:=e
  split at e
  next hj=>cases e;exact key _ _ rfl ⟨ss,es,hj,rfl⟩ (.inr rfl)
  next=>cases e
 ·cases e
theorem zmy:z7h X (.type "str") (fun xs H Q=>(∃x,xs=[.str x]/\Q (.str x) H)\/∃i,xs=[.int i]/\zov i=true/\Q (.str (strI i)) H):=by
 intro pins s σ H xs us Q I r h
 rcases h with ⟨x,rfl,q⟩|⟨i,rfl,hz,q⟩
 ·obtain⟨u,rfl,t,rfl⟩:=vals1 r
  exact PySem.P.str_of_str ⟨.str x,H,I,⟨t,rfl⟩,q⟩
 ·obtain⟨u,rfl,t,rfl⟩:=vals1 r
  exact PySem.P.str_of_int (of_decide_eq_true hz) ⟨.str _,H,I.tok _,⟨_,rfl⟩,q⟩
theorem zlc (hm:X.mg "str"=none) (ha:PAr X (e::es) fs) (hg:Gl X "str":=by rfl) (he:y0a (e::es) X.env=(false,eval e X.env)::y0a es X.env:=by rfl) (hpl:(y2c pos (y0a es X.env)).any (·.1)=false:=by rfl) :
  PEv X (.Call (.Name "str" p) (e::es) [] pos) (opN oStr fs):=z0v (zai zmy hg hm (by decide +kernel) ha (he:=he) (hpl:=hpl)) (z64 (by
 intro O F H ts t vs Q d q e k
 unfold oStr at e
 split at e
 ·cases e
  cases q with
  | cons q1 q2 =>
   cases q2
   exact .inl ⟨_,by rw[q1.str],k _ F H (Ext.refl d) (by simp[Rep])⟩
 ·split at e
  next hz =>
   cases e
   cases q with
   | cons q1 q2 =>
    cases q2
    exact .inr ⟨_,by rw[q1.int],hz,k _ F H (Ext.refl d) (by simp[Rep])⟩
  next=>cases e
 ·cases e))
theorem zth (hm:X.mg "ord"=none) (ha:PAr X (e::es) fs) (hg:Gl X "ord":=by rfl) (he:y0a (e::es) X.env=(false,eval e X.env)::y0a es X.env:=by rfl) (hpl:(y2c pos (y0a es X.env)).any (·.1)=false:=by rfl) :
  PEv X (.Call (.Name "ord" p) (e::es) [] pos) (opN oOrd fs):=z0v (z79 zpk hg hm (by decide +kernel) ha (he:=he) (hpl:=hpl)) (z64 (by
 intro O F H ts t vs Q d q e k
 unfold oOrd at e
 split at e
 ·split at e
  next hz =>
   cases e
   cases q with
   | cons q1 q2 =>
    cases q2
    exact⟨_,by rw[q1.str],hz,k _ F H (Ext.refl d) (by simp[Rep])⟩
  next=>cases e
 ·cases e))
def ztd:V->List V->Hp->VK->Prop:=fun x vs H Q=>∃z i,x=.str z/\vs=[.int i]/\PadOk i=true/\Q (.str (Txt.zfill z i)) H
theorem zos:MtM X "str.zfill" ztd:=by
 intro pins s σ H x vs v us Q I rx rv h
 obtain⟨z,i,rfl,rfl,hp,q⟩:=h
 obtain⟨t,rfl⟩:=rx
 obtain⟨w,rfl,t2,rfl⟩:=rv.one
 exact SC.zfill hp fun t' k=>⟨.str _,H,I.tok k,⟨_,rfl⟩,q⟩
theorem zu5 {i:Int} (h:0<=i/\i<=1000):PadOk i=true:=by
 unfold PadOk fitsSsize Builtin.Str.tooLong
 rw[y19]
 have:y0j=big:=z7n
 unfold big at this
 constructor
 ·simp
  omega
 ·simp
  omega
theorem zr4 (ha:PEr X a f) (hb:PEr X b g) (hs1:y0a [b] X.env=(false,eval b X.env)::y0a [] X.env:=by rfl)
  (hbase:attributeBase a "zfill" X.env (eval a X.env)=eval a X.env:=by rfl)
  (hfew:((y2c cpos (y0a [b] X.env)).all (fun x=>!x.1) && (backToKw cpos (keywordEach [] X.env)).all (fun x=>x.1.isSome)
   && decide (([b]:List Expr).length+([]:List Keyword).length+(if ([]:List Keyword).isEmpty then 0 else 1)<30))=true:=by rfl)
  (hline:(apos.endLine == cpos.line)=true:=by rfl) (hplain:(y2c cpos (y0a [] X.env)).any (·.1)=false:=by rfl) :
  PEv X (.Call (.Attribute a "zfill" apos) [b] [] cpos) (op2 zan f g) :=
 z0v (zog PySem.F.plainAttrs_str PySem.F.slot_str_zfill PySem.F.type_str_zfill zos ha (z5s hb z8b hs1) hbase hfew hline hs1 hplain) fun σ H Q ⟨F₀,H₀,O,F,ε,t,r,e,k⟩=>by
 simp only[op2,y01] at e
 obtain⟨x,ex,y,ey,e⟩:=e
 unfold zan at e
 split at e
 ·split at e
  next hc =>
   cases e
   refine⟨F₀,H₀,O,F,ε,_,r,ex,fun vx F1 H1 x1 rx=>?_⟩
   rw[rx.str]
   refine⟨rfl,F₀,H₀,O,F1,ε,_,r.ext x1,ey,fun vy F2 H2 x2 ry=>?_⟩
   rw[ry.int]
   exact⟨_,_,rfl,rfl,zu5 hc,k _ F2 H2 (x1.trans x2) (by simp[Rep])⟩
  next=>cases e
 ·cases e
theorem zle (ha:PEr X a f) (hb:PEr X b g):PEv X (.BinOp a .Pow b pos) (op2 z8e f g) :=
 z0v (zd2 zu7 ha hb) (z4y (by
  intro O F H x y t vx vy Q d rx ry e k
  unfold z8e at e
  split at e
  ·split at e
   next hm =>
    cases e
    rw[rx.int,ry.int]
    obtain⟨rfl,h1,h2⟩:=hm
    exact⟨10,_,rfl,rfl,⟨h1,by omega,by decide⟩,k _ F _ (Ext.refl d) (by simp[Rep])⟩
   next=>cases e
  ·cases e))
theorem zjl {x y:Int} (h:y.natAbs.log2<8000):Builtin.divisionGoesByPylong x y=false:=by
 unfold Builtin.divisionGoesByPylong
 rw[Bool.and_eq_false_iff]
 refine .inl (decide_eq_false ?_)
 dsimp only
 split <;> omega
theorem zoi:OpR X (y2p .FloorDiv) (rI (fun _ j=>zsd j=true) fun i j=>.int (i / j)):=opI fun i j _ _ _ _ _ hc q=>by
 have hc':=(y19 _ _).mp hc
 have h1:(0:Int)<j:=of_decide_eq_true hc'.1
 exact floordiv_int (by omega) (by rw[Int.fdiv_eq_ediv_of_nonneg i (by omega)];exact q) (.inl (zjl (of_decide_eq_true hc'.2)))
theorem ztl (ha:PEr X a f) (hb:PEr X b g):PEv X (.BinOp a .FloorDiv b pos) (op2 zlu f g) :=
 z0v (zd2 zoi ha hb) (z4y (by
  intro O F H x y t vx vy Q d rx ry e k
  unfold zlu at e
  split at e
  ·split at e
   next hm =>
    cases e
    rw[rx.int,ry.int]
    exact⟨_,_,rfl,rfl,hm,k _ F H (Ext.refl d) (by simp[Rep])⟩
   next=>cases e
  ·cases e))
end
end
section
variable [Tbl]
end
section
variable [Tbl]
theorem ziv:∀{ts:List T} {bs:List Bool},bools ts=some bs->ts=bs.map .bool
 | [],bs,e=>by
  cases e
  rfl
 | t::ts,bs,e=>by
  unfold bools at e
  split at e
  ·rename_i h
   cases h
  ·rename_i h
   cases h
   simp only[y07] at e
   obtain⟨r,e1,rfl⟩:=e
   rw[ziv e1]
   rfl
  ·cases e
section
variable {X:Cx} {e:Expr} {es:List Expr} {fs:List Fe} {pos p:Pos}
theorem zn2 (hc:X.calm=true):z7h X (.builtin "all") (fun xs H Q=>∃(p:Addr) (bs:List Bool),xs=[.ref p]/\SqL X.K H p (bs.map V.bl)/\Q (.bl (bs.all id)) H):=by
 intro pins s σ H xs us Q I r h
 obtain⟨p,bs,rfl,hq,q⟩:=h
 obtain⟨u,rfl,rx⟩:=vals1 r
 cases rx
 obtain⟨its,r',pl,hz⟩:=I.list hq
 have hlt:p<s.heap.objs.size:=by obtain⟨o,n,ho,_⟩:=pl;exact y0c ho
 have hlen:its.length=bs.length:=by have:=r'.length;simpa using this.symm
 refine PySem.call_all_walk (wpAny_pyIter_list (items:=its.toArray) pl.isList ?_)
 refine⟨_,[s.heap.objs.size,p],[s.heap.objs.size],_,_,_,(fun i=>bs.getD i true),rfl,Walks.list (A:=X.A.in1) (I.ok.hd hc) _ p (y0x hlt) its.toArray,⟨⟨_,y0l _ rfl,rfl,rfl⟩,pl.isList.push _⟩,fun i v s' Q' E' hP hQ'=>?_,fun h' tk hk=>?_⟩
 ·have hi:its[i]?=some v:=by simpa using hP
  have hlt':i<bs.length:=by rw[<- hlen];exact (y0k.mp hi).1
  obtain⟨u',e1,e2⟩:=r'.get (i:=i) (x:=V.bl bs[i]) (by simp[hlt'])
  rw[hi] at e1
  cases e1
  have e2':v=.bool bs[i]:=e2
  subst e2'
  refine y2m ?_
  have:bs.getD i true=bs[i]:=by simp[hlt']
  exact this▸hQ'
 ·have e:((List.range its.toArray.size).all fun i=>bs.getD i true)=bs.all id:=by
   rw[y0h,hlen,Bool.eq_iff_iff,List.all_eq_true,List.all_eq_true]
   constructor
   ·intro h b hb
    obtain⟨i,hi,rfl⟩:=List.getElem_of_mem hb
    have:=h i (List.mem_range.mpr hi)
    have e2:bs.getD i true=bs[i]:=by simp[hi]
    rw[e2] at this
    exact this
   ·intro h i hi
    have hi':=List.mem_range.mp hi
    have e2:bs.getD i true=bs[i]:=by simp[hi']
    rw[e2]
    exact h _ (List.getElem_mem hi')
  rw[e]
  exact⟨.bl (bs.all id),H,I.kept (t':=tk) fun b o e=>hk b o (by simp only[y0y];exact y0x (y0c e)) (y03 _ e),rfl,q⟩
theorem zgp (hc:X.calm=true) (hm:X.mg "all"=none) (ha:PAr X (e::es) fs) (hg:Gl X "all":=by rfl) (he:y0a (e::es) X.env=(false,eval e X.env)::y0a es X.env:=by rfl) (hpl:(y2c pos (y0a es X.env)).any (·.1)=false:=by rfl) :
  PEv X (.Call (.Name "all" p) (e::es) [] pos) (opN z6q fs):=z0v (z79 (zn2 hc) hg hm (by decide +kernel) ha (he:=he) (hpl:=hpl)) (z64 (by
 intro O F H ts t vs Q d q e k
 unfold z6q at e
 split at e
 ·simp only[y07] at e
  obtain⟨bs,en,rfl⟩:=e
  have:=ziv en
  subst this
  cases q with
  | cons q1 q2 =>
   cases q2
   obtain⟨l0,ws,rfl,hl,hr⟩:=q1.lst
   have:=zc3 hr
   subst this
   exact⟨l0,bs,rfl,.inl hl,k _ F H (Ext.refl d) (by simp[Rep])⟩
 ·cases e))
end
end
section
variable [Tbl]
def frz (i:Nat):Fs:=fun ε=>match ε[i]? with
 | some (some (.own ts))=>some (.nx (ε.set i (some (.imm (.list ts)))))
 | _=>none
theorem RelE.freeze {K:y00} {F₀ O F:Addr->Prop} {E:En} {H:Hp} {ε:Ev} {σ:L2.St} (r:RelE K F₀ E O F H ε σ) {i:Nat} {ts:List T} (e:ε[i]?=some (some (.own ts))) :
  ∃F':Addr->Prop,Kp K F H F' H/\RelE K F₀ E O F' H (ε.set i (some (.imm (.list ts)))) σ:=by
 obtain⟨v,hv,a,vs,rfl,nF,hO,ha,q⟩:=r.val i _ e
 have kp:Kp K F H (fun b=>F b\/b=a) H:=⟨fun _ _ z=>z,fun b xs f z=>⟨.inl f,z⟩⟩
 have h0:=r.o0 a hO
 refine⟨fun b=>F b\/b=a,kp,⟨by simp[r.len],fun j s ej=>?_,fun j k s u v w hjk e1 e2 o1 o2 h1 h2=>?_,?_,r.o0,r.fr⟩⟩
 ·rcases get_set ej with ⟨rfl,e',hl⟩|⟨ne,e'⟩
  ·cases e'
   refine⟨_,hv,?_⟩
   show Rep K _ H (.list ts) (.ref a)
   simp only[Rep]
   exact⟨a,vs,rfl,.inr rfl,.inl ha,q.kp kp⟩
  ·obtain⟨w,h1,h2⟩:=r.val j s e'
   refine⟨w,h1,(h2.keep kp (fun _ _=>rfl) (fun b hb f=>?_) fun _ _ o=>o).1⟩
   rcases f with f|rfl
   ·exact f
   ·exfalso
    cases ou:s.isOwn with
    | true=>exact r.ne i j (.own ts) s (.ref b) w ne e e' rfl ou hv h1 b (by simp[fpS,rf]) hb
    | false=>exact (h2.held hb).2.2 ou h0
 ·rcases get_set e1 with ⟨rfl,e',hl⟩|⟨ne1,e1'⟩
  ·cases e'
   cases o1
  ·rcases get_set e2 with ⟨rfl,e',hl⟩|⟨ne2,e2'⟩
   ·cases e'
    cases o2
   ·exact r.ne j k s u v w hjk e1' e2' o1 o2 h1 h2
 ·have x2:=r.ent
  exact⟨x2.same,fun b z=>.inl (x2.sub b z),fun b z=>by
   rcases z with z|rfl
   ·exact x2.new b z
   ·exact .inr h0,⟨fun b z=>by
   rcases z with z|rfl
   ·exact x2.dom b z
   ·exact⟨_,ha⟩,x2.dom.tgs⟩⟩
theorem zwp {X:Cx} {rest:List Stmt} {g:Fs} (i:Nat) (h:PBt X rest g):PBt X rest (seq (frz i) g):=zi1 h fun D σ H ⟨F₀,H₀,O,F,ε,o,r,e,k⟩=>by
 simp only[seq,y01] at e
 obtain⟨o1,e1,e2⟩:=e
 unfold frz at e1
 split at e1
 next ts he =>
  cases e1
  obtain⟨F',kp,r'⟩:=r.freeze he
  exact⟨F₀,H₀,O,F',_,o,r',e2,k.kp kp⟩
 next=>cases e1
section
variable {P:y0q} {w:World} {K:y00} {mg:Str->Option Value} {base:Heap} {k:Nat} {q c':Addr} {N:List Str} {qual:Str} {scope:Scope} {cd:Value} {cl:List (Str×Addr)} {A:Around} {outer:List Env} {s:y04} {H:Hp} {σ:L2.St}
end
end
section
variable [Tbl]
section
variable {X:Cx} {e st:Expr} {te:TE} {f:Fe} {pos p2:Pos}
end
end
section
variable [Tbl]
section
variable {X:Cx} {a b:Expr} {f g:Fe} {p pos:Pos}
theorem zto (ha:PEr X a f) (hb:PEr X b g):PEn X (.BinOp a .Add b pos) (op2 oAdd f g) :=
 z0v (zd2 zlo ha hb) fun σ H Q ⟨F₀,H₀,O,F,ε,ts,r,e,k⟩=>by
  simp only[op2,y01] at e
  obtain⟨x,ex,y,ey,eo⟩:=e
  refine⟨F₀,H₀,O,F,ε,x,r,ex,fun vx F1 H1 x1 rx=>⟨F₀,H₀,O,F1,ε,y,r.ext x1,ey,fun vy F2 H2 x2 ry=>?_⟩⟩
  unfold oAdd at eo
  split at eo
  ·cases eo
  ·split at eo <;> cases eo
  ·split at eo <;> cases eo
  ·split at eo
   next xs ys hz =>
    cases eo
    obtain⟨ax,vs,rfl,hs,hr⟩:=(rx.ext x2).lst
    obtain⟨ay,ws,rfl,hs',hr'⟩:=ry.lst
    refine⟨_,_,_,_,rfl,rfl,hs,hs',by rw[z7n,<- hr.length,<- hr'.length];exact hz,fun q hq=>?_⟩
    have x3:Ext F2 H2 F2 (upd H2 q (.lst (vs++ws))):=Ext.laid x2.dom hq
    exact k q _ F2 _ ((x1.trans x2).trans x3) ((x1.trans x2).same.none hq) (fun fp=>by
     obtain⟨o,eo⟩:=x2.dom q fp
     rw[hq] at eo
     cases eo) z0n ((hr.append hr').ext x3)
   next=>cases eo
  ·cases eo
end
end
section
variable [Tbl]
noncomputable def z8w:List T->Option T
 | [.tuple ts]=>if (PyData.tuple ts).showable && !(PyData.tuple ts).hasDict && decide ((PyData.tuple ts).depth<=60) && decide ((PyData.tuple ts).shown.length<=1000000) then some (.str (PyData.tuple ts).shown) else none
 | _=>none
section
variable {X:Cx} {a:Expr} {f:Fe} {p pos:Pos}
theorem zsg (hgd:X.A.guards=some []) (hu:X.A.units+62<cLine):z7h X (.builtin "repr") (fun xs H Q=>∃(l:Addr) (t:T) (F:Addr->Prop),xs=[.ref l]/\Rep X.K F H t (.ref l)/\t.showable=true/\t.hasDict=false/\t.depth<=60/\t.shown.length<=1000000/\Q (.str t.shown) H):=by
 intro pins s σ H xs us Q I r h
 obtain⟨l,t,F,rfl,rt,h1,h2,h3,h4,q⟩:=h
 obtain⟨u,rfl,rx⟩:=vals1 r
 cases rx
 obtain⟨as,rd⟩:=zcy I rt (show RelV (.ref l) (.ref l) from rfl)
 refine PySem.repr_of_reads' rd h1 (fun z=>by rw[h2] at z;cases z) hgd (by omega) (fun _ _ e=>e) (fun h' u tk keep=>?_) (by rw[sizeLine_eq];omega)
 exact⟨.str t.shown,H,I.kept (t':=tk) keep,⟨u,rfl⟩,q⟩
theorem zr6 (hgd:X.A.guards=some []) (hu:X.A.units+62<cLine) (hm:X.mg "repr"=none) {e:Expr} {es:List Expr} {fs:List Fe} (ha:PAr X (e::es) fs) (hg:Gl X "repr":=by rfl) (he:y0a (e::es) X.env=(false,eval e X.env)::y0a es X.env:=by rfl) (hpl:(y2c pos (y0a es X.env)).any (·.1)=false:=by rfl) :
  PEv X (.Call (.Name "repr" p) (e::es) [] pos) (opN z8w fs):=z0v (z79 (zsg hgd hu) hg hm (by decide +kernel) ha (he:=he) (hpl:=hpl)) (z64 (by
 intro O F H ts t vs Q d q e k
 unfold z8w at e
 split at e
 next us =>
  split at e
  next hz =>
   cases e
   simp only[y19,Bool.not_eq_true',decide_eq_true_eq] at hz
   cases q with
   | cons q1 q2 =>
    cases q2
    rcases q1 with q1|⟨ts,a,vs,h1,_⟩
    ·obtain⟨a,ws,rfl,hs,hr⟩:=RepR.tup (O:=O) (.inl q1)
     exact⟨a,.tuple us,F,rfl,q1,hz.1.1.1,hz.1.1.2,hz.1.2,hz.2,k _ F H (Ext.refl d) (by simp[Rep])⟩
    ·cases h1
  next=>cases e
 next=>cases e))
theorem zc4 {k:Nat} (hr:Room k X.A) (hm:X.mg "repr"=none) {e:Expr} {es:List Expr} {fs:List Fe} (ha:PAr X (e::es) fs) (hg:Gl X "repr":=by rfl) (he:y0a (e::es) X.env=(false,eval e X.env)::y0a es X.env:=by rfl) (hpl:(y2c pos (y0a es X.env)).any (·.1)=false:=by rfl) :
  PEv X (.Call (.Name "repr" p) (e::es) [] pos) (opN z8w fs):=zr6 hr.gd (by have:=hr.un;omega) hm ha hg he hpl
end
end
end D
end
section
namespace Co
open D
end Co
end
section
namespace Co
open D Co
def z38:Fs :=
  (seq (iff (tstB (op2 oLt (nm 1) (opN oLen [(nm 0)]))) (rtn (op2 oIx (nm 0) (nm 1))) skip)
  (rtn (cst (.int 0))))
def z0z:List T->Option T:=runF z38 2
noncomputable def z5e:Fs :=
  (seq (asg 2 (op2 oMod (op2 oMul (op2 oAdd (op2 oAdd (opN z0z [(nmV 0),(nmV 1)]) (op2 oMul (cst (.int 7919)) (nm 1))) (cst (.int 1))) (cst (.int 48271))) (cst (.int 2147483647))))
  (rtn (op2 oMod (op2 oAdd (op2 oAdd (op2 oMul (nm 2) (nm 2)) (op2 oMul (cst (.int 7)) (nm 2))) (nm 1)) (cst (.int 2147483629)))))
def z1s:List T->Option T:=runF z5e 3
noncomputable def z5f:Fs :=
  (seq (asg 2 (op2 oMod (op2 oMul (op2 oAdd (op2 oAdd (nm 0) (op2 oMul (cst (.int 104729)) (nm 1))) (cst (.int 17))) (cst (.int 69621))) (cst (.int 2147483647))))
  (rtn (op2 oMod (op2 oAdd (op2 oAdd (op2 oMul (nm 2) (nm 2)) (op2 oMul (cst (.int 3)) (nm 2))) (nm 1)) (cst (.int 2147483629)))))
def z0l:List T->Option T:=runF z5f 3
noncomputable def zpp:Fs :=
  (seq (asg 1 (z06 []))
  (seq (for_ (z6e (z9o (z06 [(cst (.str "a")),(cst (.str "b")),(cst (.str "back")),(cst (.str "d")),(cst (.str "hall")),(cst (.str "r")),(cst (.str "win")),(cst (.str "z"))]))) (gTu [(gNm 2),(gNm 3)])
  (seq (asg 4 (op2 oDiv (opN z0l [(nmV 0),(nmV 2)]) (cst (.int 4))))
  (iff (orT (tstB (op2 oLt (op2 oMod (nm 4) (cst (.int 8))) (op2 oAdd (cst (.int 3)) (op2 oMod (nm 0) (cst (.int 5)))))) (tstB (op2 oEq (nm 2) (op2 oMod (op2 oDiv (nm 0) (cst (.int 8))) (cst (.int 8)))))) (asg 1 (op2 oAdd (nm 1) (z06 [(z06 [(nmV 3),(op2 oIx (z06 [(cst (.str "day")),(cst (.str "inner")),(cst (.str "once")),(cst (.str "way")),(cst (.str "way"))]) (op2 oMod (op2 oDiv (nm 4) (cst (.int 8))) (cst (.int 5))))])]))) skip)))
  (seq (asg 5 (z06 []))
  (seq (for_ (z6e (z9o (z06 [(cst (.str "0000")),(cst (.str "1234")),(cst (.str "4321")),(cst (.str "7777")),(cst (.str "9990")),(cst (.str "9999"))]))) (gTu [(gNm 2),(gNm 6)])
  (seq (asg 4 (op2 oDiv (opN z0l [(nmV 0),(op2 oAdd (cst (.int 10)) (nm 2))]) (cst (.int 4))))
  (iff (orT (tstB (op2 oGt (op2 oMod (nm 4) (cst (.int 3))) (cst (.int 0)))) (tstB (op2 oEq (nm 2) (cst (.int 1))))) (seq (asg 7 (opN z0t [(comp 1 [4] (z3p (cst (.int 3))) (gNm 0) (tstB (op2 oGt (op2 oMod (op2 oDiv (nm 1) (op2 oIx (z06 [(cst (.int 4)),(cst (.int 16)),(cst (.int 64))]) (nm 0))) (cst (.int 4))) (cst (.int 0)))) (op2 oIx (z06 [(cst (.str "set")),(cst (.str "shunt")),(cst (.str "unset"))]) (nm 0)))]))
  (seq (asg 8 (op2 oIx (z06 [(cst (.str "ann")),(cst (.str "bo")),(cst (.str "cy"))]) (op2 oMod (op2 oDiv (nm 4) (cst (.int 256))) (cst (.int 3)))))
  (asg 5 (op2 oAdd (nm 5) (z06 [(z06 [(nmV 6),(nmV 8),(nmV 7),(op2 oIx (z06 [(cst (.int 0)),(cst (.int 0)),(cst (.int 1)),(cst (.int 2)),(cst (.int 9))]) (op2 oMod (op2 oDiv (nm 4) (cst (.int 1024))) (cst (.int 5))))])]))))) skip)))
  (seq (asg 4 (op2 oDiv (opN z0l [(nmV 0),(cst (.int 20))]) (cst (.int 4))))
  (seq (asg 9 (z06 [(op2 oIx (z06 [(cst (.int 0)),(cst (.int 5)),(cst (.int 30)),(cst (.int 60))]) (op2 oMod (nm 4) (cst (.int 4)))),(op2 oIx (z06 [(cst (.int 0)),(cst (.int 4)),(cst (.int 20)),(cst (.int 60))]) (op2 oMod (op2 oDiv (nm 4) (cst (.int 4))) (cst (.int 4)))),(op2 oIx (z06 [(cst (.int 1)),(cst (.int 9)),(cst (.int 120)),(cst (.int 300))]) (op2 oMod (op2 oDiv (nm 4) (cst (.int 16))) (cst (.int 4))))]))
  (rtn (z06 [(nmV 1),(nmV 5),(nmV 9)]))))))))
def za3:List T->Option T:=runF zpp 10
noncomputable def zg0:Fs :=
  (seq (asg 2 (op2 oIx (op2 oIx (op2 oIx (nm 0) (cst (.int 0))) (op2 oMod (op2 oDiv (nm 1) (cst (.int 8))) (opN oLen [(op2 oIx (nm 0) (cst (.int 0)))]))) (cst (.int 0))))
  (seq (asg 3 (op2 oMod (nm 1) (cst (.int 10))))
  (seq (iff (tstB (op2 oLt (nm 3) (cst (.int 5)))) (rtn (z06 [(cst (.str "line")),(nmV 2),(op2 oIx (z06 [(cst (.str "shut")),(cst (.str "open")),(cst (.str "open")),(cst (.str "cut"))]) (op2 oMod (op2 oDiv (nm 1) (cst (.int 512))) (cst (.int 4))))])) skip)
  (seq (iff (tstB (op2 oLt (nm 3) (cst (.int 7)))) (rtn (z06 [(cst (.str "ticks")),(op2 oAdd (cst (.int 1)) (op2 oMod (op2 oDiv (nm 1) (cst (.int 64))) (op2 oIx (z06 [(cst (.int 3)),(cst (.int 40)),(cst (.int 200))]) (op2 oMod (op2 oDiv (nm 1) (cst (.int 4096))) (cst (.int 3))))))])) skip)
  (seq (asg 4 (op2 oIx (op2 oIx (op2 oIx (nm 0) (cst (.int 1))) (op2 oMod (op2 oDiv (nm 1) (cst (.int 64))) (opN oLen [(op2 oIx (nm 0) (cst (.int 1)))]))) (cst (.int 0))))
  (seq (iff (tstB (op2 oEq (op2 oMod (op2 oDiv (nm 1) (cst (.int 65536))) (cst (.int 4))) (cst (.int 0)))) (asg 4 (op2 oIx (z06 [(cst (.str "0001")),(cst (.str "1111")),(cst (.str "9999")),(cst (.str "0000"))]) (op2 oMod (op2 oDiv (nm 1) (cst (.int 512))) (cst (.int 4))))) skip)
  (seq (asg 5 (op2 oIx (z06 [(cst (.str "set")),(cst (.str "set")),(cst (.str "unset")),(cst (.str "shunt")),(cst (.str "free")),(cst (.str "shunt"))]) (op2 oMod (op2 oDiv (nm 1) (cst (.int 4096))) (cst (.int 6)))))
  (seq (iff (tstB (op2 (oIn false) (nm 5) (z06 [(cst (.str "set")),(cst (.str "unset"))]))) (rtn (z06 [(cst (.str "code")),(nmV 4),(nmV 5),(cst .none)])) skip)
  (rtn (z06 [(cst (.str "code")),(nmV 4),(nmV 5),(nmV 2)]))))))))))
def z2v:List T->Option T:=runF zg0 6
noncomputable def zds:Fs :=
  (seq (asg 3 (opN z0t [(comp 1 [0,1] (z3p (op2 oMod (nm 1) (op2 oAdd (nm 2) (cst (.int 1))))) (gNm 0) (cstT true) (opN z2v [(nmV 1),(op2 oDiv (opN z0l [(nmV 2),(op2 oAdd (cst (.int 30)) (nm 0))]) (cst (.int 4)))]))]))
  (seq (iff (andT (tstB (op2 oEq (op2 oMod (op2 oDiv (nm 1) (cst (.int 64))) (cst (.int 5))) (cst (.int 0)))) (tstB (op2 oGt (opN oLen [(nm 3)]) (cst (.int 2))))) (asg 3 (op2 oAdd (slice (nm 3) optN (opt (op1 oNeg (cst (.int 3))))) (op2 oRep (z06 [(z06 [(cst (.str "code")),(cst (.str "5555")),(cst (.str "unset")),(cst .none)])]) (cst (.int 3))))) skip)
  (rtn (nm 3))))
def zb2:List T->Option T:=runF zds 4
end Co
end
section
namespace Fo
open D Co
noncomputable def z71:Fs :=
  (seq (asg 1 (op2 oAdd (cst (.int 1)) (op2 oMod (nm 0) (cst (.int 7)))))
  (seq (asg 2 (z06 []))
  (seq (for_ (z3p (op2 oMod (op2 oDiv (nm 0) (cst (.int 8))) (cst (.int 11)))) (gNm 3)
  (seq (asg 4 (op2 oDiv (opN z0l [(nmV 0),(op2 oAdd (cst (.int 50)) (nm 3))]) (cst (.int 4))))
  (seq (asg 5 (op2 oMod (nm 4) (op2 oAdd (nm 1) (cst (.int 1)))))
  (seq (asg 6 (op2 oMod (op2 oAdd (op2 oAdd (nm 5) (cst (.int 1))) (op2 oMod (op2 oDiv (nm 4) (cst (.int 8))) (nm 1))) (op2 oAdd (nm 1) (cst (.int 1)))))
  (seq (asg 7 (op2 oIx (z06 [(cst .none),(cst .none),(cst (.str "a")),(cst (.str "b")),(cst (.str "back")),(cst (.str "hall")),(cst (.str "win"))]) (op2 oMod (op2 oDiv (nm 4) (cst (.int 64))) (cst (.int 7)))))
  (asg 2 (op2 oAdd (nm 2) (z06 [(z06 [(opN oMin [(nm 5),(nm 6)]),(opN oMax [(nm 5),(nm 6)]),(nmV 7)])]))))))))
  (rtn (z06 [(nmV 1),(nmV 2)])))))
def d_l_house:List T->Option T:=runF z71 8
def zn4:Fs :=
  (rtn (op2 z7r (cst (.str "")) (comp 1 [] (itA (nmV 0)) (gNm 0) (cstT true) (op2 oAdd (op2 z7r (cst (.str " ")) (nm 0)) (cst (.str "\n"))))))
def z3i:List T->Option T:=runF zn4 1
def zfx:Fs :=
  (rtn (z06 [(cst (.str "zone")),(op2 oIx (nm 0) (cst (.int 0))),(op2 oIx (nm 0) (cst (.int 1)))]))
def z3c:List T->Option T:=runF zfx 1
noncomputable def z8m:Fs :=
  (seq (asg 1 (nmV 0))
  (seq (asg 2 (cst (.str "")))
  (seq (whl (tstB (op2 oGe (nm 1) (op2 z8e (cst (.int 10)) (cst (.int 64))))) (seq (asg 2 (op2 oAdd (op2 zan (opN oStr [(op2 oMod (nm 1) (op2 z8e (cst (.int 10)) (cst (.int 64))))]) (cst (.int 64))) (nm 2)))
  (asg 1 (op2 zlu (nm 1) (op2 z8e (cst (.int 10)) (cst (.int 64)))))) 1000)
  (rtn (op2 oAdd (opN oStr [(nm 1)]) (nm 2))))))
def z0c:List T->Option T:=runF z8m 3
noncomputable def zg4:Fs :=
  (rtn (op2 oAdd (z06 [(cst (.str "code")),(op2 oIx (nm 0) (cst (.int 0))),(op2 oIx (nm 0) (cst (.int 1))),(opN z0c [(op2 oIx (nm 0) (cst (.int 3)))])]) (op2 oIx (nm 0) (cst (.int 2)))))
def z1l:List T->Option T:=runF zg4 1
noncomputable def zbb:Fs :=
  (seq (asg 1 (op2 oAdd (z3g [(cst (.str "times"))]) (comp 1 [] (itA (op2 oIx (nm 0) (cst (.int 2)))) (gNm 0) (cstT true) (opN z0c [(nmV 0)]))))
  (seq (asg 2 (comp 1 [] (itA (op2 oIx (nm 0) (cst (.int 0)))) (gNm 0) (cstT true) (opN z3c [(nmV 0)])))
  (seq (asg 3 (comp 1 [] (itA (op2 oIx (nm 0) (cst (.int 1)))) (gNm 0) (cstT true) (opN z1l [(nmV 0)])))
  (rtn (opN z3i [(op2 oAdd (op2 oAdd (z3g [(nmV 1)]) (nm 2)) (nm 3))])))))
def z15:List T->Option T:=runF zbb 4
noncomputable def z70:Fs :=
  (seq (asg 1 (ifE (tstB (op1 oIsN (op2 oIx (nm 0) (cst (.int 2))))) (cst (.str "-")) (op2 oIx (nm 0) (cst (.int 2)))))
  (rtn (z06 [(opN z0c [(op2 oIx (nm 0) (cst (.int 0)))]),(opN z0c [(op2 oIx (nm 0) (cst (.int 1)))]),(nmV 1)])))
def z0w:List T->Option T:=runF z70 2
noncomputable def z9g:Fs :=
  (seq (asg 1 (z06 [(cst (.str "rooms")),(opN z0c [(op2 oIx (nm 0) (cst (.int 0)))])]))
  (rtn (opN z3i [(op2 oAdd (z3g [(nmV 1)]) (comp 1 [] (itA (op2 oIx (nm 0) (cst (.int 1)))) (gNm 0) (cstT true) (opN z0w [(nmV 0)])))])))
def z13:List T->Option T:=runF z9g 2
noncomputable def z8n:Fs :=
  (seq (iff (tstB (op2 oEq (op2 oIx (nm 0) (cst (.int 0))) (cst (.str "ticks")))) (rtn (z06 [(cst (.str "ticks")),(opN z0c [(op2 oIx (nm 0) (cst (.int 1)))])])) skip)
  (seq (iff (andT (tstB (op2 oEq (op2 oIx (nm 0) (cst (.int 0))) (cst (.str "code")))) (tstB (op1 oIsN (op2 oIx (nm 0) (cst (.int 3)))))) (rtn (z1i (nm 0) optN (opt (cst (.int 3))))) skip)
  (rtn (nm 0))))
def z1k:List T->Option T:=runF z8n 1
def zki:Fs :=
  (rtn (opN z3i [(comp 1 [] (itA (nmV 0)) (gNm 0) (cstT true) (opN z1k [(nmV 0)]))]))
def z1j:List T->Option T:=runF zki 1
def zkk:Fs :=
  (rtn (andV (op1 (oIsI "tuple") (nm 0)) (chain oLe oLe (nm 1) (opN oLen [(nm 0)]) (nm 2))))
def z05:List T->Option T:=runF zkk 3
def zsi:Fs :=
  (rtn (opN z6q [(comp 2 [] (zk0 (z3n (nmV 0)) (z3n (z1i (nm 0) (opt (cst (.int 1))) optN))) (gTu [(gNm 0),(gNm 1)]) (cstT true) (op2 oLt (nm 0) (nm 1)))]))
def z50:List T->Option T:=runF zsi 1
noncomputable def zg1:Fs :=
  (seq (iff (orT (notT (tstB (op1 (oIsI "str") (nm 0)))) (notT (tstB (chain oLe oLe (nm 1) (opN oLen [(nm 0)]) (nm 2))))) (rtn (cst (.bool false))) skip)
  (rtn (opN z6q [(comp 1 [3,4] (itA (nmV 0)) (gNm 0) (cstT true) (chain oLe oLe (nm 1) (nm 0) (nm 2)))])))
def z28:List T->Option T:=runF zg1 5
def zn8:Fs :=
  (rtn (opN z28 [(nmV 0),(cst (.int 1)),(cst (.int 4)),(cst (.str "a")),(cst (.str "z"))]))
def z45:List T->Option T:=runF zn8 1
noncomputable def zn6:Fs :=
  (rtn (andV (opN z05 [(nmV 0),(cst (.int 2)),(cst (.int 2))]) (andV (opN z45 [(op2 oIx (nm 0) (cst (.int 0)))]) (op2 (oIn false) (op2 oIx (nm 0) (cst (.int 1))) (cst (.tuple (z8p ["day","inner","once","way"])))))))
def z5w:List T->Option T:=runF zn6 1
noncomputable def zbf:Fs :=
  (seq (iff (orT (notT (tstB (opN z05 [(nmV 0),(cst (.int 1)),(cst (.int 8))]))) (notT (tstB (opN z6q [(comp 1 [] (itA (nmV 0)) (gNm 0) (cstT true) (opN z5w [(nmV 0)]))])))) (rtn (cst (.bool false))) skip)
  (rtn (opN z50 [(comp 1 [] (itA (nmV 0)) (gNm 0) (cstT true) (op2 oIx (nm 0) (cst (.int 0))))])))
def z53:List T->Option T:=runF zbf 1
def zg2:Fs :=
  (rtn (opN z28 [(nmV 0),(cst (.int 4)),(cst (.int 4)),(cst (.str "0")),(cst (.str "9"))]))
def z2m:List T->Option T:=runF zg2 1
noncomputable def zg5:Fs :=
  (rtn (andV (opN z05 [(nmV 0),(cst (.int 0)),(cst (.int 3))]) (andV (opN z6q [(comp 1 [] (itA (nmV 0)) (gNm 0) (cstT true) (op2 (oIn false) (nm 0) (cst (.tuple (z8p ["set","shunt","unset"])))))]) (opN z50 [(nmV 0)]))))
def z5r:List T->Option T:=runF zg5 1
def zkj:Fs :=
  (rtn (andV (op1 (oIsI "int") (nm 0)) (notV (op1 (oIsI "bool") (nm 0)))))
def z4h:List T->Option T:=runF zkj 1
def zhx:Fs :=
  (rtn (andV (opN z4h [(nmV 0)]) (chain oLe oLe (nm 1) (nm 0) (nm 2))))
def z0s:List T->Option T:=runF zhx 3
noncomputable def zg3:Fs :=
  (seq (iff (notT (tstB (opN z05 [(nmV 0),(cst (.int 4)),(cst (.int 4))]))) (rtn (cst (.bool false))) skip)
  (rtn (andV (opN z2m [(op2 oIx (nm 0) (cst (.int 0)))]) (andV (opN z45 [(op2 oIx (nm 0) (cst (.int 1)))]) (andV (opN z5r [(op2 oIx (nm 0) (cst (.int 2)))]) (opN z0s [(op2 oIx (nm 0) (cst (.int 3))),(cst (.int 0)),(cst (.int 9))]))))))
def z5y:List T->Option T:=runF zg3 1
noncomputable def zbh:Fs :=
  (seq (iff (orT (notT (tstB (opN z05 [(nmV 0),(cst (.int 1)),(cst (.int 6))]))) (notT (tstB (opN z6q [(comp 1 [] (itA (nmV 0)) (gNm 0) (cstT true) (opN z5y [(nmV 0)]))])))) (rtn (cst (.bool false))) skip)
  (rtn (opN z50 [(comp 1 [] (itA (nmV 0)) (gNm 0) (cstT true) (op2 oIx (nm 0) (cst (.int 0))))])))
def z55:List T->Option T:=runF zbh 1
noncomputable def zbg:Fs :=
  (seq (iff (notT (tstB (opN z05 [(nmV 0),(cst (.int 3)),(cst (.int 3))]))) (rtn (cst (.bool false))) skip)
  (rtn (andV (opN z0s [(op2 oIx (nm 0) (cst (.int 0))),(cst (.int 0)),(cst (.int 60))]) (andV (opN z0s [(op2 oIx (nm 0) (cst (.int 1))),(cst (.int 0)),(cst (.int 60))]) (opN z0s [(op2 oIx (nm 0) (cst (.int 2))),(cst (.int 1)),(cst (.int 300))])))))
def z54:List T->Option T:=runF zbg 1
noncomputable def zn7:Fs :=
  (rtn (andV (opN z05 [(nmV 0),(cst (.int 3)),(cst (.int 3))]) (andV (opN z53 [(op2 oIx (nm 0) (cst (.int 0)))]) (andV (opN z55 [(op2 oIx (nm 0) (cst (.int 1)))]) (opN z54 [(op2 oIx (nm 0) (cst (.int 2)))])))))
def z6r:List T->Option T:=runF zn7 1
noncomputable def z9f:Fs :=
  (seq (iff (orT (notT (tstB (opN z05 [(nmV 1),(cst (.int 3)),(cst (.int 3))]))) (notT (tstB (opN z0s [(op2 oIx (nm 1) (cst (.int 1))),(cst (.int 1)),(nmV 0)])))) (rtn (cst (.bool false))) skip)
  (rtn (andV (opN z0s [(op2 oIx (nm 1) (cst (.int 0))),(cst (.int 0)),(op2 oSub (op2 oIx (nm 1) (cst (.int 1))) (cst (.int 1)))]) (orV (op1 oIsN (op2 oIx (nm 1) (cst (.int 2)))) (opN z45 [(op2 oIx (nm 1) (cst (.int 2)))])))))
def z44:List T->Option T:=runF z9f 2
noncomputable def zcg:Fs :=
  (seq (iff (orT (notT (tstB (opN z05 [(nmV 0),(cst (.int 2)),(cst (.int 2))]))) (orT (notT (tstB (opN z0s [(op2 oIx (nm 0) (cst (.int 0))),(cst (.int 1)),(cst (.int 7))]))) (notT (tstB (opN z05 [(op2 oIx (nm 0) (cst (.int 1))),(cst (.int 0)),(cst (.int 10))]))))) (rtn (cst (.bool false))) skip)
  (rtn (opN z6q [(comp 1 [0] (itA (op2 oIx (nm 0) (cst (.int 1)))) (gNm 0) (cstT true) (opN z44 [(op2 oIx (nm 1) (cst (.int 0))),(nmV 0)]))])))
def z4i:List T->Option T:=runF zcg 1
def zkm:Fs :=
  (rtn (op2 (oIn false) (nm 1) (comp 1 [] (itA (op2 oIx (nm 0) (cst (.int 0)))) (gNm 0) (cstT true) (op2 oIx (nm 0) (cst (.int 0))))))
def z4j:List T->Option T:=runF zkm 2
noncomputable def zbe:Fs :=
  (rtn (andV (opN z05 [(nmV 1),(cst (.int 3)),(cst (.int 3))]) (andV (op2 oEq (op2 oIx (nm 1) (cst (.int 0))) (cst (.str "line"))) (andV (opN z4j [(nmV 0),(op2 oIx (nm 1) (cst (.int 1)))]) (op2 (oIn false) (op2 oIx (nm 1) (cst (.int 2))) (cst (.tuple (z8p ["shut","open","cut"]))))))))
def z3j:List T->Option T:=runF zbe 2
noncomputable def z72:Fs :=
  (seq (iff (orT (notT (tstB (opN z05 [(nmV 1),(cst (.int 4)),(cst (.int 4))]))) (orT (tstB (op2 oNe (op2 oIx (nm 1) (cst (.int 0))) (cst (.str "code")))) (notT (tstB (opN z2m [(op2 oIx (nm 1) (cst (.int 1)))]))))) (rtn (cst (.bool false))) skip)
  (seq (iff (tstB (op2 (oIn false) (op2 oIx (nm 1) (cst (.int 2))) (cst (.tuple (z8p ["set","unset"]))))) (rtn (op1 oIsN (op2 oIx (nm 1) (cst (.int 3))))) skip)
  (rtn (andV (op2 (oIn false) (op2 oIx (nm 1) (cst (.int 2))) (cst (.tuple (z8p ["shunt","free"])))) (opN z4j [(nmV 0),(op2 oIx (nm 1) (cst (.int 3)))])))))
def z2n:List T->Option T:=runF z72 2
noncomputable def z9t:Fs :=
  (rtn (andV (opN z05 [(nmV 0),(cst (.int 2)),(cst (.int 2))]) (andV (op2 oEq (op2 oIx (nm 0) (cst (.int 0))) (cst (.str "ticks"))) (andV (opN z4h [(op2 oIx (nm 0) (cst (.int 1)))]) (op2 oGe (op2 oIx (nm 0) (cst (.int 1))) (cst (.int 1)))))))
def z2y:List T->Option T:=runF z9t 1
def zkl:Fs :=
  (rtn (orV (opN z3j [(nmV 0),(nmV 1)]) (orV (opN z2n [(nmV 0),(nmV 1)]) (opN z2y [(nmV 1)]))))
def z5x:List T->Option T:=runF zkl 2
noncomputable def zbd:Fs :=
  (seq (iff (notT (tstB (opN z28 [(nmV 0),(cst (.int 1)),(opN oLen [(nm 0)]),(cst (.str "0")),(cst (.str "9"))]))) (rtn (cst .none)) skip)
  (seq (asg 1 (cst (.int 0)))
  (seq (for_ (itA (nmV 0)) (gNm 2)
  (asg 1 (op2 oSub (op2 oAdd (op2 oMul (nm 1) (cst (.int 10))) (opN oOrd [(nm 2)])) (opN oOrd [(cst (.str "0"))]))))
  (rtn (nm 1)))))
def z51:List T->Option T:=runF zbd 3
def zfy:Fs :=
  (rtn (opN z0t [(comp 1 [] (itA (nmV 0)) (gNm 0) (cstT true) (opN z51 [(nmV 0)]))]))
def z18:List T->Option T:=runF zfy 1
noncomputable def z9h:Fs :=
  (seq (iff (tstB (op2 oEq (op2 oIx (nm 0) (cst (.int 0))) (cst (.str "ticks")))) (rtn (op2 oAdd (z06 [(cst (.str "ticks"))]) (opN z18 [(z1i (nm 0) (opt (cst (.int 1))) optN)]))) skip)
  (seq (iff (andT (tstB (op2 oEq (op2 oIx (nm 0) (cst (.int 0))) (cst (.str "code")))) (tstB (op2 oEq (opN oLen [(nm 0)]) (cst (.int 3))))) (rtn (op2 oAdd (opN z0t [(nm 0)]) (z06 [(cst .none)]))) skip)
  (rtn (opN z0t [(nm 0)]))))
def z1x:List T->Option T:=runF z9h 1
def zn5:Fs :=
  (rtn (comp 1 [] (itA (z1i (op2 zc6 (nm 0) (cst (.str "\n"))) optN (opt (op1 oNeg (cst (.int 1)))))) (gNm 0) (cstT true) (op2 zc6 (nm 0) (cst (.str " ")))))
def z0u:List T->Option T:=runF zn5 1
noncomputable def zcf:Fs :=
  (seq (asg 2 (opN z0t [(comp 1 [] (itA (opN z0u [(nmV 1)])) (gNm 0) (cstT true) (opN z1x [(nmV 0)]))]))
  (seq (iff (orT (notT (tstB (opN z6q [(comp 1 [0] (itA (nmV 2)) (gNm 0) (cstT true) (opN z5x [(nmV 1),(nmV 0)]))]))) (tstB (op2 oNe (opN z1j [(nmV 2)]) (nm 1)))) never skip)
  (rtn (nm 2))))
def z3v:List T->Option T:=runF zcf 3
def zbc:Fs :=
  (rtn (ifE (tstL (nm 0)) (opN z18 [(z1i (op2 oIx (nm 0) (cst (.int 0))) (opt (cst (.int 1))) optN)]) (z06 [])))
def z0j:List T->Option T:=runF zbc 1
noncomputable def zhy:Fs :=
  (rtn (op2 oAdd (op2 oAdd (opN z0t [(z1i (nm 0) (opt (cst (.int 1))) (opt (cst (.int 3))))]) (z06 [(opN z0t [(z1i (nm 0) (opt (cst (.int 4))) optN)])])) (opN z18 [(z1i (nm 0) (opt (cst (.int 3))) (opt (cst (.int 4))))])))
def z35:List T->Option T:=runF zhy 1
noncomputable def zba:Fs :=
  (seq (asg 1 (opN z0u [(nmV 0)]))
  (seq (asg 2 (opN z0t [(comp 1 [] (itA (nmV 1)) (gNm 0) (tstB (op2 oEq (op2 oIx (nm 0) (cst (.int 0))) (cst (.str "zone")))) (opN z0t [(z1i (nm 0) (opt (cst (.int 1))) optN)]))]))
  (seq (asg 3 (opN z0t [(comp 1 [] (itA (nmV 1)) (gNm 0) (tstB (op2 oEq (op2 oIx (nm 0) (cst (.int 0))) (cst (.str "code")))) (opN z35 [(nmV 0)]))]))
  (seq (asg 4 (z06 [(nmV 2),(nmV 3),(opN z0j [(nmV 1)])]))
  (seq (iff (orT (notT (tstB (opN z6r [(nmV 4)]))) (tstB (op2 oNe (opN z15 [(nmV 4)]) (nm 0)))) never skip)
  (rtn (nm 4)))))))
def z34:List T->Option T:=runF zba 5
noncomputable def zbr:Fs :=
  (rtn (op2 oAdd (opN z18 [(z1i (nm 0) optN (opt (cst (.int 2))))]) (opN z0t [(comp 1 [] (itA (z1i (nm 0) (opt (cst (.int 2))) optN)) (gNm 0) (cstT true) (ifE (tstB (op2 oEq (nm 0) (cst (.str "-")))) (cst .none) (nmV 0)))])))
def z1p:List T->Option T:=runF zbr 1
noncomputable def z9e:Fs :=
  (seq (asg 1 (opN z0u [(nmV 0)]))
  (seq (asg 2 (opN z0t [(comp 1 [] (itA (z1i (nm 1) (opt (cst (.int 1))) optN)) (gNm 0) (cstT true) (opN z1p [(nmV 0)]))]))
  (seq (asg 3 (op2 oAdd (opN z0j [(nmV 1)]) (z06 [(nmV 2)])))
  (seq (iff (orT (notT (tstB (opN z4i [(nmV 3)]))) (tstB (op2 oNe (opN z13 [(nmV 3)]) (nm 0)))) never skip)
  (rtn (nm 3))))))
def z3d:List T->Option T:=runF z9e 4
end Fo
end
section
namespace K50
open D Co Fo
noncomputable def zfz:Fs :=
  (seq (asg 1 (cst (.str "")))
  (seq (for_ (itA (nmV 0)) (gNm 2)
  (asg 1 (op2 oAdd (op2 oAdd (nm 1) (op2 z7r (cst (.str " ")) (comp 1 [] (itA (nmV 2)) (gNm 0) (tstB (op1 z5i (nm 0))) (opN oStr [(nm 0)])))) (cst (.str "\n")))))
  (rtn (nm 1))))
def z52:List T->Option T:=runF zfz 3
noncomputable def zvc:Fs :=
  (seq (asg 1 (opN za3 [(opN z1s [(nmV 0),(cst (.int 0))])]))
  (seq (asg 2 (opN d_l_house [(opN z1s [(nmV 0),(cst (.int 1))])]))
  (seq (asg 3 (opN zb2 [(nmV 1),(opN z1s [(nmV 0),(cst (.int 2))]),(cst (.int 9))]))
  (seq (asgN 4 (op2 oAdd (z3g [(op2 oAdd (z06 [(cst (.str "times"))]) (op2 oIx (nm 1) (cst (.int 2))))]) (comp 1 [] (itA (op2 oIx (nm 1) (cst (.int 0)))) (gNm 0) (cstT true) (op2 oAdd (z06 [(cst (.str "zone"))]) (nm 0)))))
  (seq (for_ (itA (op2 oIx (nm 1) (cst (.int 1)))) (gTu [(gNm 5),(gNm 6),(gNm 7),(gNm 8)])
  (app 4 (op2 oAdd (z06 [(cst (.str "code")),(nmV 5),(nmV 6),(nmV 8)]) (nm 7))))
  (seq (frz 4)
  (seq (asg 9 (op2 oAdd (z3g [(z06 [(cst (.str "rooms")),(op2 oIx (nm 2) (cst (.int 0)))])]) (comp 3 [] (itA (op2 oIx (nm 2) (cst (.int 1)))) (gTu [(gNm 0),(gNm 1),(gNm 2)]) (cstT true) (z06 [(nmV 0),(nmV 1),(op2 oIx (z3g [(nmV 2),(cst (.str "-"))]) (opN oInt [(op1 oIsN (nm 2))]))]))))
  (seq (iff (orT (tstB (op2 oNe (opN z15 [(nmV 1)]) (opN z52 [(nmV 4)]))) (tstB (op2 oNe (opN z13 [(nmV 2)]) (opN z52 [(nmV 9)])))) (rtn (cst (.bool false))) skip)
  (seq (iff (tstB (op2 oNe (opN z1j [(nmV 3)]) (opN z52 [(nmV 3)]))) (rtn (cst (.bool false))) skip)
  (seq (iff (orT (tstB (op2 oNe (opN z8w [(opN z34 [(opN z15 [(nmV 1)])])]) (opN z8w [(nm 1)]))) (tstB (op2 oNe (opN z8w [(opN z3d [(opN z13 [(nmV 2)])])]) (opN z8w [(nm 2)])))) (rtn (cst (.bool false))) skip)
  (seq (iff (tstB (op2 oNe (opN z8w [(opN z3v [(nmV 1),(opN z1j [(nmV 3)])])]) (opN z8w [(nm 3)]))) (rtn (cst (.bool false))) skip)
  (seq (asg 10 (opN z1s [(nmV 0),(cst (.int 3))]))
  (seq (asg 11 (z06 [(op2 oMod (nm 10) (cst (.int 61))),(op2 oMod (op2 oDiv (nm 10) (cst (.int 64))) (cst (.int 61))),(op2 oAdd (cst (.int 1)) (op2 oMod (op2 oDiv (nm 10) (cst (.int 4096))) (cst (.int 300))))]))
  (seq (asg 12 (z06 [(op2 oIx (nm 1) (cst (.int 0))),(op2 oIx (nm 1) (cst (.int 1))),(op2 oIx (z06 [(nmV 11),(op2 oIx (nm 1) (cst (.int 2)))]) (op2 oMod (op2 oDiv (nm 10) (cst (.int 2097152))) (cst (.int 2))))]))
  (seq (iff (orT (tstB (op2 oNe (op2 oEq (opN z15 [(nmV 12)]) (opN z15 [(nmV 1)])) (op2 oEq (nm 12) (nm 1)))) (tstB (op2 oNe (opN z34 [(opN z15 [(nmV 12)])]) (nm 12)))) (rtn (cst (.bool false))) skip)
  (seq (asg 13 (opN d_l_house [(nmV 10)]))
  (seq (iff (tstB (op2 oNe (op2 oEq (opN z13 [(nmV 13)]) (opN z13 [(nmV 2)])) (op2 oEq (nm 13) (nm 2)))) (rtn (cst (.bool false))) skip)
  (seq (asg 14 (opN z2v [(nmV 1),(nmV 10)]))
  (rtn (andV (op2 oEq (opN z3v [(nmV 1),(opN z1j [(op2 oAdd (nm 3) (z06 [(nmV 14)]))])]) (op2 oAdd (nm 3) (z06 [(nmV 14)]))) (op2 oNe (opN z1j [(op2 oAdd (nm 3) (z06 [(nmV 14)]))]) (opN z1j [(nmV 3)]))))))))))))))))))))))
def zk4:List T->Option T:=runF zvc 15
end K50
end
section
namespace K50
open PySem PySem.Spec PyProof.Rows L2 D Co Fo
variable [Tbl]
def top (i:Nat):Stmt:=PySem.Challenge.pw_doorwatch_k50_whole_texts.main.body.getD i (.Pass ⟨0,0,0,0⟩)
section
variable {P:y0q} {w:World} {K:y00} {mg:Str->Option Value} {base:Heap}
abbrev z4p:Stmt:=top 57
theorem zbz:FnScope ["_law_number","_law_k","_law_drawn_here"] ["_law_number","_law_k"] (z01 z4p):=⟨rfl,rfl,rfl,by decide +kernel,rfl,by decide +kernel,by decide +kernel⟩
theorem zkc {K:y00} {f:Addr} {fd:y0b} (F:Fun K "_law_drawn" "_law_drawn" z4p f fd):Binds K fd ["_law_number","_law_k"] []:=F.binds (ps:=["_law_number","_law_k"]) fun _ _ _ _ _ _ us hl=>match us,hl with|[_,_],_=>rfl
theorem z3l {k:Nat} {f:Addr} {fd:y0b} (F:Fun K "_law_drawn" "_law_drawn" z4p f fd) (m:mg "_law_drawn"=some (.ref f)) :Cl P w K mg base "_law_drawn" (k+1) 2 z0l :=
 z1a F zbz (zkc F) m fun cdv A outer s H E hr =>
  (z08 (z10 2 zbz.nd (z2a (v2r (zd0 (v2r (z19 (v2r (z19 (q_nm 0) (v2r (zd0 (v2r z03) (q_nm 1))))) (v2r z03))) (v2r z03))) (v2r z03)))
  (z0h (z0o (z2a (v2r (z19 (v2r (z19 (v2r (zd0 (q_nm 2) (q_nm 2))) (v2r (zd0 (v2r z03) (q_nm 2))))) (q_nm 1))) (v2r z03)))))
abbrev z5n:Stmt:=top 58
theorem z1b:FnScope ["_law_number","_law_zones","_law_k","_law_name","_law_drawn_here","_law_codes","_law_figures","_law_rights","_law_who","_law_times"] ["_law_number"] (z01 z5n):=⟨rfl,rfl,rfl,by decide +kernel,rfl,by decide +kernel,by decide +kernel⟩
theorem zn3 {K:y00} {f:Addr} {fd:y0b} (F:Fun K "_law_plan" "_law_plan" z5n f fd):Binds K fd ["_law_number"] []:=F.binds (ps:=["_law_number"]) fun _ _ _ _ _ _ us hl=>match us,hl with|[_],_=>rfl
theorem zdi {k:Nat} {f:Addr} {fd:y0b} (F:Fun K "_law_plan" "_law_plan" z5n f fd) (m:mg "_law_plan"=some (.ref f)) (z_enumerate:mg "enumerate"=none) (z3l:Cl P w K mg base "_law_drawn" k 2 z0l) (z_tuple:mg "tuple"=none) (z_range:mg "range"=none):Cl P w K mg base "_law_plan" (k+1) 1 za3 :=
 z1a F z1b (zn3 F) m fun cdv A outer s H E hr =>
  (z08 (z10 1 z1b.nd (z0y z02))
  (z08 (zja y21 (zqc z_enumerate (z0y (z00 z0f (z00 z0f (z00 z0f (z00 z0f (z00 z0f (z00 z0f (z00 z0f (z00 z0f z02)))))))))) (zmi (z5v (g_nm 2 z1b.nd) (z5v (g_nm 3 z1b.nd) zmj)))
  (z08 (z10 4 z1b.nd (z3u (v2r (z04 z3l hr (z00 (z07 0) (z00 (z07 2) z02)))) (v2r z03)))
  (z0h (s_if (w_t (w_or (z2d (zln.or z6n) zel (v2r (z2a (q_nm 4) (v2r z03))) (v2r (z19 (v2r z03) (v2r (z2a (q_nm 0) (v2r z03)))))) (z85 (z2d (z3e (by exact hr.units)) z3f (q_nm 2) (v2r (z2a (v2r (z3u (q_nm 0) (v2r z03))) (v2r z03))))))) (z0h (z10 1 z1b.nd (z19 (q_nm 1) (v2r (z0y (z00 (z0y (z00 (z07 3) (z00 (q_ix (v2r (z0y (z00 z0f (z00 z0f (z00 z0f (z00 z0f (z00 z0f z02))))))) (v2r (z2a (v2r (z3u (q_nm 4) (v2r z03))) (v2r z03)))) z02))) z02)))))) z37))))
  (z08 (z10 5 z1b.nd (z0y z02))
  (z08 (zja y21 (zqc z_enumerate (z0y (z00 z0f (z00 z0f (z00 z0f (z00 z0f (z00 z0f (z00 z0f z02)))))))) (zmi (z5v (g_nm 2 z1b.nd) (z5v (g_nm 6 z1b.nd) zmj)))
  (z08 (z10 4 z1b.nd (z3u (v2r (z04 z3l hr (z00 (z07 0) (z00 (z19 (v2r z03) (q_nm 2)) z02)))) (v2r z03)))
  (z0h (s_if (w_t (w_or (z2d (zrr.or zal) zlp (v2r (z2a (q_nm 4) (v2r z03))) (v2r z03)) (z85 (z2d (z3e (by exact hr.units)) z3f (q_nm 2) (v2r z03))))) (z08 (z10 7 z1b.nd (z3t z_tuple (z0g (v2r (z12 (own:=["_law_j"]) (caps:=[(4,"_law_drawn_here")]) (z1q (sc:=z01 z5n) ["_law_number","_law_zones","_law_k","_law_name","_law_drawn_here","_law_codes","_law_figures","_law_rights","_law_who","_law_times"] rfl rfl rfl (by decide +kernel)) (zme z_range (v2r z03)) (fun _ _ _ _ _ _=>(g_nm 0 (show y1m (["_law_j","_law_drawn_here"]:List Str) by decide +kernel))) (fun _ _ _ _ _ _=>(zi7 (z2d (zrr.or zal) zlp (v2r (z2a (v2r (z3u (q_nm 1) (v2r (q_ix (v2r (z0y (z00 z03 (z00 z03 (z00 z03 z02))))) (q_nm 0))))) (v2r z03))) (v2r z03)))) (fun _ _ _ _ _ _=>(q_ix (v2r (z0y (z00 z0f (z00 z0f (z00 z0f z02))))) (q_nm 0))))) z0r)))
  (z08 (z10 8 z1b.nd (q_ix (v2r (z0y (z00 z0f (z00 z0f (z00 z0f z02))))) (v2r (z2a (v2r (z3u (q_nm 4) (v2r z03))) (v2r z03)))))
  (z0h (z10 5 z1b.nd (z19 (q_nm 5) (v2r (z0y (z00 (z0y (z00 (z07 6) (z00 (z07 8) (z00 (z07 7) (z00 (q_ix (v2r (z0y (z00 z03 (z00 z03 (z00 z03 (z00 z03 (z00 z03 z02))))))) (v2r (z2a (v2r (z3u (q_nm 4) (v2r z03))) (v2r z03)))) z02))))) z02)))))))) z37))))
  (z08 (z10 4 z1b.nd (z3u (v2r (z04 z3l hr (z00 (z07 0) (z00 z03 z02)))) (v2r z03)))
  (z08 (z10 9 z1b.nd (z0y (z00 (q_ix (v2r (z0y (z00 z03 (z00 z03 (z00 z03 (z00 z03 z02)))))) (v2r (z2a (q_nm 4) (v2r z03)))) (z00 (q_ix (v2r (z0y (z00 z03 (z00 z03 (z00 z03 (z00 z03 z02)))))) (v2r (z2a (v2r (z3u (q_nm 4) (v2r z03))) (v2r z03)))) (z00 (q_ix (v2r (z0y (z00 z03 (z00 z03 (z00 z03 (z00 z03 z02)))))) (v2r (z2a (v2r (z3u (q_nm 4) (v2r z03))) (v2r z03)))) z02)))))
  (z0h (z0o (z0y (z00 (z07 1) (z00 (z07 5) (z00 (z07 9) z02))))))))))))
abbrev z4n:Stmt:=top 61
theorem z2q:FnScope ["_law_number","_law_rooms","_law_openings","_law_k","_law_drawn_here","_law_one","_law_other","_law_zone"] ["_law_number"] (z01 z4n):=⟨rfl,rfl,rfl,by decide +kernel,rfl,by decide +kernel,by decide +kernel⟩
theorem zka {K:y00} {f:Addr} {fd:y0b} (F:Fun K "_law_house" "_law_house" z4n f fd):Binds K fd ["_law_number"] []:=F.binds (ps:=["_law_number"]) fun _ _ _ _ _ _ us hl=>match us,hl with|[_],_=>rfl
theorem z8l {k:Nat} {f:Addr} {fd:y0b} (F:Fun K "_law_house" "_law_house" z4n f fd) (m:mg "_law_house"=some (.ref f)) (z_range:mg "range"=none) (z3l:Cl P w K mg base "_law_drawn" k 2 z0l) (z_min:mg "min"=none) (z_max:mg "max"=none):Cl P w K mg base "_law_house" (k+1) 1 d_l_house :=
 z1a F z2q (zka F) m fun cdv A outer s H E hr =>
  (z08 (z10 1 z2q.nd (z19 (v2r z03) (v2r (z2a (q_nm 0) (v2r z03)))))
  (z08 (z10 2 z2q.nd (z0y z02))
  (z08 (zja y21 (zme z_range (v2r (z2a (v2r (z3u (q_nm 0) (v2r z03))) (v2r z03)))) (g_nm 3 z2q.nd)
  (z08 (z10 4 z2q.nd (z3u (v2r (z04 z3l hr (z00 (z07 0) (z00 (z19 (v2r z03) (q_nm 3)) z02)))) (v2r z03)))
  (z08 (z10 5 z2q.nd (z2a (q_nm 4) (v2r (z19 (q_nm 1) (v2r z03)))))
  (z08 (z10 6 z2q.nd (z2a (v2r (z19 (v2r (z19 (q_nm 5) (v2r z03))) (v2r (z2a (v2r (z3u (q_nm 4) (v2r z03))) (q_nm 1))))) (v2r (z19 (q_nm 1) (v2r z03)))))
  (z08 (z10 7 z2q.nd (q_ix (v2r (z0y (z00 zgo (z00 zgo (z00 z0f (z00 z0f (z00 z0f (z00 z0f (z00 z0f z02))))))))) (v2r (z2a (v2r (z3u (q_nm 4) (v2r z03))) (v2r z03)))))
  (z0h (z10 2 z2q.nd (z19 (q_nm 2) (v2r (z0y (z00 (z0y (z00 (zvx z_min (z0g (q_nm 5) (z0g (q_nm 6) z0r))) (z00 (zvy z_max (z0g (q_nm 5) (z0g (q_nm 6) z0r))) (z00 (z07 7) z02)))) z02)))))))))))
  (z0h (z0o (z0y (z00 (z07 1) (z00 (z07 2) z02))))))))
abbrev z4o:Stmt:=top 59
theorem z4g:FnScope ["_law_plan_here","_law_number","_law_zone","_law_kind","_law_figures","_law_deed"] ["_law_plan_here","_law_number"] (z01 z4o):=⟨rfl,rfl,rfl,by decide +kernel,rfl,by decide +kernel,by decide +kernel⟩
theorem zkb {K:y00} {f:Addr} {fd:y0b} (F:Fun K "_law_event" "_law_event" z4o f fd):Binds K fd ["_law_plan_here","_law_number"] []:=F.binds (ps:=["_law_plan_here","_law_number"]) fun _ _ _ _ _ _ us hl=>match us,hl with|[_,_],_=>rfl
theorem z6v {k:Nat} {f:Addr} {fd:y0b} (F:Fun K "_law_event" "_law_event" z4o f fd) (m:mg "_law_event"=some (.ref f)) (z_len:mg "len"=none):Cl P w K mg base "_law_event" (k+1) 2 z2v :=
 z1a F z4g (zkb F) m fun cdv A outer s H E hr =>
  (z08 (z10 2 z4g.nd (q_ix (v2r (q_ix (v2r (q_ix (q_nm 0) (v2r z03))) (v2r (z2a (v2r (z3u (q_nm 1) (v2r z03))) (v2r (zeg (by exact z_len) (z0g (v2r (q_ix (q_nm 0) (v2r z03))) z0r))))))) (v2r z03)))
  (z08 (z10 3 z4g.nd (z2a (q_nm 1) (v2r z03)))
  (z08 (s_if (z2d (zln.or z6n) zel (q_nm 3) (v2r z03)) (z0h (z0o (z0y (z00 z0f (z00 (z07 2) (z00 (q_ix (v2r (z0y (z00 z0f (z00 z0f (z00 z0f (z00 z0f z02)))))) (v2r (z2a (v2r (z3u (q_nm 1) (v2r z03))) (v2r z03)))) z02)))))) z37)
  (z08 (s_if (z2d (zln.or z6n) zel (q_nm 3) (v2r z03)) (z0h (z0o (z0y (z00 z0f (z00 (z19 (v2r z03) (v2r (z2a (v2r (z3u (q_nm 1) (v2r z03))) (v2r (q_ix (v2r (z0y (z00 z03 (z00 z03 (z00 z03 z02))))) (v2r (z2a (v2r (z3u (q_nm 1) (v2r z03))) (v2r z03)))))))) z02))))) z37)
  (z08 (z10 4 z4g.nd (q_ix (v2r (q_ix (v2r (q_ix (q_nm 0) (v2r z03))) (v2r (z2a (v2r (z3u (q_nm 1) (v2r z03))) (v2r (zeg (by exact z_len) (z0g (v2r (q_ix (q_nm 0) (v2r z03))) z0r))))))) (v2r z03)))
  (z08 (s_if (z2d (z3e (by exact hr.units)) z3f (v2r (z2a (v2r (z3u (q_nm 1) (v2r z03))) (v2r z03))) (v2r z03)) (z0h (z10 4 z4g.nd (q_ix (v2r (z0y (z00 z0f (z00 z0f (z00 z0f (z00 z0f z02)))))) (v2r (z2a (v2r (z3u (q_nm 1) (v2r z03))) (v2r z03)))))) z37)
  (z08 (z10 5 z4g.nd (q_ix (v2r (z0y (z00 z0f (z00 z0f (z00 z0f (z00 z0f (z00 z0f (z00 z0f z02)))))))) (v2r (z2a (v2r (z3u (q_nm 1) (v2r z03))) (v2r z03)))))
  (z08 (s_if (z2d (zak (by exact hr.units)) zam (q_nm 5) (v2r (z0y (z00 z0f (z00 z0f z02))))) (z0h (z0o (z0y (z00 z0f (z00 (z07 4) (z00 (z07 5) (z00 zgo z02))))))) z37)
  (z0h (z0o (z0y (z00 z0f (z00 (z07 4) (z00 (z07 5) (z00 (z07 2) z02)))))))))))))))
abbrev z6l:Stmt:=top 60
theorem zcq:FnScope ["_law_plan_here","_law_number","_law_most","_law_row_here"] ["_law_plan_here","_law_number","_law_most"] (z01 z6l):=⟨rfl,rfl,rfl,by decide +kernel,rfl,by decide +kernel,by decide +kernel⟩
theorem zpo {K:y00} {f:Addr} {fd:y0b} (F:Fun K "_law_row" "_law_row" z6l f fd):Binds K fd ["_law_plan_here","_law_number","_law_most"] []:=F.binds (ps:=["_law_plan_here","_law_number","_law_most"]) fun _ _ _ _ _ _ us hl=>match us,hl with|[_,_,_],_=>rfl
theorem zhp {k:Nat} {f:Addr} {fd:y0b} (F:Fun K "_law_row" "_law_row" z6l f fd) (m:mg "_law_row"=some (.ref f)) (z_tuple:mg "tuple"=none) (z6v:Cl P w K mg base "_law_event" k 2 z2v) (z_len:mg "len"=none) (z_range:mg "range"=none) (z3l:Cl P w K mg base "_law_drawn" k 2 z0l):Cl P w K mg base "_law_row" (k+1) 3 zb2 :=
 z1a F zcq (zpo F) m fun cdv A outer s H E hr =>
  (z08 (z10 3 zcq.nd (z3t z_tuple (z0g (v2r (z12 (own:=["_law_k"]) (caps:=[(0,"_law_plan_here"),(1,"_law_number")]) (z1q (sc:=z01 z6l) ["_law_plan_here","_law_number","_law_most","_law_row_here"] rfl rfl rfl (by decide +kernel)) (zme z_range (v2r (z2a (q_nm 1) (v2r (z19 (q_nm 2) (v2r z03)))))) (fun _ _ _ _ _ _=>(g_nm 0 (show y1m (["_law_k","_law_plan_here","_law_number"]:List Str) by decide +kernel))) (fun _ _ _ _ _ _=>z2b) (fun _ _ _ _ _ _=>(z04 (by exact z6v) (by exact hr) (z00 (z07 1) (z00 (z3u (v2r (z04 (by exact z3l) (by exact hr) (z00 (z07 2) (z00 (z19 (v2r z03) (q_nm 0)) z02)))) (v2r z03)) z02)))))) z0r)))
  (z08 (s_if (w_t (w_and (z2d (z3e (by exact hr.units)) z3f (v2r (z2a (v2r (z3u (q_nm 1) (v2r z03))) (v2r z03))) (v2r z03)) (zkt (z2d (zrr.or zal) zlp (v2r (zeg (by exact z_len) (z0g (q_nm 3) z0r))) (v2r z03))))) (z0h (z10 3 zcq.nd (z19 (v2r (zr5 (q_nm 3) z6p (z4z (v2r (ztj (v2r z03)))))) (v2r (zvv (v2r (z0y (z00 (z0y (z00 z0f (z00 z0f (z00 z0f (z00 zgo z02))))) z02))) (v2r z03)))))) z37)
  (z0h (zad 3))))
abbrev z30:Stmt:=top 55
theorem ze4:FnScope ["_law_script","_law_k"] ["_law_script","_law_k"] (z01 z30):=⟨rfl,rfl,rfl,by decide +kernel,rfl,by decide +kernel,by decide +kernel⟩
theorem zfr {K:y00} {f:Addr} {fd:y0b} (F:Fun K "_law_cell_at" "_law_cell_at" z30 f fd):Binds K fd ["_law_script","_law_k"] []:=F.binds (ps:=["_law_script","_law_k"]) fun _ _ _ _ _ _ us hl=>match us,hl with|[_,_],_=>rfl
theorem z7y {k:Nat} {f:Addr} {fd:y0b} (F:Fun K "_law_cell_at" "_law_cell_at" z30 f fd) (m:mg "_law_cell_at"=some (.ref f)) (z_len:mg "len"=none):Cl P w K mg base "_law_cell_at" (k+1) 2 z0z :=
 z1a F ze4 (zfr F) m fun cdv A outer s H E hr =>
  (z08 (s_if (z2d (zln.or z6n) zel (q_nm 1) (v2r (zeg (by exact z_len) (z0g (q_nm 0) z0r)))) (z0h (z0o (q_ix (q_nm 0) (q_nm 1)))) z37)
  (z0h (z0o z03)))
abbrev z4m:Stmt:=top 56
theorem zby:FnScope ["_law_script","_law_k","_law_drawn_here"] ["_law_script","_law_k"] (z01 z4m):=⟨rfl,rfl,rfl,by decide +kernel,rfl,by decide +kernel,by decide +kernel⟩
theorem zk8 {K:y00} {f:Addr} {fd:y0b} (F:Fun K "_law_mixed" "_law_mixed" z4m f fd):Binds K fd ["_law_script","_law_k"] []:=F.binds (ps:=["_law_script","_law_k"]) fun _ _ _ _ _ _ us hl=>match us,hl with|[_,_],_=>rfl
theorem z5z {k:Nat} {f:Addr} {fd:y0b} (F:Fun K "_law_mixed" "_law_mixed" z4m f fd) (m:mg "_law_mixed"=some (.ref f)) (z7y:Cl P w K mg base "_law_cell_at" k 2 z0z):Cl P w K mg base "_law_mixed" (k+1) 2 z1s :=
 z1a F zby (zk8 F) m fun cdv A outer s H E hr =>
  (z08 (z10 2 zby.nd (z2a (v2r (zd0 (v2r (z19 (v2r (z19 (v2r (z04 z7y hr (z00 (z07 0) (z00 (z07 1) z02)))) (v2r (zd0 (v2r z03) (q_nm 1))))) (v2r z03))) (v2r z03))) (v2r z03)))
  (z0h (z0o (z2a (v2r (z19 (v2r (z19 (v2r (zd0 (q_nm 2) (q_nm 2))) (v2r (zd0 (v2r z03) (q_nm 2))))) (q_nm 1))) (v2r z03)))))
abbrev z3z:Stmt:=top 2
theorem zj3:FnScope ["rows"] ["rows"] (z01 z3z):=⟨rfl,rfl,rfl,by decide +kernel,rfl,by decide +kernel,by decide +kernel⟩
theorem zk6 {K:y00} {f:Addr} {fd:y0b} (F:Fun K "text_of" "text_of" z3z f fd):Binds K fd ["rows"] []:=F.binds (ps:=["rows"]) fun _ _ _ _ _ _ us hl=>match us,hl with|[_],_=>rfl
theorem z57 {k:Nat} {f:Addr} {fd:y0b} (F:Fun K "text_of" "text_of" z3z f fd) (m:mg "text_of"=some (.ref f)) :Cl P w K mg base "text_of" (k+1) 1 z3i :=
 z1a F zj3 (zk6 F) m fun cdv A outer s H E hr =>
  (z0h (z0o (zlg (v2r z0f) (v2r (z12 (own:=["parts"]) (caps:=[]) (z1q (sc:=z01 z3z) ["rows"] rfl rfl rfl (by decide +kernel)) (i_A (z07 0)) (fun _ _ _ _ _ _=>(g_nm 0 (show y1m (["parts"]:List Str) by decide +kernel))) (fun _ _ _ _ _ _=>z2b) (fun _ _ _ _ _ _=>(z19 (v2r (zlg (v2r z0f) (q_nm 0))) (v2r z0f))))))))
abbrev z20:Stmt:=top 1
theorem z2u:FnScope ["number","ahead","behind"] ["number"] (z01 z20):=⟨rfl,rfl,rfl,by decide +kernel,rfl,by decide +kernel,by decide +kernel⟩
theorem zbp {K:y00} {f:Addr} {fd:y0b} (F:Fun K "number_text" "number_text" z20 f fd):Binds K fd ["number"] []:=F.binds (ps:=["number"]) fun _ _ _ _ _ _ us hl=>match us,hl with|[_],_=>rfl
theorem z0q {k:Nat} {f:Addr} {fd:y0b} (F:Fun K "number_text" "number_text" z20 f fd) (m:mg "number_text"=some (.ref f)) (z_str:mg "str"=none):Cl P w K mg base "number_text" (k+1) 1 z0c :=
 z1a F z2u (zbp F) m fun cdv A outer s H E hr =>
  (z08 (z10 1 z2u.nd (z07 0))
  (z08 (z10 2 z2u.nd z0f)
  (z08 (zr2 1000 y21 (z2d (zua.or zek) zq6 (q_nm 1) (v2r (zle (v2r z03) (v2r z03)))) (z08 (z10 2 z2u.nd (z19 (v2r (zr4 (v2r (zlc z_str (z0g (v2r (z2a (q_nm 1) (v2r (zle (v2r z03) (v2r z03))))) z0r))) (v2r z03))) (q_nm 2)))
  (z0h (z10 1 z2u.nd (ztl (q_nm 1) (v2r (zle (v2r z03) (v2r z03))))))))
  (z0h (z0o (z19 (v2r (zlc z_str (z0g (q_nm 1) z0r))) (q_nm 2)))))))
abbrev z21:Stmt:=top 8
theorem zbn:FnScope ["event"] ["event"] (z01 z21):=⟨rfl,rfl,rfl,by decide +kernel,rfl,by decide +kernel,by decide +kernel⟩
theorem zbq {K:y00} {f:Addr} {fd:y0b} (F:Fun K "event_parts" "event_parts" z21 f fd):Binds K fd ["event"] []:=F.binds (ps:=["event"]) fun _ _ _ _ _ _ us hl=>match us,hl with|[_],_=>rfl
theorem z67 {k:Nat} {f:Addr} {fd:y0b} (F:Fun K "event_parts" "event_parts" z21 f fd) (m:mg "event_parts"=some (.ref f)) (z0q:Cl P w K mg base "number_text" k 1 z0c):Cl P w K mg base "event_parts" (k+1) 1 z1k :=
 z1a F zbn (zbq F) m fun cdv A outer s H E hr =>
  (z08 (s_if (z2d (z3e (by exact hr.units)) z3f (v2r (q_ix (q_nm 0) (v2r z03))) (v2r z0f)) (z0h (z0o (z0y (z00 z0f (z00 (z04 z0q hr (z00 (q_ix (q_nm 0) (v2r z03)) z02)) z02))))) z37)
  (z08 (s_if (w_t (w_and (z2d (z3e (by exact hr.units)) z3f (v2r (q_ix (q_nm 0) (v2r z03))) (v2r z0f)) (zkt (zt1 (v2r (q_ix (q_nm 0) (v2r z03))))))) (z0h (z0o (z2x (q_nm 0) z6p (z4z (v2r z03))))) z37)
  (z0h (zad 0))))
abbrev z39:Stmt:=top 9
theorem zgb:FnScope ["row"] ["row"] (z01 z39):=⟨rfl,rfl,rfl,by decide +kernel,rfl,by decide +kernel,by decide +kernel⟩
theorem zhq {K:y00} {f:Addr} {fd:y0b} (F:Fun K "row_text" "row_text" z39 f fd):Binds K fd ["row"] []:=F.binds (ps:=["row"]) fun _ _ _ _ _ _ us hl=>match us,hl with|[_],_=>rfl
theorem z2s {k:Nat} {f:Addr} {fd:y0b} (F:Fun K "row_text" "row_text" z39 f fd) (m:mg "row_text"=some (.ref f)) (z57:Cl P w K mg base "text_of" k 1 z3i) (z67:Cl P w K mg base "event_parts" k 1 z1k):Cl P w K mg base "row_text" (k+1) 1 z1j :=
 z1a F zgb (zhq F) m fun cdv A outer s H E hr =>
  (z0h (z0o (z04 z57 hr (z00 (z12 (own:=["event"]) (caps:=[]) (z1q (sc:=z01 z39) ["row"] rfl rfl rfl (by decide +kernel)) (i_A (z07 0)) (fun _ _ _ _ _ _=>(g_nm 0 (show y1m (["event"]:List Str) by decide +kernel))) (fun _ _ _ _ _ _=>z2b) (fun _ _ _ _ _ _=>(z04 (by exact z67) (by exact hr) (z00 (z07 0) z02)))) z02))))
abbrev z41:Stmt:=top 62
theorem z77:FnScope ["_law_lines_here","_law_found","_law_line"] ["_law_lines_here"] (z01 z41):=⟨rfl,rfl,rfl,by decide +kernel,rfl,by decide +kernel,by decide +kernel⟩
theorem zk9 {K:y00} {f:Addr} {fd:y0b} (F:Fun K "_law_lines" "_law_lines" z41 f fd):Binds K fd ["_law_lines_here"] []:=F.binds (ps:=["_law_lines_here"]) fun _ _ _ _ _ _ us hl=>match us,hl with|[_],_=>rfl
theorem z6u {k:Nat} {f:Addr} {fd:y0b} (F:Fun K "_law_lines" "_law_lines" z41 f fd) (m:mg "_law_lines"=some (.ref f)) (z_str:mg "str"=none):Cl P w K mg base "_law_lines" (k+1) 1 z52 :=
 z1a F z77 (zk9 F) m fun cdv A outer s H E hr =>
  (z08 (z10 1 z77.nd z0f)
  (z08 (zja y21 (i_A (z07 0)) (g_nm 2 z77.nd)
  (z0h (z10 1 z77.nd (z19 (v2r (z19 (q_nm 1) (v2r (zlg (v2r z0f) (v2r (z12 (own:=["_law_word"]) (caps:=[]) (z1q (sc:=z01 z41) ["_law_lines_here","_law_found","_law_line"] rfl rfl rfl (by decide +kernel)) (i_A (z07 2)) (fun _ _ _ _ _ _=>(g_nm 0 (show y1m (["_law_word"]:List Str) by decide +kernel))) (fun _ _ _ _ _ _=>(zi7 (zsy (q_nm 0)))) (fun _ _ _ _ _ _=>(zlc (by exact z_str) (z0g (q_nm 0) z0r))))))))) (v2r z0f)))))
  (z0h (zad 1))))
abbrev z2e:Stmt:=top 3
theorem zco:FnScope ["zone"] ["zone"] (z01 z2e):=⟨rfl,rfl,rfl,by decide +kernel,rfl,by decide +kernel,by decide +kernel⟩
theorem zdj {K:y00} {f:Addr} {fd:y0b} (F:Fun K "zone_parts" "zone_parts" z2e f fd):Binds K fd ["zone"] []:=F.binds (ps:=["zone"]) fun _ _ _ _ _ _ us hl=>match us,hl with|[_],_=>rfl
theorem z6s {k:Nat} {f:Addr} {fd:y0b} (F:Fun K "zone_parts" "zone_parts" z2e f fd) (m:mg "zone_parts"=some (.ref f)) :Cl P w K mg base "zone_parts" (k+1) 1 z3c :=
 z1a F zco (zdj F) m fun cdv A outer s H E hr =>
  (z0h (z0o (z0y (z00 z0f (z00 (q_ix (q_nm 0) (v2r z03)) (z00 (q_ix (q_nm 0) (v2r z03)) z02))))))
abbrev z2i:Stmt:=top 4
theorem zcu:FnScope ["code"] ["code"] (z01 z2i):=⟨rfl,rfl,rfl,by decide +kernel,rfl,by decide +kernel,by decide +kernel⟩
theorem zdq {K:y00} {f:Addr} {fd:y0b} (F:Fun K "code_parts" "code_parts" z2i f fd):Binds K fd ["code"] []:=F.binds (ps:=["code"]) fun _ _ _ _ _ _ us hl=>match us,hl with|[_],_=>rfl
theorem z6y {k:Nat} {f:Addr} {fd:y0b} (F:Fun K "code_parts" "code_parts" z2i f fd) (m:mg "code_parts"=some (.ref f)) (z0q:Cl P w K mg base "number_text" k 1 z0c):Cl P w K mg base "code_parts" (k+1) 1 z1l :=
 z1a F zcu (zdq F) m fun cdv A outer s H E hr =>
  (z0h (z0o (z19 (v2r (z0y (z00 z0f (z00 (q_ix (q_nm 0) (v2r z03)) (z00 (q_ix (q_nm 0) (v2r z03)) (z00 (z04 z0q hr (z00 (q_ix (q_nm 0) (v2r z03)) z02)) z02)))))) (v2r (q_ix (q_nm 0) (v2r z03))))))
abbrev z1o:Stmt:=top 5
theorem z5l:FnScope ["plan","times","zones","codes"] ["plan"] (z01 z1o):=⟨rfl,rfl,rfl,by decide +kernel,rfl,by decide +kernel,by decide +kernel⟩
theorem zfp {K:y00} {f:Addr} {fd:y0b} (F:Fun K "plan_text" "plan_text" z1o f fd):Binds K fd ["plan"] []:=F.binds (ps:=["plan"]) fun _ _ _ _ _ _ us hl=>match us,hl with|[_],_=>rfl
theorem z26 {k:Nat} {f:Addr} {fd:y0b} (F:Fun K "plan_text" "plan_text" z1o f fd) (m:mg "plan_text"=some (.ref f)) (z57:Cl P w K mg base "text_of" k 1 z3i) (z6s:Cl P w K mg base "zone_parts" k 1 z3c) (z6y:Cl P w K mg base "code_parts" k 1 z1l) (z0q:Cl P w K mg base "number_text" k 1 z0c):Cl P w K mg base "plan_text" (k+1) 1 z15 :=
 z1a F z5l (zfp F) m fun cdv A outer s H E hr =>
  (z08 (z10 1 z5l.nd (z19 (v2r (zc5 (z00 z0f z02))) (v2r (z12 (own:=["time"]) (caps:=[]) (z1q (sc:=z01 z1o) ["plan","times","zones","codes"] rfl rfl rfl (by decide +kernel)) (i_A (q_ix (q_nm 0) (v2r z03))) (fun _ _ _ _ _ _=>(g_nm 0 (show y1m (["time"]:List Str) by decide +kernel))) (fun _ _ _ _ _ _=>z2b) (fun _ _ _ _ _ _=>(z04 (by exact z0q) (by exact hr) (z00 (z07 0) z02)))))))
  (z08 (zpz 2 z5l.nd (own:=["zone"]) (caps:=[]) (z1q (sc:=z01 z1o) ["plan","times","zones","codes"] rfl rfl rfl (by decide +kernel)) (i_A (q_ix (q_nm 0) (v2r z03))) (fun _ _ _ _ _ _=>(g_nm 0 (show y1m (["zone"]:List Str) by decide +kernel))) (fun _ _ _ _ _ _=>z2b) (fun _ _ _ _ _ _=>(z04 (by exact z6s) (by exact hr) (z00 (z07 0) z02))))
  (z08 (zpz 3 z5l.nd (own:=["code"]) (caps:=[]) (z1q (sc:=z01 z1o) ["plan","times","zones","codes"] rfl rfl rfl (by decide +kernel)) (i_A (q_ix (q_nm 0) (v2r z03))) (fun _ _ _ _ _ _=>(g_nm 0 (show y1m (["code"]:List Str) by decide +kernel))) (fun _ _ _ _ _ _=>z2b) (fun _ _ _ _ _ _=>(z04 (by exact z6y) (by exact hr) (z00 (z07 0) z02))))
  (z0h (z0o (z04 z57 hr (z00 (z19 (v2r (z19 (v2r (zc5 (z00 (z07 1) z02))) (q_nm 2))) (q_nm 3)) z02)))))))
abbrev z1c:Stmt:=top 6
theorem z6a:FnScope ["opening","zone"] ["opening"] (z01 z1c):=⟨rfl,rfl,rfl,by decide +kernel,rfl,by decide +kernel,by decide +kernel⟩
theorem z9p {K:y00} {f:Addr} {fd:y0b} (F:Fun K "opening_parts" "opening_parts" z1c f fd):Binds K fd ["opening"] []:=F.binds (ps:=["opening"]) fun _ _ _ _ _ _ us hl=>match us,hl with|[_],_=>rfl
theorem z59 {k:Nat} {f:Addr} {fd:y0b} (F:Fun K "opening_parts" "opening_parts" z1c f fd) (m:mg "opening_parts"=some (.ref f)) (z0q:Cl P w K mg base "number_text" k 1 z0c):Cl P w K mg base "opening_parts" (k+1) 1 z0w :=
 z1a F z6a (z9p F) m fun cdv A outer s H E hr =>
  (z08 (z10 1 z6a.nd (zr8 (zt1 (v2r (q_ix (q_nm 0) (v2r z03)))) z0f (q_ix (q_nm 0) (v2r z03))))
  (z0h (z0o (z0y (z00 (z04 z0q hr (z00 (q_ix (q_nm 0) (v2r z03)) z02)) (z00 (z04 z0q hr (z00 (q_ix (q_nm 0) (v2r z03)) z02)) (z00 (z07 1) z02)))))))
abbrev z1v:Stmt:=top 7
theorem z88:FnScope ["house","rooms"] ["house"] (z01 z1v):=⟨rfl,rfl,rfl,by decide +kernel,rfl,by decide +kernel,by decide +kernel⟩
theorem zdo {K:y00} {f:Addr} {fd:y0b} (F:Fun K "house_text" "house_text" z1v f fd):Binds K fd ["house"] []:=F.binds (ps:=["house"]) fun _ _ _ _ _ _ us hl=>match us,hl with|[_],_=>rfl
theorem z1y {k:Nat} {f:Addr} {fd:y0b} (F:Fun K "house_text" "house_text" z1v f fd) (m:mg "house_text"=some (.ref f)) (z57:Cl P w K mg base "text_of" k 1 z3i) (z0q:Cl P w K mg base "number_text" k 1 z0c) (z59:Cl P w K mg base "opening_parts" k 1 z0w):Cl P w K mg base "house_text" (k+1) 1 z13 :=
 z1a F z88 (zdo F) m fun cdv A outer s H E hr =>
  (z08 (z10 1 z88.nd (z0y (z00 z0f (z00 (z04 z0q hr (z00 (q_ix (q_nm 0) (v2r z03)) z02)) z02))))
  (z0h (z0o (z04 z57 hr (z00 (z19 (v2r (zc5 (z00 (z07 1) z02))) (v2r (z12 (own:=["opening"]) (caps:=[]) (z1q (sc:=z01 z1v) ["house","rooms"] rfl rfl rfl (by decide +kernel)) (i_A (q_ix (q_nm 0) (v2r z03))) (fun _ _ _ _ _ _=>(g_nm 0 (show y1m (["opening"]:List Str) by decide +kernel))) (fun _ _ _ _ _ _=>z2b) (fun _ _ _ _ _ _=>(z04 (by exact z59) (by exact hr) (z00 (z07 0) z02)))))) z02)))))
abbrev z42:Stmt:=top 17
theorem zj6:FnScope ["thing","least","most","first","last"] ["thing","least","most","first","last"] (z01 z42):=⟨rfl,rfl,rfl,by decide +kernel,rfl,by decide +kernel,by decide +kernel⟩
theorem zke {K:y00} {f:Addr} {fd:y0b} (F:Fun K "is_text" "is_text" z42 f fd):Binds K fd ["thing","least","most","first","last"] []:=F.binds (ps:=["thing","least","most","first","last"]) fun _ _ _ _ _ _ us hl=>match us,hl with|[_,_,_,_,_],_=>rfl
theorem z5a {k:Nat} {f:Addr} {fd:y0b} (F:Fun K "is_text" "is_text" z42 f fd) (m:mg "is_text"=some (.ref f)) (z_all:mg "all"=none) (z_isinstance:mg "isinstance"=none) (z_len:mg "len"=none) (z_str:mg "str"=none):Cl P w K mg base "is_text" (k+1) 5 z28 :=
 z1a F zj6 (zke F) m fun cdv A outer s H E hr =>
  (z08 (s_if (w_t (w_or (z62 (z3o (v2r (zo5 zug zv9 z_isinstance z_str (q_nm 0))))) (z85 (z62 (zt0 (q_nm 1) (v2r (zeg (by exact z_len) (z0g (q_nm 0) z0r))) (q_nm 2)))))) (z0h (z0o q_bl)) z37)
  (z0h (z0o (zgp rfl z_all (z0g (v2r (z12 (own:=["sign"]) (caps:=[(3,"first"),(4,"last")]) (z1q (sc:=z01 z42) ["thing","least","most","first","last"] rfl rfl rfl (by decide +kernel)) (i_A (z07 0)) (fun _ _ _ _ _ _=>(g_nm 0 (show y1m (["sign","first","last"]:List Str) by decide +kernel))) (fun _ _ _ _ _ _=>z2b) (fun _ _ _ _ _ _=>(zlf (q_nm 1) (q_nm 0) (q_nm 2))))) z0r)))))
abbrev z2z:Stmt:=top 45
theorem z5m:FnScope ["part","number","figure"] ["part"] (z01 z2z):=⟨rfl,rfl,rfl,by decide +kernel,rfl,by decide +kernel,by decide +kernel⟩
theorem zfq {K:y00} {f:Addr} {fd:y0b} (F:Fun K "number_of" "number_of" z2z f fd):Binds K fd ["part"] []:=F.binds (ps:=["part"]) fun _ _ _ _ _ _ us hl=>match us,hl with|[_],_=>rfl
theorem z7x {k:Nat} {f:Addr} {fd:y0b} (F:Fun K "number_of" "number_of" z2z f fd) (m:mg "number_of"=some (.ref f)) (z5a:Cl P w K mg base "is_text" k 5 z28) (z_len:mg "len"=none) (z_ord:mg "ord"=none):Cl P w K mg base "number_of" (k+1) 1 z51 :=
 z1a F z5m (zfq F) m fun cdv A outer s H E hr =>
  (z08 (s_if (z62 (z3o (v2r (z04 z5a hr (z00 (z07 0) (z00 z03 (z00 (zeg (by exact z_len) (z0g (q_nm 0) z0r)) (z00 z0f (z00 z0f z02))))))))) (z0h (z0o zgo)) z37)
  (z08 (z10 1 z5m.nd z03)
  (z08 (zja y21 (i_A (z07 0)) (g_nm 2 z5m.nd)
  (z0h (z10 1 z5m.nd (ztg (v2r (z19 (v2r (zd0 (q_nm 1) (v2r z03))) (v2r (zth z_ord (z0g (q_nm 2) z0r))))) (v2r (zth z_ord (z0g (v2r z0f) z0r)))))))
  (z0h (zad 1)))))
abbrev z1u:Stmt:=top 46
theorem zcp:FnScope ["parts"] ["parts"] (z01 z1u):=⟨rfl,rfl,rfl,by decide +kernel,rfl,by decide +kernel,by decide +kernel⟩
theorem zdl {K:y00} {f:Addr} {fd:y0b} (F:Fun K "numbers_of" "numbers_of" z1u f fd):Binds K fd ["parts"] []:=F.binds (ps:=["parts"]) fun _ _ _ _ _ _ us hl=>match us,hl with|[_],_=>rfl
theorem z1m {k:Nat} {f:Addr} {fd:y0b} (F:Fun K "numbers_of" "numbers_of" z1u f fd) (m:mg "numbers_of"=some (.ref f)) (z_tuple:mg "tuple"=none) (z7x:Cl P w K mg base "number_of" k 1 z51):Cl P w K mg base "numbers_of" (k+1) 1 z18 :=
 z1a F zcp (zdl F) m fun cdv A outer s H E hr =>
  (z0h (z0o (z3t z_tuple (z0g (v2r (z12 (own:=["part"]) (caps:=[]) (z1q (sc:=z01 z1u) ["parts"] rfl rfl rfl (by decide +kernel)) (i_A (z07 0)) (fun _ _ _ _ _ _=>(g_nm 0 (show y1m (["part"]:List Str) by decide +kernel))) (fun _ _ _ _ _ _=>z2b) (fun _ _ _ _ _ _=>(z04 (by exact z7x) (by exact hr) (z00 (z07 0) z02))))) z0r))))
abbrev z2h:Stmt:=top 52
theorem zct:FnScope ["parts"] ["parts"] (z01 z2h):=⟨rfl,rfl,rfl,by decide +kernel,rfl,by decide +kernel,by decide +kernel⟩
theorem zdp {K:y00} {f:Addr} {fd:y0b} (F:Fun K "event_from" "event_from" z2h f fd):Binds K fd ["parts"] []:=F.binds (ps:=["parts"]) fun _ _ _ _ _ _ us hl=>match us,hl with|[_],_=>rfl
theorem z6x {k:Nat} {f:Addr} {fd:y0b} (F:Fun K "event_from" "event_from" z2h f fd) (m:mg "event_from"=some (.ref f)) (z_tuple:mg "tuple"=none) (z1m:Cl P w K mg base "numbers_of" k 1 z18) (z_len:mg "len"=none):Cl P w K mg base "event_from" (k+1) 1 z1x :=
 z1a F zct (zdp F) m fun cdv A outer s H E hr =>
  (z08 (s_if (z2d (z3e (by exact hr.units)) z3f (v2r (q_ix (q_nm 0) (v2r z03))) (v2r z0f)) (z0h (z0o (z19 (v2r (z0y (z00 z0f z02))) (v2r (z04 z1m hr (z00 (z2x (q_nm 0) (z4z (v2r z03)) z6p) z02)))))) z37)
  (z08 (s_if (w_t (w_and (z2d (z3e (by exact hr.units)) z3f (v2r (q_ix (q_nm 0) (v2r z03))) (v2r z0f)) (zkt (z2d (z3e (by exact hr.units)) z3f (v2r (zeg (by exact z_len) (z0g (q_nm 0) z0r))) (v2r z03))))) (z0h (z0o (z19 (v2r (z3t z_tuple (z0g (q_nm 0) z0r))) (v2r (z0y (z00 zgo z02)))))) z37)
  (z0h (z0o (z3t z_tuple (z0g (q_nm 0) z0r))))))
abbrev z40:Stmt:=top 44
theorem zj4:FnScope ["text"] ["text"] (z01 z40):=⟨rfl,rfl,rfl,by decide +kernel,rfl,by decide +kernel,by decide +kernel⟩
theorem zk7 {K:y00} {f:Addr} {fd:y0b} (F:Fun K "rows_of" "rows_of" z40 f fd):Binds K fd ["text"] []:=F.binds (ps:=["text"]) fun _ _ _ _ _ _ us hl=>match us,hl with|[_],_=>rfl
theorem z58 {k:Nat} {f:Addr} {fd:y0b} (F:Fun K "rows_of" "rows_of" z40 f fd) (m:mg "rows_of"=some (.ref f)) :Cl P w K mg base "rows_of" (k+1) 1 z0u :=
 z1a F zj4 (zk7 F) m fun cdv A outer s H E hr =>
  (z0h (z0o (z12 (own:=["row"]) (caps:=[]) (z1q (sc:=z01 z40) ["text"] rfl rfl rfl (by decide +kernel)) (i_A (z2x (v2r (zld (q_nm 0) (v2r z0f))) z6p (z4z (v2r (ztj (v2r z03)))))) (fun _ _ _ _ _ _=>(g_nm 0 (show y1m (["row"]:List Str) by decide +kernel))) (fun _ _ _ _ _ _=>z2b) (fun _ _ _ _ _ _=>(zld (q_nm 0) (v2r z0f))))))
abbrev z3r:Stmt:=top 16
theorem zgd:FnScope ["thing","least","most"] ["thing","least","most"] (z01 z3r):=⟨rfl,rfl,rfl,by decide +kernel,rfl,by decide +kernel,by decide +kernel⟩
theorem zht {K:y00} {f:Addr} {fd:y0b} (F:Fun K "is_tuple" "is_tuple" z3r f fd):Binds K fd ["thing","least","most"] []:=F.binds (ps:=["thing","least","most"]) fun _ _ _ _ _ _ us hl=>match us,hl with|[_,_,_],_=>rfl
theorem z0d {k:Nat} {f:Addr} {fd:y0b} (F:Fun K "is_tuple" "is_tuple" z3r f fd) (m:mg "is_tuple"=some (.ref f)) (z_isinstance:mg "isinstance"=none) (z_tuple:mg "tuple"=none) (z_len:mg "len"=none):Cl P w K mg base "is_tuple" (k+1) 3 z05 :=
 z1a F zgd (zht F) m fun cdv A outer s H E hr =>
  (z0h (z0o (z4d (zo5 zoz zpl z_isinstance z_tuple (q_nm 0)) (z5u (zlf (q_nm 1) (v2r (zeg (by exact z_len) (z0g (q_nm 0) z0r))) (q_nm 2))))))
abbrev z3b:Stmt:=top 38
theorem zgg:FnScope ["plan","name"] ["plan","name"] (z01 z3b):=⟨rfl,rfl,rfl,by decide +kernel,rfl,by decide +kernel,by decide +kernel⟩
theorem zhw {K:y00} {f:Addr} {fd:y0b} (F:Fun K "has_zone" "has_zone" z3b f fd):Binds K fd ["plan","name"] []:=F.binds (ps:=["plan","name"]) fun _ _ _ _ _ _ us hl=>match us,hl with|[_,_],_=>rfl
theorem z61 {k:Nat} {f:Addr} {fd:y0b} (F:Fun K "has_zone" "has_zone" z3b f fd) (m:mg "has_zone"=some (.ref f)) :Cl P w K mg base "has_zone" (k+1) 2 z4j :=
 z1a F zgg (zhw F) m fun cdv A outer s H E hr =>
  (z0h (z0o (z7p (zak (by exact hr.units)) zam (q_nm 1) (v2r (z12 (own:=["zone"]) (caps:=[]) (z1q (sc:=z01 z3b) ["plan","name"] rfl rfl rfl (by decide +kernel)) (i_A (q_ix (q_nm 0) (v2r z03))) (fun _ _ _ _ _ _=>(g_nm 0 (show y1m (["zone"]:List Str) by decide +kernel))) (fun _ _ _ _ _ _=>z2b) (fun _ _ _ _ _ _=>(q_ix (q_nm 0) (v2r z03))))))))
abbrev z1e:Stmt:=top 39
theorem z9k:FnScope ["plan","thing"] ["plan","thing"] (z01 z1e):=⟨rfl,rfl,rfl,by decide +kernel,rfl,by decide +kernel,by decide +kernel⟩
theorem z9r {K:y00} {f:Addr} {fd:y0b} (F:Fun K "is_line_event" "is_line_event" z1e f fd):Binds K fd ["plan","thing"] []:=F.binds (ps:=["plan","thing"]) fun _ _ _ _ _ _ us hl=>match us,hl with|[_,_],_=>rfl
theorem z5c {k:Nat} {f:Addr} {fd:y0b} (F:Fun K "is_line_event" "is_line_event" z1e f fd) (m:mg "is_line_event"=some (.ref f)) (z0d:Cl P w K mg base "is_tuple" k 3 z05) (z61:Cl P w K mg base "has_zone" k 2 z4j) {a_LINES:Addr} (m_LINES:mg "LINES"=some (.ref a_LINES)) (t_LINES:∃(o:Obj) (its:Array Value) (n:Nat),K.lookup a_LINES=some o/\o.cls=.type "tuple"/\o.data=.seq its n/\its.size<=y0j/\Vals ((["shut","open","cut"]:List Str).map V.str) its.toList):Cl P w K mg base "is_line_event" (k+1) 2 z3j :=
 z1a F z9k (z9r F) m fun cdv A outer s H E hr =>
  (z0h (z0o (z4d (z04 z0d hr (z00 (z07 1) (z00 z03 (z00 z03 z02)))) (z4d (z7p (z3e (by exact hr.units)) z3f (v2r (q_ix (q_nm 1) (v2r z03))) (v2r z0f)) (z4d (z04 z61 hr (z00 (z07 0) (z00 (q_ix (q_nm 1) (v2r z03)) z02))) (z5u (z7p (zak (by exact hr.units)) zam (v2r (q_ix (q_nm 1) (v2r z03))) (v2r (q_gT m_LINES t_LINES)))))))))
abbrev z2g:Stmt:=top 19
theorem zcs:FnScope ["thing"] ["thing"] (z01 z2g):=⟨rfl,rfl,rfl,by decide +kernel,rfl,by decide +kernel,by decide +kernel⟩
theorem zdn {K:y00} {f:Addr} {fd:y0b} (F:Fun K "is_figures" "is_figures" z2g f fd):Binds K fd ["thing"] []:=F.binds (ps:=["thing"]) fun _ _ _ _ _ _ us hl=>match us,hl with|[_],_=>rfl
theorem z46 {k:Nat} {f:Addr} {fd:y0b} (F:Fun K "is_figures" "is_figures" z2g f fd) (m:mg "is_figures"=some (.ref f)) (z5a:Cl P w K mg base "is_text" k 5 z28):Cl P w K mg base "is_figures" (k+1) 1 z2m :=
 z1a F zcs (zdn F) m fun cdv A outer s H E hr =>
  (z0h (z0o (z04 z5a hr (z00 (z07 0) (z00 z03 (z00 z03 (z00 z0f (z00 z0f z02))))))))
abbrev z1f:Stmt:=top 40
theorem z9l:FnScope ["plan","thing"] ["plan","thing"] (z01 z1f):=⟨rfl,rfl,rfl,by decide +kernel,rfl,by decide +kernel,by decide +kernel⟩
theorem z9s {K:y00} {f:Addr} {fd:y0b} (F:Fun K "is_code_event" "is_code_event" z1f f fd):Binds K fd ["plan","thing"] []:=F.binds (ps:=["plan","thing"]) fun _ _ _ _ _ _ us hl=>match us,hl with|[_,_],_=>rfl
theorem z5d {k:Nat} {f:Addr} {fd:y0b} (F:Fun K "is_code_event" "is_code_event" z1f f fd) (m:mg "is_code_event"=some (.ref f)) (z61:Cl P w K mg base "has_zone" k 2 z4j) (z0d:Cl P w K mg base "is_tuple" k 3 z05) (z46:Cl P w K mg base "is_figures" k 1 z2m) {a_DEEDS_ALONE:Addr} (m_DEEDS_ALONE:mg "DEEDS_ALONE"=some (.ref a_DEEDS_ALONE)) (t_DEEDS_ALONE:∃(o:Obj) (its:Array Value) (n:Nat),K.lookup a_DEEDS_ALONE=some o/\o.cls=.type "tuple"/\o.data=.seq its n/\its.size<=y0j/\Vals ((["set","unset"]:List Str).map V.str) its.toList) {a_DEEDS_OF_ZONES:Addr} (m_DEEDS_OF_ZONES:mg "DEEDS_OF_ZONES"=some (.ref a_DEEDS_OF_ZONES)) (t_DEEDS_OF_ZONES:∃(o:Obj) (its:Array Value) (n:Nat),K.lookup a_DEEDS_OF_ZONES=some o/\o.cls=.type "tuple"/\o.data=.seq its n/\its.size<=y0j/\Vals ((["shunt","free"]:List Str).map V.str) its.toList):Cl P w K mg base "is_code_event" (k+1) 2 z2n :=
 z1a F z9l (z9s F) m fun cdv A outer s H E hr =>
  (z08 (s_if (w_t (w_or (z62 (z3o (v2r (z04 z0d hr (z00 (z07 1) (z00 z03 (z00 z03 z02))))))) (w_or (z2d (z5o (by exact hr.units)) z5p (v2r (q_ix (q_nm 1) (v2r z03))) (v2r z0f)) (z85 (z62 (z3o (v2r (z04 z46 hr (z00 (q_ix (q_nm 1) (v2r z03)) z02))))))))) (z0h (z0o q_bl)) z37)
  (z08 (s_if (z2d (zak (by exact hr.units)) zam (v2r (q_ix (q_nm 1) (v2r z03))) (v2r (q_gT m_DEEDS_ALONE t_DEEDS_ALONE))) (z0h (z0o (zr7 (v2r (q_ix (q_nm 1) (v2r z03)))))) z37)
  (z0h (z0o (z4d (z7p (zak (by exact hr.units)) zam (v2r (q_ix (q_nm 1) (v2r z03))) (v2r (q_gT m_DEEDS_OF_ZONES t_DEEDS_OF_ZONES))) (z5u (z04 z61 hr (z00 (z07 0) (z00 (q_ix (q_nm 1) (v2r z03)) z02)))))))))
abbrev z3q:Stmt:=top 14
theorem zgc:FnScope ["thing"] ["thing"] (z01 z3q):=⟨rfl,rfl,rfl,by decide +kernel,rfl,by decide +kernel,by decide +kernel⟩
theorem zhs {K:y00} {f:Addr} {fd:y0b} (F:Fun K "is_whole" "is_whole" z3q f fd):Binds K fd ["thing"] []:=F.binds (ps:=["thing"]) fun _ _ _ _ _ _ us hl=>match us,hl with|[_],_=>rfl
theorem z60 {k:Nat} {f:Addr} {fd:y0b} (F:Fun K "is_whole" "is_whole" z3q f fd) (m:mg "is_whole"=some (.ref f)) (z_isinstance:mg "isinstance"=none) (z_int:mg "int"=none) (z_bool:mg "bool"=none):Cl P w K mg base "is_whole" (k+1) 1 z4h :=
 z1a F zgc (zhs F) m fun cdv A outer s H E hr =>
  (z0h (z0o (z4d (zo5 zuh zva z_isinstance z_int (q_nm 0)) (z5u (zvw (zo5 zrz zsh z_isinstance z_bool (q_nm 0)))))))
abbrev z14:Stmt:=top 41
theorem z8t:FnScope ["thing"] ["thing"] (z01 z14):=⟨rfl,rfl,rfl,by decide +kernel,rfl,by decide +kernel,by decide +kernel⟩
theorem z96 {K:y00} {f:Addr} {fd:y0b} (F:Fun K "is_ticks_event" "is_ticks_event" z14 f fd):Binds K fd ["thing"] []:=F.binds (ps:=["thing"]) fun _ _ _ _ _ _ us hl=>match us,hl with|[_],_=>rfl
theorem z48 {k:Nat} {f:Addr} {fd:y0b} (F:Fun K "is_ticks_event" "is_ticks_event" z14 f fd) (m:mg "is_ticks_event"=some (.ref f)) (z0d:Cl P w K mg base "is_tuple" k 3 z05) (z60:Cl P w K mg base "is_whole" k 1 z4h):Cl P w K mg base "is_ticks_event" (k+1) 1 z2y :=
 z1a F z8t (z96 F) m fun cdv A outer s H E hr =>
  (z0h (z0o (z4d (z04 z0d hr (z00 (z07 0) (z00 z03 (z00 z03 z02)))) (z4d (z7p (z3e (by exact hr.units)) z3f (v2r (q_ix (q_nm 0) (v2r z03))) (v2r z0f)) (z4d (z04 z60 hr (z00 (q_ix (q_nm 0) (v2r z03)) z02)) (z5u (z7p (zua.or zek) zq6 (v2r (q_ix (q_nm 0) (v2r z03))) (v2r z03))))))))
abbrev z3s:Stmt:=top 42
theorem zgf:FnScope ["plan","thing"] ["plan","thing"] (z01 z3s):=⟨rfl,rfl,rfl,by decide +kernel,rfl,by decide +kernel,by decide +kernel⟩
theorem zhv {K:y00} {f:Addr} {fd:y0b} (F:Fun K "is_event" "is_event" z3s f fd):Binds K fd ["plan","thing"] []:=F.binds (ps:=["plan","thing"]) fun _ _ _ _ _ _ us hl=>match us,hl with|[_,_],_=>rfl
theorem z95 {k:Nat} {f:Addr} {fd:y0b} (F:Fun K "is_event" "is_event" z3s f fd) (m:mg "is_event"=some (.ref f)) (z5c:Cl P w K mg base "is_line_event" k 2 z3j) (z5d:Cl P w K mg base "is_code_event" k 2 z2n) (z48:Cl P w K mg base "is_ticks_event" k 1 z2y):Cl P w K mg base "is_event" (k+1) 2 z5x :=
 z1a F zgf (zhv F) m fun cdv A outer s H E hr =>
  (z0h (z0o (q_or (z04 z5c hr (z00 (z07 0) (z00 (z07 1) z02))) (q_or (z04 z5d hr (z00 (z07 0) (z00 (z07 1) z02))) (zti (z04 z48 hr (z00 (z07 1) z02)))))))
abbrev z2r:Stmt:=top 53
theorem zab:FnScope ["plan","text","row"] ["plan","text"] (z01 z2r):=⟨rfl,rfl,rfl,by decide +kernel,rfl,by decide +kernel,by decide +kernel⟩
theorem zhr {K:y00} {f:Addr} {fd:y0b} (F:Fun K "read_row" "read_row" z2r f fd):Binds K fd ["plan","text"] []:=F.binds (ps:=["plan","text"]) fun _ _ _ _ _ _ us hl=>match us,hl with|[_,_],_=>rfl
theorem z7d {k:Nat} {f:Addr} {fd:y0b} (F:Fun K "read_row" "read_row" z2r f fd) (m:mg "read_row"=some (.ref f)) (z_tuple:mg "tuple"=none) (z6x:Cl P w K mg base "event_from" k 1 z1x) (z_all:mg "all"=none) (z2s:Cl P w K mg base "row_text" k 1 z1j) (z58:Cl P w K mg base "rows_of" k 1 z0u) (z95:Cl P w K mg base "is_event" k 2 z5x):Cl P w K mg base "read_row" (k+1) 2 z3v :=
 z1a F zab (zhr F) m fun cdv A outer s H E hr =>
  (z08 (z10 2 zab.nd (z3t z_tuple (z0g (v2r (z12 (own:=["parts"]) (caps:=[]) (z1q (sc:=z01 z2r) ["plan","text","row"] rfl rfl rfl (by decide +kernel)) (i_A (z04 z58 hr (z00 (z07 1) z02))) (fun _ _ _ _ _ _=>(g_nm 0 (show y1m (["parts"]:List Str) by decide +kernel))) (fun _ _ _ _ _ _=>z2b) (fun _ _ _ _ _ _=>(z04 (by exact z6x) (by exact hr) (z00 (z07 0) z02))))) z0r)))
  (z08 (s_if (w_t (w_or (z62 (z3o (v2r (zgp rfl z_all (z0g (v2r (z12 (own:=["event"]) (caps:=[(0,"plan")]) (z1q (sc:=z01 z2r) ["plan","text","row"] rfl rfl rfl (by decide +kernel)) (i_A (z07 2)) (fun _ _ _ _ _ _=>(g_nm 0 (show y1m (["event","plan"]:List Str) by decide +kernel))) (fun _ _ _ _ _ _=>z2b) (fun _ _ _ _ _ _=>(z04 (by exact z95) (by exact hr) (z00 (z07 1) (z00 (z07 0) z02)))))) z0r))))) (z85 (z2d (z5o (by exact hr.units)) z5p (v2r (z04 z2s hr (z00 (z07 2) z02))) (q_nm 1))))) (z0h zgh) z37)
  (z0h (zad 2))))
abbrev z1d:Stmt:=top 47
theorem z9j:FnScope ["rows"] ["rows"] (z01 z1d):=⟨rfl,rfl,rfl,by decide +kernel,rfl,by decide +kernel,by decide +kernel⟩
theorem z9q {K:y00} {f:Addr} {fd:y0b} (F:Fun K "numbers_ahead" "numbers_ahead" z1d f fd):Binds K fd ["rows"] []:=F.binds (ps:=["rows"]) fun _ _ _ _ _ _ us hl=>match us,hl with|[_],_=>rfl
theorem z2o {k:Nat} {f:Addr} {fd:y0b} (F:Fun K "numbers_ahead" "numbers_ahead" z1d f fd) (m:mg "numbers_ahead"=some (.ref f)) (z1m:Cl P w K mg base "numbers_of" k 1 z18):Cl P w K mg base "numbers_ahead" (k+1) 1 z0j :=
 z1a F z9j (z9q F) m fun cdv A outer s H E hr =>
  (z0h (z0o (zr8 (zsz (q_nm 0)) (z04 z1m hr (z00 (z2x (v2r (q_ix (q_nm 0) (v2r z03))) (z4z (v2r z03)) z6p) z02)) (z0y z02))))
abbrev z32:Stmt:=top 48
theorem ze6:FnScope ["parts"] ["parts"] (z01 z32):=⟨rfl,rfl,rfl,by decide +kernel,rfl,by decide +kernel,by decide +kernel⟩
theorem zft {K:y00} {f:Addr} {fd:y0b} (F:Fun K "code_from" "code_from" z32 f fd):Binds K fd ["parts"] []:=F.binds (ps:=["parts"]) fun _ _ _ _ _ _ us hl=>match us,hl with|[_],_=>rfl
theorem z7z {k:Nat} {f:Addr} {fd:y0b} (F:Fun K "code_from" "code_from" z32 f fd) (m:mg "code_from"=some (.ref f)) (z1m:Cl P w K mg base "numbers_of" k 1 z18) (z_tuple:mg "tuple"=none):Cl P w K mg base "code_from" (k+1) 1 z35 :=
 z1a F ze6 (zft F) m fun cdv A outer s H E hr =>
  (z0h (z0o (z19 (v2r (z19 (v2r (z3t z_tuple (z0g (v2r (z2x (q_nm 0) (z4z (v2r z03)) (z4z (v2r z03)))) z0r))) (v2r (z0y (z00 (z3t z_tuple (z0g (v2r (z2x (q_nm 0) (z4z (v2r z03)) z6p)) z0r)) z02))))) (v2r (z04 z1m hr (z00 (z2x (q_nm 0) (z4z (v2r z03)) (z4z (v2r z03))) z02))))))
abbrev z6k:Stmt:=top 20
theorem znw:FnScope ["things"] ["things"] (z01 z6k):=⟨rfl,rfl,rfl,by decide +kernel,rfl,by decide +kernel,by decide +kernel⟩
theorem zpn {K:y00} {f:Addr} {fd:y0b} (F:Fun K "rises" "rises" z6k f fd):Binds K fd ["things"] []:=F.binds (ps:=["things"]) fun _ _ _ _ _ _ us hl=>match us,hl with|[_],_=>rfl
theorem z7w {k:Nat} {f:Addr} {fd:y0b} (F:Fun K "rises" "rises" z6k f fd) (m:mg "rises"=some (.ref f)) (z_all:mg "all"=none) (z_zip:mg "zip"=none):Cl P w K mg base "rises" (k+1) 1 z50 :=
 z1a F znw (zpn F) m fun cdv A outer s H E hr =>
  (z0h (z0o (zgp rfl z_all (z0g (v2r (z12 (own:=["one","other"]) (caps:=[]) (z1q (sc:=z01 z6k) ["things"] rfl rfl rfl (by decide +kernel)) (zut z_zip (z07 0) (z2x (q_nm 0) (z4z (v2r z03)) z6p)) (fun _ _ _ _ _ _=>(zmi (z5v (g_nm 0 (show y1m (["one","other"]:List Str) by decide +kernel)) (z5v (g_nm 1 (show y1m (["one","other"]:List Str) by decide +kernel)) zmj)))) (fun _ _ _ _ _ _=>z2b) (fun _ _ _ _ _ _=>(z7p (zln.or z6n) zel (q_nm 0) (q_nm 1))))) z0r))))
abbrev z4s:Stmt:=top 18
theorem zj8:FnScope ["thing"] ["thing"] (z01 z4s):=⟨rfl,rfl,rfl,by decide +kernel,rfl,by decide +kernel,by decide +kernel⟩
theorem zkg {K:y00} {f:Addr} {fd:y0b} (F:Fun K "is_name" "is_name" z4s f fd):Binds K fd ["thing"] []:=F.binds (ps:=["thing"]) fun _ _ _ _ _ _ us hl=>match us,hl with|[_],_=>rfl
theorem z5b {k:Nat} {f:Addr} {fd:y0b} (F:Fun K "is_name" "is_name" z4s f fd) (m:mg "is_name"=some (.ref f)) (z5a:Cl P w K mg base "is_text" k 5 z28):Cl P w K mg base "is_name" (k+1) 1 z45 :=
 z1a F zj8 (zkg F) m fun cdv A outer s H E hr =>
  (z0h (z0o (z04 z5a hr (z00 (z07 0) (z00 z03 (z00 z03 (z00 z0f (z00 z0f z02))))))))
abbrev z4q:Stmt:=top 31
theorem zj5:FnScope ["thing"] ["thing"] (z01 z4q):=⟨rfl,rfl,rfl,by decide +kernel,rfl,by decide +kernel,by decide +kernel⟩
theorem zkd {K:y00} {f:Addr} {fd:y0b} (F:Fun K "is_zone" "is_zone" z4q f fd):Binds K fd ["thing"] []:=F.binds (ps:=["thing"]) fun _ _ _ _ _ _ us hl=>match us,hl with|[_],_=>rfl
theorem zb5 {k:Nat} {f:Addr} {fd:y0b} (F:Fun K "is_zone" "is_zone" z4q f fd) (m:mg "is_zone"=some (.ref f)) (z0d:Cl P w K mg base "is_tuple" k 3 z05) (z5b:Cl P w K mg base "is_name" k 1 z45) {a_KINDS:Addr} (m_KINDS:mg "KINDS"=some (.ref a_KINDS)) (t_KINDS:∃(o:Obj) (its:Array Value) (n:Nat),K.lookup a_KINDS=some o/\o.cls=.type "tuple"/\o.data=.seq its n/\its.size<=y0j/\Vals ((["day","inner","once","way"]:List Str).map V.str) its.toList):Cl P w K mg base "is_zone" (k+1) 1 z5w :=
 z1a F zj5 (zkd F) m fun cdv A outer s H E hr =>
  (z0h (z0o (z4d (z04 z0d hr (z00 (z07 0) (z00 z03 (z00 z03 z02)))) (z4d (z04 z5b hr (z00 (q_ix (q_nm 0) (v2r z03)) z02)) (z5u (z7p (zak (by exact hr.units)) zam (v2r (q_ix (q_nm 0) (v2r z03))) (v2r (q_gT m_KINDS t_KINDS))))))))
abbrev z22:Stmt:=top 32
theorem ze7:FnScope ["thing"] ["thing"] (z01 z22):=⟨rfl,rfl,rfl,by decide +kernel,rfl,by decide +kernel,by decide +kernel⟩
theorem zfu {K:y00} {f:Addr} {fd:y0b} (F:Fun K "are_zones" "are_zones" z22 f fd):Binds K fd ["thing"] []:=F.binds (ps:=["thing"]) fun _ _ _ _ _ _ us hl=>match us,hl with|[_],_=>rfl
theorem z80 {k:Nat} {f:Addr} {fd:y0b} (F:Fun K "are_zones" "are_zones" z22 f fd) (m:mg "are_zones"=some (.ref f)) (z7w:Cl P w K mg base "rises" k 1 z50) (z0d:Cl P w K mg base "is_tuple" k 3 z05) (z_all:mg "all"=none) (zb5:Cl P w K mg base "is_zone" k 1 z5w):Cl P w K mg base "are_zones" (k+1) 1 z53 :=
 z1a F ze7 (zfu F) m fun cdv A outer s H E hr =>
  (z08 (s_if (w_t (w_or (z62 (z3o (v2r (z04 z0d hr (z00 (z07 0) (z00 z03 (z00 z03 z02))))))) (z85 (z62 (z3o (v2r (zgp rfl z_all (z0g (v2r (z12 (own:=["zone"]) (caps:=[]) (z1q (sc:=z01 z22) ["thing"] rfl rfl rfl (by decide +kernel)) (i_A (z07 0)) (fun _ _ _ _ _ _=>(g_nm 0 (show y1m (["zone"]:List Str) by decide +kernel))) (fun _ _ _ _ _ _=>z2b) (fun _ _ _ _ _ _=>(z04 (by exact zb5) (by exact hr) (z00 (z07 0) z02))))) z0r)))))))) (z0h (z0o q_bl)) z37)
  (z0h (z0o (z04 z7w hr (z00 (z12 (own:=["zone"]) (caps:=[]) (z1q (sc:=z01 z22) ["thing"] rfl rfl rfl (by decide +kernel)) (i_A (z07 0)) (fun _ _ _ _ _ _=>(g_nm 0 (show y1m (["zone"]:List Str) by decide +kernel))) (fun _ _ _ _ _ _=>z2b) (fun _ _ _ _ _ _=>(q_ix (q_nm 0) (v2r z03)))) z02)))))
abbrev z1w:Stmt:=top 33
theorem zcv:FnScope ["thing"] ["thing"] (z01 z1w):=⟨rfl,rfl,rfl,by decide +kernel,rfl,by decide +kernel,by decide +kernel⟩
theorem zdr {K:y00} {f:Addr} {fd:y0b} (F:Fun K "are_rights" "are_rights" z1w f fd):Binds K fd ["thing"] []:=F.binds (ps:=["thing"]) fun _ _ _ _ _ _ us hl=>match us,hl with|[_],_=>rfl
theorem z6z {k:Nat} {f:Addr} {fd:y0b} (F:Fun K "are_rights" "are_rights" z1w f fd) (m:mg "are_rights"=some (.ref f)) (z0d:Cl P w K mg base "is_tuple" k 3 z05) (z_all:mg "all"=none) (z7w:Cl P w K mg base "rises" k 1 z50) {a_RIGHTS:Addr} (m_RIGHTS:mg "RIGHTS"=some (.ref a_RIGHTS)) (t_RIGHTS:∃(o:Obj) (its:Array Value) (n:Nat),K.lookup a_RIGHTS=some o/\o.cls=.type "tuple"/\o.data=.seq its n/\its.size<=y0j/\Vals ((["set","shunt","unset"]:List Str).map V.str) its.toList):Cl P w K mg base "are_rights" (k+1) 1 z5r :=
 z1a F zcv (zdr F) m fun cdv A outer s H E hr =>
  (z0h (z0o (z4d (z04 z0d hr (z00 (z07 0) (z00 z03 (z00 z03 z02)))) (z4d (zgp rfl z_all (z0g (v2r (z12 (own:=["right"]) (caps:=[]) (z1q (sc:=z01 z1w) ["thing"] rfl rfl rfl (by decide +kernel)) (i_A (z07 0)) (fun _ _ _ _ _ _=>(g_nm 0 (show y1m (["right"]:List Str) by decide +kernel))) (fun _ _ _ _ _ _=>z2b) (fun _ _ _ _ _ _=>(z7p (zak (by exact hr.units)) zam (q_nm 0) (v2r (q_gT (by exact m_RIGHTS) (by exact t_RIGHTS))))))) z0r)) (z5u (z04 z7w hr (z00 (z07 0) z02)))))))
abbrev z31:Stmt:=top 15
theorem ze5:FnScope ["thing","least","most"] ["thing","least","most"] (z01 z31):=⟨rfl,rfl,rfl,by decide +kernel,rfl,by decide +kernel,by decide +kernel⟩
theorem zfs {K:y00} {f:Addr} {fd:y0b} (F:Fun K "is_within" "is_within" z31 f fd):Binds K fd ["thing","least","most"] []:=F.binds (ps:=["thing","least","most"]) fun _ _ _ _ _ _ us hl=>match us,hl with|[_,_,_],_=>rfl
theorem z16 {k:Nat} {f:Addr} {fd:y0b} (F:Fun K "is_within" "is_within" z31 f fd) (m:mg "is_within"=some (.ref f)) (z60:Cl P w K mg base "is_whole" k 1 z4h):Cl P w K mg base "is_within" (k+1) 3 z0s :=
 z1a F ze5 (zfs F) m fun cdv A outer s H E hr =>
  (z0h (z0o (z4d (z04 z60 hr (z00 (z07 0) z02)) (z5u (zlf (q_nm 1) (q_nm 0) (q_nm 2))))))
abbrev z4t:Stmt:=top 34
theorem zj9:FnScope ["thing"] ["thing"] (z01 z4t):=⟨rfl,rfl,rfl,by decide +kernel,rfl,by decide +kernel,by decide +kernel⟩
theorem zkh {K:y00} {f:Addr} {fd:y0b} (F:Fun K "is_code" "is_code" z4t f fd):Binds K fd ["thing"] []:=F.binds (ps:=["thing"]) fun _ _ _ _ _ _ us hl=>match us,hl with|[_],_=>rfl
theorem zb7 {k:Nat} {f:Addr} {fd:y0b} (F:Fun K "is_code" "is_code" z4t f fd) (m:mg "is_code"=some (.ref f)) (z0d:Cl P w K mg base "is_tuple" k 3 z05) (z46:Cl P w K mg base "is_figures" k 1 z2m) (z5b:Cl P w K mg base "is_name" k 1 z45) (z6z:Cl P w K mg base "are_rights" k 1 z5r) (z16:Cl P w K mg base "is_within" k 3 z0s):Cl P w K mg base "is_code" (k+1) 1 z5y :=
 z1a F zj9 (zkh F) m fun cdv A outer s H E hr =>
  (z08 (s_if (z62 (z3o (v2r (z04 z0d hr (z00 (z07 0) (z00 z03 (z00 z03 z02))))))) (z0h (z0o q_bl)) z37)
  (z0h (z0o (z4d (z04 z46 hr (z00 (q_ix (q_nm 0) (v2r z03)) z02)) (z4d (z04 z5b hr (z00 (q_ix (q_nm 0) (v2r z03)) z02)) (z4d (z04 z6z hr (z00 (q_ix (q_nm 0) (v2r z03)) z02)) (z5u (z04 z16 hr (z00 (q_ix (q_nm 0) (v2r z03)) (z00 z03 (z00 z03 z02)))))))))))
abbrev z23:Stmt:=top 35
theorem ze9:FnScope ["thing"] ["thing"] (z01 z23):=⟨rfl,rfl,rfl,by decide +kernel,rfl,by decide +kernel,by decide +kernel⟩
theorem zfw {K:y00} {f:Addr} {fd:y0b} (F:Fun K "are_codes" "are_codes" z23 f fd):Binds K fd ["thing"] []:=F.binds (ps:=["thing"]) fun _ _ _ _ _ _ us hl=>match us,hl with|[_],_=>rfl
theorem z82 {k:Nat} {f:Addr} {fd:y0b} (F:Fun K "are_codes" "are_codes" z23 f fd) (m:mg "are_codes"=some (.ref f)) (z7w:Cl P w K mg base "rises" k 1 z50) (z0d:Cl P w K mg base "is_tuple" k 3 z05) (z_all:mg "all"=none) (zb7:Cl P w K mg base "is_code" k 1 z5y):Cl P w K mg base "are_codes" (k+1) 1 z55 :=
 z1a F ze9 (zfw F) m fun cdv A outer s H E hr =>
  (z08 (s_if (w_t (w_or (z62 (z3o (v2r (z04 z0d hr (z00 (z07 0) (z00 z03 (z00 z03 z02))))))) (z85 (z62 (z3o (v2r (zgp rfl z_all (z0g (v2r (z12 (own:=["code"]) (caps:=[]) (z1q (sc:=z01 z23) ["thing"] rfl rfl rfl (by decide +kernel)) (i_A (z07 0)) (fun _ _ _ _ _ _=>(g_nm 0 (show y1m (["code"]:List Str) by decide +kernel))) (fun _ _ _ _ _ _=>z2b) (fun _ _ _ _ _ _=>(z04 (by exact zb7) (by exact hr) (z00 (z07 0) z02))))) z0r)))))))) (z0h (z0o q_bl)) z37)
  (z0h (z0o (z04 z7w hr (z00 (z12 (own:=["code"]) (caps:=[]) (z1q (sc:=z01 z23) ["thing"] rfl rfl rfl (by decide +kernel)) (i_A (z07 0)) (fun _ _ _ _ _ _=>(g_nm 0 (show y1m (["code"]:List Str) by decide +kernel))) (fun _ _ _ _ _ _=>z2b) (fun _ _ _ _ _ _=>(q_ix (q_nm 0) (v2r z03)))) z02)))))
abbrev z33:Stmt:=top 36
theorem ze8:FnScope ["thing"] ["thing"] (z01 z33):=⟨rfl,rfl,rfl,by decide +kernel,rfl,by decide +kernel,by decide +kernel⟩
theorem zfv {K:y00} {f:Addr} {fd:y0b} (F:Fun K "are_times" "are_times" z33 f fd):Binds K fd ["thing"] []:=F.binds (ps:=["thing"]) fun _ _ _ _ _ _ us hl=>match us,hl with|[_],_=>rfl
theorem z81 {k:Nat} {f:Addr} {fd:y0b} (F:Fun K "are_times" "are_times" z33 f fd) (m:mg "are_times"=some (.ref f)) (z0d:Cl P w K mg base "is_tuple" k 3 z05) (z16:Cl P w K mg base "is_within" k 3 z0s):Cl P w K mg base "are_times" (k+1) 1 z54 :=
 z1a F ze8 (zfv F) m fun cdv A outer s H E hr =>
  (z08 (s_if (z62 (z3o (v2r (z04 z0d hr (z00 (z07 0) (z00 z03 (z00 z03 z02))))))) (z0h (z0o q_bl)) z37)
  (z0h (z0o (z4d (z04 z16 hr (z00 (q_ix (q_nm 0) (v2r z03)) (z00 z03 (z00 z03 z02)))) (z4d (z04 z16 hr (z00 (q_ix (q_nm 0) (v2r z03)) (z00 z03 (z00 z03 z02)))) (z5u (z04 z16 hr (z00 (q_ix (q_nm 0) (v2r z03)) (z00 z03 (z00 z03 z02))))))))))
abbrev z4r:Stmt:=top 37
theorem zj7:FnScope ["thing"] ["thing"] (z01 z4r):=⟨rfl,rfl,rfl,by decide +kernel,rfl,by decide +kernel,by decide +kernel⟩
theorem zkf {K:y00} {f:Addr} {fd:y0b} (F:Fun K "is_plan" "is_plan" z4r f fd):Binds K fd ["thing"] []:=F.binds (ps:=["thing"]) fun _ _ _ _ _ _ us hl=>match us,hl with|[_],_=>rfl
theorem zb6 {k:Nat} {f:Addr} {fd:y0b} (F:Fun K "is_plan" "is_plan" z4r f fd) (m:mg "is_plan"=some (.ref f)) (z0d:Cl P w K mg base "is_tuple" k 3 z05) (z80:Cl P w K mg base "are_zones" k 1 z53) (z82:Cl P w K mg base "are_codes" k 1 z55) (z81:Cl P w K mg base "are_times" k 1 z54):Cl P w K mg base "is_plan" (k+1) 1 z6r :=
 z1a F zj7 (zkf F) m fun cdv A outer s H E hr =>
  (z0h (z0o (z4d (z04 z0d hr (z00 (z07 0) (z00 z03 (z00 z03 z02)))) (z4d (z04 z80 hr (z00 (q_ix (q_nm 0) (v2r z03)) z02)) (z4d (z04 z82 hr (z00 (q_ix (q_nm 0) (v2r z03)) z02)) (z5u (z04 z81 hr (z00 (q_ix (q_nm 0) (v2r z03)) z02))))))))
abbrev z1z:Stmt:=top 49
theorem z3y:FnScope ["text","rows","zones","codes","plan"] ["text"] (z01 z1z):=⟨rfl,rfl,rfl,by decide +kernel,rfl,by decide +kernel,by decide +kernel⟩
theorem zfo {K:y00} {f:Addr} {fd:y0b} (F:Fun K "read_plan" "read_plan" z1z f fd):Binds K fd ["text"] []:=F.binds (ps:=["text"]) fun _ _ _ _ _ _ us hl=>match us,hl with|[_],_=>rfl
theorem z66 {k:Nat} {f:Addr} {fd:y0b} (F:Fun K "read_plan" "read_plan" z1z f fd) (m:mg "read_plan"=some (.ref f)) (z58:Cl P w K mg base "rows_of" k 1 z0u) (z_tuple:mg "tuple"=none) (z2o:Cl P w K mg base "numbers_ahead" k 1 z0j) (z7z:Cl P w K mg base "code_from" k 1 z35) (zb6:Cl P w K mg base "is_plan" k 1 z6r) (z26:Cl P w K mg base "plan_text" k 1 z15):Cl P w K mg base "read_plan" (k+1) 1 z34 :=
 z1a F z3y (zfo F) m fun cdv A outer s H E hr =>
  (z08 (z10 1 z3y.nd (z04 z58 hr (z00 (z07 0) z02)))
  (z08 (z10 2 z3y.nd (z3t z_tuple (z0g (v2r (z12 (own:=["parts"]) (caps:=[]) (z1q (sc:=z01 z1z) ["text","rows","zones","codes","plan"] rfl rfl rfl (by decide +kernel)) (i_A (z07 1)) (fun _ _ _ _ _ _=>(g_nm 0 (show y1m (["parts"]:List Str) by decide +kernel))) (fun _ _ _ _ _ _=>(zi7 (z2d (z3e (by exact hr.units)) z3f (v2r (q_ix (q_nm 0) (v2r z03))) (v2r z0f)))) (fun _ _ _ _ _ _=>(z3t (by exact z_tuple) (z0g (v2r (z2x (q_nm 0) (z4z (v2r z03)) z6p)) z0r))))) z0r)))
  (z08 (z10 3 z3y.nd (z3t z_tuple (z0g (v2r (z12 (own:=["parts"]) (caps:=[]) (z1q (sc:=z01 z1z) ["text","rows","zones","codes","plan"] rfl rfl rfl (by decide +kernel)) (i_A (z07 1)) (fun _ _ _ _ _ _=>(g_nm 0 (show y1m (["parts"]:List Str) by decide +kernel))) (fun _ _ _ _ _ _=>(zi7 (z2d (z3e (by exact hr.units)) z3f (v2r (q_ix (q_nm 0) (v2r z03))) (v2r z0f)))) (fun _ _ _ _ _ _=>(z04 (by exact z7z) (by exact hr) (z00 (z07 0) z02))))) z0r)))
  (z08 (z10 4 z3y.nd (z0y (z00 (z07 2) (z00 (z07 3) (z00 (z04 z2o hr (z00 (z07 1) z02)) z02)))))
  (z08 (s_if (w_t (w_or (z62 (z3o (v2r (z04 zb6 hr (z00 (z07 4) z02))))) (z85 (z2d (z5o (by exact hr.units)) z5p (v2r (z04 z26 hr (z00 (z07 4) z02))) (q_nm 0))))) (z0h zgh) z37)
  (z0h (zad 4)))))))
abbrev z17:Stmt:=top 50
theorem zac:FnScope ["parts"] ["parts"] (z01 z17):=⟨rfl,rfl,rfl,by decide +kernel,rfl,by decide +kernel,by decide +kernel⟩
theorem zb9 {K:y00} {f:Addr} {fd:y0b} (F:Fun K "opening_from" "opening_from" z17 f fd):Binds K fd ["parts"] []:=F.binds (ps:=["parts"]) fun _ _ _ _ _ _ us hl=>match us,hl with|[_],_=>rfl
theorem z5t {k:Nat} {f:Addr} {fd:y0b} (F:Fun K "opening_from" "opening_from" z17 f fd) (m:mg "opening_from"=some (.ref f)) (z1m:Cl P w K mg base "numbers_of" k 1 z18) (z_tuple:mg "tuple"=none):Cl P w K mg base "opening_from" (k+1) 1 z1p :=
 z1a F zac (zb9 F) m fun cdv A outer s H E hr =>
  (z0h (z0o (z19 (v2r (z04 z1m hr (z00 (z2x (q_nm 0) z6p (z4z (v2r z03))) z02))) (v2r (z3t z_tuple (z0g (v2r (z12 (own:=["zone"]) (caps:=[]) (z1q (sc:=z01 z17) ["parts"] rfl rfl rfl (by decide +kernel)) (i_A (z2x (q_nm 0) (z4z (v2r z03)) z6p)) (fun _ _ _ _ _ _=>(g_nm 0 (show y1m (["zone"]:List Str) by decide +kernel))) (fun _ _ _ _ _ _=>z2b) (fun _ _ _ _ _ _=>(zr8 (z2d (z3e (by exact hr.units)) z3f (q_nm 0) (v2r z0f)) zgo (z07 0))))) z0r))))))
abbrev z2f:Stmt:=top 23
theorem zcr:FnScope ["rooms","thing"] ["rooms","thing"] (z01 z2f):=⟨rfl,rfl,rfl,by decide +kernel,rfl,by decide +kernel,by decide +kernel⟩
theorem zdm {K:y00} {f:Addr} {fd:y0b} (F:Fun K "is_opening" "is_opening" z2f f fd):Binds K fd ["rooms","thing"] []:=F.binds (ps:=["rooms","thing"]) fun _ _ _ _ _ _ us hl=>match us,hl with|[_,_],_=>rfl
theorem z6w {k:Nat} {f:Addr} {fd:y0b} (F:Fun K "is_opening" "is_opening" z2f f fd) (m:mg "is_opening"=some (.ref f)) (z16:Cl P w K mg base "is_within" k 3 z0s) (z0d:Cl P w K mg base "is_tuple" k 3 z05) (z5b:Cl P w K mg base "is_name" k 1 z45) {t_OUTSIDE:Tok} (g_OUTSIDE:mg "OUTSIDE"=some (.int 0 t_OUTSIDE)):Cl P w K mg base "is_opening" (k+1) 2 z44 :=
 z1a F zcr (zdm F) m fun cdv A outer s H E hr =>
  (z08 (s_if (w_t (w_or (z62 (z3o (v2r (z04 z0d hr (z00 (z07 1) (z00 z03 (z00 z03 z02))))))) (z85 (z62 (z3o (v2r (z04 z16 hr (z00 (q_ix (q_nm 1) (v2r z03)) (z00 z03 (z00 (z07 0) z02)))))))))) (z0h (z0o q_bl)) z37)
  (z0h (z0o (z4d (z04 z16 hr (z00 (q_ix (q_nm 1) (v2r z03)) (z00 (q_gI g_OUTSIDE) (z00 (ztg (v2r (q_ix (q_nm 1) (v2r z03))) (v2r z03)) z02)))) (z5u (q_or (zr7 (v2r (q_ix (q_nm 1) (v2r z03)))) (zti (z04 z5b hr (z00 (q_ix (q_nm 1) (v2r z03)) z02)))))))))
abbrev z3a:Stmt:=top 24
theorem zge:FnScope ["thing"] ["thing"] (z01 z3a):=⟨rfl,rfl,rfl,by decide +kernel,rfl,by decide +kernel,by decide +kernel⟩
theorem zhu {K:y00} {f:Addr} {fd:y0b} (F:Fun K "is_house" "is_house" z3a f fd):Binds K fd ["thing"] []:=F.binds (ps:=["thing"]) fun _ _ _ _ _ _ us hl=>match us,hl with|[_],_=>rfl
theorem z94 {k:Nat} {f:Addr} {fd:y0b} (F:Fun K "is_house" "is_house" z3a f fd) (m:mg "is_house"=some (.ref f)) (z_all:mg "all"=none) (z0d:Cl P w K mg base "is_tuple" k 3 z05) (z16:Cl P w K mg base "is_within" k 3 z0s) (z6w:Cl P w K mg base "is_opening" k 2 z44):Cl P w K mg base "is_house" (k+1) 1 z4i :=
 z1a F zge (zhu F) m fun cdv A outer s H E hr =>
  (z08 (s_if (w_t (w_or (z62 (z3o (v2r (z04 z0d hr (z00 (z07 0) (z00 z03 (z00 z03 z02))))))) (w_or (z62 (z3o (v2r (z04 z16 hr (z00 (q_ix (q_nm 0) (v2r z03)) (z00 z03 (z00 z03 z02))))))) (z85 (z62 (z3o (v2r (z04 z0d hr (z00 (q_ix (q_nm 0) (v2r z03)) (z00 z03 (z00 z03 z02))))))))))) (z0h (z0o q_bl)) z37)
  (z0h (z0o (zgp rfl z_all (z0g (v2r (z12 (own:=["opening"]) (caps:=[(0,"thing")]) (z1q (sc:=z01 z3a) ["thing"] rfl rfl rfl (by decide +kernel)) (i_A (q_ix (q_nm 0) (v2r z03))) (fun _ _ _ _ _ _=>(g_nm 0 (show y1m (["opening","thing"]:List Str) by decide +kernel))) (fun _ _ _ _ _ _=>z2b) (fun _ _ _ _ _ _=>(z04 (by exact z6w) (by exact hr) (z00 (q_ix (q_nm 1) (v2r z03)) (z00 (z07 0) z02)))))) z0r)))))
abbrev z1t:Stmt:=top 51
theorem z4c:FnScope ["text","rows","openings","house"] ["text"] (z01 z1t):=⟨rfl,rfl,rfl,by decide +kernel,rfl,by decide +kernel,by decide +kernel⟩
theorem zdk {K:y00} {f:Addr} {fd:y0b} (F:Fun K "read_house" "read_house" z1t f fd):Binds K fd ["text"] []:=F.binds (ps:=["text"]) fun _ _ _ _ _ _ us hl=>match us,hl with|[_],_=>rfl
theorem z6t {k:Nat} {f:Addr} {fd:y0b} (F:Fun K "read_house" "read_house" z1t f fd) (m:mg "read_house"=some (.ref f)) (z58:Cl P w K mg base "rows_of" k 1 z0u) (z_tuple:mg "tuple"=none) (z2o:Cl P w K mg base "numbers_ahead" k 1 z0j) (z5t:Cl P w K mg base "opening_from" k 1 z1p) (z94:Cl P w K mg base "is_house" k 1 z4i) (z1y:Cl P w K mg base "house_text" k 1 z13):Cl P w K mg base "read_house" (k+1) 1 z3d :=
 z1a F z4c (zdk F) m fun cdv A outer s H E hr =>
  (z08 (z10 1 z4c.nd (z04 z58 hr (z00 (z07 0) z02)))
  (z08 (z10 2 z4c.nd (z3t z_tuple (z0g (v2r (z12 (own:=["parts"]) (caps:=[]) (z1q (sc:=z01 z1t) ["text","rows","openings","house"] rfl rfl rfl (by decide +kernel)) (i_A (z2x (q_nm 1) (z4z (v2r z03)) z6p)) (fun _ _ _ _ _ _=>(g_nm 0 (show y1m (["parts"]:List Str) by decide +kernel))) (fun _ _ _ _ _ _=>z2b) (fun _ _ _ _ _ _=>(z04 (by exact z5t) (by exact hr) (z00 (z07 0) z02))))) z0r)))
  (z08 (z10 3 z4c.nd (z19 (v2r (z04 z2o hr (z00 (z07 1) z02))) (v2r (z0y (z00 (z07 2) z02)))))
  (z08 (s_if (w_t (w_or (z62 (z3o (v2r (z04 z94 hr (z00 (z07 3) z02))))) (z85 (z2d (z5o (by exact hr.units)) z5p (v2r (z04 z1y hr (z00 (z07 3) z02))) (q_nm 0))))) (z0h zgh) z37)
  (z0h (zad 3))))))
abbrev zae:Stmt:=top 63
theorem z4l:FnScope ["_law_script","_law_plan_here","_law_house_here","_law_row_here","_law_lines_here","_law_figures","_law_who","_law_rights","_law_uses","_law_rooms","_law_number","_law_new","_law_other","_law_more","_law_event_here"] ["_law_script"] (z01 zae):=⟨rfl,rfl,rfl,by decide +kernel,rfl,by decide +kernel,by decide +kernel⟩
theorem zwk {k:Nat} {f:Addr} {fd:y0b} (F:Fun K "law" "law" zae f fd) (zdi:Cl P w K mg base "_law_plan" k 1 za3) (z8l:Cl P w K mg base "_law_house" k 1 d_l_house) (zhp:Cl P w K mg base "_law_row" k 3 zb2) (z5z:Cl P w K mg base "_law_mixed" k 2 z1s) (z6v:Cl P w K mg base "_law_event" k 2 z2v) (z2s:Cl P w K mg base "row_text" k 1 z1j) (z6u:Cl P w K mg base "_law_lines" k 1 z52) (z_repr:mg "repr"=none) (z26:Cl P w K mg base "plan_text" k 1 z15) (z1y:Cl P w K mg base "house_text" k 1 z13) (z7d:Cl P w K mg base "read_row" k 2 z3v) (z66:Cl P w K mg base "read_plan" k 1 z34) (z6t:Cl P w K mg base "read_house" k 1 z3d) (z_int:mg "int"=none):FnOk P w K mg base CX0 (k+1) f fd ["_law_script"] (spT K 1 zk4) :=
 zqe F z4l fun cdv A outer s H E hr =>
  (z08 (z10 1 z4l.nd (z04 zdi hr (z00 (z04 z5z hr (z00 (z07 0) (z00 z03 z02))) z02)))
  (z08 (z10 2 z4l.nd (z04 z8l hr (z00 (z04 z5z hr (z00 (z07 0) (z00 z03 z02))) z02)))
  (z08 (z10 3 z4l.nd (z04 zhp hr (z00 (z07 1) (z00 (z04 z5z hr (z00 (z07 0) (z00 z03 z02))) (z00 z03 z02)))))
  (z08 (zt8 4 z4l.nd (zto (v2r (zc5 (z00 (z19 (v2r (z0y (z00 z0f z02))) (v2r (q_ix (q_nm 1) (v2r z03)))) z02))) (v2r (z12 (own:=["_law_zone"]) (caps:=[]) (z1q (sc:=z01 zae) ["_law_script","_law_plan_here","_law_house_here","_law_row_here","_law_lines_here","_law_figures","_law_who","_law_rights","_law_uses","_law_rooms","_law_number","_law_new","_law_other","_law_more","_law_event_here"] rfl rfl rfl (by decide +kernel)) (i_A (q_ix (q_nm 1) (v2r z03))) (fun _ _ _ _ _ _=>(g_nm 0 (show y1m (["_law_zone"]:List Str) by decide +kernel))) (fun _ _ _ _ _ _=>z2b) (fun _ _ _ _ _ _=>(z19 (v2r (z0y (z00 z0f z02))) (q_nm 0)))))))
  (z08 (zja y21 (i_A (q_ix (q_nm 1) (v2r z03))) (zmi (z5v (g_nm 5 z4l.nd) (z5v (g_nm 6 z4l.nd) (z5v (g_nm 7 z4l.nd) (z5v (g_nm 8 z4l.nd) zmj)))))
  (z0h (zvr 4 (z19 (v2r (z0y (z00 z0f (z00 (z07 5) (z00 (z07 6) (z00 (z07 8) z02)))))) (q_nm 7)))))
  (zwp 4
  (z08 (z10 9 z4l.nd (z19 (v2r (zc5 (z00 (z0y (z00 z0f (z00 (q_ix (q_nm 2) (v2r z03)) z02))) z02))) (v2r (z12 (own:=["_law_one","_law_other","_law_zone"]) (caps:=[]) (z1q (sc:=z01 zae) ["_law_script","_law_plan_here","_law_house_here","_law_row_here","_law_lines_here","_law_figures","_law_who","_law_rights","_law_uses","_law_rooms","_law_number","_law_new","_law_other","_law_more","_law_event_here"] rfl rfl rfl (by decide +kernel)) (i_A (q_ix (q_nm 2) (v2r z03))) (fun _ _ _ _ _ _=>(zmi (z5v (g_nm 0 (show y1m (["_law_one","_law_other","_law_zone"]:List Str) by decide +kernel)) (z5v (g_nm 1 (show y1m (["_law_one","_law_other","_law_zone"]:List Str) by decide +kernel)) (z5v (g_nm 2 (show y1m (["_law_one","_law_other","_law_zone"]:List Str) by decide +kernel)) zmj))))) (fun _ _ _ _ _ _=>z2b) (fun _ _ _ _ _ _=>(z0y (z00 (z07 0) (z00 (z07 1) (z00 (q_ix (v2r (zc5 (z00 (z07 2) (z00 z0f z02)))) (v2r (ztk z_int (z0g (v2r (zr7 (q_nm 2))) z0r)))) z02)))))))))
  (z08 (s_if (w_t (w_or (z2d (z5o (by exact hr.units)) z5p (v2r (z04 z26 hr (z00 (z07 1) z02))) (v2r (z04 z6u hr (z00 (z07 4) z02)))) (z85 (z2d (z5o (by exact hr.units)) z5p (v2r (z04 z1y hr (z00 (z07 2) z02))) (v2r (z04 z6u hr (z00 (z07 9) z02))))))) (z0h (z0o q_bl)) z37)
  (z08 (s_if (z2d (z5o (by exact hr.units)) z5p (v2r (z04 z2s hr (z00 (z07 3) z02))) (v2r (z04 z6u hr (z00 (z07 3) z02)))) (z0h (z0o q_bl)) z37)
  (z08 (s_if (w_t (w_or (z2d (z5o (by exact hr.units)) z5p (v2r (zc4 hr z_repr (z0g (v2r (z04 z66 hr (z00 (z04 z26 hr (z00 (z07 1) z02)) z02))) z0r))) (v2r (zc4 hr z_repr (z0g (q_nm 1) z0r)))) (z85 (z2d (z5o (by exact hr.units)) z5p (v2r (zc4 hr z_repr (z0g (v2r (z04 z6t hr (z00 (z04 z1y hr (z00 (z07 2) z02)) z02))) z0r))) (v2r (zc4 hr z_repr (z0g (q_nm 2) z0r))))))) (z0h (z0o q_bl)) z37)
  (z08 (s_if (z2d (z5o (by exact hr.units)) z5p (v2r (zc4 hr z_repr (z0g (v2r (z04 z7d hr (z00 (z07 1) (z00 (z04 z2s hr (z00 (z07 3) z02)) z02)))) z0r))) (v2r (zc4 hr z_repr (z0g (q_nm 3) z0r)))) (z0h (z0o q_bl)) z37)
  (z08 (z10 10 z4l.nd (z04 z5z hr (z00 (z07 0) (z00 z03 z02))))
  (z08 (z10 11 z4l.nd (z0y (z00 (z2a (q_nm 10) (v2r z03)) (z00 (z2a (v2r (z3u (q_nm 10) (v2r z03))) (v2r z03)) (z00 (z19 (v2r z03) (v2r (z2a (v2r (z3u (q_nm 10) (v2r z03))) (v2r z03)))) z02)))))
  (z08 (z10 12 z4l.nd (z0y (z00 (q_ix (q_nm 1) (v2r z03)) (z00 (q_ix (q_nm 1) (v2r z03)) (z00 (q_ix (v2r (z0y (z00 (z07 11) (z00 (q_ix (q_nm 1) (v2r z03)) z02)))) (v2r (z2a (v2r (z3u (q_nm 10) (v2r z03))) (v2r z03)))) z02)))))
  (z08 (s_if (w_t (w_or (z2d (z5o (by exact hr.units)) z5p (v2r (z7p (z3e (by exact hr.units)) z3f (v2r (z04 z26 hr (z00 (z07 12) z02))) (v2r (z04 z26 hr (z00 (z07 1) z02))))) (v2r (z7p (z3e (by exact hr.units)) z3f (q_nm 12) (q_nm 1)))) (z85 (z2d (z5o (by exact hr.units)) z5p (v2r (z04 z66 hr (z00 (z04 z26 hr (z00 (z07 12) z02)) z02))) (q_nm 12))))) (z0h (z0o q_bl)) z37)
  (z08 (z10 13 z4l.nd (z04 z8l hr (z00 (z07 10) z02)))
  (z08 (s_if (z2d (z5o (by exact hr.units)) z5p (v2r (z7p (z3e (by exact hr.units)) z3f (v2r (z04 z1y hr (z00 (z07 13) z02))) (v2r (z04 z1y hr (z00 (z07 2) z02))))) (v2r (z7p (z3e (by exact hr.units)) z3f (q_nm 13) (q_nm 2)))) (z0h (z0o q_bl)) z37)
  (z08 (z10 14 z4l.nd (z04 z6v hr (z00 (z07 1) (z00 (z07 10) z02))))
  (z0h (z0o (z4d (z7p (z3e (by exact hr.units)) z3f (v2r (z04 z7d hr (z00 (z07 1) (z00 (z04 z2s hr (z00 (z19 (q_nm 3) (v2r (z0y (z00 (z07 14) z02)))) z02)) z02)))) (v2r (z19 (q_nm 3) (v2r (z0y (z00 (z07 14) z02)))))) (z5u (z7p (z5o (by exact hr.units)) z5p (v2r (z04 z2s hr (z00 (z19 (q_nm 3) (v2r (z0y (z00 (z07 14) z02)))) z02))) (v2r (z04 z2s hr (z00 (z07 3) z02))))))))))))))))))))))))))
end
end K50
end
section
namespace Fo
open D PySem
def ls (x:Str):List Nat:=x.cps.toList
def st (l:List Nat):Str:=⟨l.toArray⟩
theorem z7s (l:List Nat):ls (st l)=l:=rfl
theorem zj2 (x:Str):st (ls x)=x:=by cases x;simp[st,ls]
theorem zf4 {x y:Str} (h:ls x=ls y):x=y:=by rw[<- zj2 x,<- zj2 y,h]
theorem z1g (x:Str):x.length=(ls x).length:=by simp[Str.length,ls]
theorem z3h (x y:Str):ls (x++y)=ls x++ls y:=by
 show (x.cps++y.cps).toList=_
 simp[ls]
def spl (c:Nat):List Nat->List (List Nat)
 | []=>[[]]
 | a::l=>if a=c then []::spl c l else match spl c l with
  | []=>[[a]]
  | p::ps=>(a::p)::ps
theorem zt6 (c:Nat):∀l:List Nat,spl c l≠[]
 | []=>by simp[spl]
 | a::l=>by
  unfold spl
  split
  ·simp
  ·split <;> simp
theorem zia {c:Nat}:∀{l:List Nat},c∉l->spl c l=[l]
 | [],_=>rfl
 | a::l,h=>by
  have h1:a≠c:=fun e=>h (by simp[e])
  have h2:=zia (l:=l) fun e=>h (y05 _ e)
  simp[spl,h1,h2]
theorem zcm {c:Nat}:∀{l:List Nat} (m:List Nat),c∉l->spl c (l++c::m)=l::spl c m
 | [],m,_=>by simp[spl]
 | a::l,m,h=>by
  have h1:a≠c:=fun e=>h (by simp[e])
  have h2:=zcm (l:=l) m fun e=>h (y05 _ e)
  simp[spl,h1,h2]
theorem z8q {c:Nat}:∀{l p:List Nat},p∈spl c l->∀a∈p,a∈l
 | [],p,h,a,ha=>by
  simp[spl] at h
  subst h
  simp at ha
 | b::l,p,h,a,ha=>by
  unfold spl at h
  split at h
  ·rcases y09.mp h with rfl|h
   ·simp at ha
   ·exact y05 _ (z8q h a ha)
  ·split at h
   ·simp at h
    subst h
    simp at ha
    simp[ha]
   next q ps e =>
    rcases y09.mp h with rfl|h
    ·rcases y09.mp ha with rfl|ha
     ·simp
     ·exact y05 _ (z8q (p:=q) (by rw[e];simp) a ha)
    ·exact y05 _ (z8q (p:=p) (by rw[e];simp[h]) a ha)
theorem ze2 {c:Nat}:∀{l p:List Nat},p∈spl c l->c∉p
 | [],p,h=>by
  simp[spl] at h
  subst h
  simp
 | b::l,p,h=>by
  unfold spl at h
  split at h
  ·rcases y09.mp h with rfl|h
   ·simp
   ·exact ze2 h
  next hb =>
   split at h
   ·simp at h
    subst h
    simpa using fun e=>hb e.symm
   next q ps e =>
    rcases y09.mp h with rfl|h
    ·have:=ze2 (l:=l) (p:=q) (by rw[e];simp)
     simp only[y09,not_or]
     exact⟨fun e=>hb e.symm,this⟩
    ·exact ze2 (l:=l) (p:=p) (by rw[e];simp[h])
theorem z8r {c:Nat}:∀{l p:List Nat},p∈spl c l->p.length<=l.length
 | [],p,h=>by
  simp[spl] at h
  subst h
  simp
 | b::l,p,h=>by
  unfold spl at h
  split at h
  ·rcases y09.mp h with rfl|h
   ·simp
   ·have:=z8r h
    simp
    omega
  ·split at h
   ·simp at h
    subst h
    simp
   next q ps e =>
    rcases y09.mp h with rfl|h
    ·have:=z8r (l:=l) (p:=q) (by rw[e];simp)
     simp
     omega
    ·have:=z8r (l:=l) (p:=p) (by rw[e];simp[h])
     simp
     omega
theorem z87 {c:Nat}:∀(l:List Nat),(spl c l).length<=l.length+1
 | []=>by simp[spl]
 | b::l=>by
  have:=z87 (c:=c) l
  unfold spl
  split
  ·simp
   omega
  ·split
   ·simp
   next q ps e =>
    rw[e] at this
    simp at this ⊢
    omega
def jn (c:Nat):List (List Nat)->List Nat
 | []=>[]
 | [p]=>p
 | p::q::r=>p++c::jn c (q::r)
theorem zl3 {c:Nat}:∀{ps:List (List Nat)},ps≠[]->(∀p∈ps,c∉p)->spl c (jn c ps)=ps
 | [],h,_=>absurd rfl h
 | [p],_,h=>zia (h p (by simp))
 | p::q::r,_,h=>by
  show spl c (p++c::jn c (q::r))=_
  rw[zcm _ (h p (by simp)),zl3 (by simp) fun x hx=>h x (y05 _ hx)]
theorem zd7 (c:Nat):∀ps:List Str,ls (Str.join ⟨#[c]⟩ ps)=jn c (ps.map ls)
 | []=>rfl
 | [p]=>by rw[PyProof.Rows.join_one];rfl
 | p::q::r=>by
  rw[PyProof.Rows.join_cons_cons,z3h,z3h,zd7 c (q::r)]
  show (ls p++[c])++_=ls p++c::_
  simp
theorem znt (x:Str) (c:Nat):(Txt.split x ⟨#[c]⟩).map ls=spl c (ls x):=by
 have h1:ls (Str.join ⟨#[c]⟩ (Txt.split x ⟨#[c]⟩))=ls x:=by rw[StrLaws.join_split]
 rw[zd7] at h1
 have hp:1<=(Txt.split x ⟨#[c]⟩).length:=PyProof.Rows.split_pos x ⟨#[c]⟩
 rw[<- h1]
 symm
 refine zl3 (fun e=>?_) fun p hp=>?_
 ·have:=List.map_eq_nil_iff.mp e
  rw[this] at hp
  simp at hp
 ·obtain⟨y,hy,rfl⟩:=y0m.mp hp
  exact StrLaws.split_free x c y hy
theorem znu (x:Str) (c:Nat):Txt.split x ⟨#[c]⟩=(spl c (ls x)).map st:=by
 rw[<- znt,y2b]
 conv=>lhs;rw[<- List.map_id (Txt.split x ⟨#[c]⟩)]
 exact List.map_congr_left fun y _=>(zj2 y).symm
theorem zik:∀ps:List Str,ls (Str.join ⟨#[]⟩ ps)=(ps.map ls).flatten
 | []=>rfl
 | [p]=>by rw[PyProof.Rows.join_one];simp
 | p::q::r=>by
  rw[PyProof.Rows.join_cons_cons,z3h,z3h,zik (q::r)]
  show (ls p++[])++_=_
  simp
theorem zck (x:Str) (ps:List Str):Txt.join x ps=Str.join x ps:=StrLaws.glued_eq_join x ps
theorem zm7 {x:Str} {ps:List Str} {B:Nat} (h:∀y∈ps,y.length<=B) (hb:ps.length*B+ps.length*x.length<=16777216):JoinOk x ps=true:=by
 unfold JoinOk
 rw[StrLaws.joinFits h hb]
 rfl
def asc (l:List Nat):Prop:=∀a∈l,a<128
theorem z98 (x:Str):zch x=true <-> asc (ls x):=by
 unfold zch asc ls
 rw[List.all_eq_true]
 constructor
 ·intro h a ha
  exact of_decide_eq_true (h a ha)
 ·intro h a ha
  exact decide_eq_true (h a ha)
theorem z75 {x:Str} (h:asc (ls x)):PyData.strOk x=true:=by
 unfold PyData.strOk
 rw[<- Array.all_toList,List.all_eq_true]
 intro a ha
 have:=h a ha
 exact decide_eq_true (by omega)
theorem z73 {a b:List Nat} (h1:asc a) (h2:asc b):asc (a++b):=fun x hx=>(y10.mp hx).elim (h1 x) (h2 x)
theorem zqi {c:Nat} (hc:c<128):∀{ps:List (List Nat)},(∀p∈ps,asc p)->asc (jn c ps)
 | [],_=>fun a h=>by simp[jn] at h
 | [p],h=>h p (by simp)
 | p::q::r,h=>by
  refine z73 (h p (by simp)) fun a ha=>?_
  rcases y09.mp ha with rfl|ha
  ·exact hc
  ·exact zqi hc (fun x hx=>h x (y05 _ hx)) a ha
theorem zpr {ps:List (List Nat)} (h:∀p∈ps,asc p):asc ps.flatten:=fun a ha=>by
 obtain⟨p,hp,hx⟩:=List.mem_flatten.mp ha
 exact h p hp a hx
theorem z7l (m:Nat):ls (strI (m:Int))=(Nat.toDigits 10 m).map Char.toNat:=W.KIN.signs_num m
theorem zi8 (m:Nat):NumText.AllDigits (ls (strI (m:Int))):=by
 rw[z7l]
 intro c hc
 obtain⟨d,hd,rfl⟩:=y0m.mp hc
 have h:=Nat.isDigit_of_mem_toDigits (by decide) (by decide) hd
 simp only[Char.isDigit,y19,decide_eq_true_eq] at h
 exact⟨h.1,h.2⟩
end Fo
end
section
namespace D
open PySem
theorem za0 (ss:List Str) (h:∀x∈ss,(y1r x).canLay0=true):y1e (ss.map .str)=true/\y1c (ss.map .str)<=1:=by
 induction ss with
 | nil=>simp[y1e,y1c]
 | cons n ns ih =>
  have h1:=h n (by simp)
  have h2:=ih fun x hx=>h x (by simp[hx])
  simp[y1e,y1c,y20,h1,h2]
theorem zim (n:Str):∀ns:List Str,hasT (.str n) (ns.map .str)=decide (n∈ns)
 | []=>by simp[hasT]
 | m::ns=>by
  have ih:=zim n ns
  unfold hasT at ih ⊢
  rw[y0d,List.any_cons,ih]
  simp[y1v,Bool.beq_eq_decide_eq,eq_comm]
theorem zgs (n:Int):okT (.int n)=true:=by simp[okT,PyData.canLay0,y20]
theorem zru {x:Str} (h:(y1r x).canLay0=true):okT (.str x)=true:=by simp[okT,y20,h]
theorem zlr (ss:List Str) (h:∀x∈ss,(y1r x).canLay0=true):okL (ss.map .str)=true:=by
 have:=za0 ss h
 simp[okL,this.1]
 omega
theorem zrw (neg:Bool) (n:Str) (ns:List Str) (h0:(y1r n).canLay0=true) (h:∀x∈ns,(y1r x).canLay0=true):oIn neg (.str n) (.tuple (ns.map .str))=some (.bool (if neg then !decide (n∈ns) else decide (n∈ns))):=by
 simp only[oIn,zru h0,zlr ns h,zim,Bool.and_self,if_true]
end D
end
section
namespace Co
open D PySem
structure Cd where
 fig:Str
 who:Str
 rights:List Str
 uses:Int
structure Pl where
 zones:List (Str×Str)
 codes:List Cd
 leave:Int
 come:Int
 loud:Int
structure Cs where
 mode:Str
 left:Int
 came:Option Str
 lines:List (Str×Str)
 shunts:List Str
 siren:Int
 alarms:List Str
 tries:Int
 locked:Int
 used:List (Str×Int)
 past:Int
 told:List (Int×Str×Option Str)
def oS:Option Str->T
 | none=>.none
 | some x=>.str x
def encZ (z:Str×Str):T:=.tuple [.str z.1,.str z.2]
def z25 (c:Cd):T:=.tuple [.str c.fig,.str c.who,.tuple (c.rights.map .str),.int c.uses]
def encP (p:Pl):T:=.tuple [.tuple (p.zones.map encZ),.tuple (p.codes.map z25),.tuple [.int p.leave,.int p.come,.int p.loud]]
def encW (w:Int×Str×Option Str):T:=.tuple [.int w.1,.str w.2.1,oS w.2.2]
def dS (l:List (Str×Str)):List (D.Key×T):=l.map fun p=>(.inr p.1,.str p.2)
def dI (l:List (Str×Int)):List (D.Key×T):=l.map fun p=>(.inr p.1,.int p.2)
noncomputable def encC (p:Pl) (c:Cs):List Sl:=[.imm (encP p),.imm (.str c.mode),.imm (.int c.left),.imm (oS c.came),.dic (dS c.lines),.own (c.shunts.map .str),.imm (.int c.siren),.own (c.alarms.map .str),.imm (.int c.tries),.imm (.int c.locked),.dic (dI c.used),.imm (.int c.past),.own (c.told.map encW)]
theorem zd5:¬(("off":Str)="leaving"):=by decide +kernel
theorem zor:¬(("off":Str)="on"):=by decide +kernel
theorem zev:¬(("off":Str)="coming"):=by decide +kernel
theorem zd6:¬(("leaving":Str)="off"):=by decide +kernel
theorem zex:¬(("leaving":Str)="on"):=by decide +kernel
theorem z9m:¬(("leaving":Str)="coming"):=by decide +kernel
theorem zoq:¬(("on":Str)="off"):=by decide +kernel
theorem zeu:¬(("on":Str)="leaving"):=by decide +kernel
theorem zh6:¬(("on":Str)="coming"):=by decide +kernel
theorem zf1:¬(("coming":Str)="off"):=by decide +kernel
theorem z9n:¬(("coming":Str)="leaving"):=by decide +kernel
theorem zhb:¬(("coming":Str)="on"):=by decide +kernel
theorem zh1:¬(("shut":Str)="open"):=by decide +kernel
theorem zjn:¬(("shut":Str)="cut"):=by decide +kernel
theorem zh5:¬(("open":Str)="shut"):=by decide +kernel
theorem zjp:¬(("open":Str)="cut"):=by decide +kernel
theorem zju:¬(("cut":Str)="shut"):=by decide +kernel
theorem zjv:¬(("cut":Str)="open"):=by decide +kernel
theorem zha:¬(("day":Str)="inner"):=by decide +kernel
theorem zjt:¬(("day":Str)="once"):=by decide +kernel
theorem zm0:¬(("day":Str)="way"):=by decide +kernel
theorem zh9:¬(("inner":Str)="day"):=by decide +kernel
theorem zey:¬(("inner":Str)="once"):=by decide +kernel
theorem zh8:¬(("inner":Str)="way"):=by decide +kernel
theorem zjr:¬(("once":Str)="day"):=by decide +kernel
theorem zet:¬(("once":Str)="inner"):=by decide +kernel
theorem zjq:¬(("once":Str)="way"):=by decide +kernel
theorem zlz:¬(("way":Str)="day"):=by decide +kernel
theorem zgz:¬(("way":Str)="inner"):=by decide +kernel
theorem zjm:¬(("way":Str)="once"):=by decide +kernel
theorem zh3:¬(("set":Str)="unset"):=by decide +kernel
theorem zh4:¬(("set":Str)="shunt"):=by decide +kernel
theorem zjo:¬(("set":Str)="free"):=by decide +kernel
theorem zh0:¬(("unset":Str)="set"):=by decide +kernel
theorem zd3:¬(("unset":Str)="shunt"):=by decide +kernel
theorem zep:¬(("unset":Str)="free"):=by decide +kernel
theorem zh2:¬(("shunt":Str)="set"):=by decide +kernel
theorem zd4:¬(("shunt":Str)="unset"):=by decide +kernel
theorem zes:¬(("shunt":Str)="free"):=by decide +kernel
theorem zjs:¬(("free":Str)="set"):=by decide +kernel
theorem zez:¬(("free":Str)="unset"):=by decide +kernel
theorem zf0:¬(("free":Str)="shunt"):=by decide +kernel
theorem zh7:¬(("line":Str)="code"):=by decide +kernel
theorem zew:¬(("line":Str)="ticks"):=by decide +kernel
theorem zhc:¬(("code":Str)="line"):=by decide +kernel
theorem zf2:¬(("code":Str)="ticks"):=by decide +kernel
theorem zeq:¬(("ticks":Str)="line"):=by decide +kernel
theorem zer:¬(("ticks":Str)="code"):=by decide +kernel
def tell (w:Str) (n:Option Str) (c:Cs):Cs:={ c with told:=c.told++[(c.past,w,n)] }
def beLoud (p:Pl) (c:Cs):Cs:={ c with siren:=p.loud }
def alarm (p:Pl) (z:Str) (c:Cs):Cs:=if z∈c.alarms then beLoud p c else tell "alarm" (some z) { beLoud p c with alarms:=c.alarms++[z] }
section
variable (p:Pl) (c:Cs)
theorem zpd:(encC p c).length=13:=rfl
theorem e0:(encC p c)[0]?=some (.imm (encP p)):=rfl
theorem e1:(encC p c)[1]?=some (.imm (.str c.mode)):=rfl
theorem e2:(encC p c)[2]?=some (.imm (.int c.left)):=rfl
theorem e3:(encC p c)[3]?=some (.imm (oS c.came)):=rfl
theorem e4:(encC p c)[4]?=some (.dic (dS c.lines)):=rfl
theorem e5:(encC p c)[5]?=some (.own (c.shunts.map .str)):=rfl
theorem e6:(encC p c)[6]?=some (.imm (.int c.siren)):=rfl
theorem e7:(encC p c)[7]?=some (.own (c.alarms.map .str)):=rfl
theorem e8:(encC p c)[8]?=some (.imm (.int c.tries)):=rfl
theorem e9:(encC p c)[9]?=some (.imm (.int c.locked)):=rfl
theorem e10:(encC p c)[10]?=some (.dic (dI c.used)):=rfl
theorem e11:(encC p c)[11]?=some (.imm (.int c.past)):=rfl
theorem e12:(encC p c)[12]?=some (.own (c.told.map encW)):=rfl
theorem s1 (x:Str):(encC p c).set 1 (.imm (.str x))=encC p { c with mode:=x }:=rfl
theorem s2 (x:Int):(encC p c).set 2 (.imm (.int x))=encC p { c with left:=x }:=rfl
theorem s3 (x:Str):(encC p c).set 3 (.imm (.str x))=encC p { c with came:=some x }:=rfl
theorem s3n:(encC p c).set 3 (.imm .none)=encC p { c with came:=none }:=rfl
theorem s4 (l:List (Str×Str)):(encC p c).set 4 (.dic (dS l))=encC p { c with lines:=l }:=rfl
theorem s5 (l:List Str):(encC p c).set 5 (.own (l.map .str))=encC p { c with shunts:=l }:=rfl
theorem s5n:(encC p c).set 5 (.own [])=encC p { c with shunts:=[] }:=rfl
theorem s6 (x:Int):(encC p c).set 6 (.imm (.int x))=encC p { c with siren:=x }:=rfl
theorem s7 (l:List Str):(encC p c).set 7 (.own (l.map .str))=encC p { c with alarms:=l }:=rfl
theorem s7n:(encC p c).set 7 (.own [])=encC p { c with alarms:=[] }:=rfl
theorem s7a (l:List Str) (z:Str):(encC p c).set 7 (.own (l.map .str++[.str z]))=encC p { c with alarms:=l++[z] }:=by simp[encC]
theorem s8 (x:Int):(encC p c).set 8 (.imm (.int x))=encC p { c with tries:=x }:=rfl
theorem s9 (x:Int):(encC p c).set 9 (.imm (.int x))=encC p { c with locked:=x }:=rfl
theorem s10 (l:List (Str×Int)):(encC p c).set 10 (.dic (dI l))=encC p { c with used:=l }:=rfl
theorem s11 (x:Int):(encC p c).set 11 (.imm (.int x))=encC p { c with past:=x }:=rfl
theorem s12a (l:List (Int×Str×Option Str)) (i:Int) (w:Str) (n:Option Str):(encC p c).set 12 (.own (l.map encW++[.tuple [.int i,.str w,oS n]]))=encC p { c with told:=l++[(i,w,n)] }:=by simp[encC,encW]
end
end Co
open D Co
open PySem hiding run fresh code
local macro_rules
 | `(tactic| simp! [sp1,$xs,*] $[$l]?)=>`(tactic| simp[zpd,e0,e1,e2,e3,e4,e5,e6,e7,e8,e9,e10,e11,e12,s1,s2,s3,s3n,s4,s5,s5n,s6,s7,s7n,s7a,s8,s9,s10,s11,s12a,runM,runR,zaa,zaq,exX,zm2,zm1,rtnM,zl8,rtnX,asgF,zna,augF,appF,setF,objF,fld,fldV,fldD,fldL,fGet,zlh,zn9,zgv,never,asgX,ifE,z8p,runF,seq,iff,tstB,tstL,andT,orT,notT,cstT,ofT,op1,op2,opN,args,cst,nm,nmV,rtn,skip,asg,asgN,asgT,par,z06,z3g,oIsN,z5i,oIx,atZ,ixOf,gNm,gTu,gAll,z3n,comp,z2t,$xs,*] $[$l]?)
local macro_rules
 | `(tactic| simp! [sp2,$xs,*] $[$l]?)=>`(tactic| simp[runF,seq,iff,tstB,tstL,andT,orT,notT,cstT,ofT,op1,op2,opN,args,cst,nm,nmV,rtn,skip,asg,asgN,asgT,par,z06,z3g,oIsN,z5i,oIx,atZ,ixOf,gNm,gTu,gAll,z3n,comp,z2t,$xs,*] $[$l]?)
 | `(tactic| simp! [sp2] $[$l]?)=>`(tactic| simp[runF,seq,iff,tstB,tstL,andT,orT,notT,cstT,ofT,op1,op2,opN,args,cst,nm,nmV,rtn,skip,asg,asgN,asgT,par,z06,z3g,oIsN,z5i,oIx,atZ,ixOf,gNm,gTu,gAll,z3n,comp,z2t] $[$l]?)
local macro_rules
 | `(tactic| simp! [sp3,$xs,*] $[$l]?)=>`(tactic| simp[oAdd,oSub,oMul,oDiv,oMod,oNeg,oLen,oMin,oMax,z0t,zok,oInt,oLt,oLe,oGt,oGe,big,zpd,e0,e1,e2,e3,e4,e5,e6,e7,e8,e9,e10,e11,e12,s1,s2,s3,s3n,s4,s5,s5n,s6,s7,s7n,s7a,s8,s9,s10,s11,s12a,runM,runR,zaa,zaq,exX,zm2,zm1,rtnM,zl8,rtnX,asgF,zna,augF,appF,setF,objF,fld,fldV,fldD,fldL,fGet,zlh,zn9,zgv,never,asgX,ifE,z8p,runF,seq,iff,tstB,tstL,andT,orT,notT,cstT,ofT,op1,op2,opN,args,cst,nm,nmV,rtn,skip,asg,asgN,asgT,par,z06,z3g,oIsN,z5i,oIx,atZ,ixOf,gNm,gTu,gAll,z3n,comp,z2t,$xs,*] $[$l]?)
local macro_rules
 | `(tactic| simp! [sp4,$xs,*] $[$l]?)=>`(tactic| simp[runM,runR,zaa,zaq,exX,zm2,zm1,rtnM,zl8,rtnX,asgF,zna,augF,appF,setF,objF,fld,fldV,fldD,fldL,fGet,zlh,zn9,zgv,never,asgX,ifE,z8p,runF,seq,iff,tstB,tstL,andT,orT,notT,cstT,ofT,op1,op2,opN,args,cst,nm,nmV,rtn,skip,asg,asgN,asgT,par,z06,z3g,oIsN,z5i,oIx,atZ,ixOf,gNm,gTu,gAll,z3n,comp,z2t,$xs,*] $[$l]?)
local macro_rules
 | `(tactic| simp! [sp5,$xs,*] $[$l]?)=>`(tactic| simp[zpd,e0,e1,e2,e3,e4,e5,e6,e7,e8,e9,e10,e11,e12,s1,s2,s3,s3n,s4,s5,s5n,s6,s7,s7n,s7a,s8,s9,s10,s11,s12a,runM,runR,zaa,zaq,exX,zm2,zm1,rtnM,zl8,rtnX,asgF,zna,augF,appF,setF,objF,fld,fldV,fldD,fldL,fGet,zlh,zn9,zgv,never,asgX,ifE,z8p,zd5,zor,zev,zd6,zex,z9m,zoq,zeu,zh6,zf1,z9n,zhb,zh1,zjn,zh5,zjp,zju,zjv,zha,zjt,zm0,zh9,zey,zh8,zjr,zet,zjq,zlz,zgz,zjm,zh3,zh4,zjo,zh0,zd3,zep,zh2,zd4,zes,zjs,zez,zf0,zh7,zew,zhc,zf2,zeq,zer,runF,seq,iff,tstB,tstL,andT,orT,notT,cstT,ofT,op1,op2,opN,args,cst,nm,nmV,rtn,skip,asg,asgN,asgT,par,z06,z3g,oIsN,z5i,oIx,atZ,ixOf,gNm,gTu,gAll,z3n,comp,z2t,$xs,*] $[$l]?)
local macro_rules
 | `(tactic| simp! [sp6,$xs,*] $[$l]?)=>`(tactic| simp[oAdd,oSub,oMul,oDiv,oMod,oNeg,oLen,oMin,oMax,z0t,zok,oInt,oLt,oLe,oGt,oGe,big,runF,seq,iff,tstB,tstL,andT,orT,notT,cstT,ofT,op1,op2,opN,args,cst,nm,nmV,rtn,skip,asg,asgN,asgT,par,z06,z3g,oIsN,z5i,oIx,atZ,ixOf,gNm,gTu,gAll,z3n,comp,z2t,$xs,*] $[$l]?)
local macro_rules
 | `(tactic| simp! [sp7,$xs,*] $[$l]?)=>`(tactic| simp[runM,runR,zaa,zaq,exX,zm2,zm1,rtnM,zl8,rtnX,asgF,zna,augF,appF,setF,objF,fld,fldV,fldD,fldL,fGet,zlh,zn9,zgv,never,asgX,ifE,z8p,$xs,*] $[$l]?)
local macro_rules
 | `(tactic| simp! [sp8,$xs,*] $[$l]?)=>`(tactic| simp[zpd,e0,e1,e2,e3,e4,e5,e6,e7,e8,e9,e10,e11,e12,s1,s2,s3,s3n,s4,s5,s5n,s6,s7,s7n,s7a,s8,s9,s10,s11,s12a,$xs,*] $[$l]?)
local macro_rules
 | `(tactic| simp! [sp9,$xs,*] $[$l]?)=>`(tactic| simp[runF,seq,iff,tstB,tstL,andT,orT,notT,cstT,ofT,op1,op2,opN,args,cst,nm,nmV,rtn,skip,asg,asgN,asgT,par,z06,z3g,oIsN,z5i,gNm,gTu,gAll,z3n,comp,z2t,$xs,*] $[$l]?)
 | `(tactic| simp! [sp9] $[$l]?)=>`(tactic| simp[runF,seq,iff,tstB,tstL,andT,orT,notT,cstT,ofT,op1,op2,opN,args,cst,nm,nmV,rtn,skip,asg,asgN,asgT,par,z06,z3g,oIsN,z5i,gNm,gTu,gAll,z3n,comp,z2t] $[$l]?)
namespace Co
open D PySem
def okS (x:Str):Prop:=(y1r x).canLay0=true
theorem zol (neg:Bool) {n:Str} {ns:List Str} (h0:okS n) (h:∀x∈ns,okS x):oIn neg (.str n) (.tuple (ns.map .str))=some (.bool (if neg then !decide (n∈ns) else decide (n∈ns))):=zrw neg n ns h0 h
def kindOf (p:Pl) (z:Str):Str:=((p.zones.find? fun x=>decide (x.1=z)).map (·.2)).getD ""
def codeOf (p:Pl) (f:Str):Option Cd:=p.codes.find? fun k=>decide (k.fig=f)
def zm3 (c:Cs) (z:Str):Str:=(c.lines.lookup z).getD ""
def setL (l:List (Str×Str)) (z w:Str):List (Str×Str):=l.map fun p=>if p.1=z then (z,w) else p
def zst (c:Cs) (f:Str):Int:=(c.used.lookup f).getD 0
def addU (l:List (Str×Int)) (f:Str):List (Str×Int):=l.map fun p=>if p.1=f then (f,p.2+1) else p
def bare (p:Pl) (kinds:List Str) (c:Cs):List Str:=((p.zones.filter fun z=>decide (z.2∈kinds)).map (·.1)).filter fun z=>decide (zm3 c z≠"shut") && !decide (z∈c.shunts)
def zv7 (p:Pl) (z k:Str) (c:Cs):Cs:=if k≠"way"\/p.come<=0 then alarm p z c else tell "coming" (some z) { c with mode:="coming",left:=p.come,came:=some z }
noncomputable def zse (p:Pl) (z w:Str) (c:Cs):Cs :=
 if kindOf p z="day" then alarm p z c
 else if c.mode="off" then (if w="cut" then tell "fault" (some z) c else c)
 else if w="cut"\/kindOf p z="once" then alarm p z c
 else if c.mode="on" then zv7 p z (kindOf p z) c else c
noncomputable def line (p:Pl) (z w:Str) (c:Cs):Cs :=
 if w=zm3 c z then c
 else if w="shut" then (if zm3 c z="cut" then tell "mended" (some z) { c with lines:=setL c.lines z w } else { c with lines:=setL c.lines z w })
 else if z∈c.shunts then { c with lines:=setL c.lines z w } else zse p z w { c with lines:=setL c.lines z w }
def less (a n:Int):Int:=if 0 > a - n then 0 else a - n
def zb4 (n:Int) (c:Cs):Cs:={ c with past:=c.past+n,locked:=less c.locked n,siren:=less c.siren n,left:=less c.left n }
def alarms (p:Pl) (zs:List Str) (c:Cs):Cs:=zs.foldl (fun c z=>alarm p z c) c
def zcc (p:Pl) (c:Cs):Cs:=alarms p (bare p ["inner","way"] (tell "on" none { c with mode:="on",left:=0 })) (tell "on" none { c with mode:="on",left:=0 })
def zmp (p:Pl) (c:Cs):Cs:=alarm p (c.came.getD "") { c with mode:="on",came:=none }
def zsb (p:Pl) (c:Cs):Cs:=if c.mode="leaving" then zcc p c else zmp p c
noncomputable def ticks (p:Pl) (n:Int) (c:Cs):Cs :=
 if n<1 then c else if (c.mode="leaving"\/c.mode="coming")/\c.left<=n then zb4 (n - c.left) (zsb p (zb4 c.left c)) else zb4 n c
def zss (k:Cd) (c:Cs):Bool:=decide (k.uses≠0) && decide (k.uses<=zst c k.fig)
def wrong1 (c:Cs):Cs:={ tell "wrong" none c with tries:=c.tries+1 }
def zdz (p:Pl) (c:Cs):Cs:=if 3<=c.tries+1 then tell "attack" none (beLoud p { wrong1 c with tries:=0,locked:=90 }) else wrong1 c
noncomputable def znl (p:Pl) (d:Str) (z:Option Str) (c:Cs):Bool :=
 if d="unset" then false else if c.mode≠"off" then true
 else if d="shunt" then decide (kindOf p (z.getD "")="day") || decide (z.getD ""∈c.shunts)
 else decide (d="free") && !decide (z.getD ""∈c.shunts)
noncomputable def zsk (p:Pl) (k:Cd) (d:Str) (z:Option Str) (c:Cs):Option (Str×Str) :=
 if (if d="free" then ("shunt":Str) else d)∉k.rights then some ("denied",k.who)
 else if znl p d z c then some ("no",k.who)
 else if d="set"/\bare p ["day","once"] c≠[] then some ("open",(bare p ["day","once"] c).headD "") else none
def zwn (p:Pl) (who:Str) (c:Cs):Cs :=
 let c1:=tell "set" (some who) { c with alarms:=[],siren:=0,mode:="leaving",left:=p.leave }
 if p.leave<=0 then zcc p c1 else c1
def zsc (who:Str) (c:Cs):Cs:=tell "unset" (some who) { c with mode:="off",left:=0,siren:=0,came:=none,shunts:=[] }
noncomputable def zv2 (p:Pl) (who d:Str) (z:Option Str) (c:Cs):Cs :=
 if d="set" then zwn p who c else if d="unset" then zsc who c
 else if d="shunt" then tell "shunt" z { c with shunts:=znv (c.shunts++[z.getD ""]) }
 else tell "free" z { c with shunts:=c.shunts.erase (z.getD "") }
noncomputable def takeRight (p:Pl) (k:Cd) (d:Str) (z:Option Str) (c:Cs):Cs:=match zsk p k d z c with
 | none=>zv2 p k.who d z { c with used:=addU c.used k.fig }
 | some (w,n)=>tell w (some n) c
noncomputable def code (p:Pl) (f d:Str) (z:Option Str) (c:Cs):Cs :=
 if 0<c.locked then tell "locked" none c else match codeOf p f with
  | none=>zdz p c
  | some k=>if zss k c then zdz p c else takeRight p k d z { c with tries:=0 }
end Co
section
namespace Co
open D PySem
theorem zdw:(2<=big)=True:=by simp[big]
inductive Et where
 | line (z w:Str)
 | code (f d:Str) (z:Option Str)
 | ticks (n:Int)
def encE:Et->T
 | .line z w=>.tuple [.str "line",.str z,.str w]
 | .code f d z=>.tuple [.str "code",.str f,.str d,oS z]
 | .ticks n=>.tuple [.str "ticks",.int n]
def zuv (p:Pl) (c:Cs):Et->Cs
 | .line z w=>line p z w c
 | .code f d z=>code p f d z c
 | .ticks n=>ticks p n c
end Co
end
section
namespace Co
open D PySem
local instance:Tbl:=⟨[],fun _=>[],fun _=>none⟩
def run (p:Pl) (c:Cs) (es:List Et):Cs:=es.foldl (zuv p) c
def fresh (c:Cs):Cs:={ c with past:=0,told:=[] }
end Co
end
section
namespace Co
open D PySem
local instance:Tbl:=⟨[],fun _=>[],fun _=>none⟩
theorem zho (ns:List Int) (k:Nat):z0z [z0e ns,.int k]=some (.int (ns.getD k 0)):=by
 by_cases h:k<ns.length
 ·have h':(k:Int)<(ns.length:Int):=by omega
  simp! [sp6,z0z,z38,z0e,h,h',List.getD]
 ·have h':¬(k:Int)<(ns.length:Int):=by omega
  simp! [sp6,z0z,z38,z0e,h,h',List.getD]
theorem mul_ok {i j:Int} (h:-(2 ^ 64)<j/\j<2 ^ 64):oMul (.int i) (.int j)=some (.int (i*j)):=by
 unfold oMul zjx
 simp only[decide_eq_true h.1,decide_eq_true h.2,Bool.and_self,Bool.or_true,if_true]
theorem z4a {i j:Int} (h:0<j):oMod (.int i) (.int j)=some (.int (i % j)):=if_pos h
theorem zcd {i j:Int} (h:0<j/\j<1073741824):oDiv (.int i) (.int j)=some (.int (i / j)):=if_pos h
theorem z2w {i j:Int}:oAdd (.int i) (.int j)=some (.int (i+j)):=rfl
theorem seq_nx {a b:Fs} {ε ε':Ev} (h:a ε=some (.nx ε')):seq a b ε=b ε':=by
 unfold seq
 rw[h]
 rfl
theorem mixed_eq (ns:List Int) (k:Nat):∃m:Int,0<=m/\z1s [z0e ns,.int k]=some (.int m):=by
 have hc:=zho ns k
 have hd:0<=(ns.getD k 0+7919*(k:Int)+1)*48271 % 2147483647/\(ns.getD k 0+7919*(k:Int)+1)*48271 % 2147483647<2147483647:=⟨y29 _ (by decide),y2a _ (by decide)⟩
 generalize hx:(ns.getD k 0+7919*(k:Int)+1)*48271 % 2147483647=d at hd
 refine⟨(d*d+7*d+k) % 2147483629,y29 _ (by decide),?_⟩
 have e0:z1s [z0e ns,.int k]=(z5e [some (.imm (z0e ns)),some (.imm (.int k)),none]).bind fun o=>match o with|.rt t=>some t|.nx _=>some .none|_=>none:=rfl
 have m1:oMul (.int 7919) (.int k)=some (.int (7919*k)):=by
  unfold oMul zjx
  simp
 have n0:nmV 0 [some (.imm (z0e ns)),some (.imm (.int k)),none]=some (z0e ns):=rfl
 have n1:nmV 1 [some (.imm (z0e ns)),some (.imm (.int k)),none]=some (.int k):=rfl
 have n1':nm 1 [some (.imm (z0e ns)),some (.imm (.int k)),none]=some (.int k):=rfl
 have s1:asg 2 (op2 oMod (op2 oMul (op2 oAdd (op2 oAdd (opN z0z [(nmV 0),(nmV 1)]) (op2 oMul (cst (.int 7919)) (nm 1))) (cst (.int 1))) (cst (.int 48271))) (cst (.int 2147483647))) [some (.imm (z0e ns)),some (.imm (.int k)),none]=some (.nx [some (.imm (z0e ns)),some (.imm (.int k)),some (.imm (.int d))]):=by
  simp only[asg,op2,opN,args,n0,n1,n1',y0p,y1n,hc,cst,m1,z2w,mul_ok (i:=ns.getD k 0+7919*(k:Int)+1) (j:=48271) (by decide),z4a (j:=2147483647) (by decide),hx]
  rfl
 have m2:oMul (.int d) (.int d)=some (.int (d*d)):=mul_ok (by omega)
 have m3:oMul (.int 7) (.int d)=some (.int (7*d)):=mul_ok (by omega)
 rw[e0]
 unfold z5e
 rw[seq_nx s1]
 have q2:nm 2 [some (.imm (z0e ns)),some (.imm (.int k)),some (.imm (.int d))]=some (.int d):=rfl
 have q1:nm 1 [some (.imm (z0e ns)),some (.imm (.int k)),some (.imm (.int d))]=some (.int k):=rfl
 simp only[rtn,op2,q2,q1,y0p,y1n,cst,m2,m3,z2w,z4a (j:=2147483629) (by decide)]
theorem z7c (n k:Int) (hk:-(2 ^ 64)<k/\k<2 ^ 64):∃m:Int,0<=m/\z0l [.int n,.int k]=some (.int m):=by
 have hd:0<=(n+104729*k+17)*69621 % 2147483647/\(n+104729*k+17)*69621 % 2147483647<2147483647:=⟨y29 _ (by decide),y2a _ (by decide)⟩
 generalize hx:(n+104729*k+17)*69621 % 2147483647=d at hd
 refine⟨(d*d+3*d+k) % 2147483629,y29 _ (by decide),?_⟩
 have e0:z0l [.int n,.int k]=(z5f [some (.imm (.int n)),some (.imm (.int k)),none]).bind fun o=>match o with|.rt t=>some t|.nx _=>some .none|_=>none:=rfl
 have m1:oMul (.int 104729) (.int k)=some (.int (104729*k)):=mul_ok hk
 have n0:nm 0 [some (.imm (.int n)),some (.imm (.int k)),none]=some (.int n):=rfl
 have n1:nm 1 [some (.imm (.int n)),some (.imm (.int k)),none]=some (.int k):=rfl
 have s1:asg 2 (op2 oMod (op2 oMul (op2 oAdd (op2 oAdd (nm 0) (op2 oMul (cst (.int 104729)) (nm 1))) (cst (.int 17))) (cst (.int 69621))) (cst (.int 2147483647))) [some (.imm (.int n)),some (.imm (.int k)),none]=some (.nx [some (.imm (.int n)),some (.imm (.int k)),some (.imm (.int d))]):=by
  simp only[asg,op2,n0,n1,y0p,y1n,cst,m1,z2w,mul_ok (i:=n+104729*k+17) (j:=69621) (by decide),z4a (j:=2147483647) (by decide),hx]
  rfl
 have m2:oMul (.int d) (.int d)=some (.int (d*d)):=mul_ok (by omega)
 have m3:oMul (.int 3) (.int d)=some (.int (3*d)):=mul_ok (by omega)
 rw[e0]
 unfold z5f
 rw[seq_nx s1]
 have q2:nm 2 [some (.imm (.int n)),some (.imm (.int k)),some (.imm (.int d))]=some (.int d):=rfl
 have q1:nm 1 [some (.imm (.int n)),some (.imm (.int k)),some (.imm (.int d))]=some (.int k):=rfl
 simp only[rtn,op2,q2,q1,y0p,y1n,cst,m2,m3,z2w,z4a (j:=2147483629) (by decide)]
theorem oEq_int (a b:Int):oEq (.int a) (.int b)=some (.bool (decide (a=b))):=by
 unfold oEq
 rw[zgs,zgs]
 by_cases e:a=b <;> simp[y1v,e]
theorem divQ (m:Int) (j:Int) (h:0<j/\j<1073741824:=by decide):∃q,q=m / j/\oDiv (.int m) (.int j)=some (.int q):=⟨_,rfl,zcd h⟩
theorem modQ (m:Int) (j:Int) (h:0<j:=by decide):∃q,q=m % j/\0<=q/\q<j/\oMod (.int m) (.int j)=some (.int q):=⟨_,rfl,y29 _ (by omega),y2a _ h,z4a h⟩
theorem ixT {ts:List T} {j:Int} (h0:0<=j) (h1:j<ts.length):∃t∈ts,oIx (.tuple ts) (.int j)=some t:=by
 have hj:j.toNat<ts.length:=by omega
 refine⟨ts[j.toNat],List.getElem_mem hj,?_⟩
 simp only[oIx,atZ,ixOf,if_pos h0,if_pos h1,y0p]
 exact y0u hj
theorem ixS (ss:List Str) {j:Int} (h0:0<=j) (h1:j<ss.length):∃s∈ss,oIx (.tuple (ss.map .str)) (.int j)=some (.str s):=by
 obtain⟨t,ht,e⟩:=ixT (ts:=ss.map .str) h0 (by simpa using h1)
 obtain⟨s,hs,rfl⟩:=y0m.mp ht
 exact⟨s,hs,e⟩
theorem ixI (ss:List Int) {j:Int} (h0:0<=j) (h1:j<ss.length):∃s∈ss,oIx (.tuple (ss.map .int)) (.int j)=some (.int s):=by
 obtain⟨t,ht,e⟩:=ixT (ts:=ss.map .int) h0 (by simpa using h1)
 obtain⟨s,hs,rfl⟩:=y0m.mp ht
 exact⟨s,hs,e⟩
theorem zhj:(5<=big)=True:=by simp[big]
theorem z7v:(4<=big)=True:=by simp[big]
theorem z3w:(3<=big)=True:=by simp[big]
theorem zl6:(6<=big)=True:=by simp[big]
theorem zpc:(8<=big)=True:=by simp[big]
theorem one_le:(1<=big)=True:=by simp[big]
noncomputable def bZ:Fs:=(seq (asg 4 (op2 oDiv (opN z0l [(nmV 0),(nmV 2)]) (cst (.int 4))))
  (iff (orT (tstB (op2 oLt (op2 oMod (nm 4) (cst (.int 8))) (op2 oAdd (cst (.int 3)) (op2 oMod (nm 0) (cst (.int 5)))))) (tstB (op2 oEq (nm 2) (op2 oMod (op2 oDiv (nm 0) (cst (.int 8))) (cst (.int 8)))))) (asg 1 (op2 oAdd (nm 1) (z06 [(z06 [(nmV 3),(op2 oIx (z06 [(cst (.str "day")),(cst (.str "inner")),(cst (.str "once")),(cst (.str "way")),(cst (.str "way"))]) (op2 oMod (op2 oDiv (nm 4) (cst (.int 8))) (cst (.int 5))))])]))) skip))
def encK (x:Int×Str):T:=.tuple [.int x.1,.str x.2]
def kinds:List Str:=["day","inner","once","way","way"]
theorem za5 (n:Int):∀(l:List (Int×Str)) (acc:List (Str×Str)) (s2 s3 s4:Option Sl),(∀x∈l,0<=x.1/\x.1<100)->acc.length+l.length<=20->∃zs s2' s3' s4',(zs.map (·.1)).Sublist (l.map (·.2))/\(∀z∈zs,z.2∈kinds)/\((∃x∈l,x.1=n / 8 % 8)->zs≠[]) /\
  forL (gTu [(gNm 2),(gNm 3)]) bZ (l.map encK) [some (.imm (.int n)),some (.imm (.tuple (acc.map encZ))),s2,s3,s4,none,none,none,none,none]=some (.nx [some (.imm (.int n)),some (.imm (.tuple ((acc++zs).map encZ))),s2',s3',s4',none,none,none,none,none])
 | [],acc,s2,s3,s4,_,_=>⟨[],s2,s3,s4,.refl _,by simp,by simp,by simp[forL]⟩
 | x::l,acc,s2,s3,s4,hx,hl=>by
  obtain⟨m,hm,e1_⟩:=z7c n x.1 (by have:=hx x y0e;omega)
  obtain⟨q,hq,e2_⟩:=divQ m 4
  obtain⟨r,_,_,_,e3_⟩:=modQ q 8
  obtain⟨r',_,_,_,e4_⟩:=modQ n 5
  obtain⟨q1,hq1,e5_⟩:=divQ n 8
  obtain⟨r1,hr1,_,_,e6_⟩:=modQ q1 8
  obtain⟨q2,hq2,e7_⟩:=divQ q 8
  obtain⟨r2,_,h0,h1,e8_⟩:=modQ q2 5
  obtain⟨s,hs,e9_⟩:=ixS kinds h0 h1
  simp only[kinds,y0d,y17] at e9_
  simp only[y0v] at hl
  have b1:acc.length+1<=big:=by unfold big;omega
  have hx':∀y∈l,0<=y.1/\y.1<100:=fun y hy=>hx y (y05 _ hy)
  by_cases hc:r<3+r'\/x.1=r1
  ·obtain⟨zs,s2',s3',s4',i1,i2,i3,i4⟩:=za5 n l (acc++[(x.2,s)]) (some (.imm (.int x.1))) (some (.imm (.str x.2))) (some (.imm (.int q))) hx' (by simp;omega)
   refine⟨(x.2,s)::zs,s2',s3',s4',by simpa using i1,fun z hz=>?_,fun _=>by simp,?_⟩
   ·rcases y09.mp hz with rfl|hz
    ·exact hs
    ·exact i2 z hz
   ·rw[y0d,forL]
    have:bZ [some (.imm (.int n)),some (.imm (.tuple (acc.map encZ))),some (.imm (.int x.1)),some (.imm (.str x.2)),s4,none,none,none,none,none]=some (.nx [some (.imm (.int n)),some (.imm (.tuple ((acc++[(x.2,s)]).map encZ))),some (.imm (.int x.1)),some (.imm (.str x.2)),some (.imm (.int q)),none,none,none,none,none]):=by
     by_cases hc':r<3+r'
     ·simp! [sp9,bZ,e1_,e2_,e3_,e4_,e5_,e6_,e7_,e8_,e9_,z2w,oLt,hc',oAdd,b1,zhj,zdw,one_le,encZ]
     ·have e10_:oEq (.int x.1) (.int r1)=some (.bool true):=by rw[oEq_int,decide_eq_true (hc.resolve_left hc')]
      simp! [sp9,bZ,e1_,e2_,e3_,e4_,e5_,e6_,e7_,e8_,e9_,z2w,oLt,hc',e10_,oAdd,b1,zhj,zdw,one_le,encZ]
    simp only[encK,gTu,gAll,gNm,y0p,y1i,y1g,this]
    simpa using i4
  ·obtain⟨zs,s2',s3',s4',i1,i2,i3,i4⟩:=za5 n l acc (some (.imm (.int x.1))) (some (.imm (.str x.2))) (some (.imm (.int q))) hx' (by omega)
   refine⟨zs,s2',s3',s4',i1.cons _,i2,fun⟨y,hy,e⟩=>i3 ?_,?_⟩
   ·rcases y09.mp hy with rfl|hy
    ·exact absurd (.inr (by rw[e,hr1,hq1])) hc
    ·exact⟨y,hy,e⟩
   ·rw[y0d,forL]
    have:bZ [some (.imm (.int n)),some (.imm (.tuple (acc.map encZ))),some (.imm (.int x.1)),some (.imm (.str x.2)),s4,none,none,none,none,none]=some (.nx [some (.imm (.int n)),some (.imm (.tuple (acc.map encZ))),some (.imm (.int x.1)),some (.imm (.str x.2)),some (.imm (.int q)),none,none,none,none,none]):=by
     have h1':¬r<3+r':=fun z=>hc (.inl z)
     have h2':¬x.1=r1:=fun z=>hc (.inr z)
     simp! [sp9,bZ,e1_,e2_,e3_,e4_,e5_,e6_,e7_,e8_,e9_,z2w,oLt,h1',h2',oEq_int]
    simp only[encK,gTu,gAll,gNm,y0p,y1i,y1g,this]
    exact i4
theorem rng3:rng 0 3=[.int 0,.int 1,.int 2]:=by simp[rng,List.range_succ]
def cR:Ft:=tstB (op2 oGt (op2 oMod (op2 oDiv (nm 1) (op2 oIx (z06 [(cst (.int 4)),(cst (.int 16)),(cst (.int 64))]) (nm 0))) (cst (.int 4))) (cst (.int 0)))
def eR:Fe:=op2 oIx (z06 [(cst (.str "set")),(cst (.str "shunt")),(cst (.str "unset"))]) (nm 0)
def z4w:List Str:=["set","shunt","unset"]
theorem zlb (q:Int) (ε:Ev) (h:(ε[4]?).join=some (.imm (.int q))):∃rs:List Str,rs.Sublist z4w/\comp 1 [4] (z3p (cst (.int 3))) (gNm 0) cR eR ε=some (.list (rs.map .str)):=by
 have key:∀j j':Int,oIx (.tuple [.int 4,.int 16,.int 64]) (.int j)=some (.int j')->0<j'->j'<1073741824->∃b,cR [some (.imm (.int j)),some (.imm (.int q))]=some b:=by
  intro j j' h1 h2 h3
  obtain⟨q1,_,e1_⟩:=divQ q j' ⟨h2,h3⟩
  obtain⟨r1,_,_,_,e2_⟩:=modQ q1 4
  exact⟨decide (0<r1),by simp! [sp9,cR,h1,e1_,e2_,oGt,z3w]⟩
 obtain⟨b0,k0⟩:=key 0 4 (by simp[oIx,atZ,ixOf]) (by decide) (by decide)
 obtain⟨b1,k1⟩:=key 1 16 (by simp[oIx,atZ,ixOf]) (by decide) (by decide)
 obtain⟨b2,k2⟩:=key 2 64 (by simp[oIx,atZ,ixOf]) (by decide) (by decide)
 have r0:eR [some (.imm (.int 0)),some (.imm (.int q))]=some (.str "set"):=by simp! [sp2,eR,z3w]
 have r1:eR [some (.imm (.int 1)),some (.imm (.int q))]=some (.str "shunt"):=by simp! [sp2,eR,z3w]
 have r2:eR [some (.imm (.int 2)),some (.imm (.int q))]=some (.str "unset"):=by simp! [sp2,eR,z3w]
 have c0:comp 1 [4] (z3p (cst (.int 3))) (gNm 0) cR eR ε=(z36 (gNm 0) cR eR [.int 0,.int 1,.int 2] [none,some (.imm (.int q))]).map .list:=by
  have s3:z6h 3=true:=by decide
  simp[comp,z3p,cst,s3,rng3,z2t,h,z3w]
 rw[c0]
 cases b0 <;> cases b1 <;> cases b2
 ·exact⟨[],by simp,by simp[z36,gNm,k0,k1,k2]⟩
 ·exact⟨["unset"],by decide,by simp[z36,gNm,k0,k1,k2,r0,r1,r2]⟩
 ·exact⟨["shunt"],by decide,by simp[z36,gNm,k0,k1,k2,r0,r1,r2]⟩
 ·exact⟨["shunt","unset"],by decide,by simp[z36,gNm,k0,k1,k2,r0,r1,r2]⟩
 ·exact⟨["set"],by decide,by simp[z36,gNm,k0,k1,k2,r0,r1,r2]⟩
 ·exact⟨["set","unset"],by decide,by simp[z36,gNm,k0,k1,k2,r0,r1,r2]⟩
 ·exact⟨["set","shunt"],by decide,by simp[z36,gNm,k0,k1,k2,r0,r1,r2]⟩
 ·exact⟨["set","shunt","unset"],by decide,by simp[z36,gNm,k0,k1,k2,r0,r1,r2]⟩
noncomputable def bC:Fs:=(seq (asg 4 (op2 oDiv (opN z0l [(nmV 0),(op2 oAdd (cst (.int 10)) (nm 2))]) (cst (.int 4))))
  (iff (orT (tstB (op2 oGt (op2 oMod (nm 4) (cst (.int 3))) (cst (.int 0)))) (tstB (op2 oEq (nm 2) (cst (.int 1))))) (seq (asg 7 (opN z0t [(comp 1 [4] (z3p (cst (.int 3))) (gNm 0) cR eR)]))
  (seq (asg 8 (op2 oIx (z06 [(cst (.str "ann")),(cst (.str "bo")),(cst (.str "cy"))]) (op2 oMod (op2 oDiv (nm 4) (cst (.int 256))) (cst (.int 3)))))
  (asg 5 (op2 oAdd (nm 5) (z06 [(z06 [(nmV 6),(nmV 8),(nmV 7),(op2 oIx (z06 [(cst (.int 0)),(cst (.int 0)),(cst (.int 1)),(cst (.int 2)),(cst (.int 9))]) (op2 oMod (op2 oDiv (nm 4) (cst (.int 1024))) (cst (.int 5))))])]))))) skip))
def whos:List Str:=["ann","bo","cy"]
theorem z91 (n:Int) (s1 s3:Option Sl):∀(l:List (Int×Str)) (acc:List Cd) (s2 s4 s6 s7 s8:Option Sl),(∀x∈l,0<=x.1/\x.1<100)->acc.length+l.length<=20->∃ks s2' s4' s6' s7' s8',(ks.map (·.fig)).Sublist (l.map (·.2))/\(∀k∈ks,k.who∈whos/\k.rights.Sublist z4w/\k.uses∈([0,0,1,2,9]:List Int))/\((∃x∈l,x.1=1)->ks≠[]) /\
  forL (gTu [(gNm 2),(gNm 6)]) bC (l.map encK) [some (.imm (.int n)),s1,s2,s3,s4,some (.imm (.tuple (acc.map z25))),s6,s7,s8,none]=some (.nx [some (.imm (.int n)),s1,s2',s3,s4',some (.imm (.tuple ((acc++ks).map z25))),s6',s7',s8',none])
 | [],acc,s2,s4,s6,s7,s8,_,_=>⟨[],s2,s4,s6,s7,s8,.refl _,by simp,by simp,by simp[forL]⟩
 | x::l,acc,s2,s4,s6,s7,s8,hx,hl=>by
  obtain⟨m,hm,e1_⟩:=z7c n (10+x.1) (by have:=hx x y0e;omega)
  obtain⟨q,hq,e2_⟩:=divQ m 4
  obtain⟨r,_,_,_,e3_⟩:=modQ q 3
  obtain⟨q1,hq1,e5_⟩:=divQ q 256
  obtain⟨r1,hr1,h0,h1,e6_⟩:=modQ q1 3
  obtain⟨q2,hq2,e7_⟩:=divQ q 1024
  obtain⟨r2,_,h2,h3,e8_⟩:=modQ q2 5
  obtain⟨s,hs,e9_⟩:=ixS whos h0 h1
  obtain⟨u,hu,e10_⟩:=ixI [0,0,1,2,9] h2 h3
  simp only[whos,y0d,y17] at e9_ e10_
  simp only[y0v] at hl
  have b1:acc.length+1<=big:=by unfold big;omega
  have hx':∀y∈l,0<=y.1/\y.1<100:=fun y hy=>hx y (y05 _ hy)
  obtain⟨rs,hrs,e11_⟩:=zlb q [some (.imm (.int n)),s1,some (.imm (.int x.1)),s3,some (.imm (.int q)),some (.imm (.tuple (acc.map z25))),some (.imm (.str x.2)),s7,s8,none] rfl
  by_cases hc:0<r\/x.1=1
  ·obtain⟨ks,s2',s4',s6',s7',s8',i1,i2,i3,i4⟩:=z91 n s1 s3 l (acc++[(⟨x.2,s,rs,u⟩:Cd)]) (some (.imm (.int x.1))) (some (.imm (.int q))) (some (.imm (.str x.2))) (some (.imm (.tuple (rs.map .str)))) (some (.imm (.str s))) hx' (by simp;omega)
   refine⟨⟨x.2,s,rs,u⟩::ks,s2',s4',s6',s7',s8',by simpa using i1,fun z hz=>?_,fun _=>by simp,?_⟩
   ·rcases y09.mp hz with rfl|hz
    ·exact⟨hs,hrs,hu⟩
    ·exact i2 z hz
   ·rw[y0d,forL]
    have:bC [some (.imm (.int n)),s1,some (.imm (.int x.1)),s3,s4,some (.imm (.tuple (acc.map z25))),some (.imm (.str x.2)),s7,s8,none]=some (.nx [some (.imm (.int n)),s1,some (.imm (.int x.1)),s3,some (.imm (.int q)),some (.imm (.tuple ((acc++[(⟨x.2,s,rs,u⟩:Cd)]).map z25))),some (.imm (.str x.2)),some (.imm (.tuple (rs.map .str))),some (.imm (.str s)),none]):=by
     have s1':asg 4 (op2 oDiv (opN z0l [(nmV 0),(op2 oAdd (cst (.int 10)) (nm 2))]) (cst (.int 4))) [some (.imm (.int n)),s1,some (.imm (.int x.1)),s3,s4,some (.imm (.tuple (acc.map z25))),some (.imm (.str x.2)),s7,s8,none]=some (.nx [some (.imm (.int n)),s1,some (.imm (.int x.1)),s3,some (.imm (.int q)),some (.imm (.tuple (acc.map z25))),some (.imm (.str x.2)),s7,s8,none]):=by
      simp! [sp9,z2w,e1_,e2_]
     have s2':asg 7 (opN z0t [(comp 1 [4] (z3p (cst (.int 3))) (gNm 0) cR eR)]) [some (.imm (.int n)),s1,some (.imm (.int x.1)),s3,some (.imm (.int q)),some (.imm (.tuple (acc.map z25))),some (.imm (.str x.2)),s7,s8,none]=some (.nx [some (.imm (.int n)),s1,some (.imm (.int x.1)),s3,some (.imm (.int q)),some (.imm (.tuple (acc.map z25))),some (.imm (.str x.2)),some (.imm (.tuple (rs.map .str))),s8,none]):=by
      simp only[asg,opN,args,e11_,y0p,y1n,z0t]
      rfl
     unfold bC
     rw[seq_nx s1']
     have ct:orT (tstB (op2 oGt (op2 oMod (nm 4) (cst (.int 3))) (cst (.int 0)))) (tstB (op2 oEq (nm 2) (cst (.int 1)))) [some (.imm (.int n)),s1,some (.imm (.int x.1)),s3,some (.imm (.int q)),some (.imm (.tuple (acc.map z25))),some (.imm (.str x.2)),s7,s8,none]=some true:=by
      by_cases hc':0<r
      ·simp! [sp9,e3_,oGt,hc']
      ·have e12_:oEq (.int x.1) (.int 1)=some (.bool true):=by rw[oEq_int,decide_eq_true (hc.resolve_left hc')]
       simp! [sp9,e3_,oGt,hc',e12_]
     simp only[iff,ct,y0p,if_true]
     rw[seq_nx s2']
     simp! [sp9,e3_,e5_,e6_,e7_,e8_,e9_,e10_,oAdd,b1,zhj,z7v,z3w,one_le,z25]
    simp only[encK,gTu,gAll,gNm,y0p,y1i,y1g,this]
    simpa using i4
  ·obtain⟨ks,s2',s4',s6',s7',s8',i1,i2,i3,i4⟩:=z91 n s1 s3 l acc (some (.imm (.int x.1))) (some (.imm (.int q))) (some (.imm (.str x.2))) s7 s8 hx' (by omega)
   refine⟨ks,s2',s4',s6',s7',s8',i1.cons _,i2,fun⟨y,hy,e⟩=>i3 ?_,?_⟩
   ·rcases y09.mp hy with rfl|hy
    ·exact absurd (.inr e) hc
    ·exact⟨y,hy,e⟩
   ·rw[y0d,forL]
    have:bC [some (.imm (.int n)),s1,some (.imm (.int x.1)),s3,s4,some (.imm (.tuple (acc.map z25))),some (.imm (.str x.2)),s7,s8,none]=some (.nx [some (.imm (.int n)),s1,some (.imm (.int x.1)),s3,some (.imm (.int q)),some (.imm (.tuple (acc.map z25))),some (.imm (.str x.2)),s7,s8,none]):=by
     have h1':¬0<r:=fun z=>hc (.inl z)
     have e12_:oEq (.int x.1) (.int 1)=some (.bool false):=by rw[oEq_int,decide_eq_false fun z=>hc (.inr z)]
     simp! [sp9,bC,e1_,e2_,e3_,z2w,oGt,h1',e12_]
    simp only[encK,gTu,gAll,gNm,y0p,y1i,y1g,this]
    exact i4
def zN:List (Int×Str):=[(0,"a"),(1,"b"),(2,"back"),(3,"d"),(4,"hall"),(5,"r"),(6,"win"),(7,"z")]
def cN:List (Int×Str):=[(0,"0000"),(1,"1234"),(2,"4321"),(3,"7777"),(4,"9990"),(5,"9999")]
structure DP (p:Pl):Prop where
 zs:(p.zones.map (·.1)).Sublist (zN.map (·.2))
 zk:∀z∈p.zones,z.2∈kinds
 z0:p.zones≠[]
 cs:(p.codes.map (·.fig)).Sublist (cN.map (·.2))
 ck:∀k∈p.codes,k.who∈whos/\k.rights.Sublist z4w/\k.uses∈([0,0,1,2,9]:List Int)
 c0:p.codes≠[]
 tl:p.leave∈([0,5,30,60]:List Int)
 tc:p.come∈([0,4,20,60]:List Int)
 to:p.loud∈([1,9,120,300]:List Int)
theorem plan_eq (n:Int):∃p,DP p/\za3 [.int n]=some (encP p):=by
 obtain⟨zs,s2,s3,s4,i1,i2,i3,i4⟩:=za5 n zN [] none none none (by decide) (by decide)
 have hz0:zs≠[]:=i3 (by
  have h1:0<=n / 8 % 8:=y29 _ (by decide)
  have h2:n / 8 % 8<8:=y2a _ (by decide)
  generalize n / 8 % 8=r at h1 h2
  have:r=0\/r=1\/r=2\/r=3\/r=4\/r=5\/r=6\/r=7:=by omega
  rcases this with rfl|rfl|rfl|rfl|rfl|rfl|rfl|rfl
  ·exact⟨(0,"a"),by simp[zN],rfl⟩
  ·exact⟨(1,"b"),by simp[zN],rfl⟩
  ·exact⟨(2,"back"),by simp[zN],rfl⟩
  ·exact⟨(3,"d"),by simp[zN],rfl⟩
  ·exact⟨(4,"hall"),by simp[zN],rfl⟩
  ·exact⟨(5,"r"),by simp[zN],rfl⟩
  ·exact⟨(6,"win"),by simp[zN],rfl⟩
  ·exact⟨(7,"z"),by simp[zN],rfl⟩)
 obtain⟨ks,t2,t4,t6,t7,t8,j1,j2,j3,j4⟩:=z91 n (some (.imm (.tuple (zs.map encZ)))) s3 cN [] s2 s4 none none none (by decide) (by decide)
 have hk0:ks≠[]:=j3 ⟨(1,"1234"),by simp[cN],rfl⟩
 obtain⟨m,hm,e1_⟩:=z7c n 20 (by decide)
 obtain⟨q,hq,e2_⟩:=divQ m 4
 obtain⟨r,_,a0,a1,e3_⟩:=modQ q 4
 obtain⟨q1,hq1,e4_⟩:=divQ q 4
 obtain⟨r1,_,b0,b1,e5_⟩:=modQ q1 4
 obtain⟨q2,hq2,e6_⟩:=divQ q 16
 obtain⟨r2,_,c0,c1,e7_⟩:=modQ q2 4
 obtain⟨u,hu,e8_⟩:=ixI [0,5,30,60] a0 a1
 obtain⟨v,hv,e9_⟩:=ixI [0,4,20,60] b0 b1
 obtain⟨w,hw,e10_⟩:=ixI [1,9,120,300] c0 c1
 simp only[y0d,y17] at e8_ e9_ e10_
 refine⟨⟨zs,ks,u,v,w⟩,⟨i1,i2,hz0,j1,j2,hk0,hu,hv,hw⟩,?_⟩
 have f1:for_ (z6e (z9o (z06 [(cst (.str "a")),(cst (.str "b")),(cst (.str "back")),(cst (.str "d")),(cst (.str "hall")),(cst (.str "r")),(cst (.str "win")),(cst (.str "z"))]))) (gTu [(gNm 2),(gNm 3)]) bZ [some (.imm (.int n)),some (.imm (.tuple [])),none,none,none,none,none,none,none,none]=some (.nx [some (.imm (.int n)),some (.imm (.tuple (zs.map encZ))),s2,s3,s4,none,none,none,none,none]):=by
  have:(z6e (z9o (z06 [(cst (.str "a")),(cst (.str "b")),(cst (.str "back")),(cst (.str "d")),(cst (.str "hall")),(cst (.str "r")),(cst (.str "win")),(cst (.str "z"))]))) [some (.imm (.int n)),some (.imm (.tuple [])),none,none,none,none,none,none,none,none]=some (zN.map encK):=by
   simp[z6e,z9o,z06,args,cst,zpc,enum,zN,encK,List.zipIdx]
  unfold for_
  rw[this]
  exact i4
 have f2:for_ (z6e (z9o (z06 [(cst (.str "0000")),(cst (.str "1234")),(cst (.str "4321")),(cst (.str "7777")),(cst (.str "9990")),(cst (.str "9999"))]))) (gTu [(gNm 2),(gNm 6)]) bC [some (.imm (.int n)),some (.imm (.tuple (zs.map encZ))),s2,s3,s4,some (.imm (.tuple [])),none,none,none,none]=some (.nx [some (.imm (.int n)),some (.imm (.tuple (zs.map encZ))),t2,s3,t4,some (.imm (.tuple (ks.map z25))),t6,t7,t8,none]):=by
  have:(z6e (z9o (z06 [(cst (.str "0000")),(cst (.str "1234")),(cst (.str "4321")),(cst (.str "7777")),(cst (.str "9990")),(cst (.str "9999"))]))) [some (.imm (.int n)),some (.imm (.tuple (zs.map encZ))),s2,s3,s4,some (.imm (.tuple [])),none,none,none,none]=some (cN.map encK):=by
   simp[z6e,z9o,z06,args,cst,zl6,enum,cN,encK,List.zipIdx]
  unfold for_
  rw[this]
  exact j4
 show runF (seq (asg 1 (z06 [])) (seq (for_ (z6e (z9o (z06 [(cst (.str "a")),(cst (.str "b")),(cst (.str "back")),(cst (.str "d")),(cst (.str "hall")),(cst (.str "r")),(cst (.str "win")),(cst (.str "z"))]))) (gTu [(gNm 2),(gNm 3)]) bZ)
  (seq (asg 5 (z06 [])) (seq (for_ (z6e (z9o (z06 [(cst (.str "0000")),(cst (.str "1234")),(cst (.str "4321")),(cst (.str "7777")),(cst (.str "9990")),(cst (.str "9999"))]))) (gTu [(gNm 2),(gNm 6)]) bC) _)))) 10 [.int n]=_
 unfold runF
 have g0:seq (asg 1 (z06 []))=fun b=>seq (asg 1 (z06 [])) b:=rfl
 have h1:asg 1 (z06 []) [some (.imm (.int n)),none,none,none,none,none,none,none,none,none]=some (.nx [some (.imm (.int n)),some (.imm (.tuple [])),none,none,none,none,none,none,none,none]):=by simp[asg,z06,args]
 have h5:asg 5 (z06 []) [some (.imm (.int n)),some (.imm (.tuple (zs.map encZ))),s2,s3,s4,none,none,none,none,none]=some (.nx [some (.imm (.int n)),some (.imm (.tuple (zs.map encZ))),s2,s3,s4,some (.imm (.tuple [])),none,none,none,none]):=by simp[asg,z06,args]
 show (seq _ _ [some (.imm (.int n)),none,none,none,none,none,none,none,none,none]).bind _=_
 rw[seq_nx h1,seq_nx f1,seq_nx h5,seq_nx f2]
 simp! [sp9,e1_,e2_,e3_,e4_,e5_,e6_,e7_,e8_,e9_,e10_,z7v,z3w,encP]
theorem DP.zl {p:Pl} (h:DP p):p.zones.length<=8:=by simpa [zN] using h.zs.length_le
theorem DP.cl {p:Pl} (h:DP p):p.codes.length<=6:=by simpa [cN] using h.cs.length_le
theorem zif {l:List Str} (h:l.all (fun x=>(y1r x).canLay0)=true:=by decide +kernel) {x:Str} (hx:x∈l):okS x:=List.all_eq_true.mp h x hx
end Co
end
section
namespace Co
open D PySem
theorem ix_z (p:Pl):oIx (encP p) (.int 0)=some (.tuple (p.zones.map encZ)):=by simp[oIx,atZ,ixOf,encP]
theorem ix_c (p:Pl):oIx (encP p) (.int 1)=some (.tuple (p.codes.map z25)):=by simp[oIx,atZ,ixOf,encP]
theorem zp0 (z:Str×Str):oIx (encZ z) (.int 0)=some (.str z.1):=by simp[oIx,atZ,ixOf,encZ]
theorem zwe (k:Cd):oIx (z25 k) (.int 0)=some (.str k.fig):=by simp[oIx,atZ,ixOf,z25]
theorem modL (m:Int) {l:List T} (h:l≠[]):∃q:Int,0<=q/\q<l.length/\oMod (.int m) (.int l.length)=some (.int q):=by
 have hl:0<(l.length:Int):=by
  have:=List.length_pos_iff.mpr h
  omega
 obtain⟨q,_,h1,h2,e⟩:=modQ m l.length hl
 exact⟨q,h1,h2,e⟩
def zhk:List Str:=["0000","1234","4321","7777","9990","9999","0001","1111","5555"]
noncomputable def DE (p:Pl):Et->Prop
 | .line z w=>z∈p.zones.map (·.1)/\w∈(["shut","open","open","cut"]:List Str)
 | .code f d z=>f∈zhk/\(((d="set"\/d="unset")/\z=none)\/((d="shunt"\/d="free")/\∃x,z=some x/\x∈p.zones.map (·.1)))
 | .ticks n=>1<=n/\n<=1000000000
theorem event_eq {p:Pl} (h:DP p) (n:Int):∃e,DE p e/\z2v [encP p,.int n]=some (encE e):=by
 obtain⟨q1,_,e1_⟩:=divQ n 8
 obtain⟨i,i0,i1,e2_⟩:=modL (l:=p.zones.map encZ) q1 (by simpa using h.z0)
 obtain⟨t,ht,e3_⟩:=ixT i0 i1
 obtain⟨z,hz,rfl⟩:=y0m.mp ht
 have hz1:z.1∈p.zones.map (·.1):=y0m.mpr ⟨z,hz,rfl⟩
 obtain⟨k,_,_,_,e4_⟩:=modQ n 10
 obtain⟨q2,_,e5_⟩:=divQ n 512
 obtain⟨r2,_,j0,j1,e6_⟩:=modQ q2 4
 obtain⟨w,hw,e7_⟩:=ixS ["shut","open","open","cut"] j0 j1
 obtain⟨f',hf',e8_⟩:=ixS ["0001","1111","9999","0000"] j0 j1
 obtain⟨q3,_,e9_⟩:=divQ n 64
 obtain⟨q4,_,e10_⟩:=divQ n 4096
 obtain⟨r4,_,k0,k1,e11_⟩:=modQ q4 3
 obtain⟨u,hu,e12_⟩:=ixI [3,40,200] k0 k1
 have hu':0<u/\u<=200:=by
  simp at hu
  omega
 obtain⟨r3,_,l0,l1,e13_⟩:=modQ q3 u hu'.1
 obtain⟨i',i0',i1',e14_⟩:=modL (l:=p.codes.map z25) q3 (by simpa using h.c0)
 obtain⟨t',ht',e15_⟩:=ixT i0' i1'
 obtain⟨c,hc,rfl⟩:=y0m.mp ht'
 have hcf:c.fig∈zhk:=by
  have:=h.cs.subset (y0m.mpr ⟨c,hc,rfl⟩)
  simp[cN,zhk] at this ⊢
  rcases this with q|q|q|q|q|q <;> simp[q]
 obtain⟨q5,_,e16_⟩:=divQ n 65536
 obtain⟨r5,_,_,_,e17_⟩:=modQ q5 4
 obtain⟨r6,_,m0,m1,e18_⟩:=modQ q4 6
 obtain⟨d,hd,e19_⟩:=ixS ["set","set","unset","shunt","free","shunt"] m0 m1
 simp only[y0d,y17] at e7_ e8_ e12_ e19_
 simp only[y13] at e2_ e14_
 have L1:oLen [.tuple (p.zones.map encZ)]=some (.int p.zones.length):=by simp[oLen]
 have L2:oLen [.tuple (p.codes.map z25)]=some (.int p.codes.length):=by simp[oLen]
 simp only[z2v,zg0,runF,y0d,y17,y0v,List.length_nil,y0g,List.cons_append,List.nil_append]
 by_cases h1:k<5
 ·exact⟨.line z.1 w,⟨hz1,hw⟩,by simp! [sp9,ix_z,zp0,e1_,L1,e2_,e3_,e4_,oLt,h1,e5_,e6_,e7_,z7v,z3w,encE]⟩
 ·by_cases h2:k<7
  ·exact⟨.ticks (1+r3),⟨by omega,by omega⟩,by simp! [sp9,ix_z,zp0,e1_,L1,e2_,e3_,e4_,oLt,h1,h2,e9_,e10_,e11_,e12_,e13_,z2w,z3w,zdw,encE]⟩
  ·have od:okS d:=zif (l:=["set","set","unset","shunt","free","shunt"]) (hx:=hd)
   have qi:=zol false (n:=d) (ns:=["set","unset"]) od (by
    intro k hk
    exact zif (l:=["set","unset"]) (hx:=hk))
   simp only[y0d,y17] at qi
   obtain⟨f,hf,ef⟩:∃f∈zhk,(iff (tstB (op2 oEq (op2 oMod (op2 oDiv (nm 1) (cst (.int 65536))) (cst (.int 4))) (cst (.int 0)))) (asg 4 (op2 oIx (z06 [(cst (.str "0001")),(cst (.str "1111")),(cst (.str "9999")),(cst (.str "0000"))]) (op2 oMod (op2 oDiv (nm 1) (cst (.int 512))) (cst (.int 4))))) skip) [some (.imm (encP p)),some (.imm (.int n)),some (.imm (.str z.1)),some (.imm (.int k)),some (.imm (.str c.fig)),none]=some (.nx [some (.imm (encP p)),some (.imm (.int n)),some (.imm (.str z.1)),some (.imm (.int k)),some (.imm (.str f)),none]):=by
    by_cases h3:r5=0
    ·refine⟨f',?_,by simp! [sp9,e16_,e17_,oEq_int,h3,e5_,e6_,e8_,z7v]⟩
     simp[zhk] at hf' ⊢
     rcases hf' with q|q|q|q <;> simp[q]
    ·exact⟨c.fig,hcf,by simp! [sp9,e16_,e17_,oEq_int,h3]⟩
   have sA:∀X:Fs,iff (tstB (op2 oLt (nm 3) (cst (.int 5)))) X skip [some (.imm (encP p)),some (.imm (.int n)),some (.imm (.str z.1)),some (.imm (.int k)),none,none]=some (.nx [some (.imm (encP p)),some (.imm (.int n)),some (.imm (.str z.1)),some (.imm (.int k)),none,none]):=fun X=>by simp! [sp9,oLt,h1]
   have sB:∀X:Fs,iff (tstB (op2 oLt (nm 3) (cst (.int 7)))) X skip [some (.imm (encP p)),some (.imm (.int n)),some (.imm (.str z.1)),some (.imm (.int k)),none,none]=some (.nx [some (.imm (encP p)),some (.imm (.int n)),some (.imm (.str z.1)),some (.imm (.int k)),none,none]):=fun X=>by simp! [sp9,oLt,h2]
   have sC:asg 4 (op2 oIx (op2 oIx (op2 oIx (nm 0) (cst (.int 1))) (op2 oMod (op2 oDiv (nm 1) (cst (.int 64))) (opN oLen [(op2 oIx (nm 0) (cst (.int 1)))]))) (cst (.int 0))) [some (.imm (encP p)),some (.imm (.int n)),some (.imm (.str z.1)),some (.imm (.int k)),none,none]=some (.nx [some (.imm (encP p)),some (.imm (.int n)),some (.imm (.str z.1)),some (.imm (.int k)),some (.imm (.str c.fig)),none]):=by simp! [sp9,ix_c,L2,e9_,e14_,e15_,zwe]
   by_cases h4:d="set"\/d="unset"
   ·refine⟨.code f d none,⟨hf,.inl ⟨h4,rfl⟩⟩,?_⟩
    have qi':oIn false (.str d) (.tuple [.str "set",.str "unset"])=some (.bool true):=by
     rw[qi]
     simp[h4]
    have pre:∀B:Fs,(seq (asg 2 (op2 oIx (op2 oIx (op2 oIx (nm 0) (cst (.int 0))) (op2 oMod (op2 oDiv (nm 1) (cst (.int 8))) (opN oLen [(op2 oIx (nm 0) (cst (.int 0)))]))) (cst (.int 0)))) (seq (asg 3 (op2 oMod (nm 1) (cst (.int 10)))) B)) [some (.imm (encP p)),some (.imm (.int n)),none,none,none,none]=B [some (.imm (encP p)),some (.imm (.int n)),some (.imm (.str z.1)),some (.imm (.int k)),none,none]:=by
     intro B
     simp! [sp9,ix_z,zp0,e1_,L1,e2_,e3_,e4_]
    rw[pre]
    rw[seq_nx (sA _),seq_nx (sB _),seq_nx sC,seq_nx ef]
    simp! [sp9,e10_,e18_,e19_,zl6,zdw,qi',z7v,encE,oS]
   ·refine⟨.code f d (some z.1),⟨hf,.inr ⟨?_,z.1,rfl,hz1⟩⟩,?_⟩
    ·simp at hd
     rcases hd with q|q|q|q|q
     ·exact absurd (.inl q) h4
     ·exact absurd (.inr q) h4
     ·exact .inl q
     ·exact .inr q
     ·exact .inl q
    have qi':oIn false (.str d) (.tuple [.str "set",.str "unset"])=some (.bool false):=by
     rw[qi]
     simp at h4
     simp[h4]
    have pre:∀B:Fs,(seq (asg 2 (op2 oIx (op2 oIx (op2 oIx (nm 0) (cst (.int 0))) (op2 oMod (op2 oDiv (nm 1) (cst (.int 8))) (opN oLen [(op2 oIx (nm 0) (cst (.int 0)))]))) (cst (.int 0)))) (seq (asg 3 (op2 oMod (nm 1) (cst (.int 10)))) B)) [some (.imm (encP p)),some (.imm (.int n)),none,none,none,none]=B [some (.imm (encP p)),some (.imm (.int n)),some (.imm (.str z.1)),some (.imm (.int k)),none,none]:=by
     intro B
     simp! [sp9,ix_z,zp0,e1_,L1,e2_,e3_,e4_]
    rw[pre]
    rw[seq_nx (sA _),seq_nx (sB _),seq_nx sC,seq_nx ef]
    simp! [sp9,e10_,e18_,e19_,zl6,zdw,qi',z7v,encE,oS]
def zbw:List Et:=[.code "5555" "unset" none,.code "5555" "unset" none,.code "5555" "unset" none]
theorem zic {p:Pl} (h:DP p) (n:Int):∀(ks:List Int) (s0:Option Sl),(∀k∈ks,0<=k/\k<1000)->∃es:List Et,(∀e∈es,DE p e)/\es.length=ks.length/\z36 (gNm 0) (cstT true) (opN z2v [(nmV 1),(op2 oDiv (opN z0l [(nmV 2),(op2 oAdd (cst (.int 30)) (nm 0))]) (cst (.int 4)))]) (ks.map .int) [s0,some (.imm (encP p)),some (.imm (.int n))]=some (es.map encE)
 | [],s0,_=>⟨[],by simp,rfl,rfl⟩
 | k::ks,s0,hk=>by
  obtain⟨m,_,e1_⟩:=z7c n (30+k) (by have:=hk k y0e;omega)
  obtain⟨q,_,e2_⟩:=divQ m 4
  obtain⟨e,he,e3_⟩:=event_eq h q
  obtain⟨es,i1,i2,i3⟩:=zic h n ks (some (.imm (.int k))) fun y hy=>hk y (y05 _ hy)
  refine⟨e::es,fun x hx=>?_,by simp[i2],?_⟩
  ·rcases y09.mp hx with rfl|hx
   ·exact he
   ·exact i1 x hx
  ·have hc:opN z2v [(nmV 1),(op2 oDiv (opN z0l [(nmV 2),(op2 oAdd (cst (.int 30)) (nm 0))]) (cst (.int 4)))] [some (.imm (.int k)),some (.imm (encP p)),some (.imm (.int n))]=some (encE e):=by
    simp! [sp9,z2w,e1_,e2_,e3_]
   rw[y0d]
   simp only[z36,gNm,y1g,y0p,cstT,if_true,hc]
   rw[i3]
   rfl
theorem row_eq {p:Pl} (h:DP p) (n m:Int) (hn:0<=n) (hm:0<=m/\m<900):∃es:List Et,(∀e∈es,DE p e)/\(es.length:Int)<=m/\zb2 [encP p,.int n,.int m]=some (.tuple (es.map encE)):=by
 obtain⟨r,_,r0,r1,e1_⟩:=modQ n (m+1) (by omega)
 have hks:rng 0 r=((List.range r.toNat).map fun (k:Nat)=>(k:Int)).map .int:=by
  simp[rng,Function.comp_def]
 obtain⟨es,i1,i2,i3⟩:=zic h n ((List.range r.toNat).map fun (k:Nat)=>(k:Int)) none (by
  intro k hk
  obtain⟨j,hj,rfl⟩:=y0m.mp hk
  have:=List.mem_range.mp hj
  omega)
 have hl:(es.length:Int)=r:=by
  simp at i2
  omega
 obtain⟨q,_,e2_⟩:=divQ n 64
 obtain⟨r',_,_,_,e3_⟩:=modQ q 5
 have s62:z6h r=true:=by
  unfold z6h
  simp
  omega
 have s1:asg 3 (opN z0t [(comp 1 [0,1] (z3p (op2 oMod (nm 1) (op2 oAdd (nm 2) (cst (.int 1))))) (gNm 0) (cstT true) (opN z2v [(nmV 1),(op2 oDiv (opN z0l [(nmV 2),(op2 oAdd (cst (.int 30)) (nm 0))]) (cst (.int 4)))]))]) [some (.imm (encP p)),some (.imm (.int n)),some (.imm (.int m)),none]=some (.nx [some (.imm (encP p)),some (.imm (.int n)),some (.imm (.int m)),some (.imm (.tuple (es.map encE)))]):=by
  have b1:((((List.range r.toNat).map fun (k:Nat)=>(k:Int)).map PyData.int).length<=big)=True:=by
   simp
   unfold big
   omega
  have it:(z3p (op2 oMod (nm 1) (op2 oAdd (nm 2) (cst (.int 1))))) [some (.imm (encP p)),some (.imm (.int n)),some (.imm (.int m)),none]=some (((List.range r.toNat).map fun (k:Nat)=>(k:Int)).map .int):=by
   rw[<- hks]
   simp[z3p,op2,nm,cst,z2w,e1_,s62]
  simp only[asg,opN,args,comp,it,y0p,b1,if_true]
  show Option.map _ ((Option.bind (Option.map _ (z36 _ _ _ _ [none,some (.imm (encP p)),some (.imm (.int n))])) _).bind _)=_
  rw[i3]
  simp[z0t]
 have e0:zb2 [encP p,.int n,.int m]=(zds [some (.imm (encP p)),some (.imm (.int n)),some (.imm (.int m)),none]).bind fun o=>match o with|.rt t=>some t|.nx _=>some .none|_=>none:=rfl
 by_cases hc:r'=0/\2<(es.length:Int)
 ·refine⟨es.take (es.length - 3)++zbw,?_,?_,?_⟩
  ·intro e he
   rcases y10.mp he with q|q
   ·exact i1 e (List.mem_of_mem_take q)
   ·simp[zbw] at q
    subst q
    exact⟨by simp[zhk],.inl ⟨.inr rfl,rfl⟩⟩
  ·simp[zbw]
   omega
  ·rw[e0]
   unfold zds
   rw[seq_nx s1]
   have b1:(es.length - 3+3<=big)=True:=by
    simp only[eq_iff_iff,iff_true]
    unfold big
    omega
   have b2:(max (-3+(es.length:Int)) 0).toNat=es.length - 3:=by omega
   have b3:min (es.length - 3) es.length=es.length - 3:=by omega
   have b4:oRep (.tuple [encE (.code "5555" "unset" none)]) (.int 3)=some (.tuple (zbw.map encE)):=by
    simp[oRep,zbw,y0g,z3w]
   simp only[encE,oS] at b4
   simp! [sp9,e2_,e3_,oEq_int,hc.1,hc.2,oLen,oGt,slice,optN,opt,oNeg,oSl,cutZ,sIx,b2,b3,b4,z7v,one_le,oAdd,zbw]
   rw[if_pos (b1▸trivial)]
   simp! [sp9]
 ·refine⟨es,i1,by omega,?_⟩
  rw[e0]
  unfold zds
  rw[seq_nx s1]
  by_cases h1:r'=0
  ·have h2:¬2<(es.length:Int):=fun z=>hc ⟨h1,z⟩
   simp! [sp9,e2_,e3_,oEq_int,h1,oLen,oGt]
   rw[if_neg h2]
   simp! [sp9]
  ·simp! [sp9,e2_,e3_,oEq_int,h1]
end Co
end
section
namespace Co
open D PySem
def shW (k:Int) (w:Int×Str×Option Str):Int×Str×Option Str:=(k+w.1,w.2)
def sh (k:Int) (pre:List (Int×Str×Option Str)) (c:Cs):Cs:={ c with past:=k+c.past,told:=pre++c.told.map (shW k) }
section
variable (k:Int) (pre:List (Int×Str×Option Str)) (p:Pl)
end
end Co
end
section
namespace Co
open D PySem
def okN (d:Nat) (t:T):Prop:=t.canLay0=true/\t.depth<=d
theorem okN.okT {d:Nat} {t:T} (h:okN d t) (hd:d<=60:=by decide):okT t=true:=by
 unfold D.okT
 rw[h.1,decide_eq_true (y1l h.2 hd)]
 rfl
theorem zgu {d:Nat}:∀{ts:List T},(∀t∈ts,okN d t)->y1e ts=true/\y1c ts<=d
 | [],_=>by simp[y1e,y1c]
 | t::ts,h=>by
  obtain⟨h1,h2⟩:=zgu fun x hx=>h x (y05 _ hx)
  obtain⟨h3,h4⟩:=h t y0e
  constructor
  ·rw[y1e,h3,h1]
   rfl
  ·rw[y1c]
   omega
theorem zlq {d:Nat} {ts:List T} (h:∀t∈ts,okN d t):okN (d+1) (.tuple ts):=by
 obtain⟨h1,h2⟩:=zgu h
 constructor
 ·rw[PyData.canLay0];exact h1
 ·rw[y20];omega
theorem oNe_self {d:Nat} {t:T} (h:okN d t) (hd:d<=60:=by decide):oNe t t=some (.bool false):=by
 unfold oNe
 rw[h.okT hd,PySem.SeqAt.eqv_refl t h.1]
 rfl
theorem oEq_self {d:Nat} {t:T} (h:okN d t) (hd:d<=60:=by decide):oEq t t=some (.bool true):=by
 unfold oEq
 rw[h.okT hd,PySem.SeqAt.eqv_refl t h.1]
 rfl
end Co
end
section
namespace Fo
open D Co PySem
section
variable {f g:Fe} {ft gt:Ft} {ε:Ev} {a b:Bool}
theorem z1n (hf:f ε=some (.bool a)) (hg:a=true->g ε=some (.bool b)):andV f g ε=some (.bool (a && b)):=by
 cases a with
 | true=>simp[andV,hf,hg rfl]
 | false=>simp[andV,hf]
theorem zrn (hf:f ε=some (.bool a)) (hg:a=false->g ε=some (.bool b)):orV f g ε=some (.bool (a || b)):=by
 cases a with
 | false=>simp[orV,hf,hg rfl]
 | true=>simp[orV,hf]
theorem zud (hf:f ε=some (.bool a)):notV f ε=some (.bool !a):=by simp[notV,hf]
theorem z0m (hf:f ε=some (.bool a)):tstB f ε=some a:=by simp[tstB,hf]
theorem z6g (hf:ft ε=some a) (hg:a=false->gt ε=some b):orT ft gt ε=some (a || b):=by
 cases a with
 | false=>simp[orT,hf,hg rfl]
 | true=>simp[orT,hf]
theorem znc (hf:ft ε=some a) (hg:a=true->gt ε=some b):andT ft gt ε=some (a && b):=by
 cases a with
 | true=>simp[andT,hf,hg rfl]
 | false=>simp[andT,hf]
theorem z27 (hf:ft ε=some a):notT ft ε=some !a:=by simp[notT,hf]
theorem opN1 {d:List T->Option T} {t:T} (h:f ε=some t):opN d [f] ε=d [t]:=by simp[opN,args,h]
theorem opN2 {d:List T->Option T} {t u:T} (h:f ε=some t) (h2:g ε=some u):opN d [f,g] ε=d [t,u]:=by simp[opN,args,h,h2]
theorem z09 {o:T->T->Option T} {t u:T} (h:f ε=some t) (h2:g ε=some u):op2 o f g ε=o t u:=by simp[op2,h,h2]
theorem zjk {o:T->Option T} {t:T} (h:f ε=some t):op1 o f ε=o t:=by simp[op1,h]
theorem z5h {n:Nat} {as:List T} {r:Option T} (h:f ((as.map fun t=>some (.imm t))++y0g (n - as.length) none)=r):runF (rtn f) n as=r:=by
 unfold runF rtn
 rw[h]
 cases r <;> rfl
theorem z1r {ft:Ft} {s1 s2:Fs} (h:ft ε=some a):seq (iff ft s1 skip) s2 ε=if a=true then seq s1 s2 ε else s2 ε:=by
 cases a with
 | true =>
  show (iff ft s1 skip ε).bind _=_
  rw[show iff ft s1 skip ε=s1 ε by simp[iff,h]]
  rfl
 | false=>simp[seq,iff,h,skip]
theorem z29 {f:Fe} {s2:Fs} {t:T} (h:f ε=some t):seq (rtn f) s2 ε=some (.rt t):=by simp[seq,rtn,h]
end
theorem zv6 {r:Ev} {e:Fe} {f:T->T}:∀(ts:List T) (s0:Option Sl),(∀t∈ts,e (some (.imm t)::r)=some (f t))->z36 (gNm 0) (cstT true) e ts (s0::r)=some (ts.map f)
 | [],_,_=>rfl
 | t::ts,s0,h=>by
  have h1:=h t (by simp)
  have h2:=zv6 (f:=f) ts (some (.imm t)) fun u hu=>h u (y05 _ hu)
  simp[z36,gNm,cstT,h1,h2]
theorem zqh {r:Ev} {c:Ft} {e:Fe} {p:T->Bool} {f:T->T}:∀(ts:List T) (s0:Option Sl),(∀t∈ts,c (some (.imm t)::r)=some (p t))->(∀t∈ts,p t=true->e (some (.imm t)::r)=some (f t))->z36 (gNm 0) c e ts (s0::r)=some ((ts.filter p).map f)
 | [],_,_,_=>rfl
 | t::ts,s0,hc,h=>by
  have h0:=hc t (by simp)
  have h2:=zqh (p:=p) (f:=f) ts (some (.imm t)) (fun u hu=>hc u (y05 _ hu)) fun u hu=>h u (y05 _ hu)
  cases hp:p t with
  | true =>
   have h1:=h t (by simp) hp
   rw[hp] at h0
   simp[z36,gNm,h0,h1,h2,hp]
  | false =>
   rw[hp] at h0
   simp[z36,gNm,h0,h2,hp]
theorem z56 {it:Fi} {caps:List Nat} {e:Fe} {f:T->T} {ε:Ev} {ts:List T} (hi:it ε=some ts) (hl:ts.length<=big) (h:∀t∈ts,e (some (.imm t)::caps.map fun i=>(ε[i]?).join)=some (f t)):comp 1 caps it (gNm 0) (cstT true) e ε=some (.list (ts.map f)):=by
 simp only[comp,hi,y0p,if_pos hl]
 rw[show z2t 1 caps ε=none::caps.map fun i=>(ε[i]?).join from rfl,zv6 (f:=f) ts none h]
 rfl
theorem zqg {it:Fi} {caps:List Nat} {c:Ft} {e:Fe} {p:T->Bool} {f:T->T} {ε:Ev} {ts:List T} (hi:it ε=some ts) (hl:ts.length<=big) (hc:∀t∈ts,c (some (.imm t)::caps.map fun i=>(ε[i]?).join)=some (p t)) (h:∀t∈ts,p t=true->e (some (.imm t)::caps.map fun i=>(ε[i]?).join)=some (f t)):comp 1 caps it (gNm 0) c e ε=some (.list ((ts.filter p).map f)):=by
 simp only[comp,hi,y0p,if_pos hl]
 rw[show z2t 1 caps ε=none::caps.map fun i=>(ε[i]?).join from rfl,zqh (p:=p) (f:=f) ts none hc h]
 rfl
theorem zb8 {α:Type} (f:α->Bool):∀l:List α,bools (l.map fun x=>.bool (f x))=some (l.map f)
 | []=>rfl
 | x::l=>by simp[bools,zb8 f l]
theorem zkn {it:Fi} {caps:List Nat} {e:Fe} {f:T->Bool} {ε:Ev} {ts:List T} (hi:it ε=some ts) (hl:ts.length<=big) (h:∀t∈ts,e (some (.imm t)::caps.map fun i=>(ε[i]?).join)=some (.bool (f t))):opN z6q [comp 1 caps it (gNm 0) (cstT true) e] ε=some (.bool (ts.all f)):=by
 rw[opN1 (z56 (f:=fun t=>.bool (f t)) hi hl h)]
 simp only[z6q,zb8,y1n]
 simp[List.all_map]
mutual
noncomputable def gd:T->Bool
 | .str x=>zch x && decide (x.length<=1000000)
 | .tuple ts=>gdL ts
 | .list ts=>gdL ts
 | .dict _=>false
 | _=>true
noncomputable def gdL:List T->Bool
 | []=>true
 | t::ts=>gd t && gdL ts
end
theorem zhi:∀{ts:List T},gdL ts=true <-> ∀t∈ts,gd t=true
 | []=>by simp[gdL]
 | t::ts=>by
  rw[gdL,y19,zhi (ts:=ts)]
  simp
mutual
theorem zfh:∀{t:T},gd t=true->t.canLay0=true
 | .str x,h=>by
  rw[gd,y19] at h
  rw[PyData.canLay0]
  exact z75 ((z98 x).mp h.1)
 | .tuple ts,h=>by
  rw[gd] at h
  rw[PyData.canLay0]
  exact z93 h
 | .list ts,h=>by
  rw[gd] at h
  rw[PyData.canLay0]
  exact z93 h
 | .dict _,h=>by simp[gd] at h
 | .none,_=>rfl
 | .int _,_=>rfl
 | .bool _,_=>rfl
theorem z93:∀{ts:List T},gdL ts=true->y1e ts=true
 | [],_=>rfl
 | t::ts,h=>by
  rw[gdL,y19] at h
  rw[y1e,zfh h.1,z93 h.2]
  rfl
end
structure Gd (d:Nat) (t:T):Prop where
 g:gd t=true
 d:t.depth<=d
theorem Gd.okN {d:Nat} {t:T} (h:Gd d t):Co.okN d t:=⟨zfh h.g,h.d⟩
theorem Gd.okT {d:Nat} {t:T} (h:Gd d t) (hd:d<=60:=by decide):okT t=true:=h.okN.okT hd
theorem zfc:∀{ts:List T} {t:T},t∈ts->t.depth<=y1c ts
 | u::ts,t,h=>by
  rw[y1c]
  rcases y09.mp h with rfl|h
  ·omega
  ·have:=zfc h
   omega
theorem Gd.tup {d:Nat} {ts:List T} (h:Gd (d+1) (.tuple ts)):∀t∈ts,Gd d t:=fun t ht=>by
 have h1:=h.g
 have h2:=h.d
 rw[gd] at h1
 rw[y20] at h2
 have:=zfc ht
 exact⟨zhi.mp h1 t ht,by omega⟩
theorem Gd.mk_tup {d:Nat} {ts:List T} (h:∀t∈ts,Gd d t):Gd (d+1) (.tuple ts) :=
 ⟨by rw[gd];exact zhi.mpr fun t ht=>(h t ht).g,(zlq fun t ht=>(h t ht).okN).2⟩
theorem z2l {d:Nat} {x:Str} (h:asc (ls x)) (hl:x.length<=1000000):Gd d (.str x):=⟨by rw[gd,y19];exact⟨(z98 x).mpr h,decide_eq_true hl⟩,by rw[y20];omega⟩
theorem zaw {d:Nat} {i:Int}:Gd d (.int i):=⟨rfl,by rw[y20];omega⟩
theorem zfa {d:Nat}:Gd d .none:=⟨rfl,by rw[y20];omega⟩
theorem zs8 {d:Nat} {b:Bool}:Gd d (.bool b):=⟨rfl,by rw[y20];omega⟩
def z9a:T->Bool
 | .int _=>true
 | _=>false
def z11 (t:T) (lo hi:Int):Bool:=match t with
 | .int i=>decide (lo<=i) && decide (i<=hi)
 | _=>false
def tupB (t:T) (lo hi:Int):Bool:=match t with
 | .tuple ts=>decide (lo<=ts.length) && decide ((ts.length:Int)<=hi)
 | _=>false
theorem zs4 (ct:String) {t:T} (h:gd t=true):oIsI ct t=some (.bool (isI ct t)):=by
 cases t <;> first|rfl|simp[gd] at h
theorem zi4 {t:T} (h:gd t=true):z4h [t]=some (.bool (z9a t)):=by
 refine z5h ?_
 have e1:=zs4 "int" h
 have e2:=zs4 "bool" h
 refine (z1n (a:=isI "int" t) (b:=!isI "bool" t) (by rw[zjk (t:=t) rfl];exact e1) fun _=>zud (by rw[zjk (t:=t) rfl];exact e2)).trans ?_
 cases t <;> first|rfl|simp[gd] at h
theorem zdg {f g h:Fe} {ε:Ev} {i j k:Int} (hf:f ε=some (.int i)) (hg:g ε=some (.int j)) (hh:h ε=some (.int k)):chain oLe oLe f g h ε=some (.bool (decide (i<=j) && decide (j<=k))):=by
 simp only[chain,hf,hg,hh,oLe,y0p]
 cases decide (i<=j) <;> rfl
theorem z84 {t:T} {lo hi:Int} (h:gd t=true):z0s [t,.int lo,.int hi]=some (.bool (z11 t lo hi)):=by
 refine z5h ?_
 have hb:z9a t=true->chain oLe oLe (nm 1) (nm 0) (nm 2) [some (.imm t),some (.imm (.int lo)),some (.imm (.int hi))]=some (.bool (z11 t lo hi)):=by
  intro hw
  cases t with
  | int i=>exact zdg rfl rfl rfl
  | _=>simp[z9a] at hw
 refine (z1n (a:=z9a t) (b:=z11 t lo hi) (by rw[opN1 (t:=t) rfl];exact zi4 h) hb).trans ?_
 cases t <;> rfl
theorem z2p {t:T} {lo hi:Int} (h:gd t=true):z05 [t,.int lo,.int hi]=some (.bool (tupB t lo hi)):=by
 refine z5h ?_
 have hb:isI "tuple" t=true->chain oLe oLe (nm 1) (opN oLen [(nm 0)]) (nm 2) [some (.imm t),some (.imm (.int lo)),some (.imm (.int hi))]=some (.bool (tupB t lo hi)):=by
  intro hw
  cases t with
  | tuple ts=>exact zdg rfl (by rw[opN1 (t:=.tuple ts) rfl];rfl) rfl
  | _=>simp[isI] at hw
 refine (z1n (a:=isI "tuple" t) (b:=tupB t lo hi) (by rw[zjk (t:=t) rfl];exact zs4 _ h) hb).trans ?_
 cases t <;> rfl
noncomputable def zbm (t:T) (lo hi:Int) (a b:Nat):Bool:=match t with
 | .str x=>decide (lo<=x.length) && decide ((x.length:Int)<=hi) && (ls x).all fun c=>decide (a<=c) && decide (c<=b)
 | _=>false
theorem znq (a b:Nat):strLt ⟨#[a]⟩ ⟨#[b]⟩=decide (a<b):=by
 simp[strLt,List.cons_lt_cons_iff]
theorem zpi {f g h:Fe} {ε:Ev} {i j k:Nat} (hf:f ε=some (chT i)) (hg:g ε=some (chT j)) (hh:h ε=some (chT k)):chain oLe oLe f g h ε=some (.bool (decide (i<=j) && decide (j<=k))):=by
 simp only[chain,hf,hg,hh,oLe,chT,y0p,znq]
 have e1:(!decide (j<i))=decide (i<=j):=by
  by_cases q:i<=j
  ·simp[q]
  ·simp[q];omega
 have e2:(!decide (k<j))=decide (j<=k):=by
  by_cases q:j<=k
  ·simp[q]
  ·simp[q];omega
 rw[e1,e2]
 cases decide (i<=j) <;> rfl
theorem zg9 {t:T} {lo hi:Int} {a b:Nat} (h:gd t=true):z28 [t,.int lo,.int hi,chT a,chT b]=some (.bool (zbm t lo hi a b)):=by
 unfold z28 runF zg1
 show (seq _ _ [some (.imm t),some (.imm (.int lo)),some (.imm (.int hi)),some (.imm (chT a)),some (.imm (chT b))]).bind _=_
 generalize hε:[some (Sl.imm t),some (.imm (.int lo)),some (.imm (.int hi)),some (.imm (chT a)),some (.imm (chT b))]=ε
 have h0:nm 0 ε=some t:=by subst hε;rfl
 have h1:nm 1 ε=some (.int lo):=by subst hε;rfl
 have h2:nm 2 ε=some (.int hi):=by subst hε;rfl
 cases t with
 | str x =>
  rw[gd,y19] at h
  have hx:=of_decide_eq_true h.2
  have hle:chain oLe oLe (nm 1) (opN oLen [(nm 0)]) (nm 2) ε=some (.bool (decide (lo<=x.length) && decide ((x.length:Int)<=hi))):=zdg h1 (by rw[opN1 h0];simp only[oLen];rw[if_pos (by unfold big;omega)]) h2
  rw[z1r (a:=!(decide (lo<=x.length) && decide ((x.length:Int)<=hi)))]
  ·cases hq:(decide (lo<=x.length) && decide ((x.length:Int)<=hi)) with
   | false =>
    simp only[Bool.not_false,if_true]
    rw[z29 (t:=.bool false) rfl]
    simp only[y0p]
    simp only[zbm,hq,Bool.false_and]
   | true =>
    simp only[Bool.not_true,y1q,if_false,rtn]
    have:=zkn (it:=itA (nmV 0)) (caps:=[3,4]) (e:=chain oLe oLe (nm 1) (nm 0) (nm 2)) (f:=fun t=>match t with|.str y=>decide (a<=y.cps.getD 0 0) && decide (y.cps.getD 0 0<=b)|_=>false) (ε:=ε) (ts:=(ls x).map chT) (by subst hε;simp[itA,nmV,h.1,ls]) (by rw[y13,<- z1g];unfold big;omega) (by
     intro t ht
     obtain⟨c,hc,rfl⟩:=y0m.mp ht
     subst hε
     exact zpi rfl rfl rfl)
    rw[this]
    simp only[y1n,y0p,zbm,hq,Bool.true_and,List.all_map]
    rfl
  ·have e:orT (notT (tstB (op1 (oIsI "str") (nm 0)))) (notT (tstB (chain oLe oLe (nm 1) (opN oLen [(nm 0)]) (nm 2)))) ε=some (false || !(decide (lo<=x.length) && decide ((x.length:Int)<=hi))) :=
    z6g (a:=false) (z27 (a:=true) (z0m (by rw[zjk h0];rfl))) fun _=>z27 (z0m hle)
   rw[e]
   rfl
 | dict d=>simp[gd] at h
 | _ =>
  rw[z1r (a:=true) (by
   refine z6g (a:=true) (b:=false) (z27 (a:=false) (z0m (by rw[zjk h0];rfl))) fun z=>by cases z)]
  rfl
def z5j (t:T):Bool:=zbm t 1 4 97 122
def figB (t:T):Bool:=zbm t 4 4 48 57
theorem zgy {t:T} (h:gd t=true):z45 [t]=some (.bool (z5j t)):=by
 refine z5h ?_
 show opN z28 [_,_,_,_,_] _=_
 simp only[opN,args,nmV,cst,y0p,y1n,y0d,y17,List.cons_append,y26]
 exact zg9 (a:=97) (b:=122) h
theorem zca {t:T} (h:gd t=true):z2m [t]=some (.bool (figB t)):=by
 refine z5h ?_
 show opN z28 [_,_,_,_,_] _=_
 simp only[opN,args,nmV,cst,y0p,y1n,y0d,y17,List.cons_append,y26]
 exact zg9 (a:=48) (b:=57) h
end Fo
end
section
namespace Fo
open D Co PySem
def z4v:List Str->Bool
 | x::y::r=>strLt x y && z4v (y::r)
 | _=>true
theorem zv5 {r:Ev} {e:Fe} {f:T->T->T}:∀(ps:List (T×T)) (s0 s1:Option Sl),(∀p∈ps,e (some (.imm p.1)::some (.imm p.2)::r)=some (f p.1 p.2))->z36 (gTu [gNm 0,gNm 1]) (cstT true) e (ps.map fun p=>.tuple [p.1,p.2]) (s0::s1::r)=some (ps.map fun p=>f p.1 p.2)
 | [],_,_,_=>rfl
 | p::ps,s0,s1,h=>by
  have h1:=h p (by simp)
  have h2:=zv5 (f:=f) ps (some (.imm p.1)) (some (.imm p.2)) fun u hu=>h u (y05 _ hu)
  simp[z36,gTu,gAll,gNm,cstT,h1,h2]
theorem zip_map (a b:List T):List.zipWith (fun x y=>PyData.tuple [x,y]) a b=(a.zip b).map fun p=>.tuple [p.1,p.2]:=by
 rw[List.zip,List.map_zipWith]
theorem zeb:∀ss:List Str,(List.zipWith strLt ss ss.tail).all id=z4v ss
 | []=>rfl
 | [x]=>rfl
 | x::y::r=>by
  have:=zeb (y::r)
  simp only[List.tail_cons] at this
  simp only[List.tail_cons,List.zipWith_cons_cons,List.all_cons,z4v,id,this]
theorem cut1 {α:Type} (l:List α):cutZ l (some 1) none=l.tail:=by
 unfold cutZ
 cases l with
 | nil=>rfl
 | cons a r =>
  have e1:D.sIx (a::r).length 0 (some 1)=1:=by simp[D.sIx];omega
  have e2:D.sIx (a::r).length (a::r).length none=(a::r).length:=rfl
  rw[e1,e2]
  simp
def sq:T->Option (List T)
 | .tuple ts=>some ts
 | .list ts=>some ts
 | _=>none
theorem zm8 {f:Fe} {ε:Ev} {t:T} (h:f ε=some t):z3n f ε=sq t:=by
 simp only[z3n,h,y0p]
 cases t <;> rfl
theorem zc1 {ss:List Str} {t u:T} (ht:sq t=some (ss.map .str)) (hu:oSlA t (some 1) none=some u) (hu2:sq u=some (ss.tail.map .str)) (hl:ss.length<=big):z50 [t]=some (.bool (z4v ss)):=by
 refine z5h ?_
 have e1:zk0 (z3n (nmV 0)) (z3n (z1i (nm 0) (opt (cst (.int 1))) optN)) [some (.imm t)]=some (((ss.map y1r).zip (ss.tail.map y1r)).map fun p=>.tuple [p.1,p.2]):=by
  simp only[zk0]
  rw[zm8 (t:=t) rfl,zm8 (t:=u) (by simp only[z1i,nm,opt,optN,cst,y26,y0p,hu]),ht,hu2]
  simp only[y0p,y1n,zip_map]
 show opN z6q [_] [some (.imm t)]=_
 have e2:comp 2 [] (zk0 (z3n (nmV 0)) (z3n (z1i (nm 0) (opt (cst (.int 1))) optN))) (gTu [(gNm 0),(gNm 1)]) (cstT true) (op2 oLt (nm 0) (nm 1)) [some (.imm t)]=some (.list ((List.zipWith strLt ss ss.tail).map .bool)):=by
  simp only[comp,e1,y0p]
  rw[if_pos (by simp;omega)]
  rw[show z2t 2 [] [some (.imm t)]=[none,none] from rfl,zv5 (f:=fun a b=>match a,b with|.str x,.str y=>.bool (strLt x y)|_,_=>.none) _ none none (by
   intro p hp
   obtain⟨h1,h2⟩:=List.of_mem_zip hp
   obtain⟨x,_,ex⟩:=y0m.mp h1
   obtain⟨y,_,ey⟩:=y0m.mp h2
   rw[<- ex,<- ey]
   rfl)]
  simp only[y1n]
  congr 2
  rw[List.zip_map,y2b,List.map_zipWith,List.zip,List.map_zipWith]
  rfl
 rw[opN1 e2]
 have e3:=zb8 (fun x:Bool=>x) (List.zipWith strLt ss ss.tail)
 simp only[z6q,e3,y1n,List.map_id']
 rw[zeb]
theorem zjb {ss:List Str} (hl:ss.length<=big):z50 [.list (ss.map .str)]=some (.bool (z4v ss)) :=
 zc1 (u:=.list (ss.tail.map .str)) rfl (by simp only[oSlA,oSl,cut1,List.map_tail]) rfl hl
theorem zla {ss:List Str} (hl:ss.length<=big):z50 [.tuple (ss.map .str)]=some (.bool (z4v ss)) :=
 zc1 (u:=.tuple (ss.tail.map .str)) rfl (by simp only[oSlA,oSl,cut1,List.map_tail]) rfl hl
def inB (ss:List Str) (t:T):Bool:=match t with
 | .str x=>decide (x∈ss)
 | _=>false
theorem zmo (s:Str) (t:T):y1v (.str s) t=match t with|.str x=>decide (s=x)|_=>false:=by
 cases t with
 | str x =>
  rw[y1v,Bool.eq_iff_iff]
  simp
 | _=>simp[y1v]
theorem zf8 (ss:List Str) (t:T):hasT t (ss.map .str)=inB ss t:=by
 unfold hasT inB
 rw[List.any_map]
 cases t with
 | str x =>
  simp only[Function.comp_def,zmo]
  rw[Bool.eq_iff_iff,List.any_eq_true,decide_eq_true_iff]
  constructor
  ·rintro⟨y,hy,e⟩
   rw[<- of_decide_eq_true e]
   exact hy
  ·intro h
   exact⟨x,h,decide_eq_true rfl⟩
 | _=>simp[Function.comp_def,zmo]
theorem za0 {ss:List Str} (h:∀s∈ss,asc (ls s)):okL (ss.map .str)=true:=by
 unfold okL
 have:=zgu (d:=0) (ts:=ss.map .str) fun t ht=>by
  obtain⟨s,hs,rfl⟩:=y0m.mp ht
  exact⟨by rw[PyData.canLay0];exact z75 (h s hs),by rw[y20];omega⟩
 rw[this.1,Bool.true_and]
 exact decide_eq_true (by omega)
theorem zf7 {ss:List Str} {t:T} {d:Nat} (h:∀s∈ss,asc (ls s)) (ht:Gd d t) (hd:d<=60:=by decide):oIn false t (.tuple (ss.map .str))=some (.bool (inB ss t)):=by
 simp only[oIn,ht.okT hd,za0 h,Bool.and_self,if_true,zf8]
 rfl
theorem zur {ss:List Str} {t:T} {d:Nat} (h:∀s∈ss,asc (ls s)) (ht:Gd d t) (hd:d<=60:=by decide):oIn false t (.list (ss.map .str))=some (.bool (inB ss t)):=by
 simp only[oIn,ht.okT hd,za0 h,Bool.and_self,if_true,zf8]
 rfl
def ascB (ss:List Str):Bool:=ss.all fun s=>(ls s).all fun c=>decide (c<128)
theorem zbj {ss:List Str} (h:ascB ss=true):∀s∈ss,asc (ls s):=fun s hs a ha=>of_decide_eq_true (List.all_eq_true.mp (List.all_eq_true.mp h s hs) a ha)
def z8f:List Str:=["day","inner","once","way"]
def zf5:List Str:=["shut","open","cut"]
theorem znf:∀s∈z8f,asc (ls s):=zbj (by decide +kernel)
theorem zix:∀s∈z4w,asc (ls s):=zbj (by decide +kernel)
theorem zne:∀s∈zf5,asc (ls s):=zbj (by decide +kernel)
theorem a_da:∀s∈(["set","unset"]:List Str),asc (ls s):=zbj (by decide +kernel)
theorem a_dz:∀s∈(["shunt","free"]:List Str),asc (ls s):=zbj (by decide +kernel)
theorem ix_0 {a:T} {r:List T}:oIx (.tuple (a::r)) (.int 0)=some a:=by
 simp only[oIx,atZ,ixOf]
 rw[if_pos (by decide),if_pos (by simp only[y0v];omega)]
 rfl
theorem ix_1 {a b:T} {r:List T}:oIx (.tuple (a::b::r)) (.int 1)=some b:=by
 simp only[oIx,atZ,ixOf]
 rw[if_pos (by decide),if_pos (by simp only[y0v];omega)]
 rfl
theorem ix_2 {a b c:T} {r:List T}:oIx (.tuple (a::b::c::r)) (.int 2)=some c:=by
 simp only[oIx,atZ,ixOf]
 rw[if_pos (by decide),if_pos (by simp only[y0v];omega)]
 rfl
theorem ix_3 {a b c d:T} {r:List T}:oIx (.tuple (a::b::c::d::r)) (.int 3)=some d:=by
 simp only[oIx,atZ,ixOf]
 rw[if_pos (by decide),if_pos (by simp only[y0v];omega)]
 rfl
theorem zqx {t:T} {n:Nat} (h:tupB t n n=true):∃ts,t=.tuple ts/\ts.length=n:=by
 cases t with
 | tuple ts =>
  simp only[tupB,y19,decide_eq_true_eq] at h
  exact⟨ts,rfl,by omega⟩
 | _=>simp[tupB] at h
theorem zqy {t:T} (h:tupB t 2 2=true):∃a b,t=.tuple [a,b]:=by
 obtain⟨ts,rfl,hl⟩:=zqx (n:=2) h
 match ts,hl with
 | [a,b],_=>exact⟨a,b,rfl⟩
theorem znn {t:T} (h:tupB t 3 3=true):∃a b c,t=.tuple [a,b,c]:=by
 obtain⟨ts,rfl,hl⟩:=zqx (n:=3) h
 match ts,hl with
 | [a,b,c],_=>exact⟨a,b,c,rfl⟩
theorem zsw {t:T} (h:tupB t 4 4=true):∃a b c d,t=.tuple [a,b,c,d]:=by
 obtain⟨ts,rfl,hl⟩:=zqx (n:=4) h
 match ts,hl with
 | [a,b,c,d],_=>exact⟨a,b,c,d,rfl⟩
def zbl (t:T):Bool:=match t with
 | .tuple [a,b]=>z5j a && inB z8f b
 | _=>false
theorem zqp {d:Nat} {t:T} (h:Gd (d+1) t) (hd:d<=59):z5w [t]=some (.bool (zbl t)):=by
 refine z5h ?_
 have h1:opN z05 [(nmV 0),(cst (.int 2)),(cst (.int 2))] [some (.imm t)]=some (.bool (tupB t 2 2)):=by
  simp only[opN,args,nmV,cst,y26,y0p,y1n]
  exact z2p h.g
 cases hb:tupB t 2 2 with
 | false =>
  rw[hb] at h1
  refine (z1n h1 (b:=false) fun z=>by cases z).trans ?_
  have:zbl t=false:=by
   unfold zbl
   split
   ·simp[tupB] at hb
   ·rfl
  rw[this]
  rfl
 | true =>
  obtain⟨a,b,rfl⟩:=zqy hb
  have ha:=h.tup a (by simp)
  have hb2:=h.tup b (by simp)
  rw[hb] at h1
  refine (z1n h1 fun _=>z1n (a:=z5j a) (b:=inB z8f b) ?_ fun _=>?_).trans ?_
  ·rw[opN1 (t:=a) (by rw[z09 rfl rfl];exact ix_0)]
   exact zgy ha.g
  ·rw[z09 (t:=b) (u:=.tuple (z8f.map .str)) (by rw[z09 rfl rfl];exact ix_1) rfl]
   exact zf7 znf hb2 (by omega)
  ·rfl
def fstS (t:T):Str:=match t with
 | .tuple (.str x::_)=>x
 | _=>⟨#[]⟩
def z83 (t:T):Bool:=match t with
 | .tuple ts=>decide (1<=ts.length) && decide (ts.length<=8) && ts.all zbl && z4v (ts.map fstS)
 | _=>false
theorem zeo {t:T} (h:z5j t=true):∃x,t=.str x:=by
 cases t with
 | str x=>exact⟨x,rfl⟩
 | _=>simp[z5j,zbm] at h
theorem zpb {t:T} (h:figB t=true):∃x,t=.str x:=by
 cases t with
 | str x=>exact⟨x,rfl⟩
 | _=>simp[figB,zbm] at h
theorem zkr {t:T} (h:zbl t=true):∃x k,t=.tuple [.str x,.str k]/\k∈z8f/\z5j (.str x)=true:=by
 unfold zbl at h
 split at h
 next a b =>
  rw[y19] at h
  obtain⟨x,rfl⟩:=zeo h.1
  cases b with
  | str k=>exact⟨x,k,rfl,of_decide_eq_true h.2,h.1⟩
  | _=>simp[inB] at h
 next=>cases h
theorem zfb {ts:List T} {ε:Ev} (hε:nmV 0 ε=some (.tuple ts)) (hl:ts.length<=big) (h:∀t∈ts,∃x r,t=.tuple (.str x::r)):opN z50 [comp 1 [] (itA (nmV 0)) (gNm 0) (cstT true) (op2 oIx (nm 0) (cst (.int 0)))] ε=some (.bool (z4v (ts.map fstS))):=by
 rw[opN1 (t:=.list ((ts.map fstS).map .str)) (by
  rw[y2b]
  refine z56 (f:=y1r ∘ fstS) (ts:=ts) (by simp[itA,hε]) hl fun t ht=>?_
  obtain⟨x,r,rfl⟩:=h t ht
  rw[z09 rfl rfl]
  exact ix_0)]
 exact zjb (by rw[y13];exact hl)
theorem zhg {d:Nat} {ts:List T} (h:Gd (d+2) (.tuple ts)) (hd:d<=50) {ε:Ev} (hε:nmV 0 ε=some (.tuple ts)) (hl:ts.length<=big):opN z6q [comp 1 [] (itA (nmV 0)) (gNm 0) (cstT true) (opN z5w [(nmV 0)])] ε=some (.bool (ts.all zbl)) :=
 zkn (by simp[itA,hε]) hl fun t ht=>by
  rw[opN1 (t:=t) rfl]
  exact zqp (h.tup t ht) (by omega)
theorem zi2 {d:Nat} {t:T} (h:Gd (d+2) t) (hd:d<=50):z53 [t]=some (.bool (z83 t)):=by
 unfold z53 runF zbf
 show (seq _ _ [some (.imm t)]).bind _=_
 have h1:opN z05 [(nmV 0),(cst (.int 1)),(cst (.int 8))] [some (.imm t)]=some (.bool (tupB t 1 8)):=by
  simp only[opN,args,nmV,cst,y26,y0p,y1n]
  exact z2p h.g
 cases hb:tupB t 1 8 with
 | false =>
  rw[hb] at h1
  rw[z1r (a:=true) (z6g (a:=true) (b:=false) (z27 (z0m h1)) fun z=>by cases z),if_pos rfl,z29 (t:=.bool false) rfl]
  have:z83 t=false:=by
   unfold z83
   split
   next ts =>
    have:(decide (1<=ts.length) && decide (ts.length<=8))=false:=by
     simp only[tupB] at hb
     rw[<- hb]
     congr 1 <;> (congr 1;apply propext;omega)
    rw[this]
    rfl
   next=>rfl
  rw[this]
  rfl
 | true =>
  cases t with
  | tuple ts =>
   have hl:decide (1<=ts.length)=true/\decide (ts.length<=8)=true:=by
    simp only[tupB,y19,decide_eq_true_eq] at hb ⊢
    omega
   have hl8:=of_decide_eq_true hl.2
   have hlb:ts.length<=big:=by unfold big;omega
   have hc:orT (notT (tstB (opN z05 [(nmV 0),(cst (.int 1)),(cst (.int 8))]))) (notT (tstB (opN z6q [(comp 1 [] (itA (nmV 0)) (gNm 0) (cstT true) (opN z5w [(nmV 0)]))]))) [some (.imm (.tuple ts))]=some (false || !ts.all zbl):=by
    rw[hb] at h1
    exact z6g (z27 (z0m h1)) fun _=>z27 (z0m (zhg h hd rfl hlb))
   rw[z1r hc]
   cases ha:ts.all zbl with
   | false =>
    rw[if_pos (by rfl),z29 (t:=.bool false) rfl]
    simp only[z83,ha,Bool.and_false,Bool.false_and]
    rfl
   | true =>
    rw[if_neg (by simp)]
    simp only[rtn]
    rw[zfb (ts:=ts) rfl hlb fun t ht=>by
     obtain⟨x,k,rfl,_⟩:=zkr (List.all_eq_true.mp ha t ht)
     exact⟨x,_,rfl⟩]
    simp only[z83,ha,hl.1,hl.2,Bool.true_and]
    rfl
  | _=>simp[tupB] at hb
end Fo
end
section
namespace Fo
open D Co PySem
def txS (t:T):Str:=match t with
 | .str x=>x
 | _=>⟨#[]⟩
theorem zs5 {ss:List Str} {t:T} (h:inB ss t=true):∃x,t=.str x/\x∈ss:=by
 cases t with
 | str x=>exact⟨x,rfl,of_decide_eq_true h⟩
 | _=>simp[inB] at h
def z8u (t:T):Bool:=match t with
 | .tuple ts=>decide (ts.length<=3) && (ts.all (inB z4w) && z4v (ts.map txS))
 | _=>false
theorem zjd {d:Nat} {t:T} (h:Gd (d+1) t) (hd:d<=50):z5r [t]=some (.bool (z8u t)):=by
 refine z5h ?_
 have h1:opN z05 [(nmV 0),(cst (.int 0)),(cst (.int 3))] [some (.imm t)]=some (.bool (tupB t 0 3)):=by
  simp only[opN,args,nmV,cst,y26,y0p,y1n]
  exact z2p h.g
 cases t with
 | tuple ts =>
  have e:tupB (.tuple ts) 0 3=decide (ts.length<=3):=by
   simp only[tupB]
   rw[decide_eq_true (show (0:Int)<=ts.length by omega),Bool.true_and]
   congr 1
   apply propext
   omega
  rw[e] at h1
  refine (z1n h1 fun hl=>?_).trans rfl
  have hl3:=of_decide_eq_true hl
  have hlb:ts.length<=big:=by unfold big;omega
  refine z1n (a:=ts.all (inB z4w)) (zkn (ts:=ts) rfl hlb fun t ht=>?_) fun ha=>?_
  ·rw[z09 (t:=t) (u:=.tuple (z4w.map .str)) rfl rfl]
   exact zf7 zix (h.tup t ht) (by omega)
  ·rw[opN1 (t:=.tuple ts) rfl]
   have e2:ts=(ts.map txS).map .str:=by
    rw[y2b]
    conv=>lhs;rw[<- List.map_id ts]
    refine List.map_congr_left fun t ht=>?_
    obtain⟨x,rfl,_⟩:=zs5 (List.all_eq_true.mp ha t ht)
    rfl
   rw[e2]
   rw[zla (by rw[y13];exact hlb),<- e2]
 | _=>exact (z1n (b:=false) h1 fun z=>by cases z).trans rfl
def codeB (t:T):Bool:=match t with
 | .tuple [f,w,r,u]=>figB f && (z5j w && (z8u r && z11 u 0 9))
 | _=>false
theorem ifF {f:Fe} {ε:Ev} {s2:Fs} (h:f ε=some (.bool false)):seq (iff (notT (tstB f)) (rtn (cst (.bool false))) skip) s2 ε=some (.rt (.bool false)):=by
 rw[z1r (z27 (z0m h)),if_pos (by rfl),z29 (t:=.bool false) rfl]
theorem ifT {f:Fe} {ε:Ev} {s2:Fs} (h:f ε=some (.bool true)):seq (iff (notT (tstB f)) (rtn (cst (.bool false))) skip) s2 ε=s2 ε:=by
 rw[z1r (z27 (z0m h)),if_neg (by simp)]
theorem zph {d:Nat} {t:T} (h:Gd (d+2) t) (hd:d<=50):z5y [t]=some (.bool (codeB t)):=by
 unfold z5y runF zg3
 show (seq _ _ [some (.imm t)]).bind _=_
 have h1:opN z05 [(nmV 0),(cst (.int 4)),(cst (.int 4))] [some (.imm t)]=some (.bool (tupB t 4 4)):=by
  simp only[opN,args,nmV,cst,y26,y0p,y1n]
  exact z2p h.g
 cases hb:tupB t 4 4 with
 | false =>
  rw[hb] at h1
  rw[ifF h1]
  have:codeB t=false:=by
   unfold codeB
   split
   ·simp[tupB] at hb
   ·rfl
  rw[this]
  rfl
 | true =>
  rw[hb] at h1
  rw[ifT h1]
  obtain⟨f,w,r,u,rfl⟩:=zsw hb
  have hf:=h.tup f (by simp)
  have hw:=h.tup w (by simp)
  have hr:=h.tup r (by simp)
  have hu:=h.tup u (by simp)
  simp only[rtn]
  rw[z1n (a:=figB f) (b:=z5j w && (z8u r && z11 u 0 9)) (by rw[opN1 (t:=f) (by rw[z09 rfl rfl];exact ix_0)];exact zca hf.g) fun _ =>
   z1n (by rw[opN1 (t:=w) (by rw[z09 rfl rfl];exact ix_1)];exact zgy hw.g) fun _ =>
   z1n (by rw[opN1 (t:=r) (by rw[z09 rfl rfl];exact ix_2)];exact zjd hr hd) fun _=>by
    simp only[opN,args,cst,y0p,y1n]
    rw[show op2 oIx (nm 0) (cst (.int 3)) [some (.imm (.tuple [f,w,r,u]))]=some u from by rw[z09 rfl rfl];exact ix_3]
    exact z84 hu.g]
  rfl
def z8i (t:T):Bool:=match t with
 | .tuple ts=>decide (1<=ts.length) && decide (ts.length<=6) && ts.all codeB && z4v (ts.map fstS)
 | _=>false
theorem zmu {t:T} (h:codeB t=true):∃f w r u,t=.tuple [.str f,.str w,r,u]/\figB (.str f)=true/\z5j (.str w)=true/\z8u r=true/\z11 u 0 9=true:=by
 unfold codeB at h
 split at h
 next f w r u =>
  simp only[y19] at h
  obtain⟨h1,h2,h3,h4⟩:=h
  obtain⟨x,rfl⟩:=zpb h1
  obtain⟨y,rfl⟩:=zeo h2
  exact⟨x,y,r,u,rfl,h1,h2,h3,h4⟩
 next=>cases h
theorem zpg {d:Nat} {t:T} (h:Gd (d+3) t) (hd:d<=50):z55 [t]=some (.bool (z8i t)):=by
 unfold z55 runF zbh
 show (seq _ _ [some (.imm t)]).bind _=_
 have h1:opN z05 [(nmV 0),(cst (.int 1)),(cst (.int 6))] [some (.imm t)]=some (.bool (tupB t 1 6)):=by
  simp only[opN,args,nmV,cst,y26,y0p,y1n]
  exact z2p h.g
 cases hb:tupB t 1 6 with
 | false =>
  rw[hb] at h1
  rw[z1r (a:=true) (z6g (a:=true) (b:=false) (z27 (z0m h1)) fun z=>by cases z),if_pos rfl,z29 (t:=.bool false) rfl]
  have:z8i t=false:=by
   unfold z8i
   split
   next ts =>
    have:(decide (1<=ts.length) && decide (ts.length<=6))=false:=by
     simp only[tupB] at hb
     rw[<- hb]
     congr 1 <;> (congr 1;apply propext;omega)
    rw[this]
    rfl
   next=>rfl
  rw[this]
  rfl
 | true =>
  cases t with
  | tuple ts =>
   have hl:decide (1<=ts.length)=true/\decide (ts.length<=6)=true:=by
    simp only[tupB,y19,decide_eq_true_eq] at hb ⊢
    omega
   have hl8:=of_decide_eq_true hl.2
   have hlb:ts.length<=big:=by unfold big;omega
   have hc:orT (notT (tstB (opN z05 [(nmV 0),(cst (.int 1)),(cst (.int 6))]))) (notT (tstB (opN z6q [(comp 1 [] (itA (nmV 0)) (gNm 0) (cstT true) (opN z5y [(nmV 0)]))]))) [some (.imm (.tuple ts))]=some (false || !ts.all codeB):=by
    rw[hb] at h1
    exact z6g (z27 (z0m h1)) fun _=>z27 (z0m (zkn (ts:=ts) rfl hlb fun t ht=>by
     rw[opN1 (t:=t) rfl]
     exact zph (h.tup t ht) hd))
   rw[z1r hc]
   cases ha:ts.all codeB with
   | false =>
    rw[if_pos (by rfl),z29 (t:=.bool false) rfl]
    simp only[z8i,ha,Bool.and_false,Bool.false_and]
    rfl
   | true =>
    rw[if_neg (by simp)]
    simp only[rtn]
    rw[zfb (ts:=ts) rfl hlb fun t ht=>by
     obtain⟨x,w,r,u,rfl,_⟩:=zmu (List.all_eq_true.mp ha t ht)
     exact⟨x,_,rfl⟩]
    simp only[z8i,ha,hl.1,hl.2,Bool.true_and]
    rfl
  | _=>simp[tupB] at hb
def zbu (t:T):Bool:=match t with
 | .tuple [a,b,c]=>z11 a 0 60 && (z11 b 0 60 && z11 c 1 300)
 | _=>false
theorem w_ix {ε:Ev} {e:Fe} {u:T} {lo hi:Int} (he:e ε=some u) (hu:gd u=true):opN z0s [e,cst (.int lo),cst (.int hi)] ε=some (.bool (z11 u lo hi)):=by
 simp only[opN,args,cst,y0p,y1n,he]
 exact z84 hu
theorem zno {d:Nat} {t:T} (h:Gd (d+1) t):z54 [t]=some (.bool (zbu t)):=by
 unfold z54 runF zbg
 show (seq _ _ [some (.imm t)]).bind _=_
 have h1:opN z05 [(nmV 0),(cst (.int 3)),(cst (.int 3))] [some (.imm t)]=some (.bool (tupB t 3 3)):=by
  simp only[opN,args,nmV,cst,y26,y0p,y1n]
  exact z2p h.g
 cases hb:tupB t 3 3 with
 | false =>
  rw[hb] at h1
  rw[ifF h1]
  have:zbu t=false:=by
   unfold zbu
   split
   ·simp[tupB] at hb
   ·rfl
  rw[this]
  rfl
 | true =>
  rw[hb] at h1
  rw[ifT h1]
  obtain⟨a,b,c,rfl⟩:=znn hb
  have ha:=h.tup a (by simp)
  have hb:=h.tup b (by simp)
  have hc:=h.tup c (by simp)
  simp only[rtn]
  rw[z1n (a:=z11 a 0 60) (b:=z11 b 0 60 && z11 c 1 300) (w_ix (by rw[z09 rfl rfl];exact ix_0) ha.g) fun _ =>
   z1n (w_ix (by rw[z09 rfl rfl];exact ix_1) hb.g) fun _=>w_ix (by rw[z09 rfl rfl];exact ix_2) hc.g]
  rfl
def zjg (t:T):Bool:=match t with
 | .tuple [z,c,m]=>z83 z && (z8i c && zbu m)
 | _=>false
theorem zoa {d:Nat} {t:T} (h:Gd (d+4) t) (hd:d<=40):z6r [t]=some (.bool (zjg t)):=by
 refine z5h ?_
 have h1:opN z05 [(nmV 0),(cst (.int 3)),(cst (.int 3))] [some (.imm t)]=some (.bool (tupB t 3 3)):=by
  simp only[opN,args,nmV,cst,y26,y0p,y1n]
  exact z2p h.g
 cases hb:tupB t 3 3 with
 | false =>
  rw[hb] at h1
  refine (z1n h1 (b:=false) fun z=>by cases z).trans ?_
  have:zjg t=false:=by
   unfold zjg
   split
   ·simp[tupB] at hb
   ·rfl
  rw[this]
  rfl
 | true =>
  obtain⟨z,c,m,rfl⟩:=znn hb
  have hz:=h.tup z (by simp)
  have hc:=h.tup c (by simp)
  have hm:=h.tup m (by simp)
  rw[hb] at h1
  refine (z1n h1 fun _=>z1n (a:=z83 z) (b:=z8i c && zbu m) ?_ fun _=>z1n ?_ fun _=>?_).trans rfl
  ·rw[opN1 (t:=z) (by rw[z09 rfl rfl];exact ix_0)]
   exact zi2 (d:=d+1) hz (by omega)
  ·rw[opN1 (t:=c) (by rw[z09 rfl rfl];exact ix_1)]
   exact zpg hc (by omega)
  ·rw[opN1 (t:=m) (by rw[z09 rfl rfl];exact ix_2)]
   exact zno hm
def zgx (t:T):Bool:=match t with
 | .none=>true
 | _=>false
def zej (R:T) (t:T):Bool:=match R,t with
 | .int r,.tuple [a,.int b,z]=>z11 (.int b) 1 r && (z11 a 0 (b - 1) && (zgx z || z5j z))
 | _,_=>false
theorem zp4 {f:Fe} {ε:Ev} {t:T} (h:f ε=some t):op1 oIsN f ε=some (.bool (zgx t)):=by
 rw[zjk h]
 cases t <;> rfl
theorem zji {d:Nat} {t:T} {r:Int} (h:Gd (d+1) t):z44 [.int r,t]=some (.bool (zej (.int r) t)):=by
 unfold z44 runF z9f
 show (seq _ _ [some (.imm (.int r)),some (.imm t)]).bind _=_
 have h1:opN z05 [(nmV 1),(cst (.int 3)),(cst (.int 3))] [some (.imm (.int r)),some (.imm t)]=some (.bool (tupB t 3 3)):=by
  simp only[opN,args,nmV,cst,y26,y27,y0p,y1n]
  exact z2p h.g
 cases hb:tupB t 3 3 with
 | false =>
  rw[hb] at h1
  rw[z1r (a:=true) (z6g (a:=true) (b:=false) (z27 (z0m h1)) fun z=>by cases z),if_pos rfl,z29 (t:=.bool false) rfl]
  have:zej (.int r) t=false:=by
   unfold zej
   split
   ·simp[tupB] at hb
   ·rfl
  rw[this]
  rfl
 | true =>
  obtain⟨a,b,z,rfl⟩:=znn hb
  have ha:=h.tup a (by simp)
  have hb2:=h.tup b (by simp)
  have hz:=h.tup z (by simp)
  rw[hb] at h1
  have hw:opN z0s [(op2 oIx (nm 1) (cst (.int 1))),(cst (.int 1)),(nmV 0)] [some (.imm (.int r)),some (.imm (.tuple [a,b,z]))]=some (.bool (z11 b 1 r)):=by
   have e:op2 oIx (nm 1) (cst (.int 1)) [some (.imm (.int r)),some (.imm (.tuple [a,b,z]))]=some b:=by rw[z09 rfl rfl];exact ix_1
   simp only[opN,args,nmV,y0p,y1n,y26,e]
   exact z84 hb2.g
  have hc:=z6g (z27 (z0m h1)) fun _=>z27 (z0m hw)
  rw[z1r hc]
  cases hq:z11 b 1 r with
  | false =>
   rw[if_pos (by rfl),z29 (t:=.bool false) rfl]
   cases b with
   | int j=>simp only[zej,hq,Bool.false_and];rfl
   | _=>rfl
  | true =>
   rw[if_neg (by simp)]
   cases b with
   | int j =>
    simp only[rtn]
    have e0:op2 oIx (nm 1) (cst (.int 0)) [some (.imm (.int r)),some (.imm (.tuple [a,.int j,z]))]=some a:=by rw[z09 rfl rfl];exact ix_0
    have e1:op2 oIx (nm 1) (cst (.int 1)) [some (.imm (.int r)),some (.imm (.tuple [a,.int j,z]))]=some (.int j):=by rw[z09 rfl rfl];exact ix_1
    have e2:op2 oIx (nm 1) (cst (.int 2)) [some (.imm (.int r)),some (.imm (.tuple [a,.int j,z]))]=some z:=by rw[z09 rfl rfl];exact ix_2
    have es:op2 oSub (op2 oIx (nm 1) (cst (.int 1))) (cst (.int 1)) [some (.imm (.int r)),some (.imm (.tuple [a,.int j,z]))]=some (.int (j - 1)):=by rw[z09 e1 rfl];rfl
    rw[z1n (a:=z11 a 0 (j - 1)) (b:=zgx z || z5j z) (by
     simp only[opN,args,y0p,y1n,e0,es]
     exact z84 ha.g) fun _=>zrn (zp4 e2) fun _=>by rw[opN1 e2];exact zgy hz.g]
    simp only[zej,hq,Bool.true_and]
    rfl
   | _=>simp[z11] at hq
def z8h (t:T):Bool:=match t with
 | .tuple [r,.tuple os]=>z11 r 1 7 && (decide (os.length<=10) && os.all (zej r))
 | _=>false
theorem zmf {d:Nat} {t:T} (h:Gd (d+3) t) (hd:d<=50):z4i [t]=some (.bool (z8h t)):=by
 unfold z4i runF zcg
 show (seq _ _ [some (.imm t)]).bind _=_
 have h1:opN z05 [(nmV 0),(cst (.int 2)),(cst (.int 2))] [some (.imm t)]=some (.bool (tupB t 2 2)):=by
  simp only[opN,args,nmV,cst,y26,y0p,y1n]
  exact z2p h.g
 cases hb:tupB t 2 2 with
 | false =>
  rw[hb] at h1
  rw[z1r (a:=true) (z6g (a:=true) (b:=false) (z27 (z0m h1)) fun z=>by cases z),if_pos rfl,z29 (t:=.bool false) rfl]
  have:z8h t=false:=by
   unfold z8h
   split
   ·simp[tupB] at hb
   ·rfl
  rw[this]
  rfl
 | true =>
  obtain⟨r,o,rfl⟩:=zqy hb
  have hr:=h.tup r (by simp)
  have ho:=h.tup o (by simp)
  rw[hb] at h1
  have e0:op2 oIx (nm 0) (cst (.int 0)) [some (.imm (.tuple [r,o]))]=some r:=by rw[z09 rfl rfl];exact ix_0
  have e1:op2 oIx (nm 0) (cst (.int 1)) [some (.imm (.tuple [r,o]))]=some o:=by rw[z09 rfl rfl];exact ix_1
  have h3:opN z05 [(op2 oIx (nm 0) (cst (.int 1))),(cst (.int 0)),(cst (.int 10))] [some (.imm (.tuple [r,o]))]=some (.bool (tupB o 0 10)):=by
   simp only[opN,args,cst,y0p,y1n]
   rw[show op2 oIx (nm 0) (cst (.int 1)) [some (.imm (.tuple [r,o]))]=some o from e1]
   exact z2p ho.g
  have hc:=z6g (z27 (z0m h1)) fun _=>z6g (z27 (z0m (w_ix (lo:=1) (hi:=7) e0 hr.g))) fun _=>z27 (z0m h3)
  rw[z1r hc]
  cases hq:(z11 r 1 7 && tupB o 0 10) with
  | false =>
   rw[if_pos (by
    rw[<- Bool.not_and,hq]
    rfl),z29 (t:=.bool false) rfl]
   have:z8h (.tuple [r,o])=false:=by
    unfold z8h
    split
    next r' os' e' =>
     cases e'
     have:tupB (.tuple os') 0 10=decide (os'.length<=10):=by
      simp only[tupB]
      rw[decide_eq_true (show (0:Int)<=os'.length by omega),Bool.true_and]
      congr 1
      apply propext
      omega
     rw[this] at hq
     rw[<- Bool.and_assoc,hq,Bool.false_and]
    next=>rfl
   rw[this]
   rfl
  | true =>
   rw[if_neg (by
    rw[<- Bool.not_and,hq]
    simp)]
   rw[y19] at hq
   cases o with
   | tuple os =>
    have hl:os.length<=10:=by
     have:=hq.2
     simp only[tupB,y19,decide_eq_true_eq] at this
     omega
    cases r with
    | int i =>
     simp only[rtn]
     rw[zkn (ts:=os) (f:=zej (.int i)) (by simp only[itA,e1,y0p]) (by unfold big;omega) fun t ht=>by
      rw[opN2 (t:=.int i) (u:=t) (by rw[z09 rfl rfl];exact ix_0) rfl]
      exact zji (ho.tup t ht)]
     simp only[z8h,hq.1,decide_eq_true hl,Bool.true_and]
     rfl
    | _=>simp[z11] at hq
   | _=>simp[tupB] at hq
end Fo
end
section
namespace Fo
open D Co PySem
def z6d (p:Pl):List Str:=p.zones.map (·.1)
structure Pok (p:Pl):Prop where
 z:∀s∈z6d p,asc (ls s)
 l:p.zones.length<=1000
theorem zi3 {p:Pl} (hp:Pok p) {d:Nat} {t:T} (ht:Gd d t) (hd:d<=60):z4j [encP p,t]=some (.bool (inB (z6d p) t)):=by
 refine z5h ?_
 have e:comp 1 [] (itA (op2 oIx (nm 0) (cst (.int 0)))) (gNm 0) (cstT true) (op2 oIx (nm 0) (cst (.int 0))) [some (.imm (encP p)),some (.imm t)]=some (.list ((z6d p).map .str)):=by
  rw[z56 (f:=fun t=>.str (fstS t)) (ts:=p.zones.map encZ) (by
   simp only[itA]
   rw[z09 (t:=encP p) rfl rfl,show oIx (encP p) (.int 0)=some (.tuple (p.zones.map encZ)) from ix_0]
   rfl) (by rw[y13];have:=hp.l;unfold big;omega) fun t ht=>by
    obtain⟨z,_,rfl⟩:=y0m.mp ht
    rw[z09 rfl rfl]
    exact ix_0]
  simp only[y2b,z6d]
  rfl
 show op2 (oIn false) (nm 1) _ [some (.imm (encP p)),some (.imm t)]=_
 rw[z09 (t:=t) rfl e]
 exact zur hp.z ht hd
def eqS (s:Str) (t:T):Bool:=match t with
 | .str x=>decide (x=s)
 | _=>false
theorem za2 (s:Str) (t:T):y1v t (.str s)=eqS s t:=by
 cases t with
 | str x =>
  rw[y1v,Bool.eq_iff_iff]
  simp[eqS]
 | _=>simp[y1v,eqS]
theorem eq_s {d:Nat} {f:Fe} {ε:Ev} {t:T} {s:Str} (h:f ε=some t) (ht:Gd d t) (hs:asc (ls s)) (hd:d<=60:=by decide):op2 oEq f (cst (.str s)) ε=some (.bool (eqS s t)):=by
 rw[z09 h rfl]
 simp only[oEq,ht.okT hd,show okT (.str s)=true from Co.okN.okT (d:=0) ⟨by rw[PyData.canLay0];exact z75 hs,by rw[y20];omega⟩,Bool.and_self,if_true,za2]
theorem ne_s {d:Nat} {f:Fe} {ε:Ev} {t:T} {s:Str} (h:f ε=some t) (ht:Gd d t) (hs:asc (ls s)) (hd:d<=60:=by decide):op2 oNe f (cst (.str s)) ε=some (.bool !(eqS s t)):=by
 rw[z09 h rfl]
 simp only[oNe,ht.okT hd,show okT (.str s)=true from Co.okN.okT (d:=0) ⟨by rw[PyData.canLay0];exact z75 hs,by rw[y20];omega⟩,Bool.and_self,if_true,za2]
theorem z9u {s:Str} (h:((ls s).all fun c=>decide (c<128))=true:=by decide +kernel):asc (ls s):=fun a ha=>of_decide_eq_true (List.all_eq_true.mp h a ha)
theorem zg6:asc (ls "line"):=z9u
theorem z74:asc (ls "code"):=z9u
theorem z68:asc (ls "ticks"):=z9u
def zjz (p:Pl) (t:T):Bool:=match t with
 | .tuple [a,z,w]=>eqS "line" a && (inB (z6d p) z && inB zf5 w)
 | _=>false
theorem zow {p:Pl} (hp:Pok p) {d:Nat} {t:T} (h:Gd (d+1) t) (hd:d<=50):z3j [encP p,t]=some (.bool (zjz p t)):=by
 refine z5h ?_
 have h1:opN z05 [(nmV 1),(cst (.int 3)),(cst (.int 3))] [some (.imm (encP p)),some (.imm t)]=some (.bool (tupB t 3 3)):=by
  simp only[opN,args,nmV,cst,y26,y27,y0p,y1n]
  exact z2p h.g
 cases hb:tupB t 3 3 with
 | false =>
  rw[hb] at h1
  refine (z1n h1 (b:=false) fun z=>by cases z).trans ?_
  have:zjz p t=false:=by
   unfold zjz
   split
   ·simp[tupB] at hb
   ·rfl
  rw[this]
  rfl
 | true =>
  obtain⟨a,z,w,rfl⟩:=znn hb
  have ha:=h.tup a (by simp)
  have hz:=h.tup z (by simp)
  have hw:=h.tup w (by simp)
  rw[hb] at h1
  refine (z1n h1 fun _=>z1n (eq_s (t:=a) (by rw[z09 rfl rfl];exact ix_0) ha zg6 (by omega)) fun _=>z1n (a:=inB (z6d p) z) ?_ fun _=>?_).trans rfl
  ·rw[opN2 (t:=encP p) (u:=z) rfl (by rw[z09 rfl rfl];exact ix_1)]
   exact zi3 hp hz (by omega)
  ·rw[z09 (t:=w) (u:=.tuple (zf5.map .str)) (by rw[z09 rfl rfl];exact ix_2) rfl]
   exact zf7 zne hw (by omega)
noncomputable def z9d (p:Pl) (t:T):Bool:=match t with
 | .tuple [a,f,e,z]=>eqS "code" a && (figB f && (if inB ["set","unset"] e=true then zgx z else inB ["shunt","free"] e && inB (z6d p) z))
 | _=>false
theorem zmt {p:Pl} (hp:Pok p) {d:Nat} {t:T} (h:Gd (d+1) t) (hd:d<=50):z2n [encP p,t]=some (.bool (z9d p t)):=by
 unfold z2n runF z72
 show (seq _ _ [some (.imm (encP p)),some (.imm t)]).bind _=_
 have h1:opN z05 [(nmV 1),(cst (.int 4)),(cst (.int 4))] [some (.imm (encP p)),some (.imm t)]=some (.bool (tupB t 4 4)):=by
  simp only[opN,args,nmV,cst,y26,y27,y0p,y1n]
  exact z2p h.g
 cases hb:tupB t 4 4 with
 | false =>
  rw[hb] at h1
  rw[z1r (a:=true) (z6g (a:=true) (b:=false) (z27 (z0m h1)) fun z=>by cases z),if_pos rfl,z29 (t:=.bool false) rfl]
  have:z9d p t=false:=by
   unfold z9d
   split
   ·simp[tupB] at hb
   ·rfl
  rw[this]
  rfl
 | true =>
  obtain⟨a,f,e,z,rfl⟩:=zsw hb
  have ha:=h.tup a (by simp)
  have hf:=h.tup f (by simp)
  have he:=h.tup e (by simp)
  have hz:=h.tup z (by simp)
  rw[hb] at h1
  generalize hε:[some (Sl.imm (encP p)),some (.imm (.tuple [a,f,e,z]))]=ε at *
  have e0:op2 oIx (nm 1) (cst (.int 0)) ε=some a:=by subst hε;rw[z09 rfl rfl];exact ix_0
  have e1:op2 oIx (nm 1) (cst (.int 1)) ε=some f:=by subst hε;rw[z09 rfl rfl];exact ix_1
  have e2:op2 oIx (nm 1) (cst (.int 2)) ε=some e:=by subst hε;rw[z09 rfl rfl];exact ix_2
  have e3:op2 oIx (nm 1) (cst (.int 3)) ε=some z:=by subst hε;rw[z09 rfl rfl];exact ix_3
  have hc:=z6g (z27 (z0m h1)) fun _=>z6g (z0m (ne_s e0 ha z74 (by omega))) fun _=>z27 (z0m (show opN z2m [(op2 oIx (nm 1) (cst (.int 1)))] ε=some (.bool (figB f)) by rw[opN1 e1];exact zca hf.g))
  rw[z1r hc]
  cases hq:(eqS "code" a && figB f) with
  | false =>
   rw[if_pos (by
    rw[<- Bool.not_and,hq]
    rfl),z29 (t:=.bool false) rfl]
   simp only[z9d]
   rw[<- Bool.and_assoc,hq,Bool.false_and]
   rfl
  | true =>
   rw[if_neg (by
    rw[<- Bool.not_and,hq]
    simp)]
   have hs:op2 (oIn false) (op2 oIx (nm 1) (cst (.int 2))) (cst (.tuple (z8p ["set","unset"]))) ε=some (.bool (inB ["set","unset"] e)):=by
    rw[z09 (t:=e) (u:=.tuple ((["set","unset"]:List Str).map .str)) e2 rfl]
    exact zf7 a_da he (by omega)
   rw[z1r (z0m hs)]
   simp only[z9d]
   rw[<- Bool.and_assoc,hq,Bool.true_and]
   cases hi:inB ["set","unset"] e with
   | true =>
    rw[if_pos rfl,z29 (zp4 e3),if_pos rfl]
    rfl
   | false =>
    rw[if_neg (by simp),if_neg (by simp)]
    simp only[rtn]
    rw[z1n (a:=inB ["shunt","free"] e) (b:=inB (z6d p) z) (by
     rw[z09 (t:=e) (u:=.tuple ((["shunt","free"]:List Str).map .str)) e2 rfl]
     exact zf7 a_dz he (by omega)) fun _=>by
     rw[opN2 (t:=encP p) (u:=z) (by subst hε;rfl) e3]
     exact zi3 hp hz (by omega)]
    rfl
def posB (t:T):Bool:=match t with
 | .int i=>decide (1<=i)
 | _=>false
def zbv (t:T):Bool:=match t with
 | .tuple [a,n]=>eqS "ticks" a && (z9a n && posB n)
 | _=>false
theorem zkx {d:Nat} {t:T} (h:Gd (d+1) t) (hd:d<=50):z2y [t]=some (.bool (zbv t)):=by
 refine z5h ?_
 have h1:opN z05 [(nmV 0),(cst (.int 2)),(cst (.int 2))] [some (.imm t)]=some (.bool (tupB t 2 2)):=by
  simp only[opN,args,nmV,cst,y26,y0p,y1n]
  exact z2p h.g
 cases hb:tupB t 2 2 with
 | false =>
  rw[hb] at h1
  refine (z1n h1 (b:=false) fun z=>by cases z).trans ?_
  have:zbv t=false:=by
   unfold zbv
   split
   ·simp[tupB] at hb
   ·rfl
  rw[this]
  rfl
 | true =>
  obtain⟨a,n,rfl⟩:=zqy hb
  have ha:=h.tup a (by simp)
  have hn:=h.tup n (by simp)
  rw[hb] at h1
  refine (z1n h1 fun _=>z1n (eq_s (t:=a) (by rw[z09 rfl rfl];exact ix_0) ha z68 (by omega)) fun _=>z1n (a:=z9a n) (b:=posB n) ?_ fun hw=>?_).trans rfl
  ·rw[opN1 (t:=n) (by rw[z09 rfl rfl];exact ix_1)]
   exact zi4 hn.g
  ·cases n with
   | int i =>
    rw[z09 (t:=.int i) (u:=.int 1) (by rw[z09 rfl rfl];exact ix_1) rfl]
    rfl
   | _=>simp[z9a] at hw
def zcb (p:Pl) (t:T):Bool:=zjz p t || (z9d p t || zbv t)
theorem zml {p:Pl} (hp:Pok p) {d:Nat} {t:T} (h:Gd (d+1) t) (hd:d<=50):z5x [encP p,t]=some (.bool (zcb p t)):=by
 refine z5h ?_
 refine (zrn (a:=zjz p t) (b:=z9d p t || zbv t) ?_ fun _=>zrn ?_ fun _=>?_).trans rfl
 ·rw[opN2 (t:=encP p) (u:=t) rfl rfl]
  exact zow hp h hd
 ·rw[opN2 (t:=encP p) (u:=t) rfl rfl]
  exact zmt hp h hd
 ·rw[opN1 (t:=t) rfl]
  exact zkx h hd
end Fo
end
section
namespace Fo
open D Co PySem
def W64:Int:=10 ^ 64
theorem zi0:0<W64:=by decide +kernel
theorem zve:W64<2 ^ 213:=by decide +kernel
theorem zeh {ε:Ev}:op2 z8e (cst (.int 10)) (cst (.int 64)) ε=some (.int W64):=by
 rw[z09 rfl rfl]
 simp only[z8e]
 rw[if_pos (by decide)]
 rfl
theorem zil {a:Int} (h0:0<=a) (h:a<W64):zov a=true:=by
 unfold zov
 refine decide_eq_true ?_
 have h1:=zve
 have h2:a.natAbs<2 ^ 213:=by
  have e:((2 ^ 213:Nat):Int)=2 ^ 213:=by norm_cast
  have:a<((2 ^ 213:Nat):Int):=by rw[e];exact Int.lt_trans h h1
  generalize 2 ^ 213=q at this ⊢
  omega
 by_cases hz:a.natAbs=0
 ·rw[hz]
  decide
 ·have:=(Nat.log2_lt hz).mpr h2
  omega
def dig (l:List Nat):Prop:=NumText.AllDigits l
theorem zsf {l:List Nat} (h:dig l):asc l:=fun a ha=>by
 have:=h a ha
 omega
theorem z4b {a:Int} (h:0<=a):strI a=strI ((a.toNat:Nat):Int):=by rw[Int.toNat_of_nonneg h]
theorem z4k {a:Int} (h:0<=a):dig (ls (strI a)):=by
 rw[z4b h]
 exact zi8 _
theorem zcl {a:Int} (h0:0<=a) (h:a<W64):(strI a).length<=64/\0<(strI a).length:=by
 rw[z4b h0,z1g,z7l,y13]
 refine⟨(Nat.length_toDigits_le_iff (by decide) (by decide)).mpr ?_,Nat.length_toDigits_pos⟩
 have:((a.toNat:Nat):Int)<((10 ^ 64:Nat):Int):=by
  rw[Int.toNat_of_nonneg h0]
  have e:((10 ^ 64:Nat):Int)=W64:=by unfold W64;norm_cast
  rw[e]
  exact h
 exact_mod_cast this
theorem zks {x:Str} (h:dig (ls x)) (hl:x.length<=64):dig (ls (Txt.zfill x 64))/\(Txt.zfill x 64).length=64:=by
 unfold Txt.zfill
 split
 next h1=>exact⟨h,by omega⟩
 next h1 =>
  have e:zfilled x ((64:Int).toNat - x.length)=Builtin.Str.padded x ((64:Int).toNat - x.length) 0 48:=by
   unfold zfilled
   split
   next h2 =>
    have:=h 43 (by
     have:=Array.mem_of_getElem? h2
     simpa [ls] using this)
    omega
   next h2 =>
    have:=h 45 (by
     have:=Array.mem_of_getElem? h2
     simpa [ls] using this)
    omega
   next=>rfl
  rw[e]
  unfold Builtin.Str.padded
  constructor
  ·intro c hc
   simp only[ls,Array.toList_append,Array.toList_replicate,List.replicate_zero,y1t,y10,List.mem_replicate] at hc
   rcases hc with ⟨_,rfl⟩|hc
   ·omega
   ·exact h c hc
  ·simp only[Str.length,Array.size_append,Array.size_replicate]
   have:(64:Int).toNat=64:=rfl
   rw[this]
   have h3:x.length=x.cps.size:=rfl
   omega
def dv (l:List Nat):Nat:=NumText.digitsVal l
theorem zdb:∀(l:List Nat) (a:Nat),l.foldl (fun acc c=>acc*10+(c - 48)) a=a*10 ^ l.length+dv l
 | [],a=>by simp[dv,NumText.digitsVal]
 | c::l,a=>by
  have h1:=zdb l (a*10+(c - 48))
  have h2:=zdb l (0*10+(c - 48))
  have h3:dv (c::l)=l.foldl (fun acc c=>acc*10+(c - 48)) (0*10+(c - 48)):=rfl
  rw[List.foldl_cons,h1,h3,h2,y0v,Nat.pow_succ]
  generalize 10 ^ l.length=q
  generalize c - 48=r
  generalize dv l=v
  have e1:(a*10+r)*q=a*(q*10)+r*q:=by
   rw[Nat.add_mul,Nat.mul_assoc,Nat.mul_comm 10 q]
  have e2:(0*10+r)*q=r*q:=by simp
  omega
theorem zis (a b:List Nat):dv (a++b)=dv a*10 ^ b.length+dv b:=by
 show (a++b).foldl _ 0=_
 rw[List.foldl_append,zdb]
 rfl
theorem zda (m:Nat):dv (ls (strI (m:Int)))=m:=by
 rw[z7l]
 exact W.KIN.val_back m
theorem zl1 {m:Nat} (h:0<m):∃c r,ls (strI (m:Int))=c::r/\49<=c:=by
 have hd:=zi8 m
 have hv:=zda m
 have hall:=NumText.toDigits_all _ hd
 have hv':NumText.digitsVal (ls (strI (m:Int)))=m:=hv
 rw[hv'] at hall
 have hl:=z7l m
 cases e:ls (strI (m:Int)) with
 | nil =>
  rw[e] at hv
  simp[dv,NumText.digitsVal] at hv
  omega
 | cons c r =>
  refine⟨c,r,rfl,?_⟩
  have hc:=hd c (by rw[e];simp)
  by_cases hq:c=48
  ·exfalso
   subst hq
   rw[e] at hall hl hv
   have hlen:(48::r).length=(Nat.toDigits 10 m).length:=by rw[hl,y13]
   have hdl:(List.dropWhile (fun x=>x == 48) (48::r)).length<=r.length:=by
    simp only[List.dropWhile_cons,beq_self_eq_true,if_true]
    exact (List.dropWhile_sublist _).length_le
   split at hall
   next e2 =>
    rw[hall] at hlen
    simp at hlen
    subst hlen
    simp[dv,NumText.digitsVal] at hv
    omega
   next c2 r2 e2 =>
    rw[hall,y13] at hlen
    rw[e2] at hdl
    simp at hlen hdl
    omega
  ·omega
theorem zw9 {x:Str} {n:Nat} (hd:dig (ls x)) (hv:dv (ls x)=n) (h:∃c r,ls x=c::r/\49<=c):x=strI (n:Int):=by
 apply zf4
 rw[z7l,<- hv]
 obtain⟨c,r,e,hc⟩:=h
 have:=NumText.toDigits_digitsVal r.length (ls x) (by rw[e];rfl) hd (.inr ⟨c,r,e,hc⟩)
 rw[show dv (ls x)=NumText.digitsVal (ls x) from rfl,this,y2b]
 conv=>lhs;rw[<- List.map_id (ls x)]
 refine List.map_congr_left fun a ha=>?_
 have:=hd a ha
 show a=(Char.ofNat a).toNat
 have hv:Nat.isValidChar a:=by
  left
  omega
 rw[Char.ofNat,dif_pos hv]
 rfl
theorem znk {x:Str} (h:dig (ls x)) (hl:x.length<=64):dv (ls (Txt.zfill x 64))=dv (ls x):=by
 unfold Txt.zfill
 split
 ·rfl
 next h1 =>
  have e:zfilled x ((64:Int).toNat - x.length)=Builtin.Str.padded x ((64:Int).toNat - x.length) 0 48:=by
   unfold zfilled
   split
   next h2 =>
    have:=h 43 (by
     have:=Array.mem_of_getElem? h2
     simpa [ls] using this)
    omega
   next h2 =>
    have:=h 45 (by
     have:=Array.mem_of_getElem? h2
     simpa [ls] using this)
    omega
   next=>rfl
  rw[e]
  unfold Builtin.Str.padded
  simp only[ls,Array.toList_append,Array.toList_replicate,List.replicate_zero,y1t]
  rw[zis]
  have:∀k:Nat,dv (y0g k 48)=0:=by
   intro k
   induction k with
   | zero=>rfl
   | succ k ih =>
    rw[y1o,show (48:Nat)::y0g k 48=[48]++y0g k 48 from rfl,zis,ih]
    simp[dv,NumText.digitsVal]
  rw[this]
  simp
def cN64:Ft:=tstB (op2 oGe (nm 1) (op2 z8e (cst (.int 10)) (cst (.int 64))))
noncomputable def bN64:Fs:=(seq (asg 2 (op2 oAdd (op2 zan (opN oStr [(op2 oMod (nm 1) (op2 z8e (cst (.int 10)) (cst (.int 64))))]) (cst (.int 64))) (nm 2)))
  (asg 1 (op2 zlu (nm 1) (op2 z8e (cst (.int 10)) (cst (.int 64))))))
theorem zso:zsd W64=true:=by decide +kernel
theorem zoo:∀(m:Nat) (a:Int) (b:Str) (x:Option Sl),0<=a->a<W64 ^ (m+1)->dig (ls b)->b.length+64*m<=900000 ->
  ∃a' b',whl cN64 bN64 (m+1) [x,some (.imm (.int a)),some (.imm (.str b))]=some (.nx [x,some (.imm (.int a')),some (.imm (.str b'))])/\0<=a'/\a'<W64/\dig (ls b')/\b'.length<=b.length+64*m/\((a'=a/\b'=b)\/1<=a')/\a'.toNat*10 ^ b'.length+dv (ls b')=a.toNat*10 ^ b.length+dv (ls b):=by
 intro m
 induction m with
 | zero =>
  intro a b x h0 h1 hb hl
  have h1':a<W64:=by rw[show 0+1=1 from rfl,Int.pow_succ,Int.pow_zero,Int.one_mul] at h1;exact h1
  refine⟨a,b,?_,h0,h1',hb,by omega,.inl ⟨rfl,rfl⟩,rfl⟩
  have e:cN64 [x,some (.imm (.int a)),some (.imm (.str b))]=some false:=by
   refine z0m ?_
   rw[z09 (t:=.int a) rfl zeh]
   simp only[oGe]
   rw[decide_eq_false (by omega)]
  simp only[whl,e,y0p,y1q,if_false]
 | succ m ih =>
  intro a b x h0 h1 hb hl
  by_cases hw:W64<=a
  ·have e:cN64 [x,some (.imm (.int a)),some (.imm (.str b))]=some true:=by
    refine z0m ?_
    rw[z09 (t:=.int a) rfl zeh]
    simp only[oGe]
    rw[decide_eq_true hw]
   have hp:=zi0
   have r0:0<=a % W64:=y29 _ (by omega)
   have r1:a % W64<W64:=y2a _ hp
   obtain⟨l1,l2⟩:=zcl r0 r1
   obtain⟨z1,z2⟩:=zks (z4k r0) l1
   have hm:op2 oMod (nm 1) (op2 z8e (cst (.int 10)) (cst (.int 64))) [x,some (.imm (.int a)),some (.imm (.str b))]=some (.int (a % W64)):=by
    rw[z09 (t:=.int a) rfl zeh]
    simp only[oMod]
    rw[if_pos hp]
   have hs:opN oStr [(op2 oMod (nm 1) (op2 z8e (cst (.int 10)) (cst (.int 64))))] [x,some (.imm (.int a)),some (.imm (.str b))]=some (.str (strI (a % W64))):=by
    rw[opN1 hm]
    simp only[oStr]
    rw[if_pos (zil r0 r1)]
   have hz:op2 zan (opN oStr [(op2 oMod (nm 1) (op2 z8e (cst (.int 10)) (cst (.int 64))))]) (cst (.int 64)) [x,some (.imm (.int a)),some (.imm (.str b))]=some (.str (Txt.zfill (strI (a % W64)) 64)):=by
    rw[z09 hs rfl]
    simp only[zan]
    rw[if_pos (by decide)]
   have ha:op2 oAdd (op2 zan (opN oStr [(op2 oMod (nm 1) (op2 z8e (cst (.int 10)) (cst (.int 64))))]) (cst (.int 64))) (nm 2) [x,some (.imm (.int a)),some (.imm (.str b))]=some (.str (Txt.zfill (strI (a % W64)) 64++b)):=by
    rw[z09 (u:=.str b) hz rfl]
    simp only[oAdd]
    rw[if_pos (by rw[z2];unfold big;omega)]
   have hb':bN64 [x,some (.imm (.int a)),some (.imm (.str b))]=some (.nx [x,some (.imm (.int (a / W64))),some (.imm (.str (Txt.zfill (strI (a % W64)) 64++b)))]):=by
    unfold bN64 seq asg
    rw[ha]
    simp only[y1n,y0p,y1i,y1g]
    rw[z09 (t:=.int a) rfl zeh]
    simp only[zlu]
    rw[if_pos zso]
    rfl
   have hd:dig (ls (Txt.zfill (strI (a % W64)) 64++b)):=by
    rw[z3h]
    intro c hc
    rcases y10.mp hc with q|q
    ·exact z1 c q
    ·exact hb c q
   have hlen:(Txt.zfill (strI (a % W64)) 64++b).length=64+b.length:=by
    rw[z1g,z3h,y1x,<- z1g,<- z1g,z2]
   have hq:a / W64<W64 ^ (m+1):=Int.ediv_lt_of_lt_mul hp (by rw[<- Int.pow_succ];exact h1)
   obtain⟨a',b',e1,e2,e3,e4,e5,e6,e7⟩:=ih (a / W64) (Txt.zfill (strI (a % W64)) 64++b) x (Int.ediv_nonneg h0 (by omega)) hq hd (by rw[hlen];omega)
   refine⟨a',b',?_,e2,e3,e4,by rw[hlen] at e5;omega,.inr ?_,?_⟩
   rotate_left
   ·have h1a:1<=a / W64:=(Int.le_ediv_iff_mul_le hp).mpr (by omega)
    rcases e6 with ⟨rfl,_⟩|e6
    ·exact h1a
    ·exact e6
   ·rw[e7,hlen,z3h,zis,<- z1g]
    have ez:dv (ls (Txt.zfill (strI (a % W64)) 64))=(a % W64).toNat:=by
     rw[znk (z4k r0) l1,z4b r0,zda]
    rw[ez]
    have hdm:=Int.emod_add_mul_ediv a W64
    have e8:a.toNat=(a % W64).toNat+10 ^ 64*(a / W64).toNat:=by
     have h64:W64=((10 ^ 64:Nat):Int):=by unfold W64;norm_cast
     have hq0:0<=a / W64:=Int.ediv_nonneg h0 (by omega)
     have:(a.toNat:Int)=(((a % W64).toNat+10 ^ 64*(a / W64).toNat:Nat):Int):=by
      rw[Int.toNat_of_nonneg h0,Int.natCast_add,Int.natCast_mul,Int.toNat_of_nonneg r0,Int.toNat_of_nonneg hq0,<- h64]
      exact hdm.symm
     exact_mod_cast this
    rw[e8,Nat.pow_add]
    generalize 10 ^ b.length=q
    generalize (a / W64).toNat=u
    generalize (a % W64).toNat=v
    generalize dv (ls b)=w
    generalize (10:Nat) ^ 64=z
    rw[Nat.add_mul,Nat.mul_comm z u,Nat.mul_assoc]
    omega
   rw[whl]
   simp only[e,y0p,if_true,hb',e1]
  ·have e:cN64 [x,some (.imm (.int a)),some (.imm (.str b))]=some false:=by
    refine z0m ?_
    rw[z09 (t:=.int a) rfl zeh]
    simp only[oGe]
    rw[decide_eq_false (by omega)]
   refine⟨a,b,?_,h0,by omega,hb,by omega,.inl ⟨rfl,rfl⟩,rfl⟩
   rw[whl]
   simp only[e,y0p,y1q,if_false]
theorem zq7 {a:Int} (h0:0<=a) (h:a<W64 ^ 1000):z0c [.int a]=some (.str (strI a)):=by
 unfold z0c runF z8m
 obtain⟨a',b',e1,e2,e3,e4,e5,e7,e8⟩:=zoo 999 a ⟨#[]⟩ (some (.imm (.int a))) h0 h (fun c hc=>by simp[ls] at hc) (by show 0+64*999<=900000;omega)
 obtain⟨l1,l2⟩:=zcl e2 e3
 have e5':b'.length<=63936:=by
  have:(⟨#[]⟩:Str).length=0:=rfl
  omega
 have ex:strI a'++b'=strI a:=by
  rcases e7 with ⟨ea,eb⟩|hp
  ·subst ea eb
   exact zf4 (by rw[z3h];exact y1t _)
  ·have e9:a.toNat=a'.toNat*10 ^ b'.length+dv (ls b'):=by
    rw[e8]
    show _=a.toNat*10 ^ 0+0
    omega
   rw[z4b h0]
   refine zw9 ?_ ?_ ?_
   ·rw[z3h]
    intro c hc
    rcases y10.mp hc with q|q
    ·exact z4k e2 c q
    ·exact e4 c q
   ·rw[z3h,zis,z4b e2,zda,<- z1g]
    exact e9.symm
   ·obtain⟨c,r,e,hc⟩:=zl1 (m:=a'.toNat) (by omega)
    rw[z3h,z4b e2,e]
    exact⟨c,_,rfl,hc⟩
 have e6:op2 oAdd (opN oStr [(nm 1)]) (nm 2) [some (.imm (.int a)),some (.imm (.int a')),some (.imm (.str b'))]=some (.str (strI a)):=by
  rw[z09 (t:=.str (strI a')) (u:=.str b') (by rw[opN1 (t:=.int a') rfl];simp only[oStr];rw[if_pos (zil e2 e3)]) rfl]
  simp only[oAdd]
  rw[if_pos (by unfold big;omega),ex]
 show ((asg 1 (nmV 0) [some (.imm (.int a)),none,none]).bind _).bind _=_
 rw[show asg 1 (nmV 0) [some (.imm (.int a)),none,none]=some (.nx [some (.imm (.int a)),some (.imm (.int a)),none]) from rfl]
 simp only[y0p]
 show (seq (asg 2 (cst (.str ""))) (seq (whl cN64 bN64 1000) (rtn (op2 oAdd (opN oStr [(nm 1)]) (nm 2)))) [some (.imm (.int a)),some (.imm (.int a)),none]).bind _=_
 rw[show seq (asg 2 (cst (.str ""))) (seq (whl cN64 bN64 1000) (rtn (op2 oAdd (opN oStr [(nm 1)]) (nm 2)))) [some (.imm (.int a)),some (.imm (.int a)),none]=seq (whl cN64 bN64 1000) (rtn (op2 oAdd (opN oStr [(nm 1)]) (nm 2))) [some (.imm (.int a)),some (.imm (.int a)),some (.imm (.str ⟨#[]⟩))] from rfl]
 rw[show seq (whl cN64 bN64 1000) (rtn (op2 oAdd (opN oStr [(nm 1)]) (nm 2))) [some (.imm (.int a)),some (.imm (.int a)),some (.imm (.str ⟨#[]⟩))]=rtn (op2 oAdd (opN oStr [(nm 1)]) (nm 2)) [some (.imm (.int a)),some (.imm (.int a')),some (.imm (.str b'))] by simp only[seq,e1,y0p]]
 simp only[rtn,e6]
 rfl
end Fo
end
section
namespace Ho
open D
noncomputable def z97:Fs :=
  (rtn (opN z0t [(opN z7q [(comp 1 [] (z3n (op2 oIx (nm 0) (cst (.int 1)))) (gNm 0) (tstB (op1 z5i (op2 oIx (nm 0) (cst (.int 2))))) (op2 oIx (nm 0) (cst (.int 2))))])]))
def zce:List T->Option T:=runF z97 1
def z38:Fs :=
  (seq (iff (tstB (op2 oLt (nm 1) (opN oLen [(nm 0)]))) (rtn (op2 oIx (nm 0) (nm 1))) skip)
  (rtn (cst (.int 0))))
def z0z:List T->Option T:=runF z38 2
noncomputable def z5e:Fs :=
  (seq (asg 2 (op2 oMod (op2 oMul (op2 oAdd (op2 oAdd (opN z0z [(nmV 0),(nmV 1)]) (op2 oMul (cst (.int 7919)) (nm 1))) (cst (.int 1))) (cst (.int 48271))) (cst (.int 2147483647))))
  (rtn (op2 oMod (op2 oAdd (op2 oAdd (op2 oMul (nm 2) (nm 2)) (op2 oMul (cst (.int 7)) (nm 2))) (nm 1)) (cst (.int 2147483629)))))
def z1s:List T->Option T:=runF z5e 3
noncomputable def z5f:Fs :=
  (seq (asg 2 (op2 oMod (op2 oMul (op2 oAdd (op2 oAdd (nm 0) (op2 oMul (cst (.int 104729)) (nm 1))) (cst (.int 17))) (cst (.int 69621))) (cst (.int 2147483647))))
  (rtn (op2 oMod (op2 oAdd (op2 oAdd (op2 oMul (nm 2) (nm 2)) (op2 oMul (cst (.int 3)) (nm 2))) (nm 1)) (cst (.int 2147483629)))))
def z0l:List T->Option T:=runF z5f 3
noncomputable def z71:Fs :=
  (seq (asg 1 (op2 oAdd (cst (.int 1)) (op2 oMod (nm 0) (cst (.int 7)))))
  (seq (asg 2 (z06 []))
  (seq (for_ (z3p (op2 oMod (op2 oDiv (nm 0) (cst (.int 8))) (cst (.int 11)))) (gNm 3)
  (seq (asg 4 (op2 oDiv (opN z0l [(nmV 0),(op2 oAdd (cst (.int 50)) (nm 3))]) (cst (.int 4))))
  (seq (asg 5 (op2 oMod (nm 4) (op2 oAdd (nm 1) (cst (.int 1)))))
  (seq (asg 6 (op2 oMod (op2 oAdd (op2 oAdd (nm 5) (cst (.int 1))) (op2 oMod (op2 oDiv (nm 4) (cst (.int 8))) (nm 1))) (op2 oAdd (nm 1) (cst (.int 1)))))
  (seq (asg 7 (op2 oIx (z06 [(cst .none),(cst .none),(cst (.str "a")),(cst (.str "b")),(cst (.str "back")),(cst (.str "hall")),(cst (.str "win"))]) (op2 oMod (op2 oDiv (nm 4) (cst (.int 64))) (cst (.int 7)))))
  (asg 2 (op2 oAdd (nm 2) (z06 [(z06 [(opN oMin [(nm 5),(nm 6)]),(opN oMax [(nm 5),(nm 6)]),(nmV 7)])]))))))))
  (rtn (z06 [(nmV 1),(nmV 2)])))))
def d_l_house:List T->Option T:=runF z71 8
end Ho
end
section
namespace Hg
def adj (e:Int×Int) (x:Int):Option Int:=if e.1=x then some e.2 else if e.2=x then some e.1 else none
def Within (R:Int) (E:List (Int×Int)):Prop:=∀e∈E,0<=e.1/\e.1<=R/\0<=e.2/\e.2<=R
noncomputable def inner (h:Int):List (Int×Int)->List Int->List Int->List Int×List Int
 | [],r,w=>(r,w)
 | e::es,r,w=>match adj e h with
  | some t=>if t∈r then inner h es r w else inner h es (r++[t]) (w++[t])
  | none=>inner h es r w
end Hg
end
section
namespace Ho
open PySem D
abbrev Op:=Int×Int×Option Str
def zT:Option Str->T
 | none=>.none
 | some x=>.str x
def opT (o:Op):T:=.tuple [.int o.1,.int o.2.1,zT o.2.2]
def houseT (R:Int) (os:List Op):T:=.tuple [.int R,.tuple (os.map opT)]
def free (ns:List Str) (o:Op):Bool:=match o.2.2 with
 | none=>true
 | some x=>decide (x∈ns)
def oT:Option Int->T
 | some t=>.int t
 | none=>.none
theorem oEq_int (a b:Int):oEq (.int a) (.int b)=some (.bool (decide (a=b))):=by
 simp[oEq,zgs,y1v,Bool.beq_eq_decide_eq]
theorem seq_nx {a b:Fs} {ε ε':Ev} (h:a ε=some (.nx ε')):seq a b ε=b ε':=by
 simp only[seq,h,y0p]
theorem z90:∀(os:List Op) (j:Option Sl),z36 (gNm 0) (tstB (op1 z5i (op2 oIx (nm 0) (cst (.int 2))))) (op2 oIx (nm 0) (cst (.int 2))) (os.map opT) [j]=some ((os.filterMap (·.2.2)).map .str)
  | [],j=>rfl
  | (a,b,none)::os,j=>by
    have ih:=z90 os (some (.imm (opT (a,b,none))))
    simp[z36,runF,seq,iff,tstB,tstL,andT,orT,notT,cstT,ofT,op1,op2,opN,args,cst,nm,nmV,rtn,skip,asg,asgN,asgT,par,z06,z3g,oIsN,z5i,oIx,atZ,ixOf,gNm,gTu,gAll,z3n,comp,z2t,opT,zT] at ih ⊢
    exact ih
  | (a,b,some x)::os,j=>by
    have ih:=z90 os (some (.imm (opT (a,b,some x))))
    simp[z36,runF,seq,iff,tstB,tstL,andT,orT,notT,cstT,ofT,op1,op2,opN,args,cst,nm,nmV,rtn,skip,asg,asgN,asgT,par,z06,z3g,oIsN,z5i,oIx,atZ,ixOf,gNm,gTu,gAll,z3n,comp,z2t,opT,zT] at ih ⊢
    exact ih
def zkq (os:List Op):List Str:=znv (dedup (os.filterMap (·.2.2)))
theorem zhf:∀(ss:List Str),ss≠[]->intsOf (ss.map .str)=none
 | [],h=>absurd rfl h
 | x::r,_=>rfl
theorem za9:∀(ss:List Str),strsOf (ss.map .str)=some ss
 | []=>rfl
 | x::r=>by
  simp only[y0d,strsOf,za9 r]
  rfl
theorem zi2 {R:Int} {os:List Op} (hl:os.length<=10):zce [houseT R os]=some (.tuple ((zkq os).map .str)):=by
 have hit:z3n (op2 oIx (nm 0) (cst (.int 1))) [some (.imm (houseT R os))]=some (os.map opT):=by
  simp[z3n,op2,nm,houseT,oIx,cst,atZ,ixOf]
 have hcap:z2t 1 [] [some (.imm (houseT R os))]=[none]:=rfl
 have hc:comp 1 [] (z3n (op2 oIx (nm 0) (cst (.int 1)))) (gNm 0) (tstB (op1 z5i (op2 oIx (nm 0) (cst (.int 2))))) (op2 oIx (nm 0) (cst (.int 2))) [some (.imm (houseT R os))]=some (.list ((os.filterMap (·.2.2)).map .str)):=by
  simp only[comp,hit,y0p,hcap,z90,y13]
  rw[if_pos (by unfold big;omega)]
  rfl
 have hz:(os.filterMap (·.2.2)).length<64:=Nat.lt_of_le_of_lt (List.length_filterMap_le _ _) (by omega)
 have hs:z7q [.list ((os.filterMap (·.2.2)).map .str)]=some (.list ((zkq os).map .str)):=by
  unfold z7q
  simp only[y13]
  rw[if_pos hz]
  by_cases he:os.filterMap (·.2.2)=[]
  ·simp only[zkq,he]
   rfl
  ·rw[zhf _ he,za9]
   rfl
 have e0:zce [houseT R os]=(z97 [some (.imm (houseT R os))]).bind fun o=>match o with|.rt t=>some t|.nx _=>some .none|_=>none:=rfl
 rw[e0]
 simp only[z97,rtn,opN,args,hc,y0p,y1n,hs,z0t]
end Ho
end
section
namespace Ho
open PySem D
end Ho
end
section
namespace Ho
open PySem D
def z0e (ns:List Int):T:=.list (ns.map .int)
theorem zho (ns:List Int) (k:Nat):z0z [z0e ns,.int k]=some (.int (ns.getD k 0)):=by
 by_cases h:k<ns.length
 ·have h':(k:Int)<(ns.length:Int):=by omega
  simp[z0z,z38,z0e,runF,seq,iff,tstB,tstL,andT,orT,notT,cstT,ofT,op1,op2,opN,args,cst,nm,nmV,rtn,skip,asg,asgN,asgT,par,z06,z3g,oIsN,z5i,oIx,atZ,ixOf,gNm,gTu,gAll,z3n,comp,z2t,oAdd,oSub,oMul,oDiv,oMod,oNeg,oLen,oMin,oMax,z0t,zok,oInt,oLt,oLe,oGt,oGe,big,h,h',List.getD]
 ·have h':¬(k:Int)<(ns.length:Int):=by omega
  simp[z0z,z38,z0e,runF,seq,iff,tstB,tstL,andT,orT,notT,cstT,ofT,op1,op2,opN,args,cst,nm,nmV,rtn,skip,asg,asgN,asgT,par,z06,z3g,oIsN,z5i,oIx,atZ,ixOf,gNm,gTu,gAll,z3n,comp,z2t,oAdd,oSub,oMul,oDiv,oMod,oNeg,oLen,oMin,oMax,z0t,zok,oInt,oLt,oLe,oGt,oGe,big,h,h',List.getD]
theorem mul_ok {i j:Int} (h:-(2 ^ 64)<j/\j<2 ^ 64):oMul (.int i) (.int j)=some (.int (i*j)):=by
 unfold oMul zjx
 simp only[decide_eq_true h.1,decide_eq_true h.2,Bool.and_self,Bool.or_true,if_true]
theorem z4a {i j:Int} (h:0<j):oMod (.int i) (.int j)=some (.int (i % j)):=if_pos h
theorem zcd {i j:Int} (h:0<j/\j<1073741824):oDiv (.int i) (.int j)=some (.int (i / j)):=if_pos h
theorem z2w {i j:Int}:oAdd (.int i) (.int j)=some (.int (i+j)):=rfl
theorem mixed_eq (ns:List Int) (k:Nat):∃m:Int,0<=m/\z1s [z0e ns,.int k]=some (.int m):=by
 have hc:=zho ns k
 have hd:0<=(ns.getD k 0+7919*(k:Int)+1)*48271 % 2147483647/\(ns.getD k 0+7919*(k:Int)+1)*48271 % 2147483647<2147483647:=⟨y29 _ (by decide),y2a _ (by decide)⟩
 generalize hx:(ns.getD k 0+7919*(k:Int)+1)*48271 % 2147483647=d at hd
 refine⟨(d*d+7*d+k) % 2147483629,y29 _ (by decide),?_⟩
 have e0:z1s [z0e ns,.int k]=(z5e [some (.imm (z0e ns)),some (.imm (.int k)),none]).bind fun o=>match o with|.rt t=>some t|.nx _=>some .none|_=>none:=rfl
 have m1:oMul (.int 7919) (.int k)=some (.int (7919*k)):=by
  unfold oMul zjx
  simp
 have n0:nmV 0 [some (.imm (z0e ns)),some (.imm (.int k)),none]=some (z0e ns):=rfl
 have n1:nmV 1 [some (.imm (z0e ns)),some (.imm (.int k)),none]=some (.int k):=rfl
 have n1':nm 1 [some (.imm (z0e ns)),some (.imm (.int k)),none]=some (.int k):=rfl
 have s1:asg 2 (op2 oMod (op2 oMul (op2 oAdd (op2 oAdd (opN z0z [(nmV 0),(nmV 1)]) (op2 oMul (cst (.int 7919)) (nm 1))) (cst (.int 1))) (cst (.int 48271))) (cst (.int 2147483647))) [some (.imm (z0e ns)),some (.imm (.int k)),none]=some (.nx [some (.imm (z0e ns)),some (.imm (.int k)),some (.imm (.int d))]):=by
  simp only[asg,op2,opN,args,n0,n1,n1',y0p,y1n,hc,cst,m1,z2w,mul_ok (i:=ns.getD k 0+7919*(k:Int)+1) (j:=48271) (by decide),z4a (j:=2147483647) (by decide),hx]
  rfl
 have m2:oMul (.int d) (.int d)=some (.int (d*d)):=mul_ok (by omega)
 have m3:oMul (.int 7) (.int d)=some (.int (7*d)):=mul_ok (by omega)
 rw[e0]
 unfold z5e
 rw[seq_nx s1]
 have q2:nm 2 [some (.imm (z0e ns)),some (.imm (.int k)),some (.imm (.int d))]=some (.int d):=rfl
 have q1:nm 1 [some (.imm (z0e ns)),some (.imm (.int k)),some (.imm (.int d))]=some (.int k):=rfl
 simp only[rtn,op2,q2,q1,y0p,y1n,cst,m2,m3,z2w,z4a (j:=2147483629) (by decide)]
theorem z7c (n k:Int) (hk:-(2 ^ 64)<k/\k<2 ^ 64):∃m:Int,0<=m/\z0l [.int n,.int k]=some (.int m):=by
 have hd:0<=(n+104729*k+17)*69621 % 2147483647/\(n+104729*k+17)*69621 % 2147483647<2147483647:=⟨y29 _ (by decide),y2a _ (by decide)⟩
 generalize hx:(n+104729*k+17)*69621 % 2147483647=d at hd
 refine⟨(d*d+3*d+k) % 2147483629,y29 _ (by decide),?_⟩
 have e0:z0l [.int n,.int k]=(z5f [some (.imm (.int n)),some (.imm (.int k)),none]).bind fun o=>match o with|.rt t=>some t|.nx _=>some .none|_=>none:=rfl
 have m1:oMul (.int 104729) (.int k)=some (.int (104729*k)):=mul_ok hk
 have n0:nm 0 [some (.imm (.int n)),some (.imm (.int k)),none]=some (.int n):=rfl
 have n1:nm 1 [some (.imm (.int n)),some (.imm (.int k)),none]=some (.int k):=rfl
 have s1:asg 2 (op2 oMod (op2 oMul (op2 oAdd (op2 oAdd (nm 0) (op2 oMul (cst (.int 104729)) (nm 1))) (cst (.int 17))) (cst (.int 69621))) (cst (.int 2147483647))) [some (.imm (.int n)),some (.imm (.int k)),none]=some (.nx [some (.imm (.int n)),some (.imm (.int k)),some (.imm (.int d))]):=by
  simp only[asg,op2,n0,n1,y0p,y1n,cst,m1,z2w,mul_ok (i:=n+104729*k+17) (j:=69621) (by decide),z4a (j:=2147483647) (by decide),hx]
  rfl
 have m2:oMul (.int d) (.int d)=some (.int (d*d)):=mul_ok (by omega)
 have m3:oMul (.int 3) (.int d)=some (.int (3*d)):=mul_ok (by omega)
 rw[e0]
 unfold z5f
 rw[seq_nx s1]
 have q2:nm 2 [some (.imm (.int n)),some (.imm (.int k)),some (.imm (.int d))]=some (.int d):=rfl
 have q1:nm 1 [some (.imm (.int n)),some (.imm (.int k)),some (.imm (.int d))]=some (.int k):=rfl
 simp only[rtn,op2,q2,q1,y0p,y1n,cst,m2,m3,z2w,z4a (j:=2147483629) (by decide)]
def names5:List Str:=["a","b","back","hall","win"]
def OpOk (R:Int) (o:Op):Prop:=0<=o.1/\o.1<o.2.1/\o.2.1<=R/\∀x,o.2.2=some x->x∈names5
structure Drawn (R:Int) (os:List Op):Prop where
 r1:1<=R
 r7:R<=7
 len:os.length<=10
 ok:∀o∈os,OpOk R o
noncomputable def bH:Fs:=(seq (asg 4 (op2 oDiv (opN z0l [(nmV 0),(op2 oAdd (cst (.int 50)) (nm 3))]) (cst (.int 4))))
  (seq (asg 5 (op2 oMod (nm 4) (op2 oAdd (nm 1) (cst (.int 1)))))
  (seq (asg 6 (op2 oMod (op2 oAdd (op2 oAdd (nm 5) (cst (.int 1))) (op2 oMod (op2 oDiv (nm 4) (cst (.int 8))) (nm 1))) (op2 oAdd (nm 1) (cst (.int 1)))))
  (seq (asg 7 (op2 oIx (z06 [(cst .none),(cst .none),(cst (.str "a")),(cst (.str "b")),(cst (.str "back")),(cst (.str "hall")),(cst (.str "win"))]) (op2 oMod (op2 oDiv (nm 4) (cst (.int 64))) (cst (.int 7)))))
  (asg 2 (op2 oAdd (nm 2) (z06 [(z06 [(opN oMin [(nm 5),(nm 6)]),(opN oMax [(nm 5),(nm 6)]),(nmV 7)])])))))))
def envH (n R:Int) (os:List Op) (j3 j4 j5 j6 j7:Option Sl):Ev:=[some (.imm (.int n)),some (.imm (.int R)),some (.imm (.tuple (os.map opT))),j3,j4,j5,j6,j7]
theorem zqo (i:Int) (h0:0<=i) (h7:i<7) (ε:Ev):∃z:Option Str,(z06 [(cst .none),(cst .none),(cst (.str "a")),(cst (.str "b")),(cst (.str "back")),(cst (.str "hall")),(cst (.str "win"))] ε).bind (fun t=>oIx t (.int i))=some (zT z)/\∀x,z=some x->x∈names5:=by
 have hc:i=0\/i=1\/i=2\/i=3\/i=4\/i=5\/i=6:=by omega
 have e:z06 [(cst .none),(cst .none),(cst (.str "a")),(cst (.str "b")),(cst (.str "back")),(cst (.str "hall")),(cst (.str "win"))] ε=some (.tuple [.none,.none,.str "a",.str "b",.str "back",.str "hall",.str "win"]):=by
  simp[z06,args,cst,big]
 rw[e]
 rcases hc with rfl|rfl|rfl|rfl|rfl|rfl|rfl
 ·exact⟨none,rfl,fun x h=>by cases h⟩
 ·exact⟨none,rfl,fun x h=>by cases h⟩
 ·exact⟨some "a",rfl,fun x h=>by cases h;simp[names5]⟩
 ·exact⟨some "b",rfl,fun x h=>by cases h;simp[names5]⟩
 ·exact⟨some "back",rfl,fun x h=>by cases h;simp[names5]⟩
 ·exact⟨some "hall",rfl,fun x h=>by cases h;simp[names5]⟩
 ·exact⟨some "win",rfl,fun x h=>by cases h;simp[names5]⟩
theorem zk2 (n R:Int) (h1:1<=R) (h7:R<=7) (os:List Op) (hl:os.length<1000) (k:Int) (hk:0<=k/\k<1000) (j4 j5 j6 j7:Option Sl) :
  ∃o j4' j5' j6' j7',OpOk R o/\bH (envH n R os (some (.imm (.int k))) j4 j5 j6 j7)=some (.nx (envH n R (os++[o]) (some (.imm (.int k))) j4' j5' j6' j7')):=by
 obtain⟨m,hm,hd⟩:=z7c n (50+k) (by omega)
 have q0:0<=m / 4:=Int.ediv_nonneg hm (by decide)
 generalize hq:m / 4=q at q0
 have s1:asg 4 (op2 oDiv (opN z0l [(nmV 0),(op2 oAdd (cst (.int 50)) (nm 3))]) (cst (.int 4))) (envH n R os (some (.imm (.int k))) j4 j5 j6 j7)=some (.nx (envH n R os (some (.imm (.int k))) (some (.imm (.int q))) j5 j6 j7)):=by
  have n0:nmV 0 (envH n R os (some (.imm (.int k))) j4 j5 j6 j7)=some (.int n):=rfl
  have n3:nm 3 (envH n R os (some (.imm (.int k))) j4 j5 j6 j7)=some (.int k):=rfl
  simp only[asg,op2,opN,args,n0,n3,cst,z2w,y0p,y1n,hd,zcd (j:=4) (by decide),hq]
  rfl
 have hone:0<=q % (R+1)/\q % (R+1)<R+1:=⟨y29 _ (by omega),y2a _ (by omega)⟩
 have hother:0<=q / 8 % R/\q / 8 % R<R:=⟨y29 _ (by omega),y2a _ (by omega)⟩
 have hneq:(q % (R+1)+1+q / 8 % R) % (R+1)≠q % (R+1):=by
  generalize q % (R+1)=a at *
  generalize q / 8 % R=b at *
  intro e
  by_cases c:a+1+b<R+1
  ·rw[Int.emod_eq_of_lt (by omega) c] at e
   omega
  ·have:(a+1+b) % (R+1)=a+1+b - (R+1):=by
    rw[<- Int.sub_emod_right,Int.emod_eq_of_lt (by omega) (by omega)]
   omega
 have hoth:0<=(q % (R+1)+1+q / 8 % R) % (R+1)/\(q % (R+1)+1+q / 8 % R) % (R+1)<R+1:=⟨y29 _ (by omega),y2a _ (by omega)⟩
 have s2:asg 5 (op2 oMod (nm 4) (op2 oAdd (nm 1) (cst (.int 1)))) (envH n R os (some (.imm (.int k))) (some (.imm (.int q))) j5 j6 j7)=some (.nx (envH n R os (some (.imm (.int k))) (some (.imm (.int q))) (some (.imm (.int (q % (R+1))))) j6 j7)):=by
  have n4:nm 4 (envH n R os (some (.imm (.int k))) (some (.imm (.int q))) j5 j6 j7)=some (.int q):=rfl
  have n1:nm 1 (envH n R os (some (.imm (.int k))) (some (.imm (.int q))) j5 j6 j7)=some (.int R):=rfl
  simp only[asg,op2,n4,n1,cst,z2w,y0p,y1n,z4a (j:=R+1) (by omega)]
  rfl
 generalize q % (R+1)=one at *
 have s3:asg 6 (op2 oMod (op2 oAdd (op2 oAdd (nm 5) (cst (.int 1))) (op2 oMod (op2 oDiv (nm 4) (cst (.int 8))) (nm 1))) (op2 oAdd (nm 1) (cst (.int 1)))) (envH n R os (some (.imm (.int k))) (some (.imm (.int q))) (some (.imm (.int one))) j6 j7)=some (.nx (envH n R os (some (.imm (.int k))) (some (.imm (.int q))) (some (.imm (.int one))) (some (.imm (.int ((one+1+q / 8 % R) % (R+1))))) j7)):=by
  have n5:nm 5 (envH n R os (some (.imm (.int k))) (some (.imm (.int q))) (some (.imm (.int one))) j6 j7)=some (.int one):=rfl
  have n4:nm 4 (envH n R os (some (.imm (.int k))) (some (.imm (.int q))) (some (.imm (.int one))) j6 j7)=some (.int q):=rfl
  have n1:nm 1 (envH n R os (some (.imm (.int k))) (some (.imm (.int q))) (some (.imm (.int one))) j6 j7)=some (.int R):=rfl
  simp only[asg,op2,n5,n4,n1,cst,z2w,y0p,y1n,zcd (j:=8) (by decide),z4a (j:=R) (by omega),z4a (j:=R+1) (by omega)]
  rfl
 generalize (one+1+q / 8 % R) % (R+1)=oth at *
 obtain⟨z,hz,hzn⟩:=zqo (q / 64 % 7) (y29 _ (by decide)) (y2a _ (by decide)) (envH n R os (some (.imm (.int k))) (some (.imm (.int q))) (some (.imm (.int one))) (some (.imm (.int oth))) j7)
 have s4:asg 7 (op2 oIx (z06 [(cst .none),(cst .none),(cst (.str "a")),(cst (.str "b")),(cst (.str "back")),(cst (.str "hall")),(cst (.str "win"))]) (op2 oMod (op2 oDiv (nm 4) (cst (.int 64))) (cst (.int 7)))) (envH n R os (some (.imm (.int k))) (some (.imm (.int q))) (some (.imm (.int one))) (some (.imm (.int oth))) j7)=some (.nx (envH n R os (some (.imm (.int k))) (some (.imm (.int q))) (some (.imm (.int one))) (some (.imm (.int oth))) (some (.imm (zT z))))):=by
  have n4:nm 4 (envH n R os (some (.imm (.int k))) (some (.imm (.int q))) (some (.imm (.int one))) (some (.imm (.int oth))) j7)=some (.int q):=rfl
  have hi:op2 oMod (op2 oDiv (nm 4) (cst (.int 64))) (cst (.int 7)) (envH n R os (some (.imm (.int k))) (some (.imm (.int q))) (some (.imm (.int one))) (some (.imm (.int oth))) j7)=some (.int (q / 64 % 7)):=by
   simp only[op2,n4,cst,y0p,zcd (j:=64) (by decide),z4a (j:=7) (by decide)]
  have hh:op2 oIx (z06 [(cst .none),(cst .none),(cst (.str "a")),(cst (.str "b")),(cst (.str "back")),(cst (.str "hall")),(cst (.str "win"))]) (op2 oMod (op2 oDiv (nm 4) (cst (.int 64))) (cst (.int 7))) (envH n R os (some (.imm (.int k))) (some (.imm (.int q))) (some (.imm (.int one))) (some (.imm (.int oth))) j7)=some (zT z):=by
   rw[<- hz]
   unfold op2 at hi ⊢
   simp only[hi,y0p]
  simp only[asg,hh,y1n]
  rfl
 refine⟨((if oth<one then oth else one),(if oth > one then oth else one),z),some (.imm (.int q)),some (.imm (.int one)),some (.imm (.int oth)),some (.imm (zT z)),⟨?_,?_,?_,hzn⟩,?_⟩
 ·dsimp only
  split <;> omega
 ·dsimp only
  split <;> split <;> omega
 ·dsimp only
  split <;> omega
 ·have s5:asg 2 (op2 oAdd (nm 2) (z06 [(z06 [(opN oMin [(nm 5),(nm 6)]),(opN oMax [(nm 5),(nm 6)]),(nmV 7)])])) (envH n R os (some (.imm (.int k))) (some (.imm (.int q))) (some (.imm (.int one))) (some (.imm (.int oth))) (some (.imm (zT z))))=some (.nx (envH n R (os++[((if oth<one then oth else one),(if oth > one then oth else one),z)]) (some (.imm (.int k))) (some (.imm (.int q))) (some (.imm (.int one))) (some (.imm (.int oth))) (some (.imm (zT z))))):=by
   have n5:nm 5 (envH n R os (some (.imm (.int k))) (some (.imm (.int q))) (some (.imm (.int one))) (some (.imm (.int oth))) (some (.imm (zT z))))=some (.int one):=rfl
   have n6:nm 6 (envH n R os (some (.imm (.int k))) (some (.imm (.int q))) (some (.imm (.int one))) (some (.imm (.int oth))) (some (.imm (zT z))))=some (.int oth):=rfl
   have n7:nmV 7 (envH n R os (some (.imm (.int k))) (some (.imm (.int q))) (some (.imm (.int one))) (some (.imm (.int oth))) (some (.imm (zT z))))=some (zT z):=rfl
   have n2:nm 2 (envH n R os (some (.imm (.int k))) (some (.imm (.int q))) (some (.imm (.int one))) (some (.imm (.int oth))) (some (.imm (zT z))))=some (.tuple (os.map opT)):=rfl
   have hb:(os.map opT).length+1<=16777216:=by simp;omega
   simp only[asg,op2,opN,z06,args,n5,n6,n7,n2,y0p,y1n,oMin,oMax,oAdd,y0v,List.length_nil,big]
   simp[hb,envH,opT]
   omega
  unfold bH
  rw[seq_nx s1,seq_nx s2,seq_nx s3,seq_nx s4,s5]
theorem zc9 (n R:Int) (h1:1<=R) (h7:R<=7):∀(ks:List Int) (os:List Op) (j3 j4 j5 j6 j7:Option Sl),(∀k∈ks,0<=k/\k<1000)->os.length+ks.length<1000->(∀o∈os,OpOk R o) ->
  ∃os' j3' j4' j5' j6' j7',os'.length=os.length+ks.length/\(∀o∈os',OpOk R o)/\forL (gNm 3) bH (ks.map .int) (envH n R os j3 j4 j5 j6 j7)=some (.nx (envH n R os' j3' j4' j5' j6' j7'))
 | [],os,j3,j4,j5,j6,j7,_,_,ho=>⟨os,j3,j4,j5,j6,j7,rfl,ho,rfl⟩
 | k::ks,os,j3,j4,j5,j6,j7,hk,hl,ho=>by
  simp only[y0v] at hl
  obtain⟨o,a4,a5,a6,a7,oo,hs⟩:=zk2 n R h1 h7 os (by omega) k (hk k (by simp)) j4 j5 j6 j7
  obtain⟨os',b3,b4,b5,b6,b7,e1,e2,e3⟩:=zc9 n R h1 h7 ks (os++[o]) (some (.imm (.int k))) a4 a5 a6 a7 (fun k' h=>hk k' (by simp[h])) (by simp;omega) fun o' h=>by
   rcases y10.mp h with q|q
   ·exact ho o' q
   ·simp at q
    subst q
    exact oo
  refine⟨os',b3,b4,b5,b6,b7,by rw[e1];simp;omega,e2,?_⟩
  have e0:gNm 3 (.int k) (envH n R os j3 j4 j5 j6 j7)=some (envH n R os (some (.imm (.int k))) j4 j5 j6 j7):=rfl
  simp only[y0d,forL,e0,y0p,hs,e3]
theorem house_eq (n:Int) (hn:0<=n):∃R os,Drawn R os/\d_l_house [.int n]=some (houseT R os):=by
 have hR:0<=n % 7/\n % 7<7:=⟨y29 _ (by decide),y2a _ (by decide)⟩
 have hN:0<=n / 8 % 11/\n / 8 % 11<11:=⟨y29 _ (by decide),y2a _ (by decide)⟩
 have s1:asg 1 (op2 oAdd (cst (.int 1)) (op2 oMod (nm 0) (cst (.int 7)))) [some (.imm (.int n)),none,none,none,none,none,none,none]=some (.nx [some (.imm (.int n)),some (.imm (.int (1+n % 7))),none,none,none,none,none,none]):=by
  have n0:nm 0 [some (.imm (.int n)),none,none,none,none,none,none,none]=some (.int n):=rfl
  simp only[asg,op2,n0,cst,y0p,y1n,z4a (j:=7) (by decide),z2w]
  rfl
 have s2:asg 2 (z06 []) [some (.imm (.int n)),some (.imm (.int (1+n % 7))),none,none,none,none,none,none]=some (.nx (envH n (1+n % 7) [] none none none none none)):=by
  simp[asg,z06,args,big,envH]
 have hit:z3p (op2 oMod (op2 oDiv (nm 0) (cst (.int 8))) (cst (.int 11))) (envH n (1+n % 7) [] none none none none none)=some (((List.range (n / 8 % 11).toNat).map fun (k:Nat)=>(k:Int)).map .int):=by
  have n0:nm 0 (envH n (1+n % 7) [] none none none none none)=some (.int n):=rfl
  have hs:z6h (n / 8 % 11)=true:=by
   unfold z6h
   simp
   omega
  simp only[z3p,op2,n0,cst,y0p,zcd (j:=8) (by decide),z4a (j:=11) (by decide),hs,if_true,rng,Int.sub_zero,Int.zero_add,y2b,Function.comp_def]
 obtain⟨os,b3,b4,b5,b6,b7,e1,e2,e3⟩:=zc9 n (1+n % 7) (by omega) (by omega) ((List.range (n / 8 % 11).toNat).map fun (k:Nat)=>(k:Int)) [] none none none none none (fun k hk=>by
  obtain⟨j,hj,rfl⟩:=y0m.mp hk
  have:=List.mem_range.mp hj
  omega) (by simp;omega) (by simp)
 simp only[List.length_nil,y13,List.length_range] at e1
 refine⟨1+n % 7,os,⟨by omega,by omega,by omega,e2⟩,?_⟩
 have s3:for_ (z3p (op2 oMod (op2 oDiv (nm 0) (cst (.int 8))) (cst (.int 11)))) (gNm 3) bH (envH n (1+n % 7) [] none none none none none)=some (.nx (envH n (1+n % 7) os b3 b4 b5 b6 b7)):=by
  simp only[for_,hit,y0p]
  exact e3
 have s4:seq (for_ (z3p (op2 oMod (op2 oDiv (nm 0) (cst (.int 8))) (cst (.int 11)))) (gNm 3) bH) (rtn (z06 [(nmV 1),(nmV 2)])) (envH n (1+n % 7) [] none none none none none)=some (.rt (houseT (1+n % 7) os)):=by
  rw[seq_nx s3]
  simp[rtn,z06,args,nmV,envH,big,houseT]
 have e0:d_l_house [.int n]=(z71 [some (.imm (.int n)),none,none,none,none,none,none,none]).bind fun o=>match o with|.rt t=>some t|.nx _=>some .none|_=>none:=rfl
 rw[e0]
 unfold z71
 rw[seq_nx s1,seq_nx s2]
 exact congrArg (fun x:Option Out=>x.bind fun o=>match o with|.rt t=>some t|.nx _=>some .none|_=>none) s4
end Ho
end
section
namespace Fo
open D Co PySem
def rowL (ps:List Str):List Nat:=jn 32 (ps.map ls)++[10]
def txL (rs:List (List Str)):List Nat:=(rs.map rowL).flatten
def tx (rs:List (List Str)):Str:=st (txL rs)
def partsOf (t:T):List Str:=match t with
 | .tuple ts=>ts.map txS
 | .list ts=>ts.map txS
 | _=>[]
def zhe (t:T):Prop:=t=.tuple ((partsOf t).map .str)\/t=.list ((partsOf t).map .str)
theorem z9v:∀ss:List Str,strsOf (ss.map .str)=some ss
 | []=>rfl
 | s::ss=>by simp[strsOf,z9v ss]
theorem zqa (c:Nat):∀ps:List (List Nat),(ps.map List.length).sum+ps.length<=(jn c ps).length+1
 | []=>by simp[jn]
 | [p]=>by simp[jn]
 | p::q::r=>by
  have:=zqa c (q::r)
  simp only[jn,y1x,y0v,y0d,List.sum_cons] at this ⊢
  omega
theorem zo0 {ps:List Str} (h:(rowL ps).length<=big):JoinOk ⟨#[32]⟩ ps=true:=by
 unfold JoinOk
 rw[StrLaws.joinTotal]
 have h1:=zqa 32 (ps.map ls)
 have h2:(rowL ps).length=(jn 32 (ps.map ls)).length+1:=by simp[rowL]
 have h3:(List.map (fun x=>Str.length x) ps).sum=((ps.map ls).map List.length).sum:=by
  rw[y2b]
  exact congrArg List.sum (List.map_congr_left fun x _=>z1g x)
 rw[h3]
 rw[y13] at h1
 unfold Builtin.Str.tooLong
 have hs:y0j=big:=by rw[sizeLine_eq];rfl
 have:¬(((ps.map ls).map List.length).sum+ps.length*(⟨#[32]⟩:Str).length > y0j):=by
  show ¬(((ps.map ls).map List.length).sum+ps.length*1 > y0j)
  omega
 rw[decide_eq_false this]
 rfl
theorem zvs {t:T} {r:Ev} (h:zhe t) (hl:(rowL (partsOf t)).length<=big):op2 oAdd (op2 z7r (cst (.str " ")) (nm 0)) (cst (.str "\n")) (some (.imm t)::r)=some (.str (st (rowL (partsOf t)))):=by
 have e1:op2 z7r (cst (.str " ")) (nm 0) (some (.imm t)::r)=some (.str (st (jn 32 ((partsOf t).map ls)))):=by
  rw[z09 (t:=.str ⟨#[32]⟩) (u:=t) rfl rfl]
  have key:(strsOf ((partsOf t).map .str)).bind (fun ss=>if JoinOk ⟨#[32]⟩ ss=true then some (y1r (Txt.join ⟨#[32]⟩ ss)) else none)=some (.str (st (jn 32 ((partsOf t).map ls)))):=by
   rw[z9v]
   simp only[y0p]
   rw[if_pos (zo0 hl),zck,<- zd7,zj2]
  rcases h with h|h
  ·rw[h] at key ⊢
   simp only[z7r]
   rw[<- h]
   rw[<- h] at key
   exact key
  ·rw[h] at key ⊢
   simp only[z7r]
   rw[<- h]
   rw[<- h] at key
   exact key
 rw[z09 (u:=.str ⟨#[10]⟩) e1 rfl]
 simp only[oAdd]
 have e2:(st (jn 32 ((partsOf t).map ls))).length+(⟨#[10]⟩:Str).length=(rowL (partsOf t)).length:=by
  rw[z1g,z7s]
  simp[rowL,Str.length]
 rw[if_pos (by rw[e2];exact hl)]
 rw[show st (jn 32 ((partsOf t).map ls))++(⟨#[10]⟩:Str)=st (rowL (partsOf t)) from zf4 (by rw[z3h];rfl)]
theorem z8o {rts:List T} {B:Nat} (h:∀t∈rts,zhe t) (hB:∀t∈rts,(rowL (partsOf t)).length<=B) (hb:rts.length*B<=16777216) (hl:rts.length<=1000000) (hB1:B<=16777216):z3i [.list rts]=some (.str (tx (rts.map partsOf))):=by
 refine z5h ?_
 have e1:comp 1 [] (itA (nmV 0)) (gNm 0) (cstT true) (op2 oAdd (op2 z7r (cst (.str " ")) (nm 0)) (cst (.str "\n"))) [some (.imm (.list rts))]=some (.list ((rts.map fun t=>st (rowL (partsOf t))).map .str)):=by
  rw[y2b]
  refine z56 (f:=y1r ∘ fun t=>st (rowL (partsOf t))) (ts:=rts) rfl (by unfold big;omega) fun t ht=>?_
  exact zvs (h t ht) (by have:=hB t ht;unfold big;omega)
 show op2 z7r _ _ [some (.imm (.list rts))]=_
 rw[z09 (t:=.str ⟨#[]⟩) rfl e1]
 simp only[z7r,z9v,y0p]
 rw[if_pos (zm7 (B:=B) (fun y hy=>by
  obtain⟨t,ht,rfl⟩:=y0m.mp hy
  rw[z1g,z7s]
  exact hB t ht) (by rw[y13];simp[Str.length];omega))]
 rw[zck]
 have:ls (Str.join ⟨#[]⟩ (rts.map fun t=>st (rowL (partsOf t))))=txL (rts.map partsOf):=by
  rw[zik,txL,y2b,y2b]
  rfl
 rw[tx,<- this,zj2]
theorem z2j (ps:List Str):zhe (.tuple (ps.map .str))/\partsOf (.tuple (ps.map .str))=ps:=by
 have e:partsOf (.tuple (ps.map .str))=ps:=by
  simp only[partsOf,y2b]
  conv=>rhs;rw[<- List.map_id ps]
  rfl
 exact⟨.inl (by rw[e]),e⟩
theorem z2k (ps:List Str):zhe (.list (ps.map .str))/\partsOf (.list (ps.map .str))=ps:=by
 have e:partsOf (.list (ps.map .str))=ps:=by
  simp only[partsOf,y2b]
  conv=>rhs;rw[<- List.map_id ps]
  rfl
 exact⟨.inr (by rw[e]),e⟩
def z5g (z:Str×Str):List Str:=["zone",z.1,z.2]
def z4f (k:Cd):List Str:="code"::k.fig::k.who::strI k.uses::k.rights
def z2c (p:Pl):List Str:=["times",strI p.leave,strI p.come,strI p.loud]
def z3m (p:Pl):List (List Str):=z2c p::(p.zones.map z5g++p.codes.map z4f)
theorem zcj (z:Str×Str):z3c [encZ z]=some (.tuple ((z5g z).map .str)):=by
 refine z5h ?_
 show z06 _ [some (.imm (encZ z))]=_
 have e0:op2 oIx (nm 0) (cst (.int 0)) [some (.imm (encZ z))]=some (.str z.1):=by rw[z09 rfl rfl];exact ix_0
 have e1:op2 oIx (nm 0) (cst (.int 1)) [some (.imm (encZ z))]=some (.str z.2):=by rw[z09 rfl rfl];exact ix_1
 simp only[z06,args,e0,e1,cst,y0p,y1n]
 rfl
theorem zvf:W64<=W64 ^ 1000:=by
 have h:(1:Int)<=W64 ^ 999:=by
  exact (Int.pow_pos zi0:0<W64 ^ 999)
 have e:W64 ^ 1000=W64 ^ 999*W64:=Int.pow_succ ..
 rw[e]
 have hp:=zi0
 generalize W64 ^ 999=q at *
 generalize W64=w at *
 calc w=1*w:=by omega
  _<=q*w:=Int.mul_le_mul_of_nonneg_right h (by omega)
theorem zgw {a:Int} (h0:0<=a) (h:a<1000000000):z0c [.int a]=some (.str (strI a)) :=
 zq7 h0 (by
  have h1:=zvf
  have h2:(1000000000:Int)<=W64:=by decide +kernel
  omega)
theorem z8j {k:Cd} (h0:0<=k.uses) (h:k.uses<1000000000) (hr:k.rights.length<=1000):z1l [z25 k]=some (.tuple ((z4f k).map .str)):=by
 refine z5h ?_
 have e0:op2 oIx (nm 0) (cst (.int 0)) [some (.imm (z25 k))]=some (.str k.fig):=by rw[z09 rfl rfl];exact ix_0
 have e1:op2 oIx (nm 0) (cst (.int 1)) [some (.imm (z25 k))]=some (.str k.who):=by rw[z09 rfl rfl];exact ix_1
 have e2:op2 oIx (nm 0) (cst (.int 2)) [some (.imm (z25 k))]=some (.tuple (k.rights.map .str)):=by rw[z09 rfl rfl];exact ix_2
 have e3:op2 oIx (nm 0) (cst (.int 3)) [some (.imm (z25 k))]=some (.int k.uses):=by rw[z09 rfl rfl];exact ix_3
 have e4:opN z0c [(op2 oIx (nm 0) (cst (.int 3)))] [some (.imm (z25 k))]=some (.str (strI k.uses)):=by rw[opN1 e3];exact zgw h0 h
 show op2 oAdd _ _ [some (.imm (z25 k))]=_
 rw[z09 (t:=.tuple [.str "code",.str k.fig,.str k.who,.str (strI k.uses)]) (by
  simp only[z06,args,e0,e1,e4,cst,y0p,y1n]
  rfl) e2]
 simp only[oAdd]
 rw[if_pos (by simp;unfold big;omega)]
 simp[z4f]
structure Pw (p:Pl):Prop where
 zl:p.zones.length<=8
 cl:p.codes.length<=6
 t1:0<=p.leave/\p.leave<1000000000
 t2:0<=p.come/\p.come<1000000000
 t3:0<=p.loud/\p.loud<1000000000
 zn:∀z∈p.zones,z.1.length<=100/\z.2.length<=100/\asc (ls z.1)/\asc (ls z.2)
 cn:∀k∈p.codes,k.fig.length<=100/\k.who.length<=100/\k.rights.length<=3/\(∀r∈k.rights,r.length<=100/\asc (ls r))/\0<=k.uses/\k.uses<1000000000/\asc (ls k.fig)/\asc (ls k.who)
theorem zs1 (c B:Nat):∀ps:List (List Nat),(∀p∈ps,p.length<=B)->(jn c ps).length<=ps.length*(B+1)
 | [],_=>by simp[jn]
 | [p],h=>by
  have:=h p (by simp)
  simp[jn]
  omega
 | p::q::r,h=>by
  have h1:=zs1 c B (q::r) fun x hx=>h x (y05 _ hx)
  have h2:=h p (by simp)
  simp only[jn,y1x,y0v] at h1 ⊢
  have e:(r.length+1+1)*(B+1)=(r.length+1)*(B+1)+(B+1):=by rw[Nat.add_mul,Nat.one_mul]
  omega
theorem z4u {ps:List Str} {n B:Nat} (hn:ps.length<=n) (h:∀p∈ps,p.length<=B):(rowL ps).length<=n*(B+1)+1:=by
 have h1:=zs1 32 B (ps.map ls) fun p hp=>by
  obtain⟨x,hx,rfl⟩:=y0m.mp hp
  rw[<- z1g]
  exact h x hx
 rw[y13] at h1
 have h2:ps.length*(B+1)<=n*(B+1):=Nat.mul_le_mul_right _ hn
 simp only[rowL,y1x,List.length_singleton]
 omega
theorem z3x {a:Int} (h0:0<=a) (h:a<1000000000):(strI a).length<=100:=by
 have h2:(1000000000:Int)<=W64:=by decide +kernel
 have:=(zcl h0 (by omega)).1
 omega
theorem zlk {p:Pl} (h:Pw p):∀ps∈z3m p,(rowL ps).length<=708:=by
 intro ps hps
 have e708:7*(100+1)+1=708:=rfl
 rw[<- e708]
 rcases y09.mp hps with rfl|hps
 ·refine z4u (by simp[z2c]) fun q hq=>?_
  simp only[z2c,y09,y24,or_false] at hq
  rcases hq with rfl|rfl|rfl|rfl
  ·decide
  ·exact z3x h.t1.1 h.t1.2
  ·exact z3x h.t2.1 h.t2.2
  ·exact z3x h.t3.1 h.t3.2
 ·rcases y10.mp hps with hps|hps
  ·obtain⟨z,hz,rfl⟩:=y0m.mp hps
   obtain⟨z1,z2,_⟩:=h.zn z hz
   refine z4u (by simp[z5g]) fun q hq=>?_
   simp only[z5g,y09,y24,or_false] at hq
   rcases hq with rfl|rfl|rfl
   ·decide
   ·exact z1
   ·exact z2
  ·obtain⟨k,hk,rfl⟩:=y0m.mp hps
   obtain⟨k1,k2,k3,k4,k5,k6,_⟩:=h.cn k hk
   refine z4u (by simp[z4f];omega) fun q hq=>?_
   simp only[z4f,y09] at hq
   rcases hq with rfl|rfl|rfl|rfl|hq
   ·decide
   ·exact k1
   ·exact k2
   ·exact z3x k5 k6
   ·exact (k4 q hq).1
theorem z6m {p:Pl} (h:Pw p):z15 [encP p]=some (.str (tx (z3m p))):=by
 unfold z15 runF zbb
 show (seq _ _ [some (.imm (encP p)),none,none,none]).bind _=_
 have e0:∀r:Ev,op2 oIx (nm 0) (cst (.int 0)) (some (.imm (encP p))::r)=some (.tuple (p.zones.map encZ)):=fun r=>by rw[z09 rfl rfl];exact ix_0
 have e1:∀r:Ev,op2 oIx (nm 0) (cst (.int 1)) (some (.imm (encP p))::r)=some (.tuple (p.codes.map z25)):=fun r=>by rw[z09 rfl rfl];exact ix_1
 have e2:∀r:Ev,op2 oIx (nm 0) (cst (.int 2)) (some (.imm (encP p))::r)=some (.tuple [.int p.leave,.int p.come,.int p.loud]):=fun r=>by rw[z09 rfl rfl];exact ix_2
 have hz:=h.zl
 have hc:=h.cl
 have a1:asg 1 (op2 oAdd (z3g [(cst (.str "times"))]) (comp 1 [] (itA (op2 oIx (nm 0) (cst (.int 2)))) (gNm 0) (cstT true) (opN z0c [(nmV 0)]))) [some (.imm (encP p)),none,none,none]=some (.nx [some (.imm (encP p)),some (.imm (.list ((z2c p).map .str))),none,none]):=by
  have:comp 1 [] (itA (op2 oIx (nm 0) (cst (.int 2)))) (gNm 0) (cstT true) (opN z0c [(nmV 0)]) [some (.imm (encP p)),none,none,none]=some (.list (([.int p.leave,.int p.come,.int p.loud]:List T).map fun t=>match t with|.int i=>.str (strI i)|t=>t)):=by
   refine z56 (ts:=[.int p.leave,.int p.come,.int p.loud]) (by simp only[itA,e2,y0p]) (by simp;unfold big;omega) fun t ht=>?_
   rw[opN1 (t:=t) rfl]
   simp only[y09,y24,or_false] at ht
   rcases ht with rfl|rfl|rfl
   ·exact zgw h.t1.1 h.t1.2
   ·exact zgw h.t2.1 h.t2.2
   ·exact zgw h.t3.1 h.t3.2
  unfold asg
  rw[z09 (t:=.list [.str "times"]) rfl this]
  rfl
 have a2:asg 2 (comp 1 [] (itA (op2 oIx (nm 0) (cst (.int 0)))) (gNm 0) (cstT true) (opN z3c [(nmV 0)])) [some (.imm (encP p)),some (.imm (.list ((z2c p).map .str))),none,none]=some (.nx [some (.imm (encP p)),some (.imm (.list ((z2c p).map .str))),some (.imm (.list ((p.zones.map z5g).map fun ps=>.tuple (ps.map .str)))),none]):=by
  have:comp 1 [] (itA (op2 oIx (nm 0) (cst (.int 0)))) (gNm 0) (cstT true) (opN z3c [(nmV 0)]) [some (.imm (encP p)),some (.imm (.list ((z2c p).map .str))),none,none]=some (.list ((p.zones.map encZ).map fun t=>.tuple (y1r "zone"::(match t with|.tuple ts=>ts|_=>[])))):=by
   refine z56 (ts:=p.zones.map encZ) (by simp only[itA,e0,y0p]) (by rw[y13];unfold big;omega) fun t ht=>?_
   obtain⟨z,hz,rfl⟩:=y0m.mp ht
   rw[opN1 (t:=encZ z) rfl,zcj]
   rfl
  unfold asg
  rw[this]
  simp only[y2b]
  rfl
 have a3:asg 3 (comp 1 [] (itA (op2 oIx (nm 0) (cst (.int 1)))) (gNm 0) (cstT true) (opN z1l [(nmV 0)])) [some (.imm (encP p)),some (.imm (.list ((z2c p).map .str))),some (.imm (.list ((p.zones.map z5g).map fun ps=>.tuple (ps.map .str)))),none]=some (.nx [some (.imm (encP p)),some (.imm (.list ((z2c p).map .str))),some (.imm (.list ((p.zones.map z5g).map fun ps=>.tuple (ps.map .str)))),some (.imm (.list ((p.codes.map z4f).map fun ps=>.tuple (ps.map .str))))]):=by
  have:comp 1 [] (itA (op2 oIx (nm 0) (cst (.int 1)))) (gNm 0) (cstT true) (opN z1l [(nmV 0)]) [some (.imm (encP p)),some (.imm (.list ((z2c p).map .str))),some (.imm (.list ((p.zones.map z5g).map fun ps=>.tuple (ps.map .str)))),none]=some (.list ((p.codes.map z25).map fun t=>(z1l [t]).getD .none)):=by
   refine z56 (ts:=p.codes.map z25) (by simp only[itA,e1,y0p]) (by rw[y13];unfold big;omega) fun t ht=>?_
   obtain⟨k,hk,rfl⟩:=y0m.mp ht
   obtain⟨k1,k2,k3,k4,k5,k6,_⟩:=h.cn k hk
   rw[opN1 (t:=z25 k) rfl,z8j k5 k6 (by omega)]
   rfl
  unfold asg
  rw[this]
  have e:(p.codes.map z25).map (fun t=>(z1l [t]).getD .none)=(p.codes.map z4f).map fun ps=>.tuple (ps.map .str):=by
   rw[y2b,y2b]
   refine List.map_congr_left fun k hk=>?_
   obtain⟨k1,k2,k3,k4,k5,k6,_⟩:=h.cn k hk
   show (z1l [z25 k]).getD .none=_
   rw[z8j k5 k6 (by omega)]
   rfl
  rw[e]
  rfl
 rw[Co.seq_nx a1,Co.seq_nx a2,Co.seq_nx a3]
 simp only[rtn]
 have e5:op2 oAdd (op2 oAdd (z3g [(nmV 1)]) (nm 2)) (nm 3) [some (.imm (encP p)),some (.imm (.list ((z2c p).map .str))),some (.imm (.list ((p.zones.map z5g).map fun ps=>.tuple (ps.map .str)))),some (.imm (.list ((p.codes.map z4f).map fun ps=>.tuple (ps.map .str))))]=some (.list (.list ((z2c p).map .str)::((p.zones.map z5g).map (fun ps=>.tuple (ps.map .str))++(p.codes.map z4f).map fun ps=>.tuple (ps.map .str)))):=by
  rw[z09 (t:=.list ([.list ((z2c p).map .str)]++(p.zones.map z5g).map fun ps=>.tuple (ps.map .str))) (u:=.list ((p.codes.map z4f).map fun ps=>.tuple (ps.map .str))) (by
   rw[z09 (t:=.list [.list ((z2c p).map .str)]) (u:=.list ((p.zones.map z5g).map fun ps=>.tuple (ps.map .str))) rfl rfl]
   simp only[oAdd]
   rw[if_pos (by simp;unfold big;omega)]) rfl]
  simp only[oAdd]
  rw[if_pos (by simp;unfold big;omega)]
  simp
 rw[opN1 e5]
 have hall:∀t∈(PyData.list ((z2c p).map .str)::((p.zones.map z5g).map (fun ps=>PyData.tuple (ps.map .str))++(p.codes.map z4f).map fun ps=>.tuple (ps.map .str))),zhe t/\partsOf t∈z3m p:=by
  intro t ht
  rcases y09.mp ht with rfl|ht
  ·exact⟨(z2k _).1,by rw[(z2k _).2];exact y0e⟩
  ·rcases y10.mp ht with ht|ht
   ·obtain⟨ps,hps,rfl⟩:=y0m.mp ht
    exact⟨(z2j _).1,by rw[(z2j _).2];exact y05 _ (y10.mpr (.inl hps))⟩
   ·obtain⟨ps,hps,rfl⟩:=y0m.mp ht
    exact⟨(z2j _).1,by rw[(z2j _).2];exact y05 _ (y10.mpr (.inr hps))⟩
 rw[z8o (B:=708) (fun t ht=>(hall t ht).1) (fun t ht=>zlk h _ (hall t ht).2) (by simp;omega) (by simp;omega) (by omega)]
 have e6:(PyData.list ((z2c p).map .str)::((p.zones.map z5g).map (fun ps=>PyData.tuple (ps.map .str))++(p.codes.map z4f).map fun ps=>.tuple (ps.map .str))).map partsOf=z3m p:=by
  have q:∀l:List (List Str),(l.map fun ps=>PyData.tuple (ps.map .str)).map partsOf=l:=fun l=>by
   rw[y2b]
   conv=>rhs;rw[<- List.map_id l]
   exact List.map_congr_left fun ps _=>(z2j ps).2
  rw[y0d,List.map_append,q,q,(z2k _).2]
  rfl
 rw[e6]
 rfl
end Fo
end
section
namespace Fo
open D Co PySem
def zS:Option Str->Str
 | none=>"-"
 | some x=>x
def opR (o:Ho.Op):List Str:=[strI o.1,strI o.2.1,zS o.2.2]
def z1h (R:Int) (os:List Ho.Op):List (List Str):=["rooms",strI R]::os.map opR
structure Ow (o:Ho.Op):Prop where
 a:0<=o.1/\o.1<1000000000
 b:0<=o.2.1/\o.2.1<1000000000
 z:∀x,o.2.2=some x->x.length<=100/\asc (ls x)
theorem z6b {o:Ho.Op} (h:Ow o):z0w [Ho.opT o]=some (.tuple ((opR o).map .str)):=by
 unfold z0w runF z70
 show (seq _ _ [some (.imm (Ho.opT o)),none]).bind _=_
 have e0:∀r:Ev,op2 oIx (nm 0) (cst (.int 0)) (some (.imm (Ho.opT o))::r)=some (.int o.1):=fun r=>by rw[z09 rfl rfl];exact ix_0
 have e1:∀r:Ev,op2 oIx (nm 0) (cst (.int 1)) (some (.imm (Ho.opT o))::r)=some (.int o.2.1):=fun r=>by rw[z09 rfl rfl];exact ix_1
 have e2:∀r:Ev,op2 oIx (nm 0) (cst (.int 2)) (some (.imm (Ho.opT o))::r)=some (Ho.zT o.2.2):=fun r=>by rw[z09 rfl rfl];exact ix_2
 have a1:asg 1 (ifE (tstB (op1 oIsN (op2 oIx (nm 0) (cst (.int 2))))) (cst (.str "-")) (op2 oIx (nm 0) (cst (.int 2)))) [some (.imm (Ho.opT o)),none]=some (.nx [some (.imm (Ho.opT o)),some (.imm (.str (zS o.2.2)))]):=by
  unfold asg ifE
  rw[z0m (zp4 (e2 _))]
  cases hz:o.2.2 with
  | none=>rfl
  | some x =>
   simp only[Ho.zT,zgx,y0p,y1q,if_false]
   rw[e2,hz]
   rfl
 rw[Co.seq_nx a1]
 simp only[rtn,z06,args,opN,e0,e1,y0p,y1n,zgw h.a.1 h.a.2,zgw h.b.1 h.b.2]
 rfl
theorem z65 {R:Int} {os:List Ho.Op} (hR:0<=R/\R<1000000000) (h:∀o∈os,Ow o) (hl:os.length<=1000):z13 [Ho.houseT R os]=some (.str (tx (z1h R os))):=by
 unfold z13 runF z9g
 show (seq _ _ [some (.imm (Ho.houseT R os)),none]).bind _=_
 have e0:∀r:Ev,op2 oIx (nm 0) (cst (.int 0)) (some (.imm (Ho.houseT R os))::r)=some (.int R):=fun r=>by rw[z09 rfl rfl];exact ix_0
 have e1:∀r:Ev,op2 oIx (nm 0) (cst (.int 1)) (some (.imm (Ho.houseT R os))::r)=some (.tuple (os.map Ho.opT)):=fun r=>by rw[z09 rfl rfl];exact ix_1
 have a1:asg 1 (z06 [(cst (.str "rooms")),(opN z0c [(op2 oIx (nm 0) (cst (.int 0)))])]) [some (.imm (Ho.houseT R os)),none]=some (.nx [some (.imm (Ho.houseT R os)),some (.imm (.tuple ((["rooms",strI R]:List Str).map .str)))]):=by
  simp only[asg,z06,args,opN,e0,cst,y0p,y1n,zgw hR.1 hR.2]
  rfl
 rw[Co.seq_nx a1]
 simp only[rtn]
 have e3:comp 1 [] (itA (op2 oIx (nm 0) (cst (.int 1)))) (gNm 0) (cstT true) (opN z0w [(nmV 0)]) [some (.imm (Ho.houseT R os)),some (.imm (.tuple ((["rooms",strI R]:List Str).map .str)))]=some (.list ((os.map opR).map fun ps=>.tuple (ps.map .str))):=by
  rw[z56 (f:=fun t=>(z0w [t]).getD .none) (ts:=os.map Ho.opT) (by simp only[itA,e1,y0p]) (by rw[y13];unfold big;omega) fun t ht=>by
   obtain⟨o,ho,rfl⟩:=y0m.mp ht
   rw[opN1 (t:=Ho.opT o) rfl,z6b (h o ho)]
   rfl]
  rw[y2b,y2b]
  congr 2
  refine List.map_congr_left fun o ho=>?_
  show (z0w [Ho.opT o]).getD .none=_
  rw[z6b (h o ho)]
  rfl
 have e5:op2 oAdd (z3g [(nmV 1)]) (comp 1 [] (itA (op2 oIx (nm 0) (cst (.int 1)))) (gNm 0) (cstT true) (opN z0w [(nmV 0)])) [some (.imm (Ho.houseT R os)),some (.imm (.tuple ((["rooms",strI R]:List Str).map .str)))]=some (.list ((z1h R os).map fun ps=>.tuple (ps.map .str))):=by
  rw[z09 (t:=.list [.tuple ((["rooms",strI R]:List Str).map .str)]) rfl e3]
  simp only[oAdd]
  rw[if_pos (by simp;unfold big;omega)]
  rfl
 rw[opN1 e5]
 have hall:∀t∈((z1h R os).map fun ps=>PyData.tuple (ps.map .str)),zhe t/\partsOf t∈z1h R os:=by
  intro t ht
  obtain⟨ps,hps,rfl⟩:=y0m.mp ht
  exact⟨(z2j _).1,by rw[(z2j _).2];exact hps⟩
 have hB:∀ps∈z1h R os,(rowL ps).length<=304:=by
  intro ps hps
  have e:3*(100+1)+1=304:=rfl
  rw[<- e]
  rcases y09.mp hps with rfl|hps
  ·refine z4u (by simp) fun q hq=>?_
   simp only[y09,y24,or_false] at hq
   rcases hq with rfl|rfl
   ·decide
   ·exact z3x hR.1 hR.2
  ·obtain⟨o,ho,rfl⟩:=y0m.mp hps
   refine z4u (by simp[opR]) fun q hq=>?_
   simp only[opR,y09,y24,or_false] at hq
   rcases hq with rfl|rfl|rfl
   ·exact z3x (h o ho).a.1 (h o ho).a.2
   ·exact z3x (h o ho).b.1 (h o ho).b.2
   ·cases hz:o.2.2 with
    | none=>decide
    | some x=>exact ((h o ho).z x hz).1
 rw[z8o (B:=304) (fun t ht=>(hall t ht).1) (fun t ht=>hB _ (hall t ht).2) (by simp[z1h];omega) (by simp[z1h];omega) (by omega)]
 have e6:((z1h R os).map fun ps=>PyData.tuple (ps.map .str)).map partsOf=z1h R os:=by
  rw[y2b]
  conv=>rhs;rw[<- List.map_id (z1h R os)]
  exact List.map_congr_left fun ps _=>(z2j ps).2
 rw[e6]
 rfl
def evR:Et->List Str
 | .line z w=>["line",z,w]
 | .code f d none=>["code",f,d]
 | .code f d (some z)=>["code",f,d,z]
 | .ticks n=>["ticks",strI n]
structure Ew (B:Nat) (e:Et):Prop where
 s:∀x∈evR e,asc (ls x)/\x.length<=900000
 n:∀n,e=.ticks n->0<=n/\n<W64 ^ 1000
 l:(rowL (evR e)).length<=B
theorem zwb:eqS "ticks" (.str "line")=false:=by decide +kernel
theorem zwc:eqS "code" (.str "line")=false:=by decide +kernel
theorem zwd:eqS "ticks" (.str "code")=false:=by decide +kernel
theorem zuy:eqS "ticks" (.str "ticks")=true:=by decide +kernel
theorem zv0:eqS "code" (.str "code")=true:=by decide +kernel
theorem cut3 {α:Type} (a b c:α) (r:List α):cutZ (a::b::c::r) none (some 3)=[a,b,c]:=by
 unfold cutZ
 have e1:D.sIx (a::b::c::r).length 0 none=0:=rfl
 have e2:D.sIx (a::b::c::r).length (a::b::c::r).length (some 3)=3:=by simp[D.sIx];omega
 rw[e1,e2]
 rfl
theorem z7k {B:Nat} {e:Et} (h:Ew B e):z1k [encE e]=some (.tuple ((evR e).map .str)):=by
 unfold z1k runF z8n
 show (seq _ _ [some (.imm (encE e))]).bind _=_
 cases e with
 | line z w =>
  have e0:op2 oIx (nm 0) (cst (.int 0)) [some (.imm (encE (.line z w)))]=some (.str "line"):=by rw[z09 rfl rfl];exact ix_0
  rw[z1r (z0m (eq_s e0 (z2l (d:=0) zg6 (by decide)) z68)),zwb,if_neg (by simp)]
  have e5:andT (tstB (op2 oEq (op2 oIx (nm 0) (cst (.int 0))) (cst (.str "code")))) (tstB (op1 oIsN (op2 oIx (nm 0) (cst (.int 3))))) [some (.imm (encE (.line z w)))]=some (false && false) :=
   znc (by rw[z0m (eq_s e0 (z2l (d:=0) zg6 (by decide)) z74),zwc]) fun q=>by cases q
  rw[z1r e5,if_neg (by simp)]
  rfl
 | ticks n =>
  have e0:op2 oIx (nm 0) (cst (.int 0)) [some (.imm (encE (.ticks n)))]=some (.str "ticks"):=by rw[z09 rfl rfl];exact ix_0
  have e1:op2 oIx (nm 0) (cst (.int 1)) [some (.imm (encE (.ticks n)))]=some (.int n):=by rw[z09 rfl rfl];exact ix_1
  rw[z1r (z0m (eq_s e0 (z2l (d:=0) z68 (by decide)) z68)),zuy,if_pos rfl]
  rw[z29 (t:=.tuple [.str "ticks",.str (strI n)]) (by
   obtain⟨n0,n1⟩:=h.n n rfl
   simp only[z06,args,opN,e1,cst,y0p,y1n,zq7 n0 n1]
   rfl)]
  rfl
 | code f d z =>
  have e0:op2 oIx (nm 0) (cst (.int 0)) [some (.imm (encE (.code f d z)))]=some (.str "code"):=by rw[z09 rfl rfl];exact ix_0
  have e3:op2 oIx (nm 0) (cst (.int 3)) [some (.imm (encE (.code f d z)))]=some (oS z):=by rw[z09 rfl rfl];exact ix_3
  rw[z1r (z0m (eq_s e0 (z2l (d:=0) z74 (by decide)) z68)),zwd,if_neg (by simp)]
  rw[z1r (znc (by rw[z0m (eq_s e0 (z2l (d:=0) z74 (by decide)) z74)]) fun _=>z0m (zp4 e3)),zv0,Bool.true_and]
  cases z with
  | none =>
   rw[if_pos (by rfl),z29 (t:=.tuple [.str "code",.str f,.str d]) (by
    show z1i _ _ _ _=_
    simp only[z1i,nm,opt,optN,cst,y26,y0p,encE,oSlA,oSl,cut3])]
   rfl
  | some x =>
   rw[if_neg (by simp[oS,zgx])]
   rfl
theorem z7o {es:List Et} {B:Nat} (h:∀e∈es,Ew B e) (hb:es.length*B<=16777216) (hl:es.length<=1000000) (hB:B<=16777216):z1j [.tuple (es.map encE)]=some (.str (tx (es.map evR))):=by
 refine z5h ?_
 have e3:comp 1 [] (itA (nmV 0)) (gNm 0) (cstT true) (opN z1k [(nmV 0)]) [some (.imm (.tuple (es.map encE)))]=some (.list ((es.map evR).map fun ps=>.tuple (ps.map .str))):=by
  rw[z56 (f:=fun t=>(z1k [t]).getD .none) (ts:=es.map encE) rfl (by rw[y13];unfold big;omega) fun t ht=>by
   obtain⟨o,ho,rfl⟩:=y0m.mp ht
   rw[opN1 (t:=encE o) rfl,z7k (h o ho)]
   rfl]
  rw[y2b,y2b]
  congr 2
  refine List.map_congr_left fun o ho=>?_
  show (z1k [encE o]).getD .none=_
  rw[z7k (h o ho)]
  rfl
 show opN z3i [_] [some (.imm (.tuple (es.map encE)))]=_
 rw[opN1 e3]
 have hall:∀t∈((es.map evR).map fun ps=>PyData.tuple (ps.map .str)),zhe t/\(rowL (partsOf t)).length<=B:=by
  intro t ht
  obtain⟨ps,hps,rfl⟩:=y0m.mp ht
  obtain⟨e,he,rfl⟩:=y0m.mp hps
  exact⟨(z2j _).1,by rw[(z2j _).2];exact (h e he).l⟩
 rw[z8o (B:=B) (fun t ht=>(hall t ht).1) (fun t ht=>(hall t ht).2) (by simpa using hb) (by simpa using hl) hB]
 have e6:((es.map evR).map fun ps=>PyData.tuple (ps.map .str)).map partsOf=es.map evR:=by
  rw[y2b]
  conv=>rhs;rw[<- List.map_id (es.map evR)]
  exact List.map_congr_left fun ps _=>(z2j ps).2
 rw[e6]
end Fo
end
section
namespace Fo
open D Co PySem
def z0p (x:Str):List (List Str):=(spl 10 (ls x)).dropLast.map fun l=>(spl 32 l).map st
theorem zwo {α:Type} (l:List α):cutZ l none (some (-1))=l.dropLast:=by
 unfold cutZ
 have e1:D.sIx l.length 0 none=0:=rfl
 have e2:D.sIx l.length l.length (some (-1))=l.length - 1:=by simp[D.sIx];omega
 rw[e1,e2,List.drop_zero,Nat.sub_zero,List.dropLast_eq_take]
theorem zl2 {f:Fe} {ε:Ev} {x:Str} {c:Nat} {y:Str} (hy:y=⟨#[c]⟩) (hf:f ε=some (.str x)) (hl:x.length+2<=big):op2 zc6 f (cst (.str y)) ε=some (.list (((spl c (ls x)).map st).map .str)):=by
 subst hy
 rw[z09 hf rfl]
 simp only[zc6]
 rw[if_pos ⟨rfl,hl⟩,znu]
theorem zgi {x:Str} (hl:x.length<=1000000):z0u [.str x]=some (.list ((z0p x).map fun ps=>.list (ps.map .str))):=by
 refine z5h ?_
 have e1:=zl2 (f:=nm 0) (ε:=[some (.imm (.str x))]) (x:=x) (c:=10) (y:="\n") (by decide +kernel) rfl (by unfold big;omega)
 show comp 1 [] _ _ _ _ [some (.imm (.str x))]=_
 rw[z56 (f:=fun t=>.list (((spl 32 (ls (txS t))).map st).map .str)) (ts:=((spl 10 (ls x)).dropLast.map st).map .str) (by
  simp only[itA,z1i,e1,opt,optN,op1,oNeg,cst,y0p,oSlA,oSl,zwo,List.map_dropLast]) (by
   have:=z87 (c:=10) (ls x)
   rw[<- z1g] at this
   simp
   unfold big
   omega) fun t ht=>by
  obtain⟨s,hs,rfl⟩:=y0m.mp ht
  obtain⟨l,hl2,rfl⟩:=y0m.mp hs
  have h1:=z8r ((List.dropLast_sublist _).subset hl2)
  rw[<- z1g] at h1
  exact zl2 (f:=nm 0) (ε:=[some (.imm (.str (st l)))]) (x:=st l) (c:=32) (y:=" ") (by decide +kernel) rfl (by rw[z1g,z7s];unfold big;omega)]
 rw[y2b,z0p,y2b,y2b]
 rfl
theorem znz {x:Str} (hx:asc (ls x)) {ps:List Str} (h:ps∈z0p x):ps≠[]/\ps.length<=x.length+1/\∀p∈ps,asc (ls p)/\p.length<=x.length/\32∉ls p/\10∉ls p:=by
 obtain⟨l,hl,rfl⟩:=y0m.mp h
 have hm:=(List.dropLast_sublist _).subset hl
 have h1:=z8r hm
 rw[<- z1g] at h1
 refine⟨fun e=>zt6 32 l (List.map_eq_nil_iff.mp e),?_,fun p hp=>?_⟩
 ·rw[y13]
  have:=z87 (c:=32) l
  omega
 ·obtain⟨q,hq,rfl⟩:=y0m.mp hp
  have h2:=z8r hq
  rw[z1g,z7s]
  exact⟨fun a ha=>hx a (z8q hm a (z8q hq a ha)),by omega,ze2 hq,fun z=>ze2 hm (z8q hq _ z)⟩
theorem z9w (x:Str):(z0p x).length<=x.length:=by
 have:=z87 (c:=10) (ls x)
 rw[<- z1g] at this
 simp[z0p]
 omega
def digB (p:Str):Bool:=decide (1<=p.length) && (ls p).all fun c=>decide (48<=c) && decide (c<=57)
def numT (p:Str):T:=if digB p=true then .int (dv (ls p):Nat) else .none
theorem zpe {p:Str} (h:digB p=true):dig (ls p)/\1<=p.length:=by
 rw[digB,y19,List.all_eq_true] at h
 exact⟨fun c hc=>by
  have:=h.2 c hc
  rw[y19,decide_eq_true_eq,decide_eq_true_eq] at this
  exact this,of_decide_eq_true h.1⟩
def bNum:Fs:=asg 1 (op2 oSub (op2 oAdd (op2 oMul (nm 1) (cst (.int 10))) (opN oOrd [(nm 2)])) (opN oOrd [(cst (.str "0"))]))
theorem zom (a:Int) (c:Nat) (s0:Option Sl):bNum [s0,some (.imm (.int a)),some (.imm (chT c))]=some (.nx [s0,some (.imm (.int (a*10+c - 48))),some (.imm (chT c))]):=by
 unfold bNum asg
 have e1:op2 oMul (nm 1) (cst (.int 10)) [s0,some (.imm (.int a)),some (.imm (chT c))]=some (.int (a*10)):=by
  rw[z09 (t:=.int a) rfl rfl]
  exact Co.mul_ok (i:=a) (j:=10) ⟨by decide +kernel,by decide +kernel⟩
 have e2:opN oOrd [(nm 2)] [s0,some (.imm (.int a)),some (.imm (chT c))]=some (.int (c:Nat)):=by
  rw[opN1 (t:=chT c) rfl]
  rfl
 have e3:op2 oAdd (op2 oMul (nm 1) (cst (.int 10))) (opN oOrd [(nm 2)]) [s0,some (.imm (.int a)),some (.imm (chT c))]=some (.int (a*10+c)):=by
  rw[z09 e1 e2]
  rfl
 have e4:opN oOrd [(cst (.str "0"))] [s0,some (.imm (.int a)),some (.imm (chT c))]=some (.int 48):=by
  rw[opN1 (t:=chT 48) rfl]
  rfl
 rw[z09 e3 e4]
 rfl
theorem zon (a c:Nat) (h:48<=c):((a:Int)*10+c - 48)=((a*10+(c - 48):Nat):Int):=by omega
def znr (acc c:Nat):Nat:=acc*10+(c - 48)
theorem zrx (a c:Nat) (l:List T) (s0 s2:Option Sl) (h:48<=c):forL (gNm 2) bNum (chT c::l) [s0,some (.imm (.int (a:Int))),s2]=forL (gNm 2) bNum l [s0,some (.imm (.int ((znr a c:Nat):Int))),some (.imm (chT c))]:=by
 have e1:((a:Int)*10+(c:Int) - 48)=((znr a c:Nat):Int):=zon a c h
 have e2:=zom (a:Int) c s0
 rw[e1] at e2
 rw[forL,show gNm 2 (chT c) [s0,some (.imm (.int (a:Int))),s2]=some [s0,some (.imm (.int (a:Int))),some (.imm (chT c))] from rfl,y0p,e2,y0p]
theorem zlw:∀(l:List Nat) (a:Nat) (s0 s2:Option Sl),dig l->∃s2',forL (gNm 2) bNum (l.map chT) [s0,some (.imm (.int (a:Int))),s2]=some (.nx [s0,some (.imm (.int ((l.foldl znr a:Nat):Int))),s2'])
 | [],a,s0,s2,_=>⟨s2,rfl⟩
 | c::l,a,s0,s2,h=>by
  have hc:=h c (by simp)
  obtain⟨s2',e⟩:=zlw l (znr a c) s0 (some (.imm (chT c))) fun x hx=>h x (y05 _ hx)
  refine⟨s2',?_⟩
  rw[y0d,zrx a c _ s0 s2 hc.1,List.foldl_cons]
  exact e
theorem zlv {p:Str} (hp:asc (ls p)) (hl:p.length<=900000):z51 [.str p]=some (numT p):=by
 unfold z51 runF zbd
 show (seq _ _ [some (.imm (.str p)),none,none]).bind _=_
 have hg:gd (.str p)=true:=(z2l (d:=0) hp (by omega)).g
 have e1:opN z28 [(nmV 0),(cst (.int 1)),(opN oLen [(nm 0)]),(cst (.str "0")),(cst (.str "9"))] [some (.imm (.str p)),none,none]=some (.bool (digB p)):=by
  have e0:opN oLen [(nm 0)] [some (.imm (.str p)),none,none]=some (.int p.length):=by
   rw[opN1 (t:=.str p) rfl]
   simp only[oLen]
   rw[if_pos (by unfold big;omega)]
  simp only[opN,args] at e0 ⊢
  simp only[nmV,cst,y26,y0p,y1n]
  simp only[nm,y26,y0p,y1n] at e0 ⊢
  rw[e0]
  simp only[y0p,y1n]
  have:=zg9 (t:=.str p) (lo:=1) (hi:=p.length) (a:=48) (b:=57) hg
  rw[show ([.str p,.int 1,.int p.length,.str "0",.str "9"]:List T)=[.str p,.int 1,.int p.length,chT 48,chT 57] from rfl,this]
  simp only[zbm,digB]
  rw[decide_eq_true (show (p.length:Int)<=p.length by omega),Bool.and_true]
  congr 3
  congr 1
  apply propext
  omega
 rw[z1r (z27 (z0m e1))]
 unfold numT
 cases hd:digB p with
 | false =>
  rw[if_pos (by rfl),z29 (t:=.none) rfl,if_neg (by simp)]
  rfl
 | true =>
  rw[if_neg (by simp),if_pos rfl]
  obtain⟨h1,h2⟩:=zpe hd
  rw[Co.seq_nx (ε':=[some (.imm (.str p)),some (.imm (.int 0)),none]) rfl]
  obtain⟨s2',e2⟩:=zlw (ls p) 0 (some (.imm (.str p))) none h1
  have e3:for_ (itA (nmV 0)) (gNm 2) bNum [some (.imm (.str p)),some (.imm (.int 0)),none]=some (.nx [some (.imm (.str p)),some (.imm (.int (dv (ls p):Nat))),s2']):=by
   unfold for_
   rw[show itA (nmV 0) [some (.imm (.str p)),some (.imm (.int 0)),none]=some ((ls p).map chT) by
    simp only[itA,nmV,y26,y0p]
    rw[if_pos ((z98 p).mpr hp)]
    rfl]
   exact e2
  show (seq (for_ (itA (nmV 0)) (gNm 2) bNum) (rtn (nm 1)) _).bind _=_
  rw[Co.seq_nx e3]
  rfl
theorem z7a {ps:List Str} (h:∀p∈ps,asc (ls p)/\p.length<=900000) (hl:ps.length<=1000000):z18 [.list (ps.map .str)]=some (.tuple (ps.map numT)):=by
 refine z5h ?_
 rw[opN1 (t:=.list (ps.map numT)) (by
  rw[z56 (f:=fun t=>numT (txS t)) (ts:=ps.map .str) rfl (by rw[y13];unfold big;omega) fun t ht=>by
   obtain⟨p,hp,rfl⟩:=y0m.mp ht
   rw[opN1 (t:=.str p) rfl]
   exact zlv (h p hp).1 (h p hp).2]
  rw[y2b]
  rfl)]
 rfl
theorem z7m {f:Fe} {ε:Ev} {ts:List T} {lo hi:Ev->Option (Option Int)} {a b:Option Int} (hf:f ε=some (.list ts)) (h1:lo ε=some a) (h2:hi ε=some b):z1i f lo hi ε=some (.list (cutZ ts a b)):=by
 simp only[z1i,hf,h1,h2,y0p,oSlA,oSl]
theorem zhm {α β:Type} (f:α->β) (l:List α) (a b:Option Int):cutZ (l.map f) a b=(cutZ l a b).map f:=by
 unfold cutZ
 rw[y13,List.map_take,List.map_drop]
theorem z8z {α:Type} {l:List α} {a b:Option Int} {x:α} (h:x∈cutZ l a b):x∈l:=by
 unfold cutZ at h
 exact List.mem_of_mem_drop (List.mem_of_mem_take h)
theorem zdd {α:Type} (l:List α) (a b:Option Int):(cutZ l a b).length<=l.length:=by
 unfold cutZ
 rw[List.length_take,List.length_drop]
 omega
structure Rw (ps:List Str):Prop where
 ne:ps≠[]
 l:ps.length<=900000
 p:∀p∈ps,asc (ls p)/\p.length<=900000
theorem zag {x:Str} (hx:asc (ls x)) (hl:x.length<=800000):∀ps∈z0p x,Rw ps:=fun ps h=>by
 obtain⟨h1,h2,h3⟩:=znz hx h
 exact⟨h1,by omega,fun p hp=>⟨(h3 p hp).1,by have:=(h3 p hp).2.1;omega⟩⟩
def z6f (rs:List (List Str)):List T:=match rs with
 | []=>[]
 | r::_=>r.tail.map numT
def z43 (rs:List (List Str)):T:=.list (rs.map fun ps=>.list (ps.map .str))
theorem ziw {rs:List (List Str)} (h:∀r∈rs,Rw r):z0j [z43 rs]=some (.tuple (z6f rs)):=by
 refine z5h ?_
 cases rs with
 | nil=>rfl
 | cons r rs =>
  have hr:=h r (by simp)
  show ifE _ _ _ [some (.imm (z43 (r::rs)))]=_
  have e1:op2 oIx (nm 0) (cst (.int 0)) [some (.imm (z43 (r::rs)))]=some (.list (r.map .str)):=by
   rw[z09 (t:=z43 (r::rs)) rfl rfl]
   simp only[z43,oIx,atZ,ixOf]
   rw[if_pos (by decide),if_pos (by simp only[y0d,y0v];omega)]
   rfl
  have e2:z1i (op2 oIx (nm 0) (cst (.int 0))) (opt (cst (.int 1))) optN [some (.imm (z43 (r::rs)))]=some (.list (r.tail.map .str)):=by
   rw[z7m e1 rfl rfl,cut1,List.map_tail]
  simp only[ifE,show tstL (nm 0) [some (.imm (z43 (r::rs)))]=some true from rfl,y0p,if_true]
  rw[opN1 e2]
  have hl:=hr.l
  exact z7a (fun p hp=>hr.p p (List.mem_of_mem_tail hp)) (by rw[List.length_tail];omega)
def zfg (ps:List Str):T:=.tuple ((cutZ ps (some 1) (some 3)).map .str++[.tuple ((cutZ ps (some 4) none).map .str)]++(cutZ ps (some 3) (some 4)).map numT)
theorem zff {ps:List Str} (h:Rw ps):z35 [.list (ps.map .str)]=some (zfg ps):=by
 refine z5h ?_
 have hl:=h.l
 have l1:=zdd ps (some 1) (some 3)
 have l2:=zdd ps (some 3) (some 4)
 have s:∀(i:Int) (hi:Ev->Option (Option Int)) (b:Option Int),hi [some (.imm (.list (ps.map .str)))]=some b->z1i (nm 0) (opt (cst (.int i))) hi [some (.imm (.list (ps.map .str)))]=some (.list ((cutZ ps (some i) b).map .str)):=fun i hi b e=>by
  rw[z7m (ts:=ps.map .str) rfl rfl e,zhm]
 show op2 oAdd (op2 oAdd _ _) _ [some (.imm (.list (ps.map .str)))]=_
 rw[z09 (t:=.tuple ((cutZ ps (some 1) (some 3)).map .str++[.tuple ((cutZ ps (some 4) none).map .str)])) (u:=.tuple ((cutZ ps (some 3) (some 4)).map numT)) (by
  rw[z09 (t:=.tuple ((cutZ ps (some 1) (some 3)).map .str)) (u:=.tuple [.tuple ((cutZ ps (some 4) none).map .str)]) (by
   rw[opN1 (s 1 _ (some 3) rfl)]
   rfl) (by
   simp only[z06,args]
   rw[opN1 (s 4 _ none rfl)]
   rfl)]
  simp only[oAdd]
  rw[if_pos (by simp;unfold big;omega)]) (by
  rw[opN1 (s 3 _ (some 4) rfl)]
  exact z7a (fun p hp=>h.p p (z8z hp)) (by omega))]
 simp only[oAdd]
 rw[if_pos (by simp;unfold big;omega)]
 rfl
noncomputable def evT (ps:List Str):T:=match ps with
 | []=>.none
 | a::r=>if a="ticks" then .tuple (.str "ticks"::r.map numT) else if a="code"/\r.length=2 then .tuple ((a::r).map .str++[.none]) else .tuple ((a::r).map .str)
theorem ixl0 {a:T} {r:List T}:oIx (.list (a::r)) (.int 0)=some a:=by
 simp only[oIx,atZ,ixOf]
 rw[if_pos (by decide),if_pos (by simp only[y0v];omega)]
 rfl
theorem zd9 {ps:List Str} (h:Rw ps):z1x [.list (ps.map .str)]=some (evT ps):=by
 unfold z1x runF z9h
 show (seq _ _ [some (.imm (.list (ps.map .str)))]).bind _=_
 cases ps with
 | nil=>exact absurd rfl h.ne
 | cons a r =>
  have hl:=h.l
  rw[y0v] at hl
  have ha:=h.p a (by simp)
  have e0:op2 oIx (nm 0) (cst (.int 0)) [some (.imm (.list ((a::r).map .str)))]=some (.str a):=by
   rw[z09 (t:=.list ((a::r).map .str)) rfl rfl]
   exact ixl0
  have hg:Gd 0 (.str a):=z2l ha.1 (by omega)
  rw[z1r (z0m (eq_s e0 hg z68))]
  unfold evT
  by_cases h1:a="ticks"
  ·rw[show eqS "ticks" (.str a)=true from decide_eq_true h1,if_pos rfl]
   dsimp only
   rw[if_pos h1]
   rw[z29 (t:=.tuple (.str "ticks"::r.map numT)) (by
    rw[z09 (t:=.tuple [.str "ticks"]) (u:=.tuple (r.map numT)) rfl (by
     rw[opN1 (t:=.list (r.map .str)) (by rw[z7m (ts:=(a::r).map .str) (a:=some 1) (b:=none) rfl rfl rfl,cut1];rfl)]
     exact z7a (fun p hp=>h.p p (y05 _ hp)) (by omega))]
    simp only[oAdd]
    rw[if_pos (by simp;unfold big;omega)]
    rfl)]
   rfl
  ·rw[show eqS "ticks" (.str a)=false from decide_eq_false h1,if_neg (by simp)]
   dsimp only
   rw[if_neg h1]
   have elen:op2 oEq (opN oLen [(nm 0)]) (cst (.int 3)) [some (.imm (.list ((a::r).map .str)))]=some (.bool (decide (r.length=2))):=by
    rw[z09 (t:=.int ((a::r).map y1r).length) (u:=.int 3) (by rw[opN1 (t:=.list ((a::r).map .str)) rfl];rfl) rfl,Co.oEq_int]
    congr 3
    apply propext
    simp
    omega
   rw[z1r (znc (z0m (eq_s e0 hg z74)) fun _=>z0m elen)]
   by_cases h2:a="code"/\r.length=2
   ·rw[if_pos (by
     rw[y19]
     exact⟨decide_eq_true h2.1,decide_eq_true h2.2⟩),if_pos h2]
    rw[z29 (t:=.tuple ((a::r).map .str++[.none])) (by
     rw[z09 (t:=.tuple ((a::r).map .str)) (u:=.tuple [.none]) (by rw[opN1 (t:=.list ((a::r).map .str)) rfl];rfl) rfl]
     simp only[oAdd]
     rw[if_pos (by simp;unfold big;omega)])]
    rfl
   ·rw[if_neg (by
     rw[y19]
     exact fun q=>h2 ⟨of_decide_eq_true q.1,of_decide_eq_true q.2⟩),if_neg h2]
    simp only[rtn]
    rw[opN1 (t:=.list ((a::r).map .str)) rfl]
    rfl
def zoT (z:Str):T:=if z="-" then .none else .str z
def z8c (ps:List Str):T:=.tuple ((cutZ ps none (some 2)).map numT++(cutZ ps (some 2) none).map zoT)
theorem zqk:asc (ls "-"):=z9u
theorem zaj {ps:List Str} (h:Rw ps):z1p [.list (ps.map .str)]=some (z8c ps):=by
 refine z5h ?_
 have hl:=h.l
 have l1:=zdd ps none (some 2)
 have l2:=zdd ps (some 2) none
 show op2 oAdd _ _ [some (.imm (.list (ps.map .str)))]=_
 rw[z09 (t:=.tuple ((cutZ ps none (some 2)).map numT)) (u:=.tuple ((cutZ ps (some 2) none).map zoT)) (by
  rw[opN1 (t:=.list ((cutZ ps none (some 2)).map .str)) (by rw[z7m (ts:=ps.map .str) rfl rfl rfl,zhm])]
  exact z7a (fun p hp=>h.p p (z8z hp)) (by omega)) (by
  rw[opN1 (t:=.list ((cutZ ps (some 2) none).map zoT)) (by
   rw[z56 (f:=fun t=>zoT (txS t)) (ts:=(cutZ ps (some 2) none).map .str) (by
    simp only[itA]
    rw[z7m (ts:=ps.map .str) (a:=some 2) (b:=none) rfl rfl rfl,zhm]
    rfl) (by rw[y13];unfold big;omega) fun t ht=>by
     obtain⟨p,hp,rfl⟩:=y0m.mp ht
     have hp':=h.p p (z8z hp)
     simp only[ifE]
     rw[z0m (eq_s (t:=.str p) rfl (z2l (d:=0) hp'.1 (by omega)) zqk)]
     show (if eqS "-" (.str p)=true then cst .none _ else nmV 0 _)=some (zoT p)
     unfold zoT
     by_cases hq:p="-"
     ·rw[show eqS "-" (.str p)=true from decide_eq_true hq,if_pos rfl,if_pos hq]
      rfl
     ·rw[show eqS "-" (.str p)=false from decide_eq_false hq,if_neg (by simp),if_neg hq]
      rfl]
   rw[y2b]
   rfl)]
  rfl)]
 simp only[oAdd]
 rw[if_pos (by simp;unfold big;omega)]
 rfl
end Fo
end
section
namespace Fo
open D Co PySem
theorem z4e {x:Str} (h:z5j (.str x)=true):1<=x.length/\x.length<=4/\∀c∈ls x,97<=c/\c<=122:=by
 simp only[z5j,zbm,y19,decide_eq_true_eq,List.all_eq_true] at h
 exact⟨by omega,by omega,h.2⟩
theorem zb0 {x:Str} (h:figB (.str x)=true):x.length=4/\∀c∈ls x,48<=c/\c<=57:=by
 simp only[figB,zbm,y19,decide_eq_true_eq,List.all_eq_true] at h
 exact⟨by omega,h.2⟩
theorem za1 {x:Str} (h:z5j (.str x)=true):asc (ls x):=fun a ha=>by
 have:=(z4e h).2.2 a ha
 omega
theorem zmk {x:Str} (h:figB (.str x)=true):asc (ls x):=fun a ha=>by
 have:=(zb0 h).2 a ha
 omega
theorem zar {l:List Str} {x:Str} (n:Nat) (h:(l.all fun s=>decide (s.length<=n))=true) (hx:x∈l):x.length<=n:=of_decide_eq_true (List.all_eq_true.mp h x hx)
theorem zm6 {x:Str} (h:x∈z8f):x.length<=100/\asc (ls x):=⟨zar 100 (by decide +kernel) h,znf x h⟩
theorem zjc {x:Str} (h:x∈z4w):x.length<=100/\asc (ls x):=⟨zar 100 (by decide +kernel) h,zix x h⟩
structure Pv (p:Pl):Prop where
 z1:1<=p.zones.length
 z8:p.zones.length<=8
 zs:∀z∈p.zones,z5j (.str z.1)=true/\z.2∈z8f
 zr:z4v (p.zones.map (·.1))=true
 c1:1<=p.codes.length
 c6:p.codes.length<=6
 cs:∀k∈p.codes,figB (.str k.fig)=true/\z5j (.str k.who)=true/\k.rights.length<=3/\(∀r∈k.rights,r∈z4w)/\z4v k.rights=true/\0<=k.uses/\k.uses<=9
 cr:z4v (p.codes.map (·.fig))=true
 t1:0<=p.leave/\p.leave<=60
 t2:0<=p.come/\p.come<=60
 t3:1<=p.loud/\p.loud<=300
theorem Pv.pw {p:Pl} (h:Pv p):Pw p:=by
 refine⟨h.z8,h.c6,?_,?_,?_,fun z hz=>?_,fun k hk=>?_⟩
 ·have:=h.t1;omega
 ·have:=h.t2;omega
 ·have:=h.t3;omega
 ·obtain⟨h1,h2⟩:=h.zs z hz
  have h3:=z4e h1
  have h4:=zm6 h2
  exact⟨by omega,h4.1,za1 h1,h4.2⟩
 ·obtain⟨h1,h2,h3,h4,_,h5,h6⟩:=h.cs k hk
  have h7:=zb0 h1
  have h8:=z4e h2
  exact⟨by omega,by omega,h3,fun r hr=>zjc (h4 r hr),h5,by omega,zmk h1,za1 h2⟩
theorem znb {rs:List (List Str)} (h:∀ps∈rs,∀q∈ps,asc (ls q)):asc (txL rs):=zpr fun p hp=>by
 obtain⟨ps,hps,rfl⟩:=y0m.mp hp
 refine z73 (zqi (by decide) fun q hq=>?_) fun a ha=>?_
 ·obtain⟨x,hx,rfl⟩:=y0m.mp hq
  exact h ps hps x hx
 ·simp at ha
  omega
theorem z5k {a:Int} (h:0<=a):asc (ls (strI a)):=zsf (z4k h)
theorem zsm:asc (ls "times"):=z9u
theorem zqj:asc (ls "zone"):=z9u
theorem zsn:asc (ls "rooms"):=z9u
theorem z9y {p:Pl} (h:Pw p):asc (ls (tx (z3m p))):=by
 rw[tx,z7s]
 refine znb fun ps hps q hq=>?_
 rcases y09.mp hps with rfl|hps
 ·simp only[z2c,y09,y24,or_false] at hq
  rcases hq with rfl|rfl|rfl|rfl
  ·exact zsm
  ·exact z5k h.t1.1
  ·exact z5k h.t2.1
  ·exact z5k h.t3.1
 ·rcases y10.mp hps with hps|hps
  ·obtain⟨z,hz,rfl⟩:=y0m.mp hps
   obtain⟨_,_,z1,z2⟩:=h.zn z hz
   simp only[z5g,y09,y24,or_false] at hq
   rcases hq with rfl|rfl|rfl
   ·exact zqj
   ·exact z1
   ·exact z2
  ·obtain⟨k,hk,rfl⟩:=y0m.mp hps
   obtain⟨_,_,_,k4,k5,_,k7,k8⟩:=h.cn k hk
   simp only[z4f,y09] at hq
   rcases hq with rfl|rfl|rfl|rfl|hq
   ·exact z74
   ·exact k7
   ·exact k8
   ·exact z5k k5
   ·exact (k4 q hq).2
structure Hv (R:Int) (os:List Ho.Op):Prop where
 r:1<=R/\R<=7
 l:os.length<=10
 o:∀o∈os,0<=o.1/\o.1<o.2.1/\o.2.1<=R/\∀x,o.2.2=some x->z5j (.str x)=true
theorem Hv.ow {R:Int} {os:List Ho.Op} (h:Hv R os):∀o∈os,Ow o:=fun o ho=>by
 obtain⟨h1,h2,h3,h4⟩:=h.o o ho
 have:=h.r
 refine⟨by omega,by omega,fun x e=>?_⟩
 have:=z4e (h4 x e)
 exact⟨by omega,za1 (h4 x e)⟩
theorem z8g {R:Int} {os:List Ho.Op} (hR:0<=R) (h:∀o∈os,Ow o):asc (ls (tx (z1h R os))):=by
 rw[tx,z7s]
 refine znb fun ps hps q hq=>?_
 rcases y09.mp hps with rfl|hps
 ·simp only[y09,y24,or_false] at hq
  rcases hq with rfl|rfl
  ·exact zsn
  ·exact z5k hR
 ·obtain⟨o,ho,rfl⟩:=y0m.mp hps
  simp only[opR,y09,y24,or_false] at hq
  rcases hq with rfl|rfl|rfl
  ·exact z5k (h o ho).a.1
  ·exact z5k (h o ho).b.1
  ·cases hz:o.2.2 with
   | none=>exact zqk
   | some x=>exact ((h o ho).z x hz).2
theorem ne_str {a b:Str} (ha:asc (ls a)) (hb:asc (ls b)):oNe (.str a) (.str b)=some (.bool !(decide (a=b))):=by
 have h:∀s:Str,asc (ls s)->okT (.str s)=true:=fun s hs=>Co.okN.okT (d:=0) ⟨by rw[PyData.canLay0];exact z75 hs,by rw[y20];omega⟩
 simp only[oNe,h a ha,h b hb,Bool.and_self,if_true,za2]
 rfl
theorem eq_str {a b:Str} (ha:asc (ls a)) (hb:asc (ls b)):oEq (.str a) (.str b)=some (.bool (decide (a=b))):=by
 have h:∀s:Str,asc (ls s)->okT (.str s)=true:=fun s hs=>Co.okN.okT (d:=0) ⟨by rw[PyData.canLay0];exact z75 hs,by rw[y20];omega⟩
 simp only[oEq,h a ha,h b hb,Bool.and_self,if_true,za2]
 rfl
theorem z6j {b:Fs} {r:Fz} {ε ε':Ev} (h:b ε=some (.nx ε')):seqZ b r ε=r ε':=by simp only[seqZ,h]
def hd (s:Str) (ps:List Str):Bool:=decide (ps.head?=some s)
def zgr (rs:List (List Str)):T:=.tuple [.tuple ((rs.filter (hd "zone")).map fun ps=>.tuple (ps.tail.map .str)),.tuple ((rs.filter (hd "code")).map zfg),.tuple (z6f rs)]
theorem zf9 {d:Nat} (p:Str):Gd d (numT p):=by
 unfold numT
 split
 ·exact zaw
 ·exact zfa
theorem z47 {d:Nat} {p:Str} (h:asc (ls p)/\p.length<=900000):Gd d (.str p):=z2l h.1 (by omega)
theorem zp8 {rs:List (List Str)} (h:∀r∈rs,Rw r):Gd 4 (zgr rs):=by
 refine Gd.mk_tup fun t ht=>?_
 simp only[y09,y24,or_false] at ht
 rcases ht with rfl|rfl|rfl
 ·refine Gd.mk_tup fun t ht=>?_
  obtain⟨ps,hps,rfl⟩:=y0m.mp ht
  have hr:=h ps (List.mem_filter.mp hps).1
  refine Gd.mk_tup (d:=1) fun t ht=>?_
  obtain⟨q,hq,rfl⟩:=y0m.mp ht
  exact z47 (hr.p q (List.mem_of_mem_tail hq))
 ·refine Gd.mk_tup fun t ht=>?_
  obtain⟨ps,hps,rfl⟩:=y0m.mp ht
  have hr:=h ps (List.mem_filter.mp hps).1
  refine Gd.mk_tup (d:=1) fun t ht=>?_
  simp only[y10,y0y] at ht
  rcases ht with (ht|rfl)|ht
  ·obtain⟨q,hq,rfl⟩:=y0m.mp ht
   exact z47 (hr.p q (z8z hq))
  ·refine Gd.mk_tup (d:=0) fun t ht=>?_
   obtain⟨q,hq,rfl⟩:=y0m.mp ht
   exact z47 (hr.p q (z8z hq))
  ·obtain⟨q,hq,rfl⟩:=y0m.mp ht
   exact zf9 q
 ·refine Gd.mk_tup (d:=2) fun t ht=>?_
  cases rs with
  | nil=>simp[z6f] at ht
  | cons r rs =>
   obtain⟨q,hq,rfl⟩:=y0m.mp ht
   exact zf9 q
theorem zl9 {rs:List (List Str)} {f:Fe} {ε:Ev} (h:f ε=some (z43 rs)):itA f ε=some (rs.map fun ps=>.list (ps.map .str)):=by
 simp only[itA,h,y0p]
 rfl
theorem zwg {s:Str} {ps:List Str} {r:Ev} (hs:asc (ls s)) (h:Rw ps):tstB (op2 oEq (op2 oIx (nm 0) (cst (.int 0))) (cst (.str s))) (some (.imm (.list (ps.map .str)))::r)=some (hd s ps):=by
 cases ps with
 | nil=>exact absurd rfl h.ne
 | cons a l =>
  rw[z0m (eq_s (t:=.str a) (by rw[z09 rfl rfl];exact ixl0) (z47 (d:=0) (h.p a (by simp))) hs)]
  simp only[eqS,hd,List.head?_cons,Option.some.injEq]
theorem zaz {rs:List (List Str)} {s:Str} {e:Fe} {g:List Str->T} {ε:Ev} {f:Fe} (hs:asc (ls s)) (hf:f ε=some (z43 rs)) (h:∀r∈rs,Rw r) (hl:rs.length<=big) (he:∀r∈rs,hd s r=true->e [some (.imm (.list (r.map .str)))]=some (g r)):comp 1 [] (itA f) (gNm 0) (tstB (op2 oEq (op2 oIx (nm 0) (cst (.int 0))) (cst (.str s)))) e ε=some (.list ((rs.filter (hd s)).map g)):=by
 rw[zqg (p:=fun t=>hd s (partsOf t)) (f:=fun t=>g (partsOf t)) (ts:=rs.map fun ps=>.list (ps.map .str)) (zl9 hf) (by rw[y13];exact hl) (fun t ht=>by
  obtain⟨r,hr,rfl⟩:=y0m.mp ht
  rw[(z2k r).2]
  exact zwg hs (h r hr)) (fun t ht hp=>by
  obtain⟨r,hr,rfl⟩:=y0m.mp ht
  rw[(z2k r).2] at hp ⊢
  exact he r hr hp)]
 rw[List.filter_map,y2b]
 congr 2
 have:(fun t=>hd s (partsOf t)) ∘ (fun ps:List Str=>PyData.list (ps.map .str))=hd s:=by
  funext ps
  exact congrArg (hd s) (z2k ps).2
 rw[this]
 refine List.map_congr_left fun r _=>?_
 exact congrArg g (z2k r).2
theorem zny {x:Str} (hx:asc (ls x)) (hl:x.length<=800000):∃ε:Ev,nm 0 ε=some (.str x)/\nmV 4 ε=some (zgr (z0p x))/\nm 4 ε=some (zgr (z0p x)) /\
  (∀g:Fs,seq (asg 1 (opN z0u [(nmV 0)])) (seq (asg 2 (opN z0t [(comp 1 [] (itA (nmV 1)) (gNm 0) (tstB (op2 oEq (op2 oIx (nm 0) (cst (.int 0))) (cst (.str "zone")))) (opN z0t [(z1i (nm 0) (opt (cst (.int 1))) optN)]))])) (seq (asg 3 (opN z0t [(comp 1 [] (itA (nmV 1)) (gNm 0) (tstB (op2 oEq (op2 oIx (nm 0) (cst (.int 0))) (cst (.str "code")))) (opN z35 [(nmV 0)]))])) (seq (asg 4 (z06 [(nmV 2),(nmV 3),(opN z0j [(nmV 1)])])) g))) [some (.imm (.str x)),none,none,none,none]=g ε) /\
  (∀r:Fz,seqZ (asg 1 (opN z0u [(nmV 0)])) (seqZ (asg 2 (opN z0t [(comp 1 [] (itA (nmV 1)) (gNm 0) (tstB (op2 oEq (op2 oIx (nm 0) (cst (.int 0))) (cst (.str "zone")))) (opN z0t [(z1i (nm 0) (opt (cst (.int 1))) optN)]))])) (seqZ (asg 3 (opN z0t [(comp 1 [] (itA (nmV 1)) (gNm 0) (tstB (op2 oEq (op2 oIx (nm 0) (cst (.int 0))) (cst (.str "code")))) (opN z35 [(nmV 0)]))])) (seqZ (asg 4 (z06 [(nmV 2),(nmV 3),(opN z0j [(nmV 1)])])) r))) [some (.imm (.str x)),none,none,none,none]=r ε):=by
 have hrw:=zag hx hl
 have hrl:=z9w x
 have hbl:(z0p x).length<=big:=by unfold big;omega
 have e1:z0u [.str x]=some (z43 (z0p x)):=zgi (by omega)
 have a1:asg 1 (opN z0u [(nmV 0)]) [some (.imm (.str x)),none,none,none,none]=some (.nx [some (.imm (.str x)),some (.imm (z43 (z0p x))),none,none,none]):=by
  unfold asg
  rw[opN1 (t:=.str x) rfl,e1]
  rfl
 have a2:asg 2 (opN z0t [(comp 1 [] (itA (nmV 1)) (gNm 0) (tstB (op2 oEq (op2 oIx (nm 0) (cst (.int 0))) (cst (.str "zone")))) (opN z0t [(z1i (nm 0) (opt (cst (.int 1))) optN)]))]) [some (.imm (.str x)),some (.imm (z43 (z0p x))),none,none,none]=some (.nx [some (.imm (.str x)),some (.imm (z43 (z0p x))),some (.imm (.tuple (((z0p x).filter (hd "zone")).map fun ps=>.tuple (ps.tail.map .str)))),none,none]):=by
  unfold asg
  rw[opN1 (t:=.list (((z0p x).filter (hd "zone")).map fun ps=>.tuple (ps.tail.map .str))) (zaz zqj rfl hrw hbl fun r hr _=>by
   rw[opN1 (t:=.list (r.tail.map .str)) (by rw[z7m (ts:=r.map .str) (a:=some 1) (b:=none) rfl rfl rfl,cut1,List.map_tail])]
   rfl)]
  rfl
 have a3:asg 3 (opN z0t [(comp 1 [] (itA (nmV 1)) (gNm 0) (tstB (op2 oEq (op2 oIx (nm 0) (cst (.int 0))) (cst (.str "code")))) (opN z35 [(nmV 0)]))]) [some (.imm (.str x)),some (.imm (z43 (z0p x))),some (.imm (.tuple (((z0p x).filter (hd "zone")).map fun ps=>.tuple (ps.tail.map .str)))),none,none]=some (.nx [some (.imm (.str x)),some (.imm (z43 (z0p x))),some (.imm (.tuple (((z0p x).filter (hd "zone")).map fun ps=>.tuple (ps.tail.map .str)))),some (.imm (.tuple (((z0p x).filter (hd "code")).map zfg))),none]):=by
  unfold asg
  rw[opN1 (t:=.list (((z0p x).filter (hd "code")).map zfg)) (zaz z74 rfl hrw hbl fun r hr _=>by
   rw[opN1 (t:=.list (r.map .str)) rfl]
   exact zff (hrw r hr))]
  rfl
 have a4:asg 4 (z06 [(nmV 2),(nmV 3),(opN z0j [(nmV 1)])]) [some (.imm (.str x)),some (.imm (z43 (z0p x))),some (.imm (.tuple (((z0p x).filter (hd "zone")).map fun ps=>.tuple (ps.tail.map .str)))),some (.imm (.tuple (((z0p x).filter (hd "code")).map zfg))),none]=some (.nx [some (.imm (.str x)),some (.imm (z43 (z0p x))),some (.imm (.tuple (((z0p x).filter (hd "zone")).map fun ps=>.tuple (ps.tail.map .str)))),some (.imm (.tuple (((z0p x).filter (hd "code")).map zfg))),some (.imm (zgr (z0p x)))]):=by
  unfold asg z06
  simp only[args]
  rw[opN1 (t:=z43 (z0p x)) rfl,ziw hrw]
  rfl
 exact⟨_,rfl,rfl,rfl,fun g=>by rw[Co.seq_nx a1,Co.seq_nx a2,Co.seq_nx a3,Co.seq_nx a4],fun r=>by rw[z6j a1,z6j a2,z6j a3,z6j a4]⟩
theorem zef {x:Str} (hx:asc (ls x)) (hl:x.length<=800000) {p:Pl} (ep:zgr (z0p x)=encP p) (hv:Pv p) (hp:zjg (encP p)=true) (hq:tx (z3m p)=x):z34 [.str x]=some (encP p):=by
 obtain⟨ε,n0,n4,n4',hs,hz⟩:=zny hx hl
 have h1:opN z6r [(nmV 4)] ε=some (.bool true):=by
  rw[opN1 n4,zoa (d:=0) (zp8 (zag hx hl)) (by omega),ep,hp]
 have h3:op2 oNe (opN z15 [(nmV 4)]) (nm 0) ε=some (.bool !(decide (tx (z3m p)=x))):=by
  rw[z09 (t:=.str (tx (z3m p))) (by rw[opN1 n4,ep];exact z6m hv.pw) n0]
  exact ne_str (z9y hv.pw) hx
 have h4:=z6g (z27 (z0m h1)) fun _=>z0m h3
 unfold z34 runF zba
 show (seq _ _ [some (.imm (.str x)),none,none,none,none]).bind _=_
 rw[hs,z1r h4,decide_eq_true hq,if_neg (by simp)]
 simp only[rtn,n4',ep]
 rfl
end Fo
end
section
namespace Fo
open D Co PySem
def z7t (rs:List (List Str)):T:=.tuple (z6f rs++[.tuple (rs.tail.map z8c)])
theorem zp9 {ps:List Str} (h:Rw ps):Gd 1 (z8c ps):=Gd.mk_tup (d:=0) fun t ht=>by
 rcases y10.mp ht with ht|ht
 ·obtain⟨q,hq,rfl⟩:=y0m.mp ht
  exact zf9 q
 ·obtain⟨q,hq,rfl⟩:=y0m.mp ht
  unfold zoT
  split
  ·exact zfa
  ·exact z47 (h.p q (z8z hq))
theorem zpa {rs:List (List Str)} {d:Nat}:∀t∈z6f rs,Gd d t:=fun t ht=>by
 cases rs with
 | nil=>simp[z6f] at ht
 | cons r rs =>
  obtain⟨q,hq,rfl⟩:=y0m.mp ht
  exact zf9 q
theorem zk3 {rs:List (List Str)} (h:∀r∈rs,Rw r):Gd 3 (z7t rs):=Gd.mk_tup fun t ht=>by
 rcases y10.mp ht with ht|ht
 ·exact zpa t ht
 ·rw[y0y] at ht
  subst ht
  refine Gd.mk_tup fun t ht=>?_
  obtain⟨ps,hps,rfl⟩:=y0m.mp ht
  exact zp9 (h ps (List.mem_of_mem_tail hps))
theorem znd {rs:List (List Str)} (h:∀r∈rs,Rw r):(z6f rs).length<=900000:=by
 cases rs with
 | nil=>simp[z6f]
 | cons r rs =>
  have:=(h r (by simp)).l
  simp[z6f]
  omega
theorem zo1 {x:Str} (hx:asc (ls x)) (hl:x.length<=800000):∃ε:Ev,nm 0 ε=some (.str x)/\nmV 3 ε=some (z7t (z0p x))/\nm 3 ε=some (z7t (z0p x)) /\
  (∀g:Fs,seq (asg 1 (opN z0u [(nmV 0)])) (seq (asg 2 (opN z0t [(comp 1 [] (itA (z1i (nm 1) (opt (cst (.int 1))) optN)) (gNm 0) (cstT true) (opN z1p [(nmV 0)]))])) (seq (asg 3 (op2 oAdd (opN z0j [(nmV 1)]) (z06 [(nmV 2)]))) g)) [some (.imm (.str x)),none,none,none]=g ε) /\
  (∀r:Fz,seqZ (asg 1 (opN z0u [(nmV 0)])) (seqZ (asg 2 (opN z0t [(comp 1 [] (itA (z1i (nm 1) (opt (cst (.int 1))) optN)) (gNm 0) (cstT true) (opN z1p [(nmV 0)]))])) (seqZ (asg 3 (op2 oAdd (opN z0j [(nmV 1)]) (z06 [(nmV 2)]))) r)) [some (.imm (.str x)),none,none,none]=r ε):=by
 have hrw:=zag hx hl
 have hrl:=z9w x
 have hbl:(z0p x).length<=big:=by unfold big;omega
 have hal:=znd hrw
 have e1:z0u [.str x]=some (z43 (z0p x)):=zgi (by omega)
 have a1:asg 1 (opN z0u [(nmV 0)]) [some (.imm (.str x)),none,none,none]=some (.nx [some (.imm (.str x)),some (.imm (z43 (z0p x))),none,none]):=by
  unfold asg
  rw[opN1 (t:=.str x) rfl,e1]
  rfl
 have a2:asg 2 (opN z0t [(comp 1 [] (itA (z1i (nm 1) (opt (cst (.int 1))) optN)) (gNm 0) (cstT true) (opN z1p [(nmV 0)]))]) [some (.imm (.str x)),some (.imm (z43 (z0p x))),none,none]=some (.nx [some (.imm (.str x)),some (.imm (z43 (z0p x))),some (.imm (.tuple ((z0p x).tail.map z8c))),none]):=by
  unfold asg
  rw[opN1 (t:=.list ((z0p x).tail.map z8c)) (by
   rw[z56 (f:=fun t=>z8c (partsOf t)) (ts:=(z0p x).tail.map fun ps=>.list (ps.map .str)) (by
    simp only[itA]
    rw[z7m (ts:=(z0p x).map fun ps=>.list (ps.map .str)) (a:=some 1) (b:=none) rfl rfl rfl,cut1,List.map_tail]
    rfl) (by rw[y13,List.length_tail];omega) fun t ht=>by
     obtain⟨r,hr,rfl⟩:=y0m.mp ht
     rw[opN1 (t:=.list (r.map .str)) rfl,(z2k r).2]
     exact zaj (hrw r (List.mem_of_mem_tail hr))]
   rw[y2b]
   congr 2
   exact List.map_congr_left fun r _=>congrArg z8c (z2k r).2)]
  rfl
 have a3:asg 3 (op2 oAdd (opN z0j [(nmV 1)]) (z06 [(nmV 2)])) [some (.imm (.str x)),some (.imm (z43 (z0p x))),some (.imm (.tuple ((z0p x).tail.map z8c))),none]=some (.nx [some (.imm (.str x)),some (.imm (z43 (z0p x))),some (.imm (.tuple ((z0p x).tail.map z8c))),some (.imm (z7t (z0p x)))]):=by
  unfold asg
  rw[z09 (t:=.tuple (z6f (z0p x))) (u:=.tuple [.tuple ((z0p x).tail.map z8c)]) (by rw[opN1 (t:=z43 (z0p x)) rfl];exact ziw hrw) rfl]
  simp only[oAdd]
  rw[if_pos (by simp;unfold big;omega)]
  rfl
 exact⟨_,rfl,rfl,rfl,fun g=>by rw[Co.seq_nx a1,Co.seq_nx a2,Co.seq_nx a3],fun r=>by rw[z6j a1,z6j a2,z6j a3]⟩
theorem zcz {x:Str} (hx:asc (ls x)) (hl:x.length<=800000) {R:Int} {os:List Ho.Op} (ep:z7t (z0p x)=Ho.houseT R os) (hv:Hv R os) (hp:z8h (Ho.houseT R os)=true) (hq:tx (z1h R os)=x):z3d [.str x]=some (Ho.houseT R os):=by
 obtain⟨ε,n0,n4,n4',hs,hz⟩:=zo1 hx hl
 have hR:0<=R/\R<1000000000:=by have:=hv.r;omega
 have h1:opN z4i [(nmV 3)] ε=some (.bool true):=by
  rw[opN1 n4,zmf (d:=0) (zk3 (zag hx hl)) (by omega),ep,hp]
 have h3:op2 oNe (opN z13 [(nmV 3)]) (nm 0) ε=some (.bool !(decide (tx (z1h R os)=x))):=by
  rw[z09 (t:=.str (tx (z1h R os))) (by rw[opN1 n4,ep];exact z65 hR hv.ow (by have:=hv.l;omega)) n0]
  exact ne_str (z8g hR.1 hv.ow) hx
 have h4:=z6g (z27 (z0m h1)) fun _=>z0m h3
 unfold z3d runF z9e
 show (seq _ _ [some (.imm (.str x)),none,none,none]).bind _=_
 rw[hs,z1r h4,decide_eq_true hq,if_neg (by simp)]
 simp only[rtn,n4',ep]
 rfl
theorem zuw {ps:List Str} (h:Rw ps):Gd 1 (evT ps):=by
 cases ps with
 | nil=>exact absurd rfl h.ne
 | cons a r =>
  unfold evT
  dsimp only
  split
  ·refine Gd.mk_tup (d:=0) fun t ht=>?_
   rcases y09.mp ht with rfl|ht
   ·exact z2l z68 (by decide)
   ·obtain⟨q,hq,rfl⟩:=y0m.mp ht
    exact zf9 q
  ·split
   ·refine Gd.mk_tup (d:=0) fun t ht=>?_
    rcases y10.mp ht with ht|ht
    ·obtain⟨q,hq,rfl⟩:=y0m.mp ht
     exact z47 (h.p q hq)
    ·rw[y0y] at ht
     subst ht
     exact zfa
   ·refine Gd.mk_tup (d:=0) fun t ht=>?_
    obtain⟨q,hq,rfl⟩:=y0m.mp ht
    exact z47 (h.p q hq)
noncomputable def evOk (p:Pl):Et->Prop
 | .line z w=>z∈z6d p/\w∈zf5
 | .code f d z=>figB (.str f)=true/\((z=none/\d∈(["set","unset"]:List Str))\/∃x,z=some x/\x∈z6d p/\d∈(["shunt","free"]:List Str))
 | .ticks n=>1<=n
structure PokN (p:Pl):Prop where
 ok:Pok p
 n:∀s∈z6d p,s.length<=4
theorem zcw {es:List Et} {B:Nat} (h:∀e∈es,Ew B e):asc (ls (tx (es.map evR))):=by
 rw[tx,z7s]
 refine znb fun ps hps q hq=>?_
 obtain⟨e,he,rfl⟩:=y0m.mp hps
 exact ((h e he).s q hq).1
theorem znx {p:Pl} (hp:PokN p) {x:Str} (hx:asc (ls x)) (hl:x.length<=800000):∃ε:Ev,nm 1 ε=some (.str x)/\nmV 2 ε=some (.tuple ((z0p x).map evT))/\nm 2 ε=some (.tuple ((z0p x).map evT)) /\
  opN z6q [(comp 1 [0] (itA (nmV 2)) (gNm 0) (cstT true) (opN z5x [(nmV 1),(nmV 0)]))] ε=some (.bool (((z0p x).map evT).all (zcb p))) /\
  (∀g:Fs,seq (asg 2 (opN z0t [(comp 1 [] (itA (opN z0u [(nmV 1)])) (gNm 0) (cstT true) (opN z1x [(nmV 0)]))])) g [some (.imm (encP p)),some (.imm (.str x)),none]=g ε) /\
  (∀r:Fz,seqZ (asg 2 (opN z0t [(comp 1 [] (itA (opN z0u [(nmV 1)])) (gNm 0) (cstT true) (opN z1x [(nmV 0)]))])) r [some (.imm (encP p)),some (.imm (.str x)),none]=r ε):=by
 have hrw:=zag hx hl
 have hrl:=z9w x
 have hbl:(z0p x).length<=big:=by unfold big;omega
 have e1:z0u [.str x]=some (z43 (z0p x)):=zgi (by omega)
 have a2:asg 2 (opN z0t [(comp 1 [] (itA (opN z0u [(nmV 1)])) (gNm 0) (cstT true) (opN z1x [(nmV 0)]))]) [some (.imm (encP p)),some (.imm (.str x)),none]=some (.nx [some (.imm (encP p)),some (.imm (.str x)),some (.imm (.tuple ((z0p x).map evT)))]):=by
  unfold asg
  rw[opN1 (t:=.list ((z0p x).map evT)) (by
   rw[z56 (f:=fun t=>evT (partsOf t)) (ts:=(z0p x).map fun ps=>.list (ps.map .str)) (zl9 (by rw[opN1 (t:=.str x) rfl];exact e1)) (by rw[y13];exact hbl) fun t ht=>by
     obtain⟨r,hr,rfl⟩:=y0m.mp ht
     rw[opN1 (t:=.list (r.map .str)) rfl,(z2k r).2]
     exact zd9 (hrw r hr)]
   rw[y2b]
   congr 2
   exact List.map_congr_left fun r _=>congrArg evT (z2k r).2)]
  rfl
 refine⟨_,rfl,rfl,rfl,?_,fun g=>by rw[Co.seq_nx a2],fun r=>by rw[z6j a2]⟩
 refine zkn (ts:=(z0p x).map evT) rfl (by rw[y13];exact hbl) fun t ht=>?_
 obtain⟨r,hr,rfl⟩:=y0m.mp ht
 rw[opN2 (t:=encP p) (u:=evT r) rfl rfl]
 exact zml hp.ok (d:=0) (zuw (hrw r hr)) (by omega)
theorem zgn {p:Pl} (hp:PokN p) {x:Str} (hx:asc (ls x)) (hl:x.length<=800000) {es:List Et} {B:Nat} (ee:(z0p x).map evT=es.map encE) (hew:∀e∈es,Ew B e) (hb:es.length*B<=16777216) (hB:B<=16777216) (hes:∀e∈es,zcb p (encE e)=true) (hq:tx (es.map evR)=x):z3v [encP p,.str x]=some (.tuple (es.map encE)):=by
 obtain⟨ε,n1,n2,n2',h1,hs,hz⟩:=znx hp hx hl
 have hlen:es.length=(z0p x).length:=by
  have:=congrArg List.length ee
  simpa using this.symm
 have hrl:=z9w x
 have ha:((z0p x).map evT).all (zcb p)=true:=by
  rw[ee,List.all_eq_true]
  intro t ht
  obtain⟨e,he,rfl⟩:=y0m.mp ht
  exact hes e he
 rw[ha] at h1
 have h3:op2 oNe (opN z1j [(nmV 2)]) (nm 1) ε=some (.bool !(decide (tx (es.map evR)=x))):=by
  rw[z09 (t:=.str (tx (es.map evR))) (by rw[opN1 n2,ee];exact z7o hew hb (by omega) hB) n1]
  exact ne_str (zcw hew) hx
 have h4:=z6g (z27 (z0m h1)) fun _=>z0m h3
 unfold z3v runF zcf
 show (seq _ _ [some (.imm (encP p)),some (.imm (.str x)),none]).bind _=_
 rw[hs,z1r h4,decide_eq_true hq,if_neg (by simp)]
 simp only[rtn,n2',ee]
 rfl
end Fo
end
section
namespace Fo
open D Co PySem
theorem z9x:∀{ss:List Str},ss.Pairwise (fun a b=>strLt a b=true)->z4v ss=true
 | [],_=>rfl
 | [x],_=>rfl
 | x::y::r,h=>by
  rw[List.pairwise_cons] at h
  simp only[z4v,h.1 y (by simp),Bool.true_and]
  exact z9x h.2
theorem pw_z:(zN.map (·.2)).Pairwise (fun a b=>strLt a b=true):=by decide +kernel
theorem pw_c:(cN.map (·.2)).Pairwise (fun a b=>strLt a b=true):=by decide +kernel
theorem pw_r:z4w.Pairwise (fun a b=>strLt a b=true):=by decide +kernel
theorem zci {l:List Str} {f:Str->Bool} (h:l.all f=true) {x:Str} (hx:x∈l):f x=true:=List.all_eq_true.mp h x hx
theorem n_z:(zN.map (·.2)).all (fun s=>z5j (.str s))=true:=by decide +kernel
theorem n_c:(cN.map (·.2)).all (fun s=>figB (.str s))=true:=by decide +kernel
theorem n_w:whos.all (fun s=>z5j (.str s))=true:=by decide +kernel
theorem n_k:kinds.all (fun s=>decide (s∈z8f))=true:=by decide +kernel
theorem zw1 {p:Pl} (h:DP p):Pv p:=by
 refine⟨?_,h.zl,fun z hz=>⟨?_,?_⟩,z9x (pw_z.sublist h.zs),?_,h.cl,fun k hk=>?_,z9x (pw_c.sublist h.cs),?_,?_,?_⟩
 ·have:=List.length_pos_iff.mpr h.z0
  omega
 ·exact zci n_z (h.zs.subset (y0m.mpr ⟨z,hz,rfl⟩))
 ·exact of_decide_eq_true (zci n_k (h.zk z hz))
 ·have:=List.length_pos_iff.mpr h.c0
  omega
 ·obtain⟨h1,h2,h3⟩:=h.ck k hk
  refine⟨zci n_c (h.cs.subset (y0m.mpr ⟨k,hk,rfl⟩)),zci n_w h1,h2.length_le,fun r hr=>h2.subset hr,z9x (pw_r.sublist h2),?_,?_⟩
  ·simp only[y09,y24,or_false] at h3
   omega
  ·simp only[y09,y24,or_false] at h3
   omega
 ·have:=h.tl
  simp only[y09,y24,or_false] at this
  omega
 ·have:=h.tc
  simp only[y09,y24,or_false] at this
  omega
 ·have:=h.to
  simp only[y09,y24,or_false] at this
  omega
theorem zlj {p:Pl} (h:Pv p):PokN p:=by
 refine⟨⟨fun s hs=>?_,?_⟩,fun s hs=>?_⟩
 ·obtain⟨z,hz,rfl⟩:=y0m.mp hs
  exact za1 (h.zs z hz).1
 ·have:=h.z8
  omega
 ·obtain⟨z,hz,rfl⟩:=y0m.mp hs
  have:=z4e (h.zs z hz).1
  omega
theorem z63 {a:Int} {k:Nat} (h0:0<=a) (hk:0<k) (h:a.toNat<10 ^ k):(strI a).length<=k:=by
 rw[z4b h0,z1g,z7l,y13]
 exact (Nat.length_toDigits_le_iff (by decide) hk).mpr h
theorem zi6 {rs:List (List Str)} {B:Nat} (h:∀ps∈rs,(rowL ps).length<=B):(txL rs).length<=rs.length*B:=by
 induction rs with
 | nil=>simp[txL]
 | cons r rs ih =>
  have h1:=h r (by simp)
  have h2:=ih fun ps hps=>h ps (y05 _ hps)
  simp only[txL,y0d,y22,y1x,y0v] at h2 ⊢
  have e:(rs.length+1)*B=rs.length*B+B:=by rw[Nat.add_mul,Nat.one_mul]
  omega
theorem zdv (rs:List (List Str)):(tx rs).length=(txL rs).length:=by rw[z1g,tx,z7s]
theorem zd1 {p:Pl} (h:Pv p):(tx (z3m p)).length<=440:=by
 rw[zdv]
 have e:txL (z3m p)=rowL (z2c p)++(txL (p.zones.map z5g)++txL (p.codes.map z4f)):=by
  simp[txL,z3m]
 rw[e,y1x,y1x]
 have h1:(rowL (z2c p)).length<=4*(5+1)+1:=by
  refine z4u (by simp[z2c]) fun q hq=>?_
  have t1:=h.t1
  have t2:=h.t2
  have t3:=h.t3
  simp only[z2c,y09,y24,or_false] at hq
  rcases hq with rfl|rfl|rfl|rfl
  ·decide
  ·exact z63 (by omega) (by decide) (by omega)
  ·exact z63 (by omega) (by decide) (by omega)
  ·exact z63 (by omega) (by decide) (by omega)
 have h2:=zi6 (rs:=p.zones.map z5g) (B:=3*(5+1)+1) fun ps hps=>by
  obtain⟨z,hz,rfl⟩:=y0m.mp hps
  obtain⟨z1,z2⟩:=h.zs z hz
  have z3:=z4e z1
  refine z4u (by simp[z5g]) fun q hq=>?_
  simp only[z5g,y09,y24,or_false] at hq
  rcases hq with rfl|rfl|rfl
  ·decide
  ·omega
  ·exact zar 5 (by decide +kernel) z2
 have h3:=zi6 (rs:=p.codes.map z4f) (B:=7*(5+1)+1) fun ps hps=>by
  obtain⟨k,hk,rfl⟩:=y0m.mp hps
  obtain⟨k1,k2,k3,k4,_,k5,k6⟩:=h.cs k hk
  have f1:=zb0 k1
  have f2:=z4e k2
  refine z4u (by simp[z4f];omega) fun q hq=>?_
  simp only[z4f,y09] at hq
  rcases hq with rfl|rfl|rfl|rfl|hq
  ·decide
  ·omega
  ·omega
  ·exact z63 k5 (by decide) (by omega)
  ·exact zar 5 (by decide +kernel) (k4 q hq)
 rw[y13] at h2 h3
 have:=h.z8
 have:=h.c6
 omega
theorem zuu {R:Int} {os:List Ho.Op} (h:Ho.Drawn R os):Hv R os:=by
 refine⟨⟨h.r1,h.r7⟩,h.len,fun o ho=>?_⟩
 obtain⟨h1,h2,h3,h4⟩:=h.ok o ho
 refine⟨h1,h2,h3,fun x hx=>zci (l:=Ho.names5) (f:=fun s=>z5j (.str s)) (by decide +kernel) (h4 x hx)⟩
theorem zau {R:Int} {os:List Ho.Op} (h:Hv R os):(tx (z1h R os)).length<=440:=by
 rw[zdv]
 have hr:=h.r
 have:=zi6 (rs:=z1h R os) (B:=3*(5+1)+1) fun ps hps=>by
  rcases y09.mp hps with rfl|hps
  ·refine z4u (by simp) fun q hq=>?_
   simp only[y09,y24,or_false] at hq
   rcases hq with rfl|rfl
   ·decide
   ·exact z63 (by omega) (by decide) (by omega)
  ·obtain⟨o,ho,rfl⟩:=y0m.mp hps
   obtain⟨h1,h2,h3,h4⟩:=h.o o ho
   refine z4u (by simp[opR]) fun q hq=>?_
   simp only[opR,y09,y24,or_false] at hq
   rcases hq with rfl|rfl|rfl
   ·exact z63 (by omega) (by decide) (by omega)
   ·exact z63 (by omega) (by decide) (by omega)
   ·cases hz:o.2.2 with
    | none=>decide
    | some x =>
     have:=z4e (h4 x hz)
     show x.length<=5
     omega
 have hl:=h.l
 simp only[z1h,y0v,y13] at this
 simp only[z1h]
 omega
theorem f_5:zhk.all (fun s=>figB (.str s))=true:=by decide +kernel
theorem zmn {p:Pl} {e:Et} (h:DE p e):evOk p e:=by
 cases e with
 | line z w =>
  refine⟨h.1,?_⟩
  have:=h.2
  simp only[y09,y24,or_false] at this
  rcases this with rfl|rfl|rfl|rfl
  ·decide
  ·decide
  ·decide
  ·decide
 | code f d z =>
  refine⟨zci f_5 h.1,?_⟩
  rcases h.2 with ⟨h1,h2⟩|⟨h1,x,h2,h3⟩
  ·refine .inl ⟨h2,?_⟩
   rcases h1 with rfl|rfl
   ·decide
   ·decide
  ·refine .inr ⟨x,h2,h3,?_⟩
   rcases h1 with rfl|rfl
   ·decide
   ·decide
 | ticks n=>exact h.1
theorem zsa {p:Pl} (hp:PokN p) {e:Et} (h:evOk p e) (hn:∀n,e=.ticks n->n<=1000000000):Ew 45 e:=by
 have r1:∀{ps:List Str},ps.length<=4->(∀q∈ps,q.length<=10)->(rowL ps).length<=45:=fun {ps} h1 h2=>by
  have:=z4u h1 h2
  omega
 cases e with
 | line z w =>
  obtain⟨h1,h2⟩:=h
  have l1:=hp.n z h1
  have l2:w.length<=4:=zar 4 (by decide +kernel) h2
  refine⟨fun x hx=>?_,fun n e=>(by cases e),r1 (by simp[evR]) fun x hx=>?_⟩
  ·simp only[evR,y09,y24,or_false] at hx
   rcases hx with rfl|rfl|rfl
   ·exact⟨zg6,by decide⟩
   ·exact⟨hp.ok.z _ h1,by omega⟩
   ·exact⟨zne _ h2,by omega⟩
  ·simp only[evR,y09,y24,or_false] at hx
   rcases hx with rfl|rfl|rfl
   ·decide
   ·omega
   ·omega
 | code f d z =>
  obtain⟨h1,h2⟩:=h
  have l1:=(zb0 h1).1
  have a1:=zmk h1
  rcases h2 with ⟨rfl,h2⟩|⟨x,rfl,h3,h2⟩
  ·have l2:d.length<=5:=zar 5 (by decide +kernel) h2
   refine⟨fun x hx=>?_,fun n e=>(by cases e),r1 (by simp[evR]) fun x hx=>?_⟩
   ·simp only[evR,y09,y24,or_false] at hx
    rcases hx with rfl|rfl|rfl
    ·exact⟨z74,by decide⟩
    ·exact⟨a1,by omega⟩
    ·exact⟨a_da _ h2,by omega⟩
   ·simp only[evR,y09,y24,or_false] at hx
    rcases hx with rfl|rfl|rfl
    ·decide
    ·omega
    ·omega
  ·have l2:d.length<=5:=zar 5 (by decide +kernel) h2
   have l3:=hp.n x h3
   refine⟨fun y hx=>?_,fun n e=>(by cases e),r1 (by simp[evR]) fun y hx=>?_⟩
   ·simp only[evR,y09,y24,or_false] at hx
    rcases hx with rfl|rfl|rfl|rfl
    ·exact⟨z74,by decide⟩
    ·exact⟨a1,by omega⟩
    ·exact⟨a_dz _ h2,by omega⟩
    ·exact⟨hp.ok.z _ h3,by omega⟩
   ·simp only[evR,y09,y24,or_false] at hx
    rcases hx with rfl|rfl|rfl|rfl
    ·decide
    ·omega
    ·omega
    ·omega
 | ticks n =>
  have h1:1<=n:=h
  have h2:=hn n rfl
  have l:=z63 (a:=n) (k:=10) (by omega) (by decide) (by omega)
  refine⟨fun x hx=>?_,fun n e=>?_,r1 (by simp[evR]) fun x hx=>?_⟩
  ·simp only[evR,y09,y24,or_false] at hx
   rcases hx with rfl|rfl
   ·exact⟨z68,by decide⟩
   ·exact⟨z5k (by omega),by omega⟩
  ·cases e
   refine⟨by omega,?_⟩
   have w1:=zvf
   have w2:(1000000001:Int)<=W64:=by decide +kernel
   omega
  ·simp only[evR,y09,y24,or_false] at hx
   rcases hx with rfl|rfl
   ·decide
   ·exact l
theorem DE.tick {p:Pl} {e:Et} (h:DE p e):∀n,e=.ticks n->n<=1000000000:=fun n en=>by
 subst en
 exact h.2
theorem zgj {es:List Et} (h:∀e∈es,Ew 45 e):(tx (es.map evR)).length<=es.length*45:=by
 rw[zdv]
 have:=zi6 (rs:=es.map evR) (B:=45) fun ps hps=>by
  obtain⟨e,he,rfl⟩:=y0m.mp hps
  exact (h e he).l
 rw[y13] at this
 exact this
theorem house_same (n:Int):Fo.d_l_house [.int n]=Ho.d_l_house [.int n]:=rfl
end Fo
end
section
namespace Fo
open D Co PySem
def okP (q:Str):Prop:=32∉ls q/\10∉ls q
structure Cl (ps:List Str):Prop where
 ne:ps≠[]
 p:∀q∈ps,okP q
theorem zun:∀{ps:List (List Nat)},(∀p∈ps,10∉p)->10∉jn 32 ps
 | [],_=>by simp[jn]
 | [p],h=>h p (by simp)
 | p::q::r,h=>by
  simp only[jn,y10,y09,not_or]
  exact⟨h p (by simp),by decide,zun fun x hx=>h x (y05 _ hx)⟩
theorem zpw:∀{rs:List (List Str)},(∀ps∈rs,Cl ps)->spl 10 (txL rs)=(rs.map fun ps=>jn 32 (ps.map ls))++[[]]
 | [],_=>rfl
 | r::rs,h=>by
  have e:txL (r::rs)=jn 32 (r.map ls)++10::txL rs:=by simp[txL,rowL]
  have hr:=h r (by simp)
  rw[e,zcm _ (zun fun p hp=>by
   obtain⟨q,hq,rfl⟩:=y0m.mp hp
   exact (hr.p q hq).2),zpw fun ps hps=>h ps (y05 _ hps)]
  rfl
theorem zaf {rs:List (List Str)} (h:∀ps∈rs,Cl ps):z0p (tx rs)=rs:=by
 unfold z0p
 rw[tx,z7s,zpw h,List.dropLast_concat,y2b]
 conv=>rhs;rw[<- List.map_id rs]
 refine List.map_congr_left fun ps hps=>?_
 have hp:=h ps hps
 show (spl 32 (jn 32 (ps.map ls))).map st=ps
 rw[zl3 (fun e=>hp.ne (List.map_eq_nil_iff.mp e)) fun p hp'=>by
  obtain⟨q,hq,rfl⟩:=y0m.mp hp'
  exact (hp.p q hq).1,y2b]
 conv=>rhs;rw[<- List.map_id ps]
 exact List.map_congr_left fun q _=>zj2 q
theorem zbo {q:Str} (h:((ls q).all fun c=>decide (c≠32) && decide (c≠10))=true:=by decide +kernel):okP q:=by
 rw[List.all_eq_true] at h
 constructor
 ·intro hm
  have:=h 32 hm
  simp at this
 ·intro hm
  have:=h 10 hm
  simp at this
theorem z9z {x:Str} (h:z5j (.str x)=true):okP x:=by
 have h1:=(z4e h).2.2
 exact⟨fun hm=>by have:=h1 32 hm;omega,fun hm=>by have:=h1 10 hm;omega⟩
theorem zgt {x:Str} (h:figB (.str x)=true):okP x:=by
 have h1:=(zb0 h).2
 exact⟨fun hm=>by have:=h1 32 hm;omega,fun hm=>by have:=h1 10 hm;omega⟩
theorem z6o {a:Int} (h:0<=a):okP (strI a):=by
 have h1:=z4k h
 exact⟨fun hm=>by have:=h1 32 hm;omega,fun hm=>by have:=h1 10 hm;omega⟩
theorem zen {l:List Str} {x:Str} (h:(l.all fun q=>(ls q).all fun c=>decide (c≠32) && decide (c≠10))=true) (hx:x∈l):okP x:=zbo (List.all_eq_true.mp h x hx)
theorem z5q {a:Int} (h:0<=a):numT (strI a)=.int a:=by
 have hd:digB (strI a)=true:=by
  rw[digB,y19,List.all_eq_true]
  refine⟨decide_eq_true ?_,fun c hc=>?_⟩
  ·rw[z4b h,z1g,z7l,y13]
   exact Nat.length_toDigits_pos
  ·have:=z4k h c hc
   rw[y19,decide_eq_true_eq,decide_eq_true_eq]
   exact this
 unfold numT
 rw[if_pos hd,z4b h,zda,Int.toNat_of_nonneg h]
theorem zob {p:Pl} (h:Pv p):zjg (encP p)=true:=by
 have hz:z83 (.tuple (p.zones.map encZ))=true:=by
  simp only[z83,y19,decide_eq_true_eq,y13,List.all_eq_true]
  refine⟨⟨⟨h.z1,h.z8⟩,fun t ht=>?_⟩,?_⟩
  ·obtain⟨z,hz,rfl⟩:=y0m.mp ht
   obtain⟨h1,h2⟩:=h.zs z hz
   simp only[zbl,encZ,h1,inB,decide_eq_true h2,Bool.and_self]
  ·rw[y2b]
   exact h.zr
 have hc:z8i (.tuple (p.codes.map z25))=true:=by
  simp only[z8i,y19,decide_eq_true_eq,y13,List.all_eq_true]
  refine⟨⟨⟨h.c1,h.c6⟩,fun t ht=>?_⟩,?_⟩
  ·obtain⟨k,hk,rfl⟩:=y0m.mp ht
   obtain⟨h1,h2,h3,h4,h5,h6,h7⟩:=h.cs k hk
   have hr:z8u (.tuple (k.rights.map .str))=true:=by
    simp only[z8u,y19,decide_eq_true_eq,y13,List.all_eq_true]
    refine⟨h3,fun t ht=>?_,?_⟩
    ·obtain⟨r,hr,rfl⟩:=y0m.mp ht
     exact decide_eq_true (h4 r hr)
    ·rw[y2b,show txS ∘ y1r=id from rfl,List.map_id]
     exact h5
   simp only[codeB,z25,h1,h2,hr,z11,decide_eq_true h6,decide_eq_true h7,Bool.and_self]
  ·rw[y2b]
   exact h.cr
 have t1:=h.t1
 have t2:=h.t2
 have t3:=h.t3
 simp only[zjg,encP,hz,hc,zbu,z11,decide_eq_true t1.1,decide_eq_true t1.2,decide_eq_true t2.1,decide_eq_true t2.2,decide_eq_true t3.1,decide_eq_true t3.2,Bool.and_self]
theorem zmg {R:Int} {os:List Ho.Op} (h:Hv R os):z8h (Ho.houseT R os)=true:=by
 have hr:=h.r
 simp only[z8h,Ho.houseT,z11,decide_eq_true hr.1,decide_eq_true hr.2,Bool.and_self,Bool.true_and,y19,decide_eq_true_eq,y13,List.all_eq_true]
 refine⟨h.l,fun t ht=>?_⟩
 obtain⟨o,ho,rfl⟩:=y0m.mp ht
 obtain⟨h1,h2,h3,h4⟩:=h.o o ho
 have hz:(zgx (Ho.zT o.2.2) || z5j (Ho.zT o.2.2))=true:=by
  cases hz:o.2.2 with
  | none=>rfl
  | some x =>
   rw[Bool.or_eq_true]
   exact .inr (h4 x hz)
 simp only[zej,Ho.opT,z11,hz,Bool.and_true,y19,decide_eq_true_eq]
 omega
theorem zmm {p:Pl} {e:Et} (h:evOk p e):zcb p (encE e)=true:=by
 unfold zcb
 cases e with
 | line z w =>
  rw[Bool.or_eq_true]
  left
  simp only[zjz,encE,inB,decide_eq_true h.1,decide_eq_true h.2,Bool.and_self,Bool.and_true]
  decide +kernel
 | code f d z =>
  rw[Bool.or_eq_true,Bool.or_eq_true]
  right
  left
  obtain⟨h1,h2⟩:=h
  simp only[z9d,encE,h1,Bool.true_and]
  rw[show eqS "code" (.str "code")=true from zv0,Bool.true_and]
  rcases h2 with ⟨rfl,h2⟩|⟨x,rfl,h3,h2⟩
  ·rw[if_pos (show inB ["set","unset"] (.str d)=true from decide_eq_true h2)]
   rfl
  ·have hn:¬(inB ["set","unset"] (.str d)=true):=by
    intro hq
    have hq':=of_decide_eq_true (show decide (d∈(["set","unset"]:List Str))=true from hq)
    simp only[y09,y24,or_false] at hq' h2
    rcases hq' with rfl|rfl <;> rcases h2 with h2|h2 <;> revert h2 <;> decide +kernel
   rw[if_neg hn,y19]
   exact⟨decide_eq_true h2,decide_eq_true h3⟩
 | ticks n =>
  rw[Bool.or_eq_true,Bool.or_eq_true]
  right
  right
  simp only[zbv,encE,z9a,posB,Bool.true_and,y19]
  exact⟨zuy,decide_eq_true h⟩
theorem zhn {p:Pl} (h:Pv p):∀ps∈z3m p,Cl ps:=by
 intro ps hps
 have t1:=h.t1
 have t2:=h.t2
 have t3:=h.t3
 rcases y09.mp hps with rfl|hps
 ·refine⟨by simp[z2c],fun q hq=>?_⟩
  simp only[z2c,y09,y24,or_false] at hq
  rcases hq with rfl|rfl|rfl|rfl
  ·exact zbo
  ·exact z6o t1.1
  ·exact z6o t2.1
  ·exact z6o (by omega)
 ·rcases y10.mp hps with hps|hps
  ·obtain⟨z,hz,rfl⟩:=y0m.mp hps
   obtain⟨h1,h2⟩:=h.zs z hz
   refine⟨by simp[z5g],fun q hq=>?_⟩
   simp only[z5g,y09,y24,or_false] at hq
   rcases hq with rfl|rfl|rfl
   ·exact zbo
   ·exact z9z h1
   ·exact zen (l:=z8f) (by decide +kernel) h2
  ·obtain⟨k,hk,rfl⟩:=y0m.mp hps
   obtain⟨h1,h2,h3,h4,h5,h6,h7⟩:=h.cs k hk
   refine⟨by simp[z4f],fun q hq=>?_⟩
   simp only[z4f,y09] at hq
   rcases hq with rfl|rfl|rfl|rfl|hq
   ·exact zbo
   ·exact zgt h1
   ·exact z9z h2
   ·exact z6o h6
   ·exact zen (l:=z4w) (by decide +kernel) (h4 q hq)
theorem z9b {α:Type} {f:α->List Str} {s:Str} (l:List α) (h:∀a∈l,hd s (f a)=true):(l.map f).filter (hd s)=l.map f:=List.filter_eq_self.mpr fun ps hps=>by
 obtain⟨a,ha,rfl⟩:=y0m.mp hps
 exact h a ha
theorem z9c {α:Type} {f:α->List Str} {s:Str} (l:List α) (h:∀a∈l,hd s (f a)=false):(l.map f).filter (hd s)=[]:=List.filter_eq_nil_iff.mpr fun ps hps=>by
 obtain⟨a,ha,rfl⟩:=y0m.mp hps
 rw[h a ha]
 simp
theorem cutA {α:Type} (a b c:α) (r:List α):cutZ (a::b::c::r) (some 1) (some 3)=[b,c]:=by
 unfold cutZ
 have e1:D.sIx (a::b::c::r).length 0 (some 1)=1:=by simp[D.sIx];omega
 have e2:D.sIx (a::b::c::r).length (a::b::c::r).length (some 3)=3:=by simp[D.sIx];omega
 rw[e1,e2]
 rfl
theorem cutB {α:Type} (a b c d:α) (r:List α):cutZ (a::b::c::d::r) (some 4) none=r:=by
 unfold cutZ
 have e1:D.sIx (a::b::c::d::r).length 0 (some 4)=4:=by simp[D.sIx];omega
 have e2:D.sIx (a::b::c::d::r).length (a::b::c::d::r).length none=(a::b::c::d::r).length:=rfl
 rw[e1,e2]
 simp
theorem cutC {α:Type} (a b c d:α) (r:List α):cutZ (a::b::c::d::r) (some 3) (some 4)=[d]:=by
 unfold cutZ
 have e1:D.sIx (a::b::c::d::r).length 0 (some 3)=3:=by simp[D.sIx];omega
 have e2:D.sIx (a::b::c::d::r).length (a::b::c::d::r).length (some 4)=4:=by simp[D.sIx];omega
 rw[e1,e2]
 rfl
theorem zgq {p:Pl} (h:Pv p):zgr (z3m p)=encP p:=by
 have t1:=h.t1
 have t2:=h.t2
 have t3:=h.t3
 have ez:(z3m p).filter (hd "zone")=p.zones.map z5g:=by
  rw[z3m,List.filter_cons_of_neg (by
   show ¬hd "zone" ("times"::_)=true
   unfold hd
   rw[List.head?_cons]
   decide +kernel),List.filter_append,z9b p.zones (fun z _=>decide_eq_true rfl),z9c p.codes (fun k _=>by
   show hd "zone" ("code"::_)=false
   unfold hd
   rw[List.head?_cons]
   decide +kernel),y1t]
 have ec:(z3m p).filter (hd "code")=p.codes.map z4f:=by
  rw[z3m,List.filter_cons_of_neg (by
   show ¬hd "code" ("times"::_)=true
   unfold hd
   rw[List.head?_cons]
   decide +kernel),List.filter_append,z9c p.zones (fun z _=>by
   show hd "code" ("zone"::_)=false
   unfold hd
   rw[List.head?_cons]
   decide +kernel),z9b p.codes (fun k _=>decide_eq_true rfl),List.nil_append]
 have ea:z6f (z3m p)=[.int p.leave,.int p.come,.int p.loud]:=by
  show [numT (strI p.leave),numT (strI p.come),numT (strI p.loud)]=_
  rw[z5q t1.1,z5q t2.1,z5q (by omega)]
 unfold zgr
 rw[ez,ec,ea,y2b,y2b]
 unfold encP
 congr 4
 have:∀k∈p.codes,zfg (z4f k)=z25 k:=fun k hk=>by
  obtain⟨h1,h2,h3,h4,h5,h6,h7⟩:=h.cs k hk
  unfold zfg z4f
  rw[cutA,cutB,cutC]
  simp only[y0d,y17,z5q h6]
  rfl
 exact List.map_congr_left this
theorem z7i {p:Pl} (h:Pv p):z34 [.str (tx (z3m p))]=some (encP p) :=
 zef (z9y h.pw) (by have:=zd1 h;omega) (by rw[zaf (zhn h),zgq h]) h (zob h) rfl
theorem zdf {R:Int} {os:List Ho.Op} (h:Hv R os):∀ps∈z1h R os,Cl ps:=by
 intro ps hps
 have hr:=h.r
 rcases y09.mp hps with rfl|hps
 ·refine⟨by simp,fun q hq=>?_⟩
  simp only[y09,y24,or_false] at hq
  rcases hq with rfl|rfl
  ·exact zbo
  ·exact z6o (by omega)
 ·obtain⟨o,ho,rfl⟩:=y0m.mp hps
  obtain⟨h1,h2,h3,h4⟩:=h.o o ho
  refine⟨by simp[opR],fun q hq=>?_⟩
  simp only[opR,y09,y24,or_false] at hq
  rcases hq with rfl|rfl|rfl
  ·exact z6o h1
  ·exact z6o (by omega)
  ·cases hz:o.2.2 with
   | none=>exact zbo
   | some x=>exact z9z (h4 x hz)
theorem zro {R:Int} {os:List Ho.Op} (h:Hv R os):∀o∈os,z8c (opR o)=Ho.opT o:=fun o ho=>by
 obtain⟨h1,h2,h3,h4⟩:=h.o o ho
 have e1:cutZ (opR o) none (some 2)=[strI o.1,strI o.2.1]:=rfl
 have e2:cutZ (opR o) (some 2) none=[zS o.2.2]:=rfl
 unfold z8c
 rw[e1,e2]
 simp only[y0d,y17,z5q h1,z5q (show 0<=o.2.1 by omega)]
 have e3:zoT (zS o.2.2)=Ho.zT o.2.2:=by
  cases hz:o.2.2 with
  | none=>rfl
  | some x =>
   show (if x="-" then PyData.none else .str x)=.str x
   rw[if_neg]
   rintro rfl
   have:=h4 _ hz
   revert this
   decide +kernel
 rw[e3]
 rfl
theorem zav {R:Int} {os:List Ho.Op} (h:Hv R os):z7t (z1h R os)=Ho.houseT R os:=by
 have hr:=h.r
 unfold z7t
 have ea:z6f (z1h R os)=[.int R]:=by
  show [numT (strI R)]=_
  rw[z5q (by omega)]
 have et:(z1h R os).tail.map z8c=os.map Ho.opT:=by
  show (os.map opR).map z8c=_
  rw[y2b]
  exact List.map_congr_left (zro h)
 rw[ea,et]
 rfl
theorem zah {R:Int} {os:List Ho.Op} (h:Hv R os):z3d [.str (tx (z1h R os))]=some (Ho.houseT R os):=by
 have hr:=h.r
 exact zcz (z8g (by omega) h.ow) (by have:=zau h;omega) (by rw[zaf (zdf h),zav h]) h (zmg h) rfl
theorem zv8 {p:Pl} (hp:Pv p) {e:Et} (h:evOk p e):Cl (evR e):=by
 have hn:∀x∈z6d p,okP x:=fun x hx=>by
  obtain⟨z,hz,rfl⟩:=y0m.mp hx
  exact z9z (hp.zs z hz).1
 cases e with
 | line z w =>
  refine⟨by simp[evR],fun q hq=>?_⟩
  simp only[evR,y09,y24,or_false] at hq
  rcases hq with rfl|rfl|rfl
  ·exact zbo
  ·exact hn _ h.1
  ·exact zen (l:=zf5) (by decide +kernel) h.2
 | code f d z =>
  obtain⟨h1,h2⟩:=h
  rcases h2 with ⟨rfl,h2⟩|⟨x,rfl,h3,h2⟩
  ·refine⟨by simp[evR],fun q hq=>?_⟩
   simp only[evR,y09,y24,or_false] at hq
   rcases hq with rfl|rfl|rfl
   ·exact zbo
   ·exact zgt h1
   ·exact zen (l:=["set","unset"]) (by decide +kernel) h2
  ·refine⟨by simp[evR],fun q hq=>?_⟩
   simp only[evR,y09,y24,or_false] at hq
   rcases hq with rfl|rfl|rfl|rfl
   ·exact zbo
   ·exact zgt h1
   ·exact zen (l:=["shunt","free"]) (by decide +kernel) h2
   ·exact hn _ h3
 | ticks n =>
  have h1:1<=n:=h
  refine⟨by simp[evR],fun q hq=>?_⟩
  simp only[evR,y09,y24,or_false] at hq
  rcases hq with rfl|rfl
  ·exact zbo
  ·exact z6o (by omega)
theorem n_lt:¬(("line":Str)="ticks"):=by decide +kernel
theorem n_lc:¬(("line":Str)="code"):=by decide +kernel
theorem n_ct:¬(("code":Str)="ticks"):=by decide +kernel
theorem zwl {p:Pl} {e:Et} (h:evOk p e):evT (evR e)=encE e:=by
 cases e with
 | line z w =>
  unfold evT evR
  dsimp only
  rw[if_neg n_lt,if_neg (fun q=>n_lc q.1)]
  rfl
 | code f d z =>
  cases z with
  | none =>
   unfold evT evR
   dsimp only
   rw[if_neg n_ct,if_pos ⟨rfl,rfl⟩]
   rfl
  | some x =>
   unfold evT evR
   dsimp only
   rw[if_neg n_ct,if_neg (fun q=>by have:=q.2;simp at this)]
   rfl
 | ticks n =>
  have h1:1<=n:=h
  unfold evT evR
  dsimp only
  rw[if_pos rfl]
  simp only[y0d,y17,z5q (show 0<=n by omega)]
  rfl
theorem z8a {p:Pl} (hp:Pv p) {es:List Et} (h:∀e∈es,evOk p e) (hn:∀e∈es,∀n,e=.ticks n->n<=1000000000) (hl:es.length<=10000):z3v [encP p,.str (tx (es.map evR))]=some (.tuple (es.map encE)):=by
 have hew:∀e∈es,Ew 45 e:=fun e he=>zsa (zlj hp) (h e he) (hn e he)
 have hlen:=zgj hew
 refine zgn (zlj hp) (zcw hew) (by omega) ?_ hew (by omega) (by omega) (fun e he=>zmm (h e he)) rfl
 rw[zaf fun ps hps=>by
  obtain⟨e,he,rfl⟩:=y0m.mp hps
  exact zv8 hp (h e he),y2b]
 exact List.map_congr_left fun e he=>zwl (h e he)
end Fo
end
section
namespace Fo
open D Co PySem
theorem zhh {p:Pl} (h:Pw p):Gd 4 (encP p):=by
 refine Gd.mk_tup fun t ht=>?_
 simp only[y09,y24,or_false] at ht
 rcases ht with rfl|rfl|rfl
 ·refine Gd.mk_tup fun t ht=>?_
  obtain⟨z,hz,rfl⟩:=y0m.mp ht
  obtain⟨h1,h2,h3,h4⟩:=h.zn z hz
  refine Gd.mk_tup (d:=1) fun t ht=>?_
  simp only[y09,y24,or_false] at ht
  rcases ht with rfl|rfl
  ·exact z2l h3 (by omega)
  ·exact z2l h4 (by omega)
 ·refine Gd.mk_tup fun t ht=>?_
  obtain⟨k,hk,rfl⟩:=y0m.mp ht
  obtain⟨h1,h2,h3,h4,h5,h6,h7,h8⟩:=h.cn k hk
  refine Gd.mk_tup (d:=1) fun t ht=>?_
  simp only[y09,y24,or_false] at ht
  rcases ht with rfl|rfl|rfl|rfl
  ·exact z2l h7 (by omega)
  ·exact z2l h8 (by omega)
  ·refine Gd.mk_tup (d:=0) fun t ht=>?_
   obtain⟨r,hr,rfl⟩:=y0m.mp ht
   exact z2l (h4 r hr).2 (by have:=(h4 r hr).1;omega)
  ·exact zaw
 ·refine Gd.mk_tup (d:=2) fun t ht=>?_
  simp only[y09,y24,or_false] at ht
  rcases ht with rfl|rfl|rfl <;> exact zaw
theorem zax {R:Int} {os:List Ho.Op} (h:∀o∈os,Ow o):Gd 3 (Ho.houseT R os):=by
 refine Gd.mk_tup fun t ht=>?_
 simp only[y09,y24,or_false] at ht
 rcases ht with rfl|rfl
 ·exact zaw
 ·refine Gd.mk_tup fun t ht=>?_
  obtain⟨o,ho,rfl⟩:=y0m.mp ht
  refine Gd.mk_tup (d:=0) fun t ht=>?_
  simp only[y09,y24,or_false] at ht
  rcases ht with rfl|rfl|rfl
  ·exact zaw
  ·exact zaw
  ·cases hz:o.2.2 with
   | none=>exact zfa
   | some x=>exact z2l ((h o ho).z x hz).2 (by have:=((h o ho).z x hz).1;omega)
theorem zs7 {B:Nat} {e:Et} (h:Ew B e):Gd 1 (encE e):=by
 have hs:=h.s
 cases e with
 | line z w =>
  refine Gd.mk_tup (d:=0) fun t ht=>?_
  simp only[y09,y24,or_false] at ht
  rcases ht with rfl|rfl|rfl
  ·exact z2l zg6 (by decide)
  ·exact z47 (hs z (by simp[evR]))
  ·exact z47 (hs w (by simp[evR]))
 | code f d z =>
  refine Gd.mk_tup (d:=0) fun t ht=>?_
  simp only[y09,y24,or_false] at ht
  rcases ht with rfl|rfl|rfl|rfl
  ·exact z2l z74 (by decide)
  ·exact z47 (hs f (by cases z <;> simp[evR]))
  ·exact z47 (hs d (by cases z <;> simp[evR]))
  ·cases z with
   | none=>exact zfa
   | some x=>exact z47 (hs x (by simp[evR]))
 | ticks n =>
  refine Gd.mk_tup (d:=0) fun t ht=>?_
  simp only[y09,y24,or_false] at ht
  rcases ht with rfl|rfl
  ·exact z2l z68 (by decide)
  ·exact zaw
theorem zqd {es:List Et} {B:Nat} (h:∀e∈es,Ew B e):Gd 2 (.tuple (es.map encE)):=Gd.mk_tup fun t ht=>by
 obtain⟨e,he,rfl⟩:=y0m.mp ht
 exact zs7 (h e he)
theorem ne_self {d:Nat} {f g:Fe} {ε:Ev} {t:T} (hf:f ε=some t) (hg:g ε=some t) (h:Gd d t) (hd:d<=60:=by decide):tstB (op2 oNe f g) ε=some false:=by
 refine z0m ?_
 rw[z09 hf hg]
 exact Co.oNe_self h.okN hd
theorem eq_self {d:Nat} {f g:Fe} {ε:Ev} {t:T} (hf:f ε=some t) (hg:g ε=some t) (h:Gd d t) (hd:d<=60:=by decide):op2 oEq f g ε=some (.bool true):=by
 rw[z09 hf hg]
 exact Co.oEq_self h.okN hd
theorem zqw (a b:List (List Str)):txL (a++b)=txL a++txL b:=by simp[txL]
theorem orF {ft gt:Ft} {ε:Ev} (h1:ft ε=some false) (h2:gt ε=some false):orT ft gt ε=some false:=z6g (a:=false) (b:=false) h1 fun _=>h2
theorem z8s {ft:Ft} {s1 s2:Fs} {ε:Ev} (h:ft ε=some false):seq (iff ft s1 skip) s2 ε=s2 ε:=by rw[z1r h,if_neg (by simp)]
theorem opN3 {d:List T->Option T} {f g h:Fe} {ε:Ev} {t u v:T} (h1:f ε=some t) (h2:g ε=some u) (h3:h ε=some v):opN d [f,g,h] ε=d [t,u,v]:=by simp[opN,args,h1,h2,h3]
theorem zbi {i:Nat} {f:Fe} {ε:Ev} {t:T} (h:f ε=some t):asg i f ε=some (.nx (ε.set i (some (.imm t)))):=by simp[asg,h]
end Fo
end
section
namespace Fo
open D Co PySem
theorem zvd {f g:Fe} {ε:Ev} {a b:List Nat} (hf:f ε=some (.str (st a))) (hg:g ε=some (.str (st b))) (hl:a.length+b.length<=1000000):op2 oAdd f g ε=some (.str (st (a++b))):=by
 rw[z09 hf hg]
 simp only[oAdd]
 rw[if_pos (by rw[z1g,z1g,z7s,z7s];unfold big;omega)]
 congr 2
 exact zf4 (by rw[z3h,z7s,z7s,z7s])
theorem add_l {f g:Fe} {ε:Ev} {a b:List T} (hf:f ε=some (.list a)) (hg:g ε=some (.list b)) (hl:a.length+b.length<=1000000):op2 oAdd f g ε=some (.list (a++b)):=by
 rw[z09 hf hg]
 simp only[oAdd]
 rw[if_pos (by unfold big;omega)]
theorem zpt {a b:List (List Str)} (ha:∀ps∈a,Cl ps) (hb:∀ps∈b,Cl ps) (h:tx a=tx b):a=b:=by
 rw[<- zaf ha,h,zaf hb]
end Fo
end
section
namespace Fo
open D Co PySem
mutual
noncomputable def nb:T->Bool
 | .bool _=>false
 | .dict _=>false
 | .tuple ts=>nbL ts
 | .list ts=>nbL ts
 | _=>true
noncomputable def nbL:List T->Bool
 | []=>true
 | t::ts=>nb t && nbL ts
end
mutual
theorem zqf:∀{t u:T},nb t=true->nb u=true->y1v t u=true->t=u
 | .none,u,_,_,h=>by cases u <;> simp[y1v] at h;rfl
 | .bool _,_,h,_,_=>by simp[nb] at h
 | .dict _,_,h,_,_=>by simp[nb] at h
 | .int i,u,_,hu,h=>by
  cases u <;> simp[y1v] at h
  ·simp[nb] at hu
  ·rw[h]
 | .str x,u,_,_,h=>by
  cases u <;> simp[y1v] at h
  rw[h]
 | .list xs,u,ht,hu,h=>by
  cases u <;> simp only[y1v,y1q] at h
  rw[nb] at ht hu
  rw[zhl ht hu h]
 | .tuple xs,u,ht,hu,h=>by
  cases u <;> simp only[y1v,y1q] at h
  rw[nb] at ht hu
  rw[zhl ht hu h]
theorem zhl:∀{ts us:List T},nbL ts=true->nbL us=true->PyData.eqvAll ts us=true->ts=us
 | [],[],_,_,_=>rfl
 | [],_::_,_,_,h=>by simp[PyData.eqvAll] at h
 | _::_,[],_,_,h=>by simp[PyData.eqvAll] at h
 | t::ts,u::us,ht,hu,h=>by
  rw[nbL,y19] at ht hu
  rw[PyData.eqvAll,y19] at h
  rw[zqf ht.1 hu.1 h.1,zhl ht.2 hu.2 h.2]
end
theorem zly:∀{ts:List T},nbL ts=true <-> ∀t∈ts,nb t=true
 | []=>by simp[nbL]
 | t::ts=>by rw[nbL,y19,zly];simp
theorem zao {ts:List T} (h:∀t∈ts,nb t=true):nb (.tuple ts)=true:=by rw[nb];exact zly.mpr h
theorem zlx (p:Pl):nb (encP p)=true:=by
 refine zao fun t ht=>?_
 simp only[y09,y24,or_false] at ht
 rcases ht with rfl|rfl|rfl
 ·refine zao fun t ht=>?_
  obtain⟨z,_,rfl⟩:=y0m.mp ht
  rfl
 ·refine zao fun t ht=>?_
  obtain⟨k,_,rfl⟩:=y0m.mp ht
  refine zao fun t ht=>?_
  simp only[y09,y24,or_false] at ht
  rcases ht with rfl|rfl|rfl|rfl
  ·rfl
  ·rfl
  ·refine zao fun t ht=>?_
   obtain⟨r,_,rfl⟩:=y0m.mp ht
   rfl
  ·rfl
 ·rfl
theorem zij (R:Int) (os:List Ho.Op):nb (Ho.houseT R os)=true:=by
 refine zao fun t ht=>?_
 simp only[y09,y24,or_false] at ht
 rcases ht with rfl|rfl
 ·rfl
 ·refine zao fun t ht=>?_
  obtain⟨⟨a,b,z⟩,_,rfl⟩:=y0m.mp ht
  cases z <;> rfl
theorem zuz {d:Nat} {f g:Fe} {ε:Ev} {t u:T} (hf:f ε=some t) (hg:g ε=some u) (ht:Gd d t) (hu:Gd d u) (n1:nb t=true) (n2:nb u=true) {b:Bool} (hb:b=true <-> t=u) (hd:d<=60:=by decide):op2 oEq f g ε=some (.bool b):=by
 rw[z09 hf hg]
 by_cases h:t=u
 ·subst h
  rw[hb.mpr rfl]
  exact Co.oEq_self ht.okN hd
 ·have hb':b=false:=by
   cases b with
   | true=>exact absurd (hb.mp rfl) h
   | false=>rfl
  rw[hb']
  simp only[oEq,ht.okT hd,hu.okT hd,Bool.and_self,if_true]
  congr 2
  cases he:y1v t u with
  | true=>exact absurd (zqf n1 n2 he) h
  | false=>rfl
theorem ztc:([34,39].all fun q=>(List.range 128).all fun c=>(Builtin.Str.reprChar q c).all fun a=>decide (a<128))=true:=by decide +kernel
theorem ztb {q c:Nat} (hq:q=34\/q=39) (hc:c<128):asc (Builtin.Str.reprChar q c):=fun a ha=>by
 have h1:=List.all_eq_true.mp ztc q (by rcases hq with rfl|rfl <;> simp)
 have h2:=List.all_eq_true.mp h1 c (List.mem_range.mpr hc)
 exact of_decide_eq_true (List.all_eq_true.mp h2 a ha)
theorem rq (x:Str):reprQuote x=34\/reprQuote x=39:=by
 unfold reprQuote
 split
 ·exact .inl rfl
 ·exact .inr rfl
theorem zio {q:Nat} (hq:q=34\/q=39):∀(l:List Nat) (acc:Array Nat),asc l->asc acc.toList->asc (l.foldl (fun out c=>out++(Builtin.Str.reprChar q c).toArray) acc).toList
 | [],acc,_,h=>h
 | c::l,acc,hl,h=>by
  rw[List.foldl_cons]
  refine zio hq l _ (fun a ha=>hl a (y05 _ ha)) ?_
  rw[Array.toList_append]
  exact z73 h (ztb hq (hl c (by simp)))
theorem zo2 {x:Str} (h:asc (ls x)):asc (ls (reprText x)):=by
 have h34:∀a∈[reprQuote x],a<128:=fun a ha=>by
  rw[y0y.mp ha]
  rcases rq x with e|e <;> rw[e] <;> omega
 show asc ((x.cps.foldl (fun out c=>out++(Builtin.Str.reprChar (reprQuote x) c).toArray) #[reprQuote x]).push (reprQuote x)).toList
 rw[Array.toList_push,<- Array.foldl_toList]
 exact z73 (zio (rq x) _ _ h h34) h34
structure Sw (B:Nat) (t:T):Prop where
 sh:t.showable=true
 nd:t.hasDict=false
 as:asc (ls t.shown)
 le:t.shown.length<=B
theorem Sw.mono {B C:Nat} {t:T} (h:Sw B t) (hc:B<=C):Sw C t:=⟨h.sh,h.nd,h.as,y1l h.le hc⟩
theorem zkz:Sw 2000 .none:=⟨rfl,rfl,by rw[PyData.shown_none];exact z9u,by rw[PyData.shown_none];decide +kernel⟩
theorem zl0 {i:Int} (h0:0<=i) (hw:i<W64) (hl:(strI i).length<=100):Sw 2000 (.int i) :=
 ⟨by
  have:=zil h0 hw
  rw[PyData.showable]
  exact this,rfl,by rw[PyData.shown_int];exact fun a ha=>(by
   have:=z4k h0 a ha
   omega),by rw[PyData.shown_int];exact y1l hl (by omega)⟩
theorem za8 {i:Int} (h0:0<=i) (h:i<1000000000):Sw 2000 (.int i):=zl0 h0 (Int.lt_trans h (by decide +kernel)) (z3x h0 h)
theorem za7 {x:Str} (h:asc (ls x)) (hl:x.length<=100):Sw 2000 (.str x) :=
 ⟨rfl,rfl,by rw[PyData.shown_str];exact zo2 h,by
  rw[PyData.shown_str]
  have:=StrLaws.reprText_len x fun c hc=>by
   have:=h c hc
   omega
  omega⟩
theorem z6i:∀ts:List T,PyData.shownAll ts=ts.map PyData.shown
 | []=>PyData.shownAll_nil
 | t::ts=>by rw[PyData.shownAll_cons,z6i ts];rfl
theorem zf6 {s:Str} (hs:asc (ls s)):∀ps:List Str,(∀p∈ps,asc (ls p))->asc (ls (Str.join s ps))
 | [],_=>fun a ha=>by cases ha
 | [p],h=>by rw[PyProof.Rows.join_one];exact h p (by simp)
 | p::q::r,h=>by
  rw[PyProof.Rows.join_cons_cons,z3h,z3h]
  exact z73 (z73 (h p (by simp)) hs) (zf6 hs (q::r) fun y hy=>h y (y05 _ hy))
theorem zpy:∀{ts:List T},(∀t∈ts,t.showable=true)->PyData.showableAll ts=true
 | [],_=>rfl
 | t::ts,h=>by rw[PyData.showableAll,h t (by simp),zpy fun u hu=>h u (y05 _ hu)];rfl
theorem zq9:∀{ts:List T},(∀t∈ts,t.hasDict=false)->PyData.hasDictAll ts=false
 | [],_=>rfl
 | t::ts,h=>by rw[PyData.hasDictAll,h t (by simp),zq9 fun u hu=>h u (y05 _ hu)];rfl
theorem zpu {B:Nat}:∀{ps:List Nat},(∀p∈ps,p<=B)->ps.sum<=ps.length*B
 | [],_=>by simp
 | p::ps,h=>by
  have h1:=h p (by simp)
  have h2:=zpu fun q hq=>h q (y05 p hq)
  rw[List.sum_cons,y0v,Nat.succ_mul]
  omega
theorem z69 {B n:Nat} {ts:List T} (h:∀t∈ts,Sw B t) (hn:ts.length<=n):Sw (n*(B+2)+4) (.tuple ts):=by
 have e2:asc (ls (", ":Str)):=z9u
 have l2:(", ":Str).length=2:=by decide +kernel
 have e3:asc (ls ("(":Str)):=z9u
 have e4:asc (ls (if ts.length == 1 then ",)" else ")":String)):=by split <;> exact z9u
 have l3:("(":Str).length=1:=by decide +kernel
 have l4:(Str.ofString (if ts.length == 1 then ",)" else ")":String)).length<=2:=by split <;> decide +kernel
 have hj:=StrLaws.join_length_le ", " (ts.map PyData.shown)
 rw[l2,y13,y2b] at hj
 have hs:=zpu (ps:=ts.map (Str.length ∘ PyData.shown)) (B:=B) fun p hp=>by
  obtain⟨t,ht,rfl⟩:=y0m.mp hp
  exact (h t ht).le
 rw[y13] at hs
 have hm:ts.length*(B+2)<=n*(B+2):=Nat.mul_le_mul_right _ hn
 rw[Nat.mul_add] at hm
 refine⟨by rw[PyData.showable];exact zpy fun t ht=>(h t ht).sh,by rw[PyData.hasDict];exact zq9 fun t ht=>(h t ht).nd,?_,?_⟩
 ·rw[PyData.shown_tuple,z6i,z3h,z3h]
  refine z73 (z73 e3 (zf6 e2 _ fun p hp=>?_)) e4
  obtain⟨t,ht,rfl⟩:=y0m.mp hp
  exact (h t ht).as
 ·rw[PyData.shown_tuple,z6i,z1g,z3h,z3h,y1x,y1x,<- z1g,<- z1g,<- z1g]
  have:(List.map (Str.length ∘ PyData.shown) ts).sum<=ts.length*B:=hs
  have hj2:(Str.join ", " (List.map PyData.shown ts)).length<=(List.map (Str.length ∘ PyData.shown) ts).sum+ts.length*2:=hj
  omega
theorem zq0 {f:Fe} {ε:Ev} {ts:List T} {B d:Nat} (hf:f ε=some (.tuple ts)) (h:Sw B (.tuple ts)) (hB:B<=1000000) (g:Gd d (.tuple ts)) (hd:d<=60:=by decide):opN z8w [f] ε=some (.str (PyData.tuple ts).shown):=by
 rw[opN1 hf]
 simp only[z8w]
 have:=h.le
 have hdp:=g.2
 rw[if_pos (by
  simp only[y19,Bool.not_eq_true',decide_eq_true_eq]
  exact⟨⟨⟨h.sh,h.nd⟩,by omega⟩,by omega⟩)]
theorem zgm {f g:Fe} {ε:Ev} {ts:List T} {B d:Nat} (hf:f ε=some (.tuple ts)) (hg:g ε=some (.tuple ts)) (h:Sw B (.tuple ts)) (hB:B<=1000000) (gdt:Gd d (.tuple ts)) (hd:d<=60:=by decide):tstB (op2 oNe (opN z8w [f]) (opN z8w [g])) ε=some false :=
 ne_self (d:=0) (zq0 hf h hB gdt hd) (zq0 hg h hB gdt hd) (z2l h.as (y1l h.le hB))
theorem zr0 {p:Pl} (h:Pw p):Sw 1000000 (encP p):=by
 have hh:Sw (3*(200000+2)+4) (encP p):=z69 (B:=200000) (fun t ht=>?_) (by simp)
 ·exact hh.mono (by omega)
 ·simp only[y09,y24,or_false] at ht
  rcases ht with rfl|rfl|rfl
  ·refine (z69 (B:=5000) (n:=8) (fun t ht=>?_) (by simpa using h.zl)).mono (by omega)
   obtain⟨z,hz,rfl⟩:=y0m.mp ht
   have:=h.zn z hz
   refine (z69 (B:=2000) (n:=2) (fun t ht=>?_) (by simp)).mono (by omega)
   simp only[y09,y24,or_false] at ht
   rcases ht with rfl|rfl
   ·exact za7 this.2.2.1 this.1
   ·exact za7 this.2.2.2 this.2.1
  ·refine (z69 (B:=25000) (n:=6) (fun t ht=>?_) (by simpa using h.cl)).mono (by omega)
   obtain⟨k,hk,rfl⟩:=y0m.mp ht
   obtain⟨k1,k2,k3,k4,k5,k6,k7,k8⟩:=h.cn k hk
   have hr:Sw (3*(2000+2)+4) (.tuple (k.rights.map .str)):=z69 (fun t ht=>by
    obtain⟨r,hr,rfl⟩:=y0m.mp ht
    exact za7 (k4 r hr).2 (k4 r hr).1) (by simpa using k3)
   have hk4:∀t∈[y1r k.fig,.str k.who,.tuple (k.rights.map .str),.int k.uses],Sw (3*(2000+2)+4) t:=fun t ht=>by
    simp only[y09,y24,or_false] at ht
    rcases ht with rfl|rfl|rfl|rfl
    ·exact (za7 k7 k1).mono (by omega)
    ·exact (za7 k8 k2).mono (by omega)
    ·exact hr
    ·exact (za8 k5 k6).mono (by omega)
   have:=z69 (n:=4) hk4 (by simp)
   exact this.mono (by omega)
  ·refine (z69 (B:=2000) (n:=3) (fun t ht=>?_) (by simp)).mono (by omega)
   simp only[y09,y24,or_false] at ht
   rcases ht with rfl|rfl|rfl
   ·exact za8 h.t1.1 h.t1.2
   ·exact za8 h.t2.1 h.t2.2
   ·exact za8 h.t3.1 h.t3.2
theorem znp {R:Int} {os:List Ho.Op} (hR:0<=R/\R<1000000000) (ho:∀o∈os,Ow o) (hl:os.length<=10):Sw 1000000 (Ho.houseT R os):=by
 have hh:Sw (2*(100000+2)+4) (Ho.houseT R os):=z69 (B:=100000) (fun t ht=>?_) (by simp)
 ·exact hh.mono (by omega)
 ·simp only[y09,y24,or_false] at ht
  rcases ht with rfl|rfl
  ·exact (za8 hR.1 hR.2).mono (by omega)
  ·refine (z69 (B:=7000) (n:=10) (fun t ht=>?_) (by simpa using hl)).mono (by omega)
   obtain⟨⟨a,b,z⟩,hm,rfl⟩:=y0m.mp ht
   have w:=ho _ hm
   refine (z69 (B:=2000) (n:=3) (fun t ht=>?_) (by simp)).mono (by omega)
   simp only[y09,y24,or_false] at ht
   rcases ht with rfl|rfl|rfl
   ·exact za8 w.a.1 w.a.2
   ·exact za8 w.b.1 w.b.2
   ·cases z with
    | none=>exact zkz
    | some x=>exact za7 (w.z x rfl).2 (w.z x rfl).1
theorem zt4 {es:List Et} (h:∀e∈es,Ew 45 e) (ht:∀e∈es,∀n,e=.ticks n->n<=1000000000) (hl:es.length<=20):Sw 1000000 (.tuple (es.map encE)):=by
 have wl:∀{x:Str} {ps:List Str},x∈ps->(rowL ps).length<=45->x.length<=100:=fun {x ps} hx hr=>by
  have:∀{ps:List Str},x∈ps->x.length<=(jn 32 (ps.map ls)).length:=fun {ps} hx=>by
   induction ps with
   | nil=>cases hx
   | cons q r ih =>
    cases r with
    | nil =>
     rw[y0y.mp hx,z1g]
     exact y0o _
    | cons q2 r2 =>
     rcases y09.mp hx with rfl|hx
     ·rw[z1g]
      simp[jn]
     ·have:=ih hx
      simp only[y0d,jn,y1x,y0v] at this ⊢
      omega
  have h2:=this hx
  rw[rowL,y1x] at hr
  simp at hr
  omega
 have hh:Sw (20*(9000+2)+4) (.tuple (es.map encE)):=z69 (fun t htm=>?_) (by simpa using hl)
 ·exact hh.mono (by omega)
 ·obtain⟨e,he,rfl⟩:=y0m.mp htm
  have w:=h e he
  have s1:∀x∈evR e,Sw 2000 (.str x):=fun x hx=>za7 (w.s x hx).1 (wl hx w.l)
  have t1:=ht e he
  have n1:=w.n
  refine (z69 (B:=2000) (n:=4) (ts:=(match e with
   | .line z w=>[.str "line",.str z,.str w]
   | .code f d z=>[.str "code",.str f,.str d,oS z]
   | .ticks n=>[.str "ticks",.int n])) (fun t hm=>?_) (by cases e <;> simp)).mono (by omega) |> fun h=>by cases e <;> exact h
  cases e with
  | line z w =>
   simp only[y09,y24,or_false] at hm
   rcases hm with rfl|rfl|rfl <;> exact s1 _ (by simp[evR])
  | ticks n =>
   simp only[y09,y24,or_false] at hm
   rcases hm with rfl|rfl
   ·exact s1 _ (by simp[evR])
   ·exact zl0 (n1 n rfl).1 (Int.lt_of_le_of_lt (t1 n rfl) (by decide +kernel)) (wl (ps:=evR (.ticks n)) (by simp[evR]) w.l)
  | code f d z =>
   simp only[y09,y24,or_false] at hm
   cases z with
   | none =>
    rcases hm with rfl|rfl|rfl|rfl
    ·exact s1 _ (by simp[evR])
    ·exact s1 _ (by simp[evR])
    ·exact s1 _ (by simp[evR])
    ·exact zkz
   | some x =>
    rcases hm with rfl|rfl|rfl|rfl <;> exact s1 _ (by simp[evR])
end Fo
end
section
namespace K50
open D Co Fo PySem
def wS:T->Str
 | .int i=>strI i
 | .str x=>x
 | _=>""
def nN:T->Bool
 | .none=>false
 | _=>true
def words (r:List T):List Str:=(r.filter nN).map wS
def Wt:T->Prop
 | .int i=>0<=i/\i<=1000000000
 | .str x=>asc (ls x)/\x.length<=100
 | .none=>True
 | _=>False
theorem zr1 {a:Int} (h0:0<=a) (h:a<=1000000000):(strI a).length<=100:=by
 have:=z63 (k:=10) h0 (by decide) (by omega)
 omega
theorem zps {t:T} (h:Wt t):(wS t).length<=100:=by
 cases t with
 | int i=>exact zr1 h.1 h.2
 | str x=>exact h.2
 | _=>exact y1z _
theorem zvp {t:T} (h:Wt t) (hn:nN t=true):oStr [t]=some (.str (wS t)):=by
 cases t with
 | int i =>
  have hw:i<W64:=Int.lt_of_le_of_lt h.2 (by decide +kernel)
  simp only[oStr]
  rw[if_pos (zil h.1 hw)]
  rfl
 | str x=>rfl
 | none=>cases hn
 | _=>cases h
def eW:Fe:=op2 oAdd (op2 oAdd (nm 1) (op2 z7r (cst (.str " ")) (comp 1 [] (itA (nmV 2)) (gNm 0) (tstB (op1 z5i (nm 0))) (opN oStr [(nm 0)])))) (cst (.str "\n"))
theorem zvq:(" ":Str)=⟨#[32]⟩:=by decide +kernel
theorem zwa:("\n":Str)=st [10]:=by decide +kernel
theorem zdt (r:List T):(words r).length<=r.length:=by
 rw[words,y13]
 exact List.length_filter_le _ _
theorem zc0 {r:List T} (h:∀t∈r,Wt t) (hl:r.length<=10):(rowL (words r)).length<=1011:=by
 rw[rowL,y1x]
 have h1:=zs1 32 100 ((words r).map ls) fun p hp=>by
  obtain⟨x,hx,rfl⟩:=y0m.mp hp
  obtain⟨t,ht,rfl⟩:=y0m.mp hx
  rw[<- z1g]
  exact zps (h t (List.mem_filter.mp ht).1)
 rw[y13] at h1
 have h2:=Nat.mul_le_mul_right 101 (y1l (zdt r) hl)
 simp
 omega
theorem zvg {s0:Option Sl} {A:List Nat} {r:List T} (h:∀t∈r,Wt t) (hl:r.length<=10) (hA:A.length<=900000):eW [s0,some (.imm (.str (st A))),some (.imm (.tuple r))]=some (.str (st (A++rowL (words r)))):=by
 unfold eW
 have hr:=zc0 h hl
 have c1:comp 1 [] (itA (nmV 2)) (gNm 0) (tstB (op1 z5i (nm 0))) (opN oStr [(nm 0)]) [s0,some (.imm (.str (st A))),some (.imm (.tuple r))]=some (.list ((r.filter nN).map fun t=>.str (wS t))):=by
  refine zqg (ts:=r) rfl (by unfold big;omega) (fun t ht=>?_) fun t ht hp=>?_
  ·cases t <;> rfl
  ·rw[opN1 (t:=t) rfl]
   exact zvp (h t ht) hp
 have c2:(r.filter nN).map (fun t=>y1r (wS t))=(words r).map .str:=by rw[words,y2b];rfl
 rw[c2] at c1
 have c3:op2 z7r (cst (.str " ")) (comp 1 [] (itA (nmV 2)) (gNm 0) (tstB (op1 z5i (nm 0))) (opN oStr [(nm 0)])) [s0,some (.imm (.str (st A))),some (.imm (.tuple r))]=some (.str (st (jn 32 ((words r).map ls)))):=by
  rw[z09 (t:=.str ⟨#[32]⟩) (by rw[<- zvq];rfl) c1]
  simp only[z7r,z9v,y0p]
  rw[if_pos (zm7 (B:=100) (fun y hy=>by
   obtain⟨t,ht,rfl⟩:=y0m.mp hy
   exact zps (h t (List.mem_filter.mp ht).1)) (by
   have:=zdt r
   show (words r).length*100+(words r).length*1<=_
   omega)),zck]
  congr 2
  apply zf4
  rw[zd7,z7s]
 rw[rowL,y1x] at hr
 simp only[List.length_singleton] at hr
 have c4:=zvd (f:=nm 1) (a:=A) rfl c3 (by omega)
 rw[zvd (b:=[10]) c4 (by rw[<- zwa];rfl) (by rw[y1x];simp;omega)]
 simp[rowL]
def zvb:Fs:=asg 1 eW
theorem zue {s0:Option Sl}:∀(rows:List (List T)) (A:List Nat) (s2:Option Sl),(∀r∈rows,r.length<=10/\∀t∈r,Wt t)->A.length+rows.length*1100<=900000 ->
  ∃s2',forL (gNm 2) zvb (rows.map .tuple) [s0,some (.imm (.str (st A))),s2]=some (.nx [s0,some (.imm (.str (st (A++txL (rows.map words))))),s2'])
 | [],A,s2,_,_=>⟨s2,by simp[txL];rfl⟩
 | r::rows,A,s2,h,hl=>by
  have hr:=h r (by simp)
  have hrl:=zc0 hr.2 hr.1
  rw[y0v,Nat.succ_mul] at hl
  obtain⟨s2',e⟩:=zue (s0:=s0) rows (A++rowL (words r)) (some (.imm (.tuple r))) (fun q hq=>h q (y05 _ hq)) (by rw[y1x];omega)
  refine⟨s2',?_⟩
  rw[y0d,forL,show gNm 2 (.tuple r) [s0,some (.imm (.str (st A))),s2]=some [s0,some (.imm (.str (st A))),some (.imm (.tuple r))] from rfl,y0p]
  unfold zvb at e ⊢
  rw[zbi (zvg hr.2 hr.1 (by omega)),y0p]
  simp only[y1i,y1g]
  rw[e]
  simp[txL]
theorem zd8 {rows:List (List T)} {t:T} (ht:t=.list (rows.map .tuple)\/t=.tuple (rows.map .tuple)) (h:∀r∈rows,r.length<=10/\∀t∈r,Wt t) (hl:rows.length<=100):z52 [t]=some (.str (tx (rows.map words))):=by
 unfold z52 runF zfz
 show (seq _ _ [some (.imm t),none,none]).bind _=_
 have e0:("":Str)=st []:=by decide +kernel
 rw[Co.seq_nx (zbi (t:=.str (st [])) (by rw[<- e0];rfl))]
 simp only[y1i,y1g]
 obtain⟨s2',e⟩:=zue (s0:=some (.imm t)) rows [] none h (by simp;omega)
 rw[Co.seq_nx (ε':=[some (.imm t),some (.imm (.str (st ([]++txL (rows.map words))))),s2']) (by
  unfold for_
  rw[show itA (nmV 0) [some (.imm t),some (.imm (.str (st []))),none]=some (rows.map .tuple) by rcases ht with rfl|rfl <;> rfl]
  exact e)]
 rfl
theorem zbt:∀l:List Str,words (l.map .str)=l
 | []=>rfl
 | x::l=>by
  have:=zbt l
  unfold words at this ⊢
  rw[y0d,List.filter_cons_of_pos rfl,y0d,this]
  rfl
def zT (z:Str×Str):List T:=[.str "zone",.str z.1,.str z.2]
def cT (k:Cd):List T:=[.str "code",.str k.fig,.str k.who,.int k.uses]++k.rights.map .str
def pT (p:Pl):List (List T):=[.str "times",.int p.leave,.int p.come,.int p.loud]::(p.zones.map zT++p.codes.map cT)
theorem zqt (k:Cd):words (cT k)=z4f k:=by
 have:=zbt k.rights
 unfold words at this
 unfold words cT z4f
 rw[List.filter_append,List.map_append,this]
 rfl
theorem zqq (p:Pl):(pT p).map words=z3m p:=by
 unfold pT z3m
 rw[y0d,List.map_append,y2b,y2b]
 congr 1
 congr 1
 exact List.map_congr_left fun k _=>zqt k
theorem wt_c {x:Str} (h:asc (ls x):=by exact z9u) (h2:x.length<=100:=by decide +kernel):Wt (.str x):=⟨h,h2⟩
theorem zqu:Wt (.str "times"):=wt_c
theorem zsp:Wt (.str "zone"):=wt_c
theorem zsr:Wt (.str "code"):=wt_c
theorem zqv:Wt (.str "rooms"):=wt_c
theorem zsq:Wt (.str "-"):=wt_c
theorem zw8 {p:Pl} (h:Pw p):∀r∈pT p,r.length<=10/\∀t∈r,Wt t:=by
 intro r hr
 rcases y09.mp hr with rfl|hr
 ·refine⟨by simp,fun t ht=>?_⟩
  simp only[y09,y24,or_false] at ht
  rcases ht with rfl|rfl|rfl|rfl
  ·exact zqu
  ·exact⟨h.t1.1,Int.le_of_lt h.t1.2⟩
  ·exact⟨h.t2.1,Int.le_of_lt h.t2.2⟩
  ·exact⟨h.t3.1,Int.le_of_lt h.t3.2⟩
 ·rcases y10.mp hr with hr|hr
  ·obtain⟨z,hz,rfl⟩:=y0m.mp hr
   have:=h.zn z hz
   refine⟨by simp[zT],fun t ht=>?_⟩
   simp only[zT,y09,y24,or_false] at ht
   rcases ht with rfl|rfl|rfl
   ·exact zsp
   ·exact⟨this.2.2.1,this.1⟩
   ·exact⟨this.2.2.2,this.2.1⟩
  ·obtain⟨k,hk,rfl⟩:=y0m.mp hr
   obtain⟨k1,k2,k3,k4,k5,k6,k7,k8⟩:=h.cn k hk
   refine⟨by simp[cT];omega,fun t ht=>?_⟩
   rcases y10.mp ht with ht|ht
   ·simp only[y09,y24,or_false] at ht
    rcases ht with rfl|rfl|rfl|rfl
    ·exact zsr
    ·exact⟨k7,k1⟩
    ·exact⟨k8,k2⟩
    ·exact⟨k5,Int.le_of_lt k6⟩
   ·obtain⟨r,hr,rfl⟩:=y0m.mp ht
    exact⟨(k4 r hr).2,(k4 r hr).1⟩
def oT (o:Ho.Op):List T:=[.int o.1,.int o.2.1,.str (zS o.2.2)]
def hT (R:Int) (os:List Ho.Op):List (List T):=[.str "rooms",.int R]::os.map oT
theorem zqr (R:Int) (os:List Ho.Op):(hT R os).map words=z1h R os:=by
 unfold hT z1h
 rw[y0d,y2b]
 rfl
theorem zwh {R:Int} {os:List Ho.Op} (hR:0<=R/\R<1000000000) (ho:∀o∈os,Ow o):∀r∈hT R os,r.length<=10/\∀t∈r,Wt t:=by
 intro r hr
 rcases y09.mp hr with rfl|hr
 ·refine⟨by simp,fun t ht=>?_⟩
  simp only[y09,y24,or_false] at ht
  rcases ht with rfl|rfl
  ·exact zqv
  ·exact⟨hR.1,Int.le_of_lt hR.2⟩
 ·obtain⟨⟨a,b,z⟩,hm,rfl⟩:=y0m.mp hr
  have w:=ho _ hm
  refine⟨by simp[oT],fun t ht=>?_⟩
  simp only[oT,y09,y24,or_false] at ht
  rcases ht with rfl|rfl|rfl
  ·exact⟨w.a.1,Int.le_of_lt w.a.2⟩
  ·exact⟨w.b.1,Int.le_of_lt w.b.2⟩
  ·cases z with
   | none=>exact zsq
   | some x=>exact⟨(w.z x rfl).2,(w.z x rfl).1⟩
def eT:Et->List T
 | .line z w=>[.str "line",.str z,.str w]
 | .code f d z=>[.str "code",.str f,.str d,oS z]
 | .ticks n=>[.str "ticks",.int n]
theorem zv1 (e:Et):encE e=.tuple (eT e):=by cases e <;> rfl
theorem zqs (e:Et):words (eT e)=evR e:=by
 cases e with
 | line z w=>rfl
 | ticks n=>rfl
 | code f d z=>cases z <;> rfl
theorem zus {x:Str}:∀{ps:List Str},x∈ps->x.length<=(jn 32 (ps.map ls)).length
 | [q],hx=>by
  rw[y0y.mp hx,z1g]
  exact y0o _
 | q::q2::r2,hx=>by
  rcases y09.mp hx with rfl|hx
  ·rw[z1g]
   simp[jn]
  ·have:=zus hx
   simp only[y0d,jn,y1x,y0v] at this ⊢
   omega
theorem zwm {e:Et} (h:Ew 45 e) (ht:∀n,e=.ticks n->0<=n/\n<=1000000000):(eT e).length<=10/\∀t∈eT e,Wt t:=by
 have s1:∀x∈evR e,Wt (.str x):=fun x hx=>⟨(h.s x hx).1,by
  have h1:=zus hx
  have h2:=h.l
  rw[rowL,y1x] at h2
  simp at h2
  omega⟩
 cases e with
 | line z w =>
  refine⟨by simp[eT],fun t hm=>?_⟩
  simp only[eT,y09,y24,or_false] at hm
  rcases hm with rfl|rfl|rfl <;> exact s1 _ (by simp[evR])
 | ticks n =>
  refine⟨by simp[eT],fun t hm=>?_⟩
  simp only[eT,y09,y24,or_false] at hm
  rcases hm with rfl|rfl
  ·exact s1 _ (by simp[evR])
  ·exact ht n rfl
 | code f d z =>
  refine⟨by simp[eT],fun t hm=>?_⟩
  simp only[eT,y09,y24,or_false] at hm
  cases z with
  | none =>
   rcases hm with rfl|rfl|rfl|rfl
   ·exact s1 _ (by simp[evR])
   ·exact s1 _ (by simp[evR])
   ·exact s1 _ (by simp[evR])
   ·exact trivial
  | some x =>
   rcases hm with rfl|rfl|rfl|rfl <;> exact s1 _ (by simp[evR])
def zpm:Fs:=app 4 (op2 oAdd (z06 [(cst (.str "code")),(nmV 5),(nmV 6),(nmV 8)]) (nm 7))
theorem zuf {s0 s1 s2 s3:Option Sl} {r:Ev}:∀(ks:List Cd) (L:List T) (s5 s6 s7 s8:Option Sl),(∀k∈ks,k.rights.length<=3)->L.length+ks.length<=1000 ->
  ∃s5' s6' s7' s8',forL (gTu [(gNm 5),(gNm 6),(gNm 7),(gNm 8)]) zpm (ks.map z25) (s0::s1::s2::s3::some (.own L)::s5::s6::s7::s8::r)=some (.nx (s0::s1::s2::s3::some (.own (L++ks.map fun k=>.tuple (cT k)))::s5'::s6'::s7'::s8'::r))
 | [],L,s5,s6,s7,s8,_,_=>⟨s5,s6,s7,s8,by simp;rfl⟩
 | k::ks,L,s5,s6,s7,s8,h,hl=>by
  have hk:=h k (by simp)
  rw[y0v] at hl
  obtain⟨a,b,c,d,e⟩:=zuf (s0:=s0) (s1:=s1) (s2:=s2) (s3:=s3) (r:=r) ks (L++[.tuple (cT k)]) (some (.imm (.str k.fig))) (some (.imm (.str k.who))) (some (.imm (.tuple (k.rights.map .str)))) (some (.imm (.int k.uses))) (fun q hq=>h q (y05 _ hq)) (by simp;omega)
  refine⟨a,b,c,d,?_⟩
  rw[y0d,forL,show gTu [(gNm 5),(gNm 6),(gNm 7),(gNm 8)] (z25 k) (s0::s1::s2::s3::some (.own L)::s5::s6::s7::s8::r)=some (s0::s1::s2::s3::some (.own L)::some (.imm (.str k.fig))::some (.imm (.str k.who))::some (.imm (.tuple (k.rights.map .str)))::some (.imm (.int k.uses))::r) from rfl,y0p]
  have e1:zpm (s0::s1::s2::s3::some (.own L)::some (.imm (.str k.fig))::some (.imm (.str k.who))::some (.imm (.tuple (k.rights.map .str)))::some (.imm (.int k.uses))::r)=some (.nx (s0::s1::s2::s3::some (.own (L++[.tuple (cT k)]))::some (.imm (.str k.fig))::some (.imm (.str k.who))::some (.imm (.tuple (k.rights.map .str)))::some (.imm (.int k.uses))::r)):=by
   unfold zpm
   simp only[app,y27,y26]
   rw[z09 (t:=.tuple [.str "code",.str k.fig,.str k.who,.int k.uses]) (u:=.tuple (k.rights.map .str)) rfl rfl]
   simp only[oAdd]
   rw[if_pos (by simp;unfold big;omega)]
   simp only[y0p]
   rw[if_pos (by unfold big;omega)]
   rfl
  rw[e1,y0p]
  show forL _ zpm _ _=_
  rw[e]
  simp
def eO:Fe:=z06 [(nmV 0),(nmV 1),(op2 oIx (z3g [(nmV 2),(cst (.str "-"))]) (opN oInt [(op1 oIsN (nm 2))]))]
theorem zv3:∀(os:List Ho.Op) (s0 s1 s2:Option Sl),z36 (gTu [(gNm 0),(gNm 1),(gNm 2)]) (cstT true) eO (os.map Ho.opT) [s0,s1,s2]=some (os.map fun o=>.tuple (oT o))
  | [],_,_,_=>rfl
  | (a,b,z)::os,s0,s1,s2=>by
    have e1:eO [some (.imm (.int a)),some (.imm (.int b)),some (.imm (Ho.zT z))]=some (.tuple (oT (a,b,z))):=by
      unfold eO
      cases z <;> rfl
    rw[y0d,z36,show gTu [(gNm 0),(gNm 1),(gNm 2)] (Ho.opT (a,b,z)) [s0,s1,s2]=some [some (.imm (.int a)),some (.imm (.int b)),some (.imm (Ho.zT z))] from rfl]
    simp only[y0p,cstT,if_true,e1]
    rw[zv3 os]
    rfl
theorem zii {f g:Fe} {ε:Ev} {b:Bool} (hf:f ε=some (.bool b)) (hg:g ε=some (.bool b)):tstB (op2 oNe f g) ε=some false:=ne_self (d:=0) hf hg zs8
theorem zsl {f g:Fe} {ε:Ev} {a b:List T} (hf:f ε=some (.tuple a)) (hg:g ε=some (.tuple b)) (hl:a.length+b.length<=1000000):op2 oAdd f g ε=some (.tuple (a++b)):=by
 rw[z09 hf hg]
 simp only[oAdd]
 rw[if_pos (by unfold big;omega)]
theorem zox (ns:List Int) (h:ns.length<=63):zk4 [z0e ns]=some (.bool true):=by
 obtain⟨m0,hm0,x0⟩:=Co.mixed_eq ns 0
 obtain⟨m1,hm1,x1⟩:=Co.mixed_eq ns 1
 obtain⟨m2,hm2,x2⟩:=Co.mixed_eq ns 2
 obtain⟨m3,hm3,x3⟩:=Co.mixed_eq ns 3
 obtain⟨p,hp,xp⟩:=Co.plan_eq m0
 obtain⟨R,os,hd,xh⟩:=Ho.house_eq m1 hm1
 rw[<- Fo.house_same] at xh
 obtain⟨R2,os2,hd2,xh2⟩:=Ho.house_eq m3 hm3
 rw[<- Fo.house_same] at xh2
 obtain⟨es,hes0,hel,xr⟩:=Co.row_eq hp m2 9 hm2 (by decide)
 obtain⟨ev,hev,xe⟩:=Co.event_eq hp m3
 have hv:=zw1 hp
 have hpn:=zlj hv
 have hh:=zuu hd
 have hh2:=zuu hd2
 have hR:0<=R/\R<1000000000:=by have:=hh.r;omega
 have hR2:0<=R2/\R2<1000000000:=by have:=hh2.r;omega
 have hok:∀e∈es,evOk p e:=fun e he=>zmn (hes0 e he)
 have htk:∀e∈es,∀n,e=.ticks n->n<=1000000000:=fun e he=>DE.tick (hes0 e he)
 have hew:∀e∈es,Ew 45 e:=fun e he=>zsa hpn (hok e he) (htk e he)
 have hok2:∀e∈es++[ev],evOk p e:=fun e he=>by
  rcases y10.mp he with he|he
  ·exact hok e he
  ·rw[y0y.mp he]
   exact zmn hev
 have htk2:∀e∈es++[ev],∀n,e=.ticks n->n<=1000000000:=fun e he=>by
  rcases y10.mp he with he|he
  ·exact htk e he
  ·rw[y0y.mp he]
   exact DE.tick hev
 have hew2:∀e∈es++[ev],Ew 45 e:=fun e he=>zsa hpn (hok2 e he) (htk2 e he)
 have t0:=z6m hv.pw
 have t1:=z65 hR hh.ow (by have:=hh.l;omega)
 have t1b:=z65 hR2 hh2.ow (by have:=hh2.l;omega)
 have t2:=z7o hew (by omega) (by omega) (by omega)
 have t2b:=z7o hew2 (by simp;omega) (by simp;omega) (by omega)
 have gP:=zhh hv.pw
 have l0:=zd1 hv
 have l1:=zau hh
 have l1b:=zau hh2
 have l2:=zgj hew
 have l2b:=zgj hew2
 unfold zk4 runF zvc
 show (seq _ _ [some (.imm (z0e ns)),none,none,none,none,none,none,none,none,none,none,none,none,none,none]).bind _=_
 have S:∀(j m:Int) (r:Ev),z1s [z0e ns,.int j]=some (.int m)->opN z1s [(nmV 0),(cst (.int j))] (some (.imm (z0e ns))::r)=some (.int m):=fun j m r e=>by
  rw[opN2 (t:=z0e ns) (u:=.int j) rfl rfl]
  exact e
 rw[Co.seq_nx (zbi (t:=encP p) (by rw[opN1 (S 0 m0 _ x0),xp]))]
 simp only[y1i,y1g]
 rw[Co.seq_nx (zbi (t:=Ho.houseT R os) (by rw[opN1 (S 1 m1 _ x1),xh]))]
 simp only[y1i,y1g]
 rw[Co.seq_nx (zbi (t:=.tuple (es.map encE)) (by rw[opN3 (t:=encP p) (u:=.int m2) (v:=.int 9) rfl (S 2 m2 _ x2) rfl,xr]))]
 simp only[y1i,y1g]
 have i0:∀{f:Fe} {ε:Ev},f ε=some (encP p)->op2 oIx f (cst (.int 0)) ε=some (.tuple (p.zones.map encZ)):=fun hf=>by rw[z09 hf rfl];exact ix_0
 have i1:∀{f:Fe} {ε:Ev},f ε=some (encP p)->op2 oIx f (cst (.int 1)) ε=some (.tuple (p.codes.map z25)):=fun hf=>by rw[z09 hf rfl];exact ix_1
 have i2:∀{f:Fe} {ε:Ev},f ε=some (encP p)->op2 oIx f (cst (.int 2)) ε=some (.tuple [.int p.leave,.int p.come,.int p.loud]):=fun hf=>by rw[z09 hf rfl];exact ix_2
 have hz8:=hv.z8
 have hc6:=hv.c6
 rw[Co.seq_nx (ε':=[some (.imm (z0e ns)),some (.imm (encP p)),some (.imm (Ho.houseT R os)),some (.imm (.tuple (es.map encE))),some (.own (.tuple [.str "times",.int p.leave,.int p.come,.int p.loud]::p.zones.map fun z=>.tuple (zT z))),none,none,none,none,none,none,none,none,none,none]) (by
  unfold asgN
  have c1:comp 1 [] (itA (op2 oIx (nm 1) (cst (.int 0)))) (gNm 0) (cstT true) (op2 oAdd (z06 [(cst (.str "zone"))]) (nm 0)) [some (.imm (z0e ns)),some (.imm (encP p)),some (.imm (Ho.houseT R os)),some (.imm (.tuple (es.map encE))),none,none,none,none,none,none,none,none,none,none,none]=some (.list ((p.zones.map encZ).map fun t=>match t with|.tuple ts=>.tuple (.str "zone"::ts)|_=>.none)):=by
   refine z56 (ts:=p.zones.map encZ) (by simp only[itA];rw[i0 rfl];rfl) (by rw[y13];unfold big;omega) fun t ht=>?_
   obtain⟨z,hz,rfl⟩:=y0m.mp ht
   rw[zsl (a:=[.str "zone"]) (b:=[.str z.1,.str z.2]) rfl rfl (by simp)]
   rfl
  rw[y2b] at c1
  rw[add_l (a:=[.tuple [.str "times",.int p.leave,.int p.come,.int p.loud]]) (by
   simp only[z3g,args]
   rw[zsl (a:=[.str "times"]) rfl (i2 rfl) (by simp)]
   rfl) c1 (by simp;omega)]
  rfl)]
 obtain⟨s5,s6,s7,s8,ek⟩:=zuf (s0:=some (.imm (z0e ns))) (s1:=some (.imm (encP p))) (s2:=some (.imm (Ho.houseT R os))) (s3:=some (.imm (.tuple (es.map encE)))) (r:=[none,none,none,none,none,none]) p.codes (.tuple [.str "times",.int p.leave,.int p.come,.int p.loud]::p.zones.map fun z=>.tuple (zT z)) none none none none (fun k hk=>(hv.cs k hk).2.2.1) (by simp;omega)
 have eL:(PyData.tuple [.str "times",.int p.leave,.int p.come,.int p.loud]::p.zones.map fun z=>PyData.tuple (zT z))++p.codes.map (fun k=>PyData.tuple (cT k))=(pT p).map .tuple:=by
  unfold pT
  rw[y0d,List.map_append,y2b,y2b]
  rfl
 rw[eL] at ek
 rw[Co.seq_nx (ε':=some (.imm (z0e ns))::some (.imm (encP p))::some (.imm (Ho.houseT R os))::some (.imm (.tuple (es.map encE)))::some (.own ((pT p).map .tuple))::s5::s6::s7::s8::[none,none,none,none,none,none]) (by
  unfold for_
  simp only[itA]
  rw[i1 rfl]
  exact ek)]
 rw[Co.seq_nx (ε':=[some (.imm (z0e ns)),some (.imm (encP p)),some (.imm (Ho.houseT R os)),some (.imm (.tuple (es.map encE))),some (.imm (.list ((pT p).map .tuple))),s5,s6,s7,s8,none,none,none,none,none,none]) rfl]
 have hol:=hh.l
 rw[Co.seq_nx (zbi (t:=.list ((hT R os).map .tuple)) (by
  rw[add_l (a:=[.tuple [.str "rooms",.int R]]) (b:=os.map fun o=>.tuple (oT o)) (by
   simp only[z3g,z06,args]
   rw[z09 (t:=Ho.houseT R os) (u:=.int 0) rfl rfl,show oIx (Ho.houseT R os) (.int 0)=some (.int R) from ix_0]
   rfl) (by
   simp only[comp,itA]
   rw[z09 (t:=Ho.houseT R os) (u:=.int 1) rfl rfl,show oIx (Ho.houseT R os) (.int 1)=some (.tuple (os.map Ho.opT)) from ix_1]
   simp only[y0p]
   rw[if_pos (by rw[y13];unfold big;omega)]
   show (z36 _ _ eO _ _).map _=_
   rw[show z2t 3 [] [some (.imm (z0e ns)),some (.imm (encP p)),some (.imm (Ho.houseT R os)),some (.imm (.tuple (es.map encE))),some (.imm (.list ((pT p).map .tuple))),s5,s6,s7,s8,none,none,none,none,none,none]=[none,none,none] from rfl,zv3]
   rfl) (by simp;omega)]
  unfold hT
  rw[y0d,y2b]
  rfl))]
 simp only[y1i,y1g]
 have lp:=zd8 (rows:=pT p) (.inl rfl) (zw8 hv.pw) (by simp[pT];omega)
 have lh:=zd8 (rows:=hT R os) (.inl rfl) (zwh hR hh.ow) (by simp[hT];omega)
 have lr:=zd8 (rows:=es.map eT) (t:=.tuple (es.map encE)) (.inr (by rw[y2b];exact congrArg _ (List.map_congr_left fun e _=>zv1 e))) (fun r hr=>by
  obtain⟨e,he,rfl⟩:=y0m.mp hr
  refine zwm (hew e he) fun n hn=>⟨?_,htk e he n hn⟩
  exact ((hew e he).n n hn).1) (by simp;omega)
 rw[zqq] at lp
 rw[zqr] at lh
 rw[y2b,show es.map (words ∘ eT)=es.map evR from List.map_congr_left fun e _=>zqs e] at lr
 have aP:=z9y hv.pw
 have aH:=z8g hR.1 hh.ow
 have aH2:=z8g hR2.1 hh2.ow
 have aR:=zcw hew
 have aR2:=zcw hew2
 rw[z8s (orF (ne_self (d:=0) (t:=.str (tx (z3m p))) (by rw[opN1 (t:=encP p) rfl];exact t0) (by rw[opN1 (t:=.list ((pT p).map .tuple)) rfl];exact lp) (z2l aP (by omega))) (ne_self (d:=0) (t:=.str (tx (z1h R os))) (by rw[opN1 (t:=Ho.houseT R os) rfl];exact t1) (by rw[opN1 (t:=.list ((hT R os).map .tuple)) rfl];exact lh) (z2l aH (by omega))))]
 rw[z8s (ne_self (d:=0) (t:=.str (tx (es.map evR))) (by rw[opN1 (t:=.tuple (es.map encE)) rfl];exact t2) (by rw[opN1 (t:=.tuple (es.map encE)) rfl];exact lr) (z2l aR (by omega)))]
 rw[z8s (orF (zgm (by rw[opN1 (t:=.str (tx (z3m p))) (by rw[opN1 (t:=encP p) rfl];exact t0)];exact z7i hv) rfl (zr0 hv.pw) (by omega) gP) (zgm (by rw[opN1 (t:=.str (tx (z1h R os))) (by rw[opN1 (t:=Ho.houseT R os) rfl];exact t1)];exact zah hh) rfl (znp hR hh.ow hh.l) (by omega) (zax hh.ow)))]
 rw[z8s (zgm (by rw[opN2 (t:=encP p) (u:=.str (tx (es.map evR))) rfl (by rw[opN1 (t:=.tuple (es.map encE)) rfl];exact t2)];exact z8a hv hok htk (by omega)) rfl (zt4 hew htk (by omega)) (by omega) (zqd hew))]
 rw[Co.seq_nx (zbi (S 3 m3 _ x3))]
 simp only[y1i,y1g]
 obtain⟨q1,hq1,q10,q11,e1⟩:=modQ m3 61
 obtain⟨d2,hd2_,ed2⟩:=divQ m3 64
 obtain⟨q2,hq2,q20,q21,e2⟩:=modQ d2 61
 obtain⟨d3,hd3_,ed3⟩:=divQ m3 4096
 obtain⟨q3,hq3,q30,q31,e3⟩:=modQ d3 300
 obtain⟨d4,hd4_,ed4⟩:=divQ m3 2097152
 obtain⟨q4,hq4,q40,q41,e4⟩:=modQ d4 2
 have M:∀{f:Fe} {ε:Ev} {a k b:Int},f ε=some (.int a)->oMod (.int a) (.int k)=some (.int b)->op2 oMod f (cst (.int k)) ε=some (.int b):=fun hf e=>by rw[z09 hf rfl];exact e
 have Dv:∀{f:Fe} {ε:Ev} {a k b:Int},f ε=some (.int a)->oDiv (.int a) (.int k)=some (.int b)->op2 oDiv f (cst (.int k)) ε=some (.int b):=fun hf e=>by rw[z09 hf rfl];exact e
 rw[Co.seq_nx (zbi (t:=.tuple [.int q1,.int q2,.int (1+q3)]) (by
  simp only[z06,args]
  rw[M rfl e1,M (Dv rfl ed2) e2,z09 (t:=.int 1) (u:=.int q3) rfl (M (Dv rfl ed3) e3)]
  rfl))]
 simp only[y1i,y1g]
 obtain⟨p2,hp2,hv2,e12⟩:∃p2:Pl,Pv p2/\True/\z06 [(op2 oIx (nm 1) (cst (.int 0))),(op2 oIx (nm 1) (cst (.int 1))),(op2 oIx (z06 [(nmV 11),(op2 oIx (nm 1) (cst (.int 2)))]) (op2 oMod (op2 oDiv (nm 10) (cst (.int 2097152))) (cst (.int 2))))] [some (.imm (z0e ns)),some (.imm (encP p)),some (.imm (Ho.houseT R os)),some (.imm (.tuple (es.map encE))),some (.imm (.list ((pT p).map .tuple))),s5,s6,s7,s8,some (.imm (.list ((hT R os).map .tuple))),some (.imm (.int m3)),some (.imm (.tuple [.int q1,.int q2,.int (1+q3)])),none,none,none]=some (encP p2):=by
  have e5:z06 [(nmV 11),(op2 oIx (nm 1) (cst (.int 2)))] [some (.imm (z0e ns)),some (.imm (encP p)),some (.imm (Ho.houseT R os)),some (.imm (.tuple (es.map encE))),some (.imm (.list ((pT p).map .tuple))),s5,s6,s7,s8,some (.imm (.list ((hT R os).map .tuple))),some (.imm (.int m3)),some (.imm (.tuple [.int q1,.int q2,.int (1+q3)])),none,none,none]=some (.tuple [.tuple [.int q1,.int q2,.int (1+q3)],.tuple [.int p.leave,.int p.come,.int p.loud]]):=by
   simp only[z06,args]
   rw[i2 rfl]
   rfl
  have hq:q4=0\/q4=1:=by omega
  rcases hq with rfl|rfl
  ·refine⟨{ p with leave:=q1,come:=q2,loud:=1+q3 },⟨hv.z1,hv.z8,hv.zs,hv.zr,hv.c1,hv.c6,hv.cs,hv.cr,by show 0<=q1/\q1<=60;omega,by show 0<=q2/\q2<=60;omega,by show 1<=1+q3/\1+q3<=300;omega⟩,trivial,?_⟩
   rw[z06]
   simp only[args]
   rw[i0 rfl,i1 rfl,z09 e5 (M (Dv rfl ed4) e4),ix_0]
   rfl
  ·refine⟨p,hv,trivial,?_⟩
   rw[z06]
   simp only[args]
   rw[i0 rfl,i1 rfl,z09 e5 (M (Dv rfl ed4) e4),ix_1]
   rfl
 rw[Co.seq_nx (zbi e12)]
 simp only[y1i,y1g]
 have t0b:=z6m hp2.pw
 have aP2:=z9y hp2.pw
 have l0b:=zd1 hp2
 rw[z8s (orF (zii (b:=decide (tx (z3m p2)=tx (z3m p))) (by rw[z09 (t:=.str (tx (z3m p2))) (u:=.str (tx (z3m p))) (by rw[opN1 (t:=encP p2) rfl];exact t0b) (by rw[opN1 (t:=encP p) rfl];exact t0)];exact eq_str aP2 aP) (zuz (d:=4) (t:=encP p2) (u:=encP p) rfl rfl (zhh hp2.pw) gP (zlx _) (zlx _) (by
  rw[decide_eq_true_eq]
  constructor
  ·intro e
   have:=zpt (zhn hp2) (zhn hv) e
   rw[<- zgq hp2,<- zgq hv,this]
  ·intro e
   have h1:=t0b
   rw[e,t0] at h1
   exact (PyData.str.inj (y28 h1)).symm))) (ne_self (d:=4) (t:=encP p2) (by rw[opN1 (t:=.str (tx (z3m p2))) (by rw[opN1 (t:=encP p2) rfl];exact t0b)];exact z7i hp2) rfl (zhh hp2.pw)))]
 rw[Co.seq_nx (zbi (t:=Ho.houseT R2 os2) (by rw[opN1 (t:=.int m3) rfl];exact xh2))]
 simp only[y1i,y1g]
 rw[z8s (zii (b:=decide (tx (z1h R2 os2)=tx (z1h R os))) (by rw[z09 (t:=.str (tx (z1h R2 os2))) (u:=.str (tx (z1h R os))) (by rw[opN1 (t:=Ho.houseT R2 os2) rfl];exact t1b) (by rw[opN1 (t:=Ho.houseT R os) rfl];exact t1)];exact eq_str aH2 aH) (zuz (d:=3) (t:=Ho.houseT R2 os2) (u:=Ho.houseT R os) rfl rfl (zax hh2.ow) (zax hh.ow) (zij _ _) (zij _ _) (by
  rw[decide_eq_true_eq]
  constructor
  ·intro e
   have:=zpt (zdf hh2) (zdf hh) e
   rw[<- zav hh2,<- zav hh,this]
  ·intro e
   have h1:=t1b
   rw[e,t1] at h1
   exact (PyData.str.inj (y28 h1)).symm)))]
 rw[Co.seq_nx (zbi (t:=encE ev) (by rw[opN2 (t:=encP p) (u:=.int m3) rfl rfl];exact xe))]
 simp only[y1i,y1g]
 generalize hE:[some (Sl.imm (z0e ns)),some (.imm (encP p)),some (.imm (Ho.houseT R os)),some (.imm (.tuple (es.map encE))),some (.imm (.list ((pT p).map .tuple))),s5,s6,s7,s8,some (.imm (.list ((hT R os).map .tuple))),some (.imm (.int m3)),some (.imm (.tuple [.int q1,.int q2,.int (1+q3)])),some (.imm (encP p2)),some (.imm (Ho.houseT R2 os2)),some (.imm (encE ev))]=E
 have n1:nmV 1 E=some (encP p):=by subst hE;rfl
 have n3:nm 3 E=some (.tuple (es.map encE)):=by subst hE;rfl
 have n3v:nmV 3 E=some (.tuple (es.map encE)):=by subst hE;rfl
 have nT:op2 oAdd (nm 3) (z06 [(nmV 14)]) E=some (.tuple ((es++[ev]).map encE)):=by
  rw[zsl (b:=[encE ev]) n3 (by subst hE;rfl) (by simp;omega)]
  simp
 have w1:opN z1j [(op2 oAdd (nm 3) (z06 [(nmV 14)]))] E=some (.str (tx ((es++[ev]).map evR))):=by rw[opN1 nT];exact t2b
 simp only[rtn]
 rw[z1n (a:=true) (b:=true) (eq_self (d:=2) (by rw[opN2 n1 w1];exact z8a hv hok2 htk2 (by simp;omega)) nT (zqd hew2)) fun _=>by
  rw[z09 w1 (by rw[opN1 n3v];exact t2),ne_str aR2 aR]
  have:tx ((es++[ev]).map evR)≠tx (es.map evR):=fun e=>by
   have e5:=congrArg Str.length e
   rw[zdv,zdv,List.map_append,zqw,y1x] at e5
   have:0<(txL ([ev].map evR)).length:=by simp[txL,rowL]
   omega
  rw[decide_eq_false this]
  rfl]
 rfl
end K50
end
end
section
namespace K50
open PySem PySem.Spec PyProof.Rows L2 D Co Fo
theorem all_mk {l:PySem.W.OpenLaw} {w:World} {K:y00} {h:Heap} {mg:Str->Option Value} {fa f1 f2 f3 f4 f5 f6 f7 f8 f9 f10 f11 f12 f13 f14 f15 f16 f17 f18 f19 f20 f21 f22 f23 f24 f25 f26 f27 f28 f29 f30 f31 f32 f33 f34 f35 f36 f37 f38 f39 f40 f41 f42 f43 f44 f45 f46 f47 f48 f49 a_LINES a_DEEDS_ALONE a_DEEDS_OF_ZONES a_KINDS a_RIGHTS:Addr} {od1 an1 od2 an2 od3 an3 od4 an4 od5 an5 od6 an6 od7 an7 od8 an8 od9 an9 od10 an10 od11 an11 od12 an12 od13 an13 od14 an14 od15 an15 od16 an16 od17 an17 od18 an18 od19 an19 od20 an20 od21 an21 od22 an22 od23 an23 od24 an24 od25 an25 od26 an26 od27 an27 od28 an28 od29 an29 od30 an30 od31 an31 od32 an32 od33 an33 od34 an34 od35 an35 od36 an36 od37 an37 od38 an38 od39 an39 od40 an40 od41 an41 od42 an42 od43 an43 od44 an44 od45 an45 od46 an46 od47 an47 od48 an48 od49 an49 od_LINES od_DEEDS_ALONE od_DEEDS_OF_ZONES od_KINDS od_RIGHTS:Option Addr} {sl1 sl2 sl3 sl4 sl5 sl6 sl7 sl8 sl9 sl10 sl11 sl12 sl13 sl14 sl15 sl16 sl17 sl18 sl19 sl20 sl21 sl22 sl23 sl24 sl25 sl26 sl27 sl28 sl29 sl30 sl31 sl32 sl33 sl34 sl35 sl36 sl37 sl38 sl39 sl40 sl41 sl42 sl43 sl44 sl45 sl46 sl47 sl48 sl49 sl_LINES sl_DEEDS_ALONE sl_DEEDS_OF_ZONES sl_KINDS sl_RIGHTS:Array (Option Value)} {oc1 kV1 dc1 pm1 cd1 ct1 oc2 kV2 dc2 pm2 cd2 ct2 oc3 kV3 dc3 pm3 cd3 ct3 oc4 kV4 dc4 pm4 cd4 ct4 oc5 kV5 dc5 pm5 cd5 ct5 oc6 kV6 dc6 pm6 cd6 ct6 oc7 kV7 dc7 pm7 cd7 ct7 oc8 kV8 dc8 pm8 cd8 ct8 oc9 kV9 dc9 pm9 cd9 ct9 oc10 kV10 dc10 pm10 cd10 ct10 oc11 kV11 dc11 pm11 cd11 ct11 oc12 kV12 dc12 pm12 cd12 ct12 oc13 kV13 dc13 pm13 cd13 ct13 oc14 kV14 dc14 pm14 cd14 ct14 oc15 kV15 dc15 pm15 cd15 ct15 oc16 kV16 dc16 pm16 cd16 ct16 oc17 kV17 dc17 pm17 cd17 ct17 oc18 kV18 dc18 pm18 cd18 ct18 oc19 kV19 dc19 pm19 cd19 ct19 oc20 kV20 dc20 pm20 cd20 ct20 oc21 kV21 dc21 pm21 cd21 ct21 oc22 kV22 dc22 pm22 cd22 ct22 oc23 kV23 dc23 pm23 cd23 ct23 oc24 kV24 dc24 pm24 cd24 ct24 oc25 kV25 dc25 pm25 cd25 ct25 oc26 kV26 dc26 pm26 cd26 ct26 oc27 kV27 dc27 pm27 cd27 ct27 oc28 kV28 dc28 pm28 cd28 ct28 oc29 kV29 dc29 pm29 cd29 ct29 oc30 kV30 dc30 pm30 cd30 ct30 oc31 kV31 dc31 pm31 cd31 ct31 oc32 kV32 dc32 pm32 cd32 ct32 oc33 kV33 dc33 pm33 cd33 ct33 oc34 kV34 dc34 pm34 cd34 ct34 oc35 kV35 dc35 pm35 cd35 ct35 oc36 kV36 dc36 pm36 cd36 ct36 oc37 kV37 dc37 pm37 cd37 ct37 oc38 kV38 dc38 pm38 cd38 ct38 oc39 kV39 dc39 pm39 cd39 ct39 oc40 kV40 dc40 pm40 cd40 ct40 oc41 kV41 dc41 pm41 cd41 ct41 oc42 kV42 dc42 pm42 cd42 ct42 oc43 kV43 dc43 pm43 cd43 ct43 oc44 kV44 dc44 pm44 cd44 ct44 oc45 kV45 dc45 pm45 cd45 ct45 oc46 kV46 dc46 pm46 cd46 ct46 oc47 kV47 dc47 pm47 cd47 ct47 oc48 kV48 dc48 pm48 cd48 ct48 oc49 kV49 dc49 pm49 cd49 ct49:Value} {t_LINES0 t_LINES1 t_LINES2 t_DEEDS_ALONE0 t_DEEDS_ALONE1 t_DEEDS_OF_ZONES0 t_DEEDS_OF_ZONES1 t_KINDS0 t_KINDS1 t_KINDS2 t_KINDS3 t_RIGHTS0 t_RIGHTS1 t_RIGHTS2 t_OUTSIDE:Tok} {n_LINES n_DEEDS_ALONE n_DEEDS_OF_ZONES n_KINDS n_RIGHTS:Nat} (X:K.In h) (G:h.Ns y0n mg) (hfa:mg "law"=some (.ref fa))
  (a1:y0r K y0n "_law_drawn"=some (some (.ref f1)))
  (l1:K.lookup f1=some ⟨oc1,od1,.func (y0i "_law_drawn" "_law_drawn" (z0b z4p) (z0a z4p) (z01 z4p) .none kV1 dc1 pm1 an1 cd1 ct1),sl1⟩)
  (c1:y0f K cd1 "_law_drawn"=true)
  (k1:y08 K (.ref f1)=true)
  (a2:y0r K y0n "_law_plan"=some (some (.ref f2)))
  (l2:K.lookup f2=some ⟨oc2,od2,.func (y0i "_law_plan" "_law_plan" (z0b z5n) (z0a z5n) (z01 z5n) .none kV2 dc2 pm2 an2 cd2 ct2),sl2⟩)
  (c2:y0f K cd2 "_law_plan"=true)
  (k2:y08 K (.ref f2)=true)
  (a3:y0r K y0n "_law_house"=some (some (.ref f3)))
  (l3:K.lookup f3=some ⟨oc3,od3,.func (y0i "_law_house" "_law_house" (z0b z4n) (z0a z4n) (z01 z4n) .none kV3 dc3 pm3 an3 cd3 ct3),sl3⟩)
  (c3:y0f K cd3 "_law_house"=true)
  (k3:y08 K (.ref f3)=true)
  (a4:y0r K y0n "_law_event"=some (some (.ref f4)))
  (l4:K.lookup f4=some ⟨oc4,od4,.func (y0i "_law_event" "_law_event" (z0b z4o) (z0a z4o) (z01 z4o) .none kV4 dc4 pm4 an4 cd4 ct4),sl4⟩)
  (c4:y0f K cd4 "_law_event"=true)
  (k4:y08 K (.ref f4)=true)
  (a5:y0r K y0n "_law_row"=some (some (.ref f5)))
  (l5:K.lookup f5=some ⟨oc5,od5,.func (y0i "_law_row" "_law_row" (z0b z6l) (z0a z6l) (z01 z6l) .none kV5 dc5 pm5 an5 cd5 ct5),sl5⟩)
  (c5:y0f K cd5 "_law_row"=true)
  (k5:y08 K (.ref f5)=true)
  (a6:y0r K y0n "_law_cell_at"=some (some (.ref f6)))
  (l6:K.lookup f6=some ⟨oc6,od6,.func (y0i "_law_cell_at" "_law_cell_at" (z0b z30) (z0a z30) (z01 z30) .none kV6 dc6 pm6 an6 cd6 ct6),sl6⟩)
  (c6:y0f K cd6 "_law_cell_at"=true)
  (k6:y08 K (.ref f6)=true)
  (a7:y0r K y0n "_law_mixed"=some (some (.ref f7)))
  (l7:K.lookup f7=some ⟨oc7,od7,.func (y0i "_law_mixed" "_law_mixed" (z0b z4m) (z0a z4m) (z01 z4m) .none kV7 dc7 pm7 an7 cd7 ct7),sl7⟩)
  (c7:y0f K cd7 "_law_mixed"=true)
  (k7:y08 K (.ref f7)=true)
  (a8:y0r K y0n "text_of"=some (some (.ref f8)))
  (l8:K.lookup f8=some ⟨oc8,od8,.func (y0i "text_of" "text_of" (z0b z3z) (z0a z3z) (z01 z3z) .none kV8 dc8 pm8 an8 cd8 ct8),sl8⟩)
  (c8:y0f K cd8 "text_of"=true)
  (k8:y08 K (.ref f8)=true)
  (a9:y0r K y0n "number_text"=some (some (.ref f9)))
  (l9:K.lookup f9=some ⟨oc9,od9,.func (y0i "number_text" "number_text" (z0b z20) (z0a z20) (z01 z20) .none kV9 dc9 pm9 an9 cd9 ct9),sl9⟩)
  (c9:y0f K cd9 "number_text"=true)
  (k9:y08 K (.ref f9)=true)
  (a10:y0r K y0n "event_parts"=some (some (.ref f10)))
  (l10:K.lookup f10=some ⟨oc10,od10,.func (y0i "event_parts" "event_parts" (z0b z21) (z0a z21) (z01 z21) .none kV10 dc10 pm10 an10 cd10 ct10),sl10⟩)
  (c10:y0f K cd10 "event_parts"=true)
  (k10:y08 K (.ref f10)=true)
  (a11:y0r K y0n "row_text"=some (some (.ref f11)))
  (l11:K.lookup f11=some ⟨oc11,od11,.func (y0i "row_text" "row_text" (z0b z39) (z0a z39) (z01 z39) .none kV11 dc11 pm11 an11 cd11 ct11),sl11⟩)
  (c11:y0f K cd11 "row_text"=true)
  (k11:y08 K (.ref f11)=true)
  (a12:y0r K y0n "_law_lines"=some (some (.ref f12)))
  (l12:K.lookup f12=some ⟨oc12,od12,.func (y0i "_law_lines" "_law_lines" (z0b z41) (z0a z41) (z01 z41) .none kV12 dc12 pm12 an12 cd12 ct12),sl12⟩)
  (c12:y0f K cd12 "_law_lines"=true)
  (k12:y08 K (.ref f12)=true)
  (a13:y0r K y0n "zone_parts"=some (some (.ref f13)))
  (l13:K.lookup f13=some ⟨oc13,od13,.func (y0i "zone_parts" "zone_parts" (z0b z2e) (z0a z2e) (z01 z2e) .none kV13 dc13 pm13 an13 cd13 ct13),sl13⟩)
  (c13:y0f K cd13 "zone_parts"=true)
  (k13:y08 K (.ref f13)=true)
  (a14:y0r K y0n "code_parts"=some (some (.ref f14)))
  (l14:K.lookup f14=some ⟨oc14,od14,.func (y0i "code_parts" "code_parts" (z0b z2i) (z0a z2i) (z01 z2i) .none kV14 dc14 pm14 an14 cd14 ct14),sl14⟩)
  (c14:y0f K cd14 "code_parts"=true)
  (k14:y08 K (.ref f14)=true)
  (a15:y0r K y0n "plan_text"=some (some (.ref f15)))
  (l15:K.lookup f15=some ⟨oc15,od15,.func (y0i "plan_text" "plan_text" (z0b z1o) (z0a z1o) (z01 z1o) .none kV15 dc15 pm15 an15 cd15 ct15),sl15⟩)
  (c15:y0f K cd15 "plan_text"=true)
  (k15:y08 K (.ref f15)=true)
  (a16:y0r K y0n "opening_parts"=some (some (.ref f16)))
  (l16:K.lookup f16=some ⟨oc16,od16,.func (y0i "opening_parts" "opening_parts" (z0b z1c) (z0a z1c) (z01 z1c) .none kV16 dc16 pm16 an16 cd16 ct16),sl16⟩)
  (c16:y0f K cd16 "opening_parts"=true)
  (k16:y08 K (.ref f16)=true)
  (a17:y0r K y0n "house_text"=some (some (.ref f17)))
  (l17:K.lookup f17=some ⟨oc17,od17,.func (y0i "house_text" "house_text" (z0b z1v) (z0a z1v) (z01 z1v) .none kV17 dc17 pm17 an17 cd17 ct17),sl17⟩)
  (c17:y0f K cd17 "house_text"=true)
  (k17:y08 K (.ref f17)=true)
  (a18:y0r K y0n "is_text"=some (some (.ref f18)))
  (l18:K.lookup f18=some ⟨oc18,od18,.func (y0i "is_text" "is_text" (z0b z42) (z0a z42) (z01 z42) .none kV18 dc18 pm18 an18 cd18 ct18),sl18⟩)
  (c18:y0f K cd18 "is_text"=true)
  (k18:y08 K (.ref f18)=true)
  (a19:y0r K y0n "number_of"=some (some (.ref f19)))
  (l19:K.lookup f19=some ⟨oc19,od19,.func (y0i "number_of" "number_of" (z0b z2z) (z0a z2z) (z01 z2z) .none kV19 dc19 pm19 an19 cd19 ct19),sl19⟩)
  (c19:y0f K cd19 "number_of"=true)
  (k19:y08 K (.ref f19)=true)
  (a20:y0r K y0n "numbers_of"=some (some (.ref f20)))
  (l20:K.lookup f20=some ⟨oc20,od20,.func (y0i "numbers_of" "numbers_of" (z0b z1u) (z0a z1u) (z01 z1u) .none kV20 dc20 pm20 an20 cd20 ct20),sl20⟩)
  (c20:y0f K cd20 "numbers_of"=true)
  (k20:y08 K (.ref f20)=true)
  (a21:y0r K y0n "event_from"=some (some (.ref f21)))
  (l21:K.lookup f21=some ⟨oc21,od21,.func (y0i "event_from" "event_from" (z0b z2h) (z0a z2h) (z01 z2h) .none kV21 dc21 pm21 an21 cd21 ct21),sl21⟩)
  (c21:y0f K cd21 "event_from"=true)
  (k21:y08 K (.ref f21)=true)
  (a22:y0r K y0n "rows_of"=some (some (.ref f22)))
  (l22:K.lookup f22=some ⟨oc22,od22,.func (y0i "rows_of" "rows_of" (z0b z40) (z0a z40) (z01 z40) .none kV22 dc22 pm22 an22 cd22 ct22),sl22⟩)
  (c22:y0f K cd22 "rows_of"=true)
  (k22:y08 K (.ref f22)=true)
  (a23:y0r K y0n "is_tuple"=some (some (.ref f23)))
  (l23:K.lookup f23=some ⟨oc23,od23,.func (y0i "is_tuple" "is_tuple" (z0b z3r) (z0a z3r) (z01 z3r) .none kV23 dc23 pm23 an23 cd23 ct23),sl23⟩)
  (c23:y0f K cd23 "is_tuple"=true)
  (k23:y08 K (.ref f23)=true)
  (a24:y0r K y0n "has_zone"=some (some (.ref f24)))
  (l24:K.lookup f24=some ⟨oc24,od24,.func (y0i "has_zone" "has_zone" (z0b z3b) (z0a z3b) (z01 z3b) .none kV24 dc24 pm24 an24 cd24 ct24),sl24⟩)
  (c24:y0f K cd24 "has_zone"=true)
  (k24:y08 K (.ref f24)=true)
  (a25:y0r K y0n "is_line_event"=some (some (.ref f25)))
  (l25:K.lookup f25=some ⟨oc25,od25,.func (y0i "is_line_event" "is_line_event" (z0b z1e) (z0a z1e) (z01 z1e) .none kV25 dc25 pm25 an25 cd25 ct25),sl25⟩)
  (c25:y0f K cd25 "is_line_event"=true)
  (k25:y08 K (.ref f25)=true)
  (a26:y0r K y0n "is_figures"=some (some (.ref f26)))
  (l26:K.lookup f26=some ⟨oc26,od26,.func (y0i "is_figures" "is_figures" (z0b z2g) (z0a z2g) (z01 z2g) .none kV26 dc26 pm26 an26 cd26 ct26),sl26⟩)
  (c26:y0f K cd26 "is_figures"=true)
  (k26:y08 K (.ref f26)=true)
  (a27:y0r K y0n "is_code_event"=some (some (.ref f27)))
  (l27:K.lookup f27=some ⟨oc27,od27,.func (y0i "is_code_event" "is_code_event" (z0b z1f) (z0a z1f) (z01 z1f) .none kV27 dc27 pm27 an27 cd27 ct27),sl27⟩)
  (c27:y0f K cd27 "is_code_event"=true)
  (k27:y08 K (.ref f27)=true)
  (a28:y0r K y0n "is_whole"=some (some (.ref f28)))
  (l28:K.lookup f28=some ⟨oc28,od28,.func (y0i "is_whole" "is_whole" (z0b z3q) (z0a z3q) (z01 z3q) .none kV28 dc28 pm28 an28 cd28 ct28),sl28⟩)
  (c28:y0f K cd28 "is_whole"=true)
  (k28:y08 K (.ref f28)=true)
  (a29:y0r K y0n "is_ticks_event"=some (some (.ref f29)))
  (l29:K.lookup f29=some ⟨oc29,od29,.func (y0i "is_ticks_event" "is_ticks_event" (z0b z14) (z0a z14) (z01 z14) .none kV29 dc29 pm29 an29 cd29 ct29),sl29⟩)
  (c29:y0f K cd29 "is_ticks_event"=true)
  (k29:y08 K (.ref f29)=true)
  (a30:y0r K y0n "is_event"=some (some (.ref f30)))
  (l30:K.lookup f30=some ⟨oc30,od30,.func (y0i "is_event" "is_event" (z0b z3s) (z0a z3s) (z01 z3s) .none kV30 dc30 pm30 an30 cd30 ct30),sl30⟩)
  (c30:y0f K cd30 "is_event"=true)
  (k30:y08 K (.ref f30)=true)
  (a31:y0r K y0n "read_row"=some (some (.ref f31)))
  (l31:K.lookup f31=some ⟨oc31,od31,.func (y0i "read_row" "read_row" (z0b z2r) (z0a z2r) (z01 z2r) .none kV31 dc31 pm31 an31 cd31 ct31),sl31⟩)
  (c31:y0f K cd31 "read_row"=true)
  (k31:y08 K (.ref f31)=true)
  (a32:y0r K y0n "numbers_ahead"=some (some (.ref f32)))
  (l32:K.lookup f32=some ⟨oc32,od32,.func (y0i "numbers_ahead" "numbers_ahead" (z0b z1d) (z0a z1d) (z01 z1d) .none kV32 dc32 pm32 an32 cd32 ct32),sl32⟩)
  (c32:y0f K cd32 "numbers_ahead"=true)
  (k32:y08 K (.ref f32)=true)
  (a33:y0r K y0n "code_from"=some (some (.ref f33)))
  (l33:K.lookup f33=some ⟨oc33,od33,.func (y0i "code_from" "code_from" (z0b z32) (z0a z32) (z01 z32) .none kV33 dc33 pm33 an33 cd33 ct33),sl33⟩)
  (c33:y0f K cd33 "code_from"=true)
  (k33:y08 K (.ref f33)=true)
  (a34:y0r K y0n "rises"=some (some (.ref f34)))
  (l34:K.lookup f34=some ⟨oc34,od34,.func (y0i "rises" "rises" (z0b z6k) (z0a z6k) (z01 z6k) .none kV34 dc34 pm34 an34 cd34 ct34),sl34⟩)
  (c34:y0f K cd34 "rises"=true)
  (k34:y08 K (.ref f34)=true)
  (a35:y0r K y0n "is_name"=some (some (.ref f35)))
  (l35:K.lookup f35=some ⟨oc35,od35,.func (y0i "is_name" "is_name" (z0b z4s) (z0a z4s) (z01 z4s) .none kV35 dc35 pm35 an35 cd35 ct35),sl35⟩)
  (c35:y0f K cd35 "is_name"=true)
  (k35:y08 K (.ref f35)=true)
  (a36:y0r K y0n "is_zone"=some (some (.ref f36)))
  (l36:K.lookup f36=some ⟨oc36,od36,.func (y0i "is_zone" "is_zone" (z0b z4q) (z0a z4q) (z01 z4q) .none kV36 dc36 pm36 an36 cd36 ct36),sl36⟩)
  (c36:y0f K cd36 "is_zone"=true)
  (k36:y08 K (.ref f36)=true)
  (a37:y0r K y0n "are_zones"=some (some (.ref f37)))
  (l37:K.lookup f37=some ⟨oc37,od37,.func (y0i "are_zones" "are_zones" (z0b z22) (z0a z22) (z01 z22) .none kV37 dc37 pm37 an37 cd37 ct37),sl37⟩)
  (c37:y0f K cd37 "are_zones"=true)
  (k37:y08 K (.ref f37)=true)
  (a38:y0r K y0n "are_rights"=some (some (.ref f38)))
  (l38:K.lookup f38=some ⟨oc38,od38,.func (y0i "are_rights" "are_rights" (z0b z1w) (z0a z1w) (z01 z1w) .none kV38 dc38 pm38 an38 cd38 ct38),sl38⟩)
  (c38:y0f K cd38 "are_rights"=true)
  (k38:y08 K (.ref f38)=true)
  (a39:y0r K y0n "is_within"=some (some (.ref f39)))
  (l39:K.lookup f39=some ⟨oc39,od39,.func (y0i "is_within" "is_within" (z0b z31) (z0a z31) (z01 z31) .none kV39 dc39 pm39 an39 cd39 ct39),sl39⟩)
  (c39:y0f K cd39 "is_within"=true)
  (k39:y08 K (.ref f39)=true)
  (a40:y0r K y0n "is_code"=some (some (.ref f40)))
  (l40:K.lookup f40=some ⟨oc40,od40,.func (y0i "is_code" "is_code" (z0b z4t) (z0a z4t) (z01 z4t) .none kV40 dc40 pm40 an40 cd40 ct40),sl40⟩)
  (c40:y0f K cd40 "is_code"=true)
  (k40:y08 K (.ref f40)=true)
  (a41:y0r K y0n "are_codes"=some (some (.ref f41)))
  (l41:K.lookup f41=some ⟨oc41,od41,.func (y0i "are_codes" "are_codes" (z0b z23) (z0a z23) (z01 z23) .none kV41 dc41 pm41 an41 cd41 ct41),sl41⟩)
  (c41:y0f K cd41 "are_codes"=true)
  (k41:y08 K (.ref f41)=true)
  (a42:y0r K y0n "are_times"=some (some (.ref f42)))
  (l42:K.lookup f42=some ⟨oc42,od42,.func (y0i "are_times" "are_times" (z0b z33) (z0a z33) (z01 z33) .none kV42 dc42 pm42 an42 cd42 ct42),sl42⟩)
  (c42:y0f K cd42 "are_times"=true)
  (k42:y08 K (.ref f42)=true)
  (a43:y0r K y0n "is_plan"=some (some (.ref f43)))
  (l43:K.lookup f43=some ⟨oc43,od43,.func (y0i "is_plan" "is_plan" (z0b z4r) (z0a z4r) (z01 z4r) .none kV43 dc43 pm43 an43 cd43 ct43),sl43⟩)
  (c43:y0f K cd43 "is_plan"=true)
  (k43:y08 K (.ref f43)=true)
  (a44:y0r K y0n "read_plan"=some (some (.ref f44)))
  (l44:K.lookup f44=some ⟨oc44,od44,.func (y0i "read_plan" "read_plan" (z0b z1z) (z0a z1z) (z01 z1z) .none kV44 dc44 pm44 an44 cd44 ct44),sl44⟩)
  (c44:y0f K cd44 "read_plan"=true)
  (k44:y08 K (.ref f44)=true)
  (a45:y0r K y0n "opening_from"=some (some (.ref f45)))
  (l45:K.lookup f45=some ⟨oc45,od45,.func (y0i "opening_from" "opening_from" (z0b z17) (z0a z17) (z01 z17) .none kV45 dc45 pm45 an45 cd45 ct45),sl45⟩)
  (c45:y0f K cd45 "opening_from"=true)
  (k45:y08 K (.ref f45)=true)
  (a46:y0r K y0n "is_opening"=some (some (.ref f46)))
  (l46:K.lookup f46=some ⟨oc46,od46,.func (y0i "is_opening" "is_opening" (z0b z2f) (z0a z2f) (z01 z2f) .none kV46 dc46 pm46 an46 cd46 ct46),sl46⟩)
  (c46:y0f K cd46 "is_opening"=true)
  (k46:y08 K (.ref f46)=true)
  (a47:y0r K y0n "is_house"=some (some (.ref f47)))
  (l47:K.lookup f47=some ⟨oc47,od47,.func (y0i "is_house" "is_house" (z0b z3a) (z0a z3a) (z01 z3a) .none kV47 dc47 pm47 an47 cd47 ct47),sl47⟩)
  (c47:y0f K cd47 "is_house"=true)
  (k47:y08 K (.ref f47)=true)
  (a48:y0r K y0n "read_house"=some (some (.ref f48)))
  (l48:K.lookup f48=some ⟨oc48,od48,.func (y0i "read_house" "read_house" (z0b z1t) (z0a z1t) (z01 z1t) .none kV48 dc48 pm48 an48 cd48 ct48),sl48⟩)
  (c48:y0f K cd48 "read_house"=true)
  (k48:y08 K (.ref f48)=true)
  (a49:y0r K y0n "law"=some (some (.ref f49)))
  (l49:K.lookup f49=some ⟨oc49,od49,.func (y0i "law" "law" (z0b zae) (z0a zae) (z01 zae) .none kV49 dc49 pm49 an49 cd49 ct49),sl49⟩)
  (c49:y0f K cd49 "law"=true)
  (k49:y08 K (.ref f49)=true)
  (z_enumerate:y0r K y0n "enumerate"=some none)
  (z_tuple:y0r K y0n "tuple"=some none)
  (z_range:y0r K y0n "range"=some none)
  (z_min:y0r K y0n "min"=some none)
  (z_max:y0r K y0n "max"=some none)
  (z_len:y0r K y0n "len"=some none)
  (z_str:y0r K y0n "str"=some none)
  (z_all:y0r K y0n "all"=some none)
  (z_isinstance:y0r K y0n "isinstance"=some none)
  (z_ord:y0r K y0n "ord"=some none)
  (z_int:y0r K y0n "int"=some none)
  (z_bool:y0r K y0n "bool"=some none)
  (z_zip:y0r K y0n "zip"=some none)
  (z_repr:y0r K y0n "repr"=some none)
  (g_LINES:y0r K y0n "LINES"=some (some (.ref a_LINES)))
  (q_LINES:K.lookup a_LINES=some ⟨.type "tuple",od_LINES,.seq #[.str "shut" t_LINES0,.str "open" t_LINES1,.str "cut" t_LINES2] n_LINES,sl_LINES⟩)
  (g_DEEDS_ALONE:y0r K y0n "DEEDS_ALONE"=some (some (.ref a_DEEDS_ALONE)))
  (q_DEEDS_ALONE:K.lookup a_DEEDS_ALONE=some ⟨.type "tuple",od_DEEDS_ALONE,.seq #[.str "set" t_DEEDS_ALONE0,.str "unset" t_DEEDS_ALONE1] n_DEEDS_ALONE,sl_DEEDS_ALONE⟩)
  (g_DEEDS_OF_ZONES:y0r K y0n "DEEDS_OF_ZONES"=some (some (.ref a_DEEDS_OF_ZONES)))
  (q_DEEDS_OF_ZONES:K.lookup a_DEEDS_OF_ZONES=some ⟨.type "tuple",od_DEEDS_OF_ZONES,.seq #[.str "shunt" t_DEEDS_OF_ZONES0,.str "free" t_DEEDS_OF_ZONES1] n_DEEDS_OF_ZONES,sl_DEEDS_OF_ZONES⟩)
  (g_KINDS:y0r K y0n "KINDS"=some (some (.ref a_KINDS)))
  (q_KINDS:K.lookup a_KINDS=some ⟨.type "tuple",od_KINDS,.seq #[.str "day" t_KINDS0,.str "inner" t_KINDS1,.str "once" t_KINDS2,.str "way" t_KINDS3] n_KINDS,sl_KINDS⟩)
  (g_RIGHTS:y0r K y0n "RIGHTS"=some (some (.ref a_RIGHTS)))
  (q_RIGHTS:K.lookup a_RIGHTS=some ⟨.type "tuple",od_RIGHTS,.seq #[.str "set" t_RIGHTS0,.str "shunt" t_RIGHTS1,.str "unset" t_RIGHTS2] n_RIGHTS,sl_RIGHTS⟩)
  (g_OUTSIDE:y0r K y0n "OUTSIDE"=some (some (.int 0 t_OUTSIDE))) :
  ∃fd:y0b,(∀(s:y04) (v:Value),BindsTo s fd ⟨[v],[]⟩ [("_law_script",v)])/\∀base:Heap,K.In base->base.Ns y0n mg->FnOk l.prog w K mg base CX0 7 fa fd ["_law_script"] (@spT t0 K 1 zk4):=by
 have e:=hfa.symm.trans (y11 X G a49)
 cases e
 refine⟨y0i "law" "law" (z0b zae) (z0a zae) (z01 zae) .none kV49 dc49 pm49 an49 cd49 ct49,fun s v=>.of_eq rfl,fun base _ _=>?_⟩
 letI tt:Tbl:=⟨[],fun c=>match c with  | _=>[],fun c=>match c with  | _=>none⟩
 replace z_enumerate:=y1a X G z_enumerate
 replace z_tuple:=y1a X G z_tuple
 replace z_range:=y1a X G z_range
 replace z_min:=y1a X G z_min
 replace z_max:=y1a X G z_max
 replace z_len:=y1a X G z_len
 replace z_str:=y1a X G z_str
 replace z_all:=y1a X G z_all
 replace z_isinstance:=y1a X G z_isinstance
 replace z_ord:=y1a X G z_ord
 replace z_int:=y1a X G z_int
 replace z_bool:=y1a X G z_bool
 replace z_zip:=y1a X G z_zip
 replace z_repr:=y1a X G z_repr
 replace g_LINES:=y11 X G g_LINES
 have tt_LINES:∃(o:Obj) (its:Array Value) (n:Nat),K.lookup a_LINES=some o/\o.cls=.type "tuple"/\o.data=.seq its n/\its.size<=y0j/\Vals ((["shut","open","cut"]:List Str).map V.str) its.toList:=⟨_,_,_,q_LINES,rfl,rfl,by show 3<=y0j;decide,(.cons ⟨_,rfl⟩ (.cons ⟨_,rfl⟩ (.cons ⟨_,rfl⟩ .nil)))⟩
 replace g_DEEDS_ALONE:=y11 X G g_DEEDS_ALONE
 have tt_DEEDS_ALONE:∃(o:Obj) (its:Array Value) (n:Nat),K.lookup a_DEEDS_ALONE=some o/\o.cls=.type "tuple"/\o.data=.seq its n/\its.size<=y0j/\Vals ((["set","unset"]:List Str).map V.str) its.toList:=⟨_,_,_,q_DEEDS_ALONE,rfl,rfl,by show 2<=y0j;decide,(.cons ⟨_,rfl⟩ (.cons ⟨_,rfl⟩ .nil))⟩
 replace g_DEEDS_OF_ZONES:=y11 X G g_DEEDS_OF_ZONES
 have tt_DEEDS_OF_ZONES:∃(o:Obj) (its:Array Value) (n:Nat),K.lookup a_DEEDS_OF_ZONES=some o/\o.cls=.type "tuple"/\o.data=.seq its n/\its.size<=y0j/\Vals ((["shunt","free"]:List Str).map V.str) its.toList:=⟨_,_,_,q_DEEDS_OF_ZONES,rfl,rfl,by show 2<=y0j;decide,(.cons ⟨_,rfl⟩ (.cons ⟨_,rfl⟩ .nil))⟩
 replace g_KINDS:=y11 X G g_KINDS
 have tt_KINDS:∃(o:Obj) (its:Array Value) (n:Nat),K.lookup a_KINDS=some o/\o.cls=.type "tuple"/\o.data=.seq its n/\its.size<=y0j/\Vals ((["day","inner","once","way"]:List Str).map V.str) its.toList:=⟨_,_,_,q_KINDS,rfl,rfl,by show 4<=y0j;decide,(.cons ⟨_,rfl⟩ (.cons ⟨_,rfl⟩ (.cons ⟨_,rfl⟩ (.cons ⟨_,rfl⟩ .nil))))⟩
 replace g_RIGHTS:=y11 X G g_RIGHTS
 have tt_RIGHTS:∃(o:Obj) (its:Array Value) (n:Nat),K.lookup a_RIGHTS=some o/\o.cls=.type "tuple"/\o.data=.seq its n/\its.size<=y0j/\Vals ((["set","shunt","unset"]:List Str).map V.str) its.toList:=⟨_,_,_,q_RIGHTS,rfl,rfl,by show 3<=y0j;decide,(.cons ⟨_,rfl⟩ (.cons ⟨_,rfl⟩ (.cons ⟨_,rfl⟩ .nil)))⟩
 replace g_OUTSIDE:=y11 X G g_OUTSIDE
 have F1:=z0k (st:=z4p) l1 c1 k1
 have C_l_drawn:=z3l (P:=l.prog) (w:=w) (base:=base) (k:=0) F1 (y11 X G a1)
 have F2:=z0k (st:=z5n) l2 c2 k2
 have C_l_plan:=zdi (P:=l.prog) (w:=w) (base:=base) (k:=1) F2 (y11 X G a2) z_enumerate (C_l_drawn.mono (by decide)) z_tuple z_range
 have F3:=z0k (st:=z4n) l3 c3 k3
 have C_l_house:=z8l (P:=l.prog) (w:=w) (base:=base) (k:=1) F3 (y11 X G a3) z_range (C_l_drawn.mono (by decide)) z_min z_max
 have F4:=z0k (st:=z4o) l4 c4 k4
 have C_l_event:=z6v (P:=l.prog) (w:=w) (base:=base) (k:=0) F4 (y11 X G a4) z_len
 have F5:=z0k (st:=z6l) l5 c5 k5
 have C_l_row:=zhp (P:=l.prog) (w:=w) (base:=base) (k:=1) F5 (y11 X G a5) z_tuple (C_l_event.mono (by decide)) z_len z_range (C_l_drawn.mono (by decide))
 have F6:=z0k (st:=z30) l6 c6 k6
 have C_l_cell_at:=z7y (P:=l.prog) (w:=w) (base:=base) (k:=0) F6 (y11 X G a6) z_len
 have F7:=z0k (st:=z4m) l7 c7 k7
 have C_l_mixed:=z5z (P:=l.prog) (w:=w) (base:=base) (k:=1) F7 (y11 X G a7) (C_l_cell_at.mono (by decide))
 have F8:=z0k (st:=z3z) l8 c8 k8
 have C_text_of:=z57 (P:=l.prog) (w:=w) (base:=base) (k:=0) F8 (y11 X G a8)
 have F9:=z0k (st:=z20) l9 c9 k9
 have C_number_text:=z0q (P:=l.prog) (w:=w) (base:=base) (k:=0) F9 (y11 X G a9) z_str
 have F10:=z0k (st:=z21) l10 c10 k10
 have C_event_parts:=z67 (P:=l.prog) (w:=w) (base:=base) (k:=1) F10 (y11 X G a10) (C_number_text.mono (by decide))
 have F11:=z0k (st:=z39) l11 c11 k11
 have C_row_text:=z2s (P:=l.prog) (w:=w) (base:=base) (k:=2) F11 (y11 X G a11) (C_text_of.mono (by decide)) (C_event_parts.mono (by decide))
 have F12:=z0k (st:=z41) l12 c12 k12
 have C_l_lines:=z6u (P:=l.prog) (w:=w) (base:=base) (k:=0) F12 (y11 X G a12) z_str
 have F13:=z0k (st:=z2e) l13 c13 k13
 have C_zone_parts:=z6s (P:=l.prog) (w:=w) (base:=base) (k:=0) F13 (y11 X G a13)
 have F14:=z0k (st:=z2i) l14 c14 k14
 have C_code_parts:=z6y (P:=l.prog) (w:=w) (base:=base) (k:=1) F14 (y11 X G a14) (C_number_text.mono (by decide))
 have F15:=z0k (st:=z1o) l15 c15 k15
 have C_plan_text:=z26 (P:=l.prog) (w:=w) (base:=base) (k:=2) F15 (y11 X G a15) (C_text_of.mono (by decide)) (C_zone_parts.mono (by decide)) (C_code_parts.mono (by decide)) (C_number_text.mono (by decide))
 have F16:=z0k (st:=z1c) l16 c16 k16
 have C_opening_parts:=z59 (P:=l.prog) (w:=w) (base:=base) (k:=1) F16 (y11 X G a16) (C_number_text.mono (by decide))
 have F17:=z0k (st:=z1v) l17 c17 k17
 have C_house_text:=z1y (P:=l.prog) (w:=w) (base:=base) (k:=2) F17 (y11 X G a17) (C_text_of.mono (by decide)) (C_number_text.mono (by decide)) (C_opening_parts.mono (by decide))
 have F18:=z0k (st:=z42) l18 c18 k18
 have C_is_text:=z5a (P:=l.prog) (w:=w) (base:=base) (k:=0) F18 (y11 X G a18) z_all z_isinstance z_len z_str
 have F19:=z0k (st:=z2z) l19 c19 k19
 have C_number_of:=z7x (P:=l.prog) (w:=w) (base:=base) (k:=1) F19 (y11 X G a19) (C_is_text.mono (by decide)) z_len z_ord
 have F20:=z0k (st:=z1u) l20 c20 k20
 have C_numbers_of:=z1m (P:=l.prog) (w:=w) (base:=base) (k:=2) F20 (y11 X G a20) z_tuple (C_number_of.mono (by decide))
 have F21:=z0k (st:=z2h) l21 c21 k21
 have C_event_from:=z6x (P:=l.prog) (w:=w) (base:=base) (k:=3) F21 (y11 X G a21) z_tuple (C_numbers_of.mono (by decide)) z_len
 have F22:=z0k (st:=z40) l22 c22 k22
 have C_rows_of:=z58 (P:=l.prog) (w:=w) (base:=base) (k:=0) F22 (y11 X G a22)
 have F23:=z0k (st:=z3r) l23 c23 k23
 have C_is_tuple:=z0d (P:=l.prog) (w:=w) (base:=base) (k:=0) F23 (y11 X G a23) z_isinstance z_tuple z_len
 have F24:=z0k (st:=z3b) l24 c24 k24
 have C_has_zone:=z61 (P:=l.prog) (w:=w) (base:=base) (k:=0) F24 (y11 X G a24)
 have F25:=z0k (st:=z1e) l25 c25 k25
 have C_is_line_event:=z5c (P:=l.prog) (w:=w) (base:=base) (k:=1) F25 (y11 X G a25) (C_is_tuple.mono (by decide)) (C_has_zone.mono (by decide)) g_LINES tt_LINES
 have F26:=z0k (st:=z2g) l26 c26 k26
 have C_is_figures:=z46 (P:=l.prog) (w:=w) (base:=base) (k:=1) F26 (y11 X G a26) (C_is_text.mono (by decide))
 have F27:=z0k (st:=z1f) l27 c27 k27
 have C_is_code_event:=z5d (P:=l.prog) (w:=w) (base:=base) (k:=2) F27 (y11 X G a27) (C_has_zone.mono (by decide)) (C_is_tuple.mono (by decide)) (C_is_figures.mono (by decide)) g_DEEDS_ALONE tt_DEEDS_ALONE g_DEEDS_OF_ZONES tt_DEEDS_OF_ZONES
 have F28:=z0k (st:=z3q) l28 c28 k28
 have C_is_whole:=z60 (P:=l.prog) (w:=w) (base:=base) (k:=0) F28 (y11 X G a28) z_isinstance z_int z_bool
 have F29:=z0k (st:=z14) l29 c29 k29
 have C_is_ticks_event:=z48 (P:=l.prog) (w:=w) (base:=base) (k:=1) F29 (y11 X G a29) (C_is_tuple.mono (by decide)) (C_is_whole.mono (by decide))
 have F30:=z0k (st:=z3s) l30 c30 k30
 have C_is_event:=z95 (P:=l.prog) (w:=w) (base:=base) (k:=3) F30 (y11 X G a30) (C_is_line_event.mono (by decide)) (C_is_code_event.mono (by decide)) (C_is_ticks_event.mono (by decide))
 have F31:=z0k (st:=z2r) l31 c31 k31
 have C_read_row:=z7d (P:=l.prog) (w:=w) (base:=base) (k:=4) F31 (y11 X G a31) z_tuple (C_event_from.mono (by decide)) z_all (C_row_text.mono (by decide)) (C_rows_of.mono (by decide)) (C_is_event.mono (by decide))
 have F32:=z0k (st:=z1d) l32 c32 k32
 have C_numbers_ahead:=z2o (P:=l.prog) (w:=w) (base:=base) (k:=3) F32 (y11 X G a32) (C_numbers_of.mono (by decide))
 have F33:=z0k (st:=z32) l33 c33 k33
 have C_code_from:=z7z (P:=l.prog) (w:=w) (base:=base) (k:=3) F33 (y11 X G a33) (C_numbers_of.mono (by decide)) z_tuple
 have F34:=z0k (st:=z6k) l34 c34 k34
 have C_rises:=z7w (P:=l.prog) (w:=w) (base:=base) (k:=0) F34 (y11 X G a34) z_all z_zip
 have F35:=z0k (st:=z4s) l35 c35 k35
 have C_is_name:=z5b (P:=l.prog) (w:=w) (base:=base) (k:=1) F35 (y11 X G a35) (C_is_text.mono (by decide))
 have F36:=z0k (st:=z4q) l36 c36 k36
 have C_is_zone:=zb5 (P:=l.prog) (w:=w) (base:=base) (k:=2) F36 (y11 X G a36) (C_is_tuple.mono (by decide)) (C_is_name.mono (by decide)) g_KINDS tt_KINDS
 have F37:=z0k (st:=z22) l37 c37 k37
 have C_are_zones:=z80 (P:=l.prog) (w:=w) (base:=base) (k:=3) F37 (y11 X G a37) (C_rises.mono (by decide)) (C_is_tuple.mono (by decide)) z_all (C_is_zone.mono (by decide))
 have F38:=z0k (st:=z1w) l38 c38 k38
 have C_are_rights:=z6z (P:=l.prog) (w:=w) (base:=base) (k:=1) F38 (y11 X G a38) (C_is_tuple.mono (by decide)) z_all (C_rises.mono (by decide)) g_RIGHTS tt_RIGHTS
 have F39:=z0k (st:=z31) l39 c39 k39
 have C_is_within:=z16 (P:=l.prog) (w:=w) (base:=base) (k:=1) F39 (y11 X G a39) (C_is_whole.mono (by decide))
 have F40:=z0k (st:=z4t) l40 c40 k40
 have C_is_code:=zb7 (P:=l.prog) (w:=w) (base:=base) (k:=2) F40 (y11 X G a40) (C_is_tuple.mono (by decide)) (C_is_figures.mono (by decide)) (C_is_name.mono (by decide)) (C_are_rights.mono (by decide)) (C_is_within.mono (by decide))
 have F41:=z0k (st:=z23) l41 c41 k41
 have C_are_codes:=z82 (P:=l.prog) (w:=w) (base:=base) (k:=3) F41 (y11 X G a41) (C_rises.mono (by decide)) (C_is_tuple.mono (by decide)) z_all (C_is_code.mono (by decide))
 have F42:=z0k (st:=z33) l42 c42 k42
 have C_are_times:=z81 (P:=l.prog) (w:=w) (base:=base) (k:=2) F42 (y11 X G a42) (C_is_tuple.mono (by decide)) (C_is_within.mono (by decide))
 have F43:=z0k (st:=z4r) l43 c43 k43
 have C_is_plan:=zb6 (P:=l.prog) (w:=w) (base:=base) (k:=4) F43 (y11 X G a43) (C_is_tuple.mono (by decide)) (C_are_zones.mono (by decide)) (C_are_codes.mono (by decide)) (C_are_times.mono (by decide))
 have F44:=z0k (st:=z1z) l44 c44 k44
 have C_read_plan:=z66 (P:=l.prog) (w:=w) (base:=base) (k:=5) F44 (y11 X G a44) (C_rows_of.mono (by decide)) z_tuple (C_numbers_ahead.mono (by decide)) (C_code_from.mono (by decide)) (C_is_plan.mono (by decide)) (C_plan_text.mono (by decide))
 have F45:=z0k (st:=z17) l45 c45 k45
 have C_opening_from:=z5t (P:=l.prog) (w:=w) (base:=base) (k:=3) F45 (y11 X G a45) (C_numbers_of.mono (by decide)) z_tuple
 have F46:=z0k (st:=z2f) l46 c46 k46
 have C_is_opening:=z6w (P:=l.prog) (w:=w) (base:=base) (k:=2) F46 (y11 X G a46) (C_is_within.mono (by decide)) (C_is_tuple.mono (by decide)) (C_is_name.mono (by decide)) g_OUTSIDE
 have F47:=z0k (st:=z3a) l47 c47 k47
 have C_is_house:=z94 (P:=l.prog) (w:=w) (base:=base) (k:=3) F47 (y11 X G a47) z_all (C_is_tuple.mono (by decide)) (C_is_within.mono (by decide)) (C_is_opening.mono (by decide))
 have F48:=z0k (st:=z1t) l48 c48 k48
 have C_read_house:=z6t (P:=l.prog) (w:=w) (base:=base) (k:=4) F48 (y11 X G a48) (C_rows_of.mono (by decide)) z_tuple (C_numbers_ahead.mono (by decide)) (C_opening_from.mono (by decide)) (C_is_house.mono (by decide)) (C_house_text.mono (by decide))
 have F49:=z0k (st:=zae) l49 c49 k49
 exact zs9 rfl (zwk (k:=6) F49 (C_l_plan.mono (by decide)) (C_l_house.mono (by decide)) (C_l_row.mono (by decide)) (C_l_mixed.mono (by decide)) (C_l_event.mono (by decide)) (C_row_text.mono (by decide)) (C_l_lines.mono (by decide)) z_repr (C_plan_text.mono (by decide)) (C_house_text.mono (by decide)) (C_read_row.mono (by decide)) (C_read_plan.mono (by decide)) (C_read_house.mono (by decide)) z_int)
theorem walk {l:PySem.W.OpenLaw} {q:y0q} {loose:List Str} {XP:(Str->Option Value)->Heap->Prop} {YP:World->Heap->Prop} {d:DefRec} {K:Params->y00} (hn:l.most=some 63) (hdf:d.params.defaults=[])
  (hL:∀w:World,noL (K w.params)=true) (hY:∀(w:World) (h:Heap),YP w h->(K w.params).In h)
  (F:∀(w:World) (mg:Str->Option Value) (fa:Addr) (h:Heap),(K w.params).In h->h.Ns y0n mg->mg d.name=some (.ref fa) ->
   ∃fd:y0b,(∀(s:y04) (u:Value),BindsTo s fd ⟨[u],[]⟩ [("_law_script",u)])/\∀base:Heap,(K w.params).In base->base.Ns y0n mg->FnOk l.prog w (K w.params) mg base CX0 7 fa fd ["_law_script"] (@spT t0 (K w.params) 1 zk4)) :
  PySem.W.WalkO q loose XP YP l.row.toRowW d [] (fun f vs=>PySem.call f vs) :=
 L2.walk_of (n:=63) (k:=7) (x:="_law_script") (CX:=fun _=>CX0) (sp:=fun w=>@spT t0 (K w.params) 1 zk4) hn (by decide) hdf ⟨rfl,by decide,by decide,rfl⟩ hY F (fun w _ _ ns hl _ hS=>zl4 (hL w) (zox ns hl) hS) fun _ _ _ _ _ z=>z
end K50
open PySem PySem.W PyProof.Rows
set_option maxRecDepth 100000 in
set_option maxHeartbeats 0 in
theorem PySem.Challenge.cw_doorwatch_k50_whole_texts_holds : PySem.Challenge.rw_doorwatch_k50_whole_texts.Holds := by
 w_on;o_law;k_head;(case hw=>w_witness2)
 k_fill
 refine K50.walk (l:=PySem.Challenge.rw_doorwatch_k50_whole_texts) rfl rfl ?L (fun w h Y=>PySem.W.kIn_of Y) ?F
 case L =>
  intro w
  first|rfl|(with_unfolding_all rfl)|kernel_rfl
 case F =>
  intro w mg fa h KX G hmg
  refine' K50.all_mk KX G hmg ?a1 ?l1 ?c1 ?k1 ?a2 ?l2 ?c2 ?k2 ?a3 ?l3 ?c3 ?k3 ?a4 ?l4 ?c4 ?k4 ?a5 ?l5 ?c5 ?k5 ?a6 ?l6 ?c6 ?k6 ?a7 ?l7 ?c7 ?k7 ?a8 ?l8 ?c8 ?k8 ?a9 ?l9 ?c9 ?k9 ?a10 ?l10 ?c10 ?k10 ?a11 ?l11 ?c11 ?k11 ?a12 ?l12 ?c12 ?k12 ?a13 ?l13 ?c13 ?k13 ?a14 ?l14 ?c14 ?k14 ?a15 ?l15 ?c15 ?k15 ?a16 ?l16 ?c16 ?k16 ?a17 ?l17 ?c17 ?k17 ?a18 ?l18 ?c18 ?k18 ?a19 ?l19 ?c19 ?k19 ?a20 ?l20 ?c20 ?k20 ?a21 ?l21 ?c21 ?k21 ?a22 ?l22 ?c22 ?k22 ?a23 ?l23 ?c23 ?k23 ?a24 ?l24 ?c24 ?k24 ?a25 ?l25 ?c25 ?k25 ?a26 ?l26 ?c26 ?k26 ?a27 ?l27 ?c27 ?k27 ?a28 ?l28 ?c28 ?k28 ?a29 ?l29 ?c29 ?k29 ?a30 ?l30 ?c30 ?k30 ?a31 ?l31 ?c31 ?k31 ?a32 ?l32 ?c32 ?k32 ?a33 ?l33 ?c33 ?k33 ?a34 ?l34 ?c34 ?k34 ?a35 ?l35 ?c35 ?k35 ?a36 ?l36 ?c36 ?k36 ?a37 ?l37 ?c37 ?k37 ?a38 ?l38 ?c38 ?k38 ?a39 ?l39 ?c39 ?k39 ?a40 ?l40 ?c40 ?k40 ?a41 ?l41 ?c41 ?k41 ?a42 ?l42 ?c42 ?k42 ?a43 ?l43 ?c43 ?k43 ?a44 ?l44 ?c44 ?k44 ?a45 ?l45 ?c45 ?k45 ?a46 ?l46 ?c46 ?k46 ?a47 ?l47 ?c47 ?k47 ?a48 ?l48 ?c48 ?k48 ?a49 ?l49 ?c49 ?k49 ?z_enumerate ?z_tuple ?z_range ?z_min ?z_max ?z_len ?z_str ?z_all ?z_isinstance ?z_ord ?z_int ?z_bool ?z_zip ?z_repr ?g_LINES ?q_LINES ?g_DEEDS_ALONE ?q_DEEDS_ALONE ?g_DEEDS_OF_ZONES ?q_DEEDS_OF_ZONES ?g_KINDS ?q_KINDS ?g_RIGHTS ?q_RIGHTS ?g_OUTSIDE
  (case a1=>k_is)
  (case l1=>k_is)
  (case c1=>k_is)
  (case k1=>k_is)
  (case a2=>k_is)
  (case l2=>k_is)
  (case c2=>k_is)
  (case k2=>k_is)
  (case a3=>k_is)
  (case l3=>k_is)
  (case c3=>k_is)
  (case k3=>k_is)
  (case a4=>k_is)
  (case l4=>k_is)
  (case c4=>k_is)
  (case k4=>k_is)
  (case a5=>k_is)
  (case l5=>k_is)
  (case c5=>k_is)
  (case k5=>k_is)
  (case a6=>k_is)
  (case l6=>k_is)
  (case c6=>k_is)
  (case k6=>k_is)
  (case a7=>k_is)
  (case l7=>k_is)
  (case c7=>k_is)
  (case k7=>k_is)
  (case a8=>k_is)
  (case l8=>k_is)
  (case c8=>k_is)
  (case k8=>k_is)
  (case a9=>k_is)
  (case l9=>k_is)
  (case c9=>k_is)
  (case k9=>k_is)
  (case a10=>k_is)
  (case l10=>k_is)
  (case c10=>k_is)
  (case k10=>k_is)
  (case a11=>k_is)
  (case l11=>k_is)
  (case c11=>k_is)
  (case k11=>k_is)
  (case a12=>k_is)
  (case l12=>k_is)
  (case c12=>k_is)
  (case k12=>k_is)
  (case a13=>k_is)
  (case l13=>k_is)
  (case c13=>k_is)
  (case k13=>k_is)
  (case a14=>k_is)
  (case l14=>k_is)
  (case c14=>k_is)
  (case k14=>k_is)
  (case a15=>k_is)
  (case l15=>k_is)
  (case c15=>k_is)
  (case k15=>k_is)
  (case a16=>k_is)
  (case l16=>k_is)
  (case c16=>k_is)
  (case k16=>k_is)
  (case a17=>k_is)
  (case l17=>k_is)
  (case c17=>k_is)
  (case k17=>k_is)
  (case a18=>k_is)
  (case l18=>k_is)
  (case c18=>k_is)
  (case k18=>k_is)
  (case a19=>k_is)
  (case l19=>k_is)
  (case c19=>k_is)
  (case k19=>k_is)
  (case a20=>k_is)
  (case l20=>k_is)
  (case c20=>k_is)
  (case k20=>k_is)
  (case a21=>k_is)
  (case l21=>k_is)
  (case c21=>k_is)
  (case k21=>k_is)
  (case a22=>k_is)
  (case l22=>k_is)
  (case c22=>k_is)
  (case k22=>k_is)
  (case a23=>k_is)
  (case l23=>k_is)
  (case c23=>k_is)
  (case k23=>k_is)
  (case a24=>k_is)
  (case l24=>k_is)
  (case c24=>k_is)
  (case k24=>k_is)
  (case a25=>k_is)
  (case l25=>k_is)
  (case c25=>k_is)
  (case k25=>k_is)
  (case a26=>k_is)
  (case l26=>k_is)
  (case c26=>k_is)
  (case k26=>k_is)
  (case a27=>k_is)
  (case l27=>k_is)
  (case c27=>k_is)
  (case k27=>k_is)
  (case a28=>k_is)
  (case l28=>k_is)
  (case c28=>k_is)
  (case k28=>k_is)
  (case a29=>k_is)
  (case l29=>k_is)
  (case c29=>k_is)
  (case k29=>k_is)
  (case a30=>k_is)
  (case l30=>k_is)
  (case c30=>k_is)
  (case k30=>k_is)
  (case a31=>k_is)
  (case l31=>k_is)
  (case c31=>k_is)
  (case k31=>k_is)
  (case a32=>k_is)
  (case l32=>k_is)
  (case c32=>k_is)
  (case k32=>k_is)
  (case a33=>k_is)
  (case l33=>k_is)
  (case c33=>k_is)
  (case k33=>k_is)
  (case a34=>k_is)
  (case l34=>k_is)
  (case c34=>k_is)
  (case k34=>k_is)
  (case a35=>k_is)
  (case l35=>k_is)
  (case c35=>k_is)
  (case k35=>k_is)
  (case a36=>k_is)
  (case l36=>k_is)
  (case c36=>k_is)
  (case k36=>k_is)
  (case a37=>k_is)
  (case l37=>k_is)
  (case c37=>k_is)
  (case k37=>k_is)
  (case a38=>k_is)
  (case l38=>k_is)
  (case c38=>k_is)
  (case k38=>k_is)
  (case a39=>k_is)
  (case l39=>k_is)
  (case c39=>k_is)
  (case k39=>k_is)
  (case a40=>k_is)
  (case l40=>k_is)
  (case c40=>k_is)
  (case k40=>k_is)
  (case a41=>k_is)
  (case l41=>k_is)
  (case c41=>k_is)
  (case k41=>k_is)
  (case a42=>k_is)
  (case l42=>k_is)
  (case c42=>k_is)
  (case k42=>k_is)
  (case a43=>k_is)
  (case l43=>k_is)
  (case c43=>k_is)
  (case k43=>k_is)
  (case a44=>k_is)
  (case l44=>k_is)
  (case c44=>k_is)
  (case k44=>k_is)
  (case a45=>k_is)
  (case l45=>k_is)
  (case c45=>k_is)
  (case k45=>k_is)
  (case a46=>k_is)
  (case l46=>k_is)
  (case c46=>k_is)
  (case k46=>k_is)
  (case a47=>k_is)
  (case l47=>k_is)
  (case c47=>k_is)
  (case k47=>k_is)
  (case a48=>k_is)
  (case l48=>k_is)
  (case c48=>k_is)
  (case k48=>k_is)
  (case a49=>k_is)
  (case l49=>k_is)
  (case c49=>k_is)
  (case k49=>k_is)
  (case z_enumerate=>k_is)
  (case z_tuple=>k_is)
  (case z_range=>k_is)
  (case z_min=>k_is)
  (case z_max=>k_is)
  (case z_len=>k_is)
  (case z_str=>k_is)
  (case z_all=>k_is)
  (case z_isinstance=>k_is)
  (case z_ord=>k_is)
  (case z_int=>k_is)
  (case z_bool=>k_is)
  (case z_zip=>k_is)
  (case z_repr=>k_is)
  (case g_LINES=>k_is)
  (case q_LINES=>k_is)
  (case g_DEEDS_ALONE=>k_is)
  (case q_DEEDS_ALONE=>k_is)
  (case g_DEEDS_OF_ZONES=>k_is)
  (case q_DEEDS_OF_ZONES=>k_is)
  (case g_KINDS=>k_is)
  (case q_KINDS=>k_is)
  (case g_RIGHTS=>k_is)
  (case q_RIGHTS=>k_is)
  (case g_OUTSIDE=>k_is)
end
end
