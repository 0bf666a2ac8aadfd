import PyProof.Rows.All
import Wide.All
import OpenK.AllK
import Wide.FinOn
import Lean
import PyProof.EqAt
import PyProof.EqKinds
import PyProof.TupleCall
import PyProof.P3Statements
import KE.KSortTup
import PyProof.AttrMissHeap
import PyProof.ZipIter
import PyProof.Draws
import PyProof.ListMulRoad
import Wide.Seal
import KE.KLam
import KE.KNest
import KE.KNestM
import KE.KIsAll
import PyProof.ExcArgs
import PyProof.ReprStr
import PyProof.FString
import PyProof.FitsInt
import KE.KMinKey
import KE.KIntText
import KE.IntTextText
import PySem.Challenge.RW_doorwatch_k02_houses
set_option Elab.async false
set_option linter.all false
set_option maxRecDepth 100000
set_option maxHeartbeats 0
open PySem.W renaming Frag → y00, keepIn → y08, codeIn → y0f, fnOf → y0i, nsIn → y0s, mg_of → y11, mg_none_of → y1c, kitOne → y36, codeHdIn → y37
open Option renaming bind_eq_some_iff → y01, map_eq_some_iff → y07, bind_some → y0p, map_some → y1q
open PySem renaming wpAny_bind → y02, Shared → y04, wpAny_pure → y06, starEach → y0a, FuncData → y0b, sizeLine → y0j, mainGlobals → y0n, Program → y0q, wpAny → y0u, wpAny_mono → y1d, mem_of_lookup → y29, wpAny_holding → y2i, backTo → y2j, wpAny_Call_Name_kw → y2k, wpAny_field → y2l, wpAny_callSpecial?_slot → y2m, sizeLine_eq → y2n, wpAny_pyIter_tuple → y2o, compareOp → y2p, codeAny_builtin → y2q, wpAny_newObj_type → y2r, codeAny_mono → y2s, wpAny_call_entry → y2t, wpAny_setField_rec → y2u, behindInMarks → y2v, wpAny_truthy_bool → y2w, codeAny → y2x, assignEach → y2y, call_meets → y2z, wpAny_call → y30, binaryOp → y31, NameKind → y32, model → y33, foldedSetIterable → y34, rawInt → y35
open PySem.Heap renaming get?_push_of_some → y03, lt_size → y0c, get?_push_size → y0l, size_push → y17, get?_update_other → y39
open List renaming mem_cons_of_mem → y05, mem_cons → y09, map_cons → y0d, mem_cons_self → y0e, replicate → y0g, size_toArray → y0h, getElem?_eq_some_iff → y0k, mem_map → y0m, nodup_cons → y0r, getElem?_eq_getElem → y0v, length_cons → y0w, mem_singleton → y0z, mem_append → y10, length_map → y13, getElem?_map → y14, pairwise_cons → y18, map_nil → y19, mem_append_right → y1a, lookup_cons → y1f, set_cons_zero → y1i, set_cons_succ → y1k, getElem?_append_right → y1l, getElem?_append_left → y1m, Nodup → y1p, replicate_succ → y1r, append_nil → y1x, zip_cons_cons → y20, length_append → y21, flatten_cons → y26, not_mem_nil → y28, getElem?_cons_zero → y2a, getElem?_cons_succ → y2b, length_nil → y2d, map_map → y2h
open Nat renaming le_refl → y0o, lt_of_lt_of_le → y0x, ne_of_lt → y0y, ne_of_gt → y15, le_trans → y1o, zero_le → y23, le_succ → y2e, le_add_right → y38
open PySem.Builtin.SmallTypes renaming nextOf → y0t
open PySem.Builtin.Tuple renaming tupleExact → y12
open Function renaming comp_def → y16
open Bool renaming and_eq_true → y1b, false_eq_true → y1t, false_ne_true → y22
open PySem.PyData renaming depthAll → y1e, canLayAll0 → y1g, str → y1v, eqv → y1z, depth → y24
open PyProof.Rows renaming slot_tuple_getitem → y1h, callWith_type1 → y1s
open PySem.Builtin.Slice renaming slicePlaces → y1j
open Array renaming getElem?_eq_getElem → y1n, length_toList → y1y
open PySem.Around renaming under_plainId → y1u
open False renaming elim → y1w
open PySem.PassesOwn renaming never → y25
open PySem.F renaming slot_tuple_iterator_next → y27
open Option.some renaming inj → y2c
open Int renaming emod_nonneg → y2f, emod_lt_of_pos → y2g
namespace PySem.W.Fast
def tw17520815265331084166:=0
def tw15942375070185493583:=0
def tw18198720174744835786:=0
def tw6386272251644026239:=0
def tw3552724643600756746:=0
def tw2670288548596458296:=0
def tw3981397002568222668:=0
def tw6020201036308289996:=0
def tw15046272211830937512:=0
def tw1159856080944292285:=0
def tw18445616234066251769:=0
def tw13784040356168512406:=0
def tw18316628068540744889:=0
def tw7743900755624195551:=0
def tw4113344922309703366:=0
def tw7974706008610617475:=0
def tw1334721533543629893:=0
def tw11773204895969778:=0
def tw11675959758033460222:=0
def tw8716112999002461040:=0
def tw6858325248997989553:=0
def tw3125328159295059711:=0
def tw9237548150753970738:=0
def tw12066156214221544208:=0
def tw14836421218220531924:=0
def tw16931433180797226026:=0
def tw3687286540150353298:=0
def tw480863416190416419:=0
def tw7009895145132718230:=0
def tw16473861058476246404:=0
def tw6317079139626405823:=0
def tw4347325565512922709:=0
def tw13293096592794270511:=0
def tw1571315454780128293:=0
def tw2240312910022296139:=0
def tw12749006812424545636:=0
def tw1360298484323391609:=0
def tw9138656878670923394:=0
def tw15491167925888259578:=0
def tw11387685175355863685:=0
def tw1282719316351722036:=0
def tw1406842025605441058:=0
def tw14350429059871425842:=0
def tw2558981370248722048:=0
def tw7860768841399185746:=0
def tw6810340375025188770:=0
def tw3469230136787795426:=0
def tw10495398951178721391:=0
def tw5409438205139839080:=0
def tw20414164139804314:=0
def tw16196363271092287578:=0
def tw3796318874797658362:=0
def tw16456414746205257166:=0
def tw14749497158328472957:=0
def tw484098207986434469:=0
def tw14403498843838307934:=0
def tw564603106523386469:=0
def tw9470895450122822163:=0
def tw16102815385561620297:=0
def tw10811858798929835414:=0
def tw18240839928207071889:=0
def tw996670090193188847:=0
def tw9034550320861535230:=0
def tw1192158808789247107:=0
def tw1968821014555251350:=0
def tw5812133615197126696:=0
def tw13880558326973290053:=0
def tw13701423016884847399:=0
def tw70063665673052144:=0
def tw11920124049878825584:=0
def tw5434024965243090841:=0
def tw12023281357167099179:=0
def tw14443080624421507711:=0
def tw4208715527548803434:=0
def tw15065243131859752090:=0
def tw12657591041555614784:=0
def tw6557403721763945855:=0
def tw5703696604991013811:=0
end PySem.W.Fast
noncomputable section
section
namespace L2
open PySem PySem.Spec PyProof.Rows
abbrev Key:=Sum Int Str
def zga:Key->Value->Bool
 | .inl k,v=>Value.isInt k v
 | .inr x,v=>Value.isStrOf x v
def keyH (w:World):Key->Int
 | .inl k=>hashInt k
 | .inr x=>hashStr w x
theorem z17:∀{k:Key} {v:Value},zga k v=true->(∃i t,k=Sum.inl i/\v=Value.int i t)\/(∃x t,k=Sum.inr x/\v=Value.str x t)
 | .inl i,v,h=>by
  obtain⟨t,e⟩:=Value.isInt_shape (k:=i) (v:=v) h
  exact .inl ⟨i,t,rfl,e⟩
 | .inr x,v,h=>by
  obtain⟨t,e⟩:=Value.isStrOf_shape (x:=x) (v:=v) h
  exact .inr ⟨x,t,rfl,e⟩
theorem zlv (i:Int) (t:Tok):zga (.inl i) (.int i t)=true:=by simp[zga,Value.isInt]
theorem zlu (x:Str) (t:Tok):zga (.inr x) (.str x t)=true:=by simp[zga,Value.isStrOf]
theorem zuw (a b:Int):decide ((Sum.inl a:Key)=Sum.inl b)=(a == b):=by
 by_cases e:a=b
 ·subst e;simp
 ·have h:¬(Sum.inl a:Key)=Sum.inl b:=fun q=>e (Sum.inl.inj q)
  rw[decide_eq_false h]
  exact (beq_eq_false_iff_ne.mpr e).symm
theorem zut (a b:Str):decide ((Sum.inr a:Key)=Sum.inr b)=decide (a=b):=by
 by_cases e:a=b
 ·subst e;simp
 ·have h:¬(Sum.inr a:Key)=Sum.inr b:=fun q=>e (Sum.inr.inj q)
  rw[decide_eq_false h,decide_eq_false e]
theorem zuv (a:Int) (b:Str):decide ((Sum.inl a:Key)=Sum.inr b)=false:=decide_eq_false (fun q=>nomatch q)
theorem zuu (a:Str) (b:Int):decide ((Sum.inr a:Key)=Sum.inl b)=false:=decide_eq_false (fun q=>nomatch q)
noncomputable def z2b (prog:y0q) (w:World):PySem.KeyKind prog w Key where
 is:=zga
 hash:=keyH w
 inj:=fun v a b ha hb=>by
  rcases z17 ha with ⟨i,t,rfl,rfl⟩|⟨x,t,rfl,rfl⟩
  ·rcases z17 hb with ⟨j,u,rfl,e⟩|⟨y,u,rfl,e⟩
   ·injection e with e1 _;rw[e1]
   ·exact nomatch e
  ·rcases z17 hb with ⟨j,u,rfl,e⟩|⟨y,u,rfl,e⟩
   ·exact nomatch e
   ·injection e with e1 _;rw[e1]
 byValue:=fun k v h=>by
  rcases z17 h with ⟨i,t,rfl,rfl⟩|⟨x,t,rfl,rfl⟩ <;> rfl
 pyHash:=fun hv h=>by
  rcases z17 hv with ⟨i,t,rfl,rfl⟩|⟨x,t,rfl,rfl⟩
  ·exact wpAny_pyHash_int h
  ·exact wpAny_pyHash_str h
 eqBool:=fun hu hv h=>by
  rcases z17 hu with ⟨i,t,rfl,rfl⟩|⟨x,t,rfl,rfl⟩
  ·rcases z17 hv with ⟨j,u,rfl,rfl⟩|⟨y,u,rfl,rfl⟩
   ·rw[zuw] at h;exact wpAny_eqBool_int h
   ·rw[zuv] at h;exact SeqAt.EqAt.int_str i t y u _ _ _ _ h
  ·rcases z17 hv with ⟨j,u,rfl,rfl⟩|⟨y,u,rfl,rfl⟩
   ·rw[zuu] at h;exact SeqAt.EqAt.str_int x t j u _ _ _ _ h
   ·rw[zut] at h;exact wpAny_eqBool_str h
 «strs»:=fun k x t v h=>by
  rcases z17 h with ⟨i,u,rfl,e⟩|⟨y,u,rfl,e⟩
  ·exact nomatch e
  ·injection e with e1 _
   subst e1
   cases v <;> rfl
theorem zb3 (prog:y0q) (w:World) (k:Key) (v:Value):(z2b prog w).is k v=zga k v:=rfl
theorem zg8 (prog:y0q) (w:World) (i:Int) (t:Tok):(z2b prog w).is (.inl i) (.int i t)=true:=zlv i t
theorem zg7 (prog:y0q) (w:World) (x:Str) (t:Tok):(z2b prog w).is (.inr x) (.str x t)=true:=zlu x t
end L2
namespace L2
open PySem PySem.Spec PyProof.Rows
inductive V where
 | non|bl (b:Bool)|int (i:Int)|str (x:Str)|byt (b:Array UInt8)|flt (b:UInt64)|ref (a:Addr)|ty (n:String)
 deriving DecidableEq
noncomputable def RelV:V->Value->Prop
 | .non,u=>u=Value.none
 | .bl b,u=>u=Value.bool b
 | .int i,u=>∃t,u=Value.int i t
 | .str x,u=>∃t,u=Value.str x t
 | .byt b,u=>∃t,u=Value.bytes b t
 | .flt b,u=>∃t,u=Value.float b t
 | .ref a,u=>u=Value.ref a
 | .ty n,u=>u=Value.type n
abbrev Vals:List V->List Value->Prop:=Paired RelV
theorem Vals.length {xs:List V} {us:List Value} (r:Vals xs us):xs.length=us.length:=Paired.length r
theorem Vals.get:∀{xs:List V} {us:List Value} {i:Nat} {x:V},Vals xs us->xs[i]?=some x->∃u,us[i]?=some u/\RelV x u
 | _,_,_,_,.nil,e=>by simp at e
 | _,_,0,_,.cons r _,e=>by simp at e;subst e;exact⟨_,rfl,r⟩
 | _,_,i+1,x,.cons _ t,e=>by
  obtain⟨u,h1,h2⟩:=Vals.get (i:=i) (x:=x) t (by simpa using e)
  exact⟨u,by simpa using h1,h2⟩
theorem Vals.append:∀{xs ys:List V} {us ws:List Value},Vals xs us->Vals ys ws->Vals (xs++ys) (us++ws)
 | _,_,_,_,.nil,s=>s
 | _,_,_,_,.cons r t,s=>.cons r (Vals.append t s)
theorem Vals.take:∀{xs:List V} {us:List Value} (n:Nat),Vals xs us->Vals (xs.take n) (us.take n)
 | _,_,0,_=>.nil
 | _,_,_+1,.nil=>.nil
 | _,_,n+1,.cons r t=>.cons r (Vals.take n t)
theorem Vals.drop:∀{xs:List V} {us:List Value} (n:Nat),Vals xs us->Vals (xs.drop n) (us.drop n)
 | _,_,0,r=>r
 | _,_,_+1,.nil=>.nil
 | _,_,n+1,.cons _ t=>Vals.drop n t
def RelO:Option V->Option Value->Prop
 | some v,some u=>RelV v u
 | none,none=>True
 | _,_=>False
def KV {κ:Type}:List (κ×V)->List (κ×Value)->Prop:=Paired fun (p:κ×V) (q:κ×Value)=>p.1=q.1/\RelV p.2 q.2
def kV:Key->V
 | .inl i=>.int i
 | .inr x=>.str x
inductive HO where
 | lst (xs:List V)
 | tup (xs:List V)
 | dK (kvs:List (Key×V))|dT (kvs:List (List Key×V))
 | set (S:Int->Bool) (n:Nat)
 | ins (C dx:Addr) (fs:List (Str×V))
 | own (x:Addr)
 | xd (fs:List (Str×V))
 | met (f x:Addr)
 | rng (lo hi:Int)
 | frz (o:Obj) (u:HO)
 | tbl (ps:Array Value)
 | ext (φ:Heap->Prop)
abbrev Hp:=Addr->Option HO
def upd (H:Hp) (a:Addr) (o:HO):Hp:=fun b=>if b=a then some o else H b
theorem z08 {H:Hp} {a:Addr} {o:HO}:upd H a o a=some o:=by unfold upd;rw[if_pos rfl]
theorem z0f {H:Hp} {a b:Addr} {o:HO} (h:b≠a):upd H a o b=H b:=by unfold upd;rw[if_neg h]
theorem z0r {H:Hp} {a b:Addr} {o:HO} (h:H a=some o) (h':H b=none):a≠b:=by
 intro e;subst e;rw[h] at h';cases h'
section
variable (P:y0q) (w:World)
noncomputable def z5s (H:Hp) (h:Heap) (a:Addr):HO->Prop
 | .lst xs=>xs.length<=y0j/\∃(its:List Value) (n:Nat),Vals xs its/\h.get? a=some { cls:=.type "list",data:=.seq its.toArray n }
 | .tup xs=>xs.length<=y0j/\∃its:List Value,Vals xs its/\IsTup h a its.toArray
 | .dK kvs=>kvs.length<=y0j/\(a == sysModules)=false/\∃vs,KV kvs vs/\h.DictOf (z2b P w) a vs
 | .dT kvs=>kvs.length<=y0j/\(a == sysModules)=false/\∃xs:List (List Key×Addr×Value),
   Paired (fun (p:List Key×V) (q:List Key×Addr×Value)=>p.1=q.1/\H q.2.1=some (.tup (p.1.map kV))/\RelV p.2 q.2.2) kvs xs /\
   ∃o es ep,h.get? a=some o/\o.ExactDict/\o.data=.dict es ep/\es.toList=xs.map (entryOfKey (tupleKind (z2b P w)))/\(xs.map (·.1)).Nodup
 | .set S n=>h.SetOf (intKind P w) a S n
 | .ins C dx fs=>H dx=some (.own a)/\fs.length<=1000/\dx≠a/\h.get? a=some (PySem.W.instObj C dx) /\
   ∃mA,h.Ns1 dx mA/\(∀f,RelO (fs.lookup f) (mA f))/\PySem.Within mA (fs.map (·.1))
 | .own _=>∃o,h.get? a=some o
 | .xd fs=>∃mA,h.Ns1 a mA/\∀f,RelO (fs.lookup f) (mA f)
 | .rng lo hi=>∃t u v,h.get? a=some { cls:=.type "range",data:=.fields #[.int lo t,.int hi u,.int 1 v] }
 | .frz o u=>h.get? a=some o/\z5s H h a u
 | .tbl ps=>h.get? a=some { cls:=.none,data:=.fields ps }
 | .met f x=>h.get? a=some (PySem.W.methodObj (.ref f) (.ref x))
 | .ext φ=>φ h/\(∃o,h.get? a=some o)/\∀h1 h2:Heap,φ h1->(∀o,h1.get? a=some o->h2.get? a=some o)->φ h2
def HOk (H:Hp) (h:Heap):Prop:=∀a o,H a=some o->z5s P w H h a o
end
section
variable {P:y0q} {w:World} {H H':Hp} {h h':Heap} {a:Addr} {o:HO}
theorem z5s.lt (x:z5s P w H h a o):a<h.objs.size:=by
 cases o with
 | lst xs=>obtain⟨_,_,_,_,e⟩:=x;exact y0c e
 | tup xs=>obtain⟨_,_,_,p⟩:=x;exact p.lt
 | dK kvs=>obtain⟨_,_,_,_,o,_,_,e,_⟩:=x;exact y0c e
 | dT kvs=>obtain⟨_,_,_,_,o,_,_,e,_⟩:=x;exact y0c e
 | set S n=>obtain⟨o,_,_,_,e,_⟩:=x;exact y0c e
 | ins C dx fs=>obtain⟨_,_,_,e,_⟩:=x;exact y0c e
 | own y=>obtain⟨_,e⟩:=x;exact y0c e
 | xd fs=>obtain⟨_,⟨_,_,_,e,_⟩,_⟩:=x;exact y0c e
 | rng lo hi=>obtain⟨_,_,_,e⟩:=x;exact y0c e
 | frz ob u=>obtain⟨e,_⟩:=x;exact y0c e
 | tbl ps=>exact y0c (show h.get? a=some _ from x)
 | met f y=>exact y0c (show h.get? a=some _ from x)
 | ext φ=>obtain⟨_,⟨_,e⟩,_⟩:=x;exact y0c e
theorem Paired.mapP {α β:Type} {F G:α->β->Prop}:∀{l₁:List α} {l₂:List β},Paired F l₁ l₂->(∀a b,F a b->G a b)->Paired G l₁ l₂
 | _,_,.nil,_=>.nil
 | _,_,.cons r t,f=>.cons (f _ _ r) (Paired.mapP t f)
theorem z5s.stay (x:z5s P w H h a o) (k:∀b u,(b=a\/H b=some (.own a))->h.get? b=some u->h'.get? b=some u)
  (ho:∀b,H b=some (.own a)->H' b=some (.own a)) (ht:∀b xs,H b=some (.tup xs)->H' b=some (.tup xs)):z5s P w H' h' a o:=by
 induction o with
 | lst xs=>obtain⟨z,its,n,r,e⟩:=x;exact⟨z,its,n,r,k _ _ (.inl rfl) e⟩
 | tup xs=>obtain⟨z,its,r,ob,e,c⟩:=x;exact⟨z,its,r,ob,k _ _ (.inl rfl) e,c⟩
 | dK kvs=>obtain⟨z,y,vs,r,ob,es,ep,e,c⟩:=x;exact⟨z,y,vs,r,ob,es,ep,k _ _ (.inl rfl) e,c⟩
 | dT kvs =>
  obtain⟨z,y,xs,r,ob,es,ep,e,c⟩:=x
  exact⟨z,y,xs,Paired.mapP r fun p q z=>⟨z.1,ht _ _ z.2.1,z.2.2⟩,ob,es,ep,k _ _ (.inl rfl) e,c⟩
 | set S n=>obtain⟨ob,es,ep,t,e,c⟩:=x;exact⟨ob,es,ep,t,k _ _ (.inl rfl) e,c⟩
 | ins C dx fs =>
  obtain⟨d,z,ne,e,mA,⟨od,es,ep,e2,c⟩,r⟩:=x
  exact⟨ho _ d,z,ne,k _ _ (.inl rfl) e,mA,⟨od,es,ep,k _ _ (.inr d) e2,c⟩,r⟩
 | own y=>obtain⟨ob,e⟩:=x;exact⟨ob,k _ _ (.inl rfl) e⟩
 | xd fs=>obtain⟨mA,⟨od,es,ep,e,c⟩,r⟩:=x;exact⟨mA,⟨od,es,ep,k _ _ (.inl rfl) e,c⟩,r⟩
 | rng lo hi=>obtain⟨t,u,v,e⟩:=x;exact⟨t,u,v,k _ _ (.inl rfl) e⟩
 | frz ob u ih=>obtain⟨e,q⟩:=x;exact⟨k _ _ (.inl rfl) e,ih q⟩
 | tbl ps =>
  have e:h.get? a=some { cls:=.none,data:=.fields ps }:=x
  show h'.get? a=some { cls:=.none,data:=.fields ps }
  exact k a _ (.inl rfl) e
 | met f y =>
  have e:h.get? a=some (PySem.W.methodObj (.ref f) (.ref y)):=x
  show h'.get? a=some (PySem.W.methodObj (.ref f) (.ref y))
  exact k a _ (.inl rfl) e
 | ext φ=>obtain⟨p,⟨o,e⟩,st⟩:=x;exact⟨st _ _ p fun o q=>k _ _ (.inl rfl) q,⟨o,k _ _ (.inl rfl) e⟩,st⟩
theorem HOk.lt (x:HOk P w H h) (e:H a=some o):a<h.objs.size:=(x a o e).lt
theorem HOk.fresh (x:HOk P w H h) (e:h.objs.size<=a):H a=none:=by
 cases q:H a with
 | none=>rfl
 | some u=>exact absurd (y0x (x.lt q) e) (Nat.lt_irrefl _)
theorem HOk.kept (x:HOk P w H h) (k:∀b u,h.get? b=some u->h'.get? b=some u):HOk P w H h':=fun a o e =>
 (x a o e).stay (fun b u _ q=>k b u q) (fun _ q=>q) fun _ _ q=>q
theorem HOk.laid (x:HOk P w H h) (k:∀b u,h.get? b=some u->h'.get? b=some u) (hp:h.objs.size<=a) (new:z5s P w (upd H a o) h' a o):HOk P w (upd H a o) h':=fun b u e=>by
 have hn:=x.fresh hp
 by_cases hb:b=a
 ·subst hb;rw[z08] at e;cases e;exact new
 ·rw[z0f hb] at e
  exact (x b u e).stay (fun c v _ q=>k c v q) (fun c q=>by rw[z0f (z0r q hn)];exact q) fun c xs q=>by rw[z0f (z0r q hn)];exact q
end
def Rd (H:Hp) (a:Addr) (u:HO):Prop:=H a=some u\/∃o,H a=some (.frz o u)
theorem Rd.ok {P:y0q} {w:World} {H:Hp} {h:Heap} {a:Addr} {u:HO} (r:Rd H a u) (x:HOk P w H h):z5s P w H h a u:=by
 rcases r with r|⟨o,r⟩
 ·exact x a u r
 ·obtain⟨_,q⟩:=x a _ r
  exact q
def Mut:Option HO->Prop
 | some (.lst _)=>True
 | some (.dK _)=>True
 | some (.dT _)=>True
 | some (.set _ _)=>True
 | some (.ins _ _ _)=>True
 | some (.ext _)=>True
 | _=>False
section
variable {P:y0q} {w:World} {H:Hp} {h h':Heap} {x e:Addr} {o':HO}
theorem HOk.write (ok:HOk P w H h) (mu:Mut (H x)) (he:e=x\/H e=some (.own x)) (k:∀b u,b≠e->h.get? b=some u->h'.get? b=some u) (heo:∃u,h'.get? e=some u)
  (new:z5s P w (upd H x o') h' x o'):HOk P w (upd H x o') h':=fun b u q=>by
 have nown:∀c y,H c=some (.own y)->c≠x:=fun c y r z=>by subst z;rw[r] at mu;exact mu
 have ntup:∀c xs,H c=some (.tup xs)->c≠x:=fun c xs r z=>by subst z;rw[r] at mu;exact mu
 by_cases hb:b=x
 ·subst hb;rw[z08] at q;cases q;exact new
 ·rw[z0f hb] at q
  by_cases hbe:b=e
  ·have q':H b=some (.own x):=by
    rcases he with z|z
    ·exact absurd (hbe.trans z) hb
    ·rw[hbe];exact z
   rw[q] at q';cases q'
   obtain⟨v,hv⟩:=heo
   exact⟨v,by rw[hbe];exact hv⟩
  ·refine (ok b u q).stay (fun c v hc r=>k c v ?_ r) (fun c r=>by rw[z0f (nown c b r)];exact r) fun c xs r=>by rw[z0f (ntup c xs r)];exact r
   rcases hc with rfl|hc
   ·exact hbe
   ·rintro rfl
    rcases he with z|z
    ·exact nown c b hc z
    ·rw[hc] at z;cases z;exact hb rfl
end
structure Un (fs ex:List Addr) (H H':Hp) (h h':Heap):Prop where
 keep:∀b o,h.get? b=some o->H b=none->b∉fs->b∉ex->h'.get? b=some o
 slot:∀b o,h.get? b=some o->H b=none->b∈fs->b∉ex->∃sl,h'.get? b=some { o with slots:=sl }
 free:∀b o,h.get? b=some o->H b=none->b∉ex->H' b=none
 there:∀b o,h.get? b=some o->b∉ex->∃o',h'.get? b=some o'
 tups:∀b xs,H b=some (.tup xs)->H' b=some (.tup xs)
 frzs:∀b o u,H b=some (.frz o u)->H' b=some (.frz o u)
 tbls:∀b ps,H b=some (.tbl ps)->∃more,H' b=some (.tbl (ps++more))
section
variable {fs fs' ex ex':List Addr} {H H1 H2:Hp} {h h1 h2 h':Heap} {a x e:Addr} {o:HO}
theorem Un.any (u:Un fs ex H H1 h h1) {b:Addr} {ob:Obj} (q:h.get? b=some ob) (n:H b=none) (hx:b∉ex):∃sl,h1.get? b=some { ob with slots:=sl }:=by
 by_cases hb:b∈fs
 ·exact u.slot b ob q n hb hx
 ·exact⟨ob.slots,u.keep b ob q n hb hx⟩
theorem Un.kept (k:∀b u,h.get? b=some u->h'.get? b=some u):Un fs ex H H h h' :=
 ⟨fun b ob q _ _ _=>k b ob q,fun b ob q _ _ _=>⟨ob.slots,k b ob q⟩,fun _ _ _ n _=>n,fun b ob q _=>⟨ob,k b ob q⟩,fun _ _ q=>q,fun _ _ _ q=>q,fun _ ps q=>⟨#[],by rw[q];simp⟩⟩
theorem Un.refl:Un fs ex H H h h:=Un.kept fun _ _ q=>q
theorem Un.laid (k:∀b u,h.get? b=some u->h'.get? b=some u) (hp:h.objs.size<=a) (hn:H a=none):Un fs ex H (upd H a o) h h' where
 keep:=fun b u q _ _ _=>k b u q
 slot:=fun b u q _ _ _=>⟨u.slots,k b u q⟩
 free:=fun b u q n _=>by rw[z0f (y0y (y0x (y0c q) hp))];exact n
 there:=fun b u q _=>⟨u,k b u q⟩
 tups:=fun b xs q=>by rw[z0f (z0r q hn)];exact q
 frzs:=fun b u xs q=>by rw[z0f (z0r q hn)];exact q
 tbls:=fun b ps q=>⟨#[],by rw[z0f (z0r q hn),q];simp⟩
theorem Un.write (mu:Mut (H x)) (he:e=x\/H e=some (.own x)) (k:∀b u,b≠e->h.get? b=some u->h'.get? b=some u) (heo:∃u,h'.get? e=some u):Un fs ex H (upd H x o) h h':=by
 have hx:∀b,H b=none->b≠x:=fun b n z=>by subst z;rw[n] at mu;exact mu
 have hb:∀b,H b=none->b≠e:=fun b n z=>by
  subst z
  rcases he with r|r
  ·exact hx b n r
  ·rw[n] at r;cases r
 have hm:∀b u,H b=some u->¬Mut (some u)->b≠x:=fun b u q nm z=>by subst z;rw[q] at mu;exact nm mu
 refine⟨fun b u q n _ _=>k b u (hb b n) q,fun b u q n _ _=>⟨u.slots,k b u (hb b n) q⟩,fun b u q n _=>by rw[z0f (hx b n)];exact n,fun b u q _=>?_,
  fun b xs q=>by rw[z0f (hm b _ q fun z=>z)];exact q,fun b u xs q=>by rw[z0f (hm b _ q fun z=>z)];exact q,fun b ps q=>⟨#[],by rw[z0f (hm b _ q fun z=>z),q];simp⟩⟩
 by_cases hbe:b=e
 ·subst hbe;exact heo
 ·exact⟨u,k b u hbe q⟩
end
def trk (h:Heap) (H:Hp):List Addr:=(List.range h.objs.size).filter fun a=>(H a).isSome
def hidT (h:Heap) (H:Hp):Heap:=PySem.W.hideAll h (trk h H)
theorem zm9 (h:Heap) (H:Hp):(hidT h H).objs.size=h.objs.size:=PySem.W.hideAll_size _ _
theorem zpb {h:Heap} {H:Hp} {b:Addr} {o:Obj} (e:h.get? b=some o) (n:H b=none):(hidT h H).get? b=some o :=
 PySem.W.hideAll_get _ e fun hm=>by
  have q:(H b).isSome=true:=(List.mem_filter.mp hm).2
  rw[n] at q;simp at q
theorem zs4 {h:Heap} {H:Hp} {b:Addr} {o:Obj} (e:(hidT h H).get? b=some o):h.get? b=some o/\H b=none:=by
 have e':h.get? b=some o:=PySem.W.of_hideAll (trk h H) e
 refine⟨e',?_⟩
 cases q:H b with
 | none=>rfl
 | some x =>
  have hm:b∈trk h H:=List.mem_filter.mpr ⟨List.mem_range.mpr (y0c e'),by simp[q]⟩
  have z:(hidT h H).get? b=none:=PySem.W.hideAll_none (trk h H) hm
  rw[z] at e;cases e
def zsx (g h:Heap) (L:Addr):List (Addr×Obj):=(List.range h.objs.size).filterMap fun a=>if a=L\/(g.get? a).isSome=true then none else (h.get? a).map fun o=>(a,o)
def rest (g h:Heap) (L d:Addr):List (Addr×Obj):=(zsx g h L).filter fun p=>decide (p.1≠d)
end L2
namespace L2
open PySem PySem.Spec PyProof.Rows
structure Mod (K:y00) (mg:Str->Option Value) (base:Heap):Prop where
 kin:K.In base
 glob:base.Ns y0n mg
 blt:∃mb,base.Ns builtinsNs mb/\∀x:Str,x≠"__name__"->mb x=bootBuiltins x
 nolimit:base.NoLimit
structure Cx where
 prog:y0q
 w:World
 K:y00
 mg:Str->Option Value
 base:Heap
 A:Around
 N:List Str
 s₀:y04
 H₀:Hp
 env:Env
 outer:List Env
 stack:List Env
 ex:List Addr
 fn:Str->Bool
 calm:Bool
 pn:List (Addr×Obj)
 xe:Value->y04->Prop
def frs (l:List Env):List Addr:=l.filterMap (·.frame)
abbrev Cx.fs (X:Cx):List Addr:=frs X.outer
def Vis (sc:Scope) (x:Str):Prop:=sc.names.lookup x=some .local\/sc.names.lookup x=some .cell\/sc.names.lookup x=some .free
def Loc (sc:Scope) (x:Str):Prop:=sc.names.lookup x=some .local\/sc.names.lookup x=some .cell
noncomputable def Look (env:Env) (h:Heap) (m:Str->Option Value) (x:Str) (u:Value):Prop :=
 (env.kindOf x=some .local/\m x=some u)\/((env.kindOf x=some .cell\/env.kindOf x=some .free)/\∃c,env.cells.lookup x=some c/\h.IsCell c (some u))
structure Cx.Ok (X:Cx):Prop where
 mod:Mod X.K X.mg X.base
 kind:X.env.scope.kind=.function
 glob:X.env.globals=y0n
 blt:X.env.builtins=builtinsNs
 above:X.s₀.heap.objs.size<=X.env.locals
 inj:∀x y c,X.env.cells.lookup x=some c->X.env.cells.lookup y=some c->x=y
 has:∀x,(X.env.kindOf x=some .cell\/X.env.kindOf x=some .free)->∃c,X.env.cells.lookup x=some c
 cab:∀x c,X.fn x=true->X.env.cells.lookup x=some c->X.s₀.heap.objs.size<=c
 hd:X.calm=true->X.A.handled=none
 frames:X.A.frames=some X.stack
 stk:X.stack=X.outer\/(X.stack=X.env::X.outer/\X.env.frame=some X.env.locals)
 exf:∀b∈X.ex,b≠X.env.locals/\∀x c,X.env.cells.lookup x=some c->c≠b
 bs:∀b o,X.base.get? b=some o->X.s₀.heap.get? b=some o/\X.H₀ b=none
 bsz:X.base.objs.size<=X.s₀.heap.objs.size
 noex:∀b o,X.base.get? b=some o->b∉X.ex
 exfs:∀b∈X.ex,b∉X.fs
 funs:X.s₀.heap.FunFrames X.base X.outer
 frf:∀b∈X.fs,X.H₀ b=none
structure Inv (X:Cx) (pins:List (Addr×Obj)) (σ:List (Option V)) (H:Hp) (s:y04):Prop where
 ok:X.Ok
 os:s.os=X.s₀.os
 bare:AllBare s.gens
 base:Un X.fs X.ex X.H₀ H X.s₀.heap s.heap
 loc:∃m,s.heap.Ns X.env.locals m/\∀(i:Nat) (x:Str) (v:V),X.N[i]?=some x->σ[i]?=some (some v)->Vis X.env.scope x->∃u,RelV v u/\Look X.env s.heap m x u
 cell:∀x c,X.env.cells.lookup x=some c->∃v,s.heap.IsCell c v
 free:H X.env.locals=none
 freeC:∀x c,X.env.cells.lookup x=some c->H c=none
 pin:∀p∈X.pn++pins,s.heap.get? p.1=some p.2/\H p.1=none/\p.1≠X.env.locals/\p.1∉X.fs/\∀v,p.2.data≠.cell v
 hok:HOk X.prog X.w H s.heap
 len:σ.length=X.N.length
section
variable {X:Cx} {pins:List (Addr×Obj)} {σ:List (Option V)} {H H':Hp} {s:y04} {h':Heap}
theorem Cx.Ok.nofr (ok:X.Ok) {b:Addr} {o:Obj} (e:X.base.get? b=some o):b∉X.fs:=fun hb=>by
 have:=(ok.funs.mem hb).1
 rw[e] at this;cases this
theorem Inv.bs (I:Inv X pins σ H s):∀b o,X.base.get? b=some o->s.heap.get? b=some o/\H b=none:=fun b o e =>
 ⟨I.base.keep b o (I.ok.bs b o e).1 (I.ok.bs b o e).2 (I.ok.nofr e) (I.ok.noex b o e),I.base.free b o (I.ok.bs b o e).1 (I.ok.bs b o e).2 (I.ok.noex b o e)⟩
theorem Inv.bk (I:Inv X pins σ H s):∀b o,X.base.get? b=some o->s.heap.get? b=some o:=fun b o e=>(I.bs b o e).1
theorem Inv.mod (I:Inv X pins σ H s):Mod X.K X.mg X.base:=I.ok.mod
theorem Inv.kIn (I:Inv X pins σ H s):X.K.In s.heap:=I.ok.mod.kin.keeps I.bk
theorem Inv.lt (I:Inv X pins σ H s):X.env.locals<s.heap.objs.size:=let ⟨_,hn,_⟩:=I.loc;hn.lt
theorem Inv.sz (I:Inv X pins σ H s):X.s₀.heap.objs.size<=s.heap.objs.size:=y1o I.ok.above (Nat.le_of_lt I.lt)
theorem Inv.nofs (I:Inv X pins σ H s) {a:Addr} (h:s.heap.objs.size<=a):a∉X.fs:=fun hb=>by
 obtain⟨_,o,ho,_⟩:=I.ok.funs.mem hb
 exact absurd (y0x (y0c ho) (y1o I.sz h)) (Nat.lt_irrefl _)
theorem Inv.cne (I:Inv X pins σ H s):∀x c,X.env.cells.lookup x=some c->c≠X.env.locals:=fun x c e z=>by
 obtain⟨v,o,ho,hd⟩:=I.cell x c e
 obtain⟨m,⟨o',es,ep,ho',hd',_⟩,_⟩:=I.loc
 rw[z,ho'] at ho;cases ho;rw[hd'] at hd;cases hd
theorem Inv.funs (I:Inv X pins σ H s):s.heap.FunFrames X.base X.outer:=by
 have all:∀(l:List Env),(∀b∈frs l,b∈X.fs)->X.s₀.heap.FunFrames X.base l->s.heap.FunFrames X.base l:=by
  intro l
  induction l with
  | nil=>intro _ _;trivial
  | cons env r ih =>
   intro hs hl
   obtain⟨hk,⟨L,o,hf,hn,ho,hd⟩,hr⟩:=hl
   have hL:L∈X.fs:=hs L (by unfold frs;rw[List.filterMap_cons,hf];exact y0e)
   obtain⟨sl,e⟩:=I.base.slot L o ho (I.ok.frf L hL) hL fun z=>I.ok.exfs L z hL
   exact⟨hk,⟨L,_,hf,hn,e,hd⟩,ih (fun b hb=>hs b (by unfold frs;rw[List.filterMap_cons,hf];exact y05 _ hb)) hr⟩
 exact all X.outer (fun _ hb=>hb) I.ok.funs
theorem Inv.stack (I:Inv X pins σ H s):s.heap.FunFrames X.base X.stack:=by
 rcases I.ok.stk with e|⟨e,hf⟩
 ·rw[e];exact I.funs
 ·rw[e]
  obtain⟨m,hn,_⟩:=I.loc
  refine .cons (by rw[I.ok.kind];decide) hf hn ?_ I.funs
  exact Heap.get?_none_of_le (y1o I.ok.bsz I.ok.above)
theorem Inv.stkSub (I:Inv X pins σ H s):∀b∈frs X.stack,b∈X.env.locals::X.fs:=fun b hb=>by
 rcases I.ok.stk with e|⟨e,hf⟩
 ·rw[e] at hb;exact y05 _ hb
 ·rw[e] at hb
  unfold frs at hb
  rw[List.filterMap_cons,hf] at hb
  exact hb
theorem Inv.stkFree (I:Inv X pins σ H s):∀b∈frs X.stack,H b=none:=fun b hb=>by
 rcases y09.mp (I.stkSub b hb) with e|hb
 ·rw[e];exact I.free
 ·obtain⟨_,o,ho,_⟩:=I.ok.funs.mem hb
  exact I.base.free b o ho (I.ok.frf b hb) fun z=>I.ok.exfs b z hb
theorem Inv.step {g':Array GenState} {t':Nat} {d':Drawn} {ch:List Addr} (I:Inv X pins σ H s)
  (hch:∀b∈ch,(b∈X.ex\/X.s₀.heap.objs.size<=b)/\b≠X.env.locals/\(∀x c,X.env.cells.lookup x=some c->c≠b)/\∀p∈X.pn++pins,p.1≠b)
  (keep:∀b o,b≠X.env.locals->b∉X.fs->b∉ch->s.heap.get? b=some o->H b=none->h'.get? b=some o)
  (slot:∀b o,b≠X.env.locals->b∈X.fs->b∉ch->s.heap.get? b=some o->H b=none->∃sl,h'.get? b=some { o with slots:=sl }) (free:∀b o,b∉ch->s.heap.get? b=some o->H b=none->H' b=none)
  (there:∀b o,b∉ch->s.heap.get? b=some o->∃o',h'.get? b=some o')
  (tups:∀b xs,H b=some (.tup xs)->H' b=some (.tup xs)) (frzs:∀b o u,H b=some (.frz o u)->H' b=some (.frz o u)) (tbls:∀b ps,H b=some (.tbl ps)->∃more,H' b=some (.tbl (ps++more)))
  (ns:∀m,s.heap.Ns X.env.locals m->h'.Ns X.env.locals m) (hok:HOk X.prog X.w H' h') (hg:AllBare g') :
  Inv X pins σ H' { s with heap:=h',gens:=g',drawn:=d',toks:=t' }:=by
 have neL:∀b o,X.s₀.heap.get? b=some o->b≠X.env.locals:=fun b o e=>y0y (y0x (y0c e) I.ok.above)
 have neC:∀b o,X.s₀.heap.get? b=some o->b∉X.ex->b∉ch:=fun b o e hx hb=>by
  rcases (hch b hb).1 with z|z
  ·exact hx z
  ·exact absurd (y0x (y0c e) z) (Nat.lt_irrefl _)
 have cellK:∀x c,X.env.cells.lookup x=some c->∀v,s.heap.IsCell c v->h'.IsCell c v:=fun x c e v ⟨o,ho,hd⟩=>by
  have nch:c∉ch:=fun z=>(hch c z).2.2.1 x c e rfl
  by_cases hc:c∈X.fs
  ·obtain⟨sl,q⟩:=slot c o (I.cne x c e) hc nch ho (I.freeC x c e)
   exact⟨_,q,hd⟩
  ·exact⟨o,keep c o (I.cne x c e) hc nch ho (I.freeC x c e),hd⟩
 refine⟨I.ok,I.os,hg,⟨fun b o e n hb hx=>?_,fun b o e n hb hx=>?_,fun b o e n hx=>?_,fun b o e hx=>?_,fun b xs e=>tups b xs (I.base.tups b xs e),fun b o xs e=>frzs b o xs (I.base.frzs b o xs e),fun b ps e=>?_⟩,?_,fun x c e=>?_,?_,fun x c e=>?_,fun p hp=>?_,hok,I.len⟩
 ·exact keep b o (neL b o e) hb (neC b o e hx) (I.base.keep b o e n hb hx) (I.base.free b o e n hx)
 ·obtain⟨sl,e1⟩:=I.base.slot b o e n hb hx
  obtain⟨sl',e2⟩:=slot b _ (neL b o e) hb (neC b o e hx) e1 (I.base.free b o e n hx)
  exact⟨sl',e2⟩
 ·obtain⟨o',e1⟩:=I.base.there b o e hx
  exact free b o' (neC b o e hx) e1 (I.base.free b o e n hx)
 ·obtain⟨o',e1⟩:=I.base.there b o e hx
  exact there b o' (neC b o e hx) e1
 ·obtain⟨m1,e1⟩:=I.base.tbls b ps e
  obtain⟨m2,e2⟩:=tbls b _ e1
  exact⟨m1++m2,by rw[e2,Array.append_assoc]⟩
 ·obtain⟨m,hn,hl⟩:=I.loc
  refine⟨m,ns m hn,fun i x v e1 e2 e3=>?_⟩
  obtain⟨u,r,l⟩:=hl i x v e1 e2 e3
  refine⟨u,r,?_⟩
  rcases l with l|⟨k,c,e,z⟩
  ·exact .inl l
  ·exact .inr ⟨k,c,e,cellK x c e _ z⟩
 ·obtain⟨v,z⟩:=I.cell x c e
  exact⟨v,cellK x c e v z⟩
 ·obtain⟨m,⟨o,_,_,ho,_⟩,_⟩:=I.loc
  exact free _ o (fun z=>(hch _ z).2.1 rfl) ho I.free
 ·obtain⟨v,o,ho,hd⟩:=I.cell x c e
  exact free c o (fun z=>(hch c z).2.2.1 x c e rfl) ho (I.freeC x c e)
 ·obtain⟨e,n,ne,nf,d⟩:=I.pin p hp
  have nch:p.1∉ch:=fun z=>(hch p.1 z).2.2.2 p hp rfl
  exact⟨keep p.1 p.2 ne nf nch e n,free p.1 p.2 nch e n,ne,nf,d⟩
theorem Inv.un {t':Nat} (I:Inv X pins σ H s) (u:Un X.fs [] H H' s.heap h') (hok:HOk X.prog X.w H' h'):Inv X pins σ H' { s with heap:=h',toks:=t' }:=by
 obtain⟨m,⟨o,es,ep,ho,r⟩,_⟩:=id I.loc
 obtain⟨sl,hL⟩:=u.any ho I.free (by simp)
 exact I.step (g':=s.gens) (d':=s.drawn) (ch:=[]) (fun _ z=>nomatch z) (fun b o _ hb _ e n=>u.keep b o e n hb (by simp)) (fun b o _ hb _ e n=>u.slot b o e n hb (by simp)) (fun b o _ e n=>u.free b o e n (by simp)) (fun b o _ e=>u.there b o e (by simp)) u.tups u.frzs u.tbls (fun m' hm=>by
  obtain⟨o',es',ep',ho',r'⟩:=hm
  rw[ho] at ho';cases ho'
  exact⟨_,es',ep',hL,r'⟩) hok I.bare
theorem Inv.call {g':Array GenState} {t':Nat} {d':Drawn} {ch:List Addr} (I:Inv X pins σ H s) (u:Un (frs X.stack) ch H H' s.heap h') (hok:HOk X.prog X.w H' h') (hg:AllBare g')
  (hch:∀b∈ch,(b∈X.ex\/X.s₀.heap.objs.size<=b)/\b≠X.env.locals/\(∀x c,X.env.cells.lookup x=some c->c≠b)/\∀p∈X.pn++pins,p.1≠b) :
  Inv X pins σ H' { s with heap:=h',gens:=g',drawn:=d',toks:=t' }:=by
 obtain⟨m,⟨o,es,ep,ho,r⟩,_⟩:=id I.loc
 obtain⟨sl,hL⟩:=u.any ho I.free fun z=>(hch _ z).2.1 rfl
 exact I.step (ch:=ch) hch (fun b o hL hb hc e n=>u.keep b o e n (fun z=>(y09.mp (I.stkSub b z)).elim hL hb) hc) (fun b o _ _ hc e n=>u.any e n hc) (fun b o hc e n=>u.free b o e n hc) (fun b o hc e=>u.there b o e hc) u.tups u.frzs u.tbls (fun m' hm=>by
  obtain⟨o',es',ep',ho',r'⟩:=hm
  rw[ho] at ho';cases ho'
  exact⟨_,es',ep',hL,r'⟩) hok hg
theorem Inv.turned {t':Nat} {it:Addr} (I:Inv X pins σ H s) (k:∀b o,b≠it->s.heap.get? b=some o->h'.get? b=some o) (hn:H it=none) (hL:it≠X.env.locals)
  (h1:it∈X.ex\/X.s₀.heap.objs.size<=it) (h2:∀x c,X.env.cells.lookup x=some c->c≠it) (h3:∀p∈X.pn++pins,p.1≠it):Inv X pins σ H { s with heap:=h',toks:=t' }:=by
 have nit:∀b u,H b=some u->b≠it:=fun b u e z=>by rw[z,hn] at e;cases e
 refine I.step (g':=s.gens) (d':=s.drawn) (ch:=[it]) (fun b hb=>?_) (fun b o _ _ hc e _=>k b o (fun z=>hc (by simp[z])) e) (fun b o _ _ hc e _=>⟨o.slots,k b o (fun z=>hc (by simp[z])) e⟩) (fun _ _ _ _ n=>n)
  (fun b o hc e=>⟨o,k b o (fun z=>hc (by simp[z])) e⟩) (fun _ _ e=>e) (fun _ _ _ e=>e) (fun b ps e=>⟨#[],by rw[e];simp⟩) (fun m hm=>?_) (fun b u e=>?_) I.bare
 ·have e:b=it:=by simpa using hb
  subst e
  exact⟨h1,hL,h2,h3⟩
 ·obtain⟨o,es,ep,ho,r⟩:=hm
  exact⟨o,es,ep,k _ o (Ne.symm hL) ho,r⟩
 ·refine (I.hok b u e).stay (fun c v hc q=>k c v ?_ q) (fun _ q=>q) fun _ _ q=>q
  rcases hc with z|z
  ·rw[z];exact nit b u e
  ·exact nit c _ z
theorem Inv.tok (I:Inv X pins σ H s) (t:Nat):Inv X pins σ H { s with toks:=t }:=I.un (h':=s.heap) (t':=t) Un.refl I.hok
theorem Inv.kept {t':Nat} (I:Inv X pins σ H s) (k:∀b u,s.heap.get? b=some u->h'.get? b=some u):Inv X pins σ H { s with heap:=h',toks:=t' }:=I.un (Un.kept k) (I.hok.kept k)
theorem Inv.laid {a:Addr} {o:HO} {t':Nat} (I:Inv X pins σ H s) (k:∀b u,s.heap.get? b=some u->h'.get? b=some u) (hp:s.heap.objs.size<=a) (new:z5s X.prog X.w (upd H a o) h' a o) :
  Inv X pins σ (upd H a o) { s with heap:=h',toks:=t' }:=I.un (Un.laid k hp (I.hok.fresh hp)) (I.hok.laid k hp new)
theorem Inv.write {x e:Addr} {o:HO} {t':Nat} (I:Inv X pins σ H s) (mu:Mut (H x)) (he:e=x\/H e=some (.own x)) (k:∀b u,b≠e->s.heap.get? b=some u->h'.get? b=some u) (heo:∃u,h'.get? e=some u)
  (new:z5s X.prog X.w (upd H x o) h' x o):Inv X pins σ (upd H x o) { s with heap:=h',toks:=t' }:=I.un (Un.write mu he k heo) (I.hok.write mu he k heo new)
theorem Inv.pins_of {pins':List (Addr×Obj)} (I:Inv X pins σ H s) (h:∀p∈pins',s.heap.get? p.1=some p.2/\H p.1=none/\p.1≠X.env.locals/\p.1∉X.fs/\∀v,p.2.data≠.cell v):Inv X pins' σ H s :=
 ⟨I.ok,I.os,I.bare,I.base,I.loc,I.cell,I.free,I.freeC,fun p hp=>(y10.mp hp).elim (fun z=>I.pin p (List.mem_append_left _ z)) (h p),I.hok,I.len⟩
theorem zby {N:List Str} (hN:N.Nodup) {i j:Nat} {x:Str} (a:N[i]?=some x) (b:N[j]?=some x):i=j:=by
 obtain⟨h1,e1⟩:=y0k.mp a
 obtain⟨h2,e2⟩:=y0k.mp b
 exact (List.getElem_inj hN).mp (e1.trans e2.symm)
theorem zcq {M:Model} {A:Around} {E:Value->y04->Prop} {i:Nat} {x:Str} {v:V} {u:Value} {Q:Unit->y04->Prop} (I:Inv X pins σ H s) (hN:X.N.Nodup) (hi:X.N[i]?=some x) (hx:Loc X.env.scope x) (r:RelV v u)
  (h:∀s',Inv X pins (σ.set i (some v)) H s'->(∃a,Heap.SameBut a s.heap s'.heap/\(a=X.env.locals\/X.env.cells.lookup x=some a))->Q () s') (hf:X.fn x=true\/X.env.scope.names.lookup x=some .local:=by first|exact .inl rfl|exact .inr rfl|assumption):y0u M A (storeName X.env x u) Q E s:=by
 obtain⟨m,hn,hl⟩:=id I.loc
 have hcls:(X.env.scope.kind == .class || (X.env.scope.kind == .module && X.env.locals != X.env.globals))=false:=by rw[I.ok.kind];rfl
 have hiσ:i<σ.length:=by rw[I.len];exact (y0k.mp hi).1
 have cne:=I.cne
 have tracked:∀{a:Addr} {h':Heap},(∃o,s.heap.get? a=some o/\H a=none)->Heap.SameBut a s.heap h'->HOk X.prog X.w H h':=fun {a h'} ha hs b ob e=>by
  obtain⟨_,_,hfree⟩:=ha
  refine (I.hok b ob e).stay (fun c w' hc q=>(hs.2 c ?_).trans q) (fun _ q=>q) fun _ _ q=>q
  rintro rfl
  rcases hc with rfl|hc
  ·rw[hfree] at e;cases e
  ·rw[hfree] at hc;cases hc
 rcases hx with hk|hk
 ·refine wpAny_storeName_local hk hn (fun h' hn' hs=>?_) hcls
  obtain⟨oL,_,_,hoL,_⟩:=id hn
  refine h _ ⟨I.ok,I.os,I.bare,⟨fun b o e n hb hx=>?_,fun b o e n hb hx=>?_,I.base.free,fun b o e hx=>?_,I.base.tups,I.base.frzs,I.base.tbls⟩,⟨_,hn',fun j y v' e1 e2 e3=>?_⟩,fun y c e=>?_,I.free,I.freeC,fun p hp=>?_,tracked ⟨oL,hoL,I.free⟩ hs,by simpa using I.len⟩ ⟨_,hs,.inl rfl⟩
  ·exact (hs.2 b (y0y (y0x (y0c e) I.ok.above))).trans (I.base.keep b o e n hb hx)
  ·obtain⟨sl,e1⟩:=I.base.slot b o e n hb hx
   exact⟨sl,(hs.2 b (y0y (y0x (y0c e) I.ok.above))).trans e1⟩
  ·obtain⟨o',e1⟩:=I.base.there b o e hx
   exact⟨o',(hs.2 b (y0y (y0x (y0c e) I.ok.above))).trans e1⟩
  ·by_cases hj:j=i
   ·subst hj
    rw[hi] at e1;cases e1
    rw[List.getElem?_set_self hiσ] at e2
    cases e2
    exact⟨u,r,.inl ⟨hk,by simp⟩⟩
   ·rw[List.getElem?_set_ne (Ne.symm hj)] at e2
    obtain⟨u',r',q⟩:=hl j y v' e1 e2 e3
    refine⟨u',r',?_⟩
    rcases q with ⟨k,e⟩|⟨k,c,e,z⟩
    ·refine .inl ⟨k,?_⟩
     have:y≠x:=fun e=>hj (zby hN e1 (e▸hi))
     simp[this,e]
    ·exact .inr ⟨k,c,e,z.sameBut hs (cne y c e)⟩
  ·obtain⟨w',z⟩:=I.cell y c e
   exact⟨w',z.sameBut hs (cne y c e)⟩
  ·obtain⟨e,n,ne,nf,d⟩:=I.pin p hp
   exact⟨(hs.2 p.1 ne).trans e,n,ne,nf,d⟩
 ·have hfn:X.fn x=true:=by
   rcases hf with z|z
   ·exact z
   ·rw[z] at hk;cases hk
  obtain⟨c,hc⟩:=I.ok.has x (.inl hk)
  obtain⟨w',z⟩:=I.cell x c hc
  refine wpAny_storeName_cell I.ok.kind hk hc z (fun h' hc' hs=>?_)
  obtain⟨oc,hoc,hocd⟩:=id z
  refine h { s with heap:=h' } ⟨I.ok,I.os,I.bare,⟨fun b o e n hb hx=>?_,fun b o e n hb hx=>?_,I.base.free,fun b o e hx=>?_,I.base.tups,I.base.frzs,I.base.tbls⟩,⟨m,hn.sameBut hs (Ne.symm (cne x c hc)),fun j y v' e1 e2 e3=>?_⟩,fun y c' e=>?_,I.free,I.freeC,fun p hp=>?_,tracked ⟨oc,hoc,I.freeC x c hc⟩ hs,by simpa using I.len⟩ ⟨c,hs,.inr hc⟩
  ·exact (hs.2 b (y0y (y0x (y0c e) (I.ok.cab x c hfn hc)))).trans (I.base.keep b o e n hb hx)
  ·obtain⟨sl,e1⟩:=I.base.slot b o e n hb hx
   exact⟨sl,(hs.2 b (y0y (y0x (y0c e) (I.ok.cab x c hfn hc)))).trans e1⟩
  ·obtain⟨o',e1⟩:=I.base.there b o e hx
   exact⟨o',(hs.2 b (y0y (y0x (y0c e) (I.ok.cab x c hfn hc)))).trans e1⟩
  ·by_cases hj:j=i
   ·subst hj
    rw[hi] at e1;cases e1
    rw[List.getElem?_set_self hiσ] at e2
    cases e2
    exact⟨u,r,.inr ⟨.inl hk,c,hc,hc'⟩⟩
   ·rw[List.getElem?_set_ne (Ne.symm hj)] at e2
    obtain⟨u',r',q⟩:=hl j y v' e1 e2 e3
    refine⟨u',r',?_⟩
    rcases q with q|⟨k,c',e,z'⟩
    ·exact .inl q
    ·refine .inr ⟨k,c',e,z'.sameBut hs ?_⟩
     rintro rfl
     exact hj (zby hN e1 (I.ok.inj _ _ _ e hc▸hi))
  ·by_cases hcc:c'=c
   ·subst hcc;exact⟨_,hc'⟩
   ·obtain⟨w2,z2⟩:=I.cell y c' e
    exact⟨w2,z2.sameBut hs hcc⟩
  ·obtain⟨e,n,ne,nf,d⟩:=I.pin p hp
   refine⟨(hs.2 p.1 ?_).trans e,n,ne,nf,d⟩
   intro q
   rw[q,hoc] at e
   have q':oc=p.2:=y2c e
   exact d w' (by rw[<- q'];exact hocd)
theorem zbk {M:Model} {A:Around} {E:Value->y04->Prop} {i:Nat} {x:Str} {v:V} {u:Value} {Q:Unit->y04->Prop} (I:Inv X pins σ H s) (hN:X.N.Nodup) (hi:X.N[i]?=some x) (hx:Loc X.env.scope x) (r:RelV v u)
  (h:∀s',Inv X pins (σ.set i (some v)) H s'->Q () s') (hf:X.fn x=true\/X.env.scope.names.lookup x=some .local:=by first|exact .inl rfl|exact .inr rfl|assumption):y0u M A (storeName X.env x u) Q E s :=
 zcq I hN hi hx r (fun s' I' _=>h s' I') hf
theorem Inv.call' {s':y04} {ch:List Addr} (I:Inv X pins σ H s) (ho:s'.os=s.os) (u:Un (frs X.stack) ch H H' s.heap s'.heap) (hok:HOk X.prog X.w H' s'.heap) (hg:AllBare s'.gens)
  (hch:∀b∈ch,(b∈X.ex\/X.s₀.heap.objs.size<=b)/\b≠X.env.locals/\(∀x c,X.env.cells.lookup x=some c->c≠b)/\∀p∈X.pn++pins,p.1≠b):Inv X pins σ H' s':=by
 obtain⟨h',g',d',t',o'⟩:=s'
 have e:o'=s.os:=ho
 subst e
 exact I.call (g':=g') (t':=t') (d':=d') u hok hg hch
end
abbrev XK:=Value->Option Addr->Hp->Prop
abbrev St:=List (Option V)
abbrev VK:=V->Hp->Prop
abbrev TE:=St->Hp->VK->Prop
abbrev TT:=St->Hp->(Bool->Hp->Prop)->Prop
abbrev TA:=St->Hp->(List V->Hp->Prop)->Prop
structure Ends where
 nx:St->Hp->Prop
 rt:VK
 bk:St->Hp->Prop:=fun _ _=>False
 ct:St->Hp->Prop:=fun _ _=>False
abbrev TS:=Ends->St->Hp->Prop
def EP (X:Cx) (pins:List (Addr×Obj)) (σ:St) (Q:VK) (u:Value) (s':y04):Prop:=∃v H',Inv X pins σ H' s'/\RelV v u/\Q v H'
def TP (X:Cx) (pins:List (Addr×Obj)) (σ:St) (Q:Bool->Hp->Prop) (b:Bool) (s':y04):Prop:=∃H',Inv X pins σ H' s'/\Q b H'
def AP (X:Cx) (pins:List (Addr×Obj)) (σ:St) (Q:List V->Hp->Prop) (us:List Value) (s':y04):Prop:=∃vs H',Inv X pins σ H' s'/\Vals vs us/\Q vs H'
noncomputable def SP (X:Cx) (pins:List (Addr×Obj)) (D:Ends) (f:Flow) (s':y04):Prop :=
 match f with
 | .next=>∃σ' H',Inv X pins σ' H' s'/\D.nx σ' H'
 | .brk=>∃σ' H',Inv X pins σ' H' s'/\D.bk σ' H'
 | .cont=>∃σ' H',Inv X pins σ' H' s'/\D.ct σ' H'
 | .ret u=>∃v σ' H',Inv X pins σ' H' s'/\RelV v u/\D.rt v H'
noncomputable def PE (X:Cx) (e:Expr) (t:TE):Prop :=
 ∀(pins:List (Addr×Obj)) (s:y04) (σ:St) (H:Hp) (Q:VK),Inv X pins σ H s->t σ H Q->y0u (y33 X.prog X.w) X.A (eval e X.env) (EP X pins σ Q) X.xe s
noncomputable def PT (X:Cx) (e:Expr) (t:TT):Prop :=
 ∀(pins:List (Addr×Obj)) (s:y04) (σ:St) (H:Hp) (Q:Bool->Hp->Prop),Inv X pins σ H s->t σ H Q->y0u (y33 X.prog X.w) X.A (isTrue e X.env (eval e X.env)) (TP X pins σ Q) X.xe s
noncomputable def PW (X:Cx) (e:Expr) (t:TT):Prop :=
 ∀(whole:Sem Value) (pins:List (Addr×Obj)) (s:y04) (σ:St) (H:Hp) (Q:Bool->Hp->Prop),Inv X pins σ H s->t σ H Q->y0u (y33 X.prog X.w) X.A (isTrue e X.env whole) (TP X pins σ Q) X.xe s
theorem PW.pt {X:Cx} {e:Expr} {t:TT} (h:PW X e t):PT X e t:=h _
noncomputable def PA (X:Cx) (es:List Expr) (t:TA):Prop :=
 ∀(pos:Pos) (pins:List (Addr×Obj)) (s:y04) (σ:St) (H:Hp) (Q:List V->Hp->Prop),Inv X pins σ H s->t σ H Q->y0u (y33 X.prog X.w) X.A (spliced (y2j pos (y0a es X.env))) (AP X pins σ Q) X.xe s
noncomputable def PS (X:Cx) (st:Stmt) (t:TS):Prop :=
 ∀(pins:List (Addr×Obj)) (s:y04) (σ:St) (H:Hp) (D:Ends),Inv X pins σ H s->t D σ H->y0u (y33 X.prog X.w) X.A (exec st X.env) (SP X pins D) X.xe s
noncomputable def PSs (X:Cx) (st:List Stmt) (t:TS):Prop :=
 ∀(pins:List (Addr×Obj)) (s:y04) (σ:St) (H:Hp) (D:Ends),Inv X pins σ H s->t D σ H->y0u (y33 X.prog X.w) X.A (execs st X.env) (SP X pins D) X.xe s
theorem thn {α:Type} {t:Sem α} {Q Q':α->y04->Prop} {M:Model} {A:Around} {E:Value->y04->Prop} {s:y04} (h:y0u M A t Q E s) (hQ:∀a s,Q a s->Q' a s):y0u M A t Q' E s:=y1d h hQ fun _ _ x=>x
end L2
namespace L2
open PySem PySem.Spec PyProof.Rows
section
variable {X:Cx}
def tVar (i:Nat):TE:=fun σ H Q=>∃v,σ[i]?=some (some v)/\Q v H
def tC (v:V):TE:=fun _ H Q=>Q v H
theorem zu5 {i:Nat} {x:Str} {pos:Pos} (hN:X.N[i]?=some x) (hv:Vis X.env.scope x) (hd:(x == ("__debug__":Str))=false:=by decide) (hcd:(x == ("__classdict__":Str))=false:=by decide):PE X (.Name x pos) (tVar i):=by
 intro pins s σ H Q I h
 obtain⟨v,e,h⟩:=h
 obtain⟨m,hn,hl⟩:=I.loc
 obtain⟨u,r,l⟩:=hl i x v hN e hv
 have fin:EP X pins σ Q u s:=⟨v,H,I,r,h⟩
 rcases l with ⟨hk,hm⟩|⟨hk,c,hc,hcell⟩
 ·exact wpAny_Name (wpAny_loadName_local I.ok.kind hk hn hm fin) hd
 ·rcases hk with hk|hk
  ·exact wpAny_Name (wpAny_loadName_cell I.ok.kind hk hc hcell fin) hd
  ·exact wpAny_Name (wpAny_loadName_free I.ok.kind hk hc hcell fin hcd) hd
theorem zhg {i j pos}:PE X (.Constant (.int i) j pos) (tC (.int i)):=fun _ _ _ H _ I h=>wpAny_Constant_int ⟨.int i,H,I.tok _,⟨_,rfl⟩,h⟩
theorem zrt {b j pos}:PE X (.Constant (.bool b) j pos) (tC (.bl b)):=fun _ _ _ H _ I h=>Constant_bool ⟨.bl b,H,I,rfl,h⟩
theorem zu7 {j pos}:PE X (.Constant .none j pos) (tC .non):=fun _ _ _ H _ I h=>Constant_none ⟨.non,H,I,rfl,h⟩
theorem zdc {x j pos}:PE X (.Constant (.str x) j pos) (tC (.str x)):=fun _ _ _ H _ I h=>Calls.Constant_str ⟨.str x,H,I.tok _,⟨_,rfl⟩,h⟩
def Gl (X:Cx) (x:Str):Prop:=X.env.kindOf x=some .globalImplicit
theorem z9e {E:Value->y04->Prop} {pins:List (Addr×Obj)} {s:y04} {σ:St} {H:Hp} {x:Str} {u:Value} {pos:Pos} {Q:Value->y04->Prop} (I:Inv X pins σ H s) (hg:Gl X x) (hm:X.mg x=some u) (h:Q u s)
  (hd:(x == ("__debug__":Str))=false:=by decide):y0u (y33 X.prog X.w) X.A (eval (.Name x pos) X.env) Q E s :=
 Calls.Name_function_global I.ok.kind hg (Calls.loadGlobal_global (by rw[I.ok.glob];exact I.mod.glob.keeps I.bk) hm h) hd
theorem z9f {E:Value->y04->Prop} {pins:List (Addr×Obj)} {s:y04} {σ:St} {H:Hp} {x:Str} {u:Value} {pos:Pos} {Q:Value->y04->Prop} (I:Inv X pins σ H s) (hg:Gl X x) (hm:X.mg x=none) (hv:bootBuiltins x=some u) (h:Q u s)
  (hn:x≠"__name__":=by decide) (hd:(x == ("__debug__":Str))=false:=by decide):y0u (y33 X.prog X.w) X.A (eval (.Name x pos) X.env) Q E s:=by
 obtain⟨mb,h1,h2⟩:=I.mod.blt
 exact Calls.Name_function_global I.ok.kind hg (Calls.loadGlobal_builtin (by rw[I.ok.glob];exact I.mod.glob.keeps I.bk) hm (by rw[I.ok.blt];exact h1.keeps I.bk) ((h2 x hn).trans hv) h) hd
theorem z92 {x:Str} {v:V} {u:Value} {pos:Pos} (hg:Gl X x) (hm:X.mg x=some u) (r:RelV v u) (hd:(x == ("__debug__":Str))=false:=by decide):PE X (.Name x pos) (tC v) :=
 fun _ _ _ H _ I h=>z9e I hg hm ⟨v,H,I,r,h⟩ hd
theorem zrs {x:Str} {v:V} {u:Value} {pos:Pos} (hg:Gl X x) (hm:X.mg x=none) (hv:bootBuiltins x=some u) (r:RelV v u) (hn:x≠"__name__":=by decide) (hd:(x == ("__debug__":Str))=false:=by decide):PE X (.Name x pos) (tC v) :=
 fun _ _ _ H _ I h=>z9f I hg hm hv ⟨v,H,I,r,h⟩ hn hd
variable {a b:Expr} {ta tb:TE} {pos:Pos}
noncomputable def PC (X:Cx) (op:CmpOp) (a b:Expr) (t:TE):Prop :=
 ∀(pins:List (Addr×Obj)) (s:y04) (σ:St) (H:Hp) (Q:VK),Inv X pins σ H s->t σ H Q ->
  y0u (y33 X.prog X.w) X.A (eval a X.env) (fun v s₁=>y0u (y33 X.prog X.w) X.A (eval b X.env) (fun u s₂=>y0u (y33 X.prog X.w) X.A (y2p op v u) (EP X pins σ Q) X.xe s₂) X.xe s₁) X.xe s
theorem zhj (b:Expr) {op:CmpOp} (h:op≠.In) (h2:op≠.NotIn):y2v op b=false:=by
 have e1:(op == CmpOp.In)=false:=by cases op <;> first|rfl|exact absurd rfl h
 have e2:(op == CmpOp.NotIn)=false:=by cases op <;> first|rfl|exact absurd rfl h2
 cases b <;> simp[y2v,e1,e2]
def tIsN (ta:TE):TE:=fun σ H Q=>ta σ H fun x H1=>Q (.bl (decide (x=.non))) H1
def zvm (ta:TE):TE:=fun σ H Q=>ta σ H fun x H1=>Q (.bl (!decide (x=.non))) H1
theorem RelV.none_iff {x:V} {v:Value} (r:RelV x v):(v == Value.none)=decide (x=.non):=by
 cases x with
 | non=>cases r;rfl
 | bl _=>cases r;rfl
 | int _=>obtain⟨t,rfl⟩:=r;rfl
 | str _=>obtain⟨t,rfl⟩:=r;rfl
 | byt _=>obtain⟨t,rfl⟩:=r;rfl
 | flt _=>obtain⟨t,rfl⟩:=r;rfl
 | ref _=>cases r;rfl
 | ty _=>cases r;rfl
theorem zud {j pos'} (ha:PE X a ta):PC X .Is a (.Constant .none j pos') (tIsN ta):=by
 intro pins s σ H Q I h
 refine thn (ha pins s σ H _ I h) fun v s1 ⟨x,H1,I1,r1,q1⟩=>?_
 exact Constant_none (is_none_gen ⟨.bl _,H1,I1,by rw[r1.none_iff];rfl,q1⟩)
theorem zru {j pos'} (ha:PE X a ta):PC X .IsNot a (.Constant .none j pos') (zvm ta):=by
 intro pins s σ H Q I h
 refine thn (ha pins s σ H _ I h) fun v s1 ⟨x,H1,I1,r1,q1⟩=>?_
 exact Constant_none (isnot_none_gen ⟨.bl _,H1,I1,by rw[r1.none_iff];rfl,q1⟩)
def tB (t:TE):TT:=fun σ H Q=>t σ H fun x H1=>∃c,x=.bl c/\Q c H1
theorem zu9 {op:CmpOp} {t:TE} (h:PC X op a b t) (h1:y2v op b=false:=by first|exact zhj _ (by decide) (by decide)|rfl):PE X (.Compare a [op] [b] pos) t:=fun pins s σ H Q I hw=>wpAny_Compare1 (h pins s σ H Q I hw) h1
theorem ztz {op:CmpOp} {t:TE} (h:PC X op a b t) (h1:y2v op b=false:=by first|exact zhj _ (by decide) (by decide)|rfl):PT X (.Compare a [op] [b] pos) (tB t):=by
 intro pins s σ H Q I hw
 refine wpAny_isTrue_Compare1 (thn (h pins s σ H _ I hw) fun v s1 h1=>thn h1 fun u s2 h2=>thn h2 fun c s3 ⟨x,H1,I1,r1,q1⟩=>?_) h1
 obtain⟨d,rfl,q⟩:=q1
 cases r1
 exact y2w ⟨H1,I1,q⟩
theorem zqe {e:Expr} {t:TE} (h:PE X e t) (he:∀whole,isTrue e X.env whole=(do let v <- whole;standAt e.pos;holding [v] (truthy v)):=by intro _;rfl):PT X e (tB t):=by
 intro pins s σ H Q I hw
 refine isTrue_plain (thn (h pins s σ H _ I hw) fun v s1 ⟨x,H1,I1,r1,q1⟩=>?_) (he _)
 obtain⟨d,rfl,q⟩:=q1
 cases r1
 exact y2w ⟨H1,I1,q⟩
variable {tA tB':TT} {rest:List Expr}
def tAnd (t u:TT):TT:=fun σ H Q=>t σ H fun c H1=>if c=true then u σ H1 Q else Q false H1
def tOr (t u:TT):TT:=fun σ H Q=>t σ H fun c H1=>if c=true then Q true H1 else u σ H1 Q
def tNot (t:TT):TT:=fun σ H Q=>t σ H fun c H1=>Q (!c) H1
theorem zkp (ha:PT X a tA):PW X (.BoolOp .And [a] pos) tA:=by
 intro wh pins s σ H Q I h
 refine isTrue_and (thn (ha pins s σ H Q I h) fun c s1 e=>?_)
 cases c with
 | true=>exact isTrue_and_nil e
 | false=>exact e
theorem ztx (ha:PT X a tA):PW X (.BoolOp .Or [a] pos) tA:=by
 intro wh pins s σ H Q I h
 refine isTrue_or (thn (ha pins s σ H Q I h) fun c s1 e=>?_)
 cases c with
 | false=>exact isTrue_or_nil e
 | true=>exact e
theorem zqc (ha:PT X a tA) (hb:PW X (.BoolOp .And (b::rest) pos) tB'):PW X (.BoolOp .And (a::b::rest) pos) (tAnd tA tB'):=by
 intro wh pins s σ H Q I h
 refine isTrue_and (thn (ha pins s σ H _ I h) fun c s1 ⟨H1,I1,q1⟩=>?_)
 cases c with
 | true=>exact hb wh pins s1 σ H1 Q I1 q1
 | false=>exact⟨H1,I1,q1⟩
theorem zw0 (ha:PT X a tA) (hb:PW X (.BoolOp .Or (b::rest) pos) tB'):PW X (.BoolOp .Or (a::b::rest) pos) (tOr tA tB'):=by
 intro wh pins s σ H Q I h
 refine isTrue_or (thn (ha pins s σ H _ I h) fun c s1 ⟨H1,I1,q1⟩=>?_)
 cases c with
 | true=>exact⟨H1,I1,q1⟩
 | false=>exact hb wh pins s1 σ H1 Q I1 q1
theorem zty (ha:PT X a tA):PT X (.UnaryOp .Not a pos) (tNot tA):=by
 intro pins s σ H Q I h
 exact isTrue_not (ha pins s σ H (fun c H1=>Q (!c) H1) I h)
def zvo (ta tb:TE):TE:=fun σ H Q=>ta σ H fun x H1=>∃c,x=.bl c/\if c=true then tb σ H1 Q else Q (.bl false) H1
def tOrV (ta tb:TE):TE:=fun σ H Q=>ta σ H fun x H1=>∃c,x=.bl c/\if c=true then Q (.bl true) H1 else tb σ H1 Q
def zvl (ta:TE):TE:=fun σ H Q=>ta σ H fun x H1=>∃c,x=.bl c/\Q (.bl (!c)) H1
theorem zqf {op} {t:TE} (h:PE X a t):PE X (.BoolOp op [a] pos) t:=fun pins s σ H Q I hw=>BoolOp_one (h pins s σ H Q I hw)
theorem zuc (ha:PE X a ta) (hb:PE X (.BoolOp .And (b::rest) pos) tb):PE X (.BoolOp .And (a::b::rest) pos) (zvo ta tb):=by
 intro pins s σ H Q I h
 refine BoolOp_and (thn (ha pins s σ H _ I h) fun v s1 ⟨x,H1,I1,r1,q1⟩=>?_)
 obtain⟨c,rfl,q1⟩:=q1
 cases r1
 refine y2w ?_
 cases c with
 | true=>exact hb pins s1 σ H1 Q I1 q1
 | false=>exact⟨.bl false,H1,I1,rfl,q1⟩
theorem zw3 (ha:PE X a ta) (hb:PE X (.BoolOp .Or (b::rest) pos) tb):PE X (.BoolOp .Or (a::b::rest) pos) (tOrV ta tb):=by
 intro pins s σ H Q I h
 refine BoolOp_or (thn (ha pins s σ H _ I h) fun v s1 ⟨x,H1,I1,r1,q1⟩=>?_)
 obtain⟨c,rfl,q1⟩:=q1
 cases r1
 refine y2w ?_
 cases c with
 | false=>exact hb pins s1 σ H1 Q I1 q1
 | true=>exact⟨.bl true,H1,I1,rfl,q1⟩
theorem zu6 (ha:PE X a ta):PE X (.UnaryOp .Not a pos) (zvl ta):=by
 intro pins s σ H Q I h
 refine UnaryOp_ (thn (ha pins s σ H _ I h) fun v s1 ⟨x,H1,I1,r1,q1⟩=>?_)
 obtain⟨c,rfl,q1⟩:=q1
 cases r1
 exact not_of (y2w ⟨.bl (!c),H1,I1,rfl,q1⟩)
end
end L2
namespace L2
open PySem PySem.Spec PyProof.Rows
noncomputable def SqL (K:y00) (H:Hp) (a:Addr) (xs:List V):Prop :=
 Rd H a (.lst xs) \/
  ∃(o:Obj) (its:Array Value) (n:Nat),K.lookup a=some o/\o.cls=.type "list"/\o.dict=none/\o.data=.seq its n/\its.size<=y0j/\Vals xs its.toList
noncomputable def SqT (K:y00) (H:Hp) (a:Addr) (xs:List V):Prop :=
 Rd H a (.tup xs) \/
  ∃(o:Obj) (its:Array Value) (n:Nat),K.lookup a=some o/\o.cls=.type "tuple"/\o.data=.seq its n/\its.size<=y0j/\Vals xs its.toList
noncomputable def absV:Value->Option V
 | .none=>some .non
 | .bool b=>some (.bl b)
 | .int i _=>some (.int i)
 | .str x _=>some (.str x)
 | .bytes b _=>some (.byt b)
 | .float b _=>some (.flt b)
 | .ref a=>some (.ref a)
 | .type n=>some (.ty n)
 | _=>none
theorem RelV.abs {x:V} {u:Value} (r:RelV x u):absV u=some x:=by
 cases x with
 | non=>cases r;rfl
 | bl _=>cases r;rfl
 | int _=>obtain⟨t,rfl⟩:=r;rfl
 | str _=>obtain⟨t,rfl⟩:=r;rfl
 | byt _=>obtain⟨t,rfl⟩:=r;rfl
 | flt _=>obtain⟨t,rfl⟩:=r;rfl
 | ref _=>cases r;rfl
 | ty _=>cases r;rfl
theorem RelV.inj {x y:V} {u:Value} (r:RelV x u) (q:RelV y u):x=y:=y2c (r.abs.symm.trans q.abs)
theorem Vals.inj:∀{xs ys:List V} {us:List Value},Vals xs us->Vals ys us->xs=ys
 | _,_,_,.nil,.nil=>rfl
 | _,_,_,.cons r t,.cons r' t'=>by rw[r.inj r',Vals.inj t t']
section
variable {X:Cx} {pins:List (Addr×Obj)} {σ:St} {H:Hp} {s:y04} {a:Addr} {xs ys:List V}
theorem SqT.of {K:y00} (h:H a=some (.tup xs)):SqT K H a xs:=.inl (.inl h)
theorem Inv.list (I:Inv X pins σ H s) (h:SqL X.K H a xs):∃its:List Value,Vals xs its/\PlainL s.heap a its.toArray/\xs.length<=y0j:=by
 rcases h with h|⟨o,its,n,hk,hc,hd,hs,hz,r⟩
 ·obtain⟨z,its,n,r,e⟩:=h.ok I.hok
  exact⟨its,r,⟨_,n,e,rfl,rfl,rfl⟩,z⟩
 ·refine⟨its.toList,r,⟨o,n,I.kIn a o hk,hc,hd,by simpa using hs⟩,?_⟩
  have e:=r.length
  simp only[y1y] at e
  omega
theorem Inv.tuple (I:Inv X pins σ H s) (h:SqT X.K H a xs):∃its:List Value,Vals xs its/\IsTup s.heap a its.toArray/\xs.length<=y0j:=by
 rcases h with h|⟨o,its,n,hk,hc,hs,hz,r⟩
 ·obtain⟨z,its,r,p⟩:=h.ok I.hok
  exact⟨its,r,p,z⟩
 ·refine⟨its.toList,r,⟨o,I.kIn a o hk,hc,n,by simpa using hs⟩,?_⟩
  have e:=r.length
  simp only[y1y] at e
  omega
theorem Inv.list_inj (I:Inv X pins σ H s) (h:SqL X.K H a xs) (h':SqL X.K H a ys):xs=ys:=by
 obtain⟨its,r,⟨o,n,e,_,_,d⟩,_⟩:=I.list h
 obtain⟨its',r',⟨o',n',e',_,_,d'⟩,_⟩:=I.list h'
 rw[e] at e';cases e'
 rw[d] at d'
 injection d' with d1 _
 have:its=its':=by simpa using congrArg Array.toList d1
 subst this
 exact r.inj r'
theorem Inv.tuple_inj (I:Inv X pins σ H s) (h:SqT X.K H a xs) (h':SqT X.K H a ys):xs=ys:=by
 obtain⟨its,r,⟨o,e,_,n,d⟩,_⟩:=I.tuple h
 obtain⟨its',r',⟨o',e',_,n',d'⟩,_⟩:=I.tuple h'
 rw[e] at e';cases e'
 rw[d] at d'
 injection d' with d1 _
 have:its=its':=by simpa using congrArg Array.toList d1
 subst this
 exact r.inj r'
end
abbrev Cx.wish (X:Cx) (E:Value->y04->Prop):Cx:={ X with xe:=E }
abbrev Cx.nox (X:Cx):Cx:=X.wish fun _ _=>False
theorem Cx.Ok.wish {X:Cx} (ok:X.Ok) (E:Value->y04->Prop):(X.wish E).Ok :=
 ⟨ok.mod,ok.kind,ok.glob,ok.blt,ok.above,ok.inj,ok.has,ok.cab,ok.hd,ok.frames,ok.stk,ok.exf,ok.bs,ok.bsz,ok.noex,ok.exfs,ok.funs,ok.frf⟩
theorem Cx.Ok.unwish {X:Cx} {E:Value->y04->Prop} (ok:(X.wish E).Ok):X.Ok :=
 ⟨ok.mod,ok.kind,ok.glob,ok.blt,ok.above,ok.inj,ok.has,ok.cab,ok.hd,ok.frames,ok.stk,ok.exf,ok.bs,ok.bsz,ok.noex,ok.exfs,ok.funs,ok.frf⟩
section
variable {X:Cx} {pins:List (Addr×Obj)} {σ:St} {H:Hp} {s:y04} {E:Value->y04->Prop}
theorem Inv.wish (I:Inv X pins σ H s) (E:Value->y04->Prop):Inv (X.wish E) pins σ H s:=⟨I.ok.wish E,I.os,I.bare,I.base,I.loc,I.cell,I.free,I.freeC,I.pin,I.hok,I.len⟩
theorem Inv.unwish (I:Inv (X.wish E) pins σ H s):Inv X pins σ H s:=⟨I.ok.unwish,I.os,I.bare,I.base,I.loc,I.cell,I.free,I.freeC,I.pin,I.hok,I.len⟩
theorem SP.unwish {D:Ends} {f:Flow} {s':y04} (h:SP (X.wish E) pins D f s'):SP X pins D f s':=by
 cases f with
 | next=>obtain⟨σ',H',I,q⟩:=h;exact⟨σ',H',I.unwish,q⟩
 | brk=>obtain⟨σ',H',I,q⟩:=h;exact⟨σ',H',I.unwish,q⟩
 | cont=>obtain⟨σ',H',I,q⟩:=h;exact⟨σ',H',I.unwish,q⟩
 | ret u=>obtain⟨v,σ',H',I,r,q⟩:=h;exact⟨v,σ',H',I.unwish,r,q⟩
theorem PE.nox {e:Expr} {t:TE} (h:PE X.nox e t):PE X e t:=fun pins s σ H Q I hw =>
 y1d (h pins s σ H Q (I.wish _) hw) (fun _ _ ⟨v,H',I',r,q⟩=>⟨v,H',I'.unwish,r,q⟩) fun _ _ z=>y1w z
theorem PSs.nox {st:List Stmt} {t:TS} (h:PSs X.nox st t):PSs X st t:=fun pins s σ H D I hw =>
 y1d (h pins s σ H D (I.wish _) hw) (fun _ _ q=>q.unwish) fun _ _ z=>y1w z
end
section
variable {X:Cx} {st:Stmt} {rest:List Stmt} {t u:TS} {e:Expr} {te:TE} {pos:Pos}
def zt7:TS:=fun D σ H=>D.nx σ H
def tSeq (t u:TS):TS:=fun D σ H=>t { D with nx:=u D } σ H
theorem zks:PSs X [] zt7:=fun _ _ σ H _ I h=>wpAny_execs_nil ⟨σ,H,I,h⟩
theorem z4l (h1:PS X st t) (h2:PSs X rest u):PSs X (st::rest) (tSeq t u):=by
 intro pins s σ H D I h
 refine wpAny_execs_cons (thn (h1 pins s σ H { D with nx:=u D } I h) fun f s1 q=>?_)
 cases f with
 | next =>
  obtain⟨σ',H',I',q⟩:=q
  exact h2 pins s1 σ' H' D I' q
 | ret v=>exact q
 | brk=>exact q
 | cont=>exact q
theorem z6i (h1:PS X st t):PSs X [st] t:=by
 intro pins s σ H D I h
 refine wpAny_execs_cons (thn (h1 pins s σ H D I h) fun f s1 q=>?_)
 cases f with
 | next=>exact wpAny_execs_nil q
 | ret v=>exact q
 | brk=>exact q
 | cont=>exact q
def tRet (te:TE):TS:=fun D σ H=>te σ H D.rt
theorem zkt (he:PE X e te):PS X (.Return (some e) pos) (tRet te):=by
 intro pins s σ H D I h
 exact wpAny_Return_some (thn (he pins s σ H _ I h) fun v s1 ⟨x,H1,I1,r1,q1⟩=>⟨x,σ,H1,I1,r1,q1⟩)
def tIfS (c:TT) (t u:TS):TS:=fun D σ H=>c σ H fun b H1=>if b=true then t D σ H1 else u D σ H1
theorem zu1 {c:Expr} {a b:List Stmt} {tc:TT} (hc:PT X c tc) (ha:PSs X a t) (hb:PSs X b u):PS X (.If c a b pos) (tIfS tc t u):=by
 intro pins s σ H D I h
 refine wpAny_If (thn (hc pins s σ H _ I h) fun d s1 ⟨H1,I1,q1⟩=>?_)
 cases d with
 | true=>exact ha pins s1 σ H1 D I1 q1
 | false=>exact hb pins s1 σ H1 D I1 q1
end
abbrev TG:=V->St->Hp->(St->Hp->Prop)->Prop
abbrev TGs:=List V->St->Hp->(St->Hp->Prop)->Prop
noncomputable def PG (X:Cx) (target:Expr) (t:TG):Prop :=
 ∀(pins:List (Addr×Obj)) (s:y04) (σ:St) (H:Hp) (v:V) (u:Value) (Q:St->Hp->Prop),Inv X pins σ H s->RelV v u->t v σ H Q ->
  y0u (y33 X.prog X.w) X.A (assign target X.env u) (fun _ s'=>∃σ' H',Inv X pins σ' H' s'/\Q σ' H') X.xe s
noncomputable def PGs (X:Cx) (ts:List Expr) (t:TGs):Prop :=
 ∀(pins:List (Addr×Obj)) (s:y04) (σ:St) (H:Hp) (vs:List V) (us:List Value) (Q:St->Hp->Prop),Inv X pins σ H s->Vals vs us->t vs σ H Q ->
  y0u (y33 X.prog X.w) X.A (assignInOrder ((y2y ts X.env).map (·.2)) us) (fun _ s'=>∃σ' H',Inv X pins σ' H' s'/\Q σ' H') X.xe s
section
variable {X:Cx} {pos:Pos}
def ze9 (i:Nat):TG:=fun v σ H Q=>Q (σ.set i (some v)) H
theorem zrn {i:Nat} {x:Str} (hN:X.N.Nodup) (hi:X.N[i]?=some x) (hx:Loc X.env.scope x) (hf:X.fn x=true\/X.env.scope.names.lookup x=some .local:=by first|exact .inl rfl|exact .inr rfl|assumption):PG X (.Name x pos) (ze9 i):=by
 intro pins s σ H v u Q I r h
 exact wpAny_assign_Name (zbk I hN hi hx r (fun s' I'=>⟨_,H,I',h⟩) hf)
def gNil:TGs:=fun vs σ H Q=>vs=[]/\Q σ H
def zwc (t:TG) (u:TGs):TGs:=fun vs σ H Q=>∃v r,vs=v::r/\t v σ H fun σ' H'=>u r σ' H' Q
theorem zrm:PGs X [] gNil:=by
 intro pins s σ H vs us Q I r h
 obtain⟨e,h⟩:=h
 subst e
 cases r
 exact assignInOrder_nil ⟨σ,H,I,h⟩
theorem zog {e:Expr} {es:List Expr} {t:TG} {u:TGs} (h1:PG X e t) (h2:PGs X es u)
  (hs:(y2y (e::es) X.env).map (·.2)=assign e X.env::(y2y es X.env).map (·.2):=by rfl):PGs X (e::es) (zwc t u):=by
 intro pins s σ H vs us Q I r h
 obtain⟨v,vr,e1,h⟩:=h
 subst e1
 cases r with
 | cons r rr =>
  rw[hs]
  refine assignInOrder_cons (thn (h1 pins s σ H _ _ _ I r h) fun _ s1 ⟨σ1,H1,I1,q1⟩=>?_)
  exact h2 pins s1 σ1 H1 _ _ Q I1 rr q1
def gTup (K:y00) (n:Nat) (t:TGs):TG:=fun v σ H Q=>∃a xs,v=.ref a/\SqT K H a xs/\xs.length=n/\t xs σ H Q
theorem zu4 {es:List Expr} {k:Nat} {t:TGs} {n:Nat} (hc:X.calm=true) (h:PGs X es t)
  (hn:(y2y es X.env).length=n:=by rfl) (hst:(y2y es X.env).findIdx? (·.1)=none:=by rfl):PG X (.Tuple es k pos) (gTup X.K n t):=by
 intro pins s σ H v u Q I r hw
 obtain⟨a,xs,e1,hq,hl,hw⟩:=hw
 subst e1
 cases r
 obtain⟨its,rv,ht,hz⟩:=I.tuple hq
 refine assign_Tuple_tuple (I.ok.hd hc) ht (by simp[hn,<- hl,rv.length]) hst fun h' hx=>?_
 have I1:Inv X pins σ H { s with heap:=h' }:=I.kept (t':=s.toks) fun b o e=>hx b o (y0y (y0c e)) e
 exact h pins _ σ H xs _ Q I1 (by simpa using rv) hw
def tAsg (te:TE) (g:TG):TS:=fun D σ H=>te σ H fun x H1=>g x σ H1 D.nx
theorem zax {i:Nat} {x:Str} {e:Expr} {te:TE} {pos':Pos} (hN:X.N.Nodup) (hi:X.N[i]?=some x) (hx:Loc X.env.scope x) (he:PE X e te) (hs:swapsWith e (some (.Name x pos')) pos.line X.env=pure false:=by rfl) (hf:X.fn x=true\/X.env.scope.names.lookup x=some .local:=by first|exact .inl rfl|exact .inr rfl|assumption) :
  PS X (.Assign [.Name x pos'] e pos) (tAsg te (ze9 i)):=by
 intro pins s σ H D I h
 refine wpAny_Assign_Name (thn (he pins s σ H _ I h) fun v s1 ⟨y,H1,I1,r1,q1⟩=>?_) hs
 exact zbk I1 hN hi hx r1 (fun s2 I2=>⟨_,H1,I2,q1⟩) hf
end
section
variable {X:Cx} {pos:Pos}
end
structure It where
 go:Nat->Hp->Prop
 yld:Nat->Hp->V->Hp->Prop
 stop:Nat->Hp->Prop
noncomputable def FpOk (X:Cx) (pins:List (Addr×Obj)) (H:Hp) (b:Addr):Prop :=
 H b=none/\b≠X.env.locals/\b∉X.fs/\(b∈X.ex\/X.s₀.heap.objs.size<=b)/\(∀x c,X.env.cells.lookup x=some c->c≠b)/\∀p∈X.pn++pins,p.1≠b
theorem Inv.fpOk {X:Cx} {pins:List (Addr×Obj)} {σ:St} {H H':Hp} {s:y04} {b:Addr} (I:Inv X pins σ H s) (hb:s.heap.objs.size<=b) (hn:H' b=none):FpOk X pins H' b:=by
 refine⟨hn,y15 (y0x I.lt hb),I.nofs hb,.inr (y1o I.sz hb),fun x c e z=>?_,fun p hp z=>?_⟩
 ·obtain⟨v,q⟩:=I.cell x c e
  exact absurd (y0x q.lt (by rw[z];exact hb)) (Nat.lt_irrefl _)
 ·exact absurd (y0x (y0c (I.pin p hp).1) (by rw[z];exact hb)) (Nat.lt_irrefl _)
structure Turn (P:y0q) (w:World) (K:y00) (tg:Expr) (J:It) (fp:List Addr) (it:Addr) (tn:Nat->Heap->Prop):Prop where
 mem:it∈fp
 obj:∀i h,tn i h->∀b∈fp,∃o,h.get? b=some o/\∀v,o.data≠.cell v
 keep:∀i h h',tn i h->(∀b∈fp,∀o,h.get? b=some o->h'.get? b=some o)->tn i h'
 item:∀(X:Cx),X.prog=P->X.w=w->X.K=K->X.calm=true->∀(i:Nat) (pins:List (Addr×Obj)) (s:y04) (σ:St) (H:Hp) (E:Value->y04->Prop),Inv X pins σ H s->(∀b∈fp,FpOk X pins H b)->tn i s.heap->J.go i H ->
  y0u (y33 P w) X.A (pyNext (.ref it)) (fun r s1=>∃u,r=some u /\
   y0u (y33 P w) X.A (letOwnedTupleGo tg (.ref it) u) (fun _ s2=>∃x H',Inv X pins σ H' s2/\RelV x u/\J.yld i H x H'/\tn (i+1) s2.heap/\∀b∈fp,H' b=none) E s1) E s
 done:∀(X:Cx),X.prog=P->X.w=w->X.K=K->X.calm=true->∀(i:Nat) (pins:List (Addr×Obj)) (s:y04) (σ:St) (H:Hp) (E:Value->y04->Prop),Inv X pins σ H s->(∀b∈fp,FpOk X pins H b)->tn i s.heap->J.stop i H ->
  y0u (y33 P w) X.A (pyNext (.ref it)) (fun r s1=>r=none/\Inv X pins σ H s1) E s
 self:∀(A:Around) (i:Nat) (s:y04) (Q:Value->y04->Prop) (E:Value->y04->Prop),tn i s.heap->Q (.ref it) s->y0u (y33 P w) A (pyIter (.ref it)) Q E s
abbrev TI:=St->Hp->(It->Hp->Prop)->Prop
noncomputable def PIE (X:Cx) (pins:List (Addr×Obj)) (σ:St) (tg:Expr) (R:It->Hp->Prop) (itv:Value) (s2:y04):Prop :=
 ∃(it:Addr) (fp:List Addr) (tn:Nat->Heap->Prop) (J:It) (H':Hp),itv=.ref it/\Inv X pins σ H' s2/\Turn X.prog X.w X.K tg J fp it tn/\tn 0 s2.heap/\(∀b∈fp,FpOk X pins H' b)/\R J H'
noncomputable def PI (X:Cx) (tg iter:Expr) (wi:TI):Prop :=
 ∀(pins:List (Addr×Obj)) (s:y04) (σ:St) (H:Hp) (R:It->Hp->Prop),Inv X pins σ H s->wi σ H R ->
  y0u (y33 X.prog X.w) X.A (eval iter X.env) (fun v s1=>y0u (y33 X.prog X.w) X.A (pyIter v) (PIE X pins σ tg R) X.xe s1) X.xe s
theorem zpd {M:Model} {A:Around} {E:Value->y04->Prop} {s:y04} {tg:Expr} {it:Addr} {u:Value} {o:Obj} {n:String} {vs:Array Value} {Q:Unit->y04->Prop} (ho:s.heap.get? it=some o) (hc:o.cls=.type n) (hd:o.data=.fields vs)
    (hn:["enumerate","zip","dict_itemiterator","dict_reverseitemiterator","odict_iterator","itertools.zip_longest","itertools.pairwise"].contains n=false) (hQ:Q () s):y0u M A (letOwnedTupleGo tg (.ref it) u) Q E s:=by
  unfold letOwnedTupleGo
  cases tg <;> first
    | exact y06 hQ
    | (cases u <;> first
        | exact y06 hQ
        | (refine y02 (wpAny_load ho ?_)
           rw[hc,hd]
           show y0u M A (if (["enumerate","zip","dict_itemiterator","dict_reverseitemiterator","odict_iterator","itertools.zip_longest","itertools.pairwise"].contains n && vs[0]? == some (y35 _))=true then _ else _) Q E s
           rw[if_neg (by intro h;rw[hn,Bool.false_and] at h;cases h)]
           exact y06 hQ))
noncomputable def Itl (K:y00) (a:Addr):It :=
 ⟨fun i H=>∃xs x,SqL K H a xs/\xs[i]?=some x,fun i H x H'=>H'=H/\∀xs,SqL K H a xs->xs[i]?=some x,fun i H=>∃xs,SqL K H a xs/\xs.length<=i⟩
noncomputable def Itt (K:y00) (a:Addr):It :=
 ⟨fun i H=>∃xs x,SqT K H a xs/\xs[i]?=some x,fun i H x H'=>H'=H/\∀xs,SqT K H a xs->xs[i]?=some x,fun i H=>∃xs,SqT K H a xs/\xs.length<=i⟩
def Itr (lo:Int) (n:Nat):It:=⟨fun i _=>i<n,fun i H x H'=>H'=H/\x=.int (lo+i),fun i _=>n<=i⟩
theorem zcl {P:y0q} {w:World} {K:y00} {tg:Expr} (a it:Addr):Turn P w K tg (Itl K a) [it] it (fun i h=>h.IsListIter it a i) where
 mem:=by simp
 obj:=fun i h st b hb=>by
  have e:b=it:=by simpa using hb
  subst e
  obtain⟨o,e,c,d⟩:=st
  exact⟨o,e,fun v z=>by rw[d] at z;cases z⟩
 keep:=fun i h h' st k=>st.at fun o e=>k it (by simp) o e
 item:=by
  intro X hP hw hK hc i pins s σ H E I hf st hg
  subst hP hw hK
  obtain⟨xs,x,hq,hx⟩:=hg
  obtain⟨its,rv,p,hz⟩:=I.list hq
  obtain⟨u,hu,ru⟩:=rv.get hx
  obtain⟨f0,f1,f2,f3,f4,f5⟩:=hf it (by simp)
  refine wpAny_pyNext_list_item st p.isList (x:=u) (by simpa using hu) fun h' st' sb=>?_
  have I1:Inv X pins σ H { s with heap:=h' }:=I.turned (t':=s.toks) (fun b o hb e=>(sb.2 b hb).trans e) f0 f1 f3 f4 f5
  obtain⟨o,e,c,d⟩:=id st'
  exact⟨u,rfl,zpd (s:={ s with heap:=h' }) e c d (by decide) ⟨x,H,I1,ru,⟨rfl,fun ys hy=>by rw[I.list_inj hy hq];exact hx⟩,st',fun b hb=>(hf b hb).1⟩⟩
 done:=by
  intro X hP hw hK hc i pins s σ H E I hf st hg
  subst hP hw hK
  obtain⟨xs,hq,hx⟩:=hg
  obtain⟨its,rv,p,hz⟩:=I.list hq
  obtain⟨f0,f1,f2,f3,f4,f5⟩:=hf it (by simp)
  have hl:=rv.length
  exact wpAny_pyNext_list_end (I.ok.hd hc) st p.isList (by simp;omega) fun h' eb=>⟨rfl,I.turned (t':=s.toks) (fun b o hb e=>eb b o hb e) f0 f1 f3 f4 f5⟩
 self:=fun _ _ _ _ _ st h=>wpAny_pyIter_listiter st h
theorem zal {P:y0q} {w:World} {K:y00} {tg:Expr} (a it:Addr):Turn P w K tg (Itt K a) [it] it (fun i h=>h.IsTupleIter it a i) where
 mem:=by simp
 obj:=fun i h st b hb=>by
  have e:b=it:=by simpa using hb
  subst e
  obtain⟨o,e,c,d⟩:=st
  exact⟨o,e,fun v z=>by rw[d] at z;cases z⟩
 keep:=fun i h h' st k=>st.at fun o e=>k it (by simp) o e
 item:=by
  intro X hP hw hK hc i pins s σ H E I hf st hg
  subst hP hw hK
  obtain⟨xs,x,hq,hx⟩:=hg
  obtain⟨its,rv,p,hz⟩:=I.tuple hq
  obtain⟨u,hu,ru⟩:=rv.get hx
  obtain⟨f0,f1,f2,f3,f4,f5⟩:=hf it (by simp)
  refine wpAny_pyNext_tuple_item st (show s.heap.IsTuple a its.toArray from p) (x:=u) (by simpa using hu) fun h' st' sb=>?_
  have I1:Inv X pins σ H { s with heap:=h' }:=I.turned (t':=s.toks) (fun b o hb e=>(sb.2 b hb).trans e) f0 f1 f3 f4 f5
  obtain⟨o,e,c,d⟩:=id st'
  exact⟨u,rfl,zpd (s:={ s with heap:=h' }) e c d (by decide) ⟨x,H,I1,ru,⟨rfl,fun ys hy=>by rw[I.tuple_inj hy hq];exact hx⟩,st',fun b hb=>(hf b hb).1⟩⟩
 done:=by
  intro X hP hw hK hc i pins s σ H E I hf st hg
  subst hP hw hK
  obtain⟨xs,hq,hx⟩:=hg
  obtain⟨its,rv,p,hz⟩:=I.tuple hq
  obtain⟨f0,f1,f2,f3,f4,f5⟩:=hf it (by simp)
  have hl:=rv.length
  exact wpAny_pyNext_tuple_end (I.ok.hd hc) st (show s.heap.IsTuple a its.toArray from p) (by simp;omega) fun h' eb=>⟨rfl,I.turned (t':=s.toks) (fun b o hb e=>eb b o hb e) f0 f1 f3 f4 f5⟩
 self:=fun _ _ _ _ _ st h=>wpAny_pyIter_tupleiter st h
theorem zi6 {P:y0q} {w:World} {K:y00} {tg:Expr} (it:Addr) (lo:Int) (n:Nat):Turn P w K tg (Itr lo n) [it] it (fun i h=>IsRangeIter h it (lo+(i:Nat)*1) ((n:Int) - (i:Nat)) 1) where
 mem:=by simp
 obj:=fun i h st b hb=>by
  have e:b=it:=by simpa using hb
  subst e
  exact⟨_,st,fun v z=>by
   have z':Data.fields _=Data.cell v:=z
   cases z'⟩
 keep:=fun i h h' st k=>k it (by simp) _ st
 item:=by
  intro X hP hw hK hc i pins s σ H E I hf st hg
  subst hP hw hK
  obtain⟨f0,f1,f2,f3,f4,f5⟩:=hf it (by simp)
  have W:=Walks.range (prog:=X.prog) (w:=X.w) (I.ok.hd hc) it lo 1 n
  refine W.item i s _ _ hg st fun v h' tk hv st' kk=>?_
  obtain⟨t,rfl⟩:=hv
  have I1:Inv X pins σ H { s with heap:=h',toks:=tk }:=I.turned (fun b o hb e=>kk b o (by simpa using hb) e) f0 f1 f3 f4 f5
  refine⟨_,rfl,zpd (s:={ s with heap:=h',toks:=tk }) (n:="range_iterator") st' rfl rfl (by decide) ⟨.int (lo+i),H,I1,⟨t,?_⟩,⟨rfl,rfl⟩,st',fun b hb=>(hf b hb).1⟩⟩
  rw[Int.mul_one]
 done:=by
  intro X hP hw hK hc i pins s σ H E I hf st hg
  subst hP hw hK
  obtain⟨f0,f1,f2,f3,f4,f5⟩:=hf it (by simp)
  exact wpAny_pyNext_range_end (I.ok.hd hc) st (by have:n<=i:=hg;omega) fun h' eb=>⟨rfl,I.turned (t':=s.toks) (fun b o hb e=>eb b o hb e) f0 f1 f3 f4 f5⟩
 self:=fun _ _ _ _ _ st h=>wpAny_pyIter_rangeiter st h
end L2
namespace L2
open PySem PySem.Spec PyProof.Rows
section
variable {X:Cx} {tg:Expr}
theorem zo7 {pins:List (Addr×Obj)} {σ:St} {H:Hp} {s:y04} {R:It->Hp->Prop} {E:Value->y04->Prop} {lo hi:Int} {t u v:Tok} {tk:Nat} (I:Inv X pins σ H s) (h1:-(2 ^ 62)<=lo) (h2:lo<2 ^ 62) (h3:-(2 ^ 62)<=hi) (h4:hi<2 ^ 62)
  (q:R (Itr lo (hi - lo).toNat) H):y0u (y33 X.prog X.w) X.A (pyIter (.ref s.heap.objs.size)) (PIE X pins σ tg R) E { s with heap:=s.heap.push { cls:=.type "range",data:=.fields #[.int lo t,.int hi u,.int 1 v] },toks:=tk }:=by
 refine wpAny_pyIter_range (IsRange.new ..) (small_one h1 h2 h3 h4) ?_
 have I1:Inv X pins σ H { s with heap:=s.heap.push { cls:=.type "range",data:=.fields #[.int lo t,.int hi u,.int 1 v] },toks:=tk }:=I.kept fun b o e=>y03 _ e
 refine⟨(s.heap.push { cls:=.type "range",data:=.fields #[.int lo t,.int hi u,.int 1 v] }).objs.size,[(s.heap.push { cls:=.type "range",data:=.fields #[.int lo t,.int hi u,.int 1 v] }).objs.size],_,_,H,rfl,
  I1.kept (t':=tk) fun b o e=>y03 _ e,zi6 _ lo (hi - lo).toNat,?_,fun b hb=>?_,q⟩
 ·have e1:lo+((0:Nat):Int)*1=lo:=by simp
  have e2:(((hi - lo).toNat:Nat):Int) - ((0:Nat):Int)=Builtin.Range.rangeSize lo hi 1:=by rw[rangeSize_one];split <;> omega
  show IsRangeIter _ _ (lo+((0:Nat):Int)*1) ((((hi - lo).toNat:Nat):Int) - ((0:Nat):Int)) 1
  rw[e1,e2]
  exact y0l _ rfl
 ·have e:b=(s.heap.push { cls:=.type "range",data:=.fields #[.int lo t,.int hi u,.int 1 v] }).objs.size:=by simpa using hb
  subst e
  exact I1.fpOk (y0o _) (I1.hok.fresh (y0o _))
def zwa (ta:TA):TI:=fun σ H R=>ta σ H fun vs H1=>∃j:Int,vs=[.int j]/\-(2 ^ 62)<=j/\j<2 ^ 62/\R (Itr 0 j.toNat) H1
theorem zkx {a:Expr} {ta:TA} {p pos:Pos} (hg:Gl X "range") (hm:X.mg "range"=none) (ha:PA X [a] ta) (hs:y0a [a] X.env=[(false,eval a X.env)]:=by rfl):PI X tg (.Call (.Name "range" p) [a] [] pos) (zwa ta):=by
 intro pins s σ H R I h
 refine Call_ (z9f I hg hm boot_range (y1s (thn (ha pos pins s σ H _ I h) fun us s1 ⟨vs,H1,I1,r1,q1⟩=>?_) hs rfl))
 obtain⟨j,e,q1,q2,q⟩:=q1
 subst e
 cases r1 with
 | cons r rr =>
  cases rr
  obtain⟨t,rfl⟩:=r
  exact call_range_1 (zo7 I1 (by omega) (by omega) q1 q2 (by simpa using q))
noncomputable def tFor (wi:TI) (g:TG) (tb:TS):TS:=fun D σ H=>wi σ H fun J H1=>∃W:Nat->Nat->St->Hp->Prop,(∃m,W 0 m σ H1)/\∀i m σ H,W i m σ H ->
 (J.stop i H/\D.nx σ H)\/(J.go i H/\∃N:St->Hp->Prop,(∀σ' H',N σ' H'->∃m',m'<m/\W (i+1) m' σ' H')/\∀x H',J.yld i H x H'->g x σ H' fun σ2 H2=>tb { D with nx:=N,ct:=N,bk:=D.nx } σ2 H2)
def zda (fp:List Addr) (h:Heap):List (Addr×Obj):=fp.filterMap fun b=>(h.get? b).map fun o=>(b,o)
theorem z5y {fp:List Addr} {h:Heap} {b:Addr} {o:Obj} (hb:b∈fp) (e:h.get? b=some o):(b,o)∈zda fp h:=List.mem_filterMap.mpr ⟨b,hb,by rw[e];rfl⟩
theorem zl7 {fp:List Addr} {h:Heap} {p:Addr×Obj} (hp:p∈zda fp h):p.1∈fp/\h.get? p.1=some p.2:=by
 obtain⟨b,hb,e⟩:=List.mem_filterMap.mp hp
 cases q:h.get? b with
 | none=>rw[q] at e;cases e
 | some o =>
  rw[q] at e
  have e':(b,o)=p:=y2c e
  subst e'
  exact⟨hb,q⟩
theorem Inv.pinned {pins:List (Addr×Obj)} {σ:St} {H:Hp} {s:y04} {fp:List Addr} (I:Inv X pins σ H s) (hf:∀b∈fp,FpOk X pins H b) (ho:∀b∈fp,∃o,s.heap.get? b=some o/\∀v,o.data≠.cell v):Inv X (pins++zda fp s.heap) σ H s :=
 I.pins_of fun p hp=>(y10.mp hp).elim (fun z=>I.pin p (y1a _ z)) fun z=>by
  obtain⟨hb,e⟩:=zl7 z
  obtain⟨f0,f1,f2,_⟩:=hf p.1 hb
  obtain⟨o,e',d⟩:=ho p.1 hb
  rw[e] at e';cases e'
  exact⟨e,f0,f1,f2,d⟩
theorem Inv.unpinned {pins pl:List (Addr×Obj)} {σ:St} {H:Hp} {s:y04} (I:Inv X (pins++pl) σ H s):Inv X pins σ H s:=I.pins_of fun p hp=>I.pin p (y1a _ (List.mem_append_left _ hp))
theorem zu2 {iter:Expr} {body:List Stmt} {wi:TI} {g:TG} {tb:TS} {pos:Pos} (hp:PassesOwn (y33 X.prog X.w) X.A X.env X.xe) (hc:X.calm=true) (hi:PI X tg iter wi) (hg:PG X tg g) (hb:PSs X body tb)
  (hs:∀x,y34 iter X.env x=pure x:=by intro _;rfl):PS X (.For tg iter body [] pos) (tFor wi g tb):=by
 intro pins s σ H D I h
 refine wpAny_For (thn (hi pins s σ H _ I h) fun v s1 h1=>thn h1 fun itv s2 h2=>?_) hs
 obtain⟨it,fp,tn,J,H2,e,I2,T,st2,f2,W,⟨m0,w0⟩,turn⟩:=h2
 subst e
 have stat:∀{H':Hp},(∀b∈fp,H' b=none)->∀b∈fp,FpOk X pins H' b:=fun hn b hb=>⟨hn b hb,(f2 b hb).2⟩
 refine codeAny_forLoop_any (fun n s'=>∃i σ' H',Inv X pins σ' H' s'/\tn i s'.heap/\(∀b∈fp,H' b=none)/\W i n σ' H') ?_ m0 ⟨0,σ,H2,I2,st2,fun b hb=>(f2 b hb).1,w0⟩
 rintro n s3 ⟨i,σ3,H3,I3,st3,fr3,w3⟩
 rcases turn i n σ3 H3 w3 with ⟨stop,qn⟩|⟨go,N,hN,step⟩
 ·refine wpAny_passesOwn hp (thn (T.done X rfl rfl rfl hc i pins s3 σ3 H3 X.xe I3 (stat fr3) st3 stop) fun r s4 ⟨hr,I4⟩=>?_)
  subst hr
  exact wpAny_execs_nil ⟨σ3,H3,I4,qn⟩
 ·refine wpAny_passesOwn hp (thn (T.item X rfl rfl rfl hc i pins s3 σ3 H3 X.xe I3 (stat fr3) st3 go) fun r s4 ⟨u,hr,h4⟩=>?_)
  subst hr
  refine wpAny_passesOwn hp (thn h4 fun _ s5 ⟨x,H5,I5,r5,y5,st5,fr5⟩=>?_)
  have I5':=I5.pinned (stat fr5) (T.obj _ _ st5)
  refine wpAny_passesOwn hp (thn (hg _ s5 σ3 H5 x u _ I5' r5 (step x H5 y5)) fun _ s6 ⟨σ6,H6,I6,q6⟩=>?_)
  refine wpAny_passesOwn hp (thn (hb _ s6 σ6 H6 _ I6 q6) fun f s7 q7=>?_)
  have again:∀{σ7:St} {H7:Hp},Inv X (pins++zda fp s5.heap) σ7 H7 s7->N σ7 H7->∃m,m<n/\∃i σ' H',Inv X pins σ' H' s7/\tn i s7.heap/\(∀b∈fp,H' b=none)/\W i m σ' H':=fun {σ7 H7} I7 n7=>by
   obtain⟨m',hm,w7⟩:=hN σ7 H7 n7
   refine⟨m',hm,i+1,σ7,H7,I7.unpinned,T.keep _ _ _ st5 fun b hb o e=>(I7.pin (b,o) (y1a _ (y1a _ (z5y hb e)))).1,fun b hb=>?_,w7⟩
   obtain⟨o,e,d⟩:=T.obj _ _ st5 b hb
   exact (I7.pin (b,o) (y1a _ (y1a _ (z5y hb e)))).2.1
  cases f with
  | next=>obtain⟨σ7,H7,I7,n7⟩:=q7;exact again I7 n7
  | cont=>obtain⟨σ7,H7,I7,n7⟩:=q7;exact again I7 n7
  | brk=>obtain⟨σ7,H7,I7,q7⟩:=q7;exact⟨σ7,H7,I7.unpinned,q7⟩
  | ret v=>obtain⟨x7,σ7,H7,I7,r7,q7⟩:=q7;exact⟨x7,σ7,H7,I7.unpinned,r7,q7⟩
end
end L2
namespace L2
open PySem PySem.Spec PyProof.Rows
abbrev R2:=V->V->Hp->VK->Prop
noncomputable def OpR (X:Cx) (f:Value->Value->Sem Value) (r:R2):Prop :=
 ∀(pins:List (Addr×Obj)) (s:y04) (σ:St) (H:Hp) (x y:V) (v u:Value) (Q:VK),Inv X pins σ H s->RelV x v->RelV y u->r x y H Q ->
  y0u (y33 X.prog X.w) X.A (f v u) (EP X pins σ Q) X.xe s
noncomputable def UnR (X:Cx) (f:Value->Sem Value) (r:V->Hp->VK->Prop):Prop :=
 ∀(pins:List (Addr×Obj)) (s:y04) (σ:St) (H:Hp) (x:V) (v:Value) (Q:VK),Inv X pins σ H s->RelV x v->r x H Q ->
  y0u (y33 X.prog X.w) X.A (f v) (EP X pins σ Q) X.xe s
noncomputable def z3x (X:Cx) (f:Value) (r:List V->Hp->VK->Prop):Prop :=
 ∀(pins:List (Addr×Obj)) (s:y04) (σ:St) (H:Hp) (xs:List V) (us:List Value) (Q:VK),Inv X pins σ H s->Vals xs us->r xs H Q ->
  y0u (y33 X.prog X.w) X.A (call f us) (EP X pins σ Q) X.xe s
def tOp (r:R2) (ta tb:TE):TE:=fun σ H Q=>ta σ H fun x H1=>tb σ H1 fun y H2=>r x y H2 Q
def tUn (r:V->Hp->VK->Prop) (ta:TE):TE:=fun σ H Q=>ta σ H fun x H1=>r x H1 Q
def rI (C:Int->Int->Prop) (g:Int->Int->V):R2:=fun x y H Q=>∃i j,x=.int i/\y=.int j/\C i j/\Q (g i j) H
def rI0 (g:Int->Int->V):R2:=fun x y H Q=>∃i j,x=.int i/\y=.int j/\Q (g i j) H
def rU (g:Int->V):V->Hp->VK->Prop:=fun x H Q=>∃i,x=.int i/\Q (g i) H
section
variable {X:Cx} {a b c:Expr} {ta tb tc:TE} {pos:Pos}
theorem binT (ha:PE X a ta) (hb:PE X b tb) {pins:List (Addr×Obj)} {s:y04} {σ:St} {H:Hp} {R:V->V->Hp->Prop} (I:Inv X pins σ H s)
  (h:ta σ H fun x H1=>tb σ H1 fun y H2=>R x y H2) {Q:Value->y04->Prop} {f:Value->Value->Sem Value}
  (hf:∀v u s2 x y H2,Inv X pins σ H2 s2->RelV x v->RelV y u->R x y H2->y0u (y33 X.prog X.w) X.A (f v u) Q X.xe s2) :
  y0u (y33 X.prog X.w) X.A (eval a X.env) (fun v s₁=>y0u (y33 X.prog X.w) X.A (eval b X.env) (fun u s₂=>y0u (y33 X.prog X.w) X.A (f v u) Q X.xe s₂) X.xe s₁) X.xe s:=by
 refine thn (ha pins s σ H _ I h) fun v s1 ⟨x,H1,I1,r1,q1⟩=>?_
 refine thn (hb pins s1 σ H1 _ I1 q1) fun u s2 ⟨y,H2,I2,r2,q2⟩=>?_
 exact hf v u s2 x y H2 I2 r1 r2 q2
theorem zdd {op:Operator} {r:R2} (ho:OpR X (y31 op) r) (ha:PE X a ta) (hb:PE X b tb):PE X (.BinOp a op b pos) (tOp r ta tb):=by
 intro pins s σ H Q I h
 exact wpAny_BinOp (binT ha hb I h fun v u s2 x y H2 I2 rx ry q=>ho pins s2 σ H2 x y v u Q I2 rx ry q)
theorem zro {op:UnaryOp} {r:V->Hp->VK->Prop} (ho:UnR X (unaryOp op) r) (ha:PE X a ta):PE X (.UnaryOp op a pos) (tUn r ta):=by
 intro pins s σ H Q I h
 exact UnaryOp_ (thn (ha pins s σ H _ I h) fun v s1 ⟨x,H1,I1,r1,q1⟩=>ho pins s1 σ H1 x v Q I1 r1 q1)
theorem opI {f:Value->Value->Sem Value} {C:Int->Int->Prop} {g:Int->Int->Int}
  (rule:∀(i j:Int) (t u:Tok) (s:y04) (Q:Value->y04->Prop) (E:Value->y04->Prop),C i j->Q (.int (g i j) s.toks) { s with toks:=s.toks+1 }->y0u (y33 X.prog X.w) X.A (f (.int i t) (.int j u)) Q E s) :
  OpR X f (rI C fun i j=>.int (g i j)):=by
 intro pins s σ H x y v u Q I rx ry h
 obtain⟨i,j,rfl,rfl,hc,q⟩:=h
 obtain⟨t,rfl⟩:=rx
 obtain⟨t',rfl⟩:=ry
 exact rule i j t t' s _ _ hc ⟨.int (g i j),H,I.tok _,⟨_,rfl⟩,q⟩
theorem opI0 {f:Value->Value->Sem Value} {g:Int->Int->Int}
  (rule:∀(i j:Int) (t u:Tok) (s:y04) (Q:Value->y04->Prop) (E:Value->y04->Prop),Q (.int (g i j) s.toks) { s with toks:=s.toks+1 }->y0u (y33 X.prog X.w) X.A (f (.int i t) (.int j u)) Q E s) :
  OpR X f (rI0 fun i j=>.int (g i j)):=by
 intro pins s σ H x y v u Q I rx ry h
 obtain⟨i,j,rfl,rfl,q⟩:=h
 obtain⟨t,rfl⟩:=rx
 obtain⟨t',rfl⟩:=ry
 exact rule i j t t' s _ _ ⟨.int (g i j),H,I.tok _,⟨_,rfl⟩,q⟩
theorem opB0 {f:Value->Value->Sem Value} {g:Int->Int->Bool}
  (rule:∀(i j:Int) (t u:Tok) (s:y04) (Q:Value->y04->Prop) (E:Value->y04->Prop),Q (.bool (g i j)) s->y0u (y33 X.prog X.w) X.A (f (.int i t) (.int j u)) Q E s) :
  OpR X f (rI0 fun i j=>.bl (g i j)):=by
 intro pins s σ H x y v u Q I rx ry h
 obtain⟨i,j,rfl,rfl,q⟩:=h
 obtain⟨t,rfl⟩:=rx
 obtain⟨t',rfl⟩:=ry
 exact rule i j t t' s _ _ ⟨.bl (g i j),H,I,rfl,q⟩
def CDiv (i j:Int):Prop:=0<j/\j<1073741824
def CMul (i j:Int):Prop:=(-(2 ^ 64)<i/\i<2 ^ 64)\/(-(2 ^ 64)<j/\j<2 ^ 64)
theorem CMul.ok {i j:Int} (h:CMul i j):IntMulOk i j:=by
 rcases h with ⟨h1,h2⟩|⟨h1,h2⟩
 ·exact .of_left (intBits_le_64 h1 h2)
 ·exact .of_right (intBits_le_64 h1 h2)
theorem zui:OpR X (y31 .Add) (rI0 fun i j=>.int (i+j)):=opI0 fun _ _ _ _ _ _ _ q=>add_int q
theorem zue:OpR X (y31 .Sub) (rI0 fun i j=>.int (i - j)):=opI0 fun _ _ _ _ _ _ _ q=>sub_int q
theorem zuf:OpR X (y31 .Mult) (rI CMul fun i j=>.int (i*j)):=opI fun _ _ _ _ _ _ _ hc q=>mul_int q hc.ok
theorem zrz:OpR X (y31 .FloorDiv) (rI CDiv fun i j=>.int (i / j)):=opI fun i j _ _ _ _ _ hc q=>by
 have h1:(0:Int)<j:=hc.1
 have h2:j<1073741824:=hc.2
 exact floordiv_int (by omega) (by rw[Int.fdiv_eq_ediv_of_nonneg i (by omega)];exact q) (.inl (PyProof.noPylong_small (by omega)))
theorem zug:OpR X (y31 .Mod) (rI (fun _ j=>0<j) fun i j=>.int (i % j)):=opI fun i j _ _ _ _ _ hc q=>by
 have h1:(0:Int)<j:=hc
 exact mod_int' (by omega) (by rw[Int.fmod_eq_emod_of_nonneg i (by omega)];exact q)
theorem unI {f:Value->Sem Value} {g:Int->Int}
  (rule:∀(i:Int) (t:Tok) (s:y04) (Q:Value->y04->Prop) (E:Value->y04->Prop),Q (.int (g i) s.toks) { s with toks:=s.toks+1 }->y0u (y33 X.prog X.w) X.A (f (.int i t)) Q E s) :
  UnR X f (rU fun i=>.int (g i)):=by
 intro pins s σ H x v Q I rx h
 obtain⟨i,rfl,q⟩:=h
 obtain⟨t,rfl⟩:=rx
 exact rule i t s _ _ ⟨.int (g i),H,I.tok _,⟨_,rfl⟩,q⟩
theorem zju:UnR X (unaryOp .USub) (rU fun i=>.int (-i)):=unI fun _ _ _ _ _ q=>neg_int q
end
noncomputable def scal:V->V->Bool
 | .non,.non=>true|.non,.int _=>true|.int _,.non=>true|.non,.bl _=>true|.bl _,.non=>true|.non,.str _=>true|.str _,.non=>true
 | .int _,.int _=>true|.bl _,.bl _=>true|.str _,.str _=>true|.byt _,.byt _=>true
 | .int _,.str _=>true|.str _,.int _=>true|.bl _,.str _=>true|.str _,.bl _=>true
 | _,_=>false
def rEq:R2:=fun x y H Q=>scal x y=true/\Q (.bl (decide (x=y))) H
theorem zsr {i j:Int}:decide (V.int i=V.int j)=(i == j):=by
 rw[Bool.eq_iff_iff]
 simp
theorem zv7 {i j:Bool}:decide (V.bl i=V.bl j)=(i == j):=by
 rw[Bool.eq_iff_iff]
 simp
theorem zsq {i j:Str}:decide (V.str i=V.str j)=(i == j):=by
 rw[Bool.eq_iff_iff]
 simp
theorem zss {i j:Array UInt8}:decide (V.byt i=V.byt j)=(i.toList == j.toList):=by
 rw[Bool.eq_iff_iff]
 cases i
 cases j
 simp
section
variable {X:Cx} {a b c:Expr} {ta tb tc:TE} {pos:Pos}
theorem z27 {pins:List (Addr×Obj)} {σ:St} {H:Hp} {s:y04} {Q:VK} {k k':Bool} (I:Inv X pins σ H s) (q:Q (.bl k) H) (e:k=k'):EP X pins σ Q (.bool k') s:=by
 subst e
 exact⟨.bl k,H,I,rfl,q⟩
theorem zw7:OpR X (y2p .Eq) rEq:=by
 intro pins s σ H x y v u Q I rx ry h
 obtain⟨hs,q⟩:=h
 cases x with
 | non =>
  cases rx
  cases y with
  | non=>cases ry;exact PySem.EqNone.eq_none_none (z27 I q (by simp))
  | bl j=>cases ry;exact PySem.EqNone.eq_none_bool (z27 I q (by simp))
  | int j=>obtain⟨t',rfl⟩:=ry;exact PySem.EqNone.eq_none_int (z27 I q (by simp))
  | str j=>obtain⟨t',rfl⟩:=ry;exact PySem.EqNone.eq_none_str (z27 I q (by simp))
  | _=>exact absurd (show false=true from hs) y22
 | bl i =>
  cases rx
  cases y with
  | non=>cases ry;exact PySem.EqNone.eq_bool_none (z27 I q (by simp))
  | bl j=>cases ry;exact eq_bool (z27 I q zv7)
  | str j=>obtain⟨t',rfl⟩:=ry;exact PySem.EqMixed.eq_bool_str (z27 I q (by simp))
  | _=>exact absurd (show false=true from hs) y22
 | int i =>
  obtain⟨t,rfl⟩:=rx
  cases y with
  | non=>cases ry;exact PySem.EqNone.eq_int_none (z27 I q (by simp))
  | int j=>obtain⟨t',rfl⟩:=ry;exact eq_int (z27 I q zsr)
  | str j=>obtain⟨t',rfl⟩:=ry;exact PySem.EqMixed.eq_int_str (z27 I q (by simp))
  | _=>exact absurd (show false=true from hs) y22
 | str i =>
  obtain⟨t,rfl⟩:=rx
  cases y with
  | non=>cases ry;exact PySem.EqNone.eq_str_none (z27 I q (by simp))
  | bl j=>cases ry;exact PySem.EqMixed.eq_str_bool (z27 I q (by simp))
  | int j=>obtain⟨t',rfl⟩:=ry;exact PySem.EqMixed.eq_str_int (z27 I q (by simp))
  | str j=>obtain⟨t',rfl⟩:=ry;exact eq_str (z27 I q zsq)
  | _=>exact absurd (show false=true from hs) y22
 | byt i =>
  obtain⟨t,rfl⟩:=rx
  cases y with
  | byt j=>obtain⟨t',rfl⟩:=ry;exact PySem.W.eq_bytes (z27 I q zss)
  | _=>exact absurd (show false=true from hs) y22
 | _=>cases y <;> exact absurd (show false=true from hs) y22
theorem zuh:OpR X (y2p .Lt) (rI0 fun i j=>.bl (decide (i<j))):=opB0 fun _ _ _ _ _ _ _ q=>lt_int q
theorem zon:OpR X (y2p .LtE) (rI0 fun i j=>.bl (decide (i<=j))):=opB0 fun _ _ _ _ _ _ _ q=>le_int q
theorem zdh:OpR X (y2p .Gt) (rI0 fun i j=>.bl (decide (j<i))):=opB0 fun _ _ _ _ _ _ _ q=>gt_int q
theorem zw6:OpR X (y2p .GtE) (rI0 fun i j=>.bl (decide (j<=i))):=opB0 fun _ _ _ _ _ _ _ q=>ge_int q
theorem zdg:OpR X (y2p .Lt) (fun x y H Q=>∃i j,x=.str i/\y=.str j/\Q (.bl (decide (i.cps.toList<j.cps.toList))) H):=by
 intro pins s σ H x y v u Q I rx ry h
 obtain⟨i,j,rfl,rfl,q⟩:=h
 obtain⟨t,rfl⟩:=rx
 obtain⟨t',rfl⟩:=ry
 exact lt_str (z27 I q rfl)
theorem OpR.or {f:Value->Value->Sem Value} {r r':R2} (h:OpR X f r) (h':OpR X f r'):OpR X f (fun x y H Q=>r x y H Q\/r' x y H Q):=by
 intro pins s σ H x y v u Q I rx ry q
 rcases q with q|q
 ·exact h pins s σ H x y v u Q I rx ry q
 ·exact h' pins s σ H x y v u Q I rx ry q
theorem zlb (b:Expr) {op:CmpOp} (h:op≠.In:=by decide) (h2:op≠.NotIn:=by decide):y2v op b=false:=by
 have e1:(op == CmpOp.In)=false:=by cases op <;> first|rfl|exact absurd rfl h
 have e2:(op == CmpOp.NotIn)=false:=by cases op <;> first|rfl|exact absurd rfl h2
 cases b <;> simp[y2v,e1,e2]
theorem zrr {op:CmpOp} {r:R2} (ho:OpR X (y2p op) r) (ha:PE X a ta) (hb:PE X b tb) (hm:y2v op b=false):PE X (.Compare a [op] [b] pos) (tOp r ta tb):=by
 intro pins s σ H Q I h
 exact wpAny_Compare1 (binT ha hb I h fun v u s2 x y H2 I2 rx ry q=>ho pins s2 σ H2 x y v u Q I2 rx ry q) hm
def zr3 (t:TE):TT:=fun σ H Q=>t σ H fun x H'=>∃k,x=.bl k/\Q k H'
theorem zkr {op:CmpOp} {r:R2} (ho:OpR X (y2p op) r) (ha:PE X a ta) (hb:PE X b tb) (hm:y2v op b=false):PT X (.Compare a [op] [b] pos) (zr3 (tOp r ta tb)):=by
 intro pins s σ H Q I h
 refine wpAny_isTrue_Compare1 (thn (ha pins s σ H _ I h) fun v s1 ⟨x,H1,I1,r1,q1⟩=>thn (hb pins s1 σ H1 _ I1 q1) fun u s2 ⟨y,H2,I2,r2,q2⟩ =>
  thn (ho pins s2 σ H2 x y v u _ I2 r1 r2 q2) fun c s3 ⟨z,H3,I3,r3,k,e,q3⟩=>?_) hm
 subst e
 cases r3
 exact y2w ⟨H3,I3,q3⟩
noncomputable def zk2 (r r':R2) (ta tb tc:TE):TE:=fun σ H Q=>ta σ H fun x H1=>tb σ H1 fun y H2=>r x y H2 fun z H3=>∃k,z=.bl k /\
 (if k=true then tc σ H3 fun w' H4=>r' y w' H4 Q else Q (.bl false) H3)
theorem zoj {op op':CmpOp} {r r':R2} (ho:OpR X (y2p op) r) (ho':OpR X (y2p op') r') (ha:PE X a ta) (hb:PE X b tb) (hc:PE X c tc)
  (hm:lastMarks [op,op'] [b,c]=false:=by with_unfolding_all rfl):PE X (.Compare a [op,op'] [b,c] pos) (zk2 r r' ta tb tc):=by
 intro pins s σ H Q I h
 refine Compare_chain (thn (ha pins s σ H _ I h) fun v s1 ⟨x,H1,I1,r1,q1⟩=>chain_link (thn (hb pins s1 σ H1 _ I1 q1) fun u s2 ⟨y,H2,I2,r2,q2⟩ =>
  thn (ho pins s2 σ H2 x y v u _ I2 r1 r2 q2) fun d s3 ⟨z,H3,I3,r3,k,e,q3⟩=>?_)) hm
 subst e
 cases r3
 refine y2w ?_
 cases k with
 | false=>exact ite_ff ⟨.bl false,H3,I3,rfl,q3⟩
 | true=>exact ite_tt (chain_last (thn (hc pins s3 σ H3 _ I3 q3) fun w' s4 ⟨z',H4,I4,r4,q4⟩=>ho' pins s4 σ H4 y z' u w' Q I4 r2 r4 q4))
theorem zob {op op':CmpOp} {r r':R2} (ho:OpR X (y2p op) r) (ho':OpR X (y2p op') r') (ha:PE X a ta) (hb:PE X b tb) (hc:PE X c tc)
  (hm:lastMarks [op,op'] [b,c]=false:=by with_unfolding_all rfl):PT X (.Compare a [op,op'] [b,c] pos) (zr3 (zk2 r r' ta tb tc)):=by
 intro pins s σ H Q I h
 refine isTrue_chain (thn (ha pins s σ H _ I h) fun v s1 ⟨x,H1,I1,r1,q1⟩=>test_link (thn (hb pins s1 σ H1 _ I1 q1) fun u s2 ⟨y,H2,I2,r2,q2⟩ =>
  thn (ho pins s2 σ H2 x y v u _ I2 r1 r2 q2) fun d s3 ⟨z,H3,I3,r3,k,e,q3⟩=>?_)) hm
 subst e
 cases r3
 refine y2w ?_
 cases k with
 | false =>
  obtain⟨k',e',q'⟩:=q3
  cases e'
  exact ite_ff ⟨H3,I3,q'⟩
 | true =>
  refine ite_tt (test_last (thn (hc pins s3 σ H3 _ I3 q3) fun w' s4 ⟨z',H4,I4,r4,q4⟩=>thn (ho' pins s4 σ H4 y z' u w' _ I4 r2 r4 q4) fun d' s5 ⟨z2,H5,I5,r5,k2,e2,q5⟩=>?_))
  subst e2
  cases r5
  exact y2w ⟨H5,I5,q5⟩
theorem zdz:(y0j:Nat)<2 ^ 63:=by rw[y2n];decide
theorem zik:OpR X (y31 .Add) (fun x y H Q=>∃i j,x=.str i/\y=.str j/\i.length+j.length<=y0j/\Q (.str (i++j)) H):=by
 intro pins s σ H x y v u Q I rx ry h
 obtain⟨i,j,rfl,rfl,hz,q⟩:=h
 obtain⟨t,rfl⟩:=rx
 obtain⟨t',rfl⟩:=ry
 exact add_str (fun t' tk=>⟨.str (i++j),H,I.tok _,⟨_,rfl⟩,q⟩) hz
theorem vals1 {x:V} {us:List Value} (r:Vals [x] us):∃u,us=[u]/\RelV x u:=by
 cases r with
 | cons r1 r2=>cases r2;exact⟨_,rfl,r1⟩
theorem vals2 {x y:V} {us:List Value} (r:Vals [x,y] us):∃u w',us=[u,w']/\RelV x u/\RelV y w':=by
 cases r with
 | cons r1 r2 =>
  cases r2 with
  | cons r3 r4=>cases r4;exact⟨_,_,rfl,r1,r3⟩
theorem zmx (hc:X.calm=true):z3x X (.builtin "max") (fun xs H Q=>∃i j,xs=[.int i,.int j]/\Q (.int (if j > i then j else i)) H):=by
 intro pins s σ H xs us Q I r h
 obtain⟨i,j,rfl,q⟩:=h
 obtain⟨u,w',rfl,⟨t,rfl⟩,⟨t',rfl⟩⟩:=vals2 r
 refine max_two_ints (I.ok.hd hc) fun h' tk k=>⟨_,H,I.kept k,?_,q⟩
 by_cases hj:j > i
 ·rw[if_pos hj,if_pos hj];exact⟨_,rfl⟩
 ·rw[if_neg hj,if_neg hj];exact⟨_,rfl⟩
theorem zmw (hc:X.calm=true):z3x X (.builtin "min") (fun xs H Q=>∃i j,xs=[.int i,.int j]/\Q (.int (if j<i then j else i)) H):=by
 intro pins s σ H xs us Q I r h
 obtain⟨i,j,rfl,q⟩:=h
 obtain⟨u,w',rfl,⟨t,rfl⟩,⟨t',rfl⟩⟩:=vals2 r
 refine min_two_ints (I.ok.hd hc) fun h' tk k=>⟨_,H,I.kept k,?_,q⟩
 by_cases hj:j<i
 ·rw[if_pos hj,if_pos hj];exact⟨_,rfl⟩
 ·rw[if_neg hj,if_neg hj];exact⟨_,rfl⟩
end
end L2
namespace L2
open PySem PySem.Spec PyProof.Rows
section
variable {prog:y0q} {w:World} {A:Around} {E:Value->y04->Prop} {s:y04} {K:y00} {x dx C f:Addr} {mA:Str->Option Value} {name:Str} {v:Value}
end
section
variable {P:y0q} {w:World} {H H':Hp} {h h':Heap} {a C dx:Addr} {fs fs':List (Str×V)}
end
section
variable {X:Cx} {pins:List (Addr×Obj)} {σ:St} {H:Hp} {s:y04} {a C dx:Addr} {fs:List (Str×V)} {f:Str} {v:V} {A:Around} {E:Value->y04->Prop}
end
section
variable {X:Cx} {o e value:Expr} {f:Str} {pos pos' tpos:Pos} {ta tv:TE}
end
section
variable {X:Cx} {pins:List (Addr×Obj)} {σ:St} {H:Hp} {s:y04} {A:Around} {E:Value->y04->Prop} {Q:Value->y04->Prop} {c:Value} {b:Bool}
end
end L2
namespace L2
open PySem PySem.Spec PyProof.Rows
structure Room (k:Nat) (A:Around):Prop where
 hd:A.handled=none
 dp:A.depth+3*k+5<recursionLimit
 un:A.units+16*k+200<cLine
 gd:A.guards=some []
theorem Room.mono {j k:Nat} {A:Around} (r:Room k A) (h:j<=k):Room j A:=⟨r.hd,by have:=r.dp;omega,by have:=r.un;omega,r.gd⟩
theorem Room.deeper {k:Nat} {A:Around} (r:Room (k+1) A) (env:Env):Room k (A.deeper env) :=
 ⟨r.hd,by have:=r.dp;show A.depth+1+3*k+5<_;omega,by have:=r.un;show A.units+3+16*k+200<_;omega,r.gd⟩
theorem Room.depth {k:Nat} {A:Around} (r:Room k A):A.depth<recursionLimit:=by have:=r.dp;omega
theorem Room.units {k:Nat} {A:Around} (r:Room k A):A.units+64<cLine:=by have:=r.un;omega
def tNil:TA:=fun _ H Q=>Q [] H
def z49 (ta:TE) (tr:TA):TA:=fun σ H Q=>ta σ H fun x H1=>tr σ H1 fun xs H2=>Q (x::xs) H2
section
variable {X:Cx} {e:Expr} {es:List Expr} {te:TE} {t:TA} {pos:Pos}
theorem z34:PA X [] tNil:=fun _ _ _ _ H Q I h=>Calls.spliced_nil ⟨[],H,I,.nil,h⟩
theorem z13 (ha:PE X e te) (hr:PA X es t) (hs:y0a (e::es) X.env=(false,eval e X.env)::y0a es X.env:=by rfl):PA X (e::es) (z49 te t):=by
 intro pos pins s σ H Q I h
 rw[hs]
 show y0u _ _ (spliced ((false,eval e X.env)::y2j pos (y0a es X.env))) _ _ s
 refine Calls.spliced_cons (thn (ha pins s σ H _ I h) fun u s1 ⟨x,H1,I1,r1,q1⟩=>?_)
 exact thn (hr pos pins s1 σ H1 _ I1 q1) fun us s2 ⟨xs,H2,I2,r2,q2⟩=>⟨x::xs,H2,I2,.cons r1 r2,q2⟩
def tTup (t:TA):TE:=fun σ H Q=>t σ H fun xs H1=>xs.length<=y0j/\∀p,H1 p=none->Q (.ref p) (upd H1 p (.tup xs))
def tLst (t:TA):TE:=fun σ H Q=>t σ H fun xs H1=>xs.length<=y0j/\∀p,H1 p=none->Q (.ref p) (upd H1 p (.lst xs))
theorem zdb {x1} (h:PA X es t):PE X (.Tuple es x1 pos) (tTup t):=by
 intro pins s σ H Q I hq
 refine wpAny_Tuple_spliced (thn (h pos pins s σ H _ I hq) fun us s1 ⟨xs,H1,I1,r,z,q⟩=>⟨by rw[<- r.length];exact z,?_⟩)
 have hf:H1 s1.heap.objs.size=none:=I1.hok.fresh (y0o _)
 refine⟨.ref s1.heap.objs.size,upd H1 s1.heap.objs.size (.tup xs),I1.laid (t':=s1.toks) (fun b u e=>y03 _ e) (y0o _) ?_,rfl,q _ hf⟩
 exact⟨z,us,r,⟨_,y0l _ rfl,rfl,_,rfl⟩⟩
theorem zqg (h:PA X es t):PE X (.List es pos) (tLst t):=by
 intro pins s σ H Q I hq
 refine wpAny_List_spliced (thn (h pos pins s σ H _ I hq) fun us s1 ⟨xs,H1,I1,r,z,q⟩=>⟨by rw[<- r.length];exact z,?_⟩)
 have hf:H1 s1.heap.objs.size=none:=I1.hok.fresh (y0o _)
 refine⟨.ref s1.heap.objs.size,upd H1 s1.heap.objs.size (.lst xs),I1.laid (t':=s1.toks) (fun b u e=>y03 _ e) (y0o _) ?_,rfl,q _ hf⟩
 exact⟨z,us,0,r,y0l _ rfl⟩
end
abbrev Sp:=List V->Hp->VK->XK->Prop
abbrev CXT:=List Env->Hp->y04->XK->Value->y04->Prop
structure Env0 (P:y0q) (w:World) (K:y00) (mg:Str->Option Value) (base:Heap) (A:Around) (outer:List Env) (s:y04) (H:Hp):Prop where
 frames:A.frames=some outer
 mod:Mod K mg base
 bs:∀b o,base.get? b=some o->s.heap.get? b=some o/\H b=none
 bsz:base.objs.size<=s.heap.objs.size
 funs:s.heap.FunFrames base outer
 frf:∀b∈frs outer,H b=none
 hok:HOk P w H s.heap
 bare:AllBare s.gens
noncomputable def CE (outer:List Env) (P:y0q) (w:World) (H:Hp) (s:y04) (Q:VK) (u:Value) (s':y04):Prop :=
 ∃v H',s'.os=s.os/\AllBare s'.gens/\Un (frs outer) [] H H' s.heap s'.heap/\HOk P w H' s'.heap/\RelV v u/\Q v H'
noncomputable def CR (CX:CXT) (outer:List Env) (P:y0q) (w:World) (H:Hp) (s:y04) (Q:VK) (E:XK) (r:Result) (s':y04):Prop :=
 match r with
 | .ok (.ret u)=>CE outer P w H s Q u s'
 | .ok _=>False
 | .error e=>CX outer H s E e s'
structure FnOk (P:y0q) (w:World) (K:y00) (mg:Str->Option Value) (base:Heap) (CX:CXT) (k:Nat) (f:Addr) (fd:y0b) (ps:List Str) (sp:Sp):Prop where
 len:∀vs H Q E,sp vs H Q E->vs.length=ps.length
 run:∀(A:Around) (outer:List Env) (s:y04) (H:Hp) (args:Args) (us:List Value) (vs:List V) (Q:VK) (E:XK),Room k A->Env0 P w K mg base A outer s H->BindsTo s fd args (ps.zip us)->Vals vs us->sp vs H Q E ->
  y2x (y33 P w) A (.call (.ref f) args) (CR CX outer P w H s Q E) s
theorem FnOk.mono {P:y0q} {w:World} {K:y00} {mg:Str->Option Value} {base:Heap} {CX:CXT} {j k:Nat} {f:Addr} {fd:y0b} {ps:List Str} {sp:Sp} (F:FnOk P w K mg base CX j f fd ps sp) (h:j<=k) :
  FnOk P w K mg base CX k f fd ps sp:=⟨F.len,fun A outer s H args us vs Q E hr=>F.run A outer s H args us vs Q E (hr.mono h)⟩
theorem FnOk.imp {P:y0q} {w:World} {K:y00} {mg:Str->Option Value} {base:Heap} {CX:CXT} {k:Nat} {f:Addr} {fd:y0b} {ps:List Str} {sp sp':Sp} (F:FnOk P w K mg base CX k f fd ps sp)
  (h:∀vs H Q E,sp' vs H Q E->sp vs H Q E):FnOk P w K mg base CX k f fd ps sp' :=
 ⟨fun vs H Q E q=>F.len vs H Q E (h _ _ _ _ q),fun A outer s H args us vs Q E hr he hb hv hs=>F.run A outer s H args us vs Q E hr he hb hv (h _ _ _ _ hs)⟩
section
variable {X:Cx} {pins:List (Addr×Obj)} {σ:St} {H:Hp} {s s':y04}
theorem Inv.env0 (I:Inv X pins σ H s):Env0 X.prog X.w X.K X.mg X.base X.A X.stack s H :=
 ⟨I.ok.frames,I.ok.mod,I.bs,y1o I.ok.bsz I.sz,I.stack,I.stkFree,I.hok,I.bare⟩
theorem Inv.after {Q:VK} {u:Value} (I:Inv X pins σ H s) (h:CE X.stack X.prog X.w H s Q u s'):EP X pins σ Q u s':=by
 obtain⟨v,H',os,bare,un,hok,r,q⟩:=h
 obtain⟨hh,g,d,t,os'⟩:=s'
 obtain rfl:os'=s.os:=os
 exact⟨v,H',I.call (h':=hh) (g':=g) (d':=d) (t':=t) (ch:=[]) un hok bare (fun b z=>absurd z (by simp)),r,q⟩
end
def zvn (sp:Sp) (dvs:List V) (E:XK) (t:TA):TE:=fun σ H Q=>t σ H fun vs H1=>sp (vs++dvs) H1 Q E
def Binds (K:y00) (fd:y0b) (ps:List Str) (ds:List Value):Prop :=
 ∀(s:y04) (us:List Value),K.In s.heap->(us++ds).length=ps.length->BindsTo s fd ⟨us,[]⟩ (ps.zip (us++ds))
theorem Binds.all {K:y00} {fd:y0b} {ps:List Str} (h:∀us:List Value,us.length=ps.length->bindArgs fd ⟨us,[]⟩=pure (ps.zip us)):Binds K fd ps []:=fun s us _ hl=>by
 rw[y1x] at hl ⊢
 exact .of_eq (h us hl)
def Passes (CX:CXT) (X:Cx) (E:XK):Prop:=∀(pins:List (Addr×Obj)) (σ:St) (H:Hp) (s:y04) (e:Value) (s':y04),Inv X pins σ H s->CX X.stack H s E e s'->X.xe e s'
section
variable {X:Cx} {CX:CXT} {k:Nat} {f C:Addr} {fd:y0b} {ps:List Str} {sp:Sp} {dvs:List V} {ds:List Value} {E:XK} {x m:Str} {p pos apos:Pos} {e o:Expr} {es:List Expr} {ta:TE} {t:TA}
theorem zti {pins:List (Addr×Obj)} {σ:St} {H:Hp} {s:y04} {Q:VK} {us:List Value} {vs:List V} (F:FnOk X.prog X.w X.K X.mg X.base CX k f fd ps sp) (hr:Room k X.A) (hb:Binds X.K fd ps ds) (hd:Vals dvs ds) (hx:Passes CX X E)
  (I:Inv X pins σ H s) (r:Vals vs us) (h:sp (vs++dvs) H Q E):y0u (y33 X.prog X.w) X.A (call (.ref f) us) (EP X pins σ Q) X.xe s:=by
 have r2:Vals (vs++dvs) (us++ds):=r.append hd
 have hl:(us++ds).length=ps.length:=by rw[<- r2.length];exact F.len _ _ _ _ h
 refine y30 (y2s (F.run X.A X.stack s H ⟨us,[]⟩ (us++ds) (vs++dvs) Q E hr I.env0 (hb s us I.kIn hl) r2 h) fun r s' hq=>?_)
 cases r with
 | error e=>exact hx pins σ H s e s' I hq
 | ok fl =>
  cases fl with
  | ret u=>exact I.after hq
  | next=>exact y1w hq
  | brk=>exact y1w hq
  | cont=>exact y1w hq
theorem zky (F:FnOk X.prog X.w X.K X.mg X.base CX k f fd ps sp) (hr:Room k X.A) (hg:Gl X x) (hm:X.mg x=some (.ref f)) (hk:y08 X.K (.ref f)=true) (hb:Binds X.K fd ps ds) (hd:Vals dvs ds) (hx:Passes CX X E)
  (ha:PA X (e::es) t) (hdb:(x == ("__debug__":Str))=false:=by decide) (he:y0a (e::es) X.env=(false,eval e X.env)::y0a es X.env:=by rfl) (hpl:(y2j pos (y0a es X.env)).any (·.1)=false:=by rfl) :
  PE X (.Call (.Name x p) (e::es) [] pos) (zvn sp dvs E t):=by
 intro pins s σ H Q I h
 refine y2k (z9e I hg hm ?_ hdb)
 refine PySem.W.callWith_K (h₀:=X.base) I.ok.mod.kin hk (thn (ha pos pins s σ H _ I h) fun us s1 ⟨vs,H1,I1,r,q⟩=>⟨I1.kIn,?_⟩) he hpl
 exact zti F hr hb hd hx I1 r q
end
section
variable {X:Cx} {CX:CXT} {k:Nat} {f C:Addr} {fd:y0b} {ps ks:List Str} {sp:Sp} {E:XK} {x m:Str} {p pos apos kpos:Pos} {e o:Expr} {es:List Expr} {kws:List Keyword} {te ta:TE} {t tk:TA} {nm:Option Str}
variable {g:List Value->List Value->List Value} {gV:List V->List V->List V}
end
structure FnScope (N P:List Str) (sc:Scope):Prop where
 kind:sc.kind=.function
 co:sc.isCoroutine=false
 gen:sc.isGenerator=false
 nd:N.Nodup
 pre:N.take P.length=P
 par:∀x∈P,sc.names.lookup x=some .local\/sc.names.lookup x=some .cell
 nofree:∀y∈sc.names,y.2≠.free
theorem zen {kindOf:Str->Option y32} {x:Str}:∀{binds:List (Str×Value)} {m:Str->Option Value},(∀v,(x,v)∉binds)->bindL kindOf binds m x=m x
  | [],_,_=>rfl
  | (n,v)::r,m,h=>by
    unfold bindL
    rw[zen fun w hw=>h w (y05 _ hw)]
    split
    · have:x≠n:=by rintro rfl;exact h v y0e
      simp[this]
    · rfl
theorem zep {kindOf:Str->Option y32} {x:Str}:∀{binds:List (Str×Value)} {m:Str->Option Value},(∀v,(x,v)∉binds)->bindC kindOf binds m x=m x
  | [],_,_=>rfl
  | (n,v)::r,m,h=>by
    unfold bindC
    rw[zep fun w hw=>h w (y05 _ hw)]
    split
    · rfl
    · have:x≠n:=by rintro rfl;exact h v y0e
      simp[this]
theorem zeo {kindOf:Str->Option y32} {x:Str} {v:Value}:∀{P:List Str} {vs:List Value} {i:Nat} {m:Str->Option Value},P.Nodup->P[i]?=some x->vs[i]?=some v->kindOf x=some .local ->
  bindL kindOf (P.zip vs) m x=some v
 | [],_,_,_,_,h,_,_=>by simp at h
 | _::_,[],_,_,_,_,h,_=>by simp at h
 | p::P,w::vs,0,m,nd,h1,h2,hk=>by
  simp at h1 h2;subst h1;subst h2
  show bindL kindOf ((p,w)::P.zip vs) m p=_
  unfold bindL
  rw[zen fun v hv=>(y0r.mp nd).1 (List.of_mem_zip hv).1,if_pos hk]
  simp
 | p::P,w::vs,i+1,m,nd,h1,h2,hk=>by
  show bindL kindOf ((p,w)::P.zip vs) m x=_
  unfold bindL
  exact zeo (i:=i) (y0r.mp nd).2 (by simpa using h1) (by simpa using h2) hk
theorem zeq {kindOf:Str->Option y32} {x:Str} {v:Value}:∀{P:List Str} {vs:List Value} {i:Nat} {m:Str->Option Value},P.Nodup->P[i]?=some x->vs[i]?=some v->kindOf x≠some .local ->
  bindC kindOf (P.zip vs) m x=some v
 | [],_,_,_,_,h,_,_=>by simp at h
 | _::_,[],_,_,_,_,h,_=>by simp at h
 | p::P,w::vs,0,m,nd,h1,h2,hk=>by
  simp at h1 h2;subst h1;subst h2
  show bindC kindOf ((p,w)::P.zip vs) m p=_
  unfold bindC
  rw[zep fun v hv=>(y0r.mp nd).1 (List.of_mem_zip hv).1,if_neg hk]
  simp
 | p::P,w::vs,i+1,m,nd,h1,h2,hk=>by
  show bindC kindOf ((p,w)::P.zip vs) m x=_
  unfold bindC
  exact zeq (i:=i) (y0r.mp nd).2 (by simpa using h1) (by simpa using h2) hk
def start (N:List Str) (vs:List V):St:=vs.map some++y0g (N.length - vs.length) none
noncomputable def cxOf (CX:CXT) (P:y0q) (w:World) (K:y00) (mg:Str->Option Value) (base:Heap) (N:List Str) (qual:Str) (scope:Scope) (f:Addr) (cd:Value) (A:Around) (outer:List Env) (s:y04) (H:Hp) (E:XK):Cx where
 prog:=P
 w:=w
 K:=K
 mg:=mg
 base:=base
 A:=A.deeper (envOfC qual scope s.heap.objs.size f cd)
 N:=N
 s₀:=s
 H₀:=H
 env:=envOfC qual scope s.heap.objs.size f cd
 outer:=outer
 stack:=envOfC qual scope s.heap.objs.size f cd::outer
 ex:=[]
 calm:=true
 fn:=fun _=>true
 pn:=[]
 xe:=fun e s'=>y0u (y33 P w) (A.deeper (envOfC qual scope s.heap.objs.size f cd)) (leaving (envOfC qual scope s.heap.objs.size f cd) e) (fun _ s''=>CX outer H s E e s'') (fun e' s''=>CX outer H s E e' s'') s'
theorem zhx {sc:Scope} {n:Nat} {x:Str} (h:sc.names.lookup x=some .cell):∃c,(cellsFrom n sc.names []).lookup x=some c:=by
 have q:=PySem.W.cellsFrom_some sc.names n [] (.inl h)
 exact Option.isSome_iff_exists.mp q
theorem ze5 {CX:CXT} {P:y0q} {w:World} {K:y00} {mg:Str->Option Value} {base:Heap} {N ps:List Str} {qual:Str} {scope:Scope} {f:Addr} {cd:Value} {A:Around} {outer:List Env} {s s1:y04} {H:Hp} {E:XK} {us:List Value} {vs:List V}
  (S:FnScope N ps scope) (hd:A.handled=none) (e0:Env0 P w K mg base A outer s H) (hl:vs.length=ps.length) (r:Vals vs us)
  (x:InCallC s s.heap.objs.size (bindL (envOfC qual scope s.heap.objs.size f cd).kindOf (ps.zip us) fun _=>none) (cellsFrom (s.heap.objs.size+1) scope.names []) (bindC (envOfC qual scope s.heap.objs.size f cd).kindOf (ps.zip us) fun _=>none) s1) :
  Inv (cxOf CX P w K mg base N qual scope f cd A outer s H E) [] (start N vs) H s1:=by
 have hpl:ps.length<=N.length:=by have:=congrArg List.length S.pre;rw[List.length_take] at this;omega
 obtain⟨h1,tk,rfl,hk⟩:=x.done
 have noA:∀b:Addr,b∉(cxOf CX P w K mg base N qual scope f cd A outer s H E).ex:=fun b z=>absurd (show b∈([]:List Addr) from z) (by simp)
 refine⟨⟨e0.mod,S.kind,rfl,rfl,y0o _,fun y z c h1 h2=>?_,fun y hy=>?_,fun y c _ h=>?_,fun _=>hd,Around.frames_deeper e0.frames,.inr ⟨rfl,rfl⟩,fun b z=>absurd z (noA b),e0.bs,e0.bsz,fun b _ _=>noA b,fun b z=>absurd z (noA b),e0.funs,e0.frf⟩,
  rfl,e0.bare,Un.kept hk,⟨_,x.toInCall.ns,fun i y v h1 h2 h3=>?_⟩,fun y c h=>⟨_,x.cell y c h⟩,e0.hok.fresh (y0o _),fun y c h=>?_,fun p hp=>absurd (show p∈([]:List (Addr×Obj)) from hp) (by simp),e0.hok.kept hk,?_⟩
 ·exact name_of_addr x.apart (y29 h1) (y29 h2)
 ·have hy:scope.names.lookup y=some .cell\/scope.names.lookup y=some .free:=hy
  rcases hy with hy|hy
  ·exact zhx hy
  ·exact absurd rfl (S.nofree _ (y29 hy))
 ·exact Nat.le_of_lt (x.above y c (y29 h))
 ·have hi:i<vs.length:=by
   unfold start at h2
   by_cases hi:i<vs.length
   ·exact hi
   ·rw[y1l (by simpa using hi)] at h2
    rw[List.getElem?_replicate] at h2
    split at h2 <;> cases h2
  have ha:vs[i]?=some v:=by
   unfold start at h2
   rw[y1m (by simpa using hi),y14] at h2
   cases e:vs[i]? with
   | none=>rw[e] at h2;cases h2
   | some a=>rw[e] at h2;cases h2;rfl
  obtain⟨u,hu,rv⟩:=r.get ha
  have hp:ps[i]?=some y:=by
   rw[<- S.pre,List.getElem?_take_of_lt (by omega)];exact h1
  have ndP:ps.Nodup:=by rw[<- S.pre];exact S.nd.sublist (List.take_sublist _ _)
  refine⟨u,rv,?_⟩
  rcases S.par y (List.mem_of_getElem? hp) with k|k
  ·exact .inl ⟨k,zeo ndP hp hu k⟩
  ·obtain⟨c,e⟩:=zhx (n:=s.heap.objs.size+1) k
   refine .inr ⟨.inl k,c,e,?_⟩
   have q:=x.cell y c e
   rw[zeq ndP hp hu (by show scope.names.lookup y≠_;rw[k];decide)] at q
   exact q
 ·exact e0.hok.fresh (Nat.le_of_lt (x.above y c (y29 h)))
 ·unfold start
  show _=N.length
  rw[y21,y13,List.length_replicate]
  omega
theorem zsi {CX:CXT} {P:y0q} {w:World} {K:y00} {mg:Str->Option Value} {base:Heap} {k:Nat} {f:Addr} {name qual:Str} {params:Arguments} {body:List Stmt} {scope:Scope} {dV kV doc pm cdv ct oc:Value} {an od:Option Addr}
  {osl:Array (Option Value)} {N ps:List Str} {sp:Sp} (lk:K.lookup f=some ⟨oc,od,.func (y0i name qual params body scope dV kV doc pm an cdv ct),osl⟩) (hcd:y0f K cdv qual=true) (S:FnScope N ps scope)
  (len:∀vs H Q E,sp vs H Q E->vs.length=ps.length)
  (hbody:∀(A:Around) (outer:List Env) (s:y04) (H:Hp) (vs:List V) (Q:VK) (E:XK),Room k (A.deeper (envOfC qual scope s.heap.objs.size f cdv))->sp vs H Q E ->
   ∃t,PSs (cxOf CX P w K mg base N qual scope f cdv A outer s H E) body t/\t { nx:=fun _ H'=>Q .non H',rt:=Q } (start N vs) H) :
  FnOk P w K mg base CX (k+1) f (y0i name qual params body scope dV kV doc pm an cdv ct) ps sp:=by
 refine⟨len,fun A outer s H args us vs Q E hr e0 hb r hsp=>?_⟩
 have hl:=len _ _ _ _ hsp
 have KX:K.In s.heap:=e0.mod.kin.keeps fun b o e=>(e0.bs b o e).1
 have lim:s.heap.NoLimit:=e0.mod.nolimit.keeps fun b o e=>(e0.bs b o e).1
 have hkind:∀y∈ps.zip us,scope.names.lookup y.1=some .local\/(scope.names.lookup y.1=some .cell/\((cellsFrom (s.heap.objs.size+1) scope.names []).lookup y.1).isSome=true):=fun⟨n,v⟩ hy=>by
  rcases S.par n (List.of_mem_zip hy).1 with q|q
  ·exact .inl q
  ·exact .inr ⟨q,PySem.W.cellsFrom_some _ _ _ (.inl q)⟩
 refine codeAny_call_function hr.depth (KX _ _ lk) rfl S.co S.gen rfl (PySem.W.codeRec_of KX hcd) (hb _ _ _ _ ?_)
 refine wpAny_newFunctionEnv_cells S.kind hkind fun env he s1 x=>?_
 subst he
 refine⟨lim.keeps x.toInCall.keep,codeAny_func ?_⟩
 obtain⟨t,ht,hq⟩:=hbody A outer s H vs Q E (hr.deeper _) hsp
 have I:Inv (cxOf CX P w K mg base N qual scope f cdv A outer s H E) [] (start N vs) H s1:=ze5 S hr.hd e0 hl r x
 refine y1d (ht [] s1 (start N vs) H _ I hq) (fun fl s' hs=>?_) fun e s' hs=>hs
 have fin:∀{σ':St} {H':Hp} {v:V} {u:Value},Inv (cxOf CX P w K mg base N qual scope f cdv A outer s H E) [] σ' H' s'->RelV v u->Q v H'->CE outer P w H s Q u s' :=
  fun {σ' H' v u} J rv q=>⟨v,H',J.os,J.bare,J.base,J.hok,rv,q⟩
 cases fl with
 | ret u =>
  obtain⟨v,σ',H',J,rv,q⟩:=hs
  exact fin J rv q
 | next =>
  obtain⟨σ',H',J,q⟩:=hs
  exact fin (v:=V.non) (u:=Value.none) J rfl q
 | brk =>
  obtain⟨_,_,_,q⟩:=hs
  exact y1w q
 | cont =>
  obtain⟨_,_,_,q⟩:=hs
  exact y1w q
end L2
namespace L2
open PySem PySem.Spec PyProof.Rows
section
variable {X:Cx} {x:Str} {p pos:Pos} {e:Expr} {es:List Expr} {t:TA} {id T:String} {r:List V->Hp->VK->Prop}
def tCB (r:List V->Hp->VK->Prop) (t:TA):TE:=fun σ H Q=>t σ H fun vs H1=>r vs H1 Q
theorem z42 (hc:z3x X (.builtin id) r) (hg:Gl X x) (hm:X.mg x=none) (hv:bootBuiltins x=some (.builtin id)) (ha:PA X (e::es) t) (hn:x≠"__name__":=by decide) (hdb:(x == ("__debug__":Str))=false:=by decide)
  (he:y0a (e::es) X.env=(false,eval e X.env)::y0a es X.env:=by rfl) (hpl:(y2j pos (y0a es X.env)).any (·.1)=false:=by rfl):PE X (.Call (.Name x p) (e::es) [] pos) (tCB r t):=by
 intro pins s σ H Q I h
 refine y2k (z9f I hg hm hv ?_ hn hdb)
 exact PyProof.Rows.callWith_builtin1 (thn (ha pos pins s σ H _ I h) fun us s1 ⟨vs,H1,I1,r1,q1⟩=>hc pins s1 σ H1 vs us Q I1 r1 q1) he hpl
theorem z5b (hc:z3x X (.type T) r) (hg:Gl X x) (hm:X.mg x=none) (hv:bootBuiltins x=some (.type T)) (ha:PA X (e::es) t) (hn:x≠"__name__":=by decide) (hdb:(x == ("__debug__":Str))=false:=by decide)
  (he:y0a (e::es) X.env=(false,eval e X.env)::y0a es X.env:=by rfl) (hpl:(y2j pos (y0a es X.env)).any (·.1)=false:=by rfl):PE X (.Call (.Name x p) (e::es) [] pos) (tCB r t):=by
 intro pins s σ H Q I h
 refine y2k (z9f I hg hm hv ?_ hn hdb)
 exact y1s (thn (ha pos pins s σ H _ I h) fun us s1 ⟨vs,H1,I1,r1,q1⟩=>hc pins s1 σ H1 vs us Q I1 r1 q1) he hpl
end
end L2
namespace HT
open PySem PyProof.Rows
section
open PySem.SeqAt
open PySem.AutoSeq1 (wpAny_loadPart')
open PySem.MeetsSeq PySem.MeetsSeq2 PySem.MeetsSeq3
end
section
variable {prog:y0q} {w:World} {A:Around} {E:Value->y04->Prop} {s:y04}
theorem cat_tup {t b:Addr} {vs ws:List Value} {Q:Value->y04->Prop} (ht:IsTup s.heap t vs.toArray) (hb:IsTup s.heap b ws.toArray) (hv:vs≠[])
  (h1:ws=[]->Q (.ref t) s) (h2:ws≠[]->Q (.ref s.heap.objs.size) { s with heap:=s.heap.push { cls:=.type "tuple",data:=.seq (vs++ws).toArray } })
  (hsz:vs.length+ws.length<=y0j):y0u (y33 prog w) A (y31 .Add (.ref t) (.ref b)) Q E s:=by
 obtain⟨⟨cls,dd,data,sl⟩,ho,hc,n,hd⟩:=id ht
 obtain⟨⟨cls2,dd2,data2,sl2⟩,ho2,hc2,n2,hd2⟩:=id hb
 simp only at hc hd hc2 hd2
 subst hc hd hc2 hd2
 have e:vs.toArray++ws.toArray=(vs++ws).toArray:=by simp
 by_cases hw:ws=[]
 ·exact concat_meets ⟨_,ho,rfl⟩ ⟨_,ho2,rfl⟩ noFill_tuple_add seq_tuple_add PySem.F.slot_tuple_add PySem.F.entry_tuple_add (PySem.F.args_tuple_add_2 _ _)
   (tuple_addW1 t b vs.toArray ws.toArray n n2 dd dd2 sl sl2 (by simpa using hv) (by simp[hw])) ⟨ho,ho2,h1 hw⟩
 ·refine concat_meets ⟨_,ho,rfl⟩ ⟨_,ho2,rfl⟩ noFill_tuple_add seq_tuple_add PySem.F.slot_tuple_add PySem.F.entry_tuple_add (PySem.F.args_tuple_add_2 _ _)
   (tuple_addW2 t b vs.toArray ws.toArray n n2 dd dd2 sl sl2 (by simpa using hv) (by simpa using hw) (by rw[y0h,y0h];exact hsz)) ⟨ho,ho2,?_⟩
  rw[e]
  exact h2 hw
def sIx (n d:Nat):Option Int->Nat
 | none=>d
 | some v=>if v<0 then (v+(n:Int)).toNat else min v.toNat n
theorem zd3 (n d:Nat) (hd:d<=n) (o:Option Int):sIx n d o<=n:=by
 cases o with
 | none=>exact hd
 | some v =>
  show (if v<0 then (v+(n:Int)).toNat else min v.toNat n)<=n
  by_cases hv:v<0
  ·rw[if_pos hv];omega
  ·rw[if_neg hv];exact Nat.min_le_right _ _
theorem zms (v:Int) (n d:Nat):(if v<0 then max (v+(n:Int)) 0 else min v (n:Int))=((sIx n d (some v):Nat):Int):=by
 show (if v<0 then max (v+(n:Int)) 0 else min v (n:Int))=(((if v<0 then (v+(n:Int)).toNat else min v.toNat n):Nat):Int)
 by_cases hv:v<0
 ·simp only[if_pos hv];omega
 ·simp only[if_neg hv];omega
theorem zjr (lo hi:Option Int) (n:Nat):Builtin.Slice.sliceAdjust lo hi 1 (n:Int)=(((sIx n 0 lo:Nat):Int),((sIx n n hi:Nat):Int)):=by
 have h1:¬((1:Int)<0):=by omega
 unfold Builtin.Slice.sliceAdjust
 simp only[h1,if_false]
 refine Prod.ext ?_ ?_
 ·cases lo with
  | none=>rfl
  | some v=>exact zms v n 0
 ·cases hi with
  | none=>rfl
  | some v=>exact zms v n n
theorem zii (i j:Nat):y1j (i:Int) (j:Int) 1=j - i:=by
 unfold y1j
 have h1:(1:Int) > 0:=by omega
 simp only[h1,if_true,Int.ediv_one]
 split <;> omega
theorem zao {v:Value} {o:Option Int} {Q:Option Int->y04->Prop} (p:IsPart v o) (h:Q o s):y0u (y33 prog w) A (Builtin.Slice.slicePartIndex v) Q E s:=by
 cases p with
 | none=>exact slicePart_none h
 | int i t=>exact slicePart_int h
theorem sliceApplied_gen {sl:Addr} {vl vu:Value} {lo hi:Option Int} {n:Nat} {Q:Int×Int×Nat->y04->Prop} (hs:s.heap.IsSliceOf sl vl vu .none) (pl:IsPart vl lo) (pu:IsPart vu hi)
  (h:Q (((sIx n 0 lo:Nat):Int),1,sIx n n hi - sIx n 0 lo) s):y0u (y33 prog w) A (Builtin.Slice.sliceApplied (.ref sl) (pure (n:Int))) Q E s:=by
 obtain⟨os,hos,hcs,hds⟩:=id hs
 unfold Builtin.Slice.sliceApplied Builtin.Slice.sliceFields
 refine y02 (y02 (y2l hos hds (x:=vl) rfl (y02 (y2l hos hds (x:=vu) rfl (y02 (y2l hos hds (x:=.none) rfl (y06 ?_)))))))
 refine y02 (slicePart_none ?_)
 show y0u _ _ (if ((1:Int) == 0)=true then _ else _) _ _ s
 rw[if_neg (by decide)]
 refine y02 (zao pl (y02 (zao pu (y02 (y06 ?_)))))
 show y0u _ _ (match Builtin.Slice.sliceAdjust lo hi 1 (n:Int) with|(lo,hi)=>pure (lo,(1:Int),y1j lo hi 1)) _ _ s
 rw[zjr lo hi n]
 show y0u _ _ (pure (((sIx n 0 lo:Nat):Int),(1:Int),y1j ((sIx n 0 lo:Nat):Int) ((sIx n n hi:Nat):Int) 1)) _ _ s
 rw[zii]
 exact y06 h
theorem zof (xs:Array Value) (i k:Nat):((List.range k).filterMap fun (m:Nat)=>xs[((i:Int)+(m:Int)*1).toNat]?).toArray=((xs.toList.drop i).take k).toArray:=by
 have e:(fun (m:Nat)=>xs[((i:Int)+(m:Int)*1).toNat]?)=fun m=>xs[i+m]?:=by
  funext m
  have:((i:Int)+(m:Int)*1).toNat=i+m:=by omega
  rw[this]
 rw[e]
 have:=pick_run xs i k
 rw[List.filterMap_map] at this
 have e2:((fun x=>xs[x]?) ∘ fun x=>i+x)=fun m=>xs[i+m]?:=rfl
 rw[e2] at this
 rw[this]
theorem getItem_tuple_cut {t sl:Addr} {items:Array Value} {vl vu:Value} {lo hi:Option Int} {Q:Value->y04->Prop} (ht:IsTup s.heap t items) (hs:s.heap.IsSliceOf sl vl vu .none) (pl:IsPart vl lo) (pu:IsPart vu hi)
  (hw:¬(sIx items.size 0 lo=0/\sIx items.size items.size hi=items.size))
  (h:Q (.ref s.heap.objs.size) { s with heap:=s.heap.push { cls:=.type "tuple",data:=.seq ((items.toList.drop (sIx items.size 0 lo)).take (sIx items.size items.size hi - sIx items.size 0 lo)).toArray } })
  (hsz:items.size<=y0j):y0u (y33 prog w) A (getItem (.ref t) (.ref sl)) Q E s:=by
 have htake:sizeOk (.seq ((items.toList.drop (sIx items.size 0 lo)).take (sIx items.size items.size hi - sIx items.size 0 lo)).toArray):=by
  show ((items.toList.drop (sIx items.size 0 lo)).take (sIx items.size items.size hi - sIx items.size 0 lo)).toArray.size<=y0j
  rw[y0h,List.length_take,List.length_drop,y1y]
  omega
 have hj:sIx items.size items.size hi<=items.size:=zd3 _ _ (y0o _) hi
 obtain⟨os,hos,hcs,hds⟩:=id hs
 have hTs:s.TypeIs (.ref sl) "slice":=⟨os,hos,hcs⟩
 unfold getItem
 try with_reducible refine y2i ?_
 first|refine y02 (y06 ?_)|skip
 refine y02 (wpAny_sequenceKey ht.typeIs (by decide) ?_)
 refine y02 (y2m (name:=Str.ofString "__getitem__") ht.typeIs y1h
  (y2t y1h ht.typeIs entry_tuple_getitem ?_ (args_tuple_getitem _ _)))
 show y0u _ _ (Builtin.Tuple.tupleItemsOf (.ref t) >>= _) _ _ s
 refine y02 (tupleItemsOf_ ht ?_)
 refine y02 (wpAny_typeOf hTs ?_)
 rw[if_pos (by decide)]
 refine y02 (sliceApplied_gen hs pl pu ?_)
 have hno:¬((((sIx items.size 0 lo:Nat):Int) == 0 && (1:Int) == 1 && (sIx items.size items.size hi - sIx items.size 0 lo) == items.size)=true):=by
  intro q
  rw[y1b,y1b] at q
  have q1:((sIx items.size 0 lo:Nat):Int)=0:=eq_of_beq q.1.1
  have q2:sIx items.size items.size hi - sIx items.size 0 lo=items.size:=eq_of_beq q.2
  exact hw ⟨by omega,by omega⟩
 show y0u _ _ (if (((sIx items.size 0 lo:Nat):Int) == 0 && (1:Int) == 1 && (sIx items.size items.size hi - sIx items.size 0 lo) == items.size)=true then _ else _) _ _ s
 rw[if_neg hno,zof]
 first
  | exact y02 (m:=y12 _) (y2r (y06 ⟨_,rfl,y06 h⟩) htake)
  | exact y02 (m:=y12 _) (y2r (y02 (y06 (y06 ⟨_,rfl,y06 h⟩))) htake)
  | exact y02 (y02 (m:=y12 _) (y2r (y06 (y06 ⟨_,rfl,y06 h⟩)) htake))
  | exact y02 (y02 (m:=y12 _) (y2r (y06 ⟨_,rfl,y06 h⟩) htake))
end
end HT
namespace L2
open PySem PySem.Spec PyProof.Rows
abbrev TO:=St->Hp->(Option Int->Hp->Prop)->Prop
noncomputable def PO (X:Cx) (e:Option Expr) (t:TO):Prop :=
 ∀(pins:List (Addr×Obj)) (s:y04) (σ:St) (H:Hp) (Q:Option Int->Hp->Prop),Inv X pins σ H s->t σ H Q ->
  y0u (y33 X.prog X.w) X.A (evalPart e X.env) (fun u s'=>∃o H',Inv X pins σ H' s'/\IsPart u o/\Q o H') X.xe s
def zr4:TO:=fun _ H Q=>Q none H
def zvk (t:TE):TO:=fun σ H Q=>t σ H fun x H1=>∃i,x=.int i/\Q (some i) H1
section
variable {X:Cx} {e:Expr} {te:TE} {lo hi:Option Expr} {tl th:TO} {pos p2:Pos}
theorem zrk:PO X none zr4:=by
 intro pins s σ H Q I h
 rw[evalPart_none]
 exact y06 ⟨none,H,I,.none,h⟩
theorem zrj (h:PE X e te):PO X (some e) (zvk te):=by
 intro pins s σ H Q I hw
 rw[evalPart_some]
 refine thn (h pins s σ H _ I hw) fun u s1 ⟨x,H1,I1,r1,q1⟩=>?_
 obtain⟨i,rfl,q⟩:=q1
 obtain⟨t,rfl⟩:=r1
 exact⟨some i,H1,I1,.int i t,q⟩
noncomputable def SlR (X:Cx) (r:V->Option Int->Option Int->Hp->VK->Prop):Prop :=
 ∀(pins:List (Addr×Obj)) (s:y04) (σ:St) (H:Hp) (x:V) (v vl vu:Value) (lo hi:Option Int) (sl:Addr) (Q:VK),Inv X pins σ H s->RelV x v->s.heap.IsSliceOf sl vl vu .none->IsPart vl lo->IsPart vu hi->r x lo hi H Q ->
  ∃T id,typeLookup (.type T) "__getitem__"=pure (some (.builtin id))/\s.TypeIs v T/\y0u (y33 X.prog X.w) X.A (getItem v (.ref sl)) (EP X pins σ Q) X.xe s
theorem SlR.or {r r':V->Option Int->Option Int->Hp->VK->Prop} (h:SlR X r) (h':SlR X r'):SlR X (fun x lo hi H Q=>r x lo hi H Q\/r' x lo hi H Q):=by
 intro pins s σ H x v vl vu lo hi sl Q I rx hs pl pu q
 rcases q with q|q
 ·exact h pins s σ H x v vl vu lo hi sl Q I rx hs pl pu q
 ·exact h' pins s σ H x v vl vu lo hi sl Q I rx hs pl pu q
def tSl (r:V->Option Int->Option Int->Hp->VK->Prop) (te:TE) (tl th:TO):TE:=fun σ H Q=>te σ H fun x H1=>tl σ H1 fun l H2=>th σ H2 fun u H3=>r x l u H3 Q
theorem zoh {r:V->Option Int->Option Int->Hp->VK->Prop} (hr:SlR X r) (he:PE X e te) (hl:PO X lo tl) (hu:PO X hi th):PE X (.Subscript e (.Slice lo hi none p2) pos) (tSl r te tl th):=by
 intro pins s σ H Q I h
 refine Subscript_ (thn (he pins s σ H _ I h) fun v s1 ⟨x,H1,I1,r1,q1⟩=>?_)
 refine wpAny_Slice (thn (hl pins s1 σ H1 _ I1 q1) fun vl s2 ⟨l,H2,I2,pl,q2⟩=>thn (hu pins s2 σ H2 _ I2 q2) fun vu s3 ⟨u,H3,I3,pu,q3⟩=>?_)
 rw[evalPart_none]
 refine y06 ?_
 have I4:Inv X pins σ H3 { s3 with heap:=s3.heap.push { cls:=.type "slice",data:=.fields #[vl,vu,.none] } }:=I3.kept (t':=s3.toks) fun b ob q=>y03 _ q
 obtain⟨T,id,hT,ht,hg⟩:=hr pins { s3 with heap:=s3.heap.push { cls:=.type "slice",data:=.fields #[vl,vu,.none] } } σ H3 x v vl vu l u s3.heap.objs.size Q I4 r1 (Heap.IsSliceOf.new ..) pl pu q3
 show y0u (y33 X.prog X.w) X.A (subscriptTail e (.Slice lo hi none p2) v (.ref s3.heap.objs.size)) (EP X pins σ Q) X.xe { s3 with heap:=s3.heap.push { cls:=.type "slice",data:=.fields #[vl,vu,.none] } }
 exact tail_any (ops:=[.ref s3.heap.objs.size,v]) ht hT hg (by with_unfolding_all rfl)
def cutV (xs:List V) (lo hi:Option Int):List V:=(xs.drop (HT.sIx xs.length 0 lo)).take (HT.sIx xs.length xs.length hi - HT.sIx xs.length 0 lo)
theorem z9s (xs:List V) (lo hi:Option Int):(cutV xs lo hi).length<=xs.length:=by
 unfold cutV
 rw[List.length_take,List.length_drop]
 omega
noncomputable def rSlT (K:y00):V->Option Int->Option Int->Hp->VK->Prop:=fun x lo hi H Q=>∃a xs,x=.ref a/\SqT K H a xs /\
 ¬(HT.sIx xs.length 0 lo=0/\HT.sIx xs.length xs.length hi=xs.length)/\∀p,H p=none->Q (.ref p) (upd H p (.tup (cutV xs lo hi)))
theorem ztd:SlR X (rSlT X.K):=by
 intro pins s σ H x v vl vu lo hi sl Q I rx hs pl pu h
 obtain⟨a,xs,rfl,hx,hw,q⟩:=h
 cases rx
 obtain⟨its,r,ht,hz⟩:=I.tuple hx
 have hlen:its.toArray.size=xs.length:=by rw[y0h];exact r.length.symm
 refine⟨"tuple",_,PyProof.Rows.slot_tuple_getitem.lookup,ht.typeIs,?_⟩
 refine HT.getItem_tuple_cut ht hs pl pu (by rw[hlen];exact hw) ?_ (by rw[hlen];exact hz)
 rw[hlen]
 refine⟨.ref s.heap.objs.size,_,I.laid (t':=s.toks) (o:=.tup (cutV xs lo hi)) (fun b ob q=>y03 _ q) (y0o _) ?_,rfl,q _ (I.hok.fresh (y0o _))⟩
 exact⟨y1o (z9s xs lo hi) hz,_,(r.drop (HT.sIx xs.length 0 lo)).take (HT.sIx xs.length xs.length hi - HT.sIx xs.length 0 lo),IsTup.new _ _⟩
noncomputable def zvs (K:y00):R2:=fun x y H Q=>∃a b xs ys,x=.ref a/\y=.ref b/\SqT K H a xs/\SqT K H b ys/\xs≠[]/\xs.length+ys.length<=y0j /\
 (ys=[]->Q (.ref a) H)/\(ys≠[]->∀p,H p=none->Q (.ref p) (upd H p (.tup (xs++ys))))
theorem Vals.nil_iff {xs:List V} {us:List Value} (r:Vals xs us):us=[] <-> xs=[]:=by
 cases r with
 | nil=>simp
 | cons _ _=>simp
theorem zs0:OpR X (y31 .Add) (zvs X.K):=by
 intro pins s σ H x y v u Q I rx ry h
 obtain⟨a,b,xs,ys,rfl,rfl,ha,hb,hx,hz,q1,q2⟩:=h
 cases rx
 cases ry
 obtain⟨its,r1,p1,_⟩:=I.tuple ha
 obtain⟨its2,r2,p2,_⟩:=I.tuple hb
 refine HT.cat_tup p1 p2 (fun z=>hx (r1.nil_iff.mp z)) (fun z=>⟨.ref a,H,I,rfl,q1 (r2.nil_iff.mp z)⟩) (fun z=>?_) (by rw[<- r1.length,<- r2.length];exact hz)
 refine⟨.ref s.heap.objs.size,_,I.laid (t':=s.toks) (o:=.tup (xs++ys)) (fun b ob q=>y03 _ q) (y0o _) ?_,rfl,q2 (fun w=>z (r2.nil_iff.mpr w)) _ (I.hok.fresh (y0o _))⟩
 exact⟨by rw[y21];exact hz,_,r1.append r2,IsTup.new _ _⟩
end
end L2
namespace L2
open PySem PySem.Spec PyProof.Rows
def ixN (n:Nat) (i:Int):Option Nat:=if 0<=i then (if i<n then some i.toNat else none) else if -(n:Int)<=i then some (i+n).toNat else none
def atI {α:Type} (xs:List α) (i:Int):Option α:=(ixN xs.length i).bind fun j=>xs[j]?
theorem zsb {n:Nat} {i:Int} {j:Nat} (h:ixN n i=some j):seqIndex? i n=some j/\j<n/\-(n:Int)<=i/\i<n:=by
 unfold ixN at h
 by_cases h0:0<=i
 ·rw[if_pos h0] at h
  by_cases h1:i<n
  ·rw[if_pos h1] at h
   have e:i.toNat=j:=y2c h
   exact⟨by rw[seqIndex_of h0 h1,e],by omega,by omega,h1⟩
  ·rw[if_neg h1] at h;cases h
 ·rw[if_neg h0] at h
  by_cases h1:-(n:Int)<=i
  ·rw[if_pos h1] at h
   have e:(i+n).toNat=j:=y2c h
   exact⟨by rw[seqIndex_neg (by omega) h1,e],by omega,h1,by omega⟩
  ·rw[if_neg h1] at h;cases h
theorem zgx {α:Type} {xs:List α} {i:Int} {v:α} (h:atI xs i=some v):∃j,seqIndex? i xs.length=some j/\xs[j]?=some v/\j<xs.length/\-(xs.length:Int)<=i/\i<xs.length:=by
 unfold atI at h
 cases e:ixN xs.length i with
 | none=>rw[e] at h;cases h
 | some j =>
  rw[e] at h
  obtain⟨h1,h2,h3,h4⟩:=zsb e
  exact⟨j,h1,h,h2,h3,h4⟩
def zgy (b:Expr):Prop:=∀o i,subscripted b false o i=operate [o,i] (getItem o i)
noncomputable def IxR (X:Cx) (r:R2):Prop :=
 ∀(value slice:Expr) (pins:List (Addr×Obj)) (s:y04) (σ:St) (H:Hp) (x y:V) (v u:Value) (Q:VK),Inv X pins σ H s->RelV x v->RelV y u->r x y H Q ->
  subscripted slice false v u=operate [v,u] (getItem v u)->y0u (y33 X.prog X.w) X.A (subscriptTail value slice v u) (EP X pins σ Q) X.xe s
noncomputable def MtR (X:Cx) (id:String) (r:V->List V->Hp->VK->Prop):Prop :=
 ∀(pins:List (Addr×Obj)) (s:y04) (σ:St) (H:Hp) (x:V) (xs:List V) (v:Value) (us:List Value) (Q:VK),Inv X pins σ H s->RelV x v->Vals xs us->r x xs H Q ->
  y0u (y33 X.prog X.w) X.A (call (.builtin id) (v::us)) (EP X pins σ Q) X.xe s
section
variable {X:Cx} {a b:Expr} {ta tb:TE} {pos:Pos}
theorem IxR.or {r r':R2} (h:IxR X r) (h':IxR X r'):IxR X (fun x y H Q=>r x y H Q\/r' x y H Q):=by
 intro value slice pins s σ H x y v u Q I rx ry q hs
 rcases q with q|q
 ·exact h value slice pins s σ H x y v u Q I rx ry q hs
 ·exact h' value slice pins s σ H x y v u Q I rx ry q hs
theorem zw4 {r:R2} (hr:IxR X r) (ha:PE X a ta) (hb:PE X b tb) (hs:zgy b):PE X (.Subscript a b pos) (tOp r ta tb):=by
 intro pins s σ H Q I h
 exact Subscript_ (binT ha hb I h fun v u s2 x y H2 I2 rx ry q=>hr a b pins s2 σ H2 x y v u Q I2 rx ry q (hs _ _))
def rIxL (K:y00):R2:=fun x y H Q=>∃p xs i v,x=.ref p/\y=.int i/\SqL K H p xs/\atI xs i=some v/\Q v H
def rIxT (K:y00):R2:=fun x y H Q=>∃p xs i v,x=.ref p/\y=.int i/\SqT K H p xs/\atI xs i=some v/\Q v H
def rIxS:R2:=fun x y H Q=>∃z i c,x=.str z/\y=.int i/\z.length<=y0j/\atI z.cps.toList i=some c/\Q (.str ⟨#[c]⟩) H
theorem zsa:IxR X (rIxL X.K):=by
 intro value slice pins s σ H x y v u Q I rx ry h hs
 obtain⟨p,xs,i,z,rfl,rfl,hq,he,q⟩:=h
 cases rx
 obtain⟨t,rfl⟩:=ry
 obtain⟨its,r,pl,hz⟩:=I.list hq
 obtain⟨j,h1,h2,h3,h4,h5⟩:=zgx he
 obtain⟨w,ew,rw'⟩:=r.get h2
 have hl:=r.length
 have hn:=zdz
 have fin:EP X pins σ Q w s:=⟨z,H,I,rw',q⟩
 by_cases h0:0<=i
 ·have hj:i.toNat=j:=by
   rw[seqIndex_of h0 h5] at h1
   exact y2c h1
  exact item_listR pl.isList h0 (by omega) (by rw[hj];simpa using ew) fin hs
 ·have hj:(i+(its.toArray.size:Int)).toNat=j:=by
   rw[seqIndex_neg (by omega) h4] at h1
   rw[y0h,<- hl]
   exact y2c h1
  exact subscriptTail_builtinR (x:=w) pl.isList.typeIs slot_list_getitem.lookup
   (wpAny_getItem_list_neg (Q:=fun r s'=>r=w/\EP X pins σ Q r s') pl.isList (by omega) (by rw[y0h] <;> omega) (by omega) (by rw[hj];simpa using ew) ⟨rfl,fin⟩) hs
theorem zux:IxR X (rIxT X.K):=by
 intro value slice pins s σ H x y v u Q I rx ry h hs
 obtain⟨p,xs,i,z,rfl,rfl,hq,he,q⟩:=h
 cases rx
 obtain⟨t,rfl⟩:=ry
 obtain⟨its,r,pl,hz⟩:=I.tuple hq
 obtain⟨j,h1,h2,h3,h4,h5⟩:=zgx he
 obtain⟨w,ew,rw'⟩:=r.get h2
 have hl:=r.length
 have hn:=zdz
 have fin:EP X pins σ Q w s:=⟨z,H,I,rw',q⟩
 exact subscriptTail_builtinR (x:=w) pl.typeIs slot_tuple_getitem.lookup
  (getItem_tuple (j:=j) (Q:=fun r s'=>r=w/\EP X pins σ Q r s') pl (by omega) (by omega) (by rw[y0h,<- hl];exact h1) (by simpa using ew) ⟨rfl,fin⟩) hs
theorem zuy:IxR X rIxS:=by
 intro value slice pins s σ H x y v u Q I rx ry h hs
 obtain⟨z,i,c,rfl,rfl,hz,he,q⟩:=h
 obtain⟨t,rfl⟩:=rx
 obtain⟨t',rfl⟩:=ry
 obtain⟨j,h1,h2,h3,h4,h5⟩:=zgx he
 have hl:z.cps.toList.length=z.length:=by simp[Str.length]
 rw[hl] at h1 h4 h5
 have hn:=zdz
 exact tail_any (typeIs_str s z t) slot_str_getitem.lookup (getItem_str (c:=c) (by
  have e1:decide (i < -(2 ^ 63:Int))=false:=decide_eq_false (by omega)
  have e2:decide (i >= 2 ^ 63)=false:=decide_eq_false (by omega)
  rw[e1,e2,Bool.or_false]) (by rw[h1];simpa using h2) ⟨.str ⟨#[c]⟩,H,I.tok _,⟨_,rfl⟩,q⟩) hs
def rIx (K:y00):R2:=fun x y H Q=>rIxL K x y H Q\/rIxT K x y H Q\/rIxS x y H Q
theorem zuz:IxR X (rIx X.K):=zsa.or (zux.or zuy)
theorem zcu (lo hi:Option Int) (n:Nat):(sliceBounds lo hi none n).1=((HT.sIx n 0 lo:Nat):Int)/\(sliceBounds lo hi none n).2.1=((HT.sIx n n hi:Nat):Int)/\(sliceBounds lo hi none n).2.2=1:=by
 refine⟨?_,?_,rfl⟩
 ·cases lo with
  | none=>simp[sliceBounds,HT.sIx]
  | some i =>
   simp only[sliceBounds,HT.sIx,Option.getD_none,show (1:Int) > 0 by decide,if_true]
   by_cases h:i<0
   ·simp only[h,if_true] <;> omega
   ·simp only[h,if_false] <;> omega
 ·cases hi with
  | none=>simp[sliceBounds,HT.sIx]
  | some i =>
   simp only[sliceBounds,HT.sIx,Option.getD_none,show (1:Int) > 0 by decide,if_true]
   by_cases h:i<0
   ·simp only[h,if_true] <;> omega
   ·simp only[h,if_false] <;> omega
theorem zbo (its:List Value) (lo hi:Option Int):slicePick its.toArray lo hi none=((its.drop (HT.sIx its.length 0 lo)).take (HT.sIx its.length its.length hi - HT.sIx its.length 0 lo)).toArray:=by
 obtain⟨h1,h2,h3⟩:=zcu lo hi its.toArray.size
 unfold slicePick
 rw[h1,h2,h3]
 simp only[sliceRange_one,pick_run,y0h] <;> rfl
def rSlL (K:y00):V->Option Int->Option Int->Hp->VK->Prop:=fun x lo hi H Q=>∃a xs,x=.ref a/\SqL K H a xs/\∀p,H p=none->Q (.ref p) (upd H p (.lst (cutV xs lo hi)))
theorem zr8:SlR X (rSlL X.K):=by
 intro pins s σ H x v vl vu lo hi sl Q I rx hs pl pu h
 obtain⟨a,xs,rfl,hx,q⟩:=h
 cases rx
 obtain⟨its,r,ht,hz⟩:=I.list hx
 have hlen:=r.length
 refine⟨"list",_,slot_list_getitem.lookup,ht.isList.typeIs,?_⟩
 refine wpAny_getItem_list_slice ht.isList hs pl pu .none (by simp) ?_ (by rw[y0h] <;> omega)
 rw[zbo,<- hlen]
 refine⟨.ref s.heap.objs.size,_,I.laid (t':=s.toks) (o:=.lst (cutV xs lo hi)) (fun b ob q=>y03 _ q) (y0o _) ?_,rfl,q _ (I.hok.fresh (y0o _))⟩
 exact⟨y1o (z9s xs lo hi) hz,_,0,(r.drop (HT.sIx xs.length 0 lo)).take (HT.sIx xs.length xs.length hi - HT.sIx xs.length 0 lo),y0l _ rfl⟩
theorem zem:z3x X (.builtin "len") (fun xs H Q=>∃p ys,xs=[.ref p]/\(SqL X.K H p ys\/SqT X.K H p ys)/\Q (.int ys.length) H):=by
 intro pins s σ H xs us Q I r h
 obtain⟨p,ys,rfl,hq,q⟩:=h
 obtain⟨u,rfl,rx⟩:=vals1 r
 cases rx
 have hn:=zdz
 rcases hq with hq|hq
 ·obtain⟨its,r',pl,hz⟩:=I.list hq
  have hlen:=r'.length
  exact Calls.call_len_list pl.isList (by simp only[y0h] <;> omega) ⟨.int ys.length,H,I.tok _,⟨s.toks+1,by rw[y0h,hlen]⟩,q⟩
 ·obtain⟨its,r',pl,hz⟩:=I.tuple hq
  have hlen:=r'.length
  exact len_tuple pl (by simp only[y0h] <;> omega) ⟨.int ys.length,H,I.tok _,⟨s.toks+1,by rw[y0h,hlen]⟩,q⟩
theorem zel:z3x X (.builtin "len") (fun xs H Q=>∃z,xs=[.str z]/\z.length<=y0j/\Q (.int z.length) H):=by
 intro pins s σ H xs us Q I r h
 obtain⟨z,rfl,hz,q⟩:=h
 obtain⟨u,rfl,t,rfl⟩:=vals1 r
 have hn:=zdz
 exact len_str (by omega) ⟨.int z.length,H,I.tok _,⟨_,rfl⟩,q⟩
theorem z3x.or {f:Value} {r r':List V->Hp->VK->Prop} (h:z3x X f r) (h':z3x X f r'):z3x X f (fun xs H Q=>r xs H Q\/r' xs H Q):=by
 intro pins s σ H xs us Q I rs q
 rcases q with q|q
 ·exact h pins s σ H xs us Q I rs q
 ·exact h' pins s σ H xs us Q I rs q
theorem zek:z3x X (.type "list") (fun xs H Q=>∃p ys,xs=[.ref p]/\(SqL X.K H p ys\/SqT X.K H p ys)/\∀l,H l=none->Q (.ref l) (upd H l (.lst ys))):=by
 intro pins s σ H xs us Q I r h
 obtain⟨p,ys,rfl,hq,q⟩:=h
 obtain⟨u,rfl,rx⟩:=vals1 r
 cases rx
 have fin:∀(its:List Value),Vals ys its->ys.length<=y0j->∀(h':Heap) (c':Nat),(∀b o',s.heap.get? b=some o'->h'.get? b=some o') ->
   h'.get? s.heap.objs.size=some { cls:=.type "list",dict:=none,data:=.seq its.toArray c',slots:=#[] }->EP X pins σ Q (.ref s.heap.objs.size) { s with heap:=h' }:=fun its r' hz h' c' kp e =>
  ⟨.ref s.heap.objs.size,_,I.laid (t':=s.toks) kp (y0o _) (show z5s X.prog X.w _ h' _ (.lst ys) from ⟨hz,its,c',r',e⟩),rfl,q _ (I.hok.fresh (y0o _))⟩
 rcases hq with hq|hq
 ·obtain⟨its,r',pl,hz⟩:=I.list hq
  have hlen:=r'.length
  obtain⟨o,ho,hc,n,hd⟩:=pl.isList
  exact call_list_seq p (.inl rfl) ho hc hd (fun h' c' kp e=>fin its r' hz h' c' kp e) (by simp only[y0h] <;> omega)
 ·obtain⟨its,r',pl,hz⟩:=I.tuple hq
  have hlen:=r'.length
  obtain⟨o,ho,hc,n,hd⟩:=pl
  exact call_list_seq p (.inr rfl) ho hc hd (fun h' c' kp e=>fin its r' hz h' c' kp e) (by simp only[y0h] <;> omega)
theorem zca:z3x X (.type "tuple") (fun xs H Q=>∃p ys,xs=[.ref p]/\((SqL X.K H p ys/\∀l,H l=none->Q (.ref l) (upd H l (.tup ys)))\/(SqT X.K H p ys/\Q (.ref p) H))):=by
 intro pins s σ H xs us Q I r h
 obtain⟨p,ys,rfl,h⟩:=h
 obtain⟨u,rfl,rx⟩:=vals1 r
 cases rx
 rcases h with ⟨hq,q⟩|⟨hq,q⟩
 ·obtain⟨its,r',pl,hz⟩:=I.list hq
  have hlen:=r'.length
  refine call_tuple_list pl.isList (fun h' kp=>?_) (by simp only[y0h] <;> omega)
  have I1:Inv X pins σ H { s with heap:=h' }:=I.kept (t':=s.toks) kp
  have I2:Inv X pins σ (upd H h'.objs.size (.tup ys)) { s with heap:=h'.push { cls:=.type "tuple",data:=.seq its.toArray } } :=
   I1.laid (t':=s.toks) (fun b o e=>y03 _ e) (y0o _) (show z5s X.prog X.w _ _ _ (.tup ys) from ⟨hz,its,r',IsTup.new _ _⟩)
  exact⟨.ref h'.objs.size,_,I2,rfl,q _ (I1.hok.fresh (y0o _))⟩
 ·obtain⟨its,r',pl,hz⟩:=I.tuple hq
  exact call_tuple_same pl ⟨.ref p,H,I,rfl,q⟩
noncomputable def tyV (K:y00) (T:String) (x:V) (H:Hp):Prop:=match x with
 | .str _=>T="str"
 | .int _=>T="int"
 | .ref p=>(T="list"/\∃xs,SqL K H p xs)\/(T="tuple"/\∃o,K.lookup p=some o/\o.cls=.type "tuple"/\o.dict=none) \/
   (T="dict"/\((∃kvs,H p=some (.dK kvs))\/∃kvs,H p=some (.dT kvs)))\/(T="set"/\∃S n,H p=some (.set S n))
 | _=>False
theorem zq3 {pins:List (Addr×Obj)} {σ:St} {H:Hp} {s:y04} {T:String} {x:V} {v:Value} (I:Inv X pins σ H s) (r:RelV x v) (ty:tyV X.K T x H) :
  s.TypeIs v T/\∀a,v=.ref a->∃ob,s.heap.get? a=some ob/\ob.dict=none:=by
 cases x with
 | str z =>
  obtain⟨t,rfl⟩:=r
  cases (show T="str" from ty)
  exact⟨typeIs_str s z t,fun _ e=>nomatch e⟩
 | int i =>
  obtain⟨t,rfl⟩:=r
  cases (show T="int" from ty)
  exact⟨typeIs_int s i t,fun _ e=>nomatch e⟩
 | ref p =>
  cases r
  rcases ty with ⟨rfl,xs,hq⟩|⟨rfl,o,hk,hc,hd⟩|⟨rfl,hk⟩|⟨rfl,S,n,hk⟩
  ·obtain⟨its,_,pl,_⟩:=I.list hq
   refine⟨pl.isList.typeIs,fun a e=>?_⟩
   cases e
   obtain⟨o,n,e,c,hd,_⟩:=pl
   exact⟨o,e,hd⟩
  ·refine⟨⟨o,I.kIn p o hk,hc⟩,fun a e=>?_⟩
   cases e
   exact⟨o,I.kIn _ o hk,hd⟩
  ·have z:∃o,s.heap.get? p=some o/\o.ExactDict:=by
    rcases hk with ⟨kvs,hk⟩|⟨kvs,hk⟩
    ·obtain⟨_,_,_,_,o,_,_,e,ex,_⟩:=I.hok p _ hk
     exact⟨o,e,ex⟩
    ·obtain⟨_,_,_,_,o,_,_,e,ex,_⟩:=I.hok p _ hk
     exact⟨o,e,ex⟩
   obtain⟨o,e,ex⟩:=z
   refine⟨⟨o,e,ex.1⟩,fun a e2=>?_⟩
   cases e2
   exact⟨o,e,ex.2.1⟩
  ·obtain⟨o,_,_,_,e,ex,_⟩:=I.hok p _ hk
   refine⟨⟨o,e,ex.1⟩,fun a e2=>?_⟩
   cases e2
   exact⟨o,e,ex.2.1⟩
 | _=>exact y1w ty
def tBM0 (K:y00) (T:String) (r:V->List V->Hp->VK->Prop) (to:TE):TE:=fun σ H Q=>to σ H fun x H1=>tyV K T x H1/\r x [] H1 Q
def tBM (K:y00) (T:String) (r:V->List V->Hp->VK->Prop) (to:TE) (t:TA):TE:=fun σ H Q=>to σ H fun x H1=>tyV K T x H1/\t σ H1 fun xs H2=>r x xs H2 Q
variable {o e:Expr} {es:List Expr} {to:TE} {t:TA} {name:Str} {apos cpos:Pos} {T id:String} {r:V->List V->Hp->VK->Prop}
theorem zua (pa:PlainAttrs T) (slot:Slot T name id) (hty:typeOf (.builtin id)=pure (.type "method_descriptor")) (hm:MtR X id r) (ho:PE X o to)
  (hbase:attributeBase o name X.env (eval o X.env)=eval o X.env:=by rfl) (hline:(apos.endLine == cpos.line)=true:=by rfl):PE X (.Call (.Attribute o name apos) [] [] cpos) (tBM0 X.K T r to):=by
 intro pins s σ H Q I h
 refine wpAny_Call_method0_late hbase hline (thn (ho pins s σ H _ I h) fun v s1 ⟨x,H1,I1,r1,ty,q1⟩=>?_)
 obtain⟨h1,h2⟩:=zq3 I1 r1 ty
 exact⟨T,id,pa,slot,hty,h1,h2,Calls.callWith_builtin rfl (PySem.evalArgs_none (hm pins s1 σ H1 x [] v [] Q I1 r1 .nil q1))⟩
theorem zub (pa:PlainAttrs T) (slot:Slot T name id) (hty:typeOf (.builtin id)=pure (.type "method_descriptor")) (hm:MtR X id r) (ho:PE X o to) (ha:PA X (e::es) t)
  (hbase:attributeBase o name X.env (eval o X.env)=eval o X.env:=by rfl)
  (hfew:((y2j cpos (y0a (e::es) X.env)).all (fun x=>!x.1) && (backToKw cpos (keywordEach [] X.env)).all (fun x=>x.1.isSome)
   && decide ((e::es).length+([]:List Keyword).length+(if ([]:List Keyword).isEmpty then 0 else 1)<30))=true:=by rfl)
  (hline:(apos.endLine == cpos.line)=true:=by rfl) (hs:y0a (e::es) X.env=(false,eval e X.env)::y0a es X.env:=by rfl) (hplain:(y2j cpos (y0a es X.env)).any (·.1)=false:=by rfl) :
  PE X (.Call (.Attribute o name apos) (e::es) [] cpos) (tBM X.K T r to t):=by
 intro pins s σ H Q I h
 refine wpAny_Call_method_late hbase hfew hline rfl (thn (ho pins s σ H _ I h) fun v s1 ⟨x,H1,I1,r1,ty,q1⟩=>?_)
 obtain⟨h1,h2⟩:=zq3 I1 r1 ty
 refine⟨T,id,pa,slot,hty,h1,h2,?_⟩
 have hA:=ha cpos pins s1 σ H1 _ I1 q1
 rw[hs] at hA ⊢
 refine Calls.callWith_builtin (by show (false || (y2j cpos (y0a es X.env)).any (·.1))=false;rw[hplain] <;> rfl) (Calls.evalArgs_plain ?_)
 exact thn hA fun us s2 ⟨vs,H2,I2,r2,q2⟩=>hm pins s2 σ H2 x vs v us Q I2 r1 r2 q2
end
end L2
namespace L2
open PySem PySem.Spec PyProof.Rows
noncomputable def MtM (X:Cx) (id:String) (r:V->List V->Hp->VK->Prop):Prop :=
 ∀(pins:List (Addr×Obj)) (s:y04) (σ:St) (H:Hp) (x:V) (xs:List V) (v:Value) (us:List Value) (Q:VK),Inv X pins σ H s->RelV x v->Vals xs us->r x xs H Q ->
  y0u (y33 X.prog X.w) X.A (call (.builtin id) (v::us)) (EP X pins σ Q) X.xe s
theorem Vals.one:∀{x:V} {us:List Value},Vals [x] us->∃u,us=[u]/\RelV x u
 | _,_,.cons r .nil=>⟨_,rfl,r⟩
theorem Vals.rep {xs:List V} {us:List Value} (h:Vals xs us):∀k:Nat,Vals (y0g k xs).flatten (y0g k us).flatten
 | 0=>.nil
 | k+1=>by
  rw[y1r,y1r,y26,y26]
  exact Vals.append h (Vals.rep h k)
theorem foldl_rep (its:List Value):∀(k:Nat) (acc:List Value),
  List.foldl (fun x1 x2=>x1++x2) acc.toArray (y0g k its.toArray)=(acc++(y0g k its).flatten).toArray
 | 0,acc=>by simp
 | k+1,acc=>by
  have e:acc.toArray++its.toArray=(acc++its).toArray:=by simp
  have e2:(acc++its)++(y0g k its).flatten=acc++(y0g (k+1) its).flatten:=by
   rw[y1r,y26,List.append_assoc]
  rw[<- e2,<- foldl_rep its k (acc++its),<- e,y1r,List.foldl_cons]
section
variable {X:Cx} {pins:List (Addr×Obj)} {σ:St} {H:Hp} {s:y04} {l b:Addr} {xs ys zs:List V}
theorem Inv.lset {its its':List Value} {n:Nat} {f:Array Value->Array Value} {t':Nat} (I:Inv X pins σ H s) (hH:H l=some (.lst xs))
  (e:s.heap.get? l=some { cls:=.type "list",data:=.seq its.toArray n }) (hf:f its.toArray=its'.toArray) (hv:Vals ys its') (hz:ys.length<=y0j) :
  Inv X pins σ (upd H l (.lst ys)) { s with heap:=s.heap.update l (Obj.mapSeq f),toks:=t' }:=by
 have q:=PySem.IsL.update e f
 rw[hf] at q
 refine I.write (x:=l) (e:=l) (by rw[hH];exact trivial) (.inl rfl) (fun b' u hb hu=>(y39 s.heap (Obj.mapSeq f) (Ne.symm hb)).trans hu) ⟨_,q⟩ ?_
 exact⟨hz,its',_,hv,q⟩
theorem Inv.lnew {its:List Value} {t':Nat} (I:Inv X pins σ H s) (hv:Vals ys its) (hz:ys.length<=y0j) :
  Inv X pins σ (upd H s.heap.objs.size (.lst ys)) { s with heap:=s.heap.push { cls:=.type "list",data:=.seq its.toArray },toks:=t' } :=
 I.laid (fun _ _ q=>y03 _ q) (y0o _) ⟨hz,its,0,hv,y0l _ rfl⟩
theorem Inv.fresh (I:Inv X pins σ H s):H s.heap.objs.size=none:=I.hok.fresh (y0o _)
theorem Inv.lstM (I:Inv X pins σ H s) (hH:H l=some (.lst xs)):xs.length<=y0j/\∃(its:List Value) (n:Nat),Vals xs its/\xs.length=its.length/\s.heap.get? l=some { cls:=.type "list",data:=.seq its.toArray n }:=by
 obtain⟨z,its,n,r,e⟩:=I.hok l _ hH
 exact⟨z,its,n,r,r.length,e⟩
theorem zou {n:Nat} (h:n<=y0j):Builtin.List.listTooLong n=false:=by
 unfold Builtin.List.listTooLong
 exact decide_eq_false (by omega)
end
section
variable {X:Cx}
def zrc:V->List V->Hp->VK->Prop:=fun x vs H Q=>∃l xs y,x=.ref l/\vs=[y]/\H l=some (.lst xs)/\xs.length<y0j/\Q .non (upd H l (.lst (xs++[y])))
theorem zlf:MtM X "list.append" zrc:=by
 intro pins s σ H x vs v us Q I rx rv h
 obtain⟨l,xs,y,rfl,rfl,hH,hz,q⟩:=h
 cases rx
 obtain⟨u,rfl,ru⟩:=rv.one
 obtain⟨z,its,n,r,hl,e⟩:=I.lstM hH
 refine y2z F.slot_list_append ⟨_,e,rfl⟩ F.entry_list_append (F.args_list_append_2 _ _) (PySem.list_append l its.toArray n u (by rw[y0h];omega)) ⟨e,?_⟩
 refine⟨.non,_,I.lset (its':=its++[u]) hH e (by simp) (r.append (.cons ru .nil)) ?_,rfl,q⟩
 rw[y21,List.length_singleton]
 omega
theorem len_rep {α:Type} (xs:List α) (k:Nat):(y0g k xs).flatten.length=k*xs.length:=by
 induction k with
 | zero=>simp
 | succ k ih=>rw[y1r,y26,y21,ih,Nat.succ_mul,Nat.add_comm]
end
section
variable {prog:y0q} {w:World} {A:Around} {E:Value->y04->Prop} {s:y04}
end
section
variable {X:Cx}
end
end L2
namespace Att
open PySem PySem.W PySem.Calls PyProof.Rows
theorem z9l {P:Params} {h:Heap}:∀(ns:List Int) (vs:List Value),WellAll P h vs (ns.map WData.int)->IntsAre vs ns:=by
 intro ns
 induction ns with
 | nil =>
  intro vs w
  rw[y19] at w
  cases w
  exact .nil
 | cons n ns ih =>
  intro vs w
  rw[y0d] at w
  cases w with
  | cons a b =>
   cases a
   exact .cons _ _ (ih _ b)
theorem zkf {l:OpenLaw} {n:Nat} (hn:l.most=some n) {P:Params} {h:Heap} {args:List WData} {vals:List Value}
    (hpre:l.row.toRowW.claim.pre args=true) (hwl:WellAll P h vals args) :
    ∃a vs ns,vals=[Value.ref a]/\args=[WData.list (ns.map WData.int)]/\h.get? a=some { cls:=.type "list",data:=.seq vs.toArray }/\IntsAre vs ns/\ns.length<=n:=by
  have hsh:WShape.hasAll [] args [.list .int]=true:=(pre_splitW hpre).1
  have hc:l.pre.holds [] { args:=args }=true:=(pre_splitW hpre).2
  obtain⟨d,r,rfl,h1,h2⟩:=hasAllW_cons hsh
  obtain rfl:=hasAllW_nil h2
  obtain⟨xs,rfl,h3⟩:=hasW_list h1
  obtain⟨ns,rfl⟩:=items_int h3
  have hlen:ns.length<=n:=by
    unfold OpenLaw.pre at hc
    have h4:(WTm.not (.lt (.lit (.int (n:Int))) (.len (.arg 0)))).holds [] { args:=[.list (ns.map .int)] }=true:=by
      have h4:=(holds_andW hc).1
      rw[hn] at h4
      exact h4
    have h5:=condW_of h4 (w_not (w_lt w_lit (w_len_list (w_arg rfl))))
    rw[y13] at h5
    refine Nat.le_of_not_lt fun q=>?_
    have q':(n:Int)<((ns.length:Nat):Int):=by omega
    first
      | (rw[decide_eq_true q'] at h5;exact absurd h5 (by decide))
      | (simp at h5;omega)
  cases hwl with
  | cons w1 w2 =>
    cases w2
    cases w1 with
    | list ho hall=>exact⟨_,_,ns,rfl,rfl,ho,z9l ns _ hall,hlen⟩
theorem zku (l:OpenLaw) (args:List WData):l.row.toRowW.claim.post args (.bool true) args=true :=
 postW_of (r:=l.row.toRowW) (X:=(true == true))
  (show WShape.has [] (.bool true) .bool=true by first|rfl|decide|simp[WShape.has,WShape.arms,WShape.armsAll])
  (show (WTm.eq .res (.lit (.bool true))).value [] { args:=args,res:=some (.bool true),after:=args }=some (.bool (true == true)) from w_eq_bool (w_res rfl) w_lit) rfl
theorem attach_call {l:OpenLaw} {n:Nat} {q:y0q} {loose:List Str} {XP:(Str->Option Value)->Heap->Prop} {YP:World->Heap->Prop} {d:DefRec}
  (hn:l.most=some n) (hdf:d.params.defaults=[])
  (call:∀(w:World) (s₀ s₁:y04) (mg mb:Str->Option Value) (fa:Addr) (o:Obj) (pm cd doc:Value) (a:Addr) (vs:List Value) (ns:List Int),
   Ground q loose [] XP w s₀ mg mb s₁.heap->YP w s₁.heap ->
   s₁.heap.get? fa=some o->o.data=.func (docDef d.name d.params d.body d.scope pm cd doc)->s₁.heap.CodeRec cd d.name->mg d.name=some (.ref fa) ->
   s₁.heap.get? a=some { cls:=.type "list",data:=.seq vs.toArray }->IntsAre vs ns->ns.length<=n->s₁.gens=#[] ->
   y2x (y33 l.prog w) callerA (.call (.ref fa) ⟨[.ref a],[]⟩) (fun r s'=>r=.ok (.ret (.bool true))/\OldK s₁.heap s'.heap/\s'.os=s₁.os/\AllBare s'.gens) s₁) :
  WalkO q loose XP YP l.row.toRowW d [] (fun f vs=>PySem.call f vs):=by
 intro w s₀ s₁ mg mb G Y fa o pm cd doc dV kV ho hd hcd hD hmg hg args vals as hpre hlay hrd hwl hlo
 obtain rfl:dV=.none:=Dflts.none hD hdf
 obtain rfl:kV=.none:=Dflts.noKw hD
 obtain⟨a,vs,ns,rfl,rfl,hobj,hints,hlen⟩:=zkf hn hpre hwl
 refine enter_call (y2s (call w s₀ s₁ mg mb fa o pm cd doc a vs ns G Y ho (fd_plain hd) hcd hmg hobj hints hlen hg) fun r s' hq=>?_)
 obtain⟨rfl,h2,h3,h4⟩:=hq
 exact⟨.inl ⟨.bool true,.bool true,[],rfl,fun _=>rfl,.bool true,zku l _,fun _=>⟨List.Pairwise.nil,fun _ hm=>(nomatch hm)⟩⟩,h2,h3,h4⟩
section
variable {prog:y0q} {w:World} {A:Around} {E:Value->y04->Prop} {s:y04} {K:Frag}
end
end Att
namespace L2
open PySem PySem.Spec PyProof.Rows
theorem zcj:∀{vs:List Value} {ns:List Int},IntsAre vs ns->Vals (ns.map V.int) vs
 | _,_,.nil=>.nil
 | _,_,.cons n t h=>.cons ⟨t,rfl⟩ (zcj h)
end L2
namespace L2
open PySem PySem.Spec PyProof.Rows
end L2
namespace L2
open PySem PySem.Spec PyProof.Rows
noncomputable def z0k (s:Stmt):Arguments:=match s with
 | .FunctionDef _ a _ _ _ _ _ _ _ _=>a
 | _=>{ posonlyargs:=[],args:=[],vararg:=none,kwonlyargs:=[],kw_defaults:=[],kwarg:=none,defaults:=[] }
def z0d (s:Stmt):List Stmt:=match s with
 | .FunctionDef _ _ b _ _ _ _ _ _ _=>b
 | _=>[]
def z02 (s:Stmt):Scope:=match s with
 | .FunctionDef _ _ _ _ _ _ sc _ _ _=>sc
 | _=>{ kind:=.function,names:=[],isGenerator:=false,isCoroutine:=false }
abbrev CX0:CXT:=fun _ _ _ _ _ _=>False
abbrev E0:XK:=fun _ _ _=>False
theorem zw5 {X:Cx}:Passes CX0 X E0:=fun _ _ _ _ _ _ _ h=>h.elim
structure Fun (K:y00) (x qual:Str) (st:Stmt) (f:Addr) (fd:y0b):Prop where
 ex:∃(oc:Value) (od:Option Addr) (kV doc pm:Value) (an:Option Addr) (cdv ct:Value) (osl:Array (Option Value)),
  fd=y0i x qual (z0k st) (z0d st) (z02 st) .none kV doc pm an cdv ct/\K.lookup f=some ⟨oc,od,.func fd,osl⟩/\y0f K cdv qual=true
 kp:y08 K (.ref f)=true
section
variable {P:y0q} {w:World} {K:y00} {mg:Str->Option Value} {base:Heap}
theorem Fun.ok {x qual:Str} {st:Stmt} {f:Addr} {fd:y0b} {N ps:List Str} {k:Nat} {sp:Sp} (F:Fun K x qual st f fd) (S:FnScope N ps (z02 st)) (len:∀vs H Q E,sp vs H Q E->vs.length=ps.length)
  (hbody:∀(cdv:Value) (A:Around) (outer:List Env) (s:y04) (H:Hp) (vs:List V) (Q:VK) (E:XK),Room k (A.deeper (envOfC qual (z02 st) s.heap.objs.size f cdv))->sp vs H Q E ->
   ∃t,PSs (cxOf CX0 P w K mg base N qual (z02 st) f cdv A outer s H E).nox (z0d st) t/\t { nx:=fun _ H'=>Q .non H',rt:=Q } (start N vs) H):FnOk P w K mg base CX0 (k+1) f fd ps sp:=by
 obtain⟨oc,od,kV,doc,pm,an,cdv,ct,osl,rfl,lk,hcd⟩:=F.ex
 refine zsi lk hcd S len fun A outer s H vs Q E hr hsp=>?_
 obtain⟨t,h,q⟩:=hbody cdv A outer s H vs Q E hr hsp
 exact⟨t,h.nox,q⟩
theorem Fun.binds {x qual:Str} {st:Stmt} {f:Addr} {fd:y0b} {ps:List Str} (F:Fun K x qual st f fd)
  (h:∀(kV doc pm:Value) (an:Option Addr) (cdv ct:Value) (us:List Value),us.length=ps.length->bindArgs (y0i x qual (z0k st) (z0d st) (z02 st) .none kV doc pm an cdv ct) ⟨us,[]⟩=pure (ps.zip us)):Binds K fd ps []:=by
 obtain⟨oc,od,kV,doc,pm,an,cdv,ct,osl,rfl,lk,hcd⟩:=F.ex
 exact .all (h kV doc pm an cdv ct)
theorem z1i {x qual:Str} {st:Stmt} {f:Addr} {oc:Value} {od an:Option Addr} {osl:Array (Option Value)} {kV doc pm cdv ct:Value} (l:K.lookup f=some ⟨oc,od,.func (y0i x qual (z0k st) (z0d st) (z02 st) .none kV doc pm an cdv ct),osl⟩)
  (c:y0f K cdv qual=true) (k:y08 K (.ref f)=true):Fun K x qual st f (y0i x qual (z0k st) (z0d st) (z02 st) .none kV doc pm an cdv ct):=⟨⟨oc,od,kV,doc,pm,an,cdv,ct,osl,rfl,l,c⟩,k⟩
end
section
variable {X:Cx}
theorem pv (i:Nat) {x:Str} {pos:Pos} (hN:X.N[i]?=some x:=by rfl) (hv:Vis X.env.scope x:=by first|exact Or.inl rfl|exact Or.inr (Or.inl rfl)|exact Or.inr (Or.inr rfl)) (hd:(x == ("__debug__":Str))=false:=by decide)
  (hcd:(x == ("__classdict__":Str))=false:=by decide):PE X (.Name x pos) (tVar i):=zu5 hN hv hd hcd
end
theorem iteF {A B:Prop} (h:B):if false=true then A else B:=by
 rw[if_neg y22]
 exact h
theorem iteT {A B:Prop} (h:A):if true=true then A else B:=by
 rw[if_pos rfl]
 exact h
def Same (H H':Hp):Prop:=∀b o,H b=some o->H' b=some o
end L2
end
section
namespace D
open PySem
abbrev T:=PyData
def okT (a:T):Bool:=a.canLay0 && decide (a.depth<=60)
def okL (as:List T):Bool:=y1g as && decide (y1e as<=60)
abbrev Key:=Sum Int Str
inductive Md where
 | ro|own|lent
 deriving DecidableEq
inductive Sl where
 | imm (t:T)|own (ts:List T)|dic (kvs:List (Key×T))|obj (m:Md) (c:Nat) (fs:List Sl)
abbrev Ev:=List (Option Sl)
inductive Out where
 | nx (ε:Ev)|rt (t:T)|bk (ε:Ev)|ct (ε:Ev)|rtm (t:T) (ε:Ev)|rto (s:Sl)
abbrev Fe:=Ev->Option T
abbrev Ft:=Ev->Option Bool
abbrev Fs:=Ev->Option Out
abbrev Fi:=Ev->Option (List T)
abbrev Fg:=T->Ev->Option Ev
def big:Nat:=16777216
noncomputable def oAdd:T->T->Option T
 | .int i,.int j=>some (.int (i+j))
 | .str x,.str y=>if x.length+y.length<=big then some (.str (x++y)) else none
 | .tuple xs,.tuple ys=>if xs.length+ys.length<=big then some (.tuple (xs++ys)) else none
 | .list xs,.list ys=>if xs.length+ys.length<=big then some (.list (xs++ys)) else none
 | _,_=>none
def oSub:T->T->Option T
 | .int i,.int j=>some (.int (i - j))
 | _,_=>none
def ziz (i j:Int):Bool:=(decide (-(2 ^ 64)<i) && decide (i<2 ^ 64)) || (decide (-(2 ^ 64)<j) && decide (j<2 ^ 64))
def oMul:T->T->Option T
 | .int i,.int j=>if ziz i j then some (.int (i*j)) else none
 | _,_=>none
def oDiv:T->T->Option T
 | .int i,.int j=>if 0<j/\j<1073741824 then some (.int (i / j)) else none
 | _,_=>none
def oMod:T->T->Option T
 | .int i,.int j=>if 0<j then some (.int (i % j)) else none
 | _,_=>none
def oNeg:T->Option T
 | .int i=>some (.int (-i))
 | _=>none
def ixOf (n:Nat) (i:Int):Option Nat:=if 0<=i then (if i<n then some i.toNat else none) else if -(n:Int)<=i then some (i+n).toNat else none
def atZ {α:Type} (xs:List α) (i:Int):Option α:=(ixOf xs.length i).bind fun j=>xs[j]?
noncomputable def oIx:T->T->Option T
 | .tuple xs,.int i=>atZ xs i
 | .list xs,.int i=>atZ xs i
 | .str x,.int i=>if x.length<=big then (atZ x.cps.toList i).map fun c=>.str ⟨#[c]⟩ else none
 | _,_=>none
def oEq (a b:T):Option T:=if okT a && okT b then some (.bool (y1z a b)) else none
def oNe (a b:T):Option T:=if okT a && okT b then some (.bool (!PyData.eqv a b)) else none
def oIsN (a:T):Option T:=some (.bool (match a with|.none=>true|_=>false))
def z2h (a:T):Option T:=some (.bool (match a with|.none=>false|_=>true))
def strLt (x y:Str):Bool:=decide (x.cps.toList<y.cps.toList)
def oLt:T->T->Option T
 | .int i,.int j=>some (.bool (decide (i<j)))
 | .str x,.str y=>some (.bool (strLt x y))
 | _,_=>none
def oLe:T->T->Option T
 | .int i,.int j=>some (.bool (decide (i<=j)))
 | .str x,.str y=>some (.bool (!strLt y x))
 | _,_=>none
def oGt:T->T->Option T
 | .int i,.int j=>some (.bool (decide (j<i)))
 | .str x,.str y=>some (.bool (strLt y x))
 | _,_=>none
def oGe:T->T->Option T
 | .int i,.int j=>some (.bool (decide (j<=i)))
 | .str x,.str y=>some (.bool (!strLt x y))
 | _,_=>none
def hasT (x:T) (ts:List T):Bool:=ts.any fun y=>y1z y x
noncomputable def oIn (neg:Bool):T->T->Option T
 | x,.tuple ys=>if okT x && okL ys then some (.bool (if neg then !hasT x ys else hasT x ys)) else none
 | x,.list ys=>if okT x && okL ys then some (.bool (if neg then !hasT x ys else hasT x ys)) else none
 | _,_=>none
def oLen:List T->Option T
 | [.tuple xs]=>some (.int xs.length)
 | [.list xs]=>some (.int xs.length)
 | [.str x]=>if x.length<=big then some (.int x.length) else none
 | _=>none
def oMin:List T->Option T
 | [.int i,.int j]=>some (.int (if j<i then j else i))
 | _=>none
def oMax:List T->Option T
 | [.int i,.int j]=>some (.int (if j > i then j else i))
 | _=>none
def z1u:List T->Option T
 | [.tuple xs]=>some (.tuple xs)
 | [.list xs]=>some (.tuple xs)
 | _=>none
def zag:List T->Option T
 | [.tuple xs]=>some (.list xs)
 | [.list xs]=>some (.list xs)
 | _=>none
def oInt:List T->Option T
 | [.int i]=>some (.int i)
 | [.bool b]=>some (.int (if b then 1 else 0))
 | _=>none
def sIx (n d:Nat):Option Int->Nat
 | none=>d
 | some v=>(if v<0 then max (v+n) 0 else min v n).toNat
def cutZ {α:Type} (xs:List α) (lo hi:Option Int):List α:=(xs.drop (sIx xs.length 0 lo)).take (sIx xs.length xs.length hi - sIx xs.length 0 lo)
def oSl (t:T) (lo hi:Option Int):Option T:=match t with
 | .tuple xs=>some (.tuple (cutZ xs lo hi))
 | .list xs=>some (.list (cutZ xs lo hi))
 | _=>none
def intsOf:List T->Option (List Int)
 | []=>some []
 | .int i::ts=>(intsOf ts).map fun r=>i::r
 | _::_=>none
def strsOf:List T->Option (List Str)
 | []=>some []
 | .str x::ts=>(strsOf ts).map fun r=>x::r
 | _::_=>none
def insI (x:Int):List Int->List Int
 | []=>[x]
 | y::ys=>if x<=y then x::y::ys else y::insI x ys
def sortI:List Int->List Int
 | []=>[]
 | x::xs=>insI x (sortI xs)
def insS (x:Str):List Str->List Str
 | []=>[x]
 | y::ys=>if !strLt y x then x::y::ys else y::insS x ys
def z4h:List Str->List Str
 | []=>[]
 | x::xs=>insS x (z4h xs)
def dedup {α:Type} [DecidableEq α]:List α->List α
 | []=>[]
 | x::xs=>x::(dedup xs).filter fun y=>decide (y≠x)
def keyOf:T->Option Key
 | .int i=>some (.inl i)
 | .str x=>some (.inr x)
 | _=>none
def putD (kvs:List (Key×T)) (k:Key) (v:T):List (Key×T):=if kvs.any (fun p=>decide (p.1=k)) then kvs.map fun p=>if p.1=k then (k,v) else p else kvs++[(k,v)]
def getD (kvs:List (Key×T)) (k:Key):Option T:=(kvs.find? fun p=>decide (p.1=k)).map (·.2)
def cst (t:T):Fe:=fun _=>some t
def nm (i:Nat):Fe:=fun ε=>match ε[i]? with
 | some (some (.imm t))=>some t
 | some (some (.own ts))=>some (.list ts)
 | _=>none
def nmV (i:Nat):Fe:=fun ε=>match ε[i]? with
 | some (some (.imm t))=>some t
 | _=>none
def op1 (o:T->Option T) (f:Fe):Fe:=fun ε=>(f ε).bind o
def op2 (o:T->T->Option T) (f g:Fe):Fe:=fun ε=>(f ε).bind fun x=>(g ε).bind fun y=>o x y
def args:List Fe->Ev->Option (List T)
 | [],_=>some []
 | f::fs,ε=>(f ε).bind fun t=>(args fs ε).map fun ts=>t::ts
def opN (o:List T->Option T) (fs:List Fe):Fe:=fun ε=>(args fs ε).bind o
def z01 (fs:List Fe):Fe:=fun ε=>(args fs ε).bind fun ts=>if ts.length<=big then some (.tuple ts) else none
def z0p (fs:List Fe):Fe:=fun ε=>(args fs ε).bind fun ts=>if ts.length<=big then some (.list ts) else none
def opt (f:Fe):Ev->Option (Option Int):=fun ε=>(f ε).bind fun t=>match t with|.int i=>some (some i)|_=>none
def optN:Ev->Option (Option Int):=fun _=>some none
def slice (f:Fe) (lo hi:Ev->Option (Option Int)):Fe:=fun ε=>(f ε).bind fun t=>(lo ε).bind fun l=>(hi ε).bind fun h=>oSl t l h
def andV (f g:Fe):Fe:=fun ε=>(f ε).bind fun t=>match t with|.bool true=>g ε|.bool false=>some (.bool false)|_=>none
def orV (f g:Fe):Fe:=fun ε=>(f ε).bind fun t=>match t with|.bool false=>g ε|.bool true=>some (.bool true)|_=>none
def notV (f:Fe):Fe:=fun ε=>(f ε).bind fun t=>match t with|.bool b=>some (.bool (!b))|_=>none
noncomputable def chain (o p:T->T->Option T) (f g h:Fe):Fe:=fun ε=>(f ε).bind fun x=>(g ε).bind fun y=>(o x y).bind fun r=>match r with
 | .bool true=>(h ε).bind fun z=>p y z
 | .bool false=>some (.bool false)
 | _=>none
def tstB (f:Fe):Ft:=fun ε=>(f ε).bind fun t=>match t with|.bool b=>some b|_=>none
def tstL (f:Fe):Ft:=fun ε=>(f ε).bind fun t=>match t with|.list ts=>some (!ts.isEmpty)|.tuple ts=>some (!ts.isEmpty)|_=>none
def andT (f g:Ft):Ft:=fun ε=>(f ε).bind fun b=>if b then g ε else some false
def orT (f g:Ft):Ft:=fun ε=>(f ε).bind fun b=>if b then some true else g ε
def notT (f:Ft):Ft:=fun ε=>(f ε).map fun b=>!b
def ifE (c:Ft) (f g:Fe):Fe:=fun ε=>(c ε).bind fun b=>if b then f ε else g ε
def cstT (b:Bool):Ft:=fun _=>some b
def ofT (c:Ft):Fe:=fun ε=>(c ε).map .bool
def z1e (f:Fe):Fi:=fun ε=>(f ε).bind fun t=>match t with|.tuple ts=>some ts|.list ts=>some ts|_=>none
def z8e (f:Fe):Fi:=fun ε=>(f ε).bind fun t=>match t with|.tuple ts=>some ts|_=>none
def rng (lo hi:Int):List T:=(List.range (hi - lo).toNat).map fun (k:Nat)=>.int (lo+(k:Int))
def z6d (i:Int):Bool:=decide (-(2 ^ 62)<=i) && decide (i<2 ^ 62)
def z26 (f:Fe):Fi:=fun ε=>(f ε).bind fun t=>match t with|.int j=>if z6d j then some (rng 0 j) else none|_=>none
def enum (ts:List T):List T:=ts.zipIdx.map fun p=>.tuple [.int p.2,p.1]
def z4x (f:Fi):Fi:=fun ε=>(f ε).map enum
def gNm (i:Nat):Fg:=fun t ε=>some (ε.set i (some (.imm t)))
def gAll:List Fg->List T->Ev->Option Ev
 | [],[],ε=>some ε
 | g::gs,t::ts,ε=>(g t ε).bind fun ε'=>gAll gs ts ε'
 | _,_,_=>none
def gTu (gs:List Fg):Fg:=fun t ε=>match t with|.tuple ts=>gAll gs ts ε|_=>none
noncomputable def z2c (g:Fg) (c:Ft) (e:Fe):List T->Ev->Option (List T)
 | [],_=>some []
 | t::ts,ε=>(g t ε).bind fun ε1=>(c ε1).bind fun b=>if b then (e ε1).bind fun y=>(z2c g c e ts ε1).map fun ys=>y::ys else z2c g c e ts ε1
def z1f (own:Nat) (caps:List Nat) (ε:Ev):Ev:=y0g own none++caps.map fun i=>(ε[i]?).join
def comp (own:Nat) (caps:List Nat) (it:Fi) (g:Fg) (c:Ft) (e:Fe):Fe:=fun ε=>(it ε).bind fun ts=>if ts.length<=big then (z2c g c e ts (z1f own caps ε)).map .list else none
def skip:Fs:=fun ε=>some (.nx ε)
def seq (a b:Fs):Fs:=fun ε=>(a ε).bind fun o=>match o with|.nx ε'=>b ε'|o=>some o
def asg (i:Nat) (f:Fe):Fs:=fun ε=>(f ε).map fun t=>.nx (ε.set i (some (.imm t)))
def asgN (i:Nat) (f:Fe):Fs:=fun ε=>(f ε).bind fun t=>match t with|.list ts=>some (.nx (ε.set i (some (.own ts))))|_=>none
def asgT (g:Fg) (f:Fe):Fs:=fun ε=>(f ε).bind fun t=>(g t ε).map .nx
def rtn (f:Fe):Fs:=fun ε=>(f ε).map .rt
def iff (c:Ft) (a b:Fs):Fs:=fun ε=>(c ε).bind fun x=>if x then a ε else b ε
def brk:Fs:=fun ε=>some (.bk ε)
noncomputable def forL (g:Fg) (b:Fs):List T->Ev->Option Out
 | [],ε=>some (.nx ε)
 | t::ts,ε=>(g t ε).bind fun ε1=>(b ε1).bind fun o=>match o with
  | .nx ε2=>forL g b ts ε2
  | .ct ε2=>forL g b ts ε2
  | .bk ε2=>some (.nx ε2)
  | .rt t=>some (.rt t)
  | .rtm t ε2=>some (.rtm t ε2)
  | .rto s=>some (.rto s)
def for_ (it:Fi) (g:Fg) (b:Fs):Fs:=fun ε=>(it ε).bind fun ts=>forL g b ts ε
noncomputable def app (i:Nat) (f:Fe):Fs:=fun ε=>match ε[i]? with
 | some (some (.own ts))=>(f ε).bind fun t=>if ts.length<big then some (.nx (ε.set i (some (.own (ts++[t]))))) else none
 | _=>none
noncomputable def ext (i:Nat) (f:Fe):Fs:=fun ε=>match ε[i]? with
 | some (some (.own ts))=>(f ε).bind fun t=>match t with
  | .list us=>if ts.length+us.length<=big then some (.nx (ε.set i (some (.own (ts++us))))) else none
  | _=>none
 | _=>none
noncomputable def par (i j:Nat) (own:Bool) (f g:Fe):Fs:=fun ε=>(f ε).bind fun t=>(g ε).bind fun u=>if own then (match u with|.list us=>some (.nx ((ε.set i (some (.imm t))).set j (some (.own us))))|_=>none) else some (.nx ((ε.set i (some (.imm t))).set j (some (.imm u))))
noncomputable def runF (b:Fs) (n:Nat) (as:List T):Option T:=(b ((as.map fun t=>some (.imm t))++y0g (n - as.length) none)).bind fun o=>match o with
 | .rt t=>some t
 | .nx _=>some .none
 | _=>none
end D
end
section
namespace D
open PySem PySem.Spec PyProof.Rows L2
section
mutual
noncomputable def Rep (K:y00) (F:Addr->Prop) (H:Hp):T->V->Prop
 | .none,v=>v=.non
 | .bool b,v=>v=.bl b
 | .int i,v=>v=.int i
 | .str x,v=>v=.str x
 | .dict _,_=>False
 | .tuple ts,v=>∃a vs,v=.ref a/\SqT K H a vs/\RepL K F H ts vs
 | .list ts,v=>∃a vs,v=.ref a/\F a/\Rd H a (.lst vs)/\RepL K F H ts vs
noncomputable def RepL (K:y00) (F:Addr->Prop) (H:Hp):List T->List V->Prop
 | [],vs=>vs=[]
 | t::ts,vs=>∃v r,vs=v::r/\Rep K F H t v/\RepL K F H ts r
end
section
variable {K:y00} {F F':Addr->Prop} {H H':Hp}
mutual
theorem Rep.keep (h1:∀b xs,SqT K H b xs->SqT K H' b xs) (h2:∀b xs,F b->Rd H b (.lst xs)->F' b/\Rd H' b (.lst xs)):∀{t:T} {v:V},Rep K F H t v->Rep K F' H' t v
 | .none,v,h=>by simpa [Rep] using h
 | .bool _,v,h=>by simpa [Rep] using h
 | .dict _,v,h=>by simp[Rep] at h
 | .int _,v,h=>by simpa [Rep] using h
 | .str _,v,h=>by simpa [Rep] using h
 | .tuple ts,v,h=>by
  simp only[Rep] at h ⊢
  obtain⟨a,vs,e,q,r⟩:=h
  exact⟨a,vs,e,h1 _ _ q,RepL.keep h1 h2 r⟩
 | .list ts,v,h=>by
  simp only[Rep] at h ⊢
  obtain⟨a,vs,e,f,q,r⟩:=h
  exact⟨a,vs,e,(h2 _ _ f q).1,(h2 _ _ f q).2,RepL.keep h1 h2 r⟩
theorem RepL.keep (h1:∀b xs,SqT K H b xs->SqT K H' b xs) (h2:∀b xs,F b->Rd H b (.lst xs)->F' b/\Rd H' b (.lst xs)):∀{ts:List T} {vs:List V},RepL K F H ts vs->RepL K F' H' ts vs
 | [],vs,h=>by simpa [RepL] using h
 | t::ts,vs,h=>by
  simp only[RepL] at h ⊢
  obtain⟨v,r,e,q,z⟩:=h
  exact⟨v,r,e,Rep.keep h1 h2 q,RepL.keep h1 h2 z⟩
end
theorem RepL.nil:RepL K F H [] []:=by simp[RepL]
theorem RepL.cons {t:T} {v:V} {ts:List T} {vs:List V} (h:Rep K F H t v) (r:RepL K F H ts vs):RepL K F H (t::ts) (v::vs):=by
 simp only[RepL]
 exact⟨v,vs,rfl,h,r⟩
theorem RepL.length:∀{ts:List T} {vs:List V},RepL K F H ts vs->ts.length=vs.length
 | [],vs,h=>by
  simp only[RepL] at h
  subst h
  rfl
 | t::ts,vs,h=>by
  simp only[RepL] at h
  obtain⟨v,r,e,q,z⟩:=h
  subst e
  simp[RepL.length z]
theorem RepL.get:∀{ts:List T} {vs:List V} {i:Nat} {t:T},RepL K F H ts vs->ts[i]?=some t->∃v,vs[i]?=some v/\Rep K F H t v
 | [],vs,i,t,h,e=>by simp at e
 | x::ts,vs,0,t,h,e=>by
  simp only[RepL] at h
  obtain⟨v,r,rfl,q,z⟩:=h
  simp at e
  subst e
  exact⟨v,rfl,q⟩
 | x::ts,vs,i+1,t,h,e=>by
  simp only[RepL] at h
  obtain⟨v,r,rfl,q,z⟩:=h
  obtain⟨u,h1,h2⟩:=RepL.get (i:=i) (t:=t) z (by simpa using e)
  exact⟨u,by simpa using h1,h2⟩
theorem RepL.append:∀{ts us:List T} {vs ws:List V},RepL K F H ts vs->RepL K F H us ws->RepL K F H (ts++us) (vs++ws)
 | [],us,vs,ws,h,r=>by
  simp only[RepL] at h
  subst h
  exact r
 | t::ts,us,vs,ws,h,r=>by
  simp only[RepL] at h
  obtain⟨v,z,rfl,q,y⟩:=h
  exact RepL.cons q (RepL.append y r)
theorem RepL.take:∀{ts:List T} {vs:List V} (n:Nat),RepL K F H ts vs->RepL K F H (ts.take n) (vs.take n)
 | [],vs,n,h=>by
  simp only[RepL] at h
  subst h
  simpa using RepL.nil
 | t::ts,vs,0,h=>by simpa using RepL.nil
 | t::ts,vs,n+1,h=>by
  simp only[RepL] at h
  obtain⟨v,z,rfl,q,y⟩:=h
  simpa using RepL.cons q (RepL.take n y)
theorem RepL.drop:∀{ts:List T} {vs:List V} (n:Nat),RepL K F H ts vs->RepL K F H (ts.drop n) (vs.drop n)
 | [],vs,n,h=>by
  simp only[RepL] at h
  subst h
  simpa using RepL.nil
 | t::ts,vs,0,h=>by simpa using h
 | t::ts,vs,n+1,h=>by
  simp only[RepL] at h
  obtain⟨v,z,rfl,q,y⟩:=h
  simpa using RepL.drop n y
end
class Tbl where
 tb:List (Addr×Str)
 cn:Nat->List Str
 ck:Nat->Option Addr
noncomputable def TbG (H:Hp) (b:Addr) (q:Str):Prop:=∃ps:Array Value,H b=some (.tbl ps)/\TriplesOk ps.toList/\∀pos cv,codeAmong pos ps.toList=some cv->∃c,cv=.ref c/\H c=some (.ext fun h=>h.CodeRec (.ref c) q)
def TbS [t:Tbl] (H:Hp):Prop:=∀p∈t.tb,TbG H p.1 p.2
theorem TbG.keep {H H':Hp} {b:Addr} {q:Str} (h:TbG H b q) (k1:∀a ps,H a=some (.tbl ps)->H' a=some (.tbl ps)) (k2:∀a φ,H a=some (.ext φ)->H' a=some (.ext φ)):TbG H' b q:=by
 obtain⟨ps,h1,h2,h3⟩:=h
 refine⟨ps,k1 _ _ h1,h2,fun pos cv e=>?_⟩
 obtain⟨c,e1,e2⟩:=h3 pos cv e
 exact⟨c,e1,k2 _ _ e2⟩
variable [Tbl]
def HoM (u:HO):Prop:=(∃xs,u=.lst xs)\/(∃xs,u=.dK xs)\/∃C dx fs,u=.ins C dx fs
theorem HoM.cases {P:Prop} {u:HO} (h:HoM u) (h1:∀xs,u=.lst xs->P) (h2:∀xs,u=.dK xs->P) (h3:∀C dx fs,u=.ins C dx fs->P):P:=by
 rcases h with ⟨xs,e⟩|⟨xs,e⟩|⟨C,dx,fs,e⟩
 ·exact h1 xs e
 ·exact h2 xs e
 ·exact h3 C dx fs e
theorem TbS.updM {H:Hp} (h:TbS H) {p:Addr} {o:HO} (hp:∀u,H p=some u->HoM u):TbS (upd H p o):=fun b hb =>
 (h b hb).keep (fun a ps e=>by
  have nb:a≠p:=by
   rintro rfl
   exact (hp _ e).cases (fun _ z=>by cases z) (fun _ z=>by cases z) (fun _ _ _ z=>by cases z)
  rw[z0f nb];exact e) fun a φ e=>by
  have nb:a≠p:=by
   rintro rfl
   exact (hp _ e).cases (fun _ z=>by cases z) (fun _ z=>by cases z) (fun _ _ _ z=>by cases z)
  rw[z0f nb];exact e
theorem TbS.upd {H:Hp} (h:TbS H) {p:Addr} {o:HO} (hp:∀u,H p=some u->(∃xs,u=.lst xs)\/∃xs,u=.dK xs):TbS (upd H p o):=h.updM fun u e=>by
 rcases hp u e with z|z
 ·exact .inl z
 ·exact .inr (.inl z)
theorem TbS.new {H:Hp} (h:TbS H) {p:Addr} {o:HO} (hp:H p=none):TbS (L2.upd H p o):=h.upd fun u e=>by rw[hp] at e;cases e
structure Dom (F:Addr->Prop) (H:Hp):Prop where
 dm:∀a,F a->∃o,H a=some o
 tgs:TbS H
instance {F:Addr->Prop} {H:Hp}:CoeFun (Dom F H) fun _=>∀a,F a->∃o,H a=some o:=⟨Dom.dm⟩
def z53 (H H':Hp):Prop:=∀b o,H b=some o->H' b=some o\/∃ps ps',o=.tbl ps/\H' b=some (.tbl ps')
theorem z53.refl (H:Hp):z53 H H:=fun _ _ h=>.inl h
theorem z53.ne {H H':Hp} (s:z53 H H') {b:Addr} {o:HO} (e:H b=some o):∃u,H' b=some u:=by
 rcases s b o e with h|⟨_,_,_,h⟩
 ·exact⟨_,h⟩
 ·exact⟨_,h⟩
theorem z53.none {H H':Hp} (s:z53 H H') {b:Addr} (e:H' b=none):H b=none:=by
 cases z:H b with
 | none=>rfl
 | some o =>
  obtain⟨u,q⟩:=s.ne z
  rw[e] at q
  cases q
theorem z53.get {H H':Hp} (s:z53 H H') {b:Addr} {o:HO} (e:H b=some o) (n:∀ps,o≠.tbl ps:=by intro _ z;cases z):H' b=some o:=by
 rcases s b o e with h|⟨_,_,z,_⟩
 ·exact h
 ·exact absurd z (n _)
theorem z53.trans {H H1 H2:Hp} (a:z53 H H1) (b:z53 H1 H2):z53 H H2:=fun c o h=>by
 rcases a c o h with q|⟨ps,ps1,z,q⟩
 ·exact b c o q
 ·rcases b c _ q with q2|⟨_,ps2,z2,q2⟩
  ·exact .inr ⟨ps,ps1,z,q2⟩
  ·exact .inr ⟨ps,ps2,z,q2⟩
structure Ext (F:Addr->Prop) (H:Hp) (F':Addr->Prop) (H':Hp):Prop where
 same:z53 H H'
 sub:∀a,F a->F' a
 new:∀a,F' a->F a\/H a=none
 dom:Dom F' H'
section
variable {K:y00} {F F1 F2:Addr->Prop} {H H1 H2:Hp}
theorem Ext.refl (d:Dom F H):Ext F H F H:=⟨z53.refl H,fun _ h=>h,fun _ h=>.inl h,d⟩
theorem Ext.trans (a:Ext F H F1 H1) (b:Ext F1 H1 F2 H2):Ext F H F2 H2 :=
 ⟨a.same.trans b.same,fun x h=>b.sub x (a.sub x h),fun x h=>(b.new x h).elim (fun z=>a.new x z) fun z=>.inr (a.same.none z),b.dom⟩
theorem Rd.same {a:Addr} {u:HO} (s:z53 H H1) (r:Rd H a u) (n:∀ps,u≠.tbl ps:=by intro _ z;cases z):Rd H1 a u:=by
 rcases r with r|⟨o,r⟩
 ·exact .inl (s.get r n)
 ·exact .inr ⟨o,s.get r⟩
theorem SqT.same {a:Addr} {xs:List V} (s:z53 H H1) (r:SqT K H a xs):SqT K H1 a xs:=by
 rcases r with r|r
 ·exact .inl (Rd.same s r)
 ·exact .inr r
theorem Rep.ext {t:T} {v:V} (r:Rep K F H t v) (x:Ext F H F1 H1):Rep K F1 H1 t v:=r.keep (fun _ _ q=>SqT.same x.same q) fun b _ f q=>⟨x.sub b f,Rd.same x.same q⟩
theorem RepL.ext {t:List T} {v:List V} (r:RepL K F H t v) (x:Ext F H F1 H1):RepL K F1 H1 t v:=r.keep (fun _ _ q=>SqT.same x.same q) fun b _ f q=>⟨x.sub b f,Rd.same x.same q⟩
theorem Ext.laid {p:Addr} {o:HO} (d:Dom F H) (hp:H p=none):Ext F H F (upd H p o) :=
 ⟨fun b u q=>.inl (same_new' hp o b u q),fun _ h=>h,fun _ h=>.inl h,⟨fun a h=>by
  obtain⟨u,e⟩:=d a h
  exact⟨u,same_new' hp o a u e⟩,d.tgs.new hp⟩⟩
where same_new' {H:Hp} {p:Addr} (h:H p=none) (o:HO):Same H (upd H p o):=fun b u q=>by rw[z0f (z0r q h)];exact q
theorem Ext.laidF {p:Addr} {o:HO} (d:Dom F H) (hp:H p=none):Ext F H (fun a=>F a\/a=p) (upd H p o) :=
 ⟨fun b u q=>.inl (Ext.laid.same_new' hp o b u q),fun _ h=>.inl h,fun a h=>by
  rcases h with h|rfl
  ·exact .inl h
  ·exact .inr hp,⟨fun a h=>by
  rcases h with h|rfl
  ·obtain⟨u,e⟩:=d a h
   exact⟨u,Ext.laid.same_new' hp o a u e⟩
  ·exact⟨o,z08⟩,d.tgs.new hp⟩⟩
end
structure Kp (K:y00) (F:Addr->Prop) (H:Hp) (F':Addr->Prop) (H':Hp):Prop where
 tup:∀b xs,SqT K H b xs->SqT K H' b xs
 lst:∀b xs,F b->Rd H b (.lst xs)->F' b/\Rd H' b (.lst xs)
section
variable {K:y00} {F F1 F2:Addr->Prop} {H H1 H2:Hp}
theorem Kp.refl:Kp K F H F H:=⟨fun _ _ h=>h,fun _ _ f h=>⟨f,h⟩⟩
theorem Kp.trans (a:Kp K F H F1 H1) (b:Kp K F1 H1 F2 H2):Kp K F H F2 H2:=⟨fun x xs h=>b.tup x xs (a.tup x xs h),fun x xs f h=>b.lst x xs (a.lst x xs f h).1 (a.lst x xs f h).2⟩
theorem Ext.kp (x:Ext F H F1 H1):Kp K F H F1 H1:=⟨fun _ _ q=>SqT.same x.same q,fun b _ f q=>⟨x.sub b f,Rd.same x.same q⟩⟩
theorem Rep.kp {t:T} {v:V} (r:Rep K F H t v) (x:Kp K F H F1 H1):Rep K F1 H1 t v:=r.keep x.tup x.lst
theorem RepL.kp {t:List T} {v:List V} (r:RepL K F H t v) (x:Kp K F H F1 H1):RepL K F1 H1 t v:=r.keep x.tup x.lst
end
def RepR (K:y00) (O F:Addr->Prop) (H:Hp) (t:T) (v:V):Prop :=
 Rep K F H t v\/∃ts a vs,t=.list ts/\v=.ref a/\H a=some (.lst vs)/\RepL K F H ts vs
section
variable {K:y00} {O F F1:Addr->Prop} {H H1:Hp} {v:V}
theorem RepR.ext {t:T} (r:RepR K O F H t v) (x:Ext F H F1 H1):RepR K O F1 H1 t v:=by
 rcases r with r|⟨ts,a,vs,e1,e2,e4,r⟩
 ·exact .inl (r.ext x)
 ·exact .inr ⟨ts,a,vs,e1,e2,x.same.get e4,r.ext x⟩
theorem RepR.non (r:RepR K O F H .none v):v=.non:=by
 rcases r with r|⟨ts,a,vs,e1,_⟩
 ·simpa [Rep] using r
 ·cases e1
theorem RepR.bl {b:Bool} (r:RepR K O F H (.bool b) v):v=.bl b:=by
 rcases r with r|⟨ts,a,vs,e1,_⟩
 ·simpa [Rep] using r
 ·cases e1
theorem RepR.int {i:Int} (r:RepR K O F H (.int i) v):v=.int i:=by
 rcases r with r|⟨ts,a,vs,e1,_⟩
 ·simpa [Rep] using r
 ·cases e1
theorem RepR.str {x:Str} (r:RepR K O F H (.str x) v):v=.str x:=by
 rcases r with r|⟨ts,a,vs,e1,_⟩
 ·simpa [Rep] using r
 ·cases e1
theorem RepR.tup {ts:List T} (r:RepR K O F H (.tuple ts) v):∃a vs,v=.ref a/\SqT K H a vs/\RepL K F H ts vs:=by
 rcases r with r|⟨ts,a,vs,e1,_⟩
 ·simpa [Rep] using r
 ·cases e1
theorem RepR.lst {ts:List T} (r:RepR K O F H (.list ts) v):∃a vs,v=.ref a/\Rd H a (.lst vs)/\RepL K F H ts vs:=by
 rcases r with r|⟨us,a,vs,e1,e2,e4,r⟩
 ·simp only[Rep] at r
  obtain⟨a,vs,e,_,q,z⟩:=r
  exact⟨a,vs,e,q,z⟩
 ·cases e1
  exact⟨a,vs,e2,.inl e4,r⟩
end
def RepD (K:y00) (F:Addr->Prop) (H:Hp):List (D.Key×T)->List (D.Key×V)->Prop
 | [],vs=>vs=[]
 | p::ts,vs=>∃v r,vs=(p.1,v)::r/\Rep K F H p.2 v/\RepD K F H ts r
theorem RepD.kp {K:y00} {F F':Addr->Prop} {H H':Hp} (x:Kp K F H F' H'):∀{ts:List (D.Key×T)} {vs:List (D.Key×V)},RepD K F H ts vs->RepD K F' H' ts vs
 | [],vs,h=>h
 | p::ts,vs,h=>by
  obtain⟨v,r,e,q,z⟩:=h
  exact⟨v,r,e,q.kp x,RepD.kp x z⟩
structure En where
 h:Hp
 la:Addr
def rf:V->List Addr
 | .ref a=>[a]
 | _=>[]
def fp0:Sl->V->List Addr
 | .imm _,_=>[]
 | _,v=>rf v
def fpF:List Sl->List V->List Addr
 | s::ss,v::vs=>fp0 s v++fpF ss vs
 | _,_=>[]
def zh3 (H:Hp):V->List V
 | .ref a=>(match H a with
  | some (.ins _ _ kvs)=>kvs.map (·.2)
  | some (.dK kvs)=>kvs.map (·.2)
  | _=>[])
 | _=>[]
def fpS (H:Hp):Sl->V->List Addr
 | .imm _,_=>[]
 | .own _,v=>rf v
 | .dic _,v=>rf v
 | .obj _ _ fs,v=>rf v++fpF fs (zh3 H v)
noncomputable def zaj (H:Hp) (a:Addr) (c:Nat) (vs:List V):Prop:=vs.length<=(Tbl.cn c).length/\match Tbl.ck c with
 | some C=>∃dx,H a=some (.ins C dx ((Tbl.cn c).zip vs))
 | none=>H a=some (.dK (((Tbl.cn c).zip vs).map fun p=>(.inr p.1,p.2)))
noncomputable def zjt (K:y00) (F:Addr->Prop) (H:Hp):Sl->V->Prop
 | .imm t,v=>Rep K F H t v
 | .own ts,v=>∃b us,v=.ref b/\H b=some (.lst us)/\RepL K F H ts us
 | .dic kvs,v=>∃b us,v=.ref b/\H b=some (.dK us)/\RepD K F H kvs us
 | .obj _ _ _,_=>False
def RelF (K:y00) (F:Addr->Prop) (H:Hp):List Sl->List V->Prop
 | [],vs=>vs=[]
 | s::ss,vs=>∃v r,vs=v::r/\zjt K F H s v/\RelF K F H ss r
def OwnM (E:En) (O F:Addr->Prop) (m:Md) (b:Addr):Prop:=¬F b/\match m with
 | .ro=>E.h b≠none
 | _=>O b
noncomputable def z3u (K:y00) (E:En) (O F:Addr->Prop) (H:Hp):Sl->V->Prop
 | .imm t,v=>Rep K F H t v
 | .own ts,v=>∃a vs,v=.ref a/\¬F a/\O a/\H a=some (.lst vs)/\RepL K F H ts vs
 | .dic kvs,v=>∃a vs,v=.ref a/\¬F a/\O a/\H a=some (.dK vs)/\RepD K F H kvs vs
 | .obj m c fs,v=>∃a vs,v=.ref a/\zaj H a c vs/\RelF K F H fs vs/\(a::fpF fs vs).Nodup/\(∀b∈a::fpF fs vs,OwnM E O F m b)/\(m=.lent->a=E.la)
def Sl.isOwn:Sl->Bool
 | .imm _=>false
 | .obj .ro _ _=>false
 | _=>true
section
variable {K:y00} {F F' O O':Addr->Prop} {H H':Hp} {E:En}
theorem zf2 {α β:Type}:∀{xs:List α} {ys:List β},ys.length<=xs.length->(xs.zip ys).map (·.2)=ys
 | xs,[],_=>by simp
 | [],y::ys,h=>by simp at h
 | x::xs,y::ys,h=>by simp[zf2 (xs:=xs) (ys:=ys) (by simpa using h)]
theorem zaj.vals {a:Addr} {c:Nat} {vs:List V} (h:zaj H a c vs):zh3 H (.ref a)=vs:=by
 obtain⟨hl,h⟩:=h
 unfold zh3
 split at h
 ·obtain⟨dx,e⟩:=h
  simp only[e]
  exact zf2 hl
 ·simp only[h,y2h]
  exact zf2 hl
theorem zaj.mem {a:Addr} {c:Nat} {vs:List V} (h:zaj H a c vs):∃o,H a=some o/\HoM o:=by
 obtain⟨hl,h⟩:=h
 split at h
 ·obtain⟨dx,e⟩:=h
  exact⟨_,e,.inr (.inr ⟨_,_,_,rfl⟩)⟩
 ·exact⟨_,h,.inr (.inl ⟨_,rfl⟩)⟩
theorem zaj.keep {a:Addr} {c:Nat} {vs:List V} (h:zaj H a c vs) (e:H' a=H a):zaj H' a c vs:=by
 obtain⟨hl,h⟩:=h
 refine⟨hl,?_⟩
 rw[e]
 exact h
theorem zat {v:V} {b:Addr} (h:b∈rf v):v=.ref b:=by
 unfold rf at h
 split at h
 ·simp at h
  rw[h]
 ·simp at h
theorem zjt.at {s:Sl} {v:V} {b:Addr} (r:zjt K F H s v) (h:b∈fp0 s v):∃o,H b=some o/\HoM o:=by
 cases s with
 | imm t=>simp[fp0] at h
 | own ts =>
  obtain⟨b',us,e,eh,_⟩:=r
  have:=zat h
  rw[e] at this
  cases this
  exact⟨_,eh,.inl ⟨_,rfl⟩⟩
 | dic ts =>
  obtain⟨b',us,e,eh,_⟩:=r
  have:=zat h
  rw[e] at this
  cases this
  exact⟨_,eh,.inr (.inl ⟨_,rfl⟩)⟩
 | obj m c fs=>exact r.elim
theorem RelF.at:∀{fs:List Sl} {vs:List V} {b:Addr},RelF K F H fs vs->b∈fpF fs vs->∃o,H b=some o/\HoM o
 | [],vs,b,r,h=>by simp[fpF] at h
 | s::ss,vs,b,r,h=>by
  obtain⟨v,z,rfl,r1,r2⟩:=r
  rw[show fpF (s::ss) (v::z)=fp0 s v++fpF ss z from rfl] at h
  rcases y10.mp h with h|h
  ·exact r1.at h
  ·exact RelF.at r2 h
theorem z7q {m:Md} {c:Nat} {fs:List Sl} {a:Addr} {vs:List V} (h:zaj H a c vs):fpS H (.obj m c fs) (.ref a)=a::fpF fs vs:=by
 show rf (.ref a)++fpF fs (zh3 H (.ref a))=_
 rw[h.vals]
 rfl
theorem z3u.at {s:Sl} {v:V} {b:Addr} (r:z3u K E O F H s v) (h:b∈fpS H s v):∃o,H b=some o/\HoM o:=by
 cases s with
 | imm t=>simp[fpS] at h
 | own ts =>
  obtain⟨b',us,e,_,_,eh,_⟩:=r
  have:=zat h
  rw[e] at this
  cases this
  exact⟨_,eh,.inl ⟨_,rfl⟩⟩
 | dic ts =>
  obtain⟨b',us,e,_,_,eh,_⟩:=r
  have:=zat h
  rw[e] at this
  cases this
  exact⟨_,eh,.inr (.inl ⟨_,rfl⟩)⟩
 | obj m c fs =>
  obtain⟨a,vs,rfl,ha,hf,_⟩:=r
  rw[z7q ha] at h
  rcases y09.mp h with rfl|h
  ·exact ha.mem
  ·exact hf.at h
theorem z3u.held {s:Sl} {v:V} {b:Addr} (r:z3u K E O F H s v) (h:b∈fpS H s v):¬F b/\(s.isOwn=true->O b)/\(s.isOwn=false->E.h b≠none):=by
 cases s with
 | imm t=>simp[fpS] at h
 | own ts =>
  obtain⟨b',us,e,n,o,eh,_⟩:=r
  have:=zat h
  rw[e] at this
  cases this
  exact⟨n,fun _=>o,fun z=>by cases z⟩
 | dic ts =>
  obtain⟨b',us,e,n,o,eh,_⟩:=r
  have:=zat h
  rw[e] at this
  cases this
  exact⟨n,fun _=>o,fun z=>by cases z⟩
 | obj m c fs =>
  obtain⟨a,vs,rfl,ha,hf,nd,ow,_⟩:=r
  rw[z7q ha] at h
  obtain⟨n,q⟩:=ow b h
  refine⟨n,fun z=>?_,fun z=>?_⟩
  ·cases m with
   | ro=>cases z
   | own=>exact q
   | lent=>exact q
  ·cases m with
   | ro=>exact q
   | own=>cases z
   | lent=>cases z
theorem zjt.keep {s:Sl} {v:V} (r:zjt K F H s v) (kp:Kp K F H F' H') (hh:∀b∈fp0 s v,H' b=H b):zjt K F' H' s v:=by
 cases s with
 | imm t=>exact Rep.kp r kp
 | own ts =>
  obtain⟨b,us,rfl,eh,z⟩:=r
  exact⟨b,us,rfl,by rw[hh b (by simp[fp0,rf])];exact eh,z.kp kp⟩
 | dic ts =>
  obtain⟨b,us,rfl,eh,z⟩:=r
  exact⟨b,us,rfl,by rw[hh b (by simp[fp0,rf])];exact eh,RepD.kp kp z⟩
 | obj m c fs=>exact r.elim
theorem RelF.keep:∀{fs:List Sl} {vs:List V},RelF K F H fs vs->Kp K F H F' H'->(∀b∈fpF fs vs,H' b=H b)->RelF K F' H' fs vs
 | [],vs,r,_,_=>r
 | s::ss,vs,r,kp,hh=>by
  obtain⟨v,z,rfl,r1,r2⟩:=r
  rw[show fpF (s::ss) (v::z)=fp0 s v++fpF ss z from rfl] at hh
  exact⟨v,z,rfl,r1.keep kp fun b h=>hh b (y10.mpr (.inl h)),RelF.keep r2 kp fun b h=>hh b (y10.mpr (.inr h))⟩
theorem z3u.keep {s:Sl} {v:V} (r:z3u K E O F H s v) (kp:Kp K F H F' H') (hh:∀b∈fpS H s v,H' b=H b) (hf:∀b∈fpS H s v,F' b->F b) (ho:∀b∈fpS H s v,O b->O' b) :
  z3u K E O' F' H' s v/\fpS H' s v=fpS H s v:=by
 cases s with
 | imm t=>exact⟨Rep.kp r kp,rfl⟩
 | own ts =>
  obtain⟨a,vs,rfl,n,o,eh,z⟩:=r
  have m:a∈fpS H (.own ts) (.ref a):=by simp[fpS,rf]
  exact⟨⟨a,vs,rfl,fun f=>n (hf a m f),ho a m o,by rw[hh a m];exact eh,z.kp kp⟩,rfl⟩
 | dic ts =>
  obtain⟨a,vs,rfl,n,o,eh,z⟩:=r
  have m:a∈fpS H (.dic ts) (.ref a):=by simp[fpS,rf]
  exact⟨⟨a,vs,rfl,fun f=>n (hf a m f),ho a m o,by rw[hh a m];exact eh,RepD.kp kp z⟩,rfl⟩
 | obj m c fs =>
  obtain⟨a,vs,rfl,ha,hr,nd,ow,la⟩:=r
  rw[z7q ha] at hh hf ho
  have ha':zaj H' a c vs:=ha.keep (hh a (by simp))
  refine⟨⟨a,vs,rfl,ha',hr.keep kp fun b h=>hh b (y05 _ h),nd,fun b h=>?_,la⟩,by rw[z7q ha,z7q ha']⟩
  obtain⟨n,q⟩:=ow b h
  refine⟨fun f=>n (hf b h f),?_⟩
  cases m with
  | ro=>exact q
  | own=>exact ho b h q
  | lent=>exact ho b h q
theorem z3u.extP {s:Sl} {v:V} (r:z3u K E O F H s v) (x:Ext F H F' H'):z3u K E O F' H' s v/\fpS H' s v=fpS H s v :=
 r.keep x.kp (fun b h=>by
  obtain⟨o,e,m⟩:=r.at h
  rw[e]
  exact x.same.get e fun ps z=>by subst z;exact m.cases (fun _ z=>by cases z) (fun _ z=>by cases z) (fun _ _ _ z=>by cases z)) (fun b h f=>by
  rcases x.new b f with z|z
  ·exact z
  ·obtain⟨o,e,_⟩:=r.at h
   rw[z] at e
   cases e) fun _ _ o=>o
theorem z3u.ext {s:Sl} {v:V} (r:z3u K E O F H s v) (x:Ext F H F' H'):z3u K E O F' H' s v:=(r.extP x).1
end
structure RelE (K:y00) (F₀:Addr->Prop) (E:En) (O F:Addr->Prop) (H:Hp) (ε:Ev) (σ:L2.St):Prop where
 len:ε.length=σ.length
 val:∀(i:Nat) (s:Sl),ε[i]?=some (some s)->∃v,σ[i]?=some (some v)/\z3u K E O F H s v
 ne:∀(i j:Nat) (s u:Sl) (v w:V),i≠j->ε[i]?=some (some s)->ε[j]?=some (some u)->s.isOwn=true->u.isOwn=true->σ[i]?=some (some v)->σ[j]?=some (some w)->∀a∈fpS H s v,a∉fpS H u w
 ent:Ext F₀ E.h F H
 o0:∀a,O a->E.h a=none
 fr:∀a,H a=none->O a
section
variable {K:y00} {F₀ O F F1:Addr->Prop} {E:En} {H H1:Hp} {ε:Ev} {σ:L2.St}
theorem RelE.dom (r:RelE K F₀ E O F H ε σ):Dom F H:=r.ent.dom
theorem RelE.ext (r:RelE K F₀ E O F H ε σ) (x:Ext F H F1 H1):RelE K F₀ E O F1 H1 ε σ :=
 ⟨r.len,fun i s e=>by
  obtain⟨v,h1,h2⟩:=r.val i s e
  exact⟨v,h1,h2.ext x⟩,fun i j s u v w hij e1 e2 o1 o2 h1 h2=>by
  obtain⟨v',h1',r1⟩:=r.val i s e1
  obtain⟨w',h2',r2⟩:=r.val j u e2
  rw[h1] at h1'
  rw[h2] at h2'
  cases h1'
  cases h2'
  rw[(r1.extP x).2,(r2.extP x).2]
  exact r.ne i j s u v w hij e1 e2 o1 o2 h1 h2,r.ent.trans x,r.o0,fun a e=>r.fr a (x.same.none e)⟩
theorem get_set {α:Type} {l:List (Option α)} {i j:Nat} {x:Option α} {y:α} (h:(l.set i x)[j]?=some (some y)):(i=j/\x=some y/\j<l.length)\/(i≠j/\l[j]?=some (some y)):=by
 rw[List.getElem?_set] at h
 by_cases e:i=j
 ·subst e
  rw[if_pos rfl] at h
  split at h
  next hl=>exact .inl ⟨rfl,y2c h,hl⟩
  next=>cases h
 ·rw[if_neg e] at h
  exact .inr ⟨e,h⟩
theorem zfb {α:Type} {l:List (Option α)} {i:Nat} {x:Option α} (h:i<l.length):(l.set i x)[i]?=some x:=by
 rw[List.getElem?_set,if_pos rfl,if_pos h]
theorem z5u {α:Type} {l:List (Option α)} {i j:Nat} {x:Option α} (h:i≠j):(l.set i x)[j]?=l[j]?:=by
 rw[List.getElem?_set,if_neg h]
theorem RelE.setG {s:Sl} {v:V} (r:RelE K F₀ E O F H ε σ) (i:Nat) (h:z3u K E O F H s v) (fr:s.isOwn=true->∀(j:Nat) (u:Sl) (w:V),i≠j->ε[j]?=some (some u)->u.isOwn=true->σ[j]?=some (some w)->∀a∈fpS H s v,a∉fpS H u w) :
  RelE K F₀ E O F H (ε.set i (some s)) (σ.set i (some v)):=by
 refine⟨by simp[r.len],fun j u e=>?_,fun j k u w vu vw hjk e1 e2 o1 o2 h1 h2=>?_,r.ent,r.o0,r.fr⟩
 ·rcases get_set e with ⟨rfl,e',hl⟩|⟨ne,e'⟩
  ·cases e'
   exact⟨_,zfb (by rw[<- r.len];exact hl),h⟩
  ·obtain⟨w,h1,h2⟩:=r.val j u e'
   exact⟨w,by rw[z5u ne];exact h1,h2⟩
 ·rcases get_set e1 with ⟨rfl,e',hl⟩|⟨ne1,e1'⟩
  ·rcases get_set e2 with ⟨rfl,_,_⟩|⟨ne2,e2'⟩
   ·exact absurd rfl hjk
   ·rw[zfb (by rw[<- r.len];exact hl)] at h1
    rw[z5u ne2] at h2
    cases h1
    cases e'
    exact fr o1 k w vw ne2 e2' o2 h2
  ·rw[z5u ne1] at h1
   rcases get_set e2 with ⟨rfl,e',hl⟩|⟨ne2,e2'⟩
   ·rw[zfb (by rw[<- r.len];exact hl)] at h2
    cases h2
    cases e'
    intro a ha hb
    exact fr o2 j u vu ne1 e1' o1 h1 a hb ha
   ·rw[z5u ne2] at h2
    exact r.ne j k u w vu vw hjk e1' e2' o1 o2 h1 h2
theorem RelE.set {t:T} {v:V} (r:RelE K F₀ E O F H ε σ) (i:Nat) (h:Rep K F H t v):RelE K F₀ E O F H (ε.set i (some (.imm t))) (σ.set i (some v)):=r.setG (s:=.imm t) i h fun z=>by cases z
theorem zs9 {x:Addr} {o o':HO} (hn:¬F x) (hx:H x=some o) (hm:HoM o):Kp K F H F (upd H x o'):=by
 refine⟨fun b xs q=>?_,fun b xs f q=>⟨f,?_⟩⟩
 ·rcases q with q|q
  ·refine .inl ?_
   have nb:b≠x:=by
    rintro rfl
    rcases q with q|⟨_,q⟩ <;> (rw[hx] at q;cases q;exact hm.cases (fun _ z=>by cases z) (fun _ z=>by cases z) (fun _ _ _ z=>by cases z))
   rcases q with q|⟨u,q⟩
   ·exact .inl (by rw[z0f nb];exact q)
   ·exact .inr ⟨u,by rw[z0f nb];exact q⟩
  ·exact .inr q
 ·have nb:b≠x:=by
   rintro rfl
   exact hn f
  rcases q with q|⟨u,q⟩
  ·exact .inl (by rw[z0f nb];exact q)
  ·exact .inr ⟨u,by rw[z0f nb];exact q⟩
theorem zpi {x:Addr} {o o':HO} {h0:Hp} (e:Ext F₀ h0 F H) (h0x:h0 x=none) (hn:¬F x) (hx:H x=some o) (hm:HoM o):Ext F₀ h0 F (upd H x o'):=by
 refine⟨fun b u q=>?_,e.sub,e.new,⟨fun b f=>?_,e.dom.tgs.updM fun u z=>by rw[hx] at z;cases z;exact hm⟩⟩
 ·have nb:b≠x:=by
   rintro rfl
   rw[h0x] at q
   cases q
  rw[z0f nb]
  exact e.same b u q
 ·have nb:b≠x:=by
   rintro rfl
   exact hn f
  rw[z0f nb]
  exact e.dom b f
end
def tR (K:y00) (f:Fe):TE:=fun σ H Q=>∃F₀ H₀ O F ε t,RelE K F₀ H₀ O F H ε σ/\f ε=some t/\∀v F' H',Ext F H F' H'->RepR K O F' H' t v->Q v H'
def tV (K:y00) (f:Fe):TE:=fun σ H Q=>∃F₀ H₀ O F ε t,RelE K F₀ H₀ O F H ε σ/\f ε=some t/\∀v F' H',Ext F H F' H'->Rep K F' H' t v->Q v H'
noncomputable def tN (K:y00) (f:Fe):TE:=fun σ H Q=>∃F₀ H₀ O F ε ts,RelE K F₀ H₀ O F H ε σ/\f ε=some (.list ts)/\∀a vs F' H',Ext F H F' H'->H a=none->¬F' a->H' a=some (.lst vs)->RepL K F' H' ts vs->Q (.ref a) H'
def tT (K:y00) (f:Ft):TT:=fun σ H Q=>∃F₀ H₀ O F ε b,RelE K F₀ H₀ O F H ε σ/\f ε=some b/\∀F' H',Ext F H F' H'->Q b H'
def tAR (K:y00) (fs:List Fe):TA:=fun σ H Q=>∃F₀ H₀ O F ε ts,RelE K F₀ H₀ O F H ε σ/\args fs ε=some ts/\∀vs F' H',Ext F H F' H'->Paired (RepR K O F' H') ts vs->Q vs H'
def tAV (K:y00) (fs:List Fe):TA:=fun σ H Q=>∃F₀ H₀ O F ε ts,RelE K F₀ H₀ O F H ε σ/\args fs ε=some ts/\∀vs F' H',Ext F H F' H'->RepL K F' H' ts vs->Q vs H'
abbrev PEr (X:Cx) (e:Expr) (f:Fe):Prop:=PE X e (tR X.K f)
abbrev PEv (X:Cx) (e:Expr) (f:Fe):Prop:=PE X e (tV X.K f)
abbrev PEn (X:Cx) (e:Expr) (f:Fe):Prop:=PE X e (tN X.K f)
abbrev PTt (X:Cx) (e:Expr) (f:Ft):Prop:=PT X e (tT X.K f)
abbrev PWt (X:Cx) (e:Expr) (f:Ft):Prop:=PW X e (tT X.K f)
abbrev PAr (X:Cx) (es:List Expr) (fs:List Fe):Prop:=PA X es (tAR X.K fs)
abbrev PAv (X:Cx) (es:List Expr) (fs:List Fe):Prop:=PA X es (tAV X.K fs)
theorem z0l {X:Cx} {e:Expr} {t t':TE} (h:PE X e t) (k:∀σ H Q,t' σ H Q->t σ H Q):PE X e t':=fun pins s σ H Q I q=>h pins s σ H Q I (k σ H Q q)
theorem zf0 {X:Cx} {e:Expr} {t t':TT} (h:PT X e t) (k:∀σ H Q,t' σ H Q->t σ H Q):PT X e t':=fun pins s σ H Q I q=>h pins s σ H Q I (k σ H Q q)
theorem zqw {X:Cx} {e:Expr} {t t':TT} (h:PW X e t) (k:∀σ H Q,t' σ H Q->t σ H Q):PW X e t':=fun w pins s σ H Q I q=>h w pins s σ H Q I (k σ H Q q)
theorem zf1 {X:Cx} {e:List Expr} {t t':TA} (h:PA X e t) (k:∀σ H Q,t' σ H Q->t σ H Q):PA X e t':=fun pos pins s σ H Q I q=>h pos pins s σ H Q I (k σ H Q q)
theorem zi2 {X:Cx} {e:Stmt} {t t':TS} (h:PS X e t) (k:∀D σ H,t' D σ H->t D σ H):PS X e t':=fun pins s σ H D I q=>h pins s σ H D I (k D σ H q)
theorem zae {X:Cx} {e:List Stmt} {t t':TS} (h:PSs X e t) (k:∀D σ H,t' D σ H->t D σ H):PSs X e t':=fun pins s σ H D I q=>h pins s σ H D I (k D σ H q)
section
variable {X:Cx} {e:Expr} {f:Fe}
theorem v2r (h:PEv X e f):PEr X e f:=z0l h fun σ H Q ⟨F₀,H₀,O,F,ε,t,r,e,k⟩=>⟨F₀,H₀,O,F,ε,t,r,e,fun v F' H' x q=>k v F' H' x (.inl q)⟩
theorem n2v (h:PEn X e f) (hf:∀ε t,f ε=some t->∃ts,t=.list ts):PEv X e f:=z0l h fun σ H Q ⟨F₀,H₀,O,F,ε,t,r,e,k⟩=>by
 obtain⟨ts,rfl⟩:=hf _ _ e
 refine⟨F₀,H₀,O,F,ε,ts,r,e,fun a vs F' H' x hn nf ha q=>?_⟩
 have y:Ext F H (fun b=>F' b\/b=a) H':=⟨x.same,fun b z=>.inl (x.sub b z),fun b z=>by
  rcases z with z|rfl
  ·exact x.new b z
  ·exact .inr hn,⟨fun b z=>by
  rcases z with z|rfl
  ·exact x.dom b z
  ·exact⟨_,ha⟩,x.dom.tgs⟩⟩
 refine k (.ref a) _ H' y ?_
 simp only[Rep]
 exact⟨a,vs,rfl,.inr rfl,.inl ha,q.keep (fun _ _ z=>z) fun b _ z w=>⟨.inl z,w⟩⟩
end
end
section
variable [Tbl]
section
variable {X:Cx} {a b c e:Expr} {f g h:Fe} {pos:Pos}
theorem zko {t:T} {v:V} (he:PE X e (tC v)) (hr:∀F H,Rep X.K F H t v):PEv X e (cst t):=z0l he fun σ H Q ⟨F₀,H₀,O,F,ε,t',r,e,k⟩=>by
 cases e
 exact k v F H (Ext.refl r.dom) (hr _ _)
theorem z03 {i j}:PEv X (.Constant (.int i) j pos) (cst (.int i)):=zko zhg fun _ _=>by simp[Rep]
theorem q_bl {i j}:PEv X (.Constant (.bool i) j pos) (cst (.bool i)):=zko zrt fun _ _=>by simp[Rep]
theorem z0o {i j}:PEv X (.Constant (.str i) j pos) (cst (.str i)):=zko zdc fun _ _=>by simp[Rep]
theorem zd8 {j}:PEv X (.Constant .none j pos) (cst .none):=zko zu7 fun _ _=>by simp[Rep]
theorem q_nm (i:Nat) {x:Str} (hN:X.N[i]?=some x:=by rfl) (hv:Vis X.env.scope x:=by first|exact Or.inl rfl|exact Or.inr (Or.inl rfl)|exact Or.inr (Or.inr rfl)) (hd:(x == ("__debug__":Str))=false:=by decide)
  (hcd:(x == ("__classdict__":Str))=false:=by decide):PEr X (.Name x pos) (nm i):=z0l (pv i hN hv hd hcd) fun σ H Q ⟨F₀,H₀,O,F,ε,t,r,e,k⟩=>by
 unfold nm at e
 split at e
 next t' he =>
  cases e
  obtain⟨v,h1,h2⟩:=r.val _ _ he
  exact⟨v,h1,k v F H (Ext.refl r.dom) (.inl h2)⟩
 next ts he =>
  cases e
  obtain⟨v,h1,a,vs,rfl,n,h0,hh,hr⟩:=r.val _ _ he
  exact⟨_,h1,k _ F H (Ext.refl r.dom) (.inr ⟨ts,a,vs,rfl,rfl,hh,hr⟩)⟩
 next=>cases e
theorem z0q (i:Nat) {x:Str} (hN:X.N[i]?=some x:=by rfl) (hv:Vis X.env.scope x:=by first|exact Or.inl rfl|exact Or.inr (Or.inl rfl)|exact Or.inr (Or.inr rfl)) (hd:(x == ("__debug__":Str))=false:=by decide)
  (hcd:(x == ("__classdict__":Str))=false:=by decide):PEv X (.Name x pos) (nmV i):=z0l (pv i hN hv hd hcd) fun σ H Q ⟨F₀,H₀,O,F,ε,t,r,e,k⟩=>by
 unfold nmV at e
 split at e
 next t' he =>
  cases e
  obtain⟨v,h1,h2⟩:=r.val _ _ he
  exact⟨v,h1,k v F H (Ext.refl r.dom) h2⟩
 next=>cases e
noncomputable def Op2 (K:y00) (o:T->T->Option T) (R:R2):Prop :=
 ∀(O F:Addr->Prop) (H:Hp) (x y t:T) (vx vy:V) (Q:VK),Dom F H->RepR K O F H x vx->RepR K O F H y vy->o x y=some t ->
  (∀v F' H',Ext F H F' H'->Rep K F' H' t v->Q v H')->R vx vy H Q
theorem z3m {o:T->T->Option T} {R:R2} (h:Op2 X.K o R):∀σ H Q,tV X.K (op2 o f g) σ H Q->tOp R (tR X.K f) (tR X.K g) σ H Q:=by
 rintro σ H Q ⟨F₀,H₀,O,F,ε,t,r,e,k⟩
 simp only[op2,y01] at e
 obtain⟨x,ex,y,ey,eo⟩:=e
 refine⟨F₀,H₀,O,F,ε,x,r,ex,fun vx F1 H1 x1 rx=>⟨F₀,H₀,O,F1,ε,y,r.ext x1,ey,fun vy F2 H2 x2 ry=>?_⟩⟩
 exact h O F2 H2 x y t vx vy Q x2.dom (rx.ext x2) ry eo fun v F' H' x3 q3=>k v F' H' ((x1.trans x2).trans x3) q3
theorem Inv.lstR {pins:List (Addr×Obj)} {σ:L2.St} {H:Hp} {s:y04} {l:Addr} {xs:List V} (I:Inv X pins σ H s) (hH:Rd H l (.lst xs)) :
  xs.length<=y0j/\∃(its:List Value) (n:Nat),Vals xs its/\xs.length=its.length/\s.heap.get? l=some { cls:=.type "list",data:=.seq its.toArray n }:=by
 obtain⟨z,its,n,r,e⟩:=hH.ok I.hok
 exact⟨z,its,n,r,r.length,e⟩
noncomputable def zvt:R2:=fun x y H Q=>∃l b xs zs,x=.ref l/\y=.ref b/\Rd H l (.lst xs)/\Rd H b (.lst zs)/\xs.length+zs.length<=y0j/\∀p,H p=none->Q (.ref p) (upd H p (.lst (xs++zs)))
theorem zs3:OpR X (y31 .Add) zvt:=by
 intro pins s σ H x y v u Q I rx ry h
 obtain⟨l,b,xs,zs,rfl,rfl,hH,hB,hz,q⟩:=h
 cases rx
 cases ry
 obtain⟨z,its,n,r,hl,e⟩:=Inv.lstR I hH
 obtain⟨z2,its2,n2,r2,hl2,e2⟩:=Inv.lstR I hB
 refine PySem.P.add_list e e2 ?_ (by rw[y0h,y0h];omega)
 have ea:its.toArray++its2.toArray=(its++its2).toArray:=by simp
 rw[ea]
 exact⟨.ref _,_,I.lnew (t':=s.toks) (r.append r2) (by rw[y21];omega),rfl,q _ I.fresh⟩
def ztp (K:y00):R2:=fun x y H Q=>∃a b ys,x=.ref a/\y=.ref b/\SqT K H a []/\SqT K H b ys/\Q (.ref b) H
theorem zoo:OpR X (y31 .Add) (ztp X.K):=by
 intro pins s σ H x y v u Q I rx ry h
 obtain⟨a,b,ys,rfl,rfl,ha,hb,q⟩:=h
 cases rx
 cases ry
 obtain⟨its,r1,p1,_⟩:=I.tuple ha
 obtain⟨its2,r2,p2,_⟩:=I.tuple hb
 have ei:its=[]:=r1.nil_iff.mpr rfl
 subst ei
 obtain⟨⟨cls,dd,data,sl⟩,ho,hc,n,hd⟩:=id p1
 obtain⟨⟨cls2,dd2,data2,sl2⟩,ho2,hc2,n2,hd2⟩:=id p2
 simp only at hc hd hc2 hd2
 subst hc hd hc2 hd2
 exact concat_meets ⟨_,ho,rfl⟩ ⟨_,ho2,rfl⟩ noFill_tuple_add seq_tuple_add PySem.F.slot_tuple_add PySem.F.entry_tuple_add (PySem.F.args_tuple_add_2 _ _)
   (tuple_addW0 a b ([]:List Value).toArray its2.toArray n n2 dd dd2 sl sl2 (by simp)) ⟨ho,ho2,⟨.ref b,H,I,rfl,q⟩⟩
theorem z6f:y0j=big:=by rw[y2n];rfl
theorem z3a (ha:PEr X a f) (hb:PEr X b g):PEv X (.BinOp a .Add b pos) (op2 oAdd f g) :=
 z0l (zdd (zui.or (zik.or (zoo.or (zs0.or zs3)))) ha hb) (z3m (by
  intro O F H x y t vx vy Q d rx ry e k
  unfold oAdd at e
  split at e
  ·cases e
   rw[rx.int,ry.int]
   exact .inl ⟨_,_,rfl,rfl,k _ F H (Ext.refl d) (by simp[Rep])⟩
  ·split at e
   next hz =>
    cases e
    rw[rx.str,ry.str]
    exact .inr (.inl ⟨_,_,rfl,rfl,by rw[z6f];exact hz,k _ F H (Ext.refl d) (by simp[Rep])⟩)
   next=>cases e
  ·split at e
   next xs ys hz =>
    cases e
    obtain⟨ax,vs,rfl,hs,hr⟩:=rx.tup
    obtain⟨ay,ws,rfl,hs',hr'⟩:=ry.tup
    cases xs with
    | nil =>
     simp only[RepL] at hr
     subst hr
     refine .inr (.inr (.inl ⟨_,_,_,rfl,rfl,hs,hs',k _ F H (Ext.refl d) ?_⟩))
     simp only[Rep]
     exact⟨_,_,rfl,hs',by simpa using hr'⟩
    | cons x0 xr =>
     refine .inr (.inr (.inr (.inl ⟨_,_,_,_,rfl,rfl,hs,hs',?_,?_,fun e0=>?_,fun e0 p hp=>?_⟩)))
     ·intro z
      subst z
      have:=hr.length
      simp at this
     ·rw[z6f,<- hr.length,<- hr'.length]
      exact hz
     ·refine k _ F H (Ext.refl d) ?_
      subst e0
      have e1:ys=[]:=List.eq_nil_of_length_eq_zero (by rw[hr'.length];rfl)
      subst e1
      simp only[Rep]
      exact⟨_,_,rfl,hs,by simpa using hr⟩
     ·have x1:=Ext.laid (o:=.tup (vs++ws)) d hp
      refine k _ F _ x1 ?_
      simp only[Rep]
      exact⟨p,_,rfl,SqT.of z08,(hr.append hr').ext x1⟩
   next=>cases e
  ·split at e
   next xs ys hz =>
    cases e
    obtain⟨ax,vs,rfl,hs,hr⟩:=rx.lst
    obtain⟨ay,ws,rfl,hs',hr'⟩:=ry.lst
    refine .inr (.inr (.inr (.inr ⟨_,_,_,_,rfl,rfl,hs,hs',by rw[z6f,<- hr.length,<- hr'.length];exact hz,fun p hp=>?_⟩)))
    have x1:=Ext.laidF (o:=.lst (vs++ws)) d hp
    refine k _ _ _ x1 ?_
    simp only[Rep]
    exact⟨p,_,rfl,.inr rfl,.inl z08,(hr.append hr').ext x1⟩
   next=>cases e
  ·cases e))
theorem zkm (ha:PEr X a f) (hb:PEr X b g):PEv X (.BinOp a .Sub b pos) (op2 oSub f g) :=
 z0l (zdd zue ha hb) (z3m (by
  intro O F H x y t vx vy Q d rx ry e k
  unfold oSub at e
  split at e
  ·cases e
   rw[rx.int,ry.int]
   exact⟨_,_,rfl,rfl,k _ F H (Ext.refl d) (by simp[Rep])⟩
  ·cases e))
theorem zd9 (ha:PEr X a f) (hb:PEr X b g):PEv X (.BinOp a .Mult b pos) (op2 oMul f g) :=
 z0l (zdd zuf ha hb) (z3m (by
  intro O F H x y t vx vy Q d rx ry e k
  unfold oMul at e
  split at e
  ·split at e
   next hm =>
    cases e
    rw[rx.int,ry.int]
    refine⟨_,_,rfl,rfl,?_,k _ F H (Ext.refl d) (by simp[Rep])⟩
    simpa [ziz,CMul] using hm
   next=>cases e
  ·cases e))
theorem z39 (ha:PEr X a f) (hb:PEr X b g):PEv X (.BinOp a .FloorDiv b pos) (op2 oDiv f g) :=
 z0l (zdd zrz ha hb) (z3m (by
  intro O F H x y t vx vy Q d rx ry e k
  unfold oDiv at e
  split at e
  ·split at e
   next hm =>
    cases e
    rw[rx.int,ry.int]
    exact⟨_,_,rfl,rfl,hm,k _ F H (Ext.refl d) (by simp[Rep])⟩
   next=>cases e
  ·cases e))
theorem z1p (ha:PEr X a f) (hb:PEr X b g):PEv X (.BinOp a .Mod b pos) (op2 oMod f g) :=
 z0l (zdd zug ha hb) (z3m (by
  intro O F H x y t vx vy Q d rx ry e k
  unfold oMod at e
  split at e
  ·split at e
   next hm =>
    cases e
    rw[rx.int,ry.int]
    exact⟨_,_,rfl,rfl,hm,k _ F H (Ext.refl d) (by simp[Rep])⟩
   next=>cases e
  ·cases e))
theorem q_ix (ha:PEr X a f) (hb:PEr X b g) (hs:zgy b:=by intro _ _;rfl):PEv X (.Subscript a b pos) (op2 oIx f g) :=
 z0l (zw4 zuz ha hb hs) (z3m (by
  intro O F H x y t vx vy Q d rx ry e k
  unfold oIx at e
  split at e
  ·obtain⟨ax,vs,rfl,hs,hr⟩:=rx.tup
   rw[ry.int]
   simp only[atZ,y01] at e
   obtain⟨j,hj,et⟩:=e
   obtain⟨v,hv,rv⟩:=hr.get et
   refine .inr (.inl ⟨_,_,_,v,rfl,rfl,hs,?_,k _ F H (Ext.refl d) rv⟩)
   rw[hr.length] at hj
   show (ixN _ _).bind _=_
   rw[show ixN vs.length _=some j from hj]
   exact hv
  ·obtain⟨ax,vs,rfl,hs,hr⟩:=rx.lst
   rw[ry.int]
   simp only[atZ,y01] at e
   obtain⟨j,hj,et⟩:=e
   obtain⟨v,hv,rv⟩:=hr.get et
   refine .inl ⟨_,_,_,v,rfl,rfl,.inl hs,?_,k _ F H (Ext.refl d) rv⟩
   rw[hr.length] at hj
   show (ixN _ _).bind _=_
   rw[show ixN vs.length _=some j from hj]
   exact hv
  ·split at e
   next hz =>
    rw[rx.str,ry.int]
    simp only[y07] at e
    obtain⟨c,hc,rfl⟩:=e
    exact .inr (.inr ⟨_,_,c,rfl,rfl,by rw[z6f];exact hz,hc,k _ F H (Ext.refl d) (by simp[Rep])⟩)
   next=>cases e
  ·cases e))
end
end
section
variable [Tbl]
noncomputable def DO (K:y00) (F₀:Addr->Prop) (H₀:En) (O F:Addr->Prop) (H:Hp) (D:Ends):Out->Prop
 | .nx ε'=>∀σ' F' H',Kp K F H F' H'->RelE K F₀ H₀ O F' H' ε' σ'->D.nx σ' H'
 | .rt t=>∀v F' H',Ext F₀ H₀.h F' H'->Rep K F' H' t v->D.rt v H'
 | .rtm t ε'=>∀v σ' F' H',RelE K F₀ H₀ O F' H' ε' σ'->Rep K F' H' t v->D.rt v H'
 | .rto s=>∀a F' H',Ext F₀ H₀.h F' H'->z3u K H₀ O F' H' s (.ref a)->D.rt (.ref a) H'
 | .bk ε'=>∀σ' F' H',Kp K F H F' H'->RelE K F₀ H₀ O F' H' ε' σ'->D.bk σ' H'
 | .ct ε'=>∀σ' F' H',Kp K F H F' H'->RelE K F₀ H₀ O F' H' ε' σ'->D.ct σ' H'
def tS (K:y00) (g:Fs):TS:=fun D σ H=>∃F₀ H₀ O F ε o,RelE K F₀ H₀ O F H ε σ/\g ε=some o/\DO K F₀ H₀ O F H D o
abbrev PSt (X:Cx) (s:Stmt) (g:Fs):Prop:=PS X s (tS X.K g)
abbrev PBt (X:Cx) (s:List Stmt) (g:Fs):Prop:=PSs X s (tS X.K g)
theorem DO.kp {K:y00} {F₀ O F F1:Addr->Prop} {H₀:En} {H H1:Hp} {D:Ends} {o:Out} (h:DO K F₀ H₀ O F H D o) (x:Kp K F H F1 H1):DO K F₀ H₀ O F1 H1 D o:=by
 cases o with
 | nx ε=>exact fun σ' F' H' k r=>h σ' F' H' (x.trans k) r
 | rt t=>exact h
 | bk ε=>exact fun σ' F' H' k r=>h σ' F' H' (x.trans k) r
 | ct ε=>exact fun σ' F' H' k r=>h σ' F' H' (x.trans k) r
 | rtm t ε=>exact h
 | rto s=>exact h
section
variable {X:Cx} {e a b c:Expr} {f:Fe} {g g':Fs} {ft:Ft} {st:Stmt} {rest:List Stmt} {pos:Pos}
theorem z6r:PBt X [] skip:=zae zks fun D σ H ⟨F₀,H₀,O,F,ε,o,r,e,k⟩=>by
 cases e
 exact k σ F H Kp.refl r
theorem z19 (h:PSt X st g):PBt X [st] g:=z6i h
theorem z0z (h1:PSt X st g) (h2:PBt X rest g'):PBt X (st::rest) (seq g g'):=zae (z4l h1 h2) fun D σ H ⟨F₀,H₀,O,F,ε,o,r,e,k⟩=>by
 simp only[seq,y01] at e
 obtain⟨o1,e1,e2⟩:=e
 refine⟨F₀,H₀,O,F,ε,o1,r,e1,?_⟩
 cases o1 with
 | nx ε'=>exact fun σ' F' H' x r'=>⟨F₀,H₀,O,F',ε',o,r',e2,k.kp x⟩
 | rt t =>
  cases e2
  exact k
 | bk ε' =>
  cases e2
  exact k
 | ct ε' =>
  cases e2
  exact k
 | rtm t ε' =>
  cases e2
  exact k
 | rto s =>
  cases e2
  exact k
theorem z1s (h:PEv X e f):PSt X (.Return (some e) pos) (rtn f):=zi2 (zkt h) fun D σ H ⟨F₀,H₀,O,F,ε,o,r,e,k⟩=>by
 simp only[rtn,y07] at e
 obtain⟨t,et,rfl⟩:=e
 exact⟨F₀,H₀,O,F,ε,t,r,et,fun v F' H' x q=>k v F' H' (r.ent.trans x) q⟩
theorem s_if (hc:PTt X c ft) (ha:PBt X rest g) {els:List Stmt} (hb:PBt X els g'):PSt X (.If c rest els pos) (iff ft g g'):=zi2 (zu1 hc ha hb) fun D σ H ⟨F₀,H₀,O,F,ε,o,r,e,k⟩=>by
 simp only[iff,y01] at e
 obtain⟨b,eb,e⟩:=e
 refine⟨F₀,H₀,O,F,ε,b,r,eb,fun F' H' x=>?_⟩
 cases b with
 | true=>exact iteT ⟨F₀,H₀,O,F',ε,o,r.ext x,by simpa using e,k.kp x.kp⟩
 | false=>exact iteF ⟨F₀,H₀,O,F',ε,o,r.ext x,by simpa using e,k.kp x.kp⟩
theorem z3v (i:Nat) {x:Str} {pos':Pos} (hN:X.N.Nodup) (he:PEv X e f) (hi:X.N[i]?=some x:=by rfl) (hx:Loc X.env.scope x:=by first|exact Or.inl rfl|exact Or.inr rfl)
  (hs:swapsWith e (some (.Name x pos')) pos.line X.env=pure false:=by rfl) (hf:X.fn x=true\/X.env.scope.names.lookup x=some .local:=by first|exact .inl rfl|exact .inr rfl) :
  PSt X (.Assign [.Name x pos'] e pos) (asg i f):=zi2 (zax hN hi hx he hs hf) fun D σ H ⟨F₀,H₀,O,F,ε,o,r,e,k⟩=>by
 simp only[asg,y07] at e
 obtain⟨t,et,rfl⟩:=e
 refine⟨F₀,H₀,O,F,ε,t,r,et,fun v F' H' x q=>?_⟩
 exact k _ F' H' x.kp ((r.ext x).set i q)
def tG (K:y00) (g:Fg):TG:=fun v σ H Q=>∃F₀ H₀ O F ε t ε',RelE K F₀ H₀ O F H ε σ/\Rep K F H t v/\g t ε=some ε'/\∀σ',RelE K F₀ H₀ O F H ε' σ'->Q σ' H
def tGs (K:y00) (gs:List Fg):TGs:=fun vs σ H Q=>∃F₀ H₀ O F ε ts ε',RelE K F₀ H₀ O F H ε σ/\RepL K F H ts vs/\gAll gs ts ε=some ε'/\∀σ',RelE K F₀ H₀ O F H ε' σ'->Q σ' H
abbrev PGt (X:Cx) (e:Expr) (g:Fg):Prop:=PG X e (tG X.K g)
abbrev PGst (X:Cx) (es:List Expr) (gs:List Fg):Prop:=PGs X es (tGs X.K gs)
theorem zqy {X:Cx} {e:Expr} {t t':TG} (h:PG X e t) (k:∀v σ H Q,t' v σ H Q->t v σ H Q):PG X e t':=fun pins s σ H v u Q I r q=>h pins s σ H v u Q I r (k v σ H Q q)
theorem znh {X:Cx} {e:List Expr} {t t':TGs} (h:PGs X e t) (k:∀v σ H Q,t' v σ H Q->t v σ H Q):PGs X e t':=fun pins s σ H v u Q I r q=>h pins s σ H v u Q I r (k v σ H Q q)
theorem g_nm (i:Nat) {x:Str} (hN:X.N.Nodup) (hi:X.N[i]?=some x:=by rfl) (hx:Loc X.env.scope x:=by first|exact Or.inl rfl|exact Or.inr rfl)
  (hf:X.fn x=true\/X.env.scope.names.lookup x=some .local:=by first|exact .inl rfl|exact .inr rfl):PGt X (.Name x pos) (gNm i):=zqy (zrn hN hi hx hf) fun v σ H Q ⟨F₀,H₀,O,F,ε,t,ε',r,q,e,k⟩=>by
 cases e
 exact k _ (r.set i q)
theorem zpg:PGst X [] []:=znh zrm fun vs σ H Q ⟨F₀,H₀,O,F,ε,ts,ε',r,q,e,k⟩=>by
 cases ts with
 | nil =>
  cases e
  simp only[RepL] at q
  exact⟨q,k σ r⟩
 | cons t ts=>cases e
theorem z6a {es:List Expr} {g:Fg} {gs:List Fg} (h1:PGt X e g) (h2:PGst X es gs) (hs:(y2y (e::es) X.env).map (·.2)=assign e X.env::(y2y es X.env).map (·.2):=by rfl):PGst X (e::es) (g::gs) :=
 znh (zog h1 h2 hs) fun vs σ H Q ⟨F₀,H₀,O,F,ε,ts,ε',r,q,e,k⟩=>by
 cases ts with
 | nil=>cases e
 | cons t ts =>
  simp only[gAll,y01] at e
  obtain⟨ε1,e1,e2⟩:=e
  simp only[RepL] at q
  obtain⟨v,vr,rfl,q1,q2⟩:=q
  exact⟨v,vr,rfl,F₀,H₀,O,F,ε,t,ε1,r,q1,e1,fun σ1 r1=>⟨F₀,H₀,O,F,ε1,ts,ε',r1,q2,e2,k⟩⟩
theorem zho:∀{gs:List Fg} {ts:List T} {ε ε':Ev},gAll gs ts ε=some ε'->ts.length=gs.length
 | [],[],_,_,_=>rfl
 | [],_::_,_,_,h=>by cases h
 | _::_,[],_,_,h=>by cases h
 | g::gs,t::ts,ε,ε',h=>by
  simp only[gAll,y01] at h
  obtain⟨ε1,_,h⟩:=h
  simp[zho h]
theorem zpf {es:List Expr} {k:Nat} {gs:List Fg} (h:PGst X es gs) (hc:X.calm=true:=by rfl) (hn:(y2y es X.env).length=gs.length:=by rfl) (hst:(y2y es X.env).findIdx? (·.1)=none:=by rfl) :
  PGt X (.Tuple es k pos) (gTu gs):=zqy (zu4 hc h hn hst) fun v σ H Q ⟨F₀,H₀,O,F,ε,t,ε',r,q,e,k⟩=>by
 unfold gTu at e
 split at e
 next ts =>
  simp only[Rep] at q
  obtain⟨a,vs,rfl,hs,hr⟩:=q
  exact⟨a,vs,rfl,hs,by rw[<- hr.length];exact zho e,F₀,H₀,O,F,ε,ts,ε',r,hr,e,k⟩
 next=>cases e
structure ItOk (K:y00) (J:It) (F1:Addr->Prop) (H1:Hp) (ts:List T):Prop where
 go:∀i F H t,Kp K F1 H1 F H->Dom F H->ts[i]?=some t->J.go i H
 yld:∀i F H t x H',Kp K F1 H1 F H->Dom F H->ts[i]?=some t->J.yld i H x H'->∃F',Ext F H F' H'/\Rep K F' H' t x
 stop:∀i F H,Kp K F1 H1 F H->ts.length<=i->J.stop i H
def tI (K:y00) (f:Fi):TI:=fun σ H R=>∃F₀ H₀ O F ε ts,RelE K F₀ H₀ O F H ε σ/\f ε=some ts/\∀J F' H',Ext F H F' H'->ItOk K J F' H' ts->R J H'
abbrev PIt (X:Cx) (tg e:Expr) (f:Fi):Prop:=PI X tg e (tI X.K f)
theorem zi3 {X:Cx} {tg e:Expr} {t t':TI} (h:PI X tg e t) (k:∀σ H R,t' σ H R->t σ H R):PI X tg e t':=fun pins s σ H R I q=>h pins s σ H R I (k σ H R q)
theorem ze4 {K:y00} {a:Addr} {F1:Addr->Prop} {H1:Hp} {ts:List T} {vs:List V} (fa:F1 a) (hr:Rd H1 a (.lst vs)) (q:RepL K F1 H1 ts vs):ItOk K (Itl K a) F1 H1 ts where
 go:=fun i F H t kp d e=>by
  obtain⟨v,h1,_⟩:=q.get e
  exact⟨vs,v,.inl (kp.lst _ _ fa hr).2,h1⟩
 yld:=fun i F H t x H' kp d e y=>by
  obtain⟨rfl,y⟩:=y
  obtain⟨v,h1,h2⟩:=(q.kp kp).get e
  have:=y vs (.inl (kp.lst _ _ fa hr).2)
  rw[h1] at this
  cases this
  exact⟨F,Ext.refl d,h2⟩
 stop:=fun i F H kp hl=>⟨vs,.inl (kp.lst _ _ fa hr).2,by rw[<- q.length];exact hl⟩
theorem zhm {K:y00} {a:Addr} {F1:Addr->Prop} {H1:Hp} {ts:List T} {vs:List V} (hr:SqT K H1 a vs) (q:RepL K F1 H1 ts vs):ItOk K (Itt K a) F1 H1 ts where
 go:=fun i F H t kp d e=>by
  obtain⟨v,h1,_⟩:=q.get e
  exact⟨vs,v,kp.tup _ _ hr,h1⟩
 yld:=fun i F H t x H' kp d e y=>by
  obtain⟨rfl,y⟩:=y
  obtain⟨v,h1,h2⟩:=(q.kp kp).get e
  have:=y vs (kp.tup _ _ hr)
  rw[h1] at this
  cases this
  exact⟨F,Ext.refl d,h2⟩
 stop:=fun i F H kp hl=>⟨vs,kp.tup _ _ hr,by rw[<- q.length];exact hl⟩
theorem zfi (lo hi:Int):(rng lo hi).length=(hi - lo).toNat:=by simp[rng]
theorem zp7 {K:y00} {F1:Addr->Prop} {H1:Hp} (lo hi:Int):ItOk K (Itr lo (hi - lo).toNat) F1 H1 (rng lo hi) where
 go:=fun i F H t kp d e=>by
  have h:=(y0k.mp e).1
  rw[zfi] at h
  exact h
 yld:=fun i F H t x H' kp d e y=>by
  obtain⟨rfl,rfl⟩:=y
  refine⟨F,Ext.refl d,?_⟩
  have h:=(y0k.mp e).1
  rw[zfi] at h
  unfold rng at e
  rw[y14,List.getElem?_range h] at e
  simp at e
  subst e
  simp[Rep]
 stop:=fun i F H kp hl=>by
  rw[zfi] at hl
  exact hl
def iSq (K:y00) (tl:TE):TI:=fun σ H R=>tl σ H fun x H1=>∃a,x=.ref a/\(((∃xs,SqL K H1 a xs)/\R (Itl K a) H1)\/((∃xs,SqT K H1 a xs)/\R (Itt K a) H1))
theorem zw2 {tg l:Expr} {tl:TE} (hl:PE X l tl):PI X tg l (iSq X.K tl):=by
 intro pins s σ H R I h
 refine thn (hl pins s σ H _ I h) fun v s1 ⟨x,H1,I1,r1,a,e1,q⟩=>?_
 subst e1
 cases r1
 have fp:∀b∈[s1.heap.objs.size],FpOk X pins H1 b:=fun b hb=>by
  have e:b=s1.heap.objs.size:=by simpa using hb
  subst e
  exact I1.fpOk (y0o _) (I1.hok.fresh (y0o _))
 rcases q with ⟨⟨xs,hq⟩,q⟩|⟨⟨xs,hq⟩,q⟩
 ·obtain⟨its,rv,p,hz⟩:=I1.list hq
  refine wpAny_pyIter_list p.isList ?_
  exact⟨s1.heap.objs.size,[s1.heap.objs.size],_,_,H1,rfl,I1.kept (t':=s1.toks) fun b o e=>y03 _ e,zcl a _,⟨_,y0l _ rfl,rfl,rfl⟩,fp,q⟩
 ·obtain⟨its,rv,p,hz⟩:=I1.tuple hq
  refine y2o (show s1.heap.IsTuple a its.toArray from p) ?_
  exact⟨s1.heap.objs.size,[s1.heap.objs.size],_,_,H1,rfl,I1.kept (t':=s1.toks) fun b o e=>y03 _ e,zal a _,⟨_,y0l _ rfl,rfl,rfl⟩,fp,q⟩
theorem zj4 {tg l:Expr} {f:Fe} (hl:PEv X l f):PIt X tg l (z1e f):=zi3 (zw2 hl) fun σ H R ⟨F₀,H₀,O,F,ε,ts,r,e,k⟩=>by
 simp only[z1e,y01] at e
 obtain⟨t,et,e⟩:=e
 split at e
 ·cases e
  refine⟨F₀,H₀,O,F,ε,_,r,et,fun v F' H' x q=>?_⟩
  simp only[Rep] at q
  obtain⟨a,vs,rfl,hs,hr⟩:=q
  exact⟨a,rfl,.inr ⟨⟨vs,hs⟩,k _ F' H' x (zhm hs hr)⟩⟩
 ·cases e
  refine⟨F₀,H₀,O,F,ε,_,r,et,fun v F' H' x q=>?_⟩
  simp only[Rep] at q
  obtain⟨a,vs,rfl,fa,hs,hr⟩:=q
  exact⟨a,rfl,.inl ⟨⟨vs,.inl hs⟩,k _ F' H' x (ze4 fa hs hr)⟩⟩
 ·cases e
theorem zqm {tg a:Expr} {f:Fe} {p pos:Pos} (hm:X.mg "range"=none) (ha:PEr X a f) (hg:Gl X "range":=by rfl) (hs:y0a [a] X.env=[(false,eval a X.env)]:=by rfl) (hs2:y0a [a] X.env=(false,eval a X.env)::y0a [] X.env:=by rfl) :
  PIt X tg (.Call (.Name "range" p) [a] [] pos) (z26 f):=zi3 (zkx hg hm (z13 ha z34 hs2) hs) fun σ H R ⟨F₀,H₀,O,F,ε,ts,r,e,k⟩=>by
 simp only[z26,y01] at e
 obtain⟨t,et,e⟩:=e
 split at e
 next j =>
  split at e
  next hz =>
   cases e
   refine⟨F₀,H₀,O,F,ε,_,r,et,fun v F' H' x q=>⟨j,by rw[q.int],?_,?_,k _ F' H' x (by simpa using zp7 0 j)⟩⟩
   ·simp[z6d] at hz
    omega
   ·simp[z6d] at hz
    omega
  next=>cases e
 next=>cases e
theorem zd0 {tg iter:Expr} {body:List Stmt} {it:Fi} {gg:Fg} {bb:Fs} (hp:PassesOwn (y33 X.prog X.w) X.A X.env X.xe) (hi:PIt X tg iter it) (hg:PGt X tg gg) (hb:PBt X body bb) (hc:X.calm=true:=by rfl)
  (hs:∀x,y34 iter X.env x=pure x:=by intro _;rfl):PSt X (.For tg iter body [] pos) (for_ it gg bb):=zi2 (zu2 hp hc hi hg hb hs) fun D σ H ⟨F₀,H₀,O,F,ε,o,r,e,k⟩=>by
 simp only[for_,y01] at e
 obtain⟨ts,et,e⟩:=e
 refine⟨F₀,H₀,O,F,ε,ts,r,et,fun J F1 H1 x1 ok=>?_⟩
 refine⟨fun i m σ' H'=>m=ts.length - i/\i<=ts.length/\∃F' ε' ,Kp X.K F1 H1 F' H'/\RelE X.K F₀ H₀ O F' H' ε' σ'/\forL gg bb (ts.drop i) ε'=some o,⟨_,rfl,y23 _,F1,ε,Kp.refl,r.ext x1,by simpa using e⟩,?_⟩
 rintro i m σ' H' ⟨rfl,hi',F',ε',kp,r',e'⟩
 by_cases hlt:i<ts.length
 ·have hd:ts.drop i=ts[i]::ts.drop (i+1):=List.drop_eq_getElem_cons hlt
  have hg':ts[i]?=some ts[i]:=y0v hlt
  rw[hd] at e'
  simp only[forL,y01] at e'
  obtain⟨ε1,eg,o1,eb,e'⟩:=e'
  refine .inr ⟨ok.go i F' H' _ kp r'.dom hg',fun σ2 H2=>∃m',m'<ts.length - i/\(m'=ts.length - (i+1)/\i+1<=ts.length/\∃F2 ε2,Kp X.K F1 H1 F2 H2/\RelE X.K F₀ H₀ O F2 H2 ε2 σ2/\forL gg bb (ts.drop (i+1)) ε2=some o),fun _ _ z=>z,fun x H2 y=>?_⟩
  obtain⟨F2,x2,rx⟩:=ok.yld i F' H' _ x H2 kp r'.dom hg' y
  refine⟨F₀,H₀,O,F2,ε',_,ε1,r'.ext x2,rx,eg,fun σ3 r3=>⟨F₀,H₀,O,F2,ε1,o1,r3,eb,?_⟩⟩
  have kp2:Kp X.K F1 H1 F2 H2:=kp.trans x2.kp
  cases o1 with
  | nx ε2=>exact fun σ4 F4 H4 k4 r4=>⟨_,by omega,rfl,hlt,F4,ε2,kp2.trans k4,r4,e'⟩
  | ct ε2=>exact fun σ4 F4 H4 k4 r4=>⟨_,by omega,rfl,hlt,F4,ε2,kp2.trans k4,r4,e'⟩
  | bk ε2 =>
   cases e'
   exact fun σ4 F4 H4 k4 r4=>k σ4 F4 H4 ((x1.kp.trans kp2).trans k4) r4
  | rt t =>
   cases e'
   exact k
  | rtm t ε2 =>
   cases e'
   exact k
  | rto s =>
   cases e'
   exact k
 ·have hd:ts.drop i=[]:=List.drop_eq_nil_of_le (by omega)
  rw[hd] at e'
  cases e'
  exact .inl ⟨ok.stop i F' H' kp (by omega),k σ' F' H' (x1.kp.trans kp) r'⟩
end
end
section
variable [Tbl]
section
variable {X:Cx} {a b c e:Expr} {es:List Expr} {f g h:Fe} {fs:List Fe} {ft gt:Ft} {pos p:Pos}
theorem z1d:PAr X [] []:=zf1 z34 fun σ H Q ⟨F₀,H₀,O,F,ε,ts,r,e,k⟩=>by
 cases e
 exact k [] F H (Ext.refl r.dom) .nil
theorem z0n (ha:PEr X e f) (hr:PAr X es fs) (hs:y0a (e::es) X.env=(false,eval e X.env)::y0a es X.env:=by rfl):PAr X (e::es) (f::fs):=zf1 (z13 ha hr hs) fun σ H Q ⟨F₀,H₀,O,F,ε,ts,r,e,k⟩=>by
 simp only[args,y01,y07] at e
 obtain⟨t,et,us,eu,rfl⟩:=e
 refine⟨F₀,H₀,O,F,ε,t,r,et,fun v F1 H1 x1 q1=>⟨F₀,H₀,O,F1,ε,us,r.ext x1,eu,fun vs F2 H2 x2 q2=>?_⟩⟩
 exact k _ F2 H2 (x1.trans x2) (.cons (q1.ext x2) q2)
theorem z0a:PAv X [] []:=zf1 z34 fun σ H Q ⟨F₀,H₀,O,F,ε,ts,r,e,k⟩=>by
 cases e
 exact k [] F H (Ext.refl r.dom) RepL.nil
theorem z00 (ha:PEv X e f) (hr:PAv X es fs) (hs:y0a (e::es) X.env=(false,eval e X.env)::y0a es X.env:=by rfl):PAv X (e::es) (f::fs):=zf1 (z13 ha hr hs) fun σ H Q ⟨F₀,H₀,O,F,ε,ts,r,e,k⟩=>by
 simp only[args,y01,y07] at e
 obtain⟨t,et,us,eu,rfl⟩:=e
 refine⟨F₀,H₀,O,F,ε,t,r,et,fun v F1 H1 x1 q1=>⟨F₀,H₀,O,F1,ε,us,r.ext x1,eu,fun vs F2 H2 x2 q2=>?_⟩⟩
 exact k _ F2 H2 (x1.trans x2) (RepL.cons (q1.ext x2) q2)
theorem z1t {x1} (h:PAv X es fs):PEv X (.Tuple es x1 pos) (z01 fs):=z0l (zdb h) fun σ H Q ⟨F₀,H₀,O,F,ε,t,r,e,k⟩=>by
 simp only[z01,y01] at e
 obtain⟨ts,et,e⟩:=e
 split at e
 next hz =>
  cases e
  refine⟨F₀,H₀,O,F,ε,ts,r,et,fun vs F1 H1 x1 q1=>⟨by rw[z6f,<- q1.length];exact hz,fun p hp=>?_⟩⟩
  have x2:=Ext.laid (o:=.tup vs) x1.dom hp
  refine k _ F1 _ (x1.trans x2) ?_
  simp only[Rep]
  exact⟨p,vs,rfl,SqT.of z08,q1.ext x2⟩
 next=>cases e
theorem zvy (h:PAv X es fs):PEn X (.List es pos) (z0p fs):=z0l (zqg h) fun σ H Q ⟨F₀,H₀,O,F,ε,us,r,e,k⟩=>by
 simp only[z0p,y01] at e
 obtain⟨ts,et,e⟩:=e
 split at e
 next hz =>
  cases e
  refine⟨F₀,H₀,O,F,ε,_,r,et,fun vs F1 H1 x1 q1=>⟨by rw[z6f,<- q1.length];exact hz,fun p hp=>?_⟩⟩
  have x2:=Ext.laid (o:=.lst vs) x1.dom hp
  refine k p vs F1 _ (x1.trans x2) ?_ ?_ z08 (q1.ext x2)
  ·exact x1.same.none hp
  ·intro fp
   obtain⟨o,eo⟩:=x1.dom p fp
   rw[hp] at eo
   cases eo
 next=>cases e
theorem zkn (h:PAv X es fs):PEv X (.List es pos) (z0p fs):=n2v (zvy h) fun ε t e=>by
 simp only[z0p,y01] at e
 obtain⟨ts,et,e⟩:=e
 split at e
 ·cases e
  exact⟨_,rfl⟩
 ·cases e
mutual
theorem zbs {F:Addr->Prop} {pins:List (Addr×Obj)} {σ:L2.St} {H:Hp} {s:y04} (I:Inv X pins σ H s):∀{t:T} {v:V} {u:Value},Rep X.K F H t v->RelV v u->∃as,Reads s.heap u t as
 | .none,v,u,h,r=>by
  simp only[Rep] at h
  subst h
  cases r
  exact⟨_,.none⟩
 | .bool b,v,u,h,r=>by
  simp only[Rep] at h
  subst h
  cases r
  exact⟨_,.bool b⟩
 | .int i,v,u,h,r=>by
  simp only[Rep] at h
  subst h
  obtain⟨t,rfl⟩:=r
  exact⟨_,.int i t⟩
 | .str x,v,u,h,r=>by
  simp only[Rep] at h
  subst h
  obtain⟨t,rfl⟩:=r
  exact⟨_,.str x t⟩
 | .dict _,v,u,h,r=>by simp[Rep] at h
 | .tuple ts,v,u,h,r=>by
  simp only[Rep] at h
  obtain⟨a,vs,rfl,hs,hr⟩:=h
  cases r
  obtain⟨its,rv,⟨o,h1,h2,n,h3⟩,hz⟩:=I.tuple hs
  obtain⟨as,ra⟩:=z75 I hr rv
  exact⟨_,.tuple h1 h2 h3 (by simpa using ra)⟩
 | .list ts,v,u,h,r=>by
  simp only[Rep] at h
  obtain⟨a,vs,rfl,fa,hs,hr⟩:=h
  cases r
  obtain⟨z,its,n,rv,hl,e⟩:=Inv.lstR I hs
  obtain⟨as,ra⟩:=z75 I hr rv
  exact⟨_,.list e rfl rfl (by simpa using ra)⟩
theorem z75 {F:Addr->Prop} {pins:List (Addr×Obj)} {σ:L2.St} {H:Hp} {s:y04} (I:Inv X pins σ H s):∀{ts:List T} {vs:List V} {us:List Value},RepL X.K F H ts vs->Vals vs us->∃as,ReadsAll s.heap us ts as
 | [],vs,us,h,r=>by
  simp only[RepL] at h
  subst h
  cases r
  exact⟨_,.nil⟩
 | t::ts,vs,us,h,r=>by
  simp only[RepL] at h
  obtain⟨v,vr,rfl,h1,h2⟩:=h
  cases r with
  | cons r1 r2 =>
   obtain⟨as,q1⟩:=zbs I h1 r1
   obtain⟨bs,q2⟩:=z75 I h2 r2
   exact⟨_,.cons q1 q2⟩
end
theorem z74 {O F:Addr->Prop} {pins:List (Addr×Obj)} {σ:L2.St} {H:Hp} {s:y04} (I:Inv X pins σ H s) {t:T} {v:V} {u:Value} (h:RepR X.K O F H t v) (r:RelV v u):∃as,Reads s.heap u t as:=by
 rcases h with h|⟨ts,a,vs,rfl,rfl,ha,h⟩
 ·exact zbs I h r
 ·cases r
  obtain⟨z,its,n,rv,hl,e⟩:=Inv.lstR I (.inl ha)
  obtain⟨as,ra⟩:=z75 I h rv
  exact⟨_,.list e rfl rfl (by simpa using ra)⟩
theorem zhi {t:T} (h:okT t=true):t.canLay0=true/\t.depth<=60:=by
 simp only[okT,y1b,decide_eq_true_eq] at h
 exact h
noncomputable def zo8 (K:y00) (n:Bool):R2:=fun x y H Q=>∃(O F:Addr->Prop) (s t:T),RepR K O F H s x/\RepR K O F H t y/\okT s=true/\okT t=true/\Q (.bl (if n then !PyData.eqv s t else y1z s t)) H
theorem z5d (hu:X.A.units+64<cLine):OpR X (y2p .Eq) (zo8 X.K false):=by
 intro pins s σ H x y v u Q I rx ry ⟨O,F,d,t,h1,h2,o1,o2,q⟩
 obtain⟨as,ra⟩:=z74 I h1 rx
 obtain⟨bs,rb⟩:=z74 I h2 ry
 obtain⟨c1,l1⟩:=zhi o1
 obtain⟨c2,l2⟩:=zhi o2
 refine SeqAt.compareEq_reads ra rb c1 c2 (by have:=Nat.min_le_left d.depth t.depth;omega) ?_
 exact⟨.bl _,H,I,rfl,q⟩
theorem zaz (hu:X.A.units+64<cLine):OpR X (y2p .NotEq) (zo8 X.K true):=by
 intro pins s σ H x y v u Q I rx ry ⟨O,F,d,t,h1,h2,o1,o2,q⟩
 obtain⟨as,ra⟩:=z74 I h1 rx
 obtain⟨bs,rb⟩:=z74 I h2 ry
 obtain⟨c1,l1⟩:=zhi o1
 obtain⟨c2,l2⟩:=zhi o2
 refine SeqAt.compareNe_reads ra rb c1 c2 (by have:=Nat.min_le_left d.depth t.depth;omega) ?_
 exact⟨.bl _,H,I,rfl,q⟩
theorem zri {op:CmpOp} {R:R2} {o:T->T->Option T} (ho:OpR X (y2p op) R) (h2:Op2 X.K o R) (ha:PEr X a f) (hb:PEr X b g) (hm:y2v op b=false:=by first|exact zlb _|rfl):PEv X (.Compare a [op] [b] pos) (op2 o f g):=z0l (zrr ho ha hb hm) (z3m h2)
theorem z2t {op:CmpOp} {R:R2} {o:T->T->Option T} (ho:OpR X (y2p op) R) (h2:Op2 X.K o R) (ha:PEr X a f) (hb:PEr X b g) (hm:y2v op b=false:=by first|exact zlb _|rfl):PTt X (.Compare a [op] [b] pos) (tstB (op2 o f g)) :=
 zf0 (zkr ho ha hb hm) fun σ H Q ⟨F₀,H₀,O,F,ε,b,r,e,k⟩=>by
 simp only[tstB,y01] at e
 obtain⟨t,et,e⟩:=e
 split at e
 ·cases e
  refine z3m h2 σ H _ ⟨F₀,H₀,O,F,ε,_,r,et,fun v F' H' x q=>?_⟩
  simp only[Rep] at q
  exact⟨_,q,k F' H' x⟩
 ·cases e
theorem z5f:Op2 X.K oEq (zo8 X.K false):=by
  intro O F H x y t vx vy Q d rx ry e k
  unfold oEq at e
  split at e
  next hz =>
   cases e
   rw[y1b] at hz
   exact⟨O,F,x,y,rx,ry,hz.1,hz.2,k _ F H (Ext.refl d) (by simp[Rep])⟩
  next=>cases e
theorem zb0:Op2 X.K oNe (zo8 X.K true):=by
  intro O F H x y t vx vy Q d rx ry e k
  unfold oNe at e
  split at e
  next hz =>
   cases e
   rw[y1b] at hz
   exact⟨O,F,x,y,rx,ry,hz.1,hz.2,k _ F H (Ext.refl d) (by simp[Rep])⟩
  next=>cases e
theorem zqi:Op2 X.K oLt (fun x y H Q=>rI0 (fun i j=>.bl (decide (i<j))) x y H Q\/∃i j,x=.str i/\y=.str j/\Q (.bl (decide (i.cps.toList<j.cps.toList))) H):=by
  intro O F H x y t vx vy Q d rx ry e k
  unfold oLt at e
  split at e
  ·cases e
   rw[rx.int,ry.int]
   exact .inl ⟨_,_,rfl,rfl,k _ F H (Ext.refl d) (by simp[Rep])⟩
  ·cases e
   rw[rx.str,ry.str]
   exact .inr ⟨_,_,rfl,rfl,k _ F H (Ext.refl d) (by simp[Rep,strLt])⟩
  ·cases e
theorem z77:OpR X (y2p .LtE) (fun x y H Q=>∃i j,x=.str i/\y=.str j/\Q (.bl (!strLt j i)) H):=by
 intro pins s σ H x y v u Q I rx ry ⟨i,j,e1,e2,q⟩
 subst e1 e2
 obtain⟨t,rfl⟩:=rx
 obtain⟨t',rfl⟩:=ry
 exact PySem.P.le_str (z27 I q (by simp[strLt]))
theorem zl1:OpR X (y2p .GtE) (fun x y H Q=>∃i j,x=.str i/\y=.str j/\Q (.bl (!strLt i j)) H):=by
 intro pins s σ H x y v u Q I rx ry ⟨i,j,e1,e2,q⟩
 subst e1 e2
 obtain⟨t,rfl⟩:=rx
 obtain⟨t',rfl⟩:=ry
 exact PySem.P.ge_str (z27 I q (by simp[strLt]))
theorem z2w:OpR X (y2p .Gt) (fun x y H Q=>∃i j,x=.str i/\y=.str j/\Q (.bl (strLt j i)) H):=by
 intro pins s σ H x y v u Q I rx ry ⟨i,j,e1,e2,q⟩
 subst e1 e2
 obtain⟨t,rfl⟩:=rx
 obtain⟨t',rfl⟩:=ry
 exact PySem.P.gt_str (z27 I q (by simp[strLt]))
theorem zhh:Op2 X.K oLe (fun x y H Q=>rI0 (fun i j=>.bl (decide (i<=j))) x y H Q\/∃i j,x=.str i/\y=.str j/\Q (.bl (!strLt j i)) H):=by
 intro O F H x y t vx vy Q d rx ry e k
 unfold oLe at e
 split at e
 ·cases e
  rw[rx.int,ry.int]
  exact .inl ⟨_,_,rfl,rfl,k _ F H (Ext.refl d) (by simp[Rep])⟩
 ·cases e
  rw[rx.str,ry.str]
  exact .inr ⟨_,_,rfl,rfl,k _ F H (Ext.refl d) (by simp[Rep])⟩
 ·cases e
theorem z80:Op2 X.K oGt (fun x y H Q=>rI0 (fun i j=>.bl (decide (j<i))) x y H Q\/∃i j,x=.str i/\y=.str j/\Q (.bl (strLt j i)) H):=by
 intro O F H x y t vx vy Q d rx ry e k
 unfold oGt at e
 split at e
 ·cases e
  rw[rx.int,ry.int]
  exact .inl ⟨_,_,rfl,rfl,k _ F H (Ext.refl d) (by simp[Rep])⟩
 ·cases e
  rw[rx.str,ry.str]
  exact .inr ⟨_,_,rfl,rfl,k _ F H (Ext.refl d) (by simp[Rep])⟩
 ·cases e
theorem zuj:Op2 X.K oGe (fun x y H Q=>rI0 (fun i j=>.bl (decide (j<=i))) x y H Q\/∃i j,x=.str i/\y=.str j/\Q (.bl (!strLt i j)) H):=by
 intro O F H x y t vx vy Q d rx ry e k
 unfold oGe at e
 split at e
 ·cases e
  rw[rx.int,ry.int]
  exact .inl ⟨_,_,rfl,rfl,k _ F H (Ext.refl d) (by simp[Rep])⟩
 ·cases e
  rw[rx.str,ry.str]
  exact .inr ⟨_,_,rfl,rfl,k _ F H (Ext.refl d) (by simp[Rep])⟩
 ·cases e
theorem zhc (ha:PEr X a f) (hb:PEr X b g) (hc:PEr X c h) (hm:lastMarks [.LtE,.LtE] [b,c]=false:=by with_unfolding_all rfl):PEv X (.Compare a [.LtE,.LtE] [b,c] pos) (chain oLe oLe f g h) :=
 z0l (zoj (zon.or z77) (zon.or z77) ha hb hc hm) fun σ H Q ⟨F₀,H₀,O,F,ε,t,r,e,k⟩=>by
 simp only[chain,y01] at e
 obtain⟨x,ex,y,ey,z,ez,e⟩:=e
 refine⟨F₀,H₀,O,F,ε,x,r,ex,fun vx F1 H1 x1 rx=>⟨F₀,H₀,O,F1,ε,y,r.ext x1,ey,fun vy F2 H2 x2 ry=>?_⟩⟩
 refine zhh (X:=X) O F2 H2 x y z vx vy _ x2.dom (rx.ext x2) ry ez fun v F3 H3 x3 q3=>?_
 split at e
 ·simp only[Rep] at q3
  subst q3
  simp only[y01] at e
  obtain⟨w,ew,ep⟩:=e
  refine⟨true,rfl,iteT ⟨F₀,H₀,O,F3,ε,w,((r.ext x1).ext x2).ext x3,ew,fun vw F4 H4 x4 rw'=>?_⟩⟩
  exact zhh (X:=X) O F4 H4 y w t vy vw _ x4.dom ((ry.ext x3).ext x4) rw' ep fun v F5 H5 x5 q5=>k v F5 H5 ((((x1.trans x2).trans x3).trans x4).trans x5) q5
 ·simp only[Rep] at q3
  subst q3
  cases e
  exact⟨false,rfl,iteF (k _ F3 H3 ((x1.trans x2).trans x3) (by simp[Rep]))⟩
 ·cases e
theorem zvz {j pos'} (ha:PEr X a f):PEv X (.Compare a [.Is] [.Constant .none j pos'] pos) (op1 oIsN f):=z0l (zu9 (zud ha)) fun σ H Q ⟨F₀,H₀,O,F,ε,t,r,e,k⟩=>by
 simp only[op1,y01] at e
 obtain⟨x,ex,e⟩:=e
 cases e
 refine⟨F₀,H₀,O,F,ε,x,r,ex,fun v F1 H1 x1 rx=>k _ F1 H1 x1 ?_⟩
 cases x with
 | none=>rw[rx.non];simp[Rep]
 | bool b=>rw[rx.bl];simp[Rep]
 | int b=>rw[rx.int];simp[Rep]
 | str b=>rw[rx.str];simp[Rep]
 | tuple b=>obtain⟨_,_,e,_⟩:=rx.tup;rw[e];simp[Rep]
 | list b=>obtain⟨_,_,e,_⟩:=rx.lst;rw[e];simp[Rep]
 | dict b=>rcases rx with rx|⟨_,_,_,z,_⟩;simp[Rep] at rx;cases z
theorem zrh (ha:PEr X a f):PEv X (.UnaryOp .USub a pos) (op1 oNeg f):=z0l (zro zju ha) fun σ H Q ⟨F₀,H₀,O,F,ε,t,r,e,k⟩=>by
 simp only[op1,y01] at e
 obtain⟨x,ex,e⟩:=e
 unfold oNeg at e
 split at e
 ·cases e
  exact⟨F₀,H₀,O,F,ε,_,r,ex,fun v F1 H1 x1 rx=>⟨_,rx.int,k _ F1 H1 x1 (by simp[Rep])⟩⟩
 ·cases e
noncomputable def OpN (K:y00) (o:List T->Option T) (R:List V->Hp->VK->Prop):Prop :=
 ∀(O F:Addr->Prop) (H:Hp) (ts:List T) (t:T) (vs:List V) (Q:VK),Dom F H->Paired (RepR K O F H) ts vs->o ts=some t ->
  (∀v F' H',Ext F H F' H'->Rep K F' H' t v->Q v H')->R vs H Q
theorem z5e {o:List T->Option T} {R:List V->Hp->VK->Prop} (hR:OpN X.K o R):∀σ H Q,tV X.K (opN o fs) σ H Q->tCB R (tAR X.K fs) σ H Q:=by
 rintro σ H Q ⟨F₀,H₀,O,F,ε,t,r,e,k⟩
 simp only[opN,y01] at e
 obtain⟨ts,et,eo⟩:=e
 exact⟨F₀,H₀,O,F,ε,ts,r,et,fun vs F1 H1 x1 q=>hR O F1 H1 ts t vs Q x1.dom q eo fun v F' H' x3 q3=>k v F' H' (x1.trans x3) q3⟩
theorem zq2 {u:Value} {r r':List V->Hp->VK->Prop} (h1:z3x X u r) (h2:z3x X u r'):z3x X u (fun xs H Q=>r xs H Q\/r' xs H Q):=h1.or h2
theorem z8z (hm:X.mg "len"=none) (ha:PAr X (e::es) fs) (hg:Gl X "len":=by rfl) (he:y0a (e::es) X.env=(false,eval e X.env)::y0a es X.env:=by rfl) (hpl:(y2j pos (y0a es X.env)).any (·.1)=false:=by rfl) :
  PEv X (.Call (.Name "len" p) (e::es) [] pos) (opN oLen fs):=z0l (z42 (zem.or zel) hg hm PySem.boot_len ha (he:=he) (hpl:=hpl)) (z5e (by
 intro O F H ts t vs Q d q e k
 unfold oLen at e
 split at e
 ·cases e
  cases q with
  | cons q1 q2 =>
   cases q2
   obtain⟨a,ws,rfl,hs,hr⟩:=q1.tup
   exact .inl ⟨a,ws,rfl,.inr hs,k _ F H (Ext.refl d) (by simp[Rep,hr.length])⟩
 ·cases e
  cases q with
  | cons q1 q2 =>
   cases q2
   obtain⟨a,ws,rfl,hs,hr⟩:=q1.lst
   exact .inl ⟨a,ws,rfl,.inl (.inl hs),k _ F H (Ext.refl d) (by simp[Rep,hr.length])⟩
 ·split at e
  next hz =>
   cases e
   cases q with
   | cons q1 q2 =>
    cases q2
    exact .inr ⟨_,by rw[q1.str],by rw[z6f];exact hz,k _ F H (Ext.refl d) (by simp[Rep])⟩
  next=>cases e
 ·cases e))
theorem zvw (hm:X.mg "min"=none) (ha:PAr X (e::es) fs) (hc:X.calm=true:=by rfl) (hg:Gl X "min":=by rfl) (he:y0a (e::es) X.env=(false,eval e X.env)::y0a es X.env:=by rfl) (hpl:(y2j pos (y0a es X.env)).any (·.1)=false:=by rfl) :
  PEv X (.Call (.Name "min" p) (e::es) [] pos) (opN oMin fs):=z0l (z42 (zmw hc) hg hm (by decide +kernel) ha (he:=he) (hpl:=hpl)) (z5e (by
 intro O F H ts t vs Q d q e k
 unfold oMin at e
 split at e
 ·cases e
  cases q with
  | cons q1 q2 =>
   cases q2 with
   | cons q2 q3 =>
    cases q3
    exact⟨_,_,by rw[q1.int,q2.int],k _ F H (Ext.refl d) (by simp[Rep])⟩
 ·cases e))
theorem zvx (hm:X.mg "max"=none) (ha:PAr X (e::es) fs) (hc:X.calm=true:=by rfl) (hg:Gl X "max":=by rfl) (he:y0a (e::es) X.env=(false,eval e X.env)::y0a es X.env:=by rfl) (hpl:(y2j pos (y0a es X.env)).any (·.1)=false:=by rfl) :
  PEv X (.Call (.Name "max" p) (e::es) [] pos) (opN oMax fs):=z0l (z42 (zmx hc) hg hm (by decide +kernel) ha (he:=he) (hpl:=hpl)) (z5e (by
 intro O F H ts t vs Q d q e k
 unfold oMax at e
 split at e
 ·cases e
  cases q with
  | cons q1 q2 =>
   cases q2 with
   | cons q2 q3 =>
    cases q3
    exact⟨_,_,by rw[q1.int,q2.int],k _ F H (Ext.refl d) (by simp[Rep])⟩
 ·cases e))
theorem z8y (hm:X.mg "tuple"=none) (ha:PAr X (e::es) fs) (hg:Gl X "tuple":=by rfl) (he:y0a (e::es) X.env=(false,eval e X.env)::y0a es X.env:=by rfl) (hpl:(y2j pos (y0a es X.env)).any (·.1)=false:=by rfl) :
  PEv X (.Call (.Name "tuple" p) (e::es) [] pos) (opN z1u fs):=z0l (z5b zca hg hm (by decide +kernel) ha (he:=he) (hpl:=hpl)) (z5e (by
 intro O F H ts t vs Q d q e k
 unfold z1u at e
 split at e
 ·cases e
  cases q with
  | cons q1 q2 =>
   cases q2
   obtain⟨a,ws,rfl,hs,hr⟩:=q1.tup
   refine⟨a,ws,rfl,.inr ⟨hs,k _ F H (Ext.refl d) ?_⟩⟩
   simp only[Rep]
   exact⟨a,ws,rfl,hs,hr⟩
 ·cases e
  cases q with
  | cons q1 q2 =>
   cases q2
   obtain⟨a,ws,rfl,hs,hr⟩:=q1.lst
   refine⟨a,ws,rfl,.inl ⟨.inl hs,fun l hl=>?_⟩⟩
   have x1:=Ext.laid (o:=.tup ws) d hl
   refine k _ F _ x1 ?_
   simp only[Rep]
   exact⟨l,ws,rfl,SqT.of z08,hr.ext x1⟩
 ·cases e))
theorem z29 (h:PEr X e f) (he:∀whole,isTrue e X.env whole=(do let v <- whole;standAt e.pos;holding [v] (truthy v)):=by intro _;rfl):PTt X e (tstB f):=zf0 (zqe h he) fun σ H Q ⟨F₀,H₀,O,F,ε,b,r,e,k⟩=>by
 simp only[tstB,y01] at e
 obtain⟨t,et,e⟩:=e
 split at e
 ·cases e
  exact⟨F₀,H₀,O,F,ε,_,r,et,fun v F1 H1 x1 rx=>⟨_,rx.bl,k F1 H1 x1⟩⟩
 ·cases e
theorem zh6 {j pos'} (ha:PEr X a f):PTt X (.Compare a [.IsNot] [.Constant .none j pos'] pos) (tstB (op1 z2h f)):=zf0 (ztz (zru ha)) fun σ H Q ⟨F₀,H₀,O,F,ε,t,r,e,k⟩=>by
 simp only[tstB,op1,z2h,y01] at e
 obtain⟨_,⟨x,ex,e1⟩,e⟩:=e
 cases e1
 cases e
 refine⟨F₀,H₀,O,F,ε,x,r,ex,fun v F1 H1 x1 rx=>⟨_,?_,k F1 H1 x1⟩⟩
 cases x with
 | none=>rw[rx.non];simp
 | bool b=>rw[rx.bl];simp
 | int b=>rw[rx.int];simp
 | str b=>rw[rx.str];simp
 | tuple b=>obtain⟨_,_,e,_⟩:=rx.tup;rw[e];simp
 | list b=>obtain⟨_,_,e,_⟩:=rx.lst;rw[e];simp
 | dict b=>rcases rx with rx|⟨_,_,_,z,_⟩;simp[Rep] at rx;cases z
theorem z51 (h:PTt X e ft):PTt X (.UnaryOp .Not e pos) (notT ft):=zf0 (zty h) fun σ H Q ⟨F₀,H₀,O,F,ε,b,r,e,k⟩=>by
 simp only[notT,y07] at e
 obtain⟨c,ec,rfl⟩:=e
 exact⟨F₀,H₀,O,F,ε,c,r,ec,fun F1 H1 x1=>k F1 H1 x1⟩
theorem zci (h:PTt X e ft):PWt X (.BoolOp .And [e] pos) ft:=zkp h
theorem z88 (h:PTt X e ft):PWt X (.BoolOp .Or [e] pos) ft:=ztx h
theorem w_and (h:PTt X a ft) (h2:PWt X (.BoolOp .And (b::es) pos) gt):PWt X (.BoolOp .And (a::b::es) pos) (andT ft gt):=zqw (zqc h h2) fun σ H Q ⟨F₀,H₀,O,F,ε,b,r,e,k⟩=>by
 simp only[andT,y01] at e
 obtain⟨c,ec,e⟩:=e
 refine⟨F₀,H₀,O,F,ε,c,r,ec,fun F1 H1 x1=>?_⟩
 cases c with
 | true=>exact iteT ⟨F₀,H₀,O,F1,ε,b,r.ext x1,by simpa using e,fun F2 H2 x2=>k F2 H2 (x1.trans x2)⟩
 | false =>
  have:b=false:=by simpa using e.symm
  subst this
  exact iteF (k F1 H1 x1)
theorem w_or (h:PTt X a ft) (h2:PWt X (.BoolOp .Or (b::es) pos) gt):PWt X (.BoolOp .Or (a::b::es) pos) (orT ft gt):=zqw (zw0 h h2) fun σ H Q ⟨F₀,H₀,O,F,ε,b,r,e,k⟩=>by
 simp only[orT,y01] at e
 obtain⟨c,ec,e⟩:=e
 refine⟨F₀,H₀,O,F,ε,c,r,ec,fun F1 H1 x1=>?_⟩
 cases c with
 | true =>
  have:b=true:=by simpa using e.symm
  subst this
  exact iteT (k F1 H1 x1)
 | false=>exact iteF ⟨F₀,H₀,O,F1,ε,b,r.ext x1,by simpa using e,fun F2 H2 x2=>k F2 H2 (x1.trans x2)⟩
theorem w_t (h:PWt X e ft):PTt X e ft:=h.pt
end
end
section
variable [Tbl]
noncomputable def spT (K:y00) (n:Nat) (d:List T->Option T):Sp:=fun vs H Q _=>vs.length=n/\∃F ts t,Dom F H/\RepL K F H ts vs/\d ts=some t/\∀v F' H',Ext F H F' H'->Rep K F' H' t v->Q v H'
section
variable {X:Cx} {k n:Nat} {fa:Addr} {fd:y0b} {ps:List Str} {d:List T->Option T} {x:Str} {p pos:Pos} {e:Expr} {es:List Expr} {fs:List Fe}
theorem ztv (F:FnOk X.prog X.w X.K X.mg X.base CX0 k fa fd ps (spT X.K n d)) (hr:Room k X.A) (hg:Gl X x) (hm:X.mg x=some (.ref fa)) (hk:y08 X.K (.ref fa)=true) (hb:Binds X.K fd ps [])
  (ha:PAv X (e::es) fs) (hn:fs.length=n:=by rfl) (hdb:(x == ("__debug__":Str))=false:=by decide) (he:y0a (e::es) X.env=(false,eval e X.env)::y0a es X.env:=by rfl) (hpl:(y2j pos (y0a es X.env)).any (·.1)=false:=by rfl) :
  PEv X (.Call (.Name x p) (e::es) [] pos) (opN d fs):=z0l (zky F hr hg hm hk hb .nil zw5 ha hdb he hpl) fun σ H Q ⟨F₀,H₀,O,F,ε,t,r,e,k⟩=>by
 simp only[opN,y01] at e
 obtain⟨ts,et,ed⟩:=e
 have hl:∀(gs:List Fe) (us:List T),args gs ε=some us->us.length=gs.length:=by
  intro gs
  induction gs with
  | nil=>intro us e;cases e;rfl
  | cons g gs ih =>
   intro us e
   simp only[args,y01,y07] at e
   obtain⟨t,_,vs,ev,rfl⟩:=e
   simp[ih vs ev]
 refine⟨F₀,H₀,O,F,ε,ts,r,et,fun vs F1 H1 x1 q=>⟨?_,F1,ts,t,x1.dom,by simpa using q,ed,fun v F' H' x2 q2=>k v F' H' (x1.trans x2) q2⟩⟩
 rw[y1x,<- q.length,hl fs ts et,hn]
end
section
variable {P:y0q} {w:World} {K:y00} {mg:Str->Option Value} {base:Heap}
theorem zav {F:Addr->Prop} {H:Hp} {ts:List T} {vs:List V} {N:List Str} (dom:Dom F H) (q:RepL K F H ts vs) (n:Nat) :
  RelE K F ⟨H,0⟩ (fun a=>H a=none) F H ((ts.map fun t=>some (.imm t))++y0g n none) (vs.map some++y0g n none):=by
 have imm:∀(i:Nat) (s:Sl),((ts.map fun t=>some (Sl.imm t))++y0g n none)[i]?=some (some s)->∃t,s=.imm t/\ts[i]?=some t:=by
  intro i s e
  by_cases hi:i<ts.length
  ·rw[y1m (by simpa using hi),y14] at e
   rw[y0v hi] at e ⊢
   simp at e
   exact⟨_,e.symm,rfl⟩
  ·rw[y1l (by simpa using hi),List.getElem?_replicate] at e
   split at e <;> cases e
 refine⟨by simp[q.length],fun i s e=>?_,fun i j s u v w hij e1 e2 o1=>?_,Ext.refl dom,fun _ h=>h,fun _ h=>h⟩
 ·obtain⟨t,rfl,ht⟩:=imm i s e
  obtain⟨v,hv,rv⟩:=q.get ht
  refine⟨v,?_,rv⟩
  rw[y1m (by have:=(y0k.mp hv).1;simpa using this),y14,hv]
  rfl
 ·obtain⟨t,rfl,_⟩:=imm i s e1
  cases o1
theorem zv2 {x qual:Str} {st:Stmt} {f:Addr} {fd:y0b} {N ps:List Str} {k:Nat} {b:Fs} (F:Fun K x qual st f fd) (S:FnScope N ps (z02 st))
  (hb:∀(cdv:Value) (A:Around) (outer:List Env) (s:y04) (H:Hp) (E:XK),Room k (A.deeper (envOfC qual (z02 st) s.heap.objs.size f cdv)) ->
   PBt (cxOf CX0 P w K mg base N qual (z02 st) f cdv A outer s H E).nox (z0d st) b) :
  FnOk P w K mg base CX0 (k+1) f fd ps (spT K ps.length (runF b N.length)):=by
 refine F.ok S (fun vs H Q E h=>h.1) fun cdv A outer s H vs Q E hr h=>⟨_,hb cdv A outer s H E hr,?_⟩
 obtain⟨hl,F,ts,t,dom,q,e,kq⟩:=h
 simp only[runF,y01] at e
 obtain⟨o,eo,e⟩:=e
 refine⟨F,⟨H,0⟩,fun a=>H a=none,F,_,o,?_,eo,?_⟩
 ·have:=zav (N:=N) dom q (N.length - ts.length)
  unfold L2.start
  rw[q.length] at this ⊢
  exact this
 ·cases o with
  | rt t' =>
   cases e
   exact fun v F' H' x q=>kq v F' H' x q
  | nx ε' =>
   cases e
   exact fun σ' F' H' _ r=>kq _ F' H' r.ent (by simp[Rep])
  | bk _=>cases e
  | ct _=>cases e
  | rtm _ _=>cases e
  | rto _=>cases e
theorem zmc {f:Addr} {fd:y0b} {ps:List Str} {k n:Nat}:FnOk P w K mg base CX0 k f fd ps (spT K n fun _=>none):=by
 have no:∀vs H Q E,¬spT K n (fun _=>none) vs H Q E:=fun vs H Q E h=>by
  obtain⟨_,_,_,_,_,_,e,_⟩:=h
  cases e
 exact⟨fun vs H Q E h=>absurd h (no vs H Q E),fun A outer s H args us vs Q E _ _ _ _ h=>absurd h (no vs H Q E)⟩
end
end
section
variable [Tbl]
noncomputable def clos (env:Env):List (Str×y32)->List (Str×Addr)->List (Str×Addr)
 | [],cs=>cs
 | x::r,cs=>if x.2 == .free then clos env r ((x.1,(env.cells.lookup x.1).getD 0)::cs) else clos env r cs
theorem z7e {scope:Scope} {env:Env} (h:∀x∈scope.names,x.2=.free->∃c,env.cells.lookup x.1=some c):closureFor scope env=pure (clos env scope.names []):=by
 have go:∀(l:List (Str×y32)) (cs:List (Str×Addr)),(∀x∈l,x.2=.free->∃c,env.cells.lookup x.1=some c) ->
   (forIn l cs (fun x r=>(if (x.2 == NameKind.free)=true then do let a <- cellOf env x.1;pure (ForInStep.yield ((x.1,a)::r)) else pure (ForInStep.yield r)):_->_->Sem (ForInStep (List (Str×Addr)))):Sem (List (Str×Addr)))=pure (clos env l cs):=by
  intro l
  induction l with
  | nil=>intro cs _;rfl
  | cons x r ih =>
   intro cs hl
   rw[List.forIn_cons]
   have hr:=fun y hy=>hl y (y05 _ hy)
   by_cases k:x.2=.free
   ·obtain⟨c,hc⟩:=hl x y0e k
    have e1:(x.2 == NameKind.free)=true:=by simp[k]
    simp only[e1,if_true,cellOf,hc,clos,Option.getD_some]
    exact ih _ hr
   ·have e1:(x.2 == NameKind.free)=false:=by simpa using k
    simp only[e1,y1t,if_false,clos]
    exact ih _ hr
 have:=go scope.names [] h
 simp only[closureFor]
 exact congrArg (fun m=>m >>= fun cs=>pure cs) this
theorem z5m {env:Env}:∀{l:List (Str×y32)} {cs:List (Str×Addr)},(∀x∈l,x.2=.free->∃c,env.cells.lookup x.1=some c)->(∀x c,cs.lookup x=some c->env.cells.lookup x=some c)->∀x c,(clos env l cs).lookup x=some c->env.cells.lookup x=some c
 | [],cs,_,h,x,c,e=>h x c e
 | y::r,cs,hl,h,x,c,e=>by
  unfold clos at e
  have hr:=fun z hz=>hl z (y05 _ hz)
  split at e
  next k =>
   refine z5m hr (fun x c e=>?_) x c e
   rw[y1f] at e
   split at e
   next hb =>
    obtain⟨c',hc⟩:=hl y y0e (by simpa using k)
    have:x=y.1:=by simpa using hb
    subst this
    rw[hc] at e ⊢
    simpa using e
   next=>exact h x c e
  next=>exact z5m hr h x c e
theorem z60 {env:Env}:∀{l:List (Str×y32)} {cs:List (Str×Addr)} {x:Str},((∃y∈l,y.2=.free/\y.1=x)\/∃c,cs.lookup x=some c)->∃c,(clos env l cs).lookup x=some c
 | [],cs,x,h=>by
  rcases h with ⟨y,hy,_⟩|h
  ·cases hy
  ·exact h
 | y::r,cs,x,h=>by
  unfold clos
  split
  next k =>
   refine z60 ?_
   rcases h with ⟨z,hz,k',e⟩|⟨c,h⟩
   ·rcases y09.mp hz with rfl|hz
    ·refine .inr ?_
     subst e
     rw[y1f]
     simp
    ·exact .inl ⟨z,hz,k',e⟩
   ·refine .inr ?_
    rw[y1f]
    split
    ·exact⟨_,rfl⟩
    ·exact⟨c,h⟩
  next k =>
   refine z60 ?_
   rcases h with ⟨z,hz,k',e⟩|h
   ·rcases y09.mp hz with rfl|hz
    ·exact absurd (by simpa using k') k
    ·exact .inl ⟨z,hz,k',e⟩
   ·exact .inr h
noncomputable def z2d (X:Cx) (N':List Str) (scope:Scope) (cl:List (Str×Addr)) (C:Addr) (s₀:y04) (H₀:Hp) (fp:List Addr) (pn:List (Addr×Obj)):Cx where
 prog:=X.prog
 w:=X.w
 K:=X.K
 mg:=X.mg
 base:=X.base
 A:=X.A
 N:=N'
 s₀:=s₀
 H₀:=H₀
 env:=compEnvC scope cl C X.env
 outer:=X.stack
 stack:=X.stack
 ex:=fp
 fn:=fun _=>false
 calm:=X.calm
 pn:=pn
 xe:=fun _ _=>False
noncomputable def PTs (X:Cx) (ifs:List Expr) (cc:Ft):Prop:=∀(pins:List (Addr×Obj)) (s:y04) (σ:L2.St) (H:Hp) (Q:Bool->Hp->Prop),L2.Inv X pins σ H s->tT X.K cc σ H Q ->
 y0u (y33 X.prog X.w) X.A (forIn ifs true fun c r=>if r=true then do let ok <- isTrue c X.env (eval c X.env);pure (ForInStep.yield ok) else pure (ForInStep.yield r)) (TP X pins σ Q) X.xe s
theorem zh5 {X:Cx}:PTs X [] (cstT true):=fun pins s σ H Q I ⟨F₀,H₀,O,F,ε,b,r,e,k⟩=>by
 cases e
 exact wpAny_tests_nil ⟨H,I,k F H (Ext.refl r.dom)⟩
theorem zh4 {X:Cx} {c:Expr} {cc:Ft} (h:PTt X c cc):PTs X [c] cc:=fun pins s σ H Q I q=>wpAny_tests_one (h pins s σ H Q I q)
section
variable {prog:y0q} {w:World} {A:Around} {R:Result->y04->Prop} {s:y04}
theorem zeh {elt target iter:Expr} {ifs:List Expr} {scope:Scope} {pos:Pos} {it acc:Value} {env:Env} (I:Nat->y04->Prop)
  (turn:∀n s,I n s->y0u (y33 prog w) A (pyNext it) (fun r s₁=>match r with
   | none=>R (.ok .next) s₁
   | some v=>y0u (y33 prog w) A (letOwnedTupleGo target it v) (fun _ s₁'=>y0u (y33 prog w) A (assign target env v) (fun _ s₂ =>
     y0u (y33 prog w) A (forIn ifs true fun c r=>if r=true then do let ok <- isTrue c env (eval c env);pure (ForInStep.yield ok) else pure (ForInStep.yield r)) (fun ok s₃ =>
      if ok=true then y0u (y33 prog w) A (eval elt env) (fun x s₄ =>
       y0u (y33 prog w) A (call (.builtin "list.append") [acc,x]) (fun _ s₅=>∃m,m<n/\I m s₅) (fun _ _=>False) s₄) (fun _ _=>False) s₃
      else ∃m,m<n/\I m s₃) (fun _ _=>False) s₂) (fun _ _=>False) s₁') (fun _ _=>False) s₁) (fun _ _=>False) s)
  (n:Nat) (h:I n s):y2x (y33 prog w) A (.compLoop (.ListComp elt [⟨target,iter,ifs,0⟩] scope pos) 0 it acc env) R s:=by
 refine codeAny_loop rfl I (fun n s hI=>?_) n h
 show y0u _ A ((compTurn (.ListComp elt [⟨target,iter,ifs,0⟩] scope pos) 0 it acc env).onRaise (fun x=>do noteFrame x env;theTreesLotGoes x)) _ _ s
 refine wpAny_noted ?_
 rw[compTurn_list]
 refine y02 (wpAny_standAt (y02 (y1d (turn n s hI) (fun r s₁ h₁=>?_) fun _ _ h'=>h'.elim)))
 cases r with
 | none=>exact y06 h₁
 | some v =>
  refine y02 (y1d h₁ (fun _ s₁' h₁'=>?_) fun _ _ h'=>h'.elim)
  refine y02 (y1d h₁' (fun _ s₂ h₂=>y02 (y1d h₂ (fun ok s₃ h₃=>?_) fun _ _ h'=>h'.elim)) fun _ _ h'=>h'.elim)
  cases ok with
  | false=>exact y06 ⟨rfl,h₃⟩
  | true =>
   exact y02 (y02 (y1d h₃ (fun x s₄ h₄=>y02 (y1d h₄ (fun _ s₅ h₅=>y06 (y06 ⟨rfl,h₅⟩)) fun _ _ h'=>h'.elim)) fun _ _ h'=>h'.elim))
end
end
section
variable [Tbl]
theorem z69 {env:Env} {k:y32}:∀{names:List (Str×y32)} {x:Str},names.lookup x=some k->∃k',(names.map fun (n,k)=>if (k == NameKind.free && env.scope.kind == .function && env.kindOf n == some .cell) then (n,NameKind.cell) else (n,k)).lookup x=some k'/\(k'=k\/(k=.free/\k'=.cell))
  | [],x,h=>by simp at h
  | (n,j)::r,x,h=>by
    have ih:=@z69 env k r x
    show ∃k',List.lookup x ((if (j == NameKind.free && env.scope.kind == .function && env.kindOf n == some .cell)=true then (n,NameKind.cell) else (n,j))::_)=some k'/\_
    cases hx:x == n with
    | true =>
      simp only[y1f,hx] at h
      cases h
      by_cases hc:(k == NameKind.free && env.scope.kind == .function && env.kindOf n == some .cell)=true
      · rw[if_pos hc]
        refine⟨.cell,by simp[y1f,hx],.inr ⟨?_,rfl⟩⟩
        simp only[y1b] at hc
        simpa using hc.1.1
      · rw[if_neg hc]
        exact⟨k,by simp[y1f,hx],.inl rfl⟩
    | false =>
      simp only[y1f,hx] at h
      obtain⟨k',h1,h2⟩:=ih h
      refine⟨k',?_,h2⟩
      by_cases hc:(j == NameKind.free && env.scope.kind == .function && env.kindOf n == some .cell)=true
      · rw[if_pos hc];simp only[y1f,hx];exact h1
      · rw[if_neg hc];simp only[y1f,hx];exact h1
theorem mem_lookup {names:List (Str×y32)} {x:Str} {k:y32} (h:names.lookup x=some k):∃y∈names,y.2=k/\y.1=x:=by
 induction names with
 | nil=>simp at h
 | cons y r ih =>
  rw[y1f] at h
  split at h
  next hb =>
   cases h
   exact⟨y,y0e,rfl,by simpa using (beq_iff_eq.mp hb).symm⟩
  next =>
   obtain⟨z,hz,h1,h2⟩:=ih h
   exact⟨z,y05 _ hz,h1,h2⟩
theorem zd6 {scope:Scope} {env:Env} (hcell:∀y∈scope.names,y.2≠.cell) {x:Str} (h:(relabel scope env).names.lookup x=some .cell\/(relabel scope env).names.lookup x=some .free):∃y∈scope.names,y.2=.free/\y.1=x:=by
 have go:∀{k:y32},(relabel scope env).names.lookup x=some k->(k=.cell\/k=.free)->∃y∈scope.names,y.2=.free/\y.1=x:=fun {k} e hk=>by
  obtain⟨y,hy,h1,h2⟩:=mem_lookup e
  obtain⟨⟨n,j⟩,hz,e2⟩:=y0m.mp (show y∈scope.names.map _ from hy)
  by_cases hc:(j == NameKind.free && env.scope.kind == .function && env.kindOf n == some .cell)=true
  ·have e3:(n,NameKind.cell)=y:=by
    have e4:(if (j == NameKind.free && env.scope.kind == .function && env.kindOf n == some .cell)=true then (n,NameKind.cell) else (n,j))=y:=e2
    rwa [if_pos hc] at e4
   subst e3
   simp only[y1b] at hc
   exact⟨(n,j),hz,by simpa using hc.1.1,h2⟩
  ·have e3:(n,j)=y:=by
    have e4:(if (j == NameKind.free && env.scope.kind == .function && env.kindOf n == some .cell)=true then (n,NameKind.cell) else (n,j))=y:=e2
    rwa [if_neg hc] at e4
   subst e3
   rcases hk with rfl|rfl
   ·exact absurd h1 (hcell _ hz)
   ·exact⟨(n,j),hz,h1,h2⟩
 rcases h with h|h
 ·exact go h (.inl rfl)
 ·exact go h (.inr rfl)
theorem RelE.other {K:y00} {F₀ O F:Addr->Prop} {E:En} {H:Hp} {ε:Ev} {σ:L2.St} {a:Addr} {xs ys:List V} (r:RelE K F₀ E O F H ε σ) (hn:¬F a) (ho:¬O a) (h0:E.h a=none) (ha:H a=some (.lst xs)) :
  Kp K F H F (upd H a (.lst ys))/\RelE K F₀ E O F (upd H a (.lst ys)) ε σ:=by
 have hm:HoM (.lst xs):=.inl ⟨_,rfl⟩
 have kp:Kp K F H F (upd H a (.lst ys)):=zs9 hn ha hm
 have keep:∀(u:Sl) (w:V),z3u K E O F H u w->z3u K E O F (upd H a (.lst ys)) u w/\fpS (upd H a (.lst ys)) u w=fpS H u w:=by
  intro u w ru
  refine ru.keep kp (fun b hb=>z0f ?_) (fun _ _ f=>f) fun _ _ o=>o
  rintro rfl
  cases ou:u.isOwn with
  | true=>exact ho ((ru.held hb).2.1 ou)
  | false=>exact (ru.held hb).2.2 ou h0
 refine⟨kp,⟨r.len,fun j u e=>?_,fun i j s u v w hij e1 e2 o1 o2 h1 h2=>?_,zpi r.ent h0 hn ha hm,r.o0,fun b e=>r.fr b ?_⟩⟩
 ·obtain⟨v,h1,h2⟩:=r.val j u e
  exact⟨v,h1,(keep u v h2).1⟩
 ·obtain⟨v',h1',r1⟩:=r.val i s e1
  obtain⟨w',h2',r2⟩:=r.val j u e2
  rw[h1] at h1'
  rw[h2] at h2'
  cases h1'
  cases h2'
  rw[(keep s v r1).2,(keep u w r2).2]
  exact r.ne i j s u v w hij e1 e2 o1 o2 h1 h2
 ·by_cases nb:b=a
  ·subst nb
   rw[z08] at e
   cases e
  ·rwa [z0f nb] at e
def zps (n:Nat) (caps:List Nat) (σ:L2.St):L2.St:=y0g n none++caps.map fun i=>(σ[i]?).join
theorem join_some {α:Type} {o:Option (Option α)} {x:α} (h:o.join=some x):o=some (some x):=by
 cases o with
 | none=>cases h
 | some o=>exact congrArg some h
theorem z7v {α:Type} {n:Nat} {caps:List Nat} {l:List (Option α)} {i:Nat} {x:α} (h:(y0g n none++caps.map fun i=>(l[i]?).join)[i]?=some (some x)):∃j,n<=i/\caps[i - n]?=some j/\l[j]?=some (some x):=by
 by_cases hi:i<n
 ·rw[y1m (by simpa using hi),List.getElem?_replicate] at h
  rw[if_pos hi] at h
  cases h
 ·rw[y1l (by simpa using hi),List.length_replicate,y14] at h
  cases e:caps[i - n]? with
  | none =>
   rw[e] at h
   cases h
  | some j =>
   rw[e] at h
   exact⟨j,by omega,rfl,join_some (y2c h)⟩
theorem zsf {α:Type} {n:Nat} {caps:List Nat} {l:List (Option α)} {i j:Nat} {x:α} (hi:n<=i) (hc:caps[i - n]?=some j) (h:l[j]?=some (some x)):(y0g n none++caps.map fun i=>(l[i]?).join)[i]?=some (some x):=by
 rw[y1l (by simpa using hi),List.length_replicate,y14,hc]
 simp[h]
theorem RelE.cap {K:y00} {F₀ O F:Addr->Prop} {E:En} {H:Hp} {ε:Ev} {σ:L2.St} {D:Addr} (r:RelE K F₀ E O F H ε σ) (n:Nat) {caps:List Nat} (nd:caps.Nodup) (hD:H D=none) :
  RelE K F₀ E (fun a=>O a/\a≠D) F (upd H D (.lst [])) (z1f n caps ε) (zps n caps σ):=by
 have x:=Ext.laid (o:=.lst []) r.dom hD
 have keep:∀(u:Sl) (w:V),z3u K E O F H u w->z3u K E (fun a=>O a/\a≠D) F (upd H D (.lst [])) u w/\fpS (upd H D (.lst [])) u w=fpS H u w:=by
  intro u w ru
  have nb:∀b∈fpS H u w,b≠D:=fun b hb z=>by
   obtain⟨o,e,_⟩:=ru.at hb
   rw[z,hD] at e
   cases e
  exact ru.keep x.kp (fun b hb=>z0f (nb b hb)) (fun _ _ f=>f) fun b hb o=>⟨o,nb b hb⟩
 refine⟨by simp[z1f,zps],fun i s e=>?_,fun i j s u v w hij e1 e2 o1 o2 h1 h2=>?_,r.ent.trans x,fun a h=>r.o0 a h.1,fun a h=>?_⟩
 ·obtain⟨j,hn,hc,e'⟩:=z7v e
  obtain⟨v,h1,h2⟩:=r.val j s e'
  exact⟨v,zsf hn hc h1,(keep s v h2).1⟩
 ·obtain⟨i',hi,ci,e1'⟩:=z7v e1
  obtain⟨j',hj,cj,e2'⟩:=z7v e2
  obtain⟨i2,_,ci2,h1'⟩:=z7v (l:=σ) h1
  obtain⟨j2,_,cj2,h2'⟩:=z7v (l:=σ) h2
  rw[ci] at ci2
  rw[cj] at cj2
  cases ci2
  cases cj2
  obtain⟨v',q1,r1⟩:=r.val i' s e1'
  obtain⟨w',q2,r2⟩:=r.val j' u e2'
  rw[h1'] at q1
  rw[h2'] at q2
  cases q1
  cases q2
  rw[(keep s v r1).2,(keep u w r2).2]
  refine r.ne i' j' s u v w (fun z=>?_) e1' e2' o1 o2 h1' h2'
  subst z
  obtain⟨l1,m1⟩:=y0k.mp ci
  obtain⟨l2,m2⟩:=y0k.mp cj
  have ne:i - n≠j - n:=by omega
  rcases Nat.lt_or_gt_of_ne ne with q|q
  ·exact (List.pairwise_iff_getElem.mp nd _ _ l1 l2 q) (m1.trans m2.symm)
  ·exact (List.pairwise_iff_getElem.mp nd _ _ l2 l1 q) (m2.trans m1.symm)
 ·have nd:a≠D:=by
   rintro rfl
   rw[z08] at h
   cases h
  rw[z0f nd] at h
  exact⟨r.fr a h,nd⟩
end
section
variable [Tbl]
structure CompOk (X:Cx) (scope:Scope) (own:List Str) (caps:List (Nat×Str)):Prop where
 kind:scope.kind=.function
 names:∀y∈scope.names,y.2=.local->scope.names.lookup y.1=some .local
 cell:∀y∈scope.names,y.2≠.cell
 free:∀y∈scope.names,y.2=.free->X.env.kindOf y.1=some .cell\/X.env.kindOf y.1=some .free
 cap:∀p∈caps,X.N[p.1]?=some p.2/\scope.names.lookup p.2=some .free
 nd:(caps.map (·.1)).Nodup
 calm:X.calm=true
section
variable {X:Cx} {tg iter elt:Expr} {ifs:List Expr} {scope:Scope} {it:Fi} {gg:Fg} {cc:Ft} {ee:Fe} {pos:Pos} {own:List Str} {caps:List (Nat×Str)}
theorem z9u {pins:List (Addr×Obj)} {σ:L2.St} {H2:Hp} {s2:y04} {fp:List Addr} (S:CompOk X scope own caps) (I2:L2.Inv X pins σ H2 s2) (f2:∀b∈fp,FpOk X pins H2 b) (hfp:∀b∈fp,b<s2.heap.objs.size) (N':List Str) :
  (z2d X N' scope (clos X.env scope.names []) (s2.heap.push { cls:=.type "list",data:=.seq ([]:List Value).toArray }).objs.size { s2 with heap:=s2.heap.push { cls:=.type "list",data:=.seq ([]:List Value).toArray } } (upd H2 s2.heap.objs.size (.lst [])) fp (X.pn++pins)).Ok:=by
 have hcl:∀x∈scope.names,x.2=.free->∃c,X.env.cells.lookup x.1=some c:=fun x hx hk=>I2.ok.has x.1 (S.free x hx hk)
 have cf:∀x c,(clos X.env scope.names []).lookup x=some c->X.env.cells.lookup x=some c:=z5m hcl (fun x c e=>by simp at e)
 have I3:=I2.lnew (its:=[]) (ys:=[]) (t':=s2.toks) .nil (y23 _)
 have sz:(s2.heap.push { cls:=.type "list",data:=.seq ([]:List Value).toArray }).objs.size=s2.heap.objs.size+1:=y17 ..
 refine⟨I2.ok.mod,S.kind,I2.ok.glob,I2.ok.blt,y0o _,fun x y c e1 e2=>I2.ok.inj x y c (cf x c e1) (cf y c e2),fun x hx=>?_,fun x c h=>(by cases h),I2.ok.hd,I2.ok.frames,.inl rfl,fun b hb=>⟨?_,fun x c e=>(f2 b hb).2.2.2.2.1 x c (cf x c e)⟩,fun b o e=>?_,?_,fun b o e hb=>?_,fun b hb hf=>?_,I3.stack,I3.stkFree⟩
 ·exact z60 (.inl (zd6 S.cell hx))
 ·show b≠(s2.heap.push { cls:=.type "list",data:=.seq ([]:List Value).toArray }).objs.size
  have h:=hfp b hb
  rw[sz]
  exact y0y (Nat.lt_succ_of_lt h)
 ·obtain⟨h1,h2⟩:=I3.bs b o e
  exact⟨h1,h2⟩
 ·have h1:=y1o I2.ok.bsz I2.sz
  show X.base.objs.size<=(s2.heap.push { cls:=.type "list",data:=.seq ([]:List Value).toArray }).objs.size
  omega
 ·rcases (f2 b hb).2.2.2.1 with q|q
  ·exact I2.ok.noex b o e q
  ·exact absurd (y0x (y0c (I2.ok.bs b o e).1) q) (Nat.lt_irrefl _)
 ·rcases y09.mp (I2.stkSub b hf) with q|q
  ·exact (f2 b hb).2.1 q
  ·exact (f2 b hb).2.2.1 q
theorem zpo {pins:List (Addr×Obj)} {σ:L2.St} {H2:Hp} {s2:y04} {fp:List Addr} (S:CompOk X scope own caps) (I2:L2.Inv X pins σ H2 s2) (f2:∀b∈fp,FpOk X pins H2 b) (hfp:∀b∈fp,b<s2.heap.objs.size) {h₁:Heap} {m:Str->Option Value} {tk:Nat}
  (hns:h₁.Ns (s2.heap.push { cls:=.type "list",data:=.seq ([]:List Value).toArray }).objs.size m) (keep:∀b u,(s2.heap.push { cls:=.type "list",data:=.seq ([]:List Value).toArray }).get? b=some u->h₁.get? b=some u) :
  L2.Inv (z2d X (own++caps.map (·.2)) scope (clos X.env scope.names []) (s2.heap.push { cls:=.type "list",data:=.seq ([]:List Value).toArray }).objs.size { s2 with heap:=s2.heap.push { cls:=.type "list",data:=.seq ([]:List Value).toArray } } (upd H2 s2.heap.objs.size (.lst [])) fp (X.pn++pins)) []
   (zps own.length (caps.map (·.1)) σ) (upd H2 s2.heap.objs.size (.lst [])) { s2 with heap:=h₁,toks:=tk }:=by
 have hcl:∀x∈scope.names,x.2=.free->∃c,X.env.cells.lookup x.1=some c:=fun x hx hk=>I2.ok.has x.1 (S.free x hx hk)
 have cf:∀x c,(clos X.env scope.names []).lookup x=some c->X.env.cells.lookup x=some c:=z5m hcl (fun x c e=>by simp at e)
 have I3:=I2.lnew (its:=[]) (ys:=[]) (t':=s2.toks) .nil (y23 _)
 refine⟨z9u S I2 f2 hfp _,rfl,I2.bare,Un.kept keep,⟨m,hns,fun i x v h1 h2 hv=>?_⟩,fun x c e=>?_,?_,fun x c e=>I3.freeC x c (cf x c e),fun p hp=>?_,I3.hok.kept keep,by simp[zps,z2d]⟩
 ·obtain⟨j,hn,hc,hj⟩:=z7v (l:=σ) h2
  have hx:(caps.map (·.2))[i - own.length]?=some x:=by
   have:(own++caps.map (·.2))[i]?=some x:=h1
   rwa [y1l hn] at this
  rw[y14] at hc hx
  cases ep:caps[i - own.length]? with
  | none=>rw[ep] at hc;cases hc
  | some p =>
   rw[ep] at hc hx
   cases hc
   cases hx
   obtain⟨hN,hf⟩:=S.cap p (List.mem_of_getElem? ep)
   obtain⟨y,hy,k1,k2⟩:=mem_lookup hf
   have hk:=S.free y hy k1
   rw[k2] at hk
   obtain⟨m3,hn3,hl3⟩:=I3.loc
   have vis:Vis X.env.scope p.2:=by
    rcases hk with hk|hk
    ·exact .inr (.inl hk)
    ·exact .inr (.inr hk)
   obtain⟨u,ru,lu⟩:=hl3 p.1 p.2 v hN hj vis
   refine⟨u,ru,.inr ⟨?_,?_⟩⟩
   ·obtain⟨k',e1,e2⟩:=z69 (env:=X.env) hf
    rcases e2 with rfl|⟨_,rfl⟩
    ·exact .inr e1
    ·exact .inl e1
   ·rcases lu with ⟨q,_⟩|⟨_,c,hc,hcell⟩
    ·rcases hk with hk|hk
     ·rw[hk] at q;cases q
     ·rw[hk] at q;cases q
    ·obtain⟨c',hc'⟩:=z60 (env:=X.env) (l:=scope.names) (cs:=[]) (x:=p.2) (.inl ⟨y,hy,k1,k2⟩)
     have:=cf _ _ hc'
     rw[hc] at this
     cases this
     obtain⟨oc,ho,hd⟩:=hcell
     exact⟨c,hc',oc,keep _ _ ho,hd⟩
 ·obtain⟨v,oc,ho,hd⟩:=I3.cell x c (cf x c e)
  exact⟨v,oc,keep _ _ ho,hd⟩
 ·exact I3.hok.fresh (y0o _)
 ·have hp':p∈X.pn++pins:=by simpa [z2d] using hp
  obtain⟨h1,h2,h3,h4,h5⟩:=I3.pin p hp'
  refine⟨keep _ _ h1,h2,y0y (y0c h1),fun z=>?_,h5⟩
  rcases y09.mp (I2.stkSub p.1 z) with q|q
  ·exact h3 q
  ·exact h4 q
theorem zja {pins:List (Addr×Obj)} {σ σ':L2.St} {H2 H':Hp} {s2 s':y04} {fp:List Addr} {N':List Str} (I2:L2.Inv X pins σ H2 s2) (f2:∀b∈fp,FpOk X pins H2 b)
  (J:L2.Inv (z2d X N' scope (clos X.env scope.names []) (s2.heap.push { cls:=.type "list",data:=.seq ([]:List Value).toArray }).objs.size { s2 with heap:=s2.heap.push { cls:=.type "list",data:=.seq ([]:List Value).toArray } } (upd H2 s2.heap.objs.size (.lst [])) fp (X.pn++pins)) [] σ' H' s')
  {h':Heap} (sb:Heap.SameBut (s2.heap.push { cls:=.type "list",data:=.seq ([]:List Value).toArray }).objs.size s'.heap h'):L2.Inv X pins σ H' { s' with heap:=h' }:=by
 have I3:=I2.lnew (its:=[]) (ys:=[]) (t':=s2.toks) .nil (y23 _)
 have u:=J.base
 have free:H' (s2.heap.push { cls:=.type "list",data:=.seq ([]:List Value).toArray }).objs.size=none:=J.free
 have old:∀b o,(s2.heap.push { cls:=.type "list",data:=.seq ([]:List Value).toArray }).get? b=some o->b≠(s2.heap.push { cls:=.type "list",data:=.seq ([]:List Value).toArray }).objs.size:=fun b o e=>y0y (y0c e)
 have eqh:∀b,b≠(s2.heap.push { cls:=.type "list",data:=.seq ([]:List Value).toArray }).objs.size->∀o,s'.heap.get? b=some o->h'.get? b=some o:=fun b hb o e=>sb.extBut b o hb e
 have u2:Un (frs X.stack) fp (upd H2 s2.heap.objs.size (.lst [])) H' (s2.heap.push { cls:=.type "list",data:=.seq ([]:List Value).toArray }) h':=by
  refine⟨fun b o e n hf hx=>eqh b (old b o e) _ (u.keep b o e n hf hx),fun b o e n hf hx=>?_,u.free,fun b o e hx=>?_,u.tups,u.frzs,u.tbls⟩
  ·obtain⟨sl,q⟩:=u.slot b o e n hf hx
   exact⟨sl,eqh b (old b o e) _ q⟩
  ·obtain⟨o',q⟩:=u.there b o e hx
   exact⟨o',eqh b (old b o e) _ q⟩
 have hok:HOk X.prog X.w H' h':=fun b o e=>by
  refine (J.hok b o e).stay (fun c v hc q=>eqh c (fun z=>?_) v q) (fun _ q=>q) fun _ _ q=>q
  rcases hc with rfl|hc
  ·rw[z,free] at e
   cases e
  ·rw[z,free] at hc
   cases hc
 have hos:=J.os
 have hbare:=J.bare
 obtain⟨hh,g,d,t,os⟩:=s'
 obtain rfl:os=s2.os:=hos
 have fin:=I3.call (h':=h') (g':=g) (d':=d) (t':=t) (ch:=fp) u2 hok hbare fun b hb=>⟨(f2 b hb).2.2.2.1,(f2 b hb).2.1,(f2 b hb).2.2.2.2.1,(f2 b hb).2.2.2.2.2⟩
 exact fin
theorem zmp {X':Cx} {R:Result->y04->Prop} {J:It} {fp:List Addr} {it' D:Addr} {tn:Nat->Heap->Prop} {F₀ O F1:Addr->Prop} {H₀:En} {H2:Hp} {ts ys:List T} (hx:X'.xe=fun _ _=>False) (hc:X'.calm=true) (hg:PGt X' tg gg) (ht:PTs X' ifs cc) (he:PEv X' elt ee)
  (T:Turn X'.prog X'.w X'.K tg J fp it' tn) (stat:∀H':Hp,(∀b∈fp,H' b=none)->∀b∈fp,FpOk X' [] H' b) (ok:ItOk X'.K J F1 H2 ts) (hbig:ts.length<=big) (hD2:H2 D=none) (hO:¬O D) (hH0:H₀.h D=none)
  (fin:∀σ' H' F' s1 vs,L2.Inv X' [] σ' H' s1->Ext F1 H2 F' H'->H' D=some (.lst vs)->¬F' D->RepL X'.K F' H' ys vs->R (.ok .next) s1)
  {s:y04} {σ:L2.St} {H:Hp} {F:Addr->Prop} {ε:Ev} (I:L2.Inv X' [] σ H s) (st:tn 0 s.heap) (fr:∀b∈fp,H b=none) (x:Ext F1 H2 F H) (r:RelE X'.K F₀ H₀ O F H ε σ) (hD:H D=some (.lst [])) (nD:¬F D) (ey:z2c gg cc ee ts ε=some ys) :
  y2x (y33 X'.prog X'.w) X'.A (.compLoop (.ListComp elt [⟨tg,iter,ifs,0⟩] scope pos) 0 (.ref it') (.ref D) X'.env) R s:=by
 refine zeh (fun n s'=>∃i σ' H' F' ε' dn vs,n=ts.length - i/\i<=ts.length/\L2.Inv X' [] σ' H' s'/\tn i s'.heap/\(∀b∈fp,H' b=none)/\Ext F1 H2 F' H'/\RelE X'.K F₀ H₀ O F' H' ε' σ'/\H' D=some (.lst vs)/\¬F' D/\RepL X'.K F' H' dn vs/\dn.length<=i /\
  ∃rest,z2c gg cc ee (ts.drop i) ε'=some rest/\ys=dn++rest) ?_ ts.length ⟨0,σ,H,F,ε,[],[],rfl,y23 _,I,st,fr,x,r,hD,nD,RepL.nil,y0o _,ys,by simpa using ey,by simp⟩
 rintro n s3 ⟨i,σ3,H3,F3,ε3,dn,vs,rfl,hi,I3,st3,fr3,x3,r3,hD3,nD3,q3,hl3,rest,er,es⟩
 have nf:∀{F4:Addr->Prop} {H4:Hp} {F5:Addr->Prop} {H5:Hp} {o:HO},Ext F4 H4 F5 H5->H4 D=some o->¬F4 D->¬F5 D:=fun y e n z=>by
  rcases y.new D z with q|q
  ·exact n q
  ·rw[e] at q
   cases q
 by_cases hlt:i<ts.length
 ·have hd:ts.drop i=ts[i]::ts.drop (i+1):=List.drop_eq_getElem_cons hlt
  have hg':ts[i]?=some ts[i]:=y0v hlt
  rw[hd] at er
  simp only[z2c,y01] at er
  obtain⟨ε4,eg,b,eb,er⟩:=er
  refine y1d (T.item X' rfl rfl rfl hc i [] s3 σ3 H3 (fun _ _=>False) I3 (stat H3 fr3) st3 (ok.go i F3 H3 _ x3.kp r3.dom hg')) (fun rv s4 ⟨u,hr,h4⟩=>?_) fun _ _ z=>z
  subst hr
  refine y1d h4 (fun _ s5 ⟨x',H5,I5,r5,y5,st5,fr5⟩=>?_) fun _ _ z=>z
  obtain⟨F5,x5,rx⟩:=ok.yld i F3 H3 _ x' H5 x3.kp r3.dom hg' y5
  have I5':=I5.pinned (stat H5 fr5) (T.obj _ _ st5)
  have hg2:=hg _ s5 σ3 H5 x' u (fun σ6 H6=>H6=H5/\RelE X'.K F₀ H₀ O F5 H5 ε4 σ6) I5' r5 ⟨F₀,H₀,O,F5,ε3,_,ε4,r3.ext x5,rx,eg,fun σ6 r6=>⟨rfl,r6⟩⟩
  rw[hx] at hg2
  refine y1d hg2 (fun _ s6 ⟨σ6,H6,I6,e6,r6⟩=>?_) fun _ _ z=>z
  subst e6
  have again:∀{σ7:L2.St} {H7:Hp} {s7:y04},L2.Inv X' ([]++zda fp s5.heap) σ7 H7 s7->tn (i+1) s7.heap/\(∀b∈fp,H7 b=none)/\L2.Inv X' [] σ7 H7 s7:=fun {σ7 H7 s7} I7=>by
   refine⟨T.keep _ _ _ st5 fun b hb o e=>(I7.pin (b,o) (y1a _ (y1a _ (z5y hb e)))).1,fun b hb=>?_,I7.unpinned⟩
   obtain⟨o,e,d⟩:=T.obj _ _ st5 b hb
   exact (I7.pin (b,o) (y1a _ (y1a _ (z5y hb e)))).2.1
  have ht2:=ht _ s6 σ6 H6 (fun b' H7=>b'=b/\∃F7,Ext F5 H6 F7 H7) I6 ⟨F₀,H₀,O,F5,ε4,b,r6,eb,fun F7 H7 x7=>⟨rfl,F7,x7⟩⟩
  rw[hx] at ht2
  refine y1d ht2 (fun ok' s7 ⟨H7,I7,e7,F7,x7⟩=>?_) fun _ _ z=>z
  subst e7
  have x37:=x5.trans x7
  have r7:=r6.ext x7
  cases ok' with
  | false =>
   simp only[y1t,if_false] at er ⊢
   obtain⟨a1,a2,a3⟩:=again I7
   exact⟨_,by omega,i+1,σ6,H7,F7,ε4,dn,vs,rfl,hlt,a3,a1,a2,x3.trans x37,r7,x37.same.get hD3,nf x37 hD3 nD3,q3.ext x37,by omega,rest,er,es⟩
  | true =>
   simp only[if_true,y01,y07] at er ⊢
   obtain⟨y,ey',rest',er',rfl⟩:=er
   have he2:=he _ s7 σ6 H7 (fun v H8=>∃F8,Ext F7 H7 F8 H8/\Rep X'.K F8 H8 y v) I7 ⟨F₀,H₀,O,F7,ε4,y,r7,ey',fun v F8 H8 x8 q8=>⟨F8,x8,q8⟩⟩
   rw[hx] at he2
   refine y1d he2 (fun u8 s8 ⟨v8,H8,I8,r8,F8,x8,q8⟩=>?_) fun _ _ z=>z
   have x38:=x37.trans x8
   have hD8:=x38.same.get hD3
   have nD8:=nf x38 hD3 nD3
   obtain⟨kp9,r9⟩:=(r7.ext x8).other (ys:=vs++[v8]) nD8 hO hH0 hD8
   have ha:=zlf (X:=X') _ s8 σ6 H8 (.ref D) [v8] (.ref D) [u8] (fun _ H9=>H9=upd H8 D (.lst (vs++[v8]))) I8 rfl (.cons r8 .nil) ⟨D,vs,v8,rfl,rfl,hD8,by rw[z6f,<- q3.length];omega,rfl⟩
   rw[hx] at ha
   refine y1d ha (fun u9 s9 ⟨v9,H9,I9,r9',e9⟩=>?_) fun _ _ z=>z
   subst e9
   obtain⟨a1,a2,a3⟩:=again I9
   have x9:Ext F1 H2 F8 (upd H8 D (.lst (vs++[v8]))):=by
    have y:=x3.trans x38
    refine⟨fun b o e=>?_,y.sub,y.new,⟨fun b f=>?_,y.dom.tgs.upd fun u e=>.inl ⟨_,y2c (e.symm.trans hD8)⟩⟩⟩
    ·have nb:b≠D:=by
      rintro rfl
      rw[hD2] at e
      cases e
     rw[z0f nb]
     exact y.same b o e
    ·have nb:b≠D:=by
      rintro rfl
      exact nD8 f
     rw[z0f nb]
     exact y.dom b f
   refine⟨_,by omega,i+1,σ6,_,F8,ε4,dn++[y],vs++[v8],rfl,hlt,a3,a1,a2,x9,r9,z08,nD8,((q3.ext x38).append (RepL.cons q8 RepL.nil)).kp kp9,by simp;omega,rest',er',by rw[es];simp⟩
 ·have hd:ts.drop i=[]:=List.drop_eq_nil_of_le (by omega)
  rw[hd] at er
  cases er
  refine y1d (T.done X' rfl rfl rfl hc i [] s3 σ3 H3 (fun _ _=>False) I3 (stat H3 fr3) st3 (ok.stop i F3 H3 x3.kp (by omega))) (fun rv s4 ⟨hr,I4⟩=>?_) fun _ _ z=>z
  subst hr
  exact fin σ3 H3 F3 s4 vs I4 x3 hD3 nD3 (by rw[es,y1x];exact q3)
structure After (X:Cx) (pins:List (Addr×Obj)) (σ:L2.St) (F:Addr->Prop) (H:Hp) (ys:List T) (D C:Addr) (H':Hp) (F':Addr->Prop) (s1:y04) (vs:List V):Prop where
 inv:∀h',Heap.SameBut C s1.heap h'->L2.Inv X pins σ H' { s1 with heap:=h' }
 ns:∃m,s1.heap.Ns C m
 free:H' C=none
 above:X.s₀.heap.objs.size<=C
 cells:∀x c,X.env.cells.lookup x=some c->c≠C
 pin:∀p∈X.pn++pins,p.1≠C
 loc:C≠X.env.locals
 new:H D=none
 ext:Ext F H F' H'
 nf:¬F' D
 lst:H' D=some (.lst vs)
 rep:RepL X.K F' H' ys vs
theorem zhv {use:Option (Value->Sem Unit)} {Q:Value->y04->Prop} {p2:Pos} (S:CompOk X scope own caps) (hi:PIt X tg iter it)
  (hg:∀cl C s₀ H₀ fp pn,PGt (z2d X (own++caps.map (·.2)) scope cl C s₀ H₀ fp pn) tg gg)
  (ht:∀cl C s₀ H₀ fp pn,PTs (z2d X (own++caps.map (·.2)) scope cl C s₀ H₀ fp pn) ifs cc)
  (he:∀cl C s₀ H₀ fp pn,PEv (z2d X (own++caps.map (·.2)) scope cl C s₀ H₀ fp pn) elt ee)
  (hs:∀x,y34 iter X.env x=pure x) {pins:List (Addr×Obj)} {s:y04} {σ:L2.St} {H:Hp} {F₀ O F:Addr->Prop} {H₀:En} {ε:Ev} {ys:List T} (I:L2.Inv X pins σ H s) (r:RelE X.K F₀ H₀ O F H ε σ)
  (e:comp own.length (caps.map (·.1)) it gg cc ee ε=some (.list ys)) (fin:∀D C H' F' s1 vs,After X pins σ F H ys D C H' F' s1 vs->compPost (y33 X.prog X.w) X.A X.xe use Q (.ref D) C (.ok .next) s1) :
  y0u (y33 X.prog X.w) X.A (comprehension (.ListComp elt [⟨tg,iter,ifs,0⟩] scope pos) scope X.env p2 (newList []) false (eval iter X.env) use) Q X.xe s:=by
 simp only[comp,y01] at e
 obtain⟨ts,et,e⟩:=e
 split at e
 case isFalse=>cases e
 next hbig =>
 simp only[y07] at e
 obtain⟨ys',ey,e⟩:=e
 cases e
 have hcl:∀x∈scope.names,x.2=.free->∃c,X.env.cells.lookup x.1=some c:=fun x hx hk=>I.ok.has x.1 (S.free x hx hk)
 refine wpAny_comprehension_free rfl hs (z7e hcl) S.kind S.names (thn (hi pins s σ H (fun J H1=>∃F1,Ext F H F1 H1/\ItOk X.K J F1 H1 ts) I ⟨F₀,H₀,O,F,ε,ts,r,et,fun J F1 H1 x1 ok=>⟨F1,x1,ok⟩⟩) fun v s1 h1=>thn h1 fun itv s2 h2=>?_)
 obtain⟨it',fp,tn,J,H2,rfl,I2,T,st2,f2,F1,x1,ok⟩:=h2
 have hfp:∀b∈fp,b<s2.heap.objs.size:=fun b hb=>by
  obtain⟨o,ho,_⟩:=T.obj 0 _ st2 b hb
  exact y0c ho
 have hD2:H2 s2.heap.objs.size=none:=I2.fresh
 have hD:H s2.heap.objs.size=none:=x1.same.none hD2
 have sz:(s2.heap.push { cls:=.type "list",data:=.seq ([]:List Value).toArray }).objs.size=s2.heap.objs.size+1:=y17 ..
 refine wpAny_newList ?_ (y23 _)
 refine wpAny_newFunctionEnv S.cell (by intro y hy;simp at hy) (fun h₁ hns₁ hsb₁=>?_) S.kind
 have keep:∀b u,(s2.heap.push { cls:=.type "list",data:=.seq ([]:List Value).toArray }).get? b=some u->h₁.get? b=some u:=fun b u e=>hsb₁.extBut b u (y0y (y0c e)) (y03 _ e)
 have I4:=zpo (tk:=s2.toks+0) S I2 f2 hfp hns₁ keep
 have r4:=(r.ext x1).cap (D:=s2.heap.objs.size) own.length S.nd hD2
 refine codeAny_compStart_list ?loop (T.self _ 0 _ _ _ (T.keep 0 _ _ st2 fun b hb o e=>keep b o (y03 _ e)) ?loop)
 refine zmp (X':=z2d X (own++caps.map (·.2)) scope (clos X.env scope.names []) (s2.heap.push { cls:=.type "list",data:=.seq ([]:List Value).toArray }).objs.size { s2 with heap:=s2.heap.push { cls:=.type "list",data:=.seq ([]:List Value).toArray } } (upd H2 s2.heap.objs.size (.lst [])) fp (X.pn++pins))
  rfl S.calm (hg _ _ _ _ _ _) (ht _ _ _ _ _ _) (he _ _ _ _ _ _) T (fun H' hn b hb=>?_) ok hbig hD2 (fun z=>z.2 rfl) (r.o0 _ (r.fr _ hD)) (fun σ' H' F' s1 vs J1 x' hD' nD' q'=>?_) I4 (T.keep 0 _ _ st2 fun b hb o e=>keep b o (y03 _ e)) (fun b hb=>?_) (Ext.laid x1.dom hD2) r4 z08 ?_ ey
 ·have okX:=z9u S I2 f2 hfp (own++caps.map (·.2))
  refine⟨hn b hb,(okX.exf b hb).1,okX.exfs b hb,.inl hb,fun x c e=>(okX.exf b hb).2 x c e,fun p hp=>?_⟩
  have hp':p∈X.pn++pins:=by simpa [z2d] using hp
  exact (f2 b hb).2.2.2.2.2 p hp'
 ·obtain⟨m,hn,_⟩:=id J1.loc
  refine fin s2.heap.objs.size _ H' F' s1 vs ⟨fun h' sb=>zja I2 f2 J1 sb,⟨m,hn⟩,J1.free,?_,fun x c e z=>?_,fun p hp z=>?_,?_,hD,x1.trans x',nD',hD',q'⟩
  ·rw[sz]
   exact Nat.le_succ_of_le I2.sz
  ·obtain⟨v,q⟩:=I2.cell x c e
   have:=q.lt
   rw[z,sz] at this
   exact absurd this (Nat.not_lt.mpr (y2e _))
  ·have:=y0c (I2.pin p hp).1
   rw[z,sz] at this
   exact absurd this (Nat.not_lt.mpr (y2e _))
  ·have:=I2.lt
   rw[sz]
   exact y15 (Nat.lt_succ_of_lt this)
 ·have:=(f2 b hb).1
  rw[z0f (y0y (hfp b hb))]
  exact this
 ·intro z
  obtain⟨o,e⟩:=x1.dom _ z
  rw[hD2] at e
  cases e
theorem ztu (S:CompOk X scope own caps) (hi:PIt X tg iter it)
  (hg:∀cl C s₀ H₀ fp pn,PGt (z2d X (own++caps.map (·.2)) scope cl C s₀ H₀ fp pn) tg gg)
  (ht:∀cl C s₀ H₀ fp pn,PTs (z2d X (own++caps.map (·.2)) scope cl C s₀ H₀ fp pn) ifs cc)
  (he:∀cl C s₀ H₀ fp pn,PEv (z2d X (own++caps.map (·.2)) scope cl C s₀ H₀ fp pn) elt ee)
  (hs:∀x,y34 iter X.env x=pure x:=by intro _;rfl):PEn X (.ListComp elt [⟨tg,iter,ifs,0⟩] scope pos) (comp own.length (caps.map (·.1)) it gg cc ee):=by
 intro pins s σ H Q I ⟨F₀,H₀,O,F,ε,ys,r,e,k⟩
 rw[eval_ListComp]
 refine zhv S hi hg ht he hs I r e fun D C H' F' s1 vs a=>?_
 obtain⟨m,hn⟩:=a.ns
 exact⟨m,hn,fun h' sb=>⟨.ref D,H',a.inv h' sb,rfl,k D vs F' H' a.ext a.new a.nf a.lst a.rep⟩⟩
theorem zef {ε:Ev} {n:Nat} {cs:List Nat} {t:T} (e:comp n cs it gg cc ee ε=some t):∃ts,t=.list ts:=by
 simp only[comp,y01] at e
 obtain⟨ts,_,e⟩:=e
 split at e
 ·simp only[y07] at e
  obtain⟨ys,_,e⟩:=e
  exact⟨ys,e.symm⟩
 ·cases e
theorem z6h (S:CompOk X scope own caps) (hi:PIt X tg iter it)
  (hg:∀cl C s₀ H₀ fp pn,PGt (z2d X (own++caps.map (·.2)) scope cl C s₀ H₀ fp pn) tg gg)
  (ht:∀cl C s₀ H₀ fp pn,PTs (z2d X (own++caps.map (·.2)) scope cl C s₀ H₀ fp pn) ifs cc)
  (he:∀cl C s₀ H₀ fp pn,PEv (z2d X (own++caps.map (·.2)) scope cl C s₀ H₀ fp pn) elt ee)
  (hs:∀x,y34 iter X.env x=pure x:=by intro _;rfl):PEv X (.ListComp elt [⟨tg,iter,ifs,0⟩] scope pos) (comp own.length (caps.map (·.1)) it gg cc ee) :=
 n2v (ztu S hi hg ht he hs) fun ε t e=>zef e
theorem ztg (i:Nat) {x:Str} {px spos:Pos} (hN:X.N.Nodup) (S:CompOk X scope own caps) (hit:PIt X tg iter it)
  (hg:∀cl C s₀ H₀ fp pn,PGt (z2d X (own++caps.map (·.2)) scope cl C s₀ H₀ fp pn) tg gg)
  (ht:∀cl C s₀ H₀ fp pn,PTs (z2d X (own++caps.map (·.2)) scope cl C s₀ H₀ fp pn) ifs cc)
  (he:∀cl C s₀ H₀ fp pn,PEv (z2d X (own++caps.map (·.2)) scope cl C s₀ H₀ fp pn) elt ee)
  (hi:X.N[i]?=some x:=by rfl) (hx:Loc X.env.scope x:=by first|exact Or.inl rfl|exact Or.inr rfl)
  (hsw:swapsWith (.ListComp elt [⟨tg,iter,ifs,0⟩] scope pos) (some (.Name x px)) spos.line X.env=pure true:=by rfl)
  (hf:X.fn x=true\/X.env.scope.names.lookup x=some .local:=by first|exact .inl rfl|exact .inr rfl)
  (hs:∀x,y34 iter X.env x=pure x:=by intro _;rfl) :
  PSt X (.Assign [.Name x px] (.ListComp elt [⟨tg,iter,ifs,0⟩] scope pos) spos) (asg i (comp own.length (caps.map (·.1)) it gg cc ee)):=by
 intro pins s σ H D I ⟨F₀,H₀,O,F,ε,o,r,e,k⟩
 simp only[asg,y07] at e
 obtain⟨t,et,rfl⟩:=e
 obtain⟨ys,rfl⟩:=zef et
 rw[exec_Assign_Name_used _ _ _ _ hsw]
 refine y02 (wpAny_standAt (y02 ?_))
 show y0u _ X.A (do let _ <- comprehension (.ListComp elt [⟨tg,iter,ifs,0⟩] scope pos) scope X.env _ (newList []) false (eval iter X.env) (some (assign (.Name x px) X.env))) _ _ s
 refine y02 (thn (zhv (use:=some (assign (.Name x px) X.env)) (Q:=fun _ s'=>SP X pins D .next s') S hit hg ht he hs I r et fun D' C H' F' s1 vs a=>?_) fun _ s' hq=>y06 (y06 hq))
 have IX:=a.inv s1.heap (Heap.SameBut.refl ..)
 have IX':L2.Inv X pins σ H' s1:=IX
 show y0u _ X.A (assign (.Name x px) X.env (.ref D')) _ _ _
 refine wpAny_assign_Name (zcq (v:=.ref D') IX' hN hi hx rfl (fun s2 I2 ⟨b,sb,hb⟩=>?_) hf)
 obtain⟨m,hn⟩:=a.ns
 have nb:C≠b:=by
  rcases hb with rfl|hb
  ·exact a.loc
  ·exact (a.cells x b hb).symm
 refine⟨m,hn.sameBut sb nb,fun h' sb'=>?_⟩
 have I3:L2.Inv X pins (σ.set i (some (.ref D'))) H' { s2 with heap:=h' }:=I2.turned (t':=s2.toks) (it:=C) (fun b o hb e=>sb'.extBut b o hb e) a.free a.loc (.inr a.above) a.cells a.pin
 refine⟨_,H',I3,?_⟩
 have y:Ext F H (fun b=>F' b\/b=D') H':=⟨a.ext.same,fun b z=>.inl (a.ext.sub b z),fun b z=>by
  rcases z with z|rfl
  ·exact a.ext.new b z
  ·exact .inr a.new,⟨fun b z=>by
  rcases z with z|rfl
  ·exact a.ext.dom b z
  ·exact⟨_,a.lst⟩,a.ext.dom.tgs⟩⟩
 refine k _ _ H' y.kp ((r.ext y).set i ?_)
 simp only[Rep]
 exact⟨D',vs,rfl,.inr rfl,.inl a.lst,a.rep.keep (fun _ _ z=>z) fun b _ z w=>⟨.inl z,w⟩⟩
end
end
section
variable [Tbl]
open AutoSeq1 (wpAny_loadPart')
theorem z66 (l:Addr) (items:Array Value) (n:Nat) (dct:Option Addr) (sl:Array (Option Value)) :
  Meets (Builtin.«enumerate.__new__» ⟨[.type "enumerate",.ref l],[]⟩) (fun _ R s=>s.heap.get? l=some { cls:=.type "tuple",dict:=dct,data:=.seq items n,slots:=sl } /\
   R (.ok (.ret (.ref (s.heap.push { cls:=.type "tuple_iterator",data:=.fields #[.ref l,.int 0 0] }).objs.size)))
    { s with heap:=(s.heap.push { cls:=.type "tuple_iterator",data:=.fields #[.ref l,.int 0 0] }).push { cls:=.type "enumerate",data:=.fields #[.none,.bool false,.ref s.heap.objs.size,y35 0,.none,.none] } }) :=
 .of_wp fun prog w A R s h=>by
  obtain⟨hp,g,d,tk,os⟩:=s;obtain⟨hl,h⟩:=h
  have hsub:=sub_enumerate
  have hL:Heap.IsTuple (Shared.heap ⟨hp,g,d,tk,os⟩) l items:=⟨_,hl,rfl,n,rfl⟩
  wp_walk using wpAny_loadPart' hl
  refine wpAny_stack_any fun st=>y06 ?_
  split
  ·rename_i c _ _ _ _ _
   cases (c == Value.type "enumerate")
   ·wp_walk using wpAny_loadPart' hl,y2o hL
    exact⟨_,rfl,h⟩
   ·wp_walk using wpAny_loadPart' hl,y2o hL
    exact⟨_,rfl,h⟩
  ·wp_walk using wpAny_loadPart' hl,y2o hL
   exact⟨_,rfl,h⟩
section
variable {prog:y0q} {w:World} {A:Around} {E:Value->y04->Prop} {s:y04}
theorem z67 {l:Addr} {items:Array Value} {Q:Value->y04->Prop} (hL:s.heap.IsTuple l items)
  (h:∀h',IsEnum h' (s.heap.objs.size+1) s.heap.objs.size 0 .none->h'.IsTupleIter s.heap.objs.size l 0->h'.objs.size=s.heap.objs.size+2 ->
   (∀b o,s.heap.get? b=some o->h'.get? b=some o)->Q (.ref (s.heap.objs.size+1)) { s with heap:=h' }) :
  y0u (y33 prog w) A (call (.type "enumerate") [.ref l]) Q E s:=by
 obtain⟨⟨c,dct,dt,sl⟩,hl,hc,n,hd⟩:=hL
 replace hc:c=.type "tuple":=hc
 replace hd:dt=.seq items n:=hd
 subst hc hd
 refine callType_new F.called_enumerate (by decide) (F.typeCall_enumerate_1 _) (F.newCall_enumerate_1 _) (fun obj=>F.args_object_init_2 obj _) F.entry_enumerate_new
  (z66 l items n dct sl) ⟨hl,?_⟩
 have hz:(s.heap.push { cls:=.type "tuple_iterator",data:=.fields #[.ref l,.int 0 0] }).objs.size=s.heap.objs.size+1:=y17 ..
 show _/\_
 rw[hz]
 have he:IsEnum ((s.heap.push { cls:=.type "tuple_iterator",data:=.fields #[.ref l,.int 0 0] }).push
   { cls:=.type "enumerate",data:=.fields #[.none,.bool false,.ref s.heap.objs.size,y35 0,.none,.none] }) (s.heap.objs.size+1) s.heap.objs.size 0 .none:=by
  have:=y0l (s.heap.push { cls:=.type "tuple_iterator",data:=.fields #[.ref l,.int 0 0] })
   (o:={ cls:=.type "enumerate",data:=.fields #[.none,.bool false,.ref s.heap.objs.size,y35 0,.none,.none] }) rfl
  rw[hz] at this;exact this
 refine⟨⟨_,he,rfl⟩,h _ he ⟨_,y03 _ (y0l _ rfl),rfl,rfl⟩ (by rw[y17,hz]) fun b o x=>y03 _ (y03 _ x)⟩
theorem z7o {it l:Addr} {i:Nat} {items} {x:Value} {Q:Value->y04->Prop} (hit:s.heap.IsTupleIter it l i)
  (hl:s.heap.IsTuple l items) (hx:items[i]?=some x)
  (hQ:∀h',h'.IsTupleIter it l (i+1)->Heap.SameBut it s.heap h'->Q x { s with heap:=h' }) :
  y0u (y33 prog w) A (y0t (.ref it)) Q E s:=by
 obtain⟨o,ho,hc,hd⟩:=id hit
 obtain⟨ol,hol,_,nl,hdl⟩:=hl
 unfold y0t
 refine y02 (y2m (name:=Str.ofString "__next__") hit.typeIs y27
  (y2t y27 hit.typeIs F.entry_tuple_iterator_next ?_ (F.args_tuple_iterator_next_1 _)))
 show y0u _ _ (field (.ref it) 0 >>= _) _ _ s
 refine y02 (y2l ho hd (x:=.ref l) rfl ?_)
 show y0u _ _ (if (Value.ref l == Value.none)=true then _ else _) _ _ s
 rw[if_neg (show ¬((Value.ref l == Value.none)=true) from y22)]
 show y0u _ _ (field (.ref it) 1 >>= _) _ _ s
 refine y02 (y2l ho hd (x:=.int i 0) rfl ?_)
 show y0u _ _ (seqItems? (.ref l) >>= _) _ _ s
 refine y02 (wpAny_seqItems hol hdl ?_)
 simp only[Int.toNat_natCast,hx]
 refine y02 (wpAny_setField ho hd (by simp) (y06 ⟨x,rfl,y06 (hQ _ ?_ (Heap.SameBut.update ..))⟩))
 exact⟨_,Heap.get?_update_self _ ho (Obj.isFreed_of_fields (Obj.data_mapFields hd _)),(Obj.cls_mapFields ..).trans hc,by
  rw[Obj.data_mapFields hd];simp[y35]⟩
theorem z4v {it l:Addr} {i:Nat} {items} {Q:Value->y04->Prop} (hh:A.handled=none)
  (hit:s.heap.IsTupleIter it l i) (hl:s.heap.IsTuple l items) (hx:items[i]?=none)
  (hE:∀h' e,Heap.ExtBut it s.heap h'->(∃o,h'.get? e=some o/\o.cls=.type "StopIteration")->E (.ref e) { s with heap:=h' }) :
  y0u (y33 prog w) A (y0t (.ref it)) Q E s:=by
 obtain⟨o,ho,hc,hd⟩:=id hit
 obtain⟨ol,hol,_,nl,hdl⟩:=hl
 unfold y0t
 refine y02 (y2m (name:=Str.ofString "__next__") hit.typeIs y27
  (y2t y27 hit.typeIs F.entry_tuple_iterator_next ?_ (F.args_tuple_iterator_next_1 _)))
 show y0u _ _ (field (.ref it) 0 >>= _) _ _ s
 refine y02 (y2l ho hd (x:=.ref l) rfl ?_)
 show y0u _ _ (if (Value.ref l == Value.none)=true then _ else _) _ _ s
 rw[if_neg (show ¬((Value.ref l == Value.none)=true) from y22)]
 show y0u _ _ (field (.ref it) 1 >>= _) _ _ s
 refine y02 (y2l ho hd (x:=.int i 0) rfl ?_)
 show y0u _ _ (seqItems? (.ref l) >>= _) _ _ s
 refine y02 (wpAny_seqItems hol hdl ?_)
 simp only[Int.toNat_natCast,hx]
 refine y02 (wpAny_rule (y02 (wpAny_setField ho hd (by simp) ?_)))
 show y0u _ _ (newExc (.type "StopIteration") [] >>= _) _ _ _
 refine y02 ?_
 simp only[newExc,newTuple]
 refine y02 (y2r ?_ (by size_fits))
 refine y02 (m:=firstArgMember _ _) (wpAny_of_eq (a:=Value.none) (by first|rfl|(simp only[firstArgMember];rfl)) ?_)
 refine y2r ?_ (by size_fits)
 simp only[raiseNew]
 refine y02 (wpAny_handled ?_)
 first|rw[show A.in1.handled=none from hh]|rw[hh]
 refine y02 (y06 (wpAny_throw ?_))
 exact hE _ _ (((Heap.SameBut.update ..).extBut.push _).push _) ⟨_,y0l _ rfl,rfl⟩
end
theorem zgi {prog:y0q} {w:World} {A:Around} (hh:A.handled=none) (it l:Addr) (hne:l≠it) (items:Array Value) :
  Draws prog w A it [it,l] items.size (fun i v=>items[i]?=some v) (fun i h=>h.IsTupleIter it l i/\h.IsTuple l items) where
 live:=fun _ _ st=>let ⟨o,ho,_⟩:=st.1;⟨o,ho⟩
 frame:=fun _ _ _ st hk=>⟨st.1.at fun o e=>hk it (by simp) o e,let ⟨o,ho,r⟩:=st.2;⟨o,hk l (by simp) o ho,r⟩⟩
 item:=fun i s Q E hi st hQ=>by
  refine z7o st.1 st.2 (x:=items[i]) (by simp[hi]) fun h' hit' hs'=>?_
  exact hQ _ h' s.toks (by simp[hi]) ⟨hit',st.2.extBut hs'.extBut hne⟩ hs'
 done:=fun s Q E st hE=>z4v hh st.1 st.2 (by simp) hE
noncomputable def Ite (K:y00) (a:Addr):It :=
 ⟨fun i H=>∃xs x,SqT K H a xs/\xs[i]?=some x,fun i H x H'=>∃p v,H p=none/\x=.ref p/\H'=upd H p (.tup [.int i,v])/\∀xs,SqT K H a xs->xs[i]?=some v,fun i H=>∃xs,SqT K H a xs/\xs.length<=i⟩
theorem zjv {P:y0q} {w:World} {K:y00} {es:List Expr} {k:Nat} {pos:Pos} (a it e:Addr) (hne:e≠it) (hai:a≠it) (hae:a≠e):Turn P w K (.Tuple es k pos) (Ite K a) [e,it] e (fun i h=>(∃old,IsEnum h e it i old)/\h.IsTupleIter it a i) where
 mem:=by simp
 obj:=fun i h st b hb=>by
  obtain⟨⟨old,he⟩,o,ho,hc,hd⟩:=st
  rcases y09.mp hb with rfl|hb
  ·exact⟨_,he,fun v z=>by
    have z':Data.fields _=Data.cell v:=z
    cases z'⟩
  ·have e1:b=it:=by simpa using hb
   subst e1
   exact⟨o,ho,fun v z=>by rw[hd] at z;cases z⟩
 keep:=fun i h h' st kk=>by
  obtain⟨⟨old,he⟩,st2⟩:=st
  exact⟨⟨old,kk e (by simp) _ he⟩,st2.at fun o q=>kk it (by simp) o q⟩
 item:=by
  intro X hP hw hK hc i pins s σ H E I hf st hg
  subst hP hw hK
  obtain⟨xs,x,hq,hx⟩:=hg
  obtain⟨its,rv,p,hz⟩:=I.tuple hq
  obtain⟨u,hu,ru⟩:=rv.get hx
  obtain⟨⟨old,he⟩,hit⟩:=st
  obtain⟨f0,f1,f2,f3,f4,f5⟩:=hf e (by simp)
  obtain⟨g0,g1,g2,g3,g4,g5⟩:=hf it (by simp)
  have hi:i<its.toArray.size:=by
   rw[y0h]
   exact (y0k.mp hu).1
  have hnf:e∉[it,a]:=by
   intro z
   rcases y09.mp z with z|z
   ·exact hne z
   ·have z':e=a:=by simpa using z
    exact hae z'.symm
  refine wpAny_pyNext_enum_itemD (zgi (A:=X.A.in1) (I.ok.hd hc) it a hai its.toArray) he ⟨hit,p⟩ hi hne hnf fun x' h' tk hP' ho hs' hT hsz hk=>?_
  have ex:x'=u:=by
   have:=hP'
   rw[<- Array.getElem?_toList] at this
   rw[show (its.toArray).toList=its from rfl,hu] at this
   exact (y2c this).symm
  subst ex
  refine⟨_,rfl,wpAny_letOwnedTupleGo_enum ho fun h2 he2 hs2=>?_⟩
  have helt:e<s.heap.objs.size:=y0c he
  have hilt:it<s.heap.objs.size:=by obtain⟨o,ho',_⟩:=hit;exact y0c ho'
  have k2:∀b o,b≠e->b≠it->s.heap.get? b=some o->h2.get? b=some o:=fun b o h1 h3 q=>hs2.extBut b o h1 (hk b o h1 h3 q)
  have fr:H s.heap.objs.size=none:=I.hok.fresh (y0o _)
  have hT2:h2.get? s.heap.objs.size=some { cls:=.type "tuple",data:=.seq #[.int i tk,x'] }:=hs2.extBut _ _ (y15 helt) hT
  have nH:∀b o,H b=some o->b≠e/\b≠it:=fun b o q=>⟨fun z=>(by rw[z,f0] at q;cases q),fun z=>(by rw[z,g0] at q;cases q)⟩
  have hok2:HOk X.prog X.w (upd H s.heap.objs.size (.tup [.int i,x])) h2:=by
   intro b o q
   by_cases hb:b=s.heap.objs.size
   ·subst hb
    rw[z08] at q
    cases q
    exact⟨by show 2<=y0j;decide,[.int i tk,x'],.cons ⟨tk,rfl⟩ (.cons ru .nil),⟨_,hT2,rfl,_,rfl⟩⟩
   ·rw[z0f hb] at q
    refine (I.hok b o q).stay (fun c v hc' q'=>k2 c v ?_ ?_ q') (fun c q'=>?_) fun c ys q'=>?_
    ·rcases hc' with rfl|hc'
     ·exact (nH _ _ q).1
     ·exact (nH _ _ hc').1
    ·rcases hc' with rfl|hc'
     ·exact (nH _ _ q).2
     ·exact (nH _ _ hc').2
    ·rw[z0f (z0r q' fr)]
     exact q'
    ·rw[z0f (z0r q' fr)]
     exact q'
  have I2:L2.Inv X pins σ (upd H s.heap.objs.size (.tup [.int i,x])) { s with heap:=h2,toks:=tk+1 }:=by
   refine I.step (g':=s.gens) (d':=s.drawn) (ch:=[e,it]) (fun b hb=>?_) (fun b o _ _ hc' q _=>k2 b o (fun z=>hc' (by simp[z])) (fun z=>hc' (by simp[z])) q) (fun b o _ _ hc' q _=>⟨o.slots,k2 b o (fun z=>hc' (by simp[z])) (fun z=>hc' (by simp[z])) q⟩) (fun b o _ q n=>?_)
    (fun b o hc' q=>⟨o,k2 b o (fun z=>hc' (by simp[z])) (fun z=>hc' (by simp[z])) q⟩) (fun b ys q=>by rw[z0f (z0r q fr)];exact q) (fun b o u q=>by rw[z0f (z0r q fr)];exact q) (fun b ps q=>⟨#[],by rw[z0f (z0r q fr),q];simp⟩) (fun m hm=>?_) hok2 I.bare
   ·rcases y09.mp hb with rfl|hb
    ·exact⟨f3,f1,f4,f5⟩
    ·have:b=it:=by simpa using hb
     subst this
     exact⟨g3,g1,g4,g5⟩
   ·rw[z0f (y0y (y0c q))]
    exact n
   ·obtain⟨o,es',ep,ho',r⟩:=hm
    exact⟨o,es',ep,k2 _ o (Ne.symm f1) (Ne.symm g1) ho',r⟩
  refine⟨.ref s.heap.objs.size,_,I2,rfl,⟨s.heap.objs.size,x,fr,rfl,rfl,fun ys hy=>by rw[I.tuple_inj hy hq];exact hx⟩,⟨⟨_,by simpa using he2⟩,hs'.1.at fun o q=>(hs2.2 it hne.symm).trans q⟩,fun b hb=>?_⟩
  rcases y09.mp hb with rfl|hb
  ·rw[z0f (y0y helt)]
   exact f0
  ·have:b=it:=by simpa using hb
   subst this
   rw[z0f (y0y hilt)]
   exact g0
 done:=by
  intro X hP hw hK hc i pins s σ H E I hf st hg
  subst hP hw hK
  obtain⟨xs,hq,hx⟩:=hg
  obtain⟨its,rv,p,hz⟩:=I.tuple hq
  obtain⟨⟨old,he⟩,hit⟩:=st
  obtain⟨g0,g1,g2,g3,g4,g5⟩:=hf it (by simp)
  have hT:s.TypeIs (.ref e) "enumerate":=⟨_,he,rfl⟩
  have hl:=rv.length
  unfold pyNext
  refine y02 (wpAny_attempt (y2m (name:=Str.ofString "__next__") hT F.slot_enumerate_next
   (y2t F.slot_enumerate_next hT F.entry_enumerate_next ?_ (F.args_enumerate_next_1 _))))
  show y0u _ _ (field (.ref e) 2 >>= _) _ _ _
  refine y02 (y2l he rfl (x:=.ref it) rfl ?_)
  refine y02 (z4v (I.ok.hd hc) hit (show s.heap.IsTuple a its.toArray from p) (by simp;omega) fun h' x he' hx'=>?_)
  obtain⟨o,ho,hc'⟩:=hx'
  refine y02 (wpAny_isInstance (T:="StopIteration") (b:=true) ⟨o,ho,hc'⟩ isSubtype_stop ?_)
  exact y06 ⟨rfl,I.turned (t':=s.toks) (fun b o hb q=>he' b o hb q) g0 g1 g3 g4 g5⟩
 self:=fun _ _ _ _ _ st h=>by
  obtain⟨⟨old,he⟩,_⟩:=st
  exact wpAny_pyIter_enum he h
def iEn (K:y00) (ta:TA):TI:=fun σ H R=>ta σ H fun vs H1=>∃a xs,vs=[.ref a]/\SqT K H1 a xs/\R (Ite K a) H1
section
variable {X:Cx} {es:List Expr} {k:Nat} {p pos p2:Pos} {a:Expr} {f:Fe}
theorem zrl {ta:TA} (hg:Gl X "enumerate") (hm:X.mg "enumerate"=none) (ha:PA X [a] ta) (hs:y0a [a] X.env=[(false,eval a X.env)]:=by rfl):PI X (.Tuple es k p2) (.Call (.Name "enumerate" p) [a] [] pos) (iEn X.K ta):=by
 intro pins s σ H R I h
 refine Call_ (z9f I hg hm PyProof.Rows.boot_enumerate (y1s (thn (ha pos pins s σ H _ I h) fun us s1 ⟨vs,H1,I1,r1,q1⟩=>?_) hs rfl))
 obtain⟨a,xs,rfl,hq,q⟩:=q1
 cases r1 with
 | cons r rr =>
  cases rr
  cases r
  obtain⟨its,rv,pl,hz⟩:=I1.tuple hq
  have hal:a<s1.heap.objs.size:=by obtain⟨o,ho,_⟩:=pl;exact y0c ho
  refine z67 (show s1.heap.IsTuple a its.toArray from pl) fun h' he hit hsz hk=>wpAny_pyIter_enum he ?_
  refine⟨s1.heap.objs.size+1,[s1.heap.objs.size+1,s1.heap.objs.size],_,_,H1,rfl,I1.kept (t':=s1.toks) hk,zjv a s1.heap.objs.size (s1.heap.objs.size+1) (Nat.succ_ne_self _) (y0y hal) (y0y (Nat.lt_succ_of_lt hal)),⟨⟨_,he⟩,hit⟩,fun b hb=>?_,q⟩
  have hb':s1.heap.objs.size<=b:=by
   rcases y09.mp hb with rfl|hb
   ·exact y2e _
   ·have:b=s1.heap.objs.size:=by simpa using hb
    rw[this]
    exact y0o _
  exact I1.fpOk hb' (I1.hok.fresh hb')
theorem zly {K:y00} {a:Addr} {F1:Addr->Prop} {H1:Hp} {ts:List T} {vs:List V} (hr:SqT K H1 a vs) (q:RepL K F1 H1 ts vs):ItOk K (Ite K a) F1 H1 (enum ts) where
 go:=fun i F H t kp d e=>by
  have hi:=(y0k.mp e).1
  simp only[enum,y13,List.length_zipIdx] at hi
  obtain⟨v,h1,_⟩:=q.get (y0v hi)
  exact⟨vs,v,kp.tup _ _ hr,h1⟩
 yld:=fun i F H t x H' kp d e y=>by
  obtain⟨p,v,hp,rfl,rfl,y⟩:=y
  have hi:=(y0k.mp e).1
  simp only[enum,y13,List.length_zipIdx] at hi
  obtain⟨v',h1,h2⟩:=(q.kp kp).get (y0v hi)
  have h3:=y vs (kp.tup _ _ hr)
  rw[h1] at h3
  cases h3
  have x1:=Ext.laid (o:=.tup [.int i,v]) d hp
  refine⟨F,x1,?_⟩
  have et:t=.tuple [.int i,ts[i]]:=by
   simp only[enum,y14,List.getElem?_zipIdx,y0v hi] at e
   simpa using e.symm
  subst et
  simp only[Rep]
  exact⟨p,_,rfl,SqT.of z08,RepL.cons (by simp[Rep]) (RepL.cons (h2.ext x1) RepL.nil)⟩
 stop:=fun i F H kp hl=>⟨vs,kp.tup _ _ hr,by
  simp only[enum,y13,List.length_zipIdx] at hl
  rw[<- q.length]
  exact hl⟩
theorem zqn (hm:X.mg "enumerate"=none) (ha:PEv X a f) (hg:Gl X "enumerate":=by rfl) (hs:y0a [a] X.env=[(false,eval a X.env)]:=by rfl) (hs2:y0a [a] X.env=(false,eval a X.env)::y0a [] X.env:=by rfl) :
  PIt X (.Tuple es k p2) (.Call (.Name "enumerate" p) [a] [] pos) (z4x (z8e f)):=zi3 (zrl hg hm (z13 ha z34 hs2) hs) fun σ H R ⟨F₀,H₀,O,F,ε,ts,r,e,k⟩=>by
 simp only[z4x,z8e,y07,y01] at e
 obtain⟨us,⟨t,et,e⟩,rfl⟩:=e
 split at e
 ·cases e
  refine⟨F₀,H₀,O,F,ε,_,r,et,fun v F' H' x q=>?_⟩
  simp only[Rep] at q
  obtain⟨a,vs,rfl,hs,hr⟩:=q
  exact⟨a,vs,rfl,hs,k _ F' H' x (zly hs hr)⟩
 ·cases e
end
end
section
variable [Tbl]
structure Cl (P:y0q) (w:World) (K:y00) (mg:Str->Option Value) (base:Heap) (x:Str) (k n:Nat) (d:List T->Option T):Prop where
 ex:∃fa fd ps,FnOk P w K mg base CX0 k fa fd ps (spT K n d)/\mg x=some (.ref fa)/\y08 K (.ref fa)=true/\Binds K fd ps []
section
variable {P:y0q} {w:World} {K:y00} {mg:Str->Option Value} {base:Heap} {x:Str} {k n:Nat} {d:List T->Option T}
theorem Cl.mono {j:Nat} (c:Cl P w K mg base x j n d) (h:j<=k):Cl P w K mg base x k n d:=by
 obtain⟨fa,fd,ps,F,r⟩:=c.ex
 exact⟨fa,fd,ps,F.mono h,r⟩
theorem Cl.mk' {fa:Addr} {fd:y0b} {ps:List Str} (F:FnOk P w K mg base CX0 k fa fd ps (spT K n d)) (m:mg x=some (.ref fa)) (kp:y08 K (.ref fa)=true) (b:Binds K fd ps []):Cl P w K mg base x k n d:=⟨fa,fd,ps,F,m,kp,b⟩
end
section
variable {X:Cx} {k n:Nat} {d:List T->Option T} {x:Str} {p pos:Pos} {e:Expr} {es:List Expr} {fs:List Fe}
theorem z0j (C:Cl X.prog X.w X.K X.mg X.base x k n d) (hr:Room k X.A) (ha:PAv X (e::es) fs) (hg:Gl X x:=by rfl) (hn:fs.length=n:=by rfl) (hdb:(x == ("__debug__":Str))=false:=by decide)
  (he:y0a (e::es) X.env=(false,eval e X.env)::y0a es X.env:=by rfl) (hpl:(y2j pos (y0a es X.env)).any (·.1)=false:=by rfl):PEv X (.Call (.Name x p) (e::es) [] pos) (opN d fs):=by
 obtain⟨fa,fd,ps,F,m,kp,b⟩:=C.ex
 exact ztv F hr hg m kp b ha hn hdb he hpl
theorem q_gI {i:Int} {t:Tok} (hm:X.mg x=some (.int i t)) (hg:Gl X x:=by rfl) (hd:(x == ("__debug__":Str))=false:=by decide):PEv X (.Name x pos) (cst (.int i)):=zko (v:=.int i) (z92 (v:=.int i) hg hm ⟨t,rfl⟩ hd) fun _ _=>by simp[Rep]
noncomputable def zv9 (scope sc:Scope) (N:List Str) (caps:List (Nat×Str)):Bool :=
 decide (scope.kind=.function) && scope.names.all (fun y=>(decide (y.2≠.local) || decide (scope.names.lookup y.1=some .local)) && decide (y.2≠.cell) && (decide (y.2≠.free) || decide (sc.names.lookup y.1=some .cell) || decide (sc.names.lookup y.1=some .free)))
  && caps.all (fun q=>decide (N[q.1]?=some q.2) && decide (scope.names.lookup q.2=some .free)) && decide ((caps.map (·.1)).Nodup)
theorem z83 {scope sc:Scope} {own:List Str} {caps:List (Nat×Str)} (N:List Str) (hsc:X.env.scope=sc) (hN:X.N=N) (hc:X.calm=true) (h:zv9 scope sc N caps=true):CompOk X scope own caps:=by
 simp only[zv9,y1b,List.all_eq_true,decide_eq_true_eq,Bool.or_eq_true] at h
 obtain⟨⟨⟨h1,h2⟩,h3⟩,h4⟩:=h
 refine⟨h1,fun y hy hl=>?_,fun y hy=>(h2 y hy).1.2,fun y hy hf=>?_,fun q hq=>by rw[hN];exact h3 q hq,h4,hc⟩
 ·rcases (h2 y hy).1.1 with z|z
  ·exact absurd hl z
  ·exact z
 ·have hk:X.env.kindOf y.1=sc.names.lookup y.1:=by rw[<- hsc];rfl
  rw[hk]
  rcases (h2 y hy).2 with (z|z)|z
  ·exact absurd hf z
  ·exact .inl z
  ·exact .inr z
end
theorem z3w {P:y0q} {w:World} {K:y00} {mg:Str->Option Value} {base:Heap} {x:Str} {st:Stmt} {f:Addr} {fd:y0b} {N ps:List Str} {k:Nat} {b:Fs} (F:Fun K x x st f fd) (S:FnScope N ps (z02 st)) (bd:Binds K fd ps []) (m:mg x=some (.ref f))
  (hb:∀(cdv:Value) (A:Around) (outer:List Env) (s:y04) (H:Hp) (E:XK),Room k (A.deeper (envOfC x (z02 st) s.heap.objs.size f cdv)) ->
   PBt (cxOf CX0 P w K mg base N x (z02 st) f cdv A outer s H E).nox (z0d st) b):Cl P w K mg base x (k+1) ps.length (runF b N.length):=.mk' (zv2 F S hb) m F.kp bd
end
end D
end
section
namespace L2
open PySem PySem.Spec PyProof.Rows
section
variable {κ:Type} [DecidableEq κ]
end
section
variable {P:y0q} {w:World} {H:Hp} {h:Heap} {a:Addr}
end
section
variable {X:Cx} {pins:List (Addr×Obj)} {σ:St} {H:Hp} {s:y04} {a:Addr} {y v:V} {u r:Value} {o:Option V} {A:Around} {E:Value->y04->Prop}
end
section
variable {X:Cx} {pins:List (Addr×Obj)} {σ:St} {H:Hp} {s:y04} {a:Addr} {kvs:List (Key×V)} {k:Key} {u:Value} {A:Around} {E:Value->y04->Prop}
end
section
variable {X:Cx} {o i e value:Expr} {pos pos' tpos:Pos} {td ty tv:TE}
end
section
variable {X:Cx} {pos:Pos}
end
section
variable {X:Cx} {pins:List (Addr×Obj)} {σ:St} {H:Hp} {s:y04} {a:Addr} {y d:V} {u r:Value} {o:Option V} {A:Around} {E:Value->y04->Prop}
end
section
variable {X:Cx} {o e f:Expr} {apos cpos:Pos} {td ty tx:TE}
end
section
variable {X:Cx} {pins:List (Addr×Obj)} {σ:St} {H:Hp} {s:y04} {a:Addr} {kvs:List (Key×V)} {A:Around} {E:Value->y04->Prop}
end
section
variable {X:Cx} {pins:List (Addr×Obj)} {σ:St} {H:Hp} {s:y04} {a:Addr} {y:V} {u:Value} {A:Around} {E:Value->y04->Prop}
end
end L2
end
section
namespace D
open PySem PySem.Spec PyProof.Rows L2
variable [Tbl]
section
variable {K:y00} {F:Addr->Prop} {H:Hp}
end
section
variable {X:Cx} {a b e:Expr} {f g:Fe} {pos:Pos}
variable {x:Str} {px:Pos}
theorem zvi {R:TE} {h:Fe} (k:∀σ H Q,tV X.K h σ H Q->R σ H Q):∀σ H Q,tT X.K (tstB h) σ H Q->L2.tB R σ H Q:=fun σ H Q ⟨F₀,H₀,O,F,ε,b,r,e,kk⟩=>by
 simp only[tstB,y01] at e
 obtain⟨t,et,e⟩:=e
 split at e
 ·cases e
  refine k σ H _ ⟨F₀,H₀,O,F,ε,_,r,et,fun v F' H' x q=>?_⟩
  simp only[Rep] at q
  exact⟨_,q,kk F' H' x⟩
 ·cases e
end
end D
end
section
namespace D
open PySem
variable [Tbl]
def Rs (xs:Array Nat):Prop:=xs.toList.Pairwise (·<·)
def Cuts (xs:Array Nat) (j p:Nat):Prop:=p<=xs.size/\(∀i,i<p->∀y,xs.toList[i]?=some y->y<j)/\∀i,p<=i->∀y,xs.toList[i]?=some y->j<=y
theorem zfh {xs:Array Nat} (h:Rs xs) {i k a b:Nat} (hik:i<=k) (ha:xs.toList[i]?=some a) (hb:xs.toList[k]?=some b):a<=b:=by
 obtain⟨hi,rfl⟩:=y0k.mp ha
 obtain⟨hk,rfl⟩:=y0k.mp hb
 rcases Nat.lt_or_eq_of_le hik with q|q
 ·exact Nat.le_of_lt (List.pairwise_iff_getElem.mp h i k hi hk q)
 ·subst q
  exact y0o _
theorem zce {xs:Array Nat} (j:Nat) (h:Rs xs):∀fuel lo hi,hi - lo<=fuel->lo<=hi->hi<=xs.size->(∀i,i<lo->∀y,xs.toList[i]?=some y->y<j)->(∀i,hi<=i->∀y,xs.toList[i]?=some y->j<=y) ->
  Cuts xs j (SetTable.below.go xs j fuel lo hi)
 | 0,lo,hi,h1,h2,h3,ha,hb=>by
  have:lo=hi:=by omega
  subst this
  exact⟨h3,ha,hb⟩
 | fuel+1,lo,hi,h1,h2,h3,ha,hb=>by
  unfold SetTable.below.go
  by_cases c:lo<hi
  ·rw[if_pos c]
   have hm:(lo+hi) / 2<xs.size:=by omega
   have hg:xs.toList[(lo+hi) / 2]?=some (xs.getD ((lo+hi) / 2) j):=by
    rw[y0v (by simpa using hm)]
    simp[Array.getD,hm]
   show Cuts xs j (if xs.getD ((lo+hi) / 2) j<j then SetTable.below.go xs j fuel ((lo+hi) / 2+1) hi else SetTable.below.go xs j fuel lo ((lo+hi) / 2))
   by_cases q:xs.getD ((lo+hi) / 2) j<j
   ·rw[if_pos q]
    exact zce j h fuel _ hi (by omega) (by omega) h3 (fun i hi' y hy=>Nat.lt_of_le_of_lt (zfh h (Nat.le_of_lt_succ hi') hy hg) q) hb
   ·rw[if_neg q]
    exact zce j h fuel lo _ (by omega) (by omega) (by omega) ha fun i hi' y hy=>y1o (Nat.le_of_not_lt q) (zfh h hi' hg hy)
  ·rw[if_neg c]
   have:lo=hi:=by omega
   subst this
   exact⟨h3,ha,hb⟩
theorem zbd {xs:Array Nat} (j:Nat) (h:Rs xs):Cuts xs j (SetTable.below xs j) :=
 zce j h xs.size 0 xs.size (by omega) (y23 _) (y0o _) (fun i z=>absurd z (Nat.not_lt_zero i)) fun i z y e=>by
  rw[List.getElem?_eq_none (by simpa using z)] at e
  cases e
theorem zkj {xs:Array Nat} {j:Nat} (h:Rs xs) (n:xs[SetTable.below xs j]?≠some j):Rs (SetTable.insertAt xs (SetTable.below xs j) j):=by
 obtain⟨h1,h2,h3⟩:=zbd j h
 unfold Rs
 rw[SetTable.toList_insertAt]
 generalize SetTable.below xs j=p at *
 refine List.pairwise_append.mpr ⟨h.sublist (List.take_sublist _ _),y18.mpr ⟨fun y hy=>?_,h.sublist (List.drop_sublist _ _)⟩,fun a ha b hb=>?_⟩
 ·obtain⟨i,hi⟩:=List.getElem?_of_mem hy
  rw[List.getElem?_drop] at hi
  have hle:j<=y:=h3 _ (y38 p i) y hi
  refine Nat.lt_of_le_of_ne hle fun e=>n ?_
  subst e
  rw[<- Array.getElem?_toList]
  have h0:p<xs.toList.length:=by
   have:=(y0k.mp hi).1
   omega
  have hp:xs.toList[p]?=some xs.toList[p]:=y0v h0
  have q1:=h3 p (y0o _) _ hp
  have q2:=zfh h (y38 p i) hp hi
  rw[hp,Nat.le_antisymm q2 q1]
 ·obtain⟨i,hi⟩:=List.getElem?_of_mem ha
  have hlt:i<p:=by
   have:=(y0k.mp hi).1
   rw[List.length_take] at this
   omega
  rw[List.getElem?_take_of_lt hlt] at hi
  have haj:=h2 i hlt a hi
  rcases y09.mp hb with e|hb
  ·omega
  ·obtain⟨k,hk⟩:=List.getElem?_of_mem hb
   rw[List.getElem?_drop] at hk
   have:=h3 _ (y38 p k) b hk
   omega
theorem zct {t:SetTable} {j:Nat} (h:∀i,t.slot j≠.live i):t.place[SetTable.below t.place j]?≠some j:=fun e=>by
 unfold SetTable.slot at h
 dsimp only at h
 rw[e] at h
 simp at h
theorem zbt {t:SetTable} {f:Nat->Int} {h:Int}:∀(n:Nat) (p:SetTable.Probe),(∀d,p.dummy=some d->t.slot d=.dummy)->∀j dm,SetTable.probe.go t f h n p=some (.empty j dm)->t.slot j=.empty/\∀d,dm=some d->t.slot d=.dummy
 | 0,p,hp,j,dm,e=>by cases e
 | n+1,p,hp,j,dm,e=>by
  unfold SetTable.probe.go at e
  have adv:∀q:SetTable.Probe,(t.advance q).dummy=q.dummy:=fun q=>by
   unfold SetTable.advance
   split <;> rfl
  split at e
  next q =>
   cases e
   exact⟨q,hp⟩
  next q=>exact zbt n _ (fun d z=>by rw[adv] at z;cases z;exact q) j dm e
  next i q =>
   split at e
   ·cases e
   ·exact zbt n _ (fun d z=>by rw[adv] at z;exact hp d z) j dm e
theorem zge {t:SetTable} {h:Int} {j:Nat} {b:Bool} (e:t.freeSlot h=some (j,b)):t.place[SetTable.below t.place j]?≠some j:=by
 unfold SetTable.freeSlot at e
 split at e
 next j' dm q =>
  cases e
  obtain⟨h1,h2⟩:=zbt _ _ (fun d z=>by cases z) _ _ q
  cases dm with
  | none=>exact zct fun i z=>by rw[Option.getD_none,h1] at z;cases z
  | some d=>exact zct fun i z=>by rw[Option.getD_some,h2 d rfl] at z;cases z
 next=>cases e
theorem zo5 (n:Nat):Rs (Array.range n):=by
 unfold Rs
 simp only[Array.toList_range]
 exact List.pairwise_lt_range
theorem z5t (t:SetTable) (n:Nat):Rs (t.standIn n).place/\(t.standIn n).led=t.led:=⟨zo5 n,rfl⟩
theorem zdf {t:SetTable} (h:Rs t.place) (n:Nat):Rs (t.orStandIn n).place/\(t.orStandIn n).led=t.led:=by
 unfold SetTable.orStandIn
 split
 ·exact⟨h,rfl⟩
 ·exact z5t t n
theorem zln {t:SetTable} (h:Rs t.place) (es:Array (Int×Value)) (k:Int) (x:Value):Rs (layNew t es k x).2.1.place/\(layNew t es k x).2.1.led=t.led:=by
 unfold layNew
 split
 next slot wd e =>
  have:=zdf (t:=(t.put slot).1) (zkj h (zge e)) (SetTable.insertAt es (t.put slot).2 (k,x)).size
  exact this
 next=>exact z5t t _
theorem zfj {t:SetTable} (es:Array (Int×Value)) (n:Nat):Rs (relayAll t es n).2.1.place/\(relayAll t es n).2.1.led=t.led:=by
 unfold relayAll
 split
 next t' order e =>
  dsimp only
  split
  ·unfold SetTable.relaid SetTable.laid at e
   simp only[Option.bind_eq_bind,y01,pure,Option.some.injEq,Prod.mk.injEq] at e
   obtain⟨owner,_,rfl,_⟩:=e
   refine⟨?_,rfl⟩
   unfold Rs
   dsimp only
   rw[List.map_filterMap]
   refine List.Pairwise.sublist (l₂:=List.range (SetTable.sizeAbove n - 1+1)) ?_ List.pairwise_lt_range
   generalize List.range (SetTable.sizeAbove n - 1+1)=l
   induction l with
   | nil=>exact .slnil
   | cons a r ih =>
    rw[List.filterMap_cons]
    cases q:owner.getD a none with
    | none=>simpa [q] using ih.cons a
    | some z=>simpa [q] using ih.cons₂ a
  ·exact z5t t _
 next=>exact z5t t _
end D
end
section
namespace D
open PySem PySem.Spec PyProof.Rows L2
section
variable [Tbl]
theorem zfo {α β:Type} {R:α->β->Prop} {l l':List α} (p:l'.Perm l):∀{ks:List β},Paired R l ks->∃ks',Paired R l' ks'/\ks'.Perm ks:=by
 have key:∀{l l':List α},l.Perm l'->∀{ks:List β},Paired R l ks->∃ks',Paired R l' ks'/\ks'.Perm ks:=by
  intro l l' p
  induction p with
  | nil=>exact fun h=>⟨_,h,.rfl⟩
  | cons x _ ih =>
   intro ks h
   cases h with
   | cons a b =>
    obtain⟨ks',h1,h2⟩:=ih b
    exact⟨_,.cons a h1,h2.cons _⟩
  | swap x y l =>
   intro ks h
   cases h with
   | cons a b =>
    cases b with
    | cons c d=>exact⟨_,.cons c (.cons a d),.swap _ _ _⟩
  | trans _ _ i1 i2 =>
   intro ks h
   obtain⟨k1,h1,p1⟩:=i1 h
   obtain⟨k2,h2,p2⟩:=i2 h1
   exact⟨k2,h2,p2.trans p1⟩
 exact fun {ks} h=>key p.symm h
theorem z93 {α β:Type} {R:α->β->Prop}:∀{l l':List α} {ks ks':List β},Paired R l ks->Paired R l' ks'->Paired R (l++l') (ks++ks')
 | _,_,_,_,.nil,h=>h
 | _,_,_,_,.cons a b,h=>.cons a (z93 b h)
theorem zay {α β:Type} {R:α->β->Prop}:∀{l:List α} {ks:List β},Paired R l ks->l.length=ks.length
 | _,_,.nil=>rfl
 | _,_,.cons a b=>by simp[zay b]
theorem zqh {α β:Type} {R:α->β->Prop}:∀{l:List α} {ks:List β},Paired R l ks->∀{i:Nat} {x:α},l[i]?=some x->∃k,ks[i]?=some k/\R x k
 | _,_,.nil,i,x,e=>by simp at e
 | _,_,.cons a b,0,x,e=>by
  simp at e
  subst e
  exact⟨_,rfl,a⟩
 | _,_,.cons a b,i+1,x,e=>by
  simp only[y2b] at e ⊢
  exact zqh b e
def z2e (w:World):Bool:=w.params.followText "set-order"
section
variable {prog:y0q} {w:World} {K:Type} [DecidableEq K] (knd:PySem.KeyKind prog w K)
def IsK (e:Int×Value) (k:K):Prop:=knd.is k e.2=true
noncomputable def SetK (h:Heap) (a:Addr) (ks:List K):Prop:=∃(es:Array (Int×Value)) (ep:Nat) (t:SetTable) (ks':List K),
 h.get? a=some { cls:=.type "set",dict:=none,data:=.set es ep t,slots:=#[] }/\ElemsOf knd es.toList/\Paired (IsK knd) es.toList ks'/\ks'.Perm ks/\es.size<scanBound/\t.fits es.size=true/\t.led=!z2e w/\Rs t.place
def addK (ks:List K) (k:K):List K:=if k∈ks then ks else ks++[k]
variable {knd} {A:Around} {E:Value->y04->Prop} {s:y04}
theorem SetK.at' {h h':Heap} {a:Addr} {ks:List K} (x:SetK knd h a ks) (k:∀o,h.get? a=some o->h'.get? a=some o):SetK knd h' a ks:=by
 obtain⟨es,ep,t,ks',h1,h2⟩:=x
 exact⟨es,ep,t,ks',k _ h1,h2⟩
theorem zlz {l:List (Int×Value)} {ks:List K} (p:Paired (IsK knd) l ks) (k:K):(∃e∈l,knd.is k e.2=true) <-> k∈ks:=by
 induction p with
 | nil=>simp
 | @cons e k' l ks a b ih =>
  simp only[y09,exists_eq_or_imp,ih]
  have:knd.is k e.2=true <-> k=k':=by
   rw[KeyKind.is_eq_decide a k]
   simp
  rw[this]
theorem zqd {h:Heap} {a:Addr} {es es':Array (Int×Value)} {ep:Nat} {t t':SetTable} (ho:h.get? a=some { cls:=.type "set",dict:=none,data:=.set es ep t,slots:=#[] }) :
  (h.update a (Obj.putSet es' t')).get? a=some { cls:=.type "set",dict:=none,data:=.set es' (ep+1) t',slots:=#[] }:=by
 have:=Heap.get?_update_self (Obj.putSet es' t') ho (by rw[putSet_of es' t' rfl];rfl)
 rw[putSet_of es' t' rfl] at this
 exact this
theorem zo4 {a:Addr} {ks:List K} {k:K} {x:Value} {Q:Bool->y04->Prop} (hkey:knd.is k x=true) (hsc:x.scannable=true) (hS:SetK knd s.heap a ks) (hroom:ks.length+1<scanBound)
  (h:∀h' b,Heap.SameBut a s.heap h'->SetK knd h' a (addK ks k)->Q b { s with heap:=h' }):y0u (y33 prog w) A (setAddHashed a x (knd.hash k)) Q E s:=by
 obtain⟨es,ep,t,ks',ho,hel,hpd,hpm,hb,hf,hled,hrs⟩:=id hS
 have hlen:es.size=ks.length:=by rw[<- hpm.length_eq,<- zay hpd,y1y]
 unfold setAddHashed setAddHashedIn
 refine y2i (y02 (wpAny_setState_of ho rfl hf ?_))
 dsimp only
 rw[byScan_of hsc hb hel]
 simp only[↓reduceIte]
 unfold setAddByScan
 refine y02 ?_
 refine y02 (wpAny_rule ?_)
 refine y02 (wpAny_setScan_of hkey ho rfl hf hel ?_)
 cases hr:List.findIdx? (fun e=>knd.is k e.2) es.toList with
 | some j =>
  dsimp only
  obtain⟨hj,hpj,_⟩:=List.findIdx?_eq_some_iff_getElem.mp hr
  have hk:k∈ks:=hpm.mem_iff.mp ((zlz hpd k).mp ⟨_,List.getElem_mem hj,hpj⟩)
  refine y06 (y06 ?_)
  refine h s.heap _ (Heap.SameBut.refl a s.heap) ?_
  rw[addK,if_pos hk]
  exact hS
 | none =>
  dsimp only
  have hk:k∉ks:=fun z=>by
   obtain⟨e,he,q⟩:=(zlz hpd k).mpr (hpm.mem_iff.mpr z)
   have:=List.findIdx?_eq_none_iff.mp hr e he
   rw[q] at this
   cases this
  have e0:addK ks k=ks++[k]:=if_neg hk
  rw[e0] at h
  have hgw:∀(b:Bool) {s₁:y04} {Q':Unit->y04->Prop},Q' () s₁->y0u (y33 prog w) A (match b with|true=>rule "set.scan.the-table-gave-way" | false=>pure ()) Q' E s₁ :=
   fun b s₁ Q' hq=>by cases b <;> first|exact y06 hq|exact wpAny_rule hq
  have l1:=layNew_perm t es (knd.hash k) x
  have l2:=layNew_fits t es (knd.hash k) x
  have l3:=zln hrs es (knd.hash k) x
  generalize hL:layNew t es (knd.hash k) x=L at l1 l2 l3 ⊢
  obtain⟨es1,t1,wd,gave⟩:=L
  dsimp only at l1 l2 l3 ⊢
  rw[Array.toList_push] at l1
  have hel1:ElemsOf knd es1.toList:=(hel.push hkey hsc).perm l1
  obtain⟨ks1,hp1,hm1⟩:=zfo l1 (z93 hpd (.cons (show IsK knd (knd.hash k,x) k from hkey) .nil))
  have hm2:ks1.Perm (ks++[k]):=hm1.trans (hpm.append_right _)
  have hz1:es1.size<scanBound:=by
   rw[<- y1y,l1.length_eq,y21,y1y,hlen]
   simpa using hroom
  refine y02 (hgw _ ?_)
  have tail:∀(t2:SetTable) (g:Bool->Sem Unit),(∀(b:Bool) (s₁:y04) (Q':Unit->y04->Prop),Q' () s₁->y0u (y33 prog w) A (g b) Q' E s₁)->t2.fits es1.size=true->t2.led=!z2e w->Rs t2.place ->
    y0u (y33 prog w) A (do
     storeSet a es1 t2
     if (!wd && t2.tooFull)=true then do
       g (relayAll t2 es1 (SetTable.grown es1.size)).2.2
       storeSet a (relayAll t2 es1 (SetTable.grown es1.size)).1 (relayAll t2 es1 (SetTable.grown es1.size)).2.1
       pure (some true)
      else pure (some true)) (fun r s'=>y0u (y33 prog w) A (match r with|some added=>pure added|none=>setAddHashedIn a x (knd.hash k) 99999) Q E s') E s:=by
   intro t2 g hg f2 d2 r2
   refine y02 (wpAny_storeSet_of ho rfl ?_ (fits_of_scanBound hz1))
   have ho1:=zqd (es':=es1) (t':=t2) ho
   have sb1:=Heap.SameBut.update s.heap a (Obj.putSet es1 t2)
   split
   ·have r1:=relayAll_perm t2 es1 (SetTable.grown es1.size)
    have rf:=relayAll_fits t2 es1 (SetTable.grown es1.size)
    have rr:=zfj (t:=t2) es1 (SetTable.grown es1.size)
    generalize relayAll t2 es1 (SetTable.grown es1.size)=Rl at r1 rf rr ⊢
    obtain⟨es2,t3,g2⟩:=Rl
    dsimp only at r1 rf rr ⊢
    obtain⟨ks2,hp2,hm3⟩:=zfo r1 hp1
    have hz2:es2.size<scanBound:=by
     rw[<- y1y,r1.length_eq,y1y]
     exact hz1
    refine y02 (hg _ _ _ ?_)
    refine y02 (wpAny_storeSet_of ho1 rfl ?_ (fits_of_scanBound hz2))
    exact y06 (y06 (h _ _ (sb1.trans (Heap.SameBut.update _ a _)) ⟨es2,_,t3,ks2,zqd ho1,hel1.perm r1,hp2,hm3.trans hm2,hz2,rf,rr.2.trans d2,rr.1⟩))
   ·exact y06 (y06 (h _ _ sb1 ⟨es1,_,t2,ks1,ho1,hel1,hp1,hm2,hz1,f2,d2,r2⟩))
  split
  ·refine y02 ?_
   rw[hashByValue_scannable 8 hsc]
   refine y06 ?_
   refine tail _ _ ?_ ?_ ?_ ?_
   ·intro b s₁ Q' hq
    cases b <;> first|exact y06 hq|exact wpAny_rule hq
   ·split
    ·exact l2
    ·exact SetTable.fits_plain_off l2
   ·split
    ·exact l3.2.trans hled
    ·exact l3.2.trans hled
   ·split
    ·exact l3.1
    ·exact l3.1
  ·refine y02 (y06 ?_)
   simp only[↓reduceIte]
   refine tail _ _ ?_ l2 (l3.2.trans hled) l3.1
   intro b s₁ Q' hq
   cases b <;> first|exact y06 hq|exact wpAny_rule hq
theorem zpz (ks:List K) (k:K):(addK ks k).length<=ks.length+1:=by
 unfold addK
 split <;> simp
def z10 (ks:List K):List K:=ks.foldl addK []
theorem z2s:∀(ks acc:List K),(ks.foldl addK acc).length<=acc.length+ks.length
 | [],acc=>by simp
 | k::ks,acc=>by
  rw[List.foldl_cons]
  have h1:=z2s ks (addK acc k)
  have h2:=zpz acc k
  simp only[y0w]
  omega
theorem z8h {ks:List K} {i:Nat} {k:K} (e:ks[i]?=some k):z10 (ks.take (i+1))=addK (z10 (ks.take i)) k:=by
 obtain⟨h,rfl⟩:=y0k.mp e
 unfold z10
 rw[List.take_succ_eq_append_getElem h,List.foldl_append]
 rfl
def IsV (knd:PySem.KeyKind prog w K) (v:Value) (k:K):Prop:=knd.is k v=true/\v.scannable=true
section
variable {R:Result->y04->Prop} {I:Addr} {fp wr:List Addr} {G:Array GenState->Array GenState->Prop} {St:Nat->y04->Prop} {items:Array Value}
theorem zcv (W:WalksS prog w A.in1 I fp wr G items.size (fun i v=>items[i]?=some v) St) (S:Addr) (hSf:S∉fp) {ks:List K} (hv:Paired (IsV knd) items.toList ks) (hb:items.size+1<scanBound) :
  ∀(k i:Nat) (s:y04),items.size - i=k->i<=items.size->St i s->SetK knd s.heap S (z10 (ks.take i)) ->
   (∀s',Moved (S::wr) G s s'->SetK knd s'.heap S (z10 ks)->R (.ok (.ret .none)) s') ->
   y2x (y33 prog w) A (.builtin "set.update.loop" ⟨[.ref S,.ref I],[]⟩) R s:=by
 have hSw:S∉wr:=fun h=>hSf (W.sub _ h)
 have hsub:∀b∈wr,b∈S::wr:=fun b hb=>y05 _ hb
 have hlen:items.size=ks.length:=by rw[<- zay hv,y1y]
 intro k
 induction k with
 | zero =>
  intro i s hk hi hst hS hR
  have hin:i=items.size:=by omega
  subst hin
  refine y2q F.entry_set_update_loop ?_
  rw[y1u F.plain_set_update_loop _]
  show y0u _ A.in1 (pyNext (.ref I) >>= _) _ _ s
  refine y02 (W.done s _ _ hst fun s' hm=>?_)
  show y0u _ A.in1 (ret Value.none) _ _ s'
  rw[List.take_of_length_le (by omega)] at hS
  exact y06 (hR s' (hm.mono hsub) (hS.at' fun o e=>hm.heap S _ hSw e))
 | succ k ih =>
  intro i s hk hi hst hS hR
  have hlt:i<items.size:=by omega
  refine y2q F.entry_set_update_loop ?_
  rw[y1u F.plain_set_update_loop _]
  show y0u _ A.in1 (pyNext (.ref I) >>= _) _ _ s
  refine y02 (W.item i s _ _ hlt hst fun v s' hP hst' hm=>?_)
  obtain⟨key,hke,hki,hks⟩:=zqh hv (by rw[Array.getElem?_toList];exact hP)
  have hS1:SetK knd s'.heap S (z10 (ks.take i)):=hS.at' fun o e=>hm.heap S _ hSw e
  show y0u _ A.in1 (holding [v] (setAdd S v) >>= _) _ _ s'
  refine y02 (y2i ?_)
  unfold setAdd
  refine y2i ?_
  refine y02 (knd.pyHash (k:=key) hki ?_)
  have hroom:(z10 (ks.take i)).length+1<scanBound:=by
   have h1:=z2s (ks.take i) []
   rw[List.length_take] at h1
   unfold z10
   simp only[y2d] at h1
   omega
  refine zo4 (s:={ s' with toks:=s'.toks+1 }) hki hks hS1 hroom fun h' b hsb hS2=>?_
  rw[<- z8h hke] at hS2
  refine y06 ⟨plainId_quiet F.plain_set_update_loop _,ih (i+1) _ (by omega) hlt (W.frame _ s' _ _ hst' (y2e _) fun b hb o e=>?_) hS2 fun s'' hm'' hS''=>?_⟩
  ·rw[hsb.2 b (fun h:b=S=>hSf (by rw[<- h];exact hb))]
   exact e
  ·refine hR s'' (Moved.trans W.gtrans ((hm.mono hsub).then_heap (y2e _) fun b o hb e=>?_) hm'') hS''
   rw[hsb.2 b (fun h:b=S=>hb (by rw[h];exact y0e))]
   exact e
end
theorem z9v (a:Value) {Q₁:Value->y04->Prop}
  (h:Q₁ (.ref s.heap.objs.size) { s with heap:=s.heap.push { cls:=.type "set",dict:=none,data:=.set #[] 0 (.fresh 0 0 (!z2e w)) } }) :
  y2x (y33 prog w) A (.call (.builtin "set.__new__") ⟨[.type "set",a],[]⟩) (wants Q₁ E) s:=by
 refine codeAny_of_tree ?_
 show y0u _ A.in1 (do checkBuiltinCall "set.__new__" ⟨[.type "set",a],[]⟩;again (.builtin "set.__new__" ⟨[.type "set",a],[]⟩)) _ _ s
 refine y02 (wpAny_of_eq (PySem.F.newCall_set_1 a) (y06 ⟨plainId_quiet PySem.F.plain_set_new _,y2q PySem.F.entry_set_new ?_⟩))
 rw[y1u PySem.F.plain_set_new _]
 unfold Builtin.«set.__new__» Builtin.Frozenset.newClass
 have hsub:=sub_set_self
 obtain⟨hp,g,d,tk,os⟩:=s
 dsimp only
 wp_walk
 refine wpAny_askSetting (y06 ?_)
 dsimp only
 simp only[newObj]
 refine y02 (wpAny_alloc (y06 ?_))
 exact y06 h
theorem zmb {h:Heap}:SetK knd (h.push { cls:=.type "set",dict:=none,data:=.set #[] 0 (.fresh 0 0 (!z2e w)) }) h.objs.size [] :=
 ⟨#[],0,_,[],y0l _ rfl,fun e he=>by simp at he,.nil,.rfl,by decide,by rfl,rfl,List.Pairwise.nil⟩
set_option maxHeartbeats 3200000 in
theorem zjb {l:Addr} {items:Array Value} {ks:List K} {Q:Value->y04->Prop}
  (hh:A.handled=none) (hl:s.heap.IsList l items) (hi:Paired (IsV knd) items.toList ks) (hb:items.size+1<scanBound)
  (h:∀(h':Heap) (tk:Nat),SetK knd h' s.heap.objs.size (z10 ks)->(∀b o,b<s.heap.objs.size->s.heap.get? b=some o->h'.get? b=some o)->Q (.ref s.heap.objs.size) { s with heap:=h',toks:=tk }) :
  y0u (y33 prog w) A (call (.type "set") [.ref l]) Q E s:=by
 obtain⟨c,tl,hmro⟩:=PySem.F.called_set.mro
 have hmade:=PySem.F.called_set.made
 have hsub:=PySem.F.called_set.sub
 refine y30 (codeAny_of_tree ?_)
 show y0u _ _ (callAny (.type "set") _) _ _ _
 refine y06 ⟨Code.quiet_builtin _ (by decide +kernel),y2q PySem.F.entry_type_call ?_⟩
 rw[Around.under_plain (weight_type_call_type "set" [.ref l] []) rfl]
 have h1:=PySem.F.called_set.notType
 have h2:=PySem.F.called_set.canCreate
 have hct:=PySem.F.typeCall_set_1 (.ref l)
 repeat (any_goals (first|assumption|wp_step))
 refine y2s (z9v (.ref l) (E:=E) (Q₁:=fun obj s₁=>obj=.ref s.heap.objs.size/\s₁={ s with heap:=s.heap.push { cls:=.type "set",dict:=none,data:=.set #[] 0 (.fresh 0 0 (!z2e w)) } }) ⟨rfl,rfl⟩) fun r s₁ hr=>?_
 cases r with
 | error e=>exact hr
 | ok fl =>
  cases fl with
  | ret obj =>
   obtain⟨rfl,rfl⟩:=hr
   have hS:(s.heap.push { cls:=.type "set",dict:=none,data:=.set #[] 0 (.fresh 0 0 (!z2e w)) }).get? s.heap.objs.size=some { cls:=.type "set",dict:=none,data:=.set #[] 0 (.fresh 0 0 (!z2e w)) }:=y0l _ rfl
   have hT:Shared.TypeIs { s with heap:=s.heap.push { cls:=.type "set",dict:=none,data:=.set #[] 0 (.fresh 0 0 (!z2e w)) } } (.ref s.heap.objs.size) "set":=⟨_,hS,rfl⟩
   have hli:=PySem.F.called_set.init.lookup
   have hbi:=PySem.F.called_set.init.bind (.ref s.heap.objs.size)
   repeat (any_goals (first|assumption|wp_step))
   refine y2s (codeAny_call_builtin (R:=wants (fun r s₂=>r=.none/\∃h' tk,s₂={ s with heap:=h',toks:=tk }/\SetK knd h' s.heap.objs.size (z10 ks) /\
     (∀b o,b<s.heap.objs.size->s.heap.get? b=some o->h'.get? b=some o)) E) PySem.F.called_set.init.plain PySem.F.entry_set_init (check_set_init_1 hT ?_)) fun r₂ s₂ hr₂=>?_
   ·obtain⟨ol,hol,hcl,nl,hdl⟩:=hl
    obtain⟨ocls,odict,odata,oslots⟩:=ol
    simp only at hcl hdl
    subst hcl
    subst hdl
    have hol':(s.heap.push { cls:=.type "set",dict:=none,data:=.set #[] 0 (.fresh 0 0 (!z2e w)) }).get? l=some { cls:=.type "list",dict:=odict,data:=.seq items nl,slots:=oslots }:=y03 _ hol
    have hsls:=PySem.F.sub_list_set
    have hslf:=PySem.F.sub_list_frozenset
    have hne:(Value.type "list" == Value.type "dict")=false:=by decide
    have hl1:(s.heap.push { cls:=.type "set",dict:=none,data:=.set #[] 0 (.fresh 0 0 (!z2e w)) }).IsList l items:=⟨_,hol',rfl,nl,rfl⟩
    unfold Builtin.«set.__init__» noKeywords Builtin.Frozenset.updateFrom
    generalize hPI:pyIter=PI
    wp_walk
    subst hPI
    refine wpAny_pyIter_list hl1 ?_
    refine y02 (wpAny_runValue ?_)
    have hlS:l<s.heap.objs.size:=y0c hol
    have hh3:A.in1.in1.in1.handled=none:=by simp[hh]
    have hneI:l≠(s.heap.push { cls:=.type "set",dict:=none,data:=.set #[] 0 (.fresh 0 0 (!z2e w)) }).objs.size:=by
     rw[y17]
     exact y0y (Nat.lt_succ_of_lt hlS)
    have hSf:s.heap.objs.size∉[(s.heap.push { cls:=.type "set",dict:=none,data:=.set #[] 0 (.fresh 0 0 (!z2e w)) }).objs.size,l]:=by
     rw[y17]
     simp only[y09,y0z,y28,or_false,not_or]
     exact⟨y0y (Nat.lt_succ_self _),y15 hlS⟩
    refine zcv (knd:=knd) ((Walks.list hh3 _ l hneI items).toS) s.heap.objs.size hSf hi hb (items.size - 0) 0 _ (by omega) (y23 _)
     ⟨⟨_,y0l _ rfl,rfl,rfl⟩,(hl1.push _)⟩ ?hS0 ?hR
    case hS0 =>
     refine SetK.at' (zmb (knd:=knd) (h:=s.heap)) fun o e=>y03 _ e
    case hR =>
     intro s' hm hS'
     obtain⟨h',g',d',tk',os'⟩:=s'
     have eg:g'=s.gens:=hm.gens
     have ed:d'=s.drawn:=hm.drawn
     have eo:os'=s.os:=hm.os
     subst eg
     subst ed
     subst eo
     show y0u _ _ _ _ _ _
     refine y06 ?_
     show y0u _ _ (ret Value.none) _ _ _
     refine y06 ⟨rfl,h',tk',rfl,hS',fun b o hb e=>?_⟩
     have hb1:b≠s.heap.objs.size:=y0y hb
     have hb2:b≠(s.heap.push { cls:=.type "set",dict:=none,data:=.set #[] 0 (.fresh 0 0 (!z2e w)) }).objs.size:=by
      rw[y17]
      exact y0y (Nat.lt_succ_of_lt hb)
     exact hm.heap b o (by simp only[y09,y0z,y28,or_false,not_or];exact⟨hb1,hb2⟩) (y03 _ (y03 _ e))
   ·cases r₂ with
    | error e=>exact hr₂
    | ok fl₂ =>
     cases fl₂ with
     | ret r =>
      obtain⟨rfl,h',tk,rfl,hS',hk'⟩:=hr₂
      repeat (any_goals (first|assumption|wp_step))
      exact h _ _ hS' hk'
     | _=>exact hr₂.elim
  | _=>exact hr.elim
end
end
section
variable [Tbl]
theorem z0v:Slot "set_iterator" "__next__" "set_iterator.__next__" :=
 .of (owner:="set_iterator") (n:="__next__") (by rw[typeLookup_type,builtinLookup_eq_fast];kernel_rfl) (by decide +kernel) (by decide +kernel) (by decide +kernel)
  (by first|exact .inl (by decide +kernel)|exact .inr (by decide +kernel)) (by rw[isSubtype_type];kernel_rfl)
theorem z55:Slot "set_iterator" "__iter__" "set_iterator.__iter__" :=
 .of (owner:="set_iterator") (n:="__iter__") (by rw[typeLookup_type,builtinLookup_eq_fast];kernel_rfl) (by decide +kernel) (by decide +kernel) (by decide +kernel)
  (by first|exact .inl (by decide +kernel)|exact .inr (by decide +kernel)) (by rw[isSubtype_type];kernel_rfl)
theorem z31:entryFor table "set_iterator.__next__"=some Builtin.«set_iterator.__next__»:=entryFor_of_tree (by kernel_rfl)
theorem z94:Manifest.owners.lookup (String.ofList ['r','o','t','a','r','e','t','i','_','t','e','s'].reverse)=some Manifest.sig_set_iterator:=by kernel_rfl
theorem z3t (a:Value):argsOk "set_iterator.__next__" ⟨[a],[]⟩:=by
 unfold argsOk
 rw[signature?_of (id:="set_iterator.__next__") (n:=['_','_','t','x','e','n','_','_']) (o:=['r','o','t','a','r','e','t','i','_','t','e','s']) (by kernel_rfl) z94]
 kernel_rfl
theorem zai:entryFor table "set.__iter__"=some Builtin.«frozenset.__iter__» :=
 entryFor_alias (id':="frozenset.__iter__") (by kernel_rfl) (by decide +kernel) (by decide +kernel) (by kernel_rfl)
theorem z4o {α:Type}:∀{l:List α} {i:Nat} {x:α},l[i]?=some x->(x::l.eraseIdx i).Perm l
 | [],i,x,e=>by simp at e
 | a::r,0,x,e=>by
  simp at e
  subst e
  exact .rfl
 | a::r,i+1,x,e=>by
  simp only[y2b] at e
  rw[List.eraseIdx_cons_succ]
  exact (List.Perm.swap _ _ _).trans ((z4o e).cons _)
theorem zkw {α:Type} (f:Nat->Nat):∀(n k:Nat) (l:List α) (out:Array α),l.length=n->(pickOrder.go f n k l out).toList.Perm (out.toList++l)
 | 0,k,l,out,e=>by
  rw[List.length_eq_zero_iff.mp e,y1x]
  exact .rfl
 | n+1,k,l,out,e=>by
  unfold pickOrder.go
  have hlt:f k % l.length<l.length:=Nat.mod_lt _ (by omega)
  rw[y0v hlt]
  dsimp only
  have hp:=z4o (y0v hlt)
  refine (zkw f n (k+1) _ _ ?_).trans ?_
  ·rw[List.length_eraseIdx]
   rw[if_pos hlt,e]
   rfl
  ·rw[Array.toList_push,List.append_assoc]
   exact hp.append_left _
theorem z91 {α:Type} (f:Nat->Nat) (xs:Array α):(pickOrder f xs).toList.Perm xs.toList:=by
 have:=zkw f xs.size 0 xs.toList #[] (by simp)
 rw[show (#[]:Array α).toList++xs.toList=xs.toList from rfl] at this
 exact this
section
variable {prog:y0q} {w:World} {A:Around} {E:Value->y04->Prop} {s:y04}
theorem zi4 {src:Source} {n:Nat} {Q:Nat->y04->Prop} (hn:n≠0) (h:∀i,i<n->Q i { s with drawn:=s.drawn.bump src }):y0u (y33 prog w) A (choose src n) Q E s:=fun Γ p hΓ=>by
 unfold choose
 rw[Sem.wp_choose]
 exact⟨hn,h _ (Nat.mod_lt _ (Nat.pos_of_ne_zero hn))⟩
theorem z7z {α:Type}:∀(n:Nat) (xs:List α) (s:y04) (Q:List α->y04->Prop),xs.length=n->(∀ys d,ys.Perm xs->Q ys { s with drawn:=d })->y0u (y33 prog w) A (drawOrder n xs) Q E s
 | 0,xs,s,Q,e,h=>by
  rw[List.length_eq_zero_iff.mp e] at h ⊢
  exact y06 (h [] s.drawn .rfl)
 | n+1,[],s,Q,e,h=>by simp at e
 | n+1,x::xs,s,Q,e,h=>by
  unfold drawOrder
  refine y02 (zi4 (by simp) fun i hi=>?_)
  rw[y0v hi]
  dsimp only
  have hp:=z4o (y0v hi)
  refine y02 (z7z n _ _ _ ?_ fun ys d p=>?_)
  ·rw[List.length_eraseIdx]
   simp only[hi,if_true]
   simp at e ⊢
   omega
  ·exact y06 (h _ d ((p.cons _).trans hp))
end
theorem zbc {xs:Array Nat} (h:Rs xs) {i:Nat} (hi:i<=xs.size) (sl:Nat) (h0:i=0->sl=0) (h1:∀k,i=k+1->∃y,xs.toList[k]?=some y/\sl=y+1):SetTable.below xs sl=i:=by
 obtain⟨a,b,c⟩:=zbd sl h
 generalize SetTable.below xs sl=p at *
 rcases Nat.lt_trichotomy p i with q|q|q
 ·obtain⟨k,rfl⟩:∃k,i=k+1:=⟨i - 1,by omega⟩
  obtain⟨y,e1,e2⟩:=h1 k rfl
  have:=c k (by omega) y e1
  omega
 ·exact q
 ·have hlt:i<xs.toList.length:=by simp;omega
  have hx:xs.toList[i]?=some xs.toList[i]:=y0v hlt
  have h2:=b i q _ hx
  rcases Nat.eq_zero_or_pos i with z|z
  ·have:=h0 z
   omega
  ·obtain⟨k,rfl⟩:∃k,i=k+1:=⟨i - 1,by omega⟩
   obtain⟨y,e1,e2⟩:=h1 k rfl
   have:=List.pairwise_iff_getElem.mp h k (k+1) (y0k.mp e1).1 hlt (by omega)
   obtain⟨_,rfl⟩:=y0k.mp e1
   omega
section
variable {prog:y0q} {w:World} {A:Around} {E:Value->y04->Prop} {s:y04}
def z4z (h:Heap) (a:Addr) (es:Array (Int×Value)) (ep:Nat) (t:SetTable):Prop:=h.get? a=some { cls:=.type "set",dict:=none,data:=.set es ep t,slots:=#[] }
def z6s (h:Heap) (I:Addr) (fs:Array Value):Prop:=h.get? I=some { cls:=.type "set_iterator",dict:=none,data:=.fields fs,slots:=#[] }
theorem z6s.typeIs {I:Addr} {fs:Array Value} (h:z6s s.heap I fs):s.TypeIs (.ref I) "set_iterator":=⟨_,h,rfl⟩
variable {a I:Addr} {es:Array (Int×Value)} {ep:Nat} {t:SetTable}
theorem z8t {sl i:Nat} {Q:Option (Value×Nat)->y04->Prop} (hS:z4z s.heap a es ep t) (hf:t.fits es.size=true) (hb:z2e w=true)
  (h:Q (((pickOrder (w.params.setOrder a ep) es)[i]?).map fun e=>(e.2,sl)) s):y0u (y33 prog w) A (setNext a sl i ep) Q E s:=by
 unfold setNext setWalk setsByText
 refine y02 (wpAny_setState_of hS rfl hf ?_)
 dsimp only
 refine y02 (y02 (wpAny_askSetting (y06 ?_)))
 rw[show (y33 prog w).w.params.followText "set-order"=true from hb]
 simp only[if_true]
 rw[if_neg (by simp)]
 refine y02 (y02 (wpAny_setState_of hS rfl hf ?_))
 dsimp only
 refine y02 (y02 (wpAny_askSetting (y06 ?_)))
 rw[show (y33 prog w).w.params.followText "set-order"=true from hb]
 simp only[if_true]
 refine y02 (wpAny_askSetting (y06 (y06 ?_)))
 exact h
theorem z8u {sl i:Nat} {Q:Option (Value×Nat)->y04->Prop} (hS:z4z s.heap a es ep t) (hf:t.fits es.size=true) (hb:z2e w=false) (hl:t.led=true) (hd:(!t.plain && decide (es.size > 1))=false)
  (h:Q (match es[SetTable.below t.place sl]?,t.place[SetTable.below t.place sl]? with|some (_,x),some j=>some (x,j+1)|_,_=>none) s):y0u (y33 prog w) A (setNext a sl i ep) Q E s:=by
 unfold setNext setsByText
 refine y02 (wpAny_setState_of hS rfl hf ?_)
 dsimp only
 refine y02 (y02 (wpAny_askSetting (y06 ?_)))
 rw[show (y33 prog w).w.params.followText "set-order"=false from hb]
 simp only[y1t,if_false]
 show y0u _ _ (if (!t.plain && decide (es.size > 1))=true then _ else _) _ _ _
 rw[hd]
 simp only[y1t,if_false]
 show y0u _ _ ((if (!t.led && !es.isEmpty)=true then unsupported "set:maker-not-led" else pure ()) >>= _) _ _ _
 rw[hl]
 simp only[Bool.not_true,Bool.false_and,y1t,if_false]
 exact y02 (y06 (y06 h))
theorem z90 {sl i:Nat} {Q:Option Value->y04->Prop} (hit:z6s s.heap I #[.int sl 0,.int i 0,.ref a,.int es.size 0,.int ep 0]) (hS:z4z s.heap a es ep t) (hf:t.fits es.size=true) {x:Value} {nx:Nat}
  (hn:∀(A:Around) (E:Value->y04->Prop) (Q:Option (Value×Nat)->y04->Prop),Q (some (x,nx)) s->y0u (y33 prog w) A (setNext a sl i ep) Q E s)
  (hQ:∀h',z6s h' I #[.int nx 0,.int ((i+1:Nat):Int) 0,.ref a,.int es.size 0,.int ep 0]->Heap.SameBut I s.heap h'->Q (some x) { s with heap:=h' }):y0u (y33 prog w) A (pyNext (.ref I)) Q E s:=by
 unfold pyNext
 refine y02 (wpAny_attempt (y2m (name:=Str.ofString "__next__") hit.typeIs z0v (y2t z0v hit.typeIs z31 ?_ (z3t _))))
 unfold Builtin.«set_iterator.__next__»
 refine y02 (y06 ?_)
 refine y02 (wpAny_fieldsOf hit rfl ?_)
 dsimp only
 refine y02 (wpAny_setEntries_of hS rfl hf ?_)
 rw[if_neg (by simp)]
 simp only[Int.toNat_natCast]
 refine y02 (hn _ _ _ ?_)
 dsimp only
 refine y02 (y2u hit (by simp) fun h1 e1 b1=>?_)
 refine y02 (y2u e1 (by simp) fun h2 e2 b2=>?_)
 refine y06 ⟨_,rfl,y06 (hQ h2 ?_ (b1.trans b2))⟩
 exact e2
theorem zif {Q:Option Value->y04->Prop} {s:y04} (hh:A.handled=none) (hQ:∀h',(∀b o,s.heap.get? b=some o->h'.get? b=some o)->Q none { s with heap:=h' }) {B:Type} {Q':B->y04->Prop} :
  y0u (y33 prog w) A.in1 (newExc (.type "StopIteration") [] >>= fun e=>raiseNew e) Q' (fun e s'=>y0u (y33 prog w) A (isInstance e (.type "StopIteration") >>= fun b=>if b=true then pure none else throw e) Q E s') s:=by
 refine y02 ?_
 simp only[newExc,newTuple]
 refine y02 (y2r ?_ (by size_fits))
 refine y02 (m:=firstArgMember _ _) (wpAny_of_eq (a:=Value.none) (by first|rfl|(simp only[firstArgMember];rfl)) ?_)
 refine y2r ?_ (by size_fits)
 simp only[raiseNew]
 refine y02 (wpAny_handled ?_)
 rw[show A.in1.handled=none from hh]
 refine y02 (y06 (wpAny_throw ?_))
 refine y02 (wpAny_isInstance (T:="StopIteration") (b:=true) ⟨_,y0l _ rfl,rfl⟩ isSubtype_stop ?_)
 exact y06 (hQ _ fun b o e=>y03 _ (y03 _ e))
theorem zdj {Q:Option Value->y04->Prop} (hh:A.handled=none) (hT:s.TypeIs (.ref I) "set_iterator")
  (hm:∀{Q':Fin->y04->Prop} {E':Value->y04->Prop},(∀h',Heap.SameBut I s.heap h'->y0u (y33 prog w) A.in1 (newExc (.type "StopIteration") [] >>= fun e=>raiseNew e) Q' E' { s with heap:=h' })->y0u (y33 prog w) A.in1 (Builtin.«set_iterator.__next__» ⟨[.ref I],[]⟩) Q' E' s)
  (hQ:∀h',Heap.ExtBut I s.heap h'->Q none { s with heap:=h' }):y0u (y33 prog w) A (pyNext (.ref I)) Q E s:=by
 unfold pyNext
 refine y02 (wpAny_attempt (y2m (name:=Str.ofString "__next__") hT z0v (y2t z0v hT z31 ?_ (z3t _))))
 refine hm fun h' hb=>?_
 exact zif (s:={ s with heap:=h' }) hh fun h2 k2=>hQ h2 fun b o hb' e=>k2 b o (hb.extBut b o hb' e)
end
end
section
variable [Tbl]
theorem z8f:entryFor table "set_iterator.__iter__"=some Builtin.«dict_keyiterator.__iter__» :=
 entryFor_alias (id':="dict_keyiterator.__iter__") (by kernel_rfl) (by decide +kernel) (by decide +kernel) (by kernel_rfl)
theorem zab (a:Value):argsOk "set_iterator.__iter__" ⟨[a],[]⟩:=by
 unfold argsOk
 rw[signature?_of (id:="set_iterator.__iter__") (n:=['_','_','r','e','t','i','_','_']) (o:=['r','o','t','a','r','e','t','i','_','t','e','s']) (by kernel_rfl) z94]
 kernel_rfl
section
variable {prog:y0q} {w:World} {A:Around} {E:Value->y04->Prop} {s:y04}
variable {a I:Addr} {es:Array (Int×Value)} {ep:Nat} {t:SetTable}
theorem z5a {Q:Value->y04->Prop} (hT:s.TypeIs (.ref I) "set_iterator") (h:Q (.ref I) s):y0u (y33 prog w) A (pyIter (.ref I)) Q E s:=by
 refine wpAny_pyIter_slot hT z55 (y2t z55 hT z8f ?_ (zab _))
 show y0u _ _ (ret (.ref I)) _ _ s
 exact y06 ⟨_,rfl,"set_iterator",_,hT,z0v.lookup,h⟩
theorem zht {sl i:Nat} {Q:Option Value->y04->Prop} (hh:A.handled=none) (hit:z6s s.heap I #[.int sl 0,.int i 0,.ref a,.int es.size 0,.int ep 0]) (hS:z4z s.heap a es ep t) (hf:t.fits es.size=true)
  (hn:∀(A:Around) (E:Value->y04->Prop) (Q:Option (Value×Nat)->y04->Prop),Q none s->y0u (y33 prog w) A (setNext a sl i ep) Q E s)
  (hQ:∀h',Heap.ExtBut I s.heap h'->Q none { s with heap:=h' }):y0u (y33 prog w) A (pyNext (.ref I)) Q E s:=by
 refine zdj hh hit.typeIs (fun {Q' E'} hk=>?_) hQ
 unfold Builtin.«set_iterator.__next__»
 refine y02 (y06 ?_)
 refine y02 (wpAny_fieldsOf hit rfl ?_)
 dsimp only
 refine y02 (wpAny_setEntries_of hS rfl hf ?_)
 rw[if_neg (by simp)]
 simp only[Int.toNat_natCast]
 refine y02 (hn _ _ _ ?_)
 dsimp only
 refine y02 (y2u hit (by simp) fun h1 e1 b1=>?_)
 exact hk h1 b1
def Places (h:Heap) (tp:Addr) (ps:List Nat):Prop:=h.get? tp=some { cls:=.type "tuple",dict:=none,data:=.seq (ps.map fun (i:Nat)=>y35 i).toArray,slots:=#[] }
theorem zj2 {tp:Addr} {i:Nat} {ps:List Nat} {p:Nat} {x:Int×Value} {Q:Option Value->y04->Prop} (hit:z6s s.heap I #[.ref tp,.int i 0,.ref a,.int es.size 0,.int ep 0]) (hS:z4z s.heap a es ep t) (hf:t.fits es.size=true)
  (hp:Places s.heap tp ps) (h1:ps[i]?=some p) (h2:es[p]?=some x)
  (hQ:∀h',z6s h' I #[.ref tp,.int ((i+1:Nat):Int) 0,.ref a,.int es.size 0,.int ep 0]->Heap.SameBut I s.heap h'->Q (some x.2) { s with heap:=h' }):y0u (y33 prog w) A (pyNext (.ref I)) Q E s:=by
 unfold pyNext
 refine y02 (wpAny_attempt (y2m (name:=Str.ofString "__next__") hit.typeIs z0v (y2t z0v hit.typeIs z31 ?_ (z3t _))))
 unfold Builtin.«set_iterator.__next__»
 refine y02 (y06 ?_)
 refine y02 (wpAny_fieldsOf hit rfl ?_)
 dsimp only
 refine y02 (wpAny_setEntries_of hS rfl hf ?_)
 rw[if_neg (by simp)]
 unfold seqItems?
 refine y02 (y02 (wpAny_load hp (y06 ?_)))
 dsimp only
 have hg:((ps.map fun (i:Nat)=>y35 i).toArray)[i]?=some (.int p 0):=by
  simp[h1,y35]
 simp only[Int.toNat_natCast]
 rw[hg]
 dsimp only
 unfold setNextDrawn
 refine y02 (y02 (wpAny_setState_of hS rfl hf ?_))
 dsimp only
 simp only[Int.toNat_natCast,bne_self_eq_false,y1t,if_false,h2]
 refine y06 ?_
 refine y02 (y2u hit (by simp) fun h1 e1 b1=>?_)
 exact y06 ⟨_,rfl,y06 (hQ h1 e1 b1)⟩
theorem zml {tp:Addr} {i:Nat} {ps:List Nat} {Q:Option Value->y04->Prop} (hh:A.handled=none) (hit:z6s s.heap I #[.ref tp,.int i 0,.ref a,.int es.size 0,.int ep 0]) (hS:z4z s.heap a es ep t) (hf:t.fits es.size=true)
  (hp:Places s.heap tp ps) (h1:ps[i]?=none)
  (hQ:∀h',Heap.ExtBut I s.heap h'->Q none { s with heap:=h' }):y0u (y33 prog w) A (pyNext (.ref I)) Q E s:=by
 refine zdj hh hit.typeIs (fun {Q' E'} hk=>?_) hQ
 unfold Builtin.«set_iterator.__next__»
 refine y02 (y06 ?_)
 refine y02 (wpAny_fieldsOf hit rfl ?_)
 dsimp only
 refine y02 (wpAny_setEntries_of hS rfl hf ?_)
 rw[if_neg (by simp)]
 unfold seqItems?
 refine y02 (y02 (wpAny_load hp (y06 ?_)))
 dsimp only
 have hg:((ps.map fun (i:Nat)=>y35 i).toArray)[i]?=none:=by
  have:=List.getElem?_eq_none_iff.mp h1
  simp[h1]
 simp only[Int.toNat_natCast]
 rw[hg]
 dsimp only
 refine y02 (y2u hit (by simp) fun h1 e1 b1=>?_)
 refine y02 (y2u e1 (by simp) fun h2 e2 b2=>?_)
 exact hk h2 (b1.trans b2)
def ltx (f:Nat->Nat) (es:Array (Int×Value)):List Value:=(pickOrder f es).toList.map (·.2)
theorem zni (hh:A.handled=none) (hne:a≠I) (hf:t.fits es.size=true) (hb:z2e w=true) :
  Walks prog w A I [I,a] [I] es.size (fun i v=>(ltx (w.params.setOrder a ep) es)[i]?=some v) (fun i h=>(∃sl:Nat,z6s h I #[.int sl 0,.int i 0,.ref a,.int es.size 0,.int ep 0])/\z4z h a es ep t):=by
 have hsz:(pickOrder (w.params.setOrder a ep) es).size=es.size:=by
  rw[<- y1y,(z91 _ es).length_eq,y1y]
 refine⟨fun b hb=>by simp at hb;simp[hb],?_,?_,?_,?_⟩
 ·rintro i h h' ⟨⟨sl,x⟩,y⟩ hk
  exact⟨⟨sl,hk I (by simp) _ x⟩,hk a (by simp) _ y⟩
 ·rintro i s Q E hi ⟨⟨sl,x⟩,y⟩ hQ
  have hi':i<(pickOrder (w.params.setOrder a ep) es).size:=by rw[hsz];exact hi
  refine z90 (x:=((pickOrder (w.params.setOrder a ep) es)[i]).2) (nx:=sl) x y hf (fun A' E' Q' q=>z8t y hf hb (by rw[y1n hi'];exact q)) fun h' x' b'=>?_
  refine hQ _ h' s.toks ?_ ⟨⟨sl,x'⟩,b'.extBut a _ hne y⟩ fun b o hb e=>b'.extBut b o (fun h=>hb (by simp[h])) e
  unfold ltx
  rw[y14,Array.getElem?_toList,y1n hi']
  rfl
 ·rintro s Q E ⟨⟨sl,x⟩,y⟩ hQ
  refine zht hh x y hf (fun A' E' Q' q=>z8t y hf hb (by rw[Array.getElem?_eq_none (by rw[hsz];exact y0o _)];exact q)) fun h' he'=>hQ h' s.toks fun b o hb e=>he' b o (fun h=>hb (by simp[h])) e
 ·rintro i s Q E ⟨⟨sl,x⟩,y⟩ hQ
  exact z5a x.typeIs hQ
def zqv (xs:Array Nat) (i sl:Nat):Prop:=(i=0->sl=0)/\∀k,i=k+1->∃y,xs.toList[k]?=some y/\sl=y+1
theorem znk (hh:A.handled=none) (hne:a≠I) (hf:t.fits es.size=true) (hb:z2e w=false) (hl:t.led=true) (hr:Rs t.place) (hd:(!t.plain && decide (es.size > 1))=false) :
  Walks prog w A I [I,a] [I] es.size (fun i v=>(es.toList.map (·.2))[i]?=some v) (fun i h=>(∃sl:Nat,zqv t.place i sl/\z6s h I #[.int sl 0,.int i 0,.ref a,.int es.size 0,.int ep 0])/\z4z h a es ep t):=by
 have hsz:t.place.size=es.size:=by
  simp only[SetTable.fits,y1b,beq_iff_eq] at hf
  exact hf.1
 refine⟨fun b hb=>by simp at hb;simp[hb],?_,?_,?_,?_⟩
 ·rintro i h h' ⟨⟨sl,o,x⟩,y⟩ hk
  exact⟨⟨sl,o,hk I (by simp) _ x⟩,hk a (by simp) _ y⟩
 ·rintro i s Q E hi ⟨⟨sl,o,x⟩,y⟩ hQ
  have hbel:=zbc hr (i:=i) (by omega) sl o.1 o.2
  have hi2:i<t.place.size:=by omega
  refine z90 (x:=(es[i]).2) (nx:=t.place[i]+1) x y hf (fun A' E' Q' q=>z8u y hf hb hl hd (by rw[hbel,y1n hi,y1n hi2];exact q)) fun h' x' b'=>?_
  refine hQ _ h' s.toks (by simp[hi]) ⟨⟨_,⟨fun z=>by omega,fun k z=>?_⟩,x'⟩,b'.extBut a _ hne y⟩ fun b o hb e=>b'.extBut b o (fun h=>hb (by simp[h])) e
  have:k=i:=by omega
  subst this
  exact⟨t.place[k],by rw[Array.getElem?_toList,y1n hi2],rfl⟩
 ·rintro s Q E ⟨⟨sl,o,x⟩,y⟩ hQ
  have hbel:=zbc hr (i:=es.size) (by omega) sl o.1 o.2
  refine zht hh x y hf (fun A' E' Q' q=>z8u y hf hb hl hd (by rw[hbel,Array.getElem?_eq_none (y0o _)];exact q)) fun h' he'=>hQ h' s.toks fun b o hb e=>he' b o (fun h=>hb (by simp[h])) e
 ·rintro i s Q E ⟨⟨sl,o,x⟩,y⟩ hQ
  exact z5a x.typeIs hQ
theorem zi5 {tp:Addr} {ps:List Nat} (hh:A.handled=none) (hne:a≠I) (hne2:tp≠I) (hf:t.fits es.size=true) (hps:ps.Perm (List.range es.size)) :
  Walks prog w A I [I,a,tp] [I] es.size (fun i v=>(ps.map fun p=>(es.getD p (0,.none)).2)[i]?=some v) (fun i h=>z6s h I #[.ref tp,.int i 0,.ref a,.int es.size 0,.int ep 0]/\z4z h a es ep t/\Places h tp ps):=by
 have hln:ps.length=es.size:=by rw[hps.length_eq,List.length_range]
 refine⟨fun b hb=>by simp at hb;simp[hb],?_,?_,?_,?_⟩
 ·rintro i h h' ⟨x,y,z⟩ hk
  exact⟨hk I (by simp) _ x,hk a (by simp) _ y,hk tp (by simp) _ z⟩
 ·rintro i s Q E hi ⟨x,y,z⟩ hQ
  have hi2:i<ps.length:=by omega
  have hlt:ps[i]<es.size:=List.mem_range.mp (hps.mem_iff.mp (List.getElem_mem hi2))
  refine zj2 x y hf z (y0v hi2) (y1n hlt) fun h' x' b'=>?_
  refine hQ _ h' s.toks ?_ ⟨x',b'.extBut a _ hne y,b'.extBut tp _ hne2 z⟩ fun b o hb e=>b'.extBut b o (fun h=>hb (by simp[h])) e
  rw[y14,y0v hi2]
  simp[Array.getD,hlt]
 ·rintro s Q E ⟨x,y,z⟩ hQ
  exact zml hh x y hf z (List.getElem?_eq_none (by omega)) fun h' he'=>hQ h' s.toks fun b o hb e=>he' b o (fun h=>hb (by simp[h])) e
 ·rintro i s Q E ⟨x,y,z⟩ hQ
  exact z5a x.typeIs hQ
end
end
section
variable [Tbl]
section
variable {prog:y0q} {w:World} {K:Type} [DecidableEq K] {knd:PySem.KeyKind prog w K} {A:Around} {E:Value->y04->Prop} {s:y04} {a:Addr} {ks:List K}
theorem zfn {es:List (Int×Value)} {l:List (Int×Value)} {ks:List K} (hel:ElemsOf knd es) (hp:Paired (IsK knd) es ks) (hl:l.Perm es):∃ks',Paired (IsV knd) (l.map (·.2)) ks'/\ks'.Perm ks:=by
 obtain⟨ks',h1,h2⟩:=zfo hl hp
 refine⟨ks',?_,h2⟩
 have hel':ElemsOf knd l:=hel.perm hl
 clear h2 hl hp hel
 induction h1 with
 | nil=>exact .nil
 | cons x y ih=>exact .cons ⟨x,hel'.head.2⟩ (ih hel'.tail)
theorem range_getD {α:Type} (d:α):∀(l:List α),(List.range l.length).map (fun i=>l.getD i d)=l
 | []=>rfl
 | x::r=>by
  rw[y0w,List.range_succ_eq_map,y0d,y2h]
  congr 1
  exact range_getD d r
theorem SetK.typeIs (h:SetK knd s.heap a ks):s.TypeIs (.ref a) "set":=let ⟨_,_,_,_,h,_⟩:=h;⟨_,h,rfl⟩
theorem SetK.lt {h:Heap} (x:SetK knd h a ks):a<h.objs.size:=let ⟨_,_,_,_,h,_⟩:=x;y0c h
theorem zig {Q:Value->y04->Prop} (hS:SetK knd s.heap a ks)
  (h:∀(I:Addr) (h':Heap) (d':Drawn) (vs:List Value) (ks':List K) (fp:List Addr) (St:Nat->Heap->Prop),Paired (IsV knd) vs ks'->ks'.Perm ks->(∀b o,s.heap.get? b=some o->h'.get? b=some o)->s.heap.objs.size<=I ->
   (∀b∈fp,b=a\/s.heap.objs.size<=b)->(∀A:Around,A.handled=none->Walks prog w A I fp [I] vs.length (fun i v=>vs[i]?=some v) St)->St 0 h'->Q (.ref I) { s with heap:=h',drawn:=d' }) :
  y0u (y33 prog w) A (pyIter (.ref a)) Q E s:=by
 obtain⟨es,ep,t,ks',ho,hel,hpd,hpm,hb,hf,hled,hrs⟩:=id hS
 have hlt:=hS.lt
 refine wpAny_pyIter_slot hS.typeIs PySem.F.slot_set_iter (y2t PySem.F.slot_set_iter hS.typeIs zai ?_ (PySem.F.args_set_iter_1 _))
 unfold Builtin.«frozenset.__iter__»
 refine y02 (y06 ?_)
 refine y02 ?_
 unfold Builtin.Frozenset.sizeOf
 refine y02 (wpAny_setEntries_of ho rfl hf (y06 ?_))
 refine y02 ?_
 unfold setDrawn
 refine y02 (wpAny_setState_of ho rfl hf ?_)
 dsimp only
 unfold setsByText
 refine y02 (y02 (wpAny_askSetting (y06 ?_)))
 refine y06 ?_
 show y0u _ _ (if (!(z2e w) && (!t.plain && decide (es.size > 1)))=true then _ else _) _ _ _
 have fin:∀(s1:y04) (first:Value) (d1:Drawn) (vs:List Value) (fp:List Addr) (St:Nat->Heap->Prop),s1.heap.get? a=some { cls:=.type "set",dict:=none,data:=.set es ep t,slots:=#[] }->(∀b o,s.heap.get? b=some o->s1.heap.get? b=some o)->s1={ s with heap:=s1.heap,drawn:=d1 } ->
   (∃ks',Paired (IsV knd) vs ks'/\ks'.Perm ks)->(∀b∈fp,b=a\/s.heap.objs.size<=b)->(∀A:Around,A.handled=none->Walks prog w A s1.heap.objs.size fp [s1.heap.objs.size] vs.length (fun i v=>vs[i]?=some v) St) ->
   (∀h2,z6s h2 s1.heap.objs.size #[first,.int 0 0,.ref a,.int es.size 0,.int ep 0]->(∀b o,s1.heap.get? b=some o->h2.get? b=some o)->St 0 h2)->s.heap.objs.size<=s1.heap.objs.size ->
   y0u (y33 prog w) A.in1 (do
    let e <- setEpoch a
    let v <- newFields "set_iterator" [first,y35 0,.ref a,y35 es.size,y35 e]
    ret v) (fun fin s'=>∃v,fin=.done (.ret v)/\∃T' r,s'.TypeIs v T'/\typeLookup (.type T') (Str.ofString "__next__")=pure (some r)/\Q v s') E s1:=by
  intro s1 first d1 vs fp St h1 h2 h3 h4 h5 h6 h7 h8
  refine y02 (wpAny_setEpoch_of h1 rfl hf ?_)
  refine y02 ?_
  unfold newFields
  refine y2r ?_
  obtain⟨ks2,h9,h10⟩:=h4
  refine y06 ⟨_,rfl,"set_iterator",_,⟨_,y0l _ rfl,rfl⟩,z0v.lookup,?_⟩
  have:=h s1.heap.objs.size (s1.heap.push { cls:=.type "set_iterator",data:=.fields #[first,.int 0 0,.ref a,.int es.size 0,.int ep 0] }) d1 vs ks2 fp St h9 h10 (fun b o e=>y03 _ (h2 b o e)) h8 h5 h6
   (h7 _ (y0l _ rfl) fun b o e=>y03 _ e)
  rw[h3]
  exact this
 have e1:s={ s with heap:=s.heap,drawn:=s.drawn }:=rfl
 have vlen:∀{vs:List Value} {l:List (Int×Value)},vs=l.map (·.2)->l.Perm es.toList->vs.length=es.size:=fun e p=>by
  rw[e,y13,p.length_eq,y1y]
 by_cases hd:(!(z2e w) && (!t.plain && decide (es.size > 1)))=true
 ·rw[if_pos hd]
  refine y02 (z7z _ _ _ _ (by simp) fun ps d hps=>?_)
  refine y02 ?_
  unfold newTuple
  have hln:ps.length=es.size:=by rw[hps.length_eq,List.length_range]
  have hz:=fits_of_scanBound hb
  refine y2r ?_ (by show (List.map (fun (i:Nat)=>y35 i) ps).toArray.size<=y0j;simp[hln];exact hz)
  have hpe:(ps.map fun p=>es.getD p (0,Value.none)).Perm es.toList:=by
   have:=(hps.map fun p=>es.getD p (0,Value.none))
   refine this.trans (.of_eq ?_)
   have h2:=range_getD ((0:Int),Value.none) es.toList
   rw[y1y] at h2
   rw[<- h2]
   simp[Array.getD_eq_getD_getElem?,List.getD_eq_getElem?_getD]
  refine fin { s with heap:=s.heap.push { cls:=.type "tuple",data:=.seq (List.map (fun (i:Nat)=>y35 i) ps).toArray },drawn:=d } (.ref s.heap.objs.size) d (ps.map fun p=>(es.getD p (0,.none)).2)
   [(s.heap.push { cls:=.type "tuple",data:=.seq (List.map (fun (i:Nat)=>y35 i) ps).toArray }).objs.size,a,s.heap.objs.size] (fun i h=>z6s h (s.heap.push { cls:=.type "tuple",data:=.seq (List.map (fun (i:Nat)=>y35 i) ps).toArray }).objs.size #[.ref s.heap.objs.size,.int i 0,.ref a,.int es.size 0,.int ep 0]/\z4z h a es ep t/\Places h s.heap.objs.size ps)
   (y03 _ ho) (fun b o e=>y03 _ e) rfl ?_ ?_ (fun A' hh'=>?_) (fun h2 x k=>⟨x,k a _ (y03 _ ho),k _ _ (y0l _ rfl)⟩) (by rw[y17];exact y2e _)
  ·have:=zfn hel hpd hpe
   rw[y2h] at this
   obtain⟨k2,q1,q2⟩:=this
   exact⟨k2,q1,q2.trans hpm⟩
  ·intro b hb'
   simp only[y09,y28,or_false] at hb'
   rcases hb' with rfl|rfl|rfl
   ·right
    rw[y17]
    exact y2e _
   ·exact .inl rfl
   ·exact .inr (y0o _)
  ·have W:=zi5 (prog:=prog) (w:=w) (A:=A') (a:=a) (I:=(s.heap.push { cls:=.type "tuple",data:=.seq (List.map (fun (i:Nat)=>y35 i) ps).toArray }).objs.size) (ep:=ep) (tp:=s.heap.objs.size) hh'
    (by rw[y17];exact y0y (Nat.lt_succ_of_lt hlt)) (by rw[y17];exact y0y (Nat.lt_succ_self _)) hf hps
   rw[y13,hln]
   exact W
 ·rw[if_neg hd]
  refine y02 (y06 ?_)
  have hfp:∀b∈[s.heap.objs.size,a],b=a\/s.heap.objs.size<=b:=fun b hb'=>by
   simp only[y09,y28,or_false] at hb'
   rcases hb' with rfl|rfl
   ·exact .inr (y0o _)
   ·exact .inl rfl
  cases hb':z2e w with
  | true =>
   refine fin s (y35 0) s.drawn (ltx (w.params.setOrder a ep) es) [s.heap.objs.size,a] (fun i h=>(∃sl:Nat,z6s h s.heap.objs.size #[.int sl 0,.int i 0,.ref a,.int es.size 0,.int ep 0])/\z4z h a es ep t)
    ho (fun b o e=>e) rfl ?_ hfp (fun A' hh'=>?_) (fun h2 x k=>⟨⟨0,x⟩,k a _ ho⟩) (y0o _)
   ·obtain⟨k2,q1,q2⟩:=zfn hel hpd (z91 (w.params.setOrder a ep) es)
    exact⟨k2,q1,q2.trans hpm⟩
   ·rw[show (ltx (w.params.setOrder a ep) es).length=es.size from vlen rfl (z91 (w.params.setOrder a ep) es)]
    exact zni hh' (y0y hlt) hf hb'
  | false =>
   rw[hb'] at hd hled
   have hd':(!t.plain && decide (es.size > 1))=false:=by simpa using hd
   refine fin s (y35 0) s.drawn (es.toList.map (·.2)) [s.heap.objs.size,a] (fun i h=>(∃sl:Nat,zqv t.place i sl/\z6s h s.heap.objs.size #[.int sl 0,.int i 0,.ref a,.int es.size 0,.int ep 0])/\z4z h a es ep t)
    ho (fun b o e=>e) rfl ?_ hfp (fun A' hh'=>?_) (fun h2 x k=>⟨⟨0,⟨fun _=>rfl,fun k z=>by omega⟩,x⟩,k a _ ho⟩) (y0o _)
   ·obtain⟨k2,q1,q2⟩:=zfn hel hpd .rfl
    exact⟨k2,q1,q2.trans hpm⟩
   ·rw[vlen rfl .rfl]
    exact znk hh' (y0y hlt) hf hb' hled hrs hd'
theorem zpa {r:Addr} {Q:Bool->y04->Prop} (hT:s.TypeIs (.ref r) "set") (h:Q false s):y0u (y33 prog w) A (Builtin.List.listLengthHint (.ref r)) Q E s:=by
 unfold Builtin.List.listLengthHint
 refine y02 (wpAny_specialOf hT PySem.F.slot_set_len.lookup ?_)
 generalize hid:("set.__len__":String)=id0
 wp_delta
 rw[show splitId id0=some ("set","__len__") from by subst hid;decide +kernel]
 subst hid
 refine y02 (wpAny_isInstance (T:="set") (b:=true) hT (by rw[isSubtype_type];kernel_rfl) ?_)
 refine wpAny_ite_split (fun hab=>absurd hab (by decide)) (fun _=>?_)
 refine wpAny_ite_split (fun _=>?_) (fun hab=>absurd (by decide +kernel) hab)
 refine y02 (wpAny_typeOf hT ?_)
 exact y06 h
theorem zj9 {R:Result->y04->Prop} (hh:A.handled=none) (hS0:SetK knd s.heap a ks) (S:Addr) (hSr:S≠a) (res:Value) (c₀:Nat) (hS:s.heap.get? S=some { cls:=.type "list",data:=.seq #[] c₀ })
  (hR:∀h' tk d acc' c' ks',(∀b o,b≠S->s.heap.get? b=some o->h'.get? b=some o)->h'.get? S=some { cls:=.type "list",dict:=none,data:=.seq acc' c',slots:=#[] }->Paired (IsV knd) acc'.toList ks'->ks'.Perm ks->R (.ok (.ret res)) { s with heap:=h',toks:=tk,drawn:=d }) :
  y0u (y33 prog w) A.in1 (Builtin.List.listExtendWith (.ref S) (.ref a) res)
   (fun fin s'=>match fin with|.done f=>R (.ok f) s'|.again c'=>c'.quiet=true/\y2x (y33 prog w) A c' R s') (fun e s'=>R (.error e) s') s:=by
 have hlen:ks.length<=y0j:=by
  obtain⟨es,ep,t,ks',ho,hel,hpd,hpm,hb,_⟩:=hS0
  rw[<- hpm.length_eq,<- zay hpd,y1y]
  exact fits_of_scanBound hb
 unfold Builtin.List.listExtendWith
 refine y02 (wpAny_typeOf (T:="set") hS0.typeIs ?_)
 have h1:Builtin.List.listSameRef (.ref S) (.ref a)=false:=by simp[Builtin.List.listSameRef,hSr]
 have h2:(Value.type "set" == Value.type "list")=false:=by decide
 have h3:(Value.type "set" == Value.type "tuple")=false:=by decide
 simp only[h1,h2,h3,Bool.or_false,y1t,if_false]
 refine y02 (zig hS0 fun I h' d' vs ks' fp St hv hp kp hI hfp W st=>?_)
 have hSI:S≠I:=y0y (y0x (y0c hS) hI)
 have hSf:S∉fp:=fun z=>by
  rcases hfp S z with q|q
  ·exact hSr q
  ·exact Nat.lt_irrefl _ (y0x (y0c hS) q)
 have hvl:vs.length=ks.length:=by rw[zay hv,hp.length_eq]
 have key:∀(h:Heap) (c₁ tk:Nat),St 0 h->(∀b o,b≠S->s.heap.get? b=some o->h.get? b=some o) ->
   h.get? S=some { cls:=.type "list",data:=.seq #[] c₁ }->y2x (y33 prog w) A (.builtin "list.extend.loop" ⟨[.ref S,.ref I,res],[]⟩) R { s with heap:=h,toks:=tk,drawn:=d' }:=by
  intro h c₁ tk hst hk hS₁
  refine codeAny_extend_loopS (W A.in1 hh).toS (by omega) S hSf res vs.length 0 _ #[] c₁ rfl (y23 _) hst hS₁ (ItemsOf.nil _) fun s' acc' c' hm hS' hacc=>?_
  rw[Moved.eq_with hm]
  have hacc':acc'.toList=vs:=by
   refine List.ext_getElem? fun i=>?_
   rw[Array.getElem?_toList]
   rcases Nat.lt_or_ge i acc'.size with q|q
   ·rw[y1n q,hacc.2 i _ (y1n q)]
   ·rw[Array.getElem?_eq_none q,List.getElem?_eq_none (by rw[<- hacc.1];exact q)]
  refine hR s'.heap s'.toks d' acc' c' ks' (fun b o hb e=>hm.heap b o (fun hmem=>?_) (hk b o hb e)) hS' (hacc'▸hv) hp
  rcases y09.mp hmem with e'|hmem
  ·exact hb e'
  ·exact absurd (y0c e) (by rw[y0z.mp hmem];exact Nat.not_lt.mpr hI)
 have hS₁:=kp S _ hS
 refine y02 (y2i (zpa (SetK.typeIs (s:={ s with heap:=h',drawn:=d' }) (hS0.at' fun o e=>kp _ o e)) ?_))
 refine wpAny_ite_split (fun _=>?_) (fun _=>y06 ⟨plainId_quiet PySem.F.plain_extend_loop _,key _ c₀ _ st (fun b o _ e=>kp b o e) hS₁⟩)
 refine y02 (wpAny_rule ?_)
 refine y02 ?_
 show y0u _ _ (updateSeq S (·.push .none) >>= fun _=>updateSeq S (·.pop)) _ _ _
 refine y02 (wpAny_updateSeq hS₁ rfl ?_)
 have hS₂:=Heap.get?_update_self (Obj.mapSeq (·.push Value.none)) hS₁ rfl
 refine wpAny_updateSeq (hz:=by seq_fits) hS₂ rfl ?_
 have hS₃:=Heap.get?_update_self (Obj.mapSeq (·.pop)) hS₂ rfl
 refine y06 ⟨plainId_quiet PySem.F.plain_extend_loop _,key _ _ _ ?_ (fun b o hb e=>?_) hS₃⟩
 ·refine (W A.in1 hh).frame 0 _ _ st fun b hb o e=>?_
  have hbS:b≠S:=fun h=>hSf (h▸hb)
  exact (y39 _ _ (Ne.symm hbS)).trans ((y39 _ _ (Ne.symm hbS)).trans e)
 ·exact (y39 _ _ (Ne.symm hb)).trans ((y39 _ _ (Ne.symm hb)).trans (kp b o e))
theorem zgj {R:List Value->y04->Prop} (hh:A.handled=none) (hS:SetK knd s.heap a ks)
  (h:∀(h':Heap) (tk:Nat) (d:Drawn) (vs:List Value) (ks':List K),(∀b o,s.heap.get? b=some o->h'.get? b=some o)->s.heap.objs.size<=h'.objs.size->Paired (IsV knd) vs ks'->ks'.Perm ks->R vs { s with heap:=h',toks:=tk,drawn:=d }) :
  y0u (y33 prog w) A (collect (.ref a)) R E s:=by
 have hlt:=hS.lt
 unfold collect
 refine y02 (wpAny_runValue (y2q entry_proto_collect' ?_))
 rw[y1u PySem.F.plain_proto_collect _]
 show y0u _ A.in1 (newList [] >>= fun l=>again (.builtin "list.__iadd__" ⟨[l,.ref a],[]⟩)) _ _ s
 refine y02 (y2r ?_)
 refine y06 ⟨plainId_quiet PySem.F.plain_list_iadd _,y2q entry_list_iadd' ?_⟩
 rw[y1u PySem.F.plain_list_iadd _]
 have hS₁:(s.heap.push { cls:=.type "list",data:=.seq ([]:List Value).toArray }).get? s.heap.objs.size=some { cls:=.type "list",data:=.seq #[] }:=y0l _ rfl
 show y0u _ A.in1 (Builtin.List.listExtendWith (.ref s.heap.objs.size) (.ref a) (.ref s.heap.objs.size)) _ _ _
 have key:=zj9 (knd:=knd) (A:=A) (s:={ s with heap:=s.heap.push { cls:=.type "list",data:=.seq ([]:List Value).toArray } }) (ks:=ks)
  (R:=fun (q:Result) (s':y04)=>∃(h':Heap) (tk:Nat) (d:Drawn) (acc':Array Value) (c':Nat) (ks':List K),q=.ok (.ret (.ref s.heap.objs.size))/\s'={ s with heap:=h',toks:=tk,drawn:=d } /\
   (∀b o,s.heap.get? b=some o->h'.get? b=some o)/\h'.get? s.heap.objs.size=some { cls:=.type "list",dict:=none,data:=.seq acc' c',slots:=#[] }/\Paired (IsV knd) acc'.toList ks'/\ks'.Perm ks)
  hh (hS.at' fun o e=>y03 _ e) s.heap.objs.size (y15 hlt) (.ref s.heap.objs.size) 0 hS₁
  (fun h' tk d acc' c' ks' hk hS' hv hp=>⟨h',tk,d,acc',c',ks',rfl,rfl,fun b o e=>hk b o (y0y (y0c e)) (y03 _ e),hS',hv,hp⟩)
 refine y1d key (fun fin s' x=>?_) fun e s' x=>?_
 ·cases fin with
  | done f =>
   obtain⟨h',tk,d,acc',c',ks',e,rfl,hk,hS',hv,hp⟩:=x
   cases e
   show y0u _ A (load s.heap.objs.size >>= _) _ _ _
   refine y02 (wpAny_load hS' ?_)
   exact y06 (h h' tk d _ ks' hk (Nat.le_of_lt (y0c hS')) hv hp)
  | again c₁ =>
   refine⟨x.1,y2s x.2 fun q s₂ y=>?_⟩
   obtain⟨h',tk,d,acc',c',ks',rfl,rfl,hk,hS',hv,hp⟩:=y
   show y0u _ A (load s.heap.objs.size >>= _) _ _ _
   refine y02 (wpAny_load hS' ?_)
   exact y06 (h h' tk d _ ks' hk (Nat.le_of_lt (y0c hS')) hv hp)
 ·obtain⟨_,_,_,_,_,_,e',_⟩:=x
  cases e'
end
end
section
variable [Tbl]
theorem z4p {α:Type} {r:α->α->Prop} (anti:∀a b,r a b->r b a->a=b):∀{l m:List α},l.Perm m->l.Pairwise r->m.Pairwise r->l=m
 | [],m,p,_,_=>(List.Perm.nil_eq p)
 | a::l,m,p,h1,h2=>by
  cases m with
  | nil=>exact absurd p.length_eq (by simp)
  | cons b m =>
   have hab:a=b:=by
    have ha:a∈b::m:=p.mem_iff.mp (by simp)
    have hb:b∈a::l:=p.mem_iff.mpr (by simp)
    rcases y09.mp ha with q|q
    ·exact q
    ·rcases y09.mp hb with z|z
     ·exact z.symm
     ·exact anti a b ((y18.mp h1).1 b z) ((y18.mp h2).1 a q)
   subst hab
   rw[z4p anti (List.perm_cons a |>.mp p) (y18.mp h1).2 (y18.mp h2).2]
theorem insI_perm (x:Int):∀l:List Int,(insI x l).Perm (x::l)
 | []=>.rfl
 | y::ys=>by
  unfold insI
  split
  ·exact .rfl
  ·exact ((insI_perm x ys).cons y).trans (.swap _ _ _)
theorem sortI_perm:∀l:List Int,(sortI l).Perm l
 | []=>.rfl
 | x::xs=>(insI_perm x _).trans ((sortI_perm xs).cons x)
theorem zm5 (x:Int):∀{l:List Int},l.Pairwise (·<=·)->(insI x l).Pairwise (·<=·)
 | [],_=>by simp[insI]
 | y::ys,h=>by
  unfold insI
  have h':=y18.mp h
  split
  next q=>exact y18.mpr ⟨fun z hz=>by
   rcases y09.mp hz with rfl|hz
   ·exact q
   ·exact Int.le_trans q (h'.1 z hz),h⟩
  next q=>exact y18.mpr ⟨fun z hz=>by
   rcases y09.mp ((insI_perm x ys).mem_iff.mp hz) with rfl|hz
   ·omega
   ·exact h'.1 z hz,zm5 x h'.2⟩
theorem zbn:∀l:List Int,(sortI l).Pairwise (·<=·)
 | []=>.nil
 | x::xs=>zm5 x (zbn xs)
theorem zha {l m:List Int} (p:l.Perm m) (h:l.Pairwise (·<=·)):l=sortI m:=z4p (fun a b h1 h2=>Int.le_antisymm h1 h2) (p.trans (sortI_perm m).symm) h (zbn m)
theorem z6c {l m:List Int} (p:l.Perm m):sortI l=sortI m:=zha ((sortI_perm l).trans p) (zbn l)
abbrev sLe (x y:Str):Prop:=strLt y x=false
theorem znv (x y:Str):strLt x y=ltCps x.cps.toList y.cps.toList:=(ltCps_eq _ _).symm
theorem zd2 {x y:Str} (h:strLt x y=true):sLe x y:=by
 unfold sLe strLt at *
 simp only[decide_eq_true_eq,decide_eq_false_iff_not] at *
 exact List.lt_asymm h
theorem zd1 {x y z:Str} (h1:sLe x y) (h2:sLe y z):sLe x z:=by
 unfold sLe strLt at *
 simp only[decide_eq_false_iff_not] at *
 exact List.not_lt.mpr (List.le_trans (List.not_lt.mp h1) (List.not_lt.mp h2))
theorem zhb {x y:Str} (h1:sLe x y) (h2:sLe y x):x=y:=by
 unfold sLe strLt at *
 simp only[decide_eq_false_iff_not] at *
 have e:x.cps.toList=y.cps.toList:=List.le_antisymm (List.not_lt.mp h1) (List.not_lt.mp h2)
 cases x
 cases y
 simp only[Array.toList_inj] at e
 exact congrArg _ e
theorem zkh {x y:Str} (h:¬sLe x y):strLt y x=true:=by
 unfold sLe at h
 simpa using h
theorem z9m (x:Str):∀l:List Str,(insS x l).Perm (x::l)
 | []=>.rfl
 | y::ys=>by
  unfold insS
  split
  ·exact .rfl
  ·exact ((z9m x ys).cons y).trans (.swap _ _ _)
theorem z2l:∀l:List Str,(z4h l).Perm l
 | []=>.rfl
 | x::xs=>(z9m x _).trans ((z2l xs).cons x)
theorem zm4 (x:Str):∀{l:List Str},l.Pairwise sLe->(insS x l).Pairwise sLe
 | [],_=>by simp[insS]
 | y::ys,h=>by
  unfold insS
  have h':=y18.mp h
  split
  next q =>
   have q':sLe x y:=by simpa [sLe] using q
   exact y18.mpr ⟨fun z hz=>by
    rcases y09.mp hz with rfl|hz
    ·exact q'
    ·exact zd1 q' (h'.1 z hz),h⟩
  next q =>
   have q':strLt y x=true:=by simpa using q
   exact y18.mpr ⟨fun z hz=>by
    rcases y09.mp ((z9m x ys).mem_iff.mp hz) with rfl|hz
    ·exact zd2 q'
    ·exact h'.1 z hz,zm4 x h'.2⟩
theorem z8i:∀l:List Str,(z4h l).Pairwise sLe
 | []=>.nil
 | x::xs=>zm4 x (z8i xs)
theorem zbm {l m:List Str} (p:l.Perm m) (h:l.Pairwise sLe):l=z4h m:=z4p (fun a b h1 h2=>zhb h1 h2) (p.trans (z2l m).symm) h (z8i m)
theorem z6b {l m:List Str} (p:l.Perm m):z4h l=z4h m:=zbm ((z2l l).trans p) (z8i l)
theorem zar:∀(l:List Str) (p:Str),risingS p l=true->(p::l).Pairwise sLe
 | [],p,_=>by simp
 | x::r,p,h=>by
  simp only[risingS,y1b,Bool.not_eq_true'] at h
  have ih:=zar r x h.2
  have hpx:sLe p x:=by
   unfold sLe
   rw[znv]
   exact h.1
  refine y18.mpr ⟨fun z hz=>?_,ih⟩
  rcases y09.mp hz with rfl|hz
  ·exact hpx
  ·exact zd1 hpx ((y18.mp ih).1 z hz)
theorem zi9 {l:List Str} (h:sortedS l=true):l.Pairwise sLe:=by
 cases l with
 | nil=>exact .nil
 | cons x r=>exact zar r x h
section
variable {K:Type} [DecidableEq K]
theorem zpy {ks:List K} {k x:K}:x∈addK ks k <-> x∈ks\/x=k:=by
 unfold addK
 split
 next h =>
  constructor
  ·exact .inl
  ·rintro (q|rfl)
   ·exact q
   ·exact h
 next=>simp
theorem zjs {ks:List K} {k:K} (h:ks.Nodup):(addK ks k).Nodup:=by
 unfold addK
 split
 ·exact h
 next q=>exact List.nodup_append.mpr ⟨h,by simp,fun a ha b hb=>by simp at hb;subst hb;rintro rfl;exact q ha⟩
theorem foldl_addK:∀(ks acc:List K),acc.Nodup->(ks.foldl addK acc).Nodup/\∀x,x∈ks.foldl addK acc <-> x∈acc\/x∈ks
 | [],acc,h=>⟨h,by simp⟩
 | k::ks,acc,h=>by
  obtain⟨h1,h2⟩:=foldl_addK ks (addK acc k) (zjs h)
  refine⟨h1,fun x=>?_⟩
  rw[List.foldl_cons,h2,zpy,y09,or_assoc]
theorem z5k {x:K}:∀{l:List K},x∈dedup l <-> x∈l
 | []=>by simp[dedup]
 | y::ys=>by
  unfold dedup
  simp only[y09,List.mem_filter,z5k (l:=ys),decide_eq_true_eq,ne_eq]
  by_cases e:x=y <;> simp[e]
theorem z4q:∀(l:List K),(dedup l).Nodup
 | []=>by simp[dedup]
 | y::ys=>by
  unfold dedup
  refine y0r.mpr ⟨by simp,(z4q ys).sublist List.filter_sublist⟩
theorem zbu {l m:List K} (h1:l.Nodup) (h2:m.Nodup) (h:∀x,x∈l <-> x∈m):l.Perm m:=(List.perm_ext_iff_of_nodup h1 h2).mpr h
theorem z47 (ks:List K):(z10 ks).Perm (dedup ks):=by
 obtain⟨h1,h2⟩:=foldl_addK ks [] .nil
 exact zbu h1 (z4q ks) fun x=>by
  unfold z10
  rw[h2,z5k]
  simp
theorem z64 {J:Type} [DecidableEq J] (f:J->K) (hf:∀a b,f a=f b->a=b) (l:List J):z10 (l.map f)=(z10 l).map f:=by
 have key:∀(l acc:List J),(l.map f).foldl addK (acc.map f)=(l.foldl addK acc).map f:=by
  intro l
  induction l with
  | nil=>intro acc;rfl
  | cons x r ih =>
   intro acc
   rw[y0d,List.foldl_cons,List.foldl_cons,<- ih]
   congr 1
   unfold addK
   have:f x∈acc.map f <-> x∈acc:=by
    rw[y0m]
    exact⟨fun⟨a,ha,e⟩=>hf a x e▸ha,fun h=>⟨x,h,rfl⟩⟩
   by_cases q:x∈acc
   ·rw[if_pos q,if_pos (this.mpr q)]
   ·rw[if_neg q,if_neg (fun z=>q (this.mp z)),List.map_append]
    rfl
 exact key l []
end
end
section
variable [Tbl]
section
variable {prog:y0q} {w:World} {A:Around} {E:Value->y04->Prop} {s:y04}
inductive Srt:List Value->List Value->Prop where
 | ofI {vs out:List Value} {ns:List Int}:IntsAre vs ns->IntsAre out (sortI ns)->Srt vs out
 | ofS {vs out:List Value} {ss:List Str}:StrsAre vs ss->StrsAre out (z4h ss)->Srt vs out
def z8m (vs:List Value):Prop:=vs.length<64/\((∃ns,IntsAre vs ns)\/∃ss,StrsAre vs ss)
theorem sortedHeap_at {h:Heap} {a:Addr} {vs:List Value} {n:Nat} {out:Array Value} (ho:h.get? a=some (seqObj "list" vs.toArray n)) :
  (∃e,(sortedHeap h a vs out).get? a=some (seqObj "list" out e))/\∀b o,b≠a->h.get? b=some o->(sortedHeap h a vs out).get? b=some o:=by
 have hlt:=y0c ho
 unfold sortedHeap
 refine⟨?_,fun b o hb e=>?_⟩
 ·have h1:=get?_update_seq ho (fun _=>(#[]:Array Value))
  have h2:=y03 (seqObj "tuple" vs.toArray 0) h1
  have h3:=y03 (seqObj "list" #[] 0) h2
  exact⟨_,get?_update_seq h3 (fun _=>out)⟩
 ·rw[y39 _ _ (Ne.symm hb)]
  exact y03 _ (y03 _ ((y39 _ _ (Ne.symm hb)).trans e))
theorem zka {a:Addr} {vs:List Value} {n:Nat} {P:Fin->y04->Prop} (ho:s.heap.get? a=some (seqObj "list" vs.toArray n)) (hs:z8m vs)
  (h:∀out:Array Value,Srt vs out.toList->P (.done (.ret .none)) { s with heap:=sortedHeap s.heap a vs out }):y0u (y33 prog w) A (Builtin.«list.sort» ⟨[.ref a],[]⟩) P E s:=by
 obtain⟨h64,⟨ns,hI⟩|⟨ss,hS⟩⟩:=hs
 ·refine list_sort_tree ho hI h64 fun out ns' a1 a2 a3=>h out (.ofI hI ?_)
  rw[<- zha a2 a3]
  exact a1
 ·refine list_sort_treeK strKind_oneLt ho hS.keysOf (fun v₁ v₂ rest e=>keyKind_strs (by rw[<- e];exact hS)) h64 fun st' hp hs=>?_
  obtain⟨ss',h1,h2,h3⟩:=sorted_out_str hS hp hs
  refine h _ (.ofS hS ?_)
  rw[<- zbm h2 (zi9 h3)]
  exact h1
theorem zf9 {r:Addr} {C:List Value->Prop} {Q:Value->y04->Prop}
  (hcol:∀(E':Value->y04->Prop) (R:List Value->y04->Prop),(∀h' tk d vs,(∀b o,s.heap.get? b=some o->h'.get? b=some o)->s.heap.objs.size<=h'.objs.size->C vs->R vs { s with heap:=h',toks:=tk,drawn:=d })->y0u (y33 prog w) A.in1 (collect (.ref r)) R E' s)
  (hC:∀vs,C vs->z8m vs)
  (h:∀h' tk d D e vs out,C vs->Srt vs out->(∀b o,s.heap.get? b=some o->h'.get? b=some o)->s.heap.objs.size<=D->h'.get? D=some (seqObj "list" out.toArray e)->Q (.ref D) { s with heap:=h',toks:=tk,drawn:=d }) :
  y0u (y33 prog w) A (call (.builtin "sorted") [.ref r]) Q E s:=by
 refine Calls.call_function_entry kind_sorted plain_sorted entry_sorted (args_sorted1 _) ?_
 unfold Builtin.«sorted»
 refine y02 (m:=checkCount "sorted" 1 1 _) (y06 ?_)
 refine y02 (hcol _ _ fun h' tk d vs kp hsz c=>?_)
 have hs:=hC vs c
 have hz:vs.length<=y0j:=by
  have:=hs.1
  rw[y2n]
  omega
 refine y02 (wpAny_newList ?_ hz)
 have hoL:(h'.push (seqObj "list" vs.toArray 0)).get? h'.objs.size=some (seqObj "list" vs.toArray 0):=y0l _ rfl
 refine y02 (y2i (y2t slot_list_sort ⟨_,hoL,rfl⟩ entry_list_sort (zka hoL hs fun out so=>⟨_,rfl,?_⟩) (args_list_sort _)))
 obtain⟨⟨e,he⟩,hk⟩:=sortedHeap_at (out:=out) hoL
 refine y06 ⟨_,rfl,?_⟩
 exact h _ tk d h'.objs.size e vs out.toList c so (fun b o q=>hk b o (y0y (y0c (kp b o q))) (y03 _ (kp b o q))) hsz he
theorem zi8 {K:Type} [DecidableEq K] {knd:PySem.KeyKind prog w K} {a:Addr} {ks:List K} {Q:Value->y04->Prop} (hh:A.handled=none) (hS:SetK knd s.heap a ks)
  (hC:∀vs ks',Paired (IsV knd) vs ks'->ks'.Perm ks->z8m vs)
  (h:∀h' tk d D e vs out ks',Paired (IsV knd) vs ks'->ks'.Perm ks->Srt vs out->(∀b o,s.heap.get? b=some o->h'.get? b=some o)->s.heap.objs.size<=D->h'.get? D=some (seqObj "list" out.toArray e)->Q (.ref D) { s with heap:=h',toks:=tk,drawn:=d }) :
  y0u (y33 prog w) A (call (.builtin "sorted") [.ref a]) Q E s:=by
 refine zf9 (C:=fun vs=>∃ks',Paired (IsV knd) vs ks'/\ks'.Perm ks) (fun E' R hR=>zgj hh hS fun h' tk d vs ks' kp hz hv hp=>hR h' tk d vs kp hz ⟨ks',hv,hp⟩) (fun vs ⟨ks',hv,hp⟩=>hC vs ks' hv hp) fun h' tk d D e vs out ⟨ks',hv,hp⟩ so kp hD he=>h h' tk d D e vs out ks' hv hp so kp hD he
end
section
variable {X:Cx} {pins:List (Addr×Obj)} {σ:L2.St} {H:Hp} {s:y04}
theorem zm1 {a:Addr} {o:HO} {t':Nat} {d':Drawn} {h':Heap} (I:Inv X pins σ H s) (k:∀b u,s.heap.get? b=some u->h'.get? b=some u) (hp:s.heap.objs.size<=a) (new:z5s X.prog X.w (upd H a o) h' a o) :
  Inv X pins σ (upd H a o) { s with heap:=h',toks:=t',drawn:=d' } :=
 I.call (ch:=[]) (g':=s.gens) (Un.laid k hp (I.hok.fresh hp)) (I.hok.laid k hp new) I.bare fun _ z=>nomatch z
theorem z9k:∀{us:List Value} {ns:List Int},IntsAre us ns->Vals (ns.map V.int) us
 | _,_,.nil=>.nil
 | _,_,.cons n t r=>.cons ⟨t,rfl⟩ (z9k r)
theorem z8p:∀{us:List Value} {ss:List Str},StrsAre us ss->Vals (ss.map V.str) us
 | _,_,.nil=>.nil
 | _,_,.cons n t r=>.cons ⟨t,rfl⟩ (z8p r)
theorem z6u:∀{us:List Value} {ks:List L2.Key},Vals (ks.map kV) us->Paired (IsV (z2b X.prog X.w)) us ks
 | [],[],_=>.nil
 | _,.inl i::ks,.cons r rs=>by
  obtain⟨t,rfl⟩:=r
  exact .cons ⟨zg8 _ _ i t,rfl⟩ (z6u rs)
 | _,.inr x::ks,.cons r rs=>by
  obtain⟨t,rfl⟩:=r
  exact .cons ⟨zg7 _ _ x t,rfl⟩ (z6u rs)
theorem z9h:∀{us:List Value} {ks:List L2.Key} {ns:List Int},Paired (IsV (z2b X.prog X.w)) us ks->ks=ns.map Sum.inl->IntsAre us ns
 | _,_,[],.nil,_=>.nil
 | _,_,n::ns,.cons a b,e=>by
  cases e
  have a1:=a.1
  rw[zb3] at a1
  rcases z17 a1 with ⟨i,t,e1,rfl⟩|⟨x,t,e1,rfl⟩
  ·cases e1
   exact .cons _ t (z9h b rfl)
  ·cases e1
theorem z9g:∀{us:List Value} {ks:List L2.Key} {ss:List Str},Paired (IsV (z2b X.prog X.w)) us ks->ks=ss.map Sum.inr->StrsAre us ss
 | _,_,[],.nil,_=>.nil
 | _,_,n::ns,.cons a b,e=>by
  cases e
  have a1:=a.1
  rw[zb3] at a1
  rcases z17 a1 with ⟨i,t,e1,rfl⟩|⟨x,t,e1,rfl⟩
  ·cases e1
  ·cases e1
   exact .cons _ t (z9g b rfl)
theorem z41 {α β:Type} (f:α->β):∀{l:List α} {m:List β},m.Perm (l.map f)->∃l':List α,m=l'.map f/\l'.Perm l:=by
 intro l m p
 generalize hx:l.map f=lf at p
 induction p generalizing l with
 | nil =>
  rw[List.map_eq_nil_iff] at hx
  subst hx
  exact⟨[],rfl,.rfl⟩
 | cons x _ ih =>
  cases l with
  | nil=>cases hx
  | cons a r =>
   simp only[y0d,List.cons.injEq] at hx
   obtain⟨l',e,q⟩:=ih hx.2
   exact⟨a::l',by rw[y0d,hx.1,e],q.cons a⟩
 | swap x y r =>
  match l,hx with
  | a::b::r',hx =>
   simp only[y0d,List.cons.injEq] at hx
   exact⟨b::a::r',by rw[y0d,y0d,hx.1,hx.2.1,hx.2.2],.swap _ _ _⟩
 | trans _ _ i1 i2 =>
  obtain⟨l1,e1,q1⟩:=i2 hx
  obtain⟨l2,e2,q2⟩:=i1 e1.symm
  exact⟨l2,e2,q2.trans q1⟩
def setO (X:Cx) (l:Addr) (ks:List L2.Key):HO:=.ext fun h=>SetK (z2b X.prog X.w) h l ks
theorem zej (hc:X.calm=true):z3x X (.type "set") (fun xs H Q=>∃p ks,xs=[.ref p]/\SqL X.K H p (ks.map kV)/\ks.length<64/\∀l,H l=none->Q (.ref l) (upd H l (setO X l (z10 ks)))):=by
 intro pins s σ H xs us Q I r h
 obtain⟨p,ks,rfl,hq,hz,q⟩:=h
 obtain⟨u,rfl,rx⟩:=vals1 r
 cases rx
 obtain⟨its,r',pl,hz'⟩:=I.list hq
 have hlen:=r'.length
 rw[y13] at hlen
 refine zjb (knd:=z2b X.prog X.w) (ks:=ks) (I.ok.hd hc) pl.isList (z6u (by simpa using r')) (by simp only[y0h];unfold scanBound;omega) fun h' tk hS kp=>?_
 refine⟨.ref s.heap.objs.size,_,I.laid (t':=tk) (o:=setO X s.heap.objs.size (z10 ks)) (fun b o e=>kp b o (y0c e) e) (y0o _) ⟨hS,?_,fun h1 h2 x k=>x.at' k⟩,rfl,q _ (I.hok.fresh (y0o _))⟩
 obtain⟨es,ep,t,ks',ho,_⟩:=hS
 exact⟨_,ho⟩
def zcs (ks:List L2.Key) (ys:List V):Prop:=(∃ns:List Int,ks=ns.map Sum.inl/\ys=(sortI ns).map V.int)\/∃ss:List Str,ks=ss.map Sum.inr/\ys=(z4h ss).map V.str
theorem zo1 {vs out:List Value} {ks ks':List L2.Key} {ys:List V} (hv:Paired (IsV (z2b X.prog X.w)) vs ks') (hp:ks'.Perm ks) (so:Srt vs out) (hk:zcs ks ys):Vals ys out:=by
 rcases hk with ⟨ns,rfl,rfl⟩|⟨ss,rfl,rfl⟩
 ·obtain⟨ns',rfl,hp'⟩:=z41 Sum.inl hp
  have hI:=z9h hv rfl
  cases so with
  | ofI a b =>
   rename_i ms
   rw[<- z6c hp',show ns'=ms from ?_]
   ·exact z9k b
   ·rw[<- IntsAre.numsOf hI,<- IntsAre.numsOf a]
  | ofS a b =>
   cases a with
   | nil =>
    cases hI
    have:ns=[]:=List.Perm.eq_nil hp'.symm
    subst this
    exact z8p b
   | cons x t _=>cases hI
 ·obtain⟨ss',rfl,hp'⟩:=z41 Sum.inr hp
  have hS:=z9g hv rfl
  cases so with
  | ofS a b =>
   rename_i ms
   rw[<- z6b hp',show ss'=ms from ?_]
   ·exact z8p b
   ·rw[<- StrsAre.strs hS,<- StrsAre.strs a]
  | ofI a b =>
   cases a with
   | nil =>
    cases hS
    have:ss=[]:=List.Perm.eq_nil hp'.symm
    subst this
    exact z9k b
   | cons x t _=>cases hS
theorem zc3 {vs:List Value} {ks ks':List L2.Key} {ys:List V} (hz:ks.length<64) (hv:Paired (IsV (z2b X.prog X.w)) vs ks') (hp:ks'.Perm ks) (hk:zcs ks ys):z8m vs:=by
 refine⟨by rw[zay hv,hp.length_eq];exact hz,?_⟩
 rcases hk with ⟨ns,rfl,_⟩|⟨ss,rfl,_⟩
 ·obtain⟨ns',rfl,_⟩:=z41 Sum.inl hp
  exact .inl ⟨_,z9h hv rfl⟩
 ·obtain⟨ss',rfl,_⟩:=z41 Sum.inr hp
  exact .inr ⟨_,z9g hv rfl⟩
theorem zkc {ks:List L2.Key} {ys:List V} (h:zcs ks ys):ys.length=ks.length:=by
 rcases h with ⟨ns,rfl,rfl⟩|⟨ss,rfl,rfl⟩
 ·simp[(sortI_perm ns).length_eq]
 ·simp[(z2l ss).length_eq]
theorem z84 (hc:X.calm=true):z3x X (.builtin "sorted") (fun xs H Q=>∃p ks ys,xs=[.ref p]/\H p=some (setO X p ks)/\ks.length<64/\zcs ks ys/\∀l,H l=none->Q (.ref l) (upd H l (.lst ys))):=by
 intro pins s σ H xs us Q I r h
 obtain⟨p,ks,ys,rfl,hq,hz,hk,q⟩:=h
 obtain⟨u,rfl,rx⟩:=vals1 r
 cases rx
 have hS:SetK (z2b X.prog X.w) s.heap p ks:=(I.hok p _ hq).1
 refine zi8 (I.ok.hd hc) hS (fun vs ks' hv hp=>zc3 hz hv hp hk) fun h' tk d D e vs out ks' hv hp so kp hD he=>?_
 exact⟨.ref D,_,zm1 I (o:=.lst ys) kp hD ⟨by rw[zkc hk,y2n];omega,out,e,zo1 hv hp so hk,he⟩,rfl,q _ (I.hok.fresh hD)⟩
end
end
section
variable [Tbl]
theorem z5i:∀{ts:List T} {ns:List Int},intsOf ts=some ns->ts=ns.map .int
 | [],ns,e=>by
  cases e
  rfl
 | t::ts,ns,e=>by
  unfold intsOf at e
  split at e
  ·rename_i h
   cases h
  ·rename_i h
   cases h
   simp only[y07] at e
   obtain⟨r,e1,rfl⟩:=e
   rw[z5i e1]
   rfl
  ·cases e
theorem z54:∀{ts:List T} {ss:List Str},strsOf ts=some ss->ts=ss.map .str
 | [],ns,e=>by
  cases e
  rfl
 | t::ts,ns,e=>by
  unfold strsOf at e
  split at e
  ·rename_i h
   cases h
  ·rename_i h
   cases h
   simp only[y07] at e
   obtain⟨r,e1,rfl⟩:=e
   rw[z54 e1]
   rfl
  ·cases e
section
variable {K:y00} {F:Addr->Prop} {H:Hp}
theorem z73:∀(ns:List Int),RepL K F H (ns.map .int) (ns.map V.int)
 | []=>RepL.nil
 | n::ns=>RepL.cons (by simp[Rep]) (z73 ns)
theorem z8x:∀(ns:List Str),RepL K F H (ns.map .str) (ns.map V.str)
 | []=>RepL.nil
 | n::ns=>RepL.cons (by simp[Rep]) (z8x ns)
theorem z5x:∀{ns:List Int} {vs:List V},RepL K F H (ns.map .int) vs->vs=ns.map V.int
 | [],vs,h=>by simpa [RepL] using h
 | n::ns,vs,h=>by
  simp only[y0d,RepL,Rep] at h
  obtain⟨v,r,rfl,rfl,z⟩:=h
  rw[z5x z]
  rfl
theorem z5w:∀{ns:List Str} {vs:List V},RepL K F H (ns.map .str) vs->vs=ns.map V.str
 | [],vs,h=>by simpa [RepL] using h
 | n::ns,vs,h=>by
  simp only[y0d,RepL,Rep] at h
  obtain⟨v,r,rfl,rfl,z⟩:=h
  rw[z5w z]
  rfl
end
noncomputable def z0x:List T->Option T
 | [.list xs]=>if xs.length<64 then
   match intsOf xs with
   | some ns=>some (.list ((sortI (dedup ns)).map .int))
   | none=>(strsOf xs).map fun ss=>.list ((z4h (dedup ss)).map .str)
  else none
 | _=>none
section
variable {X:Cx} {a e:Expr} {es:List Expr} {f:Fe} {fs:List Fe} {p p2 pos pos2:Pos}
theorem zfl (hc:X.calm=true) (hs:X.mg "sorted"=none) (ht:X.mg "set"=none) (ha:PEr X a f) (hg:Gl X "sorted":=by rfl) (hg2:Gl X "set":=by rfl)
  (he:y0a [a] X.env=(false,eval a X.env)::y0a [] X.env:=by rfl) (he2:y0a [.Call (.Name "set" p2) [a] [] pos2] X.env=(false,eval (.Call (.Name "set" p2) [a] [] pos2) X.env)::y0a [] X.env:=by rfl)
  (hpl:(y2j pos (y0a [] X.env)).any (·.1)=false:=by rfl) (hpl2:(y2j pos2 (y0a [] X.env)).any (·.1)=false:=by rfl) :
  PEv X (.Call (.Name "sorted" p) [.Call (.Name "set" p2) [a] [] pos2] [] pos) (opN z0x [f]) :=
 z0l (z42 (z84 hc) hg hs (by decide +kernel) (z13 (z5b (zej hc) hg2 ht (by decide +kernel) (z0n ha z1d he) (he:=he) (hpl:=hpl2)) z34 he2) (he:=he2) (hpl:=hpl)) fun σ H Q ⟨F₀,H₀,O,F,ε,t,r,e,k⟩=>by
 simp only[opN,args,y01,y07] at e
 obtain⟨ts,⟨t0,e0,us,eu,rfl⟩,e⟩:=e
 cases eu
 refine⟨F₀,H₀,O,F,ε,[t0],r,by simp[args,e0],fun vs F1 H1 x1 q1=>?_⟩
 cases q1 with
 | cons q1 q2 =>
  cases q2
  unfold z0x at e
  split at e
  next xs hx =>
   cases hx
   split at e
   next hz =>
    obtain⟨l0,vs,rfl,hl,hr⟩:=q1.lst
    have fin:∀(ks:List L2.Key) (ys:List V) (rs:List T),vs=ks.map kV->ks.length<64->zcs (z10 ks) ys->(∀F' H',RepL X.K F' H' rs ys)->t=.list rs ->
      ∃p ks,[V.ref l0]=[V.ref p]/\SqL X.K H1 p (ks.map kV)/\ks.length<64/\∀l,H1 l=none->tNil σ (upd H1 l (setO X l (z10 ks))) fun xs H2=>∃p ks ys,(V.ref l::xs)=[.ref p]/\H2 p=some (setO X p ks)/\ks.length<64/\zcs ks ys/\∀l,H2 l=none->Q (.ref l) (upd H2 l (.lst ys)):=by
     intro ks ys rs ev hk hs' hrs et
     subst ev
     subst et
     refine⟨l0,ks,rfl,.inl hl,hk,fun l hl1=>⟨l,z10 ks,ys,rfl,z08,?_,hs',fun l2 hl2=>?_⟩⟩
     ·have:=z2s ks []
      simp only[y2d] at this
      unfold z10
      omega
     ·have x2:=Ext.laid (o:=setO X l (z10 ks)) x1.dom hl1
      have x3:=Ext.laidF (o:=.lst ys) x2.dom hl2
      refine k _ _ _ ((x1.trans x2).trans x3) ?_
      simp only[Rep]
      exact⟨l2,ys,rfl,.inr rfl,.inl z08,hrs _ _⟩
    split at e
    next ns hn =>
     have hxs:=z5i hn
     subst hxs
     cases e
     refine fin (ns.map .inl) ((sortI (dedup ns)).map V.int) _ (by rw[z5x hr];simp[kV,y16]) (by simpa using hz) (.inl ⟨z10 ns,z64 Sum.inl (fun _ _ h=>Sum.inl.inj h) ns,by rw[z6c (z47 ns)]⟩) (fun _ _=>z73 _) rfl
    next hn =>
     simp only[y07] at e
     obtain⟨ss,hss,e⟩:=e
     have hxs:=z54 hss
     subst hxs
     refine fin (ss.map .inr) ((z4h (dedup ss)).map V.str) _ (by rw[z5w hr];simp[kV,y16]) (by simpa using hz) (.inr ⟨z10 ss,z64 Sum.inr (fun _ _ h=>Sum.inr.inj h) ss,by rw[z6b (z47 ss)]⟩) (fun _ _=>z8x _) e.symm
   next=>cases e
  next=>cases e
end
section
variable {prog:y0q} {w:World} {A:Around} {E:Value->y04->Prop} {s:y04}
theorem zih (n:Nat):y1j ((n:Int) - 1) (-1) (-1)=n:=by
 unfold y1j
 rw[if_neg (by decide)]
 by_cases h:(n:Int) - 1 > -1
 ·rw[if_pos h]
  rw[show (- -1:Int)=1 by decide,Int.ediv_one]
  omega
 ·rw[if_neg h]
  omega
theorem zoe (xs:Array Value):((List.range xs.size).filterMap fun (k:Nat)=>xs[((xs.size:Int) - 1+(k:Int)*(-1)).toNat]?).toArray=xs.toList.reverse.toArray:=by
 have h1:(fun (k:Nat)=>xs[((xs.size:Int) - 1+(k:Int)*(-1)).toNat]?)=fun k=>xs[(fun k=>xs.size - 1 - k) k]?:=by
  funext k
  have:((xs.size:Int) - 1+(k:Int)*(-1)).toNat=xs.size - 1 - k:=by omega
  rw[this]
 rw[h1]
 have h2:=List.filterMap_map (f:=fun k=>xs.size - 1 - k) (g:=fun i=>xs[i]?) (l:=List.range xs.size)
 have h3:(fun k=>xs[(fun k=>xs.size - 1 - k) k]?)=(fun i=>xs[i]?) ∘ fun k=>xs.size - 1 - k:=rfl
 rw[h3,<- h2,PySem.W.krv_range,List.filterMap_reverse,PySem.W.krv_all]
theorem z7p {t sl:Addr} {items:Array Value} {u:Tok} {Q:Value->y04->Prop} (ht:IsTup s.heap t items) (hs:s.heap.IsSliceOf sl .none .none (.int (-1) u))
  (h:Q (.ref s.heap.objs.size) { s with heap:=s.heap.push { cls:=.type "tuple",data:=.seq items.toList.reverse.toArray } })
  (hsz:items.size<=y0j):y0u (y33 prog w) A (getItem (.ref t) (.ref sl)) Q E s:=by
 have htake:sizeOk (.seq items.toList.reverse.toArray):=by
  show items.toList.reverse.toArray.size<=y0j
  simpa using hsz
 obtain⟨os,hos,hcs,hds⟩:=id hs
 have hTs:s.TypeIs (.ref sl) "slice":=⟨os,hos,hcs⟩
 unfold getItem
 try with_reducible refine y2i ?_
 first|refine y02 (y06 ?_)|skip
 refine y02 (wpAny_sequenceKey ht.typeIs (by decide) ?_)
 refine y02 (y2m (name:=Str.ofString "__getitem__") ht.typeIs y1h
  (y2t y1h ht.typeIs entry_tuple_getitem ?_ (args_tuple_getitem _ _)))
 show y0u _ _ (Builtin.Tuple.tupleItemsOf (.ref t) >>= _) _ _ s
 refine y02 (tupleItemsOf_ ht ?_)
 refine y02 (wpAny_typeOf hTs ?_)
 rw[if_pos (by decide)]
 refine y02 ?_
 unfold Builtin.Slice.sliceApplied Builtin.Slice.sliceFields
 refine y02 (y02 (y2l hos hds (x:=.none) rfl (y02 (y2l hos hds (x:=.none) rfl (y02 (y2l hos hds (x:=.int (-1) u) rfl (y06 ?_)))))))
 refine y02 (slicePart_int ?_)
 show y0u _ _ (if ((-1:Int) == 0)=true then _ else _) _ _ s
 rw[if_neg (by decide)]
 refine y02 (slicePart_none (y02 (slicePart_none (y02 (y06 ?_)))))
 show y0u _ _ (pure (((items.size:Int) - 1),(-1:Int),y1j ((items.size:Int) - 1) (-1) (-1))) _ _ s
 rw[zih]
 refine y06 ?_
 show y0u _ _ (if (((items.size:Int) - 1) == 0 && (-1:Int) == 1 && items.size == items.size)=true then _ else _) _ _ s
 rw[if_neg (by simp),zoe]
 first
  | exact y02 (m:=y12 _) (y2r (y06 ⟨_,rfl,y06 h⟩) htake)
  | exact y02 (m:=y12 _) (y2r (y02 (y06 (y06 ⟨_,rfl,y06 h⟩))) htake)
  | exact y02 (y02 (m:=y12 _) (y2r (y06 (y06 ⟨_,rfl,y06 h⟩)) htake))
  | exact y02 (y02 (m:=y12 _) (y2r (y06 ⟨_,rfl,y06 h⟩) htake))
end
theorem z7n {α β:Type} {R:α->β->Prop}:∀{l:List α} {ks:List β},Paired R l ks->Paired R l.reverse ks.reverse
 | _,_,.nil=>.nil
 | _,_,.cons a b=>by
  rw[List.reverse_cons,List.reverse_cons]
  exact z93 (z7n b) (.cons a .nil)
theorem z59 {K:y00} {F:Addr->Prop} {H:Hp}:∀{ts:List T} {vs:List V},RepL K F H ts vs->RepL K F H ts.reverse vs.reverse
 | [],vs,h=>by
  simp only[RepL] at h
  subst h
  exact RepL.nil
 | t::ts,vs,h=>by
  simp only[RepL] at h
  obtain⟨v,z,rfl,q,y⟩:=h
  rw[List.reverse_cons,List.reverse_cons]
  exact (z59 y).append (RepL.cons q RepL.nil)
section
variable {X:Cx} {e st:Expr} {te:TE} {f:Fe} {pos p2:Pos}
theorem neg1 {j:Nat} {p1 p0:Pos}:PE X (.UnaryOp .USub (.Constant (.int 1) j p1) p0) (tC (.int (-1))):=z0l (zro zju zhg) fun σ H Q h=>⟨1,rfl,h⟩
end
end
section
variable [Tbl]
section
variable {prog:y0q} {w:World} {K:Type} [DecidableEq K] {knd:PySem.KeyKind prog w K} {A:Around} {E:Value->y04->Prop} {s:y04}
set_option maxHeartbeats 3200000 in
theorem zgl {l:Addr} {items:Array Value} {ks:List K} {Q:Value->y04->Prop}
  (hh:A.handled=none) (hl:s.heap.IsTuple l items) (hi:Paired (IsV knd) items.toList ks) (hb:items.size+1<scanBound)
  (h:∀(h':Heap) (tk:Nat),SetK knd h' s.heap.objs.size (z10 ks)->(∀b o,b<s.heap.objs.size->s.heap.get? b=some o->h'.get? b=some o)->Q (.ref s.heap.objs.size) { s with heap:=h',toks:=tk }) :
  y0u (y33 prog w) A (call (.type "set") [.ref l]) Q E s:=by
 obtain⟨c,tl,hmro⟩:=PySem.F.called_set.mro
 have hmade:=PySem.F.called_set.made
 have hsub:=PySem.F.called_set.sub
 refine y30 (codeAny_of_tree ?_)
 show y0u _ _ (callAny (.type "set") _) _ _ _
 refine y06 ⟨Code.quiet_builtin _ (by decide +kernel),y2q PySem.F.entry_type_call ?_⟩
 rw[Around.under_plain (weight_type_call_type "set" [.ref l] []) rfl]
 have h1:=PySem.F.called_set.notType
 have h2:=PySem.F.called_set.canCreate
 have hct:=PySem.F.typeCall_set_1 (.ref l)
 repeat (any_goals (first|assumption|wp_step))
 refine y2s (z9v (.ref l) (E:=E) (Q₁:=fun obj s₁=>obj=.ref s.heap.objs.size/\s₁={ s with heap:=s.heap.push { cls:=.type "set",dict:=none,data:=.set #[] 0 (.fresh 0 0 (!z2e w)) } }) ⟨rfl,rfl⟩) fun r s₁ hr=>?_
 cases r with
 | error e=>exact hr
 | ok fl =>
  cases fl with
  | ret obj =>
   obtain⟨rfl,rfl⟩:=hr
   have hS:(s.heap.push { cls:=.type "set",dict:=none,data:=.set #[] 0 (.fresh 0 0 (!z2e w)) }).get? s.heap.objs.size=some { cls:=.type "set",dict:=none,data:=.set #[] 0 (.fresh 0 0 (!z2e w)) }:=y0l _ rfl
   have hT:Shared.TypeIs { s with heap:=s.heap.push { cls:=.type "set",dict:=none,data:=.set #[] 0 (.fresh 0 0 (!z2e w)) } } (.ref s.heap.objs.size) "set":=⟨_,hS,rfl⟩
   have hli:=PySem.F.called_set.init.lookup
   have hbi:=PySem.F.called_set.init.bind (.ref s.heap.objs.size)
   repeat (any_goals (first|assumption|wp_step))
   refine y2s (codeAny_call_builtin (R:=wants (fun r s₂=>r=.none/\∃h' tk,s₂={ s with heap:=h',toks:=tk }/\SetK knd h' s.heap.objs.size (z10 ks) /\
     (∀b o,b<s.heap.objs.size->s.heap.get? b=some o->h'.get? b=some o)) E) PySem.F.called_set.init.plain PySem.F.entry_set_init (check_set_init_1 hT ?_)) fun r₂ s₂ hr₂=>?_
   ·obtain⟨ol,hol,hcl,nl,hdl⟩:=hl
    obtain⟨ocls,odict,odata,oslots⟩:=ol
    simp only at hcl hdl
    subst hcl
    subst hdl
    have hol':(s.heap.push { cls:=.type "set",dict:=none,data:=.set #[] 0 (.fresh 0 0 (!z2e w)) }).get? l=some { cls:=.type "tuple",dict:=odict,data:=.seq items nl,slots:=oslots }:=y03 _ hol
    have hsls:=PySem.F.sub_tuple_set
    have hslf:=PySem.F.sub_tuple_frozenset
    have hne:(Value.type "tuple" == Value.type "dict")=false:=by decide
    have hl1:(s.heap.push { cls:=.type "set",dict:=none,data:=.set #[] 0 (.fresh 0 0 (!z2e w)) }).IsTuple l items:=⟨_,hol',rfl,nl,rfl⟩
    unfold Builtin.«set.__init__» noKeywords Builtin.Frozenset.updateFrom
    generalize hPI:pyIter=PI
    wp_walk
    subst hPI
    refine y2o hl1 ?_
    refine y02 (wpAny_runValue ?_)
    have hlS:l<s.heap.objs.size:=y0c hol
    have hh3:A.in1.in1.in1.handled=none:=by simp[hh]
    have hneI:l≠(s.heap.push { cls:=.type "set",dict:=none,data:=.set #[] 0 (.fresh 0 0 (!z2e w)) }).objs.size:=by
     rw[y17]
     exact y0y (Nat.lt_succ_of_lt hlS)
    have hSf:s.heap.objs.size∉[(s.heap.push { cls:=.type "set",dict:=none,data:=.set #[] 0 (.fresh 0 0 (!z2e w)) }).objs.size,l]:=by
     rw[y17]
     simp only[y09,y0z,y28,or_false,not_or]
     exact⟨y0y (Nat.lt_succ_self _),y15 hlS⟩
    refine zcv (knd:=knd) ((Walks.tuple hh3 _ l hneI items).toS) s.heap.objs.size hSf hi hb (items.size - 0) 0 _ (by omega) (y23 _)
     ⟨⟨_,y0l _ rfl,rfl,rfl⟩,(hl1.push _)⟩ ?hS0 ?hR
    case hS0 =>
     refine SetK.at' (zmb (knd:=knd) (h:=s.heap)) fun o e=>y03 _ e
    case hR =>
     intro s' hm hS'
     obtain⟨h',g',d',tk',os'⟩:=s'
     have eg:g'=s.gens:=hm.gens
     have ed:d'=s.drawn:=hm.drawn
     have eo:os'=s.os:=hm.os
     subst eg
     subst ed
     subst eo
     show y0u _ _ _ _ _ _
     refine y06 ?_
     show y0u _ _ (ret Value.none) _ _ _
     refine y06 ⟨rfl,h',tk',rfl,hS',fun b o hb e=>?_⟩
     have hb1:b≠s.heap.objs.size:=y0y hb
     have hb2:b≠(s.heap.push { cls:=.type "set",dict:=none,data:=.set #[] 0 (.fresh 0 0 (!z2e w)) }).objs.size:=by
      rw[y17]
      exact y0y (Nat.lt_succ_of_lt hb)
     exact hm.heap b o (by simp only[y09,y0z,y28,or_false,not_or];exact⟨hb1,hb2⟩) (y03 _ (y03 _ e))
   ·cases r₂ with
    | error e=>exact hr₂
    | ok fl₂ =>
     cases fl₂ with
     | ret r =>
      obtain⟨rfl,h',tk,rfl,hS',hk'⟩:=hr₂
      repeat (any_goals (first|assumption|wp_step))
      exact h _ _ hS' hk'
     | _=>exact hr₂.elim
  | _=>exact hr.elim
end
end
section
variable [Tbl]
section
variable {X:Cx} {a b e:Expr} {es rest:List Expr} {f g:Fe} {fs:List Fe} {p p2 pos pos2:Pos}
theorem zaw {op:BoolOp} (h:PEv X a f):PEv X (.BoolOp op [a] pos) f:=zqf h
theorem zvv {op:BoolOp} (h:PEv X a f):PEv X (.BoolOp op [a] pos) f:=zqf h
theorem zfm (ha:PEv X a f) (hb:PEv X (.BoolOp .And (b::rest) pos) g):PEv X (.BoolOp .And (a::b::rest) pos) (andV f g):=z0l (zuc ha hb) fun σ H Q ⟨F₀,H₀,O,F,ε,t,r,e,k⟩=>by
 simp only[andV,y01] at e
 obtain⟨x,ex,e⟩:=e
 refine⟨F₀,H₀,O,F,ε,x,r,ex,fun v F1 H1 x1 rx=>?_⟩
 split at e
 ·simp only[Rep] at rx
  refine⟨true,rx,?_⟩
  rw[if_pos rfl]
  exact⟨F₀,H₀,O,F1,ε,t,r.ext x1,e,fun v F' H' x2 q=>k v F' H' (x1.trans x2) q⟩
 ·cases e
  simp only[Rep] at rx
  refine⟨false,rx,?_⟩
  rw[if_neg (by decide)]
  exact k _ F1 H1 x1 (by simp[Rep])
 ·cases e
theorem q_or (ha:PEv X a f) (hb:PEv X (.BoolOp .Or (b::rest) pos) g):PEv X (.BoolOp .Or (a::b::rest) pos) (orV f g):=z0l (zw3 ha hb) fun σ H Q ⟨F₀,H₀,O,F,ε,t,r,e,k⟩=>by
 simp only[orV,y01] at e
 obtain⟨x,ex,e⟩:=e
 refine⟨F₀,H₀,O,F,ε,x,r,ex,fun v F1 H1 x1 rx=>?_⟩
 split at e
 ·simp only[Rep] at rx
  refine⟨false,rx,?_⟩
  rw[if_neg (by decide)]
  exact⟨F₀,H₀,O,F1,ε,t,r.ext x1,e,fun v F' H' x2 q=>k v F' H' (x1.trans x2) q⟩
 ·cases e
  simp only[Rep] at rx
  refine⟨true,rx,?_⟩
  rw[if_pos rfl]
  exact k _ F1 H1 x1 (by simp[Rep])
 ·cases e
theorem ztr (ha:PEv X a f):PEv X (.UnaryOp .Not a pos) (notV f):=z0l (zu6 ha) fun σ H Q ⟨F₀,H₀,O,F,ε,t,r,e,k⟩=>by
 simp only[notV,y01] at e
 obtain⟨x,ex,e⟩:=e
 refine⟨F₀,H₀,O,F,ε,x,r,ex,fun v F1 H1 x1 rx=>?_⟩
 split at e
 ·cases e
  simp only[Rep] at rx
  exact⟨_,rx,k _ F1 H1 x1 (by simp[Rep])⟩
 ·cases e
theorem zts (hm:X.mg "list"=none) (ha:PAr X (e::es) fs) (hg:Gl X "list":=by rfl) (he:y0a (e::es) X.env=(false,eval e X.env)::y0a es X.env:=by rfl) (hpl:(y2j pos (y0a es X.env)).any (·.1)=false:=by rfl) :
  PEv X (.Call (.Name "list" p) (e::es) [] pos) (opN zag fs):=z0l (z5b zek hg hm (by decide +kernel) ha (he:=he) (hpl:=hpl)) (z5e (by
 intro O F H ts t vs Q d q e k
 unfold zag at e
 split at e
 ·cases e
  cases q with
  | cons q1 q2 =>
   cases q2
   obtain⟨l0,ws,rfl,hl,hr⟩:=q1.tup
   refine⟨l0,ws,rfl,.inr hl,fun l hl1=>?_⟩
   have x1:=Ext.laidF (o:=.lst ws) d hl1
   refine k _ _ _ x1 ?_
   simp only[Rep]
   exact⟨l,ws,rfl,.inr rfl,.inl z08,hr.ext x1⟩
 ·cases e
  cases q with
  | cons q1 q2 =>
   cases q2
   obtain⟨l0,ws,rfl,hl,hr⟩:=q1.lst
   refine⟨l0,ws,rfl,.inl (.inl hl),fun l hl1=>?_⟩
   have x1:=Ext.laidF (o:=.lst ws) d hl1
   refine k _ _ _ x1 ?_
   simp only[Rep]
   exact⟨l,ws,rfl,.inr rfl,.inl z08,hr.ext x1⟩
 ·cases e))
def tOt (K:y00) (f:Ev->Option (Option Int)):TO:=fun σ H Q=>∃F₀ H₀ O F ε i,RelE K F₀ H₀ O F H ε σ/\f ε=some i/\∀F' H',Ext F H F' H'->Q i H'
theorem zqx {x:Option Expr} {t t':TO} (h:PO X x t) (k:∀σ H Q,t' σ H Q->t σ H Q):PO X x t':=fun pins s σ H Q I q=>h pins s σ H Q I (k σ H Q q)
theorem z98:PO X none (tOt X.K optN):=zqx zrk fun σ H Q ⟨F₀,H₀,O,F,ε,i,r,e,k⟩=>by
 cases e
 exact k F H (Ext.refl r.dom)
theorem z97 (h:PEr X a f):PO X (some a) (tOt X.K (opt f)):=zqx (zrj h) fun σ H Q ⟨F₀,H₀,O,F,ε,i,r,e,k⟩=>by
 simp only[opt,y01] at e
 obtain⟨x,ex,e⟩:=e
 refine⟨F₀,H₀,O,F,ε,x,r,ex,fun v F1 H1 x1 rx=>?_⟩
 split at e
 ·cases e
  exact⟨_,rx.int,k F1 H1 x1⟩
 ·cases e
noncomputable def rSlW (K:y00):V->Option Int->Option Int->Hp->VK->Prop:=fun x lo hi H Q=>∃a xs,x=.ref a/\SqT K H a xs/\(HT.sIx xs.length 0 lo=0/\HT.sIx xs.length xs.length hi=xs.length)/\Q (.ref a) H
theorem z6l {prog:y0q} {w:World} {A:Around} {E:Value->y04->Prop} {s:y04} {t sl:Addr} {items:Array Value} {vl vu:Value} {lo hi:Option Int} {Q:Value->y04->Prop} (ht:IsTup s.heap t items) (hs:s.heap.IsSliceOf sl vl vu .none) (pl:IsPart vl lo) (pu:IsPart vu hi)
  (hw:HT.sIx items.size 0 lo=0/\HT.sIx items.size items.size hi=items.size) (h:Q (.ref t) s):y0u (y33 prog w) A (getItem (.ref t) (.ref sl)) Q E s:=by
 obtain⟨os,hos,hcs,hds⟩:=id hs
 have hTs:s.TypeIs (.ref sl) "slice":=⟨os,hos,hcs⟩
 unfold getItem
 try with_reducible refine y2i ?_
 first|refine y02 (y06 ?_)|skip
 refine y02 (wpAny_sequenceKey ht.typeIs (by decide) ?_)
 refine y02 (y2m (name:=Str.ofString "__getitem__") ht.typeIs y1h
  (y2t y1h ht.typeIs entry_tuple_getitem ?_ (args_tuple_getitem _ _)))
 show y0u _ _ (Builtin.Tuple.tupleItemsOf (.ref t) >>= _) _ _ s
 refine y02 (tupleItemsOf_ ht ?_)
 refine y02 (wpAny_typeOf hTs ?_)
 rw[if_pos (by decide)]
 refine y02 (HT.sliceApplied_gen hs pl pu ?_)
 rw[hw.1,hw.2]
 show y0u _ _ (if (((0:Nat):Int) == 0 && (1:Int) == 1 && (items.size - 0) == items.size)=true then _ else _) _ _ s
 rw[if_pos (by simp)]
 unfold Builtin.Tuple.tupleIsExact
 refine y02 (y02 (wpAny_typeOf ht.typeIs (y06 ?_)))
 rw[if_pos (by decide)]
 refine y02 (wpAny_rule ?_)
 exact y06 ⟨_,rfl,y06 h⟩
theorem zo3:SlR X (rSlW X.K):=by
 intro pins s σ H x v vl vu lo hi sl Q I rx hs pl pu h
 obtain⟨a,xs,rfl,hx,hw,q⟩:=h
 cases rx
 obtain⟨its,r,ht,hz⟩:=I.tuple hx
 have hlen:its.toArray.size=xs.length:=by rw[y0h];exact r.length.symm
 refine⟨"tuple",_,PyProof.Rows.slot_tuple_getitem.lookup,ht.typeIs,?_⟩
 exact z6l ht hs pl pu (by rw[hlen];exact hw) ⟨.ref a,H,I,rfl,q⟩
theorem zth (n d:Nat) (o:Option Int):D.sIx n d o=HT.sIx n d o:=by
 cases o with
 | none=>rfl
 | some v =>
  unfold D.sIx HT.sIx
  dsimp only
  split <;> omega
theorem zbr {K:y00} {F:Addr->Prop} {H:Hp} {ts:List T} {vs:List V} (h:RepL K F H ts vs) (lo hi:Option Int):RepL K F H (cutZ ts lo hi) (cutV vs lo hi):=by
 unfold cutZ cutV
 simp only[zth,h.length]
 exact (h.drop _).take _
end
def z16:List T->Option T
 | [.list xs]=>z0x [.list xs]
 | [.tuple xs]=>z0x [.list xs]
 | _=>none
section
variable {X:Cx} {a e:Expr} {f:Fe} {p p2 pos pos2:Pos}
theorem zmv (hc:X.calm=true):z3x X (.type "set") (fun xs H Q=>∃p ks,xs=[.ref p]/\SqT X.K H p (ks.map kV)/\ks.length<64/\∀l,H l=none->Q (.ref l) (upd H l (setO X l (z10 ks)))):=by
 intro pins s σ H xs us Q I r h
 obtain⟨p,ks,rfl,hq,hz,q⟩:=h
 obtain⟨u,rfl,rx⟩:=vals1 r
 cases rx
 obtain⟨its,r',pl,hz'⟩:=I.tuple hq
 have hlen:=r'.length
 rw[y13] at hlen
 refine zgl (knd:=z2b X.prog X.w) (ks:=ks) (I.ok.hd hc) pl (z6u (by simpa using r')) (by simp only[y0h];unfold scanBound;omega) fun h' tk hS kp=>?_
 refine⟨.ref s.heap.objs.size,_,I.laid (t':=tk) (o:=setO X s.heap.objs.size (z10 ks)) (fun b o e=>kp b o (y0c e) e) (y0o _) ⟨hS,?_,fun h1 h2 x k=>x.at' k⟩,rfl,q _ (I.hok.fresh (y0o _))⟩
 obtain⟨es,ep,t,ks',ho,_⟩:=hS
 exact⟨_,ho⟩
theorem ztf (hc:X.calm=true) (ht:X.mg "set"=none) (ha:PEr X a f) (hg2:Gl X "set") (he:y0a [a] X.env=(false,eval a X.env)::y0a [] X.env) (hpl2:(y2j pos2 (y0a [] X.env)).any (·.1)=false) :
  PE X (.Call (.Name "set" p2) [a] [] pos2) (fun σ H Q=>∃F₀ H₀ O F ε xs,RelE X.K F₀ H₀ O F H ε σ/\(f ε=some (.list xs)\/f ε=some (.tuple xs))/\xs.length<64 /\
   ((∃ns,intsOf xs=some ns/\∀l F' H',Ext F H F' H'->H' l=some (setO X l (z10 (ns.map .inl)))->Q (.ref l) H')\/∃ss,strsOf xs=some ss/\∀l F' H',Ext F H F' H'->H' l=some (setO X l (z10 (ss.map .inr)))->Q (.ref l) H')) :=
 z0l (z5b (zq2 (zej hc) (zmv hc)) hg2 ht (by decide +kernel) (z0n ha z1d he) (he:=he) (hpl:=hpl2)) fun σ H Q ⟨F₀,H₀,O,F,ε,xs,r,e,hz,h⟩=>by
 rcases e with e|e
 ·refine⟨F₀,H₀,O,F,ε,[.list xs],r,by simp[args,e],fun vs F1 H1 x1 q1=>.inl ?_⟩
  cases q1 with
  | cons q1 q2 =>
   cases q2
   obtain⟨l0,vs,rfl,hl,hr⟩:=q1.lst
   rcases h with ⟨ns,hn,h⟩|⟨ss,hn,h⟩
   ·have:=z5i hn
    subst this
    rw[z5x hr] at hl
    exact⟨l0,ns.map .inl,rfl,by simpa [kV,y16] using SqL.of' hl,by simpa using hz,fun l hl1=>h l F1 _ (x1.trans (Ext.laid x1.dom hl1)) z08⟩
   ·have:=z54 hn
    subst this
    rw[z5w hr] at hl
    exact⟨l0,ss.map .inr,rfl,by simpa [kV,y16] using SqL.of' hl,by simpa using hz,fun l hl1=>h l F1 _ (x1.trans (Ext.laid x1.dom hl1)) z08⟩
 ·refine⟨F₀,H₀,O,F,ε,[.tuple xs],r,by simp[args,e],fun vs F1 H1 x1 q1=>.inr ?_⟩
  cases q1 with
  | cons q1 q2 =>
   cases q2
   obtain⟨l0,vs,rfl,hl,hr⟩:=q1.tup
   rcases h with ⟨ns,hn,h⟩|⟨ss,hn,h⟩
   ·have:=z5i hn
    subst this
    rw[z5x hr] at hl
    exact⟨l0,ns.map .inl,rfl,by simpa [kV,y16] using hl,by simpa using hz,fun l hl1=>h l F1 _ (x1.trans (Ext.laid x1.dom hl1)) z08⟩
   ·have:=z54 hn
    subst this
    rw[z5w hr] at hl
    exact⟨l0,ss.map .inr,rfl,by simpa [kV,y16] using hl,by simpa using hz,fun l hl1=>h l F1 _ (x1.trans (Ext.laid x1.dom hl1)) z08⟩
where SqL.of' {K:y00} {H:Hp} {a:Addr} {xs:List V} (h:Rd H a (.lst xs)):SqL K H a xs:=.inl h
theorem ssA {ts:List T} {t:T} (e:z16 ts=some t):∃xs,(ts=[.list xs]\/ts=[.tuple xs])/\xs.length<64/\((∃ns,intsOf xs=some ns/\t=.list ((sortI (dedup ns)).map .int))\/∃ss,strsOf xs=some ss/\t=.list ((z4h (dedup ss)).map .str)):=by
 have key:∀xs,z0x [.list xs]=some t->xs.length<64/\((∃ns,intsOf xs=some ns/\t=.list ((sortI (dedup ns)).map .int))\/∃ss,strsOf xs=some ss/\t=.list ((z4h (dedup ss)).map .str)):=by
  intro xs e
  unfold z0x at e
  dsimp only at e
  split at e
  next hz =>
   split at e
   next ns hn =>
    cases e
    exact⟨hz,.inl ⟨ns,hn,rfl⟩⟩
   next =>
    simp only[y07] at e
    obtain⟨ss,hs,rfl⟩:=e
    exact⟨hz,.inr ⟨ss,hs,rfl⟩⟩
  next=>cases e
 unfold z16 at e
 split at e
 ·exact⟨_,.inl rfl,key _ e⟩
 ·exact⟨_,.inr rfl,key _ e⟩
 ·cases e
theorem zd7 (hc:X.calm=true) (hs:X.mg "sorted"=none) (ht:X.mg "set"=none) (ha:PEr X a f) (hg:Gl X "sorted":=by rfl) (hg2:Gl X "set":=by rfl)
  (he:y0a [a] X.env=(false,eval a X.env)::y0a [] X.env:=by rfl) (he2:y0a [.Call (.Name "set" p2) [a] [] pos2] X.env=(false,eval (.Call (.Name "set" p2) [a] [] pos2) X.env)::y0a [] X.env:=by rfl)
  (hpl:(y2j pos (y0a [] X.env)).any (·.1)=false:=by rfl) (hpl2:(y2j pos2 (y0a [] X.env)).any (·.1)=false:=by rfl) :
  PEv X (.Call (.Name "sorted" p) [.Call (.Name "set" p2) [a] [] pos2] [] pos) (opN z16 [f]) :=
 z0l (z42 (z84 hc) hg hs (by decide +kernel) (z13 (ztf hc ht ha hg2 he hpl2) z34 he2) (he:=he2) (hpl:=hpl)) fun σ H Q ⟨F₀,H₀,O,F,ε,t,r,e,k⟩=>by
 simp only[opN,args,y01,y07] at e
 obtain⟨ts,⟨t0,e0,us,eu,rfl⟩,e⟩:=e
 cases eu
 obtain⟨xs,hx,hz,h⟩:=ssA e
 have fx:f ε=some (.list xs)\/f ε=some (.tuple xs):=by
  rcases hx with h|h
  ·cases h
   exact .inl e0
  ·cases h
   exact .inr e0
 have ln:∀{J:Type} (ns:List J) (g:J->L2.Key),ns.length<64->(z10 (ns.map g)).length<64:=fun ns g h=>by
  have:=z2s (ns.map g) []
  simp only[y2d,y13] at this
  unfold z10
  omega
 have fin:∀(ks:List L2.Key) (ys:List V) (rs:List T),ks.length<64->zcs ks ys->(∀F' H',RepL X.K F' H' rs ys)->t=.list rs->∀l F' H',Ext F H F' H'->H' l=some (setO X l ks) ->
   tNil σ H' fun xs H2=>∃p ks ys,(V.ref l::xs)=[.ref p]/\H2 p=some (setO X p ks)/\ks.length<64/\zcs ks ys/\∀l,H2 l=none->Q (.ref l) (upd H2 l (.lst ys)):=by
  intro ks ys rs h1 h2 h3 h4 l F' H' x hl
  subst h4
  refine⟨l,ks,ys,rfl,hl,h1,h2,fun l2 hl2=>?_⟩
  have x3:=Ext.laidF (o:=.lst ys) x.dom hl2
  refine k _ _ _ (x.trans x3) ?_
  simp only[Rep]
  exact⟨l2,ys,rfl,.inr rfl,.inl z08,h3 _ _⟩
 refine⟨F₀,H₀,O,F,ε,xs,r,fx,hz,?_⟩
 rcases h with ⟨ns,hn,et⟩|⟨ss,hn,et⟩
 ·have hxs:=z5i hn
  refine .inl ⟨ns,hn,fin _ ((sortI (dedup ns)).map V.int) _ (ln ns _ (by rw[hxs] at hz;simpa using hz)) (.inl ⟨z10 ns,z64 Sum.inl (fun _ _ h=>Sum.inl.inj h) ns,by rw[z6c (z47 ns)]⟩) (fun _ _=>z73 _) et⟩
 ·have hxs:=z54 hn
  refine .inr ⟨ss,hn,fin _ ((z4h (dedup ss)).map V.str) _ (ln ss _ (by rw[hxs] at hz;simpa using hz)) (.inr ⟨z10 ss,z64 Sum.inr (fun _ _ h=>Sum.inr.inj h) ss,by rw[z6b (z47 ss)]⟩) (fun _ _=>z8x _) et⟩
end
end
end D
end
section
namespace D
open PySem PySem.W PyProof.Rows
structure OrdK (n:Nat) (lt:Nat->Nat->Bool):Prop where
 asym:∀i j,lt i j=true->lt j i=false
 trans:∀i j k,lt i j=true->lt j k=true->lt i k=true
 tot:∀i j,i<n->j<n->i≠j->lt i j=true\/lt j i=true
def SP (lt:Nat->Nat->Bool) (p:Array Nat) (m:Nat):Prop:=∀i j,i<j->j<m->lt (p.getD i 0) (p.getD j 0)=true
def DP (lt:Nat->Nat->Bool) (p:Array Nat) (m:Nat):Prop:=∀i j,i<j->j<m->lt (p.getD j 0) (p.getD i 0)=true
section
variable {n:Nat} {lt:Nat->Nat->Bool} (O:OrdK n lt)
include O
end
end D
end
section
namespace D
open PySem
variable [Tbl]
end D
end
section
namespace D
open PySem PySem.Spec PyProof.Rows L2
section
variable [Tbl]
open PySem.W (kas_ask kas_sort kat_run kat_snds kat_lt kat_kind KatTups KatLex KatGo kas_item KasT)
section
variable {prog:y0q} {w:World} {A:Around} {E:Value->y04->Prop} {s:y04}
end
section
variable {X:Cx}
variable {e:Expr} {es:List Expr} {fs:List Fe} {p pos:Pos}
end
end
section
variable [Tbl]
section
variable {prog:y0q} {w:World} {K:Type} [DecidableEq K] {knd:PySem.KeyKind prog w K} {A:Around}
variable {R:Result->y04->Prop} {I:Addr} {fp wr:List Addr} {G:Array GenState->Array GenState->Prop} {St:Nat->y04->Prop} {items:Array Value}
variable {E:Value->y04->Prop} {s:y04}
end
end
section
variable [Tbl]
section
variable {X:Cx}
variable {a b e:Expr} {f g:Fe} {x y:Str} {p px py pos pos2:Pos}
end
end
section
variable [Tbl]
open AutoSeq1 (wpAny_loadPart')
section
variable {X:Cx} {es:List Expr} {k:Nat} {p pos p2:Pos} {a:Expr} {f:Fe}
end
end
section
variable [Tbl]
open AutoSeq1 (wpAny_loadPart')
section
variable {prog:y0q} {w:World} {A:Around} {E:Value->y04->Prop} {s:y04}
end
end
section
variable [Tbl]
section
variable {K:y00} {F:Addr->Prop} {H:Hp}
theorem zau:∀{bs:List Bool} {vs:List V},RepL K F H (bs.map .bool) vs->vs=bs.map V.bl
 | [],vs,h=>by simpa [RepL] using h
 | n::ns,vs,h=>by
  simp only[y0d,RepL,Rep] at h
  obtain⟨v,r,rfl,rfl,z⟩:=h
  rw[zau z]
  rfl
end
section
variable {X:Cx} {a e:Expr} {es:List Expr} {f:Fe} {fs:List Fe} {p p2 pos pos2:Pos}
end
end
section
variable [Tbl]
mutual
noncomputable def ltD:T->T->Option Bool
 | .int a,.int b=>some (decide (a<b))
 | .tuple xs,.tuple ys=>lexD xs ys
 | _,_=>none
noncomputable def lexD:List T->List T->Option Bool
 | [],[]=>some false
 | [],_::_=>some true
 | _::_,[]=>some false
 | x::xs,y::ys=>if y1z x y then lexD xs ys else ltD x y
end
noncomputable def LtAt (A:Around) (s:y04) (y x:Value) (b:Bool):Prop :=
 ∀(prog:y0q) (w:World) (E:Value->y04->Prop) (Q:Value->y04->Prop),Q (.bool b) s->y0u (y33 prog w) A (richCompare .Lt y x) Q E s
inductive GoodP (A:Around) (s:y04) (fin:Bool):List (Value×Value)->Bool->Prop
 | nil:GoodP A s fin [] fin
 | eq {y x:Value} {r:List (Value×Value)} {b:Bool}:SeqAt.EqAt A s y x true->GoodP A s fin r b->GoodP A s fin ((y,x)::r) b
 | lt {y x:Value} {r:List (Value×Value)} {b:Bool}:SeqAt.EqAt A s y x false->LtAt A s y x b->GoodP A s fin ((y,x)::r) b
section
open PySem.SeqAt
open PySem.AutoSeq1 (wpAny_loadPart')
open PySem.MeetsSeq PySem.MeetsSeq2 PySem.MeetsSeq3
theorem zcm (l b:Addr) (items items2:Array Value) (n n2:Nat) (dd dd2:Option Addr) (sl sl2:Array (Option Value)) (z:Bool) :
  Meets (Builtin.«tuple.__lt__» ⟨[.ref l,.ref b],[]⟩)
   (fun A R s=>s.heap.get? l=some { cls:=.type "tuple",dict:=dd,data:=.seq items n,slots:=sl }/\s.heap.get? b=some { cls:=.type "tuple",dict:=dd2,data:=.seq items2 n2,slots:=sl2 } /\
    GoodP A.in1 s (decide (items.size<items2.size)) (items.toList.zip items2.toList) z/\R (.ok (.ret (.bool z))) s) :=
 .of_wp fun prog w A R s h=>by
  obtain⟨hp,g,d,tk,os⟩:=s;obtain⟨hl,hb,hg,h⟩:=h
  have f2:=AutoSeq1.sub_tuple_tuple
  wp_walk using wpAny_loadPart' hl,wpAny_loadPart' hb,wpAny_forIn_list _ (fun rest b s'=>b.1=none/\s'=⟨hp,g,d,tk,os⟩/\GoodP A.in1 ⟨hp,g,d,tk,os⟩ (decide (items.size<items2.size)) rest z) _
  case turn =>
   rintro⟨y,x⟩ rest b s' ⟨hb',rfl,hG⟩
   cases hG with
   | eq he hG =>
    refine y02 (he prog w _ _ ?_)
    wp_walk
    exact⟨rfl,rfl,hG⟩
   | lt he hlt =>
    refine y02 (he prog w _ _ ?_)
    have hri:=hlt prog w
    wp_walk using hri
    exact⟨_,rfl,h⟩
  case fin =>
   rintro⟨b1,b2⟩ s' ⟨hb',rfl,hG⟩
   simp only at hb'
   subst hb'
   cases hG
   wp_walk
   exact⟨_,rfl,by simpa [Builtin.Tuple.tupleCompareSizes] using h⟩
  case h =>
   exact⟨rfl,rfl,hg⟩
mutual
theorem zoz:∀(da db:T) (A:Around) (s:y04) (a b:Value) (as bs:List Addr) (r:Bool),Reads s.heap a da as->Reads s.heap b db bs->da.canLay0=true->db.canLay0=true->A.units+min da.depth db.depth<cLine->ltD da db=some r->LtAt A s a b r
 | .int i,.int j,A,s,_,_,_,_,r,.int _ t,.int _ u,_,_,_,e=>by
  unfold ltD at e
  cases e
  exact fun prog w E Q q=>(PyProof.Rows.lt_int q:y0u (y33 prog w) A (y2p .Lt (.int i t) (.int j u)) Q E s)
 | .tuple xs,.tuple ys,A,s,_,_,_,_,r,.tuple (a:=l) (o:=o) (vs:=vs) (n:=n) h1 h2 h3 h4,.tuple (a:=l') (o:=o') (vs:=vs') (n:=n') k1 k2 k3 k4,ha,hb,hu,e=>by
  unfold ltD at e
  simp only[PyData.canLay0] at ha hb
  simp only[y24] at hu
  have hG:=good_reads xs ys A.in1 s vs.toList vs'.toList _ _ r h4 k4 ha hb (room_in hu) e
  obtain⟨cls,dd,data,sl⟩:=o
  obtain⟨cls2,dd2,data2,sl2⟩:=o'
  simp only at h2 h3 k2 k3
  subst h2 h3 k2 k3
  rw[y1y,y1y] at hG
  exact fun prog w E Q q=>richCompare_meets_room (op:=.Lt) ⟨_,h1,rfl⟩ ⟨_,k1,rfl⟩ PySem.F.slot_tuple_lt PySem.F.entry_tuple_lt (PySem.F.args_tuple_lt_2 _ _) (zcm l l' vs vs' n n' dd dd2 sl sl2 r)
   ⟨h1,k1,hG,show Value.bool r≠Value.notImplemented/\Q (.bool r) s from ⟨(fun x=>nomatch x),q⟩⟩ (by omega)
 | .none,_,_,_,_,_,_,_,_,_,_,_,_,_,e=>by simp[ltD] at e
 | .bool _,_,_,_,_,_,_,_,_,_,_,_,_,_,e=>by simp[ltD] at e
 | .str _,_,_,_,_,_,_,_,_,_,_,_,_,_,e=>by simp[ltD] at e
 | .list _,_,_,_,_,_,_,_,_,_,_,_,_,_,e=>by simp[ltD] at e
 | .dict _,_,_,_,_,_,_,_,_,_,_,_,_,_,e=>by simp[ltD] at e
 | .int _,.none,_,_,_,_,_,_,_,_,_,_,_,_,e=>by simp[ltD] at e
 | .int _,.bool _,_,_,_,_,_,_,_,_,_,_,_,_,e=>by simp[ltD] at e
 | .int _,.str _,_,_,_,_,_,_,_,_,_,_,_,_,e=>by simp[ltD] at e
 | .int _,.list _,_,_,_,_,_,_,_,_,_,_,_,_,e=>by simp[ltD] at e
 | .int _,.dict _,_,_,_,_,_,_,_,_,_,_,_,_,e=>by simp[ltD] at e
 | .int _,.tuple _,_,_,_,_,_,_,_,_,_,_,_,_,e=>by simp[ltD] at e
 | .tuple _,.none,_,_,_,_,_,_,_,_,_,_,_,_,e=>by simp[ltD] at e
 | .tuple _,.bool _,_,_,_,_,_,_,_,_,_,_,_,_,e=>by simp[ltD] at e
 | .tuple _,.str _,_,_,_,_,_,_,_,_,_,_,_,_,e=>by simp[ltD] at e
 | .tuple _,.list _,_,_,_,_,_,_,_,_,_,_,_,_,e=>by simp[ltD] at e
 | .tuple _,.dict _,_,_,_,_,_,_,_,_,_,_,_,_,e=>by simp[ltD] at e
 | .tuple _,.int _,_,_,_,_,_,_,_,_,_,_,_,_,e=>by simp[ltD] at e
theorem good_reads:∀(xs ys:List T) (A:Around) (s:y04) (vs ws:List Value) (as bs:List Addr) (r:Bool),ReadsAll s.heap vs xs as->ReadsAll s.heap ws ys bs->y1g xs=true->y1g ys=true->A.units+min (y1e xs) (y1e ys)<cLine->lexD xs ys=some r->GoodP A s (decide (vs.length<ws.length)) (vs.zip ws) r
 | [],[],A,s,_,_,_,_,r,.nil,.nil,_,_,_,e=>by
  unfold lexD at e
  cases e
  exact .nil
 | [],_::_,A,s,_,_,_,_,r,.nil,.cons _ _,_,_,_,e=>by
  unfold lexD at e
  cases e
  exact GoodP.nil
 | _::_,[],A,s,_,_,_,_,r,.cons _ _,.nil,_,_,_,e=>by
  unfold lexD at e
  cases e
  exact GoodP.nil
 | x::xs,y::ys,A,s,_,_,_,_,r,.cons r1 r2,.cons q1 q2,ha,hb,hu,e=>by
  simp only[y1g,y1b] at ha hb
  simp only[y1e] at hu
  unfold lexD at e
  have he:=eqAt_reads x y A s _ _ _ _ r1 q1 ha.1 hb.1 (room_head hu)
  split at e
  next h =>
   rw[h] at he
   have ih:=good_reads xs ys A s _ _ _ _ r r2 q2 ha.2 hb.2 (room_tail hu) e
   rw[y20]
   simp only[y0w,Nat.add_lt_add_iff_right]
   exact .eq he ih
  next h =>
   rw[Bool.not_eq_true] at h
   rw[h] at he
   rw[y20]
   exact .lt he (zoz x y A s _ _ _ _ r r1 q1 ha.1 hb.1 (room_head hu) e)
end
end
section
variable {prog:y0q} {w:World} {A:Around} {R:Result->y04->Prop} {I:Addr} {fp wr:List Addr} {G:Array GenState->Array GenState->Prop} {St:Nat->y04->Prop} {items:Array Value}
variable {E:Value->y04->Prop} {s:y04}
end
section
variable {X:Cx} {e:Expr} {es:List Expr} {fs:List Fe} {p pos:Pos}
end
end
section
variable [Tbl]
end
end D
end
section
namespace D
open PySem
inductive Ag where
 | v (f:Fe)|o (i:Nat)
abbrev Fx:=Ev->Option (T×Ev)
abbrev Fo:=Ev->Option Sl
def objS (i:Nat) (ε:Ev):Option Sl:=match ε[i]? with
 | some (some (.obj m c fs))=>some (.obj m c fs)
 | _=>none
noncomputable def agsE:List Ag->Ev->Option (List Sl)
 | [],_=>some []
 | .v f::as,ε=>(f ε).bind fun t=>(agsE as ε).map fun ss=>.imm t::ss
 | .o i::as,ε=>(objS i ε).bind fun s=>(agsE as ε).map fun ss=>s::ss
def roS:Sl->Sl
 | .obj _ c fs=>.obj .ro c fs
 | s=>s
def objF (c i:Nat) (ε:Ev):Option (Md×List Sl):=match ε[i]? with
 | some (some (.obj m c' fs))=>if c'=c then some (m,fs) else none
 | _=>none
def fld (c i j:Nat):Fe:=fun ε=>(objF c i ε).bind fun o=>match o.2[j]? with
 | some (.imm t)=>some t
 | some (.own ts)=>some (.list ts)
 | _=>none
def fldV (c i j:Nat):Fe:=fun ε=>(objF c i ε).bind fun o=>match o.2[j]? with
 | some (.imm t)=>some t
 | _=>none
def fldD (c i j:Nat):Ev->Option (List (Key×T)):=fun ε=>(objF c i ε).bind fun o=>match o.2[j]? with
 | some (.dic kvs)=>some kvs
 | _=>none
def fldL (c i j:Nat):Ev->Option (List T):=fun ε=>(objF c i ε).bind fun o=>match o.2[j]? with
 | some (.own ts)=>some ts
 | _=>none
def fGet (c i j:Nat) (k:Fe):Fe:=fun ε=>(k ε).bind fun t=>(keyOf t).bind fun k=>(fldD c i j ε).bind fun kvs=>getD kvs k
noncomputable def setF (c i j:Nat) (s:Sl) (ε:Ev):Option Ev:=(objF c i ε).bind fun o=>if o.1=.ro then none else
 if j<o.2.length then some (ε.set i (some (.obj o.1 c (o.2.set j s)))) else if j=o.2.length then some (ε.set i (some (.obj o.1 c (o.2++[s])))) else none
def asgF (c i j:Nat) (f:Fe):Fs:=fun ε=>(f ε).bind fun t=>(setF c i j (.imm t) ε).map .nx
def znc (c i j:Nat) (f:Fe):Fs:=fun ε=>(f ε).bind fun t=>match t with
 | .list ts=>(setF c i j (.own ts) ε).map .nx
 | _=>none
def zfr:T->T->Option Int
 | .int i,.int j=>some (i+j)
 | _,_=>none
def augF (c i j:Nat) (f:Fe):Fs:=fun ε=>(fldV c i j ε).bind fun x=>(f ε).bind fun y=>(zfr x y).bind fun z=>(setF c i j (.imm (.int z)) ε).map .nx
def appF (c i j:Nat) (f:Fe):Fs:=fun ε=>(f ε).bind fun t=>(fldL c i j ε).bind fun ts=>if ts.length<big then (setF c i j (.own (ts++[t])) ε).map .nx else none
noncomputable def zkq (c i j:Nat) (k v:Fe):Fs:=fun ε=>(v ε).bind fun v=>(k ε).bind fun t=>(keyOf t).bind fun k=>(fldD c i j ε).bind fun kvs=>if kvs.length<big then (setF c i j (.dic (putD kvs k v)) ε).map .nx else none
noncomputable def znb (c i j:Nat) (k v:Fe):Fs:=fun ε=>(k ε).bind fun t=>(keyOf t).bind fun k=>(fldD c i j ε).bind fun kvs=>(getD kvs k).bind fun x=>(v ε).bind fun y=>(zfr x y).bind fun z=>if kvs.length<big then (setF c i j (.dic (putD kvs k (.int z))) ε).map .nx else none
def zp5 (f g:Fi):Fi:=fun ε=>(f ε).bind fun a=>(g ε).map fun b=>List.zipWith (fun x y=>.tuple [x,y]) a b
def zlh (c:Nat) (d:List Sl->Option T) (i:Nat) (fs:List Fe):Fe:=fun ε=>(objF c i ε).bind fun o=>(args fs ε).bind fun ts=>d (.obj .ro c o.2::ts.map .imm)
noncomputable def zli (c:Nat) (d:List Sl->Option (T×List Sl)) (i:Nat) (fs:List Fe):Fx:=fun ε=>(objF c i ε).bind fun o=>if o.1=.ro then none else (args fs ε).bind fun ts =>
 (d (.obj .lent c o.2::ts.map .imm)).map fun r=>(r.1,ε.set i (some (.obj o.1 c r.2)))
def exX (f:Fx):Fs:=fun ε=>(f ε).map fun r=>.nx r.2
def rtnX (f:Fx):Fs:=fun ε=>(f ε).map fun r=>.rtm r.1 r.2
def rtnM (f:Fe):Fs:=fun ε=>(f ε).map fun t=>.rtm t ε
def asgX (i:Nat) (f:Fx):Fs:=fun ε=>(f ε).map fun r=>.nx (r.2.set i (some (.imm r.1)))
def zki:Fs:=fun ε=>some (.rtm .none ε)
def never:Fs:=fun _=>none
def z4u (n:Nat) (ss:List Sl):Ev:=ss.map some++y0g (n - ss.length) none
def runR (b:Fs) (n:Nat) (ss:List Sl):Option T:=(b (z4u n ss)).bind fun o=>match o with
 | .rt t=>some t
 | .nx _=>some .none
 | _=>none
def z9d (c p:Nat) (ε:Ev):Option (List Sl):=match ε[p]? with
 | some (some (.obj .lent c' fs))=>if c'=c then some fs else none
 | _=>none
noncomputable def runM (c p:Nat) (b:Fs) (n:Nat) (ss:List Sl):Option (T×List Sl):=(b (z4u n ss)).bind fun o=>match o with
 | .rtm t ε=>(z9d c p ε).map fun fs=>(t,fs)
 | .nx ε=>(z9d c p ε).map fun fs=>(.none,fs)
 | _=>none
end D
end
section
namespace D
open PySem PySem.Spec PyProof.Rows L2
section
variable [Tbl]
section
variable {K:y00} {F F' O:Addr->Prop} {H H':Hp} {E:En}
end
section
variable {K:y00} {F₀ F F1 O:Addr->Prop} {H H1:Hp} {E:En} {ε ε':Ev} {σ:L2.St} {c C i j:Nat} {ns:List Str}
end
end
section
variable [Tbl]
section
variable {K:y00} {F₀ F O:Addr->Prop} {H:Hp} {E:En} {ε:Ev} {σ:L2.St} {c C i j:Nat} {ns:List Str} {f:Str}
end
section
variable {X:Cx} {c C i j:Nat} {ns:List Str} {f:Str} {o e a:Expr} {g h:Fe} {pos apos:Pos}
end
end
section
variable [Tbl]
noncomputable def zez (K:y00) (F:Addr->Prop) (H:Hp) (σ:L2.St):List Ag->List Sl->List V->Prop
 | [],[],[]=>True
 | .v _::as,s::ss,v::vs=>(∃t,s=.imm t/\Rep K F H t v)/\zez K F H σ as ss vs
 | .o i::as,s::ss,v::vs=>σ[i]?=some (some v)/\zez K F H σ as ss vs
 | _,_,_=>False
def tAG (K:y00) (as:List Ag):TA:=fun σ H Q=>∃F₀ E O F ε ss,RelE K F₀ E O F H ε σ/\agsE as ε=some ss/\∀vs F' H',Ext F H F' H'->zez K F' H' σ as ss vs->Q vs H'
abbrev PAg (X:Cx) (es:List Expr) (as:List Ag):Prop:=PA X es (tAG X.K as)
theorem zvh {X:Cx} {e:List Expr} {t t':TA} (h:PA X e t) (k:∀σ H Q,t' σ H Q->t σ H Q):PA X e t':=zf1 h k
section
variable {X:Cx} {e:Expr} {es:List Expr} {as:List Ag} {f:Fe} {i:Nat}
theorem zvf:PAg X [] []:=zvh z34 fun σ H Q ⟨F₀,E,O,F,ε,ss,r,e,k⟩=>by
 cases e
 exact k [] F H (Ext.refl r.dom) trivial
theorem ag_v (h1:PEv X e f) (h2:PAg X es as) (hs:y0a (e::es) X.env=(false,eval e X.env)::y0a es X.env:=by rfl):PAg X (e::es) (.v f::as):=zvh (z13 h1 h2 hs) fun σ H Q ⟨F₀,E,O,F,ε,ss,r,e,k⟩=>by
 simp only[agsE,y01,y07] at e
 obtain⟨t,et,us,eu,rfl⟩:=e
 exact⟨F₀,E,O,F,ε,t,r,et,fun v F1 H1 x1 q1=>⟨F₀,E,O,F1,ε,us,r.ext x1,eu,fun vs F2 H2 x2 q2=>k _ F2 H2 (x1.trans x2) ⟨⟨t,rfl,q1.ext x2⟩,q2⟩⟩⟩
theorem zl8 {ε:Ev} {s:Sl} (h:objS i ε=some s):∃m c fs,s=.obj m c fs/\ε[i]?=some (some s):=by
 unfold objS at h
 split at h
 next m c fs e =>
  cases h
  exact⟨m,c,fs,rfl,e⟩
 next=>cases h
end
def zsz (K:y00) (F:Addr->Prop) (H:Hp) (ss:List Sl) (vs:List V):Prop:=Paired (fun s v=>s.isOwn=false/\z3u K ⟨H,0⟩ (fun a=>H a=none) F H s v) ss vs
section
variable {K:y00} {F F' F₀ O:Addr->Prop} {H H':Hp} {E E':En}
theorem Paired.get {α β:Type} {R:α->β->Prop}:∀{xs:List α} {ys:List β} {i:Nat} {x:α},Paired R xs ys->xs[i]?=some x->∃y,ys[i]?=some y/\R x y
 | _,_,i,x,.nil,e=>by simp at e
 | _,_,0,x,.cons r _,e=>by
  simp at e
  subst e
  exact⟨_,rfl,r⟩
 | _,_,i+1,x,.cons _ t,e=>by
  obtain⟨y,h1,h2⟩:=Paired.get (i:=i) (x:=x) t (by simpa using e)
  exact⟨y,by simpa using h1,h2⟩
theorem zcr {ss:List Sl} {n i:Nat} {s:Sl} (h:(z4u n ss)[i]?=some (some s)):ss[i]?=some s:=by
 unfold z4u at h
 by_cases hi:i<ss.length
 ·rw[y1m (by simpa using hi),y14,y0v hi] at h
  rw[y0v hi]
  simpa using h
 ·rw[y1l (by simpa using hi),List.getElem?_replicate] at h
  split at h <;> cases h
theorem zk5 {vs:List V} {n i:Nat} {v:V} (h:vs[i]?=some v):(vs.map some++y0g n none)[i]?=some (some v):=by
 have hi:=(y0k.mp h).1
 rw[y1m (by simpa using hi),y14,h]
 rfl
theorem zvq {m:Md} {c:Nat} {fs:List Sl} {v:V} (r:z3u K E O F H (.obj m c fs) v) (E':En) (O':Addr->Prop) (he:∀b∈fpS H (.obj m c fs) v,E'.h b≠none):z3u K E' O' F H (.obj .ro c fs) v:=by
 have r':=r
 obtain⟨a,vs,rfl,ha,hf,nd,ow,la⟩:=r
 rw[z7q ha] at he
 exact⟨a,vs,rfl,ha,hf,nd,fun b hb=>⟨(ow b hb).1,he b hb⟩,fun z=>by cases z⟩
theorem zfk {ss:List Sl} {vs:List V} (dom:Dom F H) (q:zsz K F H ss vs) (n:Nat):RelE K F ⟨H,0⟩ (fun a=>H a=none) F H (z4u n ss) (vs.map some++y0g (n - vs.length) none):=by
 have hl:ss.length=vs.length:=Paired.length q
 refine⟨by simp[z4u,hl],fun i s e=>?_,fun i j s u v w hij e1 e2 o1=>?_,Ext.refl dom,fun _ h=>h,fun _ h=>h⟩
 ·obtain⟨v,hv,_,rv⟩:=Paired.get q (zcr e)
  exact⟨v,zk5 hv,rv⟩
 ·obtain⟨_,_,z,_⟩:=Paired.get q (zcr e1)
  rw[z] at o1
  cases o1
theorem zne {ε:Ev} {σ:L2.St} (r:RelE K F₀ E O F H ε σ):∀{as:List Ag} {ss:List Sl} {vs:List V},agsE as ε=some ss->zez K F H σ as ss vs->zsz K F H (ss.map roS) vs
 | [],ss,vs,e,h=>by
  cases e
  cases vs with
  | nil=>exact .nil
  | cons v vs=>exact h.elim
 | .v f::as,ss,vs,e,h=>by
  simp only[agsE,y01,y07] at e
  obtain⟨t,et,us,eu,rfl⟩:=e
  cases vs with
  | nil=>exact h.elim
  | cons v vs =>
   obtain⟨⟨t',e',rt⟩,h⟩:=h
   cases e'
   exact .cons ⟨rfl,rt⟩ (zne r eu h)
 | .o i::as,ss,vs,e,h=>by
  simp only[agsE,y01,y07] at e
  obtain⟨s,es,us,eu,rfl⟩:=e
  cases vs with
  | nil=>exact h.elim
  | cons v vs =>
   obtain⟨hv,h⟩:=h
   obtain⟨m,c,fs,rfl,hs⟩:=zl8 es
   obtain⟨v',hv',rs⟩:=r.val i _ hs
   rw[hv] at hv'
   cases hv'
   refine .cons ⟨rfl,zvq rs _ _ fun b hb=>?_⟩ (zne r eu h)
   obtain⟨o,e,_⟩:=rs.at hb
   show H b≠none
   rw[e]
   exact fun z=>by cases z
end
section
variable {P:y0q} {w:World} {K:y00} {mg:Str->Option Value} {base:Heap}
end
theorem zez.len {K:y00} {F:Addr->Prop} {H:Hp} {σ:L2.St}:∀{as:List Ag} {ss:List Sl} {vs:List V},zez K F H σ as ss vs->vs.length=as.length
 | [],[],[],_=>rfl
 | .v _::as,s::ss,v::vs,h=>by simp[zez.len h.2]
 | .o i::as,s::ss,v::vs,h=>by simp[zez.len h.2]
 | [],[],_::_,h=>h.elim
 | [],_::_,_,h=>h.elim
 | .v _::_,[],_,h=>h.elim
 | .v _::_,_::_,[],h=>h.elim
 | .o _::_,[],_,h=>h.elim
 | .o _::_,_::_,[],h=>h.elim
section
variable {X:Cx} {k n c C i:Nat} {ns:List Str} {d:List Sl->Option T} {x m:Str} {p pos apos:Pos} {o e:Expr} {es:List Expr} {as:List Ag} {fs:List Fe}
end
end
section
variable [Tbl]
section
variable {K:y00} {F F' F₀ O:Addr->Prop} {H H':Hp} {E:En} {P:List Addr} {a b:Addr} {o:HO} {ε:Ev} {σ:L2.St} {c i:Nat} {m:Md} {fs fs':List Sl}
end
section
variable {P:y0q} {w:World} {K:y00} {mg:Str->Option Value} {base:Heap}
end
section
variable {X:Cx} {k n c C i:Nat} {ns:List Str} {d:List Sl->Option (T×List Sl)} {x m:Str} {p pos apos:Pos} {o e:Expr} {es:List Expr} {fs gs:List Fe} {fx:Fx}
theorem zr9 {st:Stmt}:PSt X st never:=fun pins s σ H D I ⟨F₀,E,O,F,ε,o,r,e,k⟩=>by cases e
end
end
section
variable [Tbl]
section
variable {P:y0q} {w:World} {K:y00} {mg:Str->Option Value} {base:Heap}
end
section
variable {X:Cx} {k n c C i j:Nat} {ns:List Str} {x m f:Str} {p pos apos:Pos} {o e:Expr} {es:List Expr} {fs:List Fe} {fo:Fo}
def z8q (xs:List Str):List T:=xs.map .str
end
end
section
variable [Tbl]
open AutoSeq1 (wpAny_loadPart')
section
variable {X:Cx} {a e o:Expr} {f g:Fe} {p pos apos:Pos}
end
section
variable {X:Cx} {c C i j:Nat} {ns:List Str} {f:Str} {o e:Expr} {g:Fe} {pos apos:Pos}
end
end
section
variable [Tbl]
open AutoSeq1 (wpAny_loadPart')
section
variable {prog:y0q} {w:World} {A:Around} {E:Value->y04->Prop} {s:y04} {T:String} {r d:Addr} {n:Nat} {P:Nat->Value->Prop} {OK:Heap->Prop}
end
section
variable {X:Cx}
variable {c C i j:Nat} {ns:List Str} {f:Str} {o:Expr} {p pos apos bpos cpos:Pos}
end
end
section
variable [Tbl]
open AutoSeq1 (wpAny_loadPart')
section
variable {prog:y0q} {w:World} {A:Around} {E:Value->y04->Prop} {s:y04} {z TI TO i1 i2 l1 l2:Addr} {k n1 n2:Nat} {P1 P2:Nat->Value->Prop} {S1 S2:Nat->Heap->Prop} {a b f1:Value}
end
end
section
variable [Tbl]
open AutoSeq1 (wpAny_loadPart')
section
variable {prog:y0q} {w:World} {A:Around} {E:Value->y04->Prop} {s:y04}
end
end
section
variable [Tbl]
section
variable {prog:y0q} {w:World} {K:Type} [DecidableEq K] {knd:PySem.KeyKind prog w K} {A:Around} {E:Value->y04->Prop} {s:y04} {R:Result->y04->Prop} {z TI TO i1 i2 l1 l2:Addr} {b1 b2:Bool} {xs ys:Array Value}
end
end
section
variable [Tbl]
section
variable {X:Cx} {a b:Expr} {f g:Fe} {p p2 pos pos2:Pos}
variable {c C i j:Nat} {ns:List Str} {fn:Str} {o:Expr} {apos:Pos}
end
end
section
variable [Tbl]
open AutoSeq1 (wpAny_loadPart')
noncomputable def oRep:T->T->Option T
 | .tuple xs,.int k=>if 2<=k/\k<1000/\xs≠[]/\xs.length*k.toNat<=big then some (.tuple (y0g k.toNat xs).flatten) else none
 | .list xs,.int k=>if 0<=k/\k<1000/\xs.length*k.toNat<=big then some (.list (y0g k.toNat xs).flatten) else none
 | _,_=>none
theorem z4b:fillsNumberSlot (.type "tuple") "mul"=pure false :=
 PySem.fillsNumberSlot_seq (id:="tuple.__mul__") (r:=some (.builtin "tuple.__rmul__")) F.slot_tuple_mul.lookup (by decide +kernel) F.slot_tuple_rmul.lookup (by decide +kernel)
theorem z72:seqRepeat? (.type "tuple")=pure (some (.builtin "tuple.__mul__")):=by
 unfold seqRepeat?
 rw[PySem.seqSlot_of (T:="tuple") (name:="__mul__") (id:="tuple.__mul__") F.slot_tuple_mul.lookup (by decide +kernel),PySem.seqSlot_of (T:="tuple") (name:="__rmul__") (id:="tuple.__rmul__") F.slot_tuple_rmul.lookup (by decide +kernel)]
 rfl
theorem z8w (a:Int) (t:Tok) (l:Addr) (its:Array Value) (n:Nat) (dd:Option Addr) (sl:Array (Option Value)):Meets (Builtin.«int.__rmul__» ⟨[.int a t,.ref l],[]⟩) (fun _ R s=>s.heap.get? l=some { cls:=.type "tuple",dict:=dd,data:=.seq its n,slots:=sl }/\R (.ok (.ret Value.notImplemented)) s) :=
 .of_wp fun prog w A R s h=>by
  obtain⟨hp,g,d,tk,os⟩:=s
  obtain⟨hl,h⟩:=h
  wp_walk
  exact⟨_,rfl,h⟩
theorem zix (l:Addr) (its:Array Value) (n:Nat) (dd:Option Addr) (sl:Array (Option Value)) (k:Int) (t:Tok) (h1:2<=k) (h2:k<1000) (hne:its.isEmpty=false) (hz:its.size*k.toNat<=y0j) :
  Meets (Builtin.«tuple.__mul__» ⟨[.ref l,.int k t],[]⟩) (fun _ R s=>s.heap.get? l=some { cls:=.type "tuple",dict:=dd,data:=.seq its n,slots:=sl } /\
   R (.ok (.ret (.ref s.heap.objs.size))) { s with heap:=s.heap.push { cls:=.type "tuple",data:=.seq ((y0g k.toNat its).foldl (·++·) #[]) } }) :=
 .of_wp fun prog w A R s h=>by
  obtain⟨hp,g,d,tk,os⟩:=s
  obtain⟨hl,h⟩:=h
  have c1:¬(decide (k < -(2 ^ 63)) || decide (k >= 2 ^ 63))=true:=by simp;omega
  have c2:¬(its.isEmpty || k == 1)=true:=by simp[hne];omega
  have c3:¬(decide (k<=0) || its.isEmpty)=true:=by simp[hne];omega
  wp_walk using wpAny_loadPart' hl
  have hzk:(its.size:Int)*k=((its.size*k.toNat:Nat):Int):=by
   have:(k.toNat:Int)=k:=Int.toNat_of_nonneg (by omega)
   rw[<- this]
   push_cast
   simp
  have c4:¬((its.size:Int)*k > (2 ^ 63 - 1) / 8):=by
   rw[hzk]
   rw[y2n] at hz
   omega
  have c5:¬Builtin.Tuple.tupleTooMany ((its.size:Int)*k)=true:=by
   unfold Builtin.Tuple.tupleTooMany
   rw[hzk,decide_eq_true_iff]
   omega
  rw[if_neg c1]
  wp_walk using wpAny_loadPart' hl
  rw[if_neg c2,if_neg c3,if_neg c4,if_neg c5]
  unfold y12
  refine y02 (y2r (y06 ⟨_,rfl,h⟩) ?_)
  have e:=foldl_rep its.toList k.toNat []
  rw[List.nil_append] at e
  show (List.foldl _ #[] (y0g k.toNat its)).size<=y0j
  have e':List.foldl (fun x1 x2=>x1++x2) #[] (y0g k.toNat its)=(y0g k.toNat its.toList).flatten.toArray:=by simpa using e
  rw[e',y0h,len_rep,y1y,Nat.mul_comm]
  exact hz
section
variable {X:Cx} {a b:Expr} {f g:Fe} {pos:Pos}
theorem zkz:OpR X (y31 .Mult) (fun x y H Q=>∃a k xs,x=.ref a/\y=.int k/\SqT X.K H a xs/\xs≠[]/\2<=k/\k<1000/\xs.length*k.toNat<=y0j/\∀p,H p=none->Q (.ref p) (upd H p (.tup (y0g k.toNat xs).flatten))):=by
 intro pins s σ H x y v u Q I rx ry h
 obtain⟨l,k,xs,rfl,rfl,hH,hne,h1,h2,hz,q⟩:=h
 cases rx
 obtain⟨t,rfl⟩:=ry
 obtain⟨its,r,pl,_⟩:=I.tuple hH
 have hl:=r.length
 obtain⟨⟨cls,dd,data,sl⟩,ho,hc,n,hd⟩:=id pl
 simp only at hc hd
 subst hc hd
 have hem:its.toArray.isEmpty=false:=by
  cases its with
  | nil =>
   cases xs with
   | nil=>exact absurd rfl hne
   | cons x xs=>simp at hl
  | cons=>rfl
 refine wpAny_binaryOp_repeat_ref (T:="tuple") (U:="int") (by decide) ⟨_,ho,rfl⟩ (fun s'=>typeIs_int s' k t) z4b F.fills_int_mul F.slot_int_rmul z72 F.slot_int_index.lookup
  (y2z F.slot_int_rmul (typeIs_int s k t) F.entry_int_rmul (F.args_int_rmul_2 _ _) (z8w k t l its.toArray n dd sl)
   ⟨ho,rfl,⟨_,ho,rfl⟩,y2z F.slot_tuple_mul ⟨_,ho,rfl⟩ F.entry_tuple_mul (F.args_tuple_mul_2 _ _) (zix l its.toArray n dd sl k t h1 h2 hem (by rw[y0h,<- hl];exact hz)) ⟨ho,?_⟩⟩)
 have e:List.foldl (fun x1 x2=>x1++x2) #[] (y0g k.toNat its.toArray)=(y0g k.toNat its).flatten.toArray:=by simpa using foldl_rep its k.toNat []
 have hz2:(y0g k.toNat xs).flatten.length<=y0j:=by rw[len_rep,Nat.mul_comm];exact hz
 refine⟨.ref s.heap.objs.size,upd H s.heap.objs.size (.tup (y0g k.toNat xs).flatten),I.laid (t':=s.toks) (fun b u e=>y03 _ e) (y0o _) ⟨hz2,_,r.rep k.toNat,⟨_,y0l _ rfl,rfl,0,?_⟩⟩,rfl,q _ I.fresh⟩
 exact congrArg (fun z=>Data.seq z 0) e
theorem zrx:OpR X (y31 .Mult) (fun x y H Q=>∃l k xs,x=.ref l/\y=.int k/\Rd H l (.lst xs)/\0<=k/\k<1000/\xs.length*k.toNat<=y0j/\∀p,H p=none->Q (.ref p) (upd H p (.lst (y0g k.toNat xs).flatten))):=by
 intro pins s σ H x y v u Q I rx ry h
 obtain⟨l,k,xs,rfl,rfl,hH,h1,h2,hz,q⟩:=h
 cases rx
 obtain⟨t,rfl⟩:=ry
 obtain⟨z,its,n,r,hl,e⟩:=Inv.lstR I hH
 have hlen:its.toArray.size*k.toNat<=y0j:=by rw[y0h,<- hl];exact hz
 have hcap:¬its.toArray.size*k.toNat > (2 ^ 63 - 1) / 8:=by
  have:(y0j:Nat)<=(2 ^ 63 - 1) / 8:=by decide
  omega
 have hfit:¬(!Builtin.List.listFitsIndex k)=true:=by rw[fitsIndex_both (by omega) (by omega)];exact y22
 have hlong:¬Builtin.List.listTooLong (its.toArray.size*k.toNat)=true:=by rw[zou hlen];exact y22
 have f0:∀m:Nat,List.foldl (fun x1 x2=>x1++x2) #[] (y0g m its.toArray)=(y0g m its).flatten.toArray:=fun m=>by simpa using foldl_rep its m []
 have hnew:List.foldl (fun x1 x2=>x1++x2) #[] (y0g (if its.toArray.isEmpty=true then 0 else k.toNat) its.toArray)=(y0g k.toNat its).flatten.toArray:=by
  rw[f0]
  cases its with
  | nil=>simp
  | cons a r'=>rw[if_neg (by simp)]
 refine wpAny_binaryOp_repeat_ref (T:="list") (U:="int") (by decide) ⟨_,e,rfl⟩ (fun s'=>typeIs_int s' k t) noFill_list_mul F.fills_int_mul F.slot_int_rmul repeat_list F.slot_int_index.lookup
  (y2z F.slot_int_rmul (typeIs_int s k t) F.entry_int_rmul (F.args_int_rmul_2 _ _) (int___rmul___int_list k t l its.toArray n) ⟨e,rfl,⟨_,e,rfl⟩,y2z F.slot_list_mul ⟨_,e,rfl⟩ F.entry_list_mul (F.args_list_mul_2 _ _) (AutoListH.list___mul___list_int_3 l its.toArray n k t hfit hcap hlong) ⟨e,?_⟩⟩)
 rw[hnew]
 exact⟨.ref _,_,I.lnew (t':=s.toks) (r.rep k.toNat) (by rw[len_rep,Nat.mul_comm];exact hz),rfl,q _ I.fresh⟩
theorem RepL.rep {K:y00} {F:Addr->Prop} {H:Hp} {ts:List T} {vs:List V} (h:RepL K F H ts vs):∀k:Nat,RepL K F H (y0g k ts).flatten (y0g k vs).flatten
 | 0=>RepL.nil
 | k+1=>by
  rw[y1r,y1r,y26,y26]
  exact h.append (RepL.rep h k)
theorem zvu (ha:PEr X a f) (hb:PEr X b g):PEv X (.BinOp a .Mult b pos) (op2 oRep f g):=z0l (zdd (zkz.or zrx) ha hb) (z3m (by
 intro O F H x y t vx vy Q d rx ry e k
 unfold oRep at e
 split at e
 next xs n =>
  split at e
  next hz =>
   cases e
   obtain⟨ax,vs,rfl,hs,hr⟩:=rx.tup
   rw[ry.int]
   refine .inl ⟨ax,_,vs,rfl,rfl,hs,fun z=>?_,hz.1,hz.2.1,by rw[z6f,<- hr.length];exact hz.2.2.2,fun p hp=>?_⟩
   ·subst z
    exact hz.2.2.1 (List.eq_nil_of_length_eq_zero (by rw[hr.length];rfl))
   ·have x1:=Ext.laid (o:=.tup (y0g n.toNat vs).flatten) d hp
    refine k _ F _ x1 ?_
    simp only[Rep]
    exact⟨p,_,rfl,SqT.of z08,(hr.rep _).ext x1⟩
  next=>cases e
 next xs n =>
  split at e
  next hz =>
   cases e
   obtain⟨ax,vs,rfl,hs,hr⟩:=rx.lst
   rw[ry.int]
   refine .inr ⟨ax,_,vs,rfl,rfl,hs,hz.1,hz.2.1,by rw[z6f,<- hr.length];exact hz.2.2,fun p hp=>?_⟩
   have x1:=Ext.laidF (o:=.lst (y0g n.toNat vs).flatten) d hp
   refine k _ _ _ x1 ?_
   simp only[Rep]
   exact⟨p,_,rfl,.inr rfl,.inl z08,(hr.rep _).ext x1⟩
  next=>cases e
 ·cases e))
end
end
section
variable [Tbl]
section
variable {X:Cx} {a b c:Expr} {f g h:Fe} {pos:Pos}
theorem zmt:∀σ H Q,tV X.K (chain oLe oLe f g h) σ H Q->zk2 (fun x y H Q=>rI0 (fun i j=>.bl (decide (i<=j))) x y H Q\/∃i j,x=.str i/\y=.str j/\Q (.bl (!strLt j i)) H) (fun x y H Q=>rI0 (fun i j=>.bl (decide (i<=j))) x y H Q\/∃i j,x=.str i/\y=.str j/\Q (.bl (!strLt j i)) H) (tR X.K f) (tR X.K g) (tR X.K h) σ H Q :=
 fun σ H Q ⟨F₀,H₀,O,F,ε,t,r,e,k⟩=>by
 simp only[chain,y01] at e
 obtain⟨x,ex,y,ey,z,ez,e⟩:=e
 refine⟨F₀,H₀,O,F,ε,x,r,ex,fun vx F1 H1 x1 rx=>⟨F₀,H₀,O,F1,ε,y,r.ext x1,ey,fun vy F2 H2 x2 ry=>?_⟩⟩
 refine zhh (X:=X) O F2 H2 x y z vx vy _ x2.dom (rx.ext x2) ry ez fun v F3 H3 x3 q3=>?_
 split at e
 ·simp only[Rep] at q3
  subst q3
  simp only[y01] at e
  obtain⟨w,ew,ep⟩:=e
  refine⟨true,rfl,iteT ⟨F₀,H₀,O,F3,ε,w,((r.ext x1).ext x2).ext x3,ew,fun vw F4 H4 x4 rw'=>?_⟩⟩
  exact zhh (X:=X) O F4 H4 y w t vy vw _ x4.dom ((ry.ext x3).ext x4) rw' ep fun v F5 H5 x5 q5=>k v F5 H5 ((((x1.trans x2).trans x3).trans x4).trans x5) q5
 ·simp only[Rep] at q3
  subst q3
  cases e
  exact⟨false,rfl,iteF (k _ F3 H3 ((x1.trans x2).trans x3) (by simp[Rep]))⟩
 ·cases e
theorem zjz (ha:PEr X a f) (hb:PEr X b g) (hc:PEr X c h) (hm:lastMarks [.LtE,.LtE] [b,c]=false:=by with_unfolding_all rfl):PTt X (.Compare a [.LtE,.LtE] [b,c] pos) (tstB (chain oLe oLe f g h)) :=
 zf0 (zob (zon.or z77) (zon.or z77) ha hb hc hm) (zvi zmt)
end
section
variable {X:Cx} {c C i j:Nat} {ns:List Str} {f:Str} {o:Expr} {pos apos:Pos}
end
end
section
abbrev t0:Tbl:=⟨[],fun _=>[],fun _=>none⟩
def z05 (ns:List Int):T:=.list (ns.map .int)
def noL (K:y00):Bool:=K.all fun p=>match p.2.cls with
 | .type t=>t != "list"
 | _=>true
theorem z9c {α β:Type} [BEq α] [LawfulBEq α] {a:α} {b:β}:∀{l:List (α×β)},l.lookup a=some b->(a,b)∈l
  | [],h=>by cases h
  | (x,y)::l,h=>by
    rw[y1f] at h
    split at h
    next q =>
      cases h
      have:a=x:=by simpa using q
      subst this
      simp
    next=>exact y05 _ (z9c h)
end
section
section
variable [Tbl]
variable {X:Cx} {e:Expr} {es:List Expr} {fs:List Fe} {p pos:Pos}
end
end
section
variable [Tbl]
open AutoSeq1 (wpAny_loadPart')
theorem ziy (l:Addr) (its:Array Value) (n:Nat) (dd:Option Addr) (sl:Array (Option Value)) (t:Tok) :
  Meets (Builtin.«tuple.__mul__» ⟨[.ref l,.int 1 t],[]⟩) (fun _ R s=>s.heap.get? l=some { cls:=.type "tuple",dict:=dd,data:=.seq its n,slots:=sl }/\R (.ok (.ret (.ref l))) s) :=
 .of_wp fun prog w A R s h=>by
  obtain⟨hp,g,d,tk,os⟩:=s
  obtain⟨hl,h⟩:=h
  have c1:¬(decide ((1:Int) < -(2 ^ 63)) || decide ((1:Int) >= 2 ^ 63))=true:=by decide
  have c2:(its.isEmpty || (1:Int) == 1)=true:=by simp
  wp_walk using wpAny_loadPart' hl
  exact⟨_,rfl,h⟩
section
variable {X:Cx} {a b:Expr} {f g:Fe} {pos:Pos}
theorem zry:OpR X (y31 .Mult) (fun x y H Q=>∃a xs,x=.ref a/\y=.int 1/\SqT X.K H a xs/\Q (.ref a) H):=by
 intro pins s σ H x y v u Q I rx ry h
 obtain⟨l,xs,rfl,rfl,hH,q⟩:=h
 cases rx
 obtain⟨t,rfl⟩:=ry
 obtain⟨its,r,pl,_⟩:=I.tuple hH
 obtain⟨⟨cls,dd,data,sl⟩,ho,hc,n,hd⟩:=id pl
 simp only at hc hd
 subst hc hd
 exact wpAny_binaryOp_repeat_ref (T:="tuple") (U:="int") (by decide) ⟨_,ho,rfl⟩ (fun s'=>typeIs_int s' 1 t) z4b F.fills_int_mul F.slot_int_rmul z72 F.slot_int_index.lookup
  (y2z F.slot_int_rmul (typeIs_int s 1 t) F.entry_int_rmul (F.args_int_rmul_2 _ _) (z8w 1 t l its.toArray n dd sl)
   ⟨ho,rfl,⟨_,ho,rfl⟩,y2z F.slot_tuple_mul ⟨_,ho,rfl⟩ F.entry_tuple_mul (F.args_tuple_mul_2 _ _) (ziy l its.toArray n dd sl t) ⟨ho,.ref l,H,I,rfl,q⟩⟩)
end
end
section
variable [Tbl]
section
variable {X:Cx} {es:List Expr} {k:Nat} {p pos p2:Pos} {a b:Expr} {f g:Fe}
end
end
section
section
variable [Tbl]
variable {X:Cx} {a b:Expr} {f g:Fe} {pos:Pos}
end
end
section
section
variable [Tbl]
variable {X:Cx} {e:Expr} {f:Fe} {pos:Pos}
end
end
section
variable [Tbl]
section
variable {X:Cx} {a b c:Expr} {f g h:Fe} {pos:Pos}
end
section
variable {X:Cx} {pos:Pos}
end
section
variable {X:Cx} {a:Expr} {f:Fe} {p px pos pos2:Pos}
end
end
section
section
variable {X:Cx} {pins:List (Addr×Obj)} {σ:L2.St} {H:Hp} {s:y04} {a:Addr} {d:V} {r:Value} {A:Around} {E:Value->y04->Prop}
end
section
variable {X:Cx} {o e f:Expr} {apos cpos:Pos} {td ty tx:TE}
end
variable [Tbl]
section
variable {X:Cx} {a b:Expr} {f g:Fe} {x:Str} {px apos cpos pos:Pos}
end
section
variable {X:Cx} {a b:Expr} {f g:Fe} {p p2 pos pos2:Pos}
variable {x:Str} {px dpos:Pos}
end
end
section
variable [Tbl]
open PySem.W (kas_ask kas_sort kat_run kat_snds kat_lt kat_kind KatTups KatLex KatGo kas_item KasT)
def hT (x:Str×List T):T:=.tuple (.str x.1::x.2)
section
variable {prog:y0q} {w:World} {A:Around} {s:y04}
end
section
variable {X:Cx}
variable {e:Expr} {es:List Expr} {fs:List Fe} {p pos:Pos}
end
section
variable {X:Cx} {o e:Expr} {f g:Fe} {apos cpos:Pos}
end
section
variable {X:Cx} {a b:Expr} {f g:Fe} {pos:Pos}
def zaf:T->T->Option T
 | .tuple xs,.int k=>if 1<=k/\k<1000/\xs≠[]/\xs.length*k.toNat<=big then some (.tuple (y0g k.toNat xs).flatten) else none
 | _,_=>none
theorem zqb (ha:PEr X a f) (hb:PEr X b g):PEv X (.BinOp a .Mult b pos) (op2 zaf f g):=z0l (zdd (zkz.or zry) ha hb) (z3m (by
 intro O F H x y t vx vy Q d rx ry e k
 unfold zaf at e
 split at e
 next xs n =>
  split at e
  next hz =>
   cases e
   obtain⟨ax,vs,rfl,hs,hr⟩:=rx.tup
   rw[ry.int]
   by_cases h1:n=1
   ·subst h1
    refine .inr ⟨ax,vs,rfl,rfl,hs,?_⟩
    refine k _ F _ (Ext.refl d) ?_
    simp only[Rep]
    have e1:(y0g (1:Int).toNat xs).flatten=xs:=by simp
    rw[e1]
    exact⟨ax,_,rfl,hs,hr⟩
   ·refine .inl ⟨ax,_,vs,rfl,rfl,hs,fun z=>?_,by omega,hz.2.1,by rw[z6f,<- hr.length];exact hz.2.2.2,fun p hp=>?_⟩
    ·subst z
     exact hz.2.2.1 (List.eq_nil_of_length_eq_zero (by rw[hr.length];rfl))
    ·have x1:=Ext.laid (o:=.tup (y0g n.toNat vs).flatten) d hp
     refine k _ F _ x1 ?_
     simp only[Rep]
     exact⟨p,_,rfl,SqT.of z08,(hr.rep _).ext x1⟩
  next=>cases e
 next=>cases e))
end
end
section
section
variable {prog:y0q} {w:World} {A:Around} {E:Value->y04->Prop} {s:y04} {ar:Array Keyed}
def Rz (ar:Array Keyed) (st st':SortSt):Prop:=arrOf st'=arrOf st/\failedOf st'=none/\pendingOf st'=#[(0,ar.size,0)]
end
variable [Tbl]
section
variable {X:Cx}
variable {e:Expr} {es:List Expr} {fs:List Fe} {p pos:Pos}
end
end
section
open AutoSeq1 (wpAny_loadPart')
section
variable {prog:y0q} {w:World} {A:Around} {E:Value->y04->Prop} {s:y04}
end
end
section
variable [Tbl]
section
variable {M:Model} {A:Around} {E:Value->y04->Prop} {s:y04} {env:Env}
end
section
variable {prog:y0q} {w:World} {A:Around} {E:Value->y04->Prop} {s:y04}
end
section
variable {X:Cx} {es:List Expr} {k kc:Nat} {p pos p2 pc pk:Pos} {a:Expr} {f:Fe}
end
section
variable {X:Cx} {e:Expr} {f:Fe} {pos:Pos}
end
end
section
variable [Tbl]
section
variable {X:Cx} {e:Expr} {f:Fe} {te:TE} {pos p p2 p3:Pos}
end
section
variable {X:Cx} {e st:Expr} {te:TE} {tl:TO} {f:Fe} {pos p2:Pos} {lo:Option Expr}
end
end
section
variable [Tbl]
section
variable {X:Cx} {k n c C i:Nat} {ns:List Str} {d:List Sl->Option (T×List Sl)} {x:Str} {p pos:Pos} {o e:Expr} {es:List Expr} {fs:List Fe} {f:Fe}
end
end
section
variable [Tbl]
end
section
theorem zjq {pos:Pos} {c cv:Value} {a b:Int} (l:List Value) (h:TriplesOk l) (e:codeAmong pos (l++[y35 a,y35 b,c])=some cv):codeAmong pos l=some cv\/cv=c:=by
 fun_induction TriplesOk l with
 | case1 =>
  simp only[List.nil_append,codeAmong,y35] at e
  split at e
  ·exact .inr (y2c e).symm
  ·cases e
 | case2 a' t b' u x rest ih =>
  simp only[List.cons_append,codeAmong] at e ⊢
  split at e
  next hc=>rw[if_pos hc];exact .inl e
  next hc=>rw[if_neg hc];exact ih h e
 | case3 _ _ _=>exact h.elim
noncomputable def BM (mg:Str->Option Value) (h:Heap):Prop:=∃bm ob,mg "__builtins__"=some (.ref bm)/\bm≠builtinsNs/\h.get? bm=some ob/\ob.cls=.type "module"/\ob.dict=some builtinsNs/\ob.data=.plain
def lamO (o:Obj) (q:Addr):HO:=.ext fun h=>h.get? q=some o
def codO (c:Addr) (q:Str):HO:=.ext fun h=>h.CodeRec (.ref c) q
variable [Tbl]
theorem zp1 {X:Cx} {pins:List (Addr×Obj)} {σ:L2.St} {H:Hp} {s:y04} {params:Arguments} {body:Expr} {scope:Scope} {lpos:Pos} {c P:Addr} {clos:List (Str×Addr)} {Q:Value->y04->Prop} (I:Inv X pins σ H s)
  (hcode:X.env.code=.ref c) (C:PySem.W.CodeHd X.base c P) (hbm:BM X.mg X.base) (hdef:defaultsOf params X.env=([],[])) (hcl:closureFor scope X.env=pure clos)
  (d:TbS H) (tb:(P,X.env.qual++"<lambda>")∈Tbl.tb) (un:∀p∈Tbl.tb,p.1=P->p.2=X.env.qual++"<lambda>")
  (h:∀(q c':Addr) (ctv:Value) (H':Hp) (s':y04),Inv X pins σ H' s'->z53 H H'->TbS H'->H q=none->H' q=some (lamO (PySem.W.kla_obj "<lambda>" (X.env.qual++"<lambda>") params body scope clos ((X.mg "__name__").getD .none) c' ctv) q) ->
   H' c'=some (codO c' (X.env.qual++"<lambda>"))->Q (.ref q) s') :
  y0u (y33 X.prog X.w) X.A (eval (.Lambda params body scope lpos) X.env) Q X.xe s:=by
 obtain⟨ps,hH,ht,hg⟩:=d _ tb
 have hP:s.heap.get? P=some (PySem.W.tabObj ps):=I.hok P _ hH
 have ns:s.heap.Ns y0n X.mg:=I.ok.mod.glob.keeps I.bk
 obtain⟨bm,ob,b1,b2,b3,b4,b5,b6⟩:=hbm
 have b3':=I.bk _ _ b3
 have hgP:y0n≠P:=fun z=>by
  obtain⟨o,es,ep,e,hd,_⟩:=ns
  rw[z,hP] at e;cases e;cases hd
 have hbP:bm≠P:=fun z=>by
  rw[z,hP] at b3';cases b3';cases b4
 have hbG:bm≠y0n:=fun z=>by
  obtain⟨o,es,ep,e,hd,_⟩:=ns
  rw[z,e] at b3';cases b3';rw[hd] at b6;cases b6
 have hb:s.heap.BuiltinsAt X.mg P:=⟨bm,ob,b1,b2,hbG,hbP,b3',b4,b5,b6⟩
 have C':=C.keeps I.bk
 refine PySem.W.kla_eval hdef ?_
 cases hf:codeAmong lpos ps.toList with
 | some cv =>
  obtain⟨c',rfl,hc'⟩:=hg lpos cv hf
  refine PySem.W.kla_makeFunctionHit hcl I.ok.glob ns hcode C' hP ht hf hb fun ctv h' tk k hsz=>?_
  have fr:H h'.objs.size=none:=I.hok.fresh hsz
  refine h h'.objs.size c' ctv (upd H h'.objs.size (lamO _ h'.objs.size)) _ (I.laid (t':=tk) (fun b u e=>y03 _ (k b u e)) hsz ⟨y0l _ rfl,⟨_,y0l _ rfl⟩,fun h1 h2 e1 e2=>e2 _ e1⟩)
   (fun b o e=>.inl (by rw[z0f (z0r e fr)];exact e)) (d.new fr) fr z08 (by rw[z0f (z0r hc' fr)];exact hc')
 | none =>
  refine PySem.W.kla_makeFunction hcl I.ok.glob ns hcode C' hP ht hf hgP hb fun c' ctv h' tk hx hge hlt hrec htb=>?_
  have frq:H h'.objs.size=none:=I.hok.fresh (y1o hge (Nat.le_of_lt hlt))
  have frc:H c'=none:=I.hok.fresh hge
  have cq:c'≠h'.objs.size:=y0y hlt
  have neC:∀b o,H b=some o->b≠c':=fun b o e=>z0r e frc
  have neQ:∀b o,H b=some o->b≠h'.objs.size:=fun b o e=>z0r e frq
  have Pc:=neC P _ hH
  have Pq:=neQ P _ hH
  let H':Hp:=upd (upd (upd H P (.tbl (ps++#[y35 lpos.line,y35 lpos.col,.ref c']))) c' (codO c' (X.env.qual++"<lambda>"))) h'.objs.size (lamO (PySem.W.kla_obj "<lambda>" (X.env.qual++"<lambda>") params body scope clos ((X.mg "__name__").getD .none) c' ctv) h'.objs.size)
  have eq0:H' h'.objs.size=some (lamO (PySem.W.kla_obj "<lambda>" (X.env.qual++"<lambda>") params body scope clos ((X.mg "__name__").getD .none) c' ctv) h'.objs.size):=z08
  have ec0:H' c'=some (codO c' (X.env.qual++"<lambda>")):=by show upd _ _ _ _=_;rw[z0f cq,z08]
  have eP0:H' P=some (.tbl (ps++#[y35 lpos.line,y35 lpos.col,.ref c'])):=by show upd _ _ _ _=_;rw[z0f Pq,z0f Pc,z08]
  have eO:∀b,b≠P->b≠c'->b≠h'.objs.size->H' b=H b:=fun b n1 n2 n3=>by show upd _ _ _ _=_;rw[z0f n3,z0f n2,z0f n1]
  have eS:∀b o,H b=some o->b≠P->H' b=some o:=fun b o e n=>by rw[eO b n (neC b o e) (neQ b o e)];exact e
  have kp:∀b o,b≠P->s.heap.get? b=some o->(h'.push (PySem.W.kla_obj "<lambda>" (X.env.qual++"<lambda>") params body scope clos ((X.mg "__name__").getD .none) c' ctv)).get? b=some o:=fun b o n e=>y03 _ (hx b o n e)
  have nP:∀b,H b=none->b≠P:=fun b e z=>by rw[z,hH] at e;cases e
  have sm:z53 H H':=fun b o e=>by
   by_cases z:b=P
   ·subst z
    rw[hH] at e;cases e
    exact .inr ⟨_,_,rfl,eP0⟩
   ·exact .inl (eS b o e z)
  refine h h'.objs.size c' ctv H' _ (I.un (t':=tk) ⟨fun b o e n _ _=>kp b o (nP b n) e,fun b o e n _ _=>⟨o.slots,kp b o (nP b n) e⟩,fun b o e n _=>?_,fun b o e _=>?_,fun b xs e=>eS b _ e fun z=>by (rw[z,hH] at e;cases e),fun b o u e=>eS b _ e fun z=>by (rw[z,hH] at e;cases e),fun b qs e=>?_⟩ fun a o e=>?_) sm (fun p hp=>?_) frq eq0 ec0
  ·have lt:=y0c e
   rw[eO b (nP b n) (y0y (y0x lt hge)) (y0y (Nat.lt_trans (y0x lt hge) hlt))]
   exact n
  ·by_cases z:b=P
   ·subst z
    exact⟨_,y03 _ htb⟩
   ·exact⟨o,kp b o z e⟩
  ·by_cases z:b=P
   ·subst z
    rw[hH] at e;cases e
    exact⟨_,eP0⟩
   ·exact⟨#[],by rw[eS b _ e z];simp⟩
  ·by_cases z1:a=h'.objs.size
   ·subst z1
    rw[eq0] at e;cases e
    exact⟨y0l _ rfl,⟨_,y0l _ rfl⟩,fun h1 h2 e1 e2=>e2 _ e1⟩
   by_cases z2:a=c'
   ·subst z2
    rw[ec0] at e;cases e
    refine⟨hrec.at fun o e=>y03 _ e,?_,fun h1 h2 e1 e2=>e1.at e2⟩
    obtain⟨c2,o,vs,t,e2,ho,_⟩:=hrec
    cases e2
    exact⟨o,y03 _ ho⟩
   by_cases z3:a=P
   ·subst z3
    rw[eP0] at e;cases e
    exact y03 _ htb
   ·rw[eO a z3 z2 z1] at e
    refine (I.hok a o e).stay (fun b u hb q=>kp b u ?_ q) (fun b q=>eS b _ q fun z=>by (rw[z,hH] at q;cases q)) fun b xs q=>eS b _ q fun z=>by (rw[z,hH] at q;cases q)
    rcases hb with rfl|hb
    ·exact z3
    ·exact fun z=>by rw[z,hH] at hb;cases hb
  ·by_cases z:p.1=P
   ·have e2:=un p hp z
    obtain⟨p1,p2⟩:=p
    simp only at z e2
    subst z e2
    refine⟨_,eP0,by rw[Array.toList_append];exact TriplesOk_snoc _ _ _ _ ht,fun pos cv e=>?_⟩
    rw[Array.toList_append] at e
    rcases zjq _ ht e with e|e
    ·obtain⟨c2,e1,e2⟩:=hg pos cv e
     exact⟨c2,e1,eS _ _ e2 fun z=>by (rw[z,hH] at e2;cases e2)⟩
    ·exact⟨c',e,ec0⟩
   ·obtain⟨qs,q1,q2,q3⟩:=d p hp
    refine⟨qs,eS _ _ q1 z,q2,fun pos cv e=>?_⟩
    obtain⟨c2,e1,e2⟩:=q3 pos cv e
    exact⟨c2,e1,eS _ _ e2 fun z=>by (rw[z,hH] at e2;cases e2)⟩
end
section
variable [Tbl]
end
section
variable [Tbl]
noncomputable def envL (qual:Str) (scope:Scope) (L q:Addr) (cd:Value) (cl:List (Str×Addr)):Env :=
 { scope:=scope,locals:=L,globals:=y0n,cells:=cl,qual:=qual++".<locals>.",func:=some q,code:=cd,frame:=some L,builtins:=builtinsNs }
noncomputable def cxL (P:y0q) (w:World) (K:y00) (mg:Str->Option Value) (base:Heap) (N:List Str) (qual:Str) (scope:Scope) (q:Addr) (cd:Value) (cl:List (Str×Addr)) (A:Around) (outer:List Env) (s:y04) (H:Hp):Cx where
 prog:=P
 w:=w
 K:=K
 mg:=mg
 base:=base
 A:=A.deeper (envL qual scope s.heap.objs.size q cd cl)
 N:=N
 s₀:=s
 H₀:=H
 env:=envL qual scope s.heap.objs.size q cd cl
 outer:=outer
 stack:=envL qual scope s.heap.objs.size q cd cl::outer
 ex:=[]
 calm:=true
 fn:=fun _=>false
 pn:=[]
 xe:=fun _ _=>False
structure Caps (N:List Str) (scope:Scope) (cl:List (Str×Addr)) (σ:L2.St) (H:Hp) (h:Heap):Prop where
 inj:∀x y c,cl.lookup x=some c->cl.lookup y=some c->x=y
 has:∀x,(scope.names.lookup x=some .cell\/scope.names.lookup x=some .free)->∃c,cl.lookup x=some c
 cel:∀x c,cl.lookup x=some c->(∃v,h.IsCell c v)/\H c=none
 len:σ.length=N.length
 val:∀(i:Nat) (x:Str) (v:V),N[i]?=some x->σ[i]?=some (some v)->Vis scope x->∃u c,RelV v u/\scope.names.lookup x=some .free/\cl.lookup x=some c/\h.IsCell c (some u)
theorem z9i {h h':Heap} {c:Addr} {v:Option Value} (x:h.IsCell c v) (k:∀b o,h.get? b=some o->h'.get? b=some o):h'.IsCell c v:=by
 obtain⟨o,ho,hd⟩:=x
 exact⟨o,k _ _ ho,hd⟩
section
variable {P:y0q} {w:World} {K:y00} {mg:Str->Option Value} {base:Heap} {k:Nat} {q c':Addr} {N:List Str} {qual:Str} {scope:Scope} {cd:Value} {cl:List (Str×Addr)} {A:Around} {outer:List Env} {s:y04} {H:Hp} {σ:L2.St}
theorem zb5 {h1:Heap} {tk:Nat} {m:Str->Option Value} (hk:scope.kind=.function) (hd:A.handled=none) (e0:Env0 P w K mg base A outer s H) (C:Caps N scope cl σ H s.heap) (hns:h1.Ns s.heap.objs.size m) (kp:∀b o,s.heap.get? b=some o->h1.get? b=some o) :
  Inv (cxL P w K mg base N qual scope q cd cl A outer s H) [] σ H { s with heap:=h1,toks:=tk }:=by
 have noA:∀b:Addr,b∉(cxL P w K mg base N qual scope q cd cl A outer s H).ex:=fun b z=>absurd (show b∈([]:List Addr) from z) (by simp)
 refine⟨⟨e0.mod,hk,rfl,rfl,y0o _,C.inj,C.has,fun y c hf _=>(by cases hf),fun _=>hd,Around.frames_deeper e0.frames,.inr ⟨rfl,rfl⟩,fun b z=>absurd z (noA b),e0.bs,e0.bsz,fun b _ _=>noA b,fun b z=>absurd z (noA b),e0.funs,e0.frf⟩,
  rfl,e0.bare,Un.kept kp,⟨m,hns,fun i y v h1 h2 h3=>?_⟩,fun y c h=>?_,e0.hok.fresh (y0o _),fun y c h=>(C.cel y c h).2,fun p hp=>absurd (show p∈([]:List (Addr×Obj)) from hp) (by simp),e0.hok.kept kp,C.len⟩
 ·obtain⟨u,c,ru,hf,hc,hx⟩:=C.val i y v h1 h2 h3
  exact⟨u,ru,.inr ⟨.inr hf,c,hc,z9i hx kp⟩⟩
 ·obtain⟨⟨v,hv⟩,_⟩:=C.cel y c h
  exact⟨v,z9i hv kp⟩
end
end
section
variable [Tbl]
theorem zhp {P:y0q} {w:World} {K:y00} {mg:Str->Option Value} {base:Heap} {k:Nat} {x qual:Str} {st:Stmt} {f:Addr} {fd:y0b} {N ps:List Str} {A:Around} {outer:List Env} {s:y04} {H:Hp} {us:List Value} {vs:List V} {Q:VK} {E:XK}
  (F:Fun K x qual st f fd) (S:FnScope N ps (z02 st)) (bd:Binds K fd ps []) (hr:Room (k+1) A) (e0:Env0 P w K mg base A outer s H) (r:Vals vs us) (hl:vs.length=ps.length)
  (hbody:∀cdv:Value,Room k (A.deeper (envOfC qual (z02 st) s.heap.objs.size f cdv))->∃t,PSs (cxOf CX0 P w K mg base N qual (z02 st) f cdv A outer s H E).nox (z0d st) t/\t { nx:=fun _ H'=>Q .non H',rt:=Q } (start N vs) H) :
  y2x (y33 P w) A (.call (.ref f) ⟨us,[]⟩) (CR CX0 outer P w H s Q E) s:=by
 obtain⟨oc,od,kV,doc,pm,an,cdv,ct,osl,rfl,lk,hcd⟩:=F.ex
 have hul:us.length=ps.length:=by rw[<- r.length];exact hl
 have KX:K.In s.heap:=e0.mod.kin.keeps fun b o e=>(e0.bs b o e).1
 have lim:s.heap.NoLimit:=e0.mod.nolimit.keeps fun b o e=>(e0.bs b o e).1
 have hb:=bd s us KX (by rw[y1x];exact hul)
 rw[y1x] at hb
 have hkind:∀y∈ps.zip us,(z02 st).names.lookup y.1=some .local\/((z02 st).names.lookup y.1=some .cell/\((cellsFrom (s.heap.objs.size+1) (z02 st).names []).lookup y.1).isSome=true):=fun⟨n,v⟩ hy=>by
  rcases S.par n (List.of_mem_zip hy).1 with q|q
  ·exact .inl q
  ·exact .inr ⟨q,PySem.W.cellsFrom_some _ _ _ (.inl q)⟩
 refine codeAny_call_function hr.depth (KX _ _ lk) rfl S.co S.gen rfl (PySem.W.codeRec_of KX hcd) (hb _ _ _ _ ?_)
 refine wpAny_newFunctionEnv_cells S.kind hkind fun env he s1 x=>?_
 subst he
 refine⟨lim.keeps x.toInCall.keep,codeAny_func ?_⟩
 obtain⟨t,ht,hq⟩:=hbody cdv (hr.deeper _)
 have I:Inv (cxOf CX0 P w K mg base N qual (z02 st) f cdv A outer s H E) [] (start N vs) H s1:=ze5 S hr.hd e0 hl r x
 refine y1d (ht.nox [] s1 (start N vs) H _ I hq) (fun fl s' hs=>?_) fun e s' hs=>hs
 have fin:∀{σ':L2.St} {H':Hp} {v:V} {u:Value},Inv (cxOf CX0 P w K mg base N qual (z02 st) f cdv A outer s H E) [] σ' H' s'->RelV v u->Q v H'->CE outer P w H s Q u s' :=
  fun {σ' H' v u} J rv q=>⟨v,H',J.os,J.bare,J.base,J.hok,rv,q⟩
 cases fl with
 | ret u =>
  obtain⟨v,σ',H',J,rv,q⟩:=hs
  exact fin J rv q
 | next =>
  obtain⟨σ',H',J,q⟩:=hs
  exact fin (v:=V.non) (u:=Value.none) J rfl q
 | brk =>
  obtain⟨_,_,_,q⟩:=hs
  exact y1w q
 | cont =>
  obtain⟨_,_,_,q⟩:=hs
  exact y1w q
noncomputable def zt8 (X:Cx) (i:Nat):TE:=fun σ H Q=>∃q,σ[i]?=some (some (.ref q))/\(∃(o:Obj) (fd:y0b),H q=some (lamO o q)/\o.data=.func fd) /\
 ∀(pins:List (Addr×Obj)) (s:y04),Inv X pins σ H s->y2x (y33 X.prog X.w) X.A (.call (.ref q) ⟨[],[]⟩) (CR CX0 X.stack X.prog X.w H s Q E0) s
theorem zrq {X:Cx} {i:Nat} {x:Str} {p pos:Pos} (hn:PE X (.Name x p) (tVar i)):PE X (.Call (.Name x p) [] [] pos) (zt8 X i):=by
 intro pins s σ H Q I ⟨q,hq,⟨o,fd,ho,hfd⟩,hc⟩
 refine y2k (thn (hn pins s σ H (fun v H1=>v=.ref q/\H1=H) I ⟨.ref q,hq,rfl,rfl⟩) fun v s1 ⟨y,H1,I1,ry,ey,eh⟩=>?_)
 subst ey
 subst eh
 cases ry
 have fa:PySem.W.FnAt q s1.heap:=by
  have h1:s1.heap.get? q=some o:=(I1.hok q _ ho).1
  obtain⟨c,dct,dt,sl⟩:=o
  cases hfd
  exact⟨_,_,_,_,h1⟩
 refine PySem.W.callWith_F0 fa ?_
 refine y30 (y2s (hc pins s1 I1) fun r s' hq=>?_)
 cases r with
 | error e=>exact y1w hq
 | ok fl =>
  cases fl with
  | ret u=>exact I1.after hq
  | next=>exact y1w hq
  | brk=>exact y1w hq
  | cont=>exact y1w hq
end
section
variable [Tbl]
theorem zu0 {X:Cx} {body:List Stmt} {h₀:ExceptHandler} {hs:List ExceptHandler} {pos:Pos} {t:TS} (hb:PSs X body t) (hx:X.xe=fun _ _=>False:=by rfl):PS X (.Try body (h₀::hs) [] [] pos) t:=by
 intro pins s σ H D I h
 refine wpAny_Try_except (y1d (hb pins s σ H D I h) (fun f s1 hs=>?_) fun e s1 he=>?_)
 ·cases f with
  | next=>exact wpAny_execs_nil hs
  | ret u=>exact hs
  | brk=>exact hs
  | cont=>exact hs
 ·rw[hx] at he
  exact he.elim
theorem zm0 {fs ex:List Addr} {H H':Hp} {h h':Heap} {c:Addr} {v:Option Value} (u:Un fs ex H H' h h') (x:h.IsCell c v) (hc:H c=none) (he:c∉ex):h'.IsCell c v:=by
 obtain⟨o,ho,hd⟩:=x
 by_cases hf:c∈fs
 ·obtain⟨sl,e⟩:=u.slot c o ho hc hf he
  exact⟨_,e,hd⟩
 ·exact⟨o,u.keep c o ho hc hf he,hd⟩
theorem zsv {X:Cx} {pins:List (Addr×Obj)} {σ:L2.St} {H:Hp} {s:y04} {scope:Scope} (I:Inv X pins σ H s) (hnc:∀x∈scope.names,x.2≠.cell/\x.2≠.local) (hfr:∀x∈scope.names,x.2=.free->X.env.scope.names.lookup x.1=some .cell) :
  Caps X.N scope (clos X.env scope.names []) σ H s.heap:=by
 have hl:∀x∈scope.names,x.2=.free->∃c,X.env.cells.lookup x.1=some c:=fun x hx hf=>I.ok.has x.1 (.inl (hfr x hx hf))
 have fr:∀x c,(clos X.env scope.names []).lookup x=some c->X.env.cells.lookup x=some c:=z5m hl fun x c e=>by cases e
 refine⟨fun x y c h1 h2=>I.ok.inj x y c (fr x c h1) (fr y c h2),fun x h=>?_,fun x c h=>⟨I.cell x c (fr x c h),I.freeC x c (fr x c h)⟩,I.len,fun i x v h1 h2 h3=>?_⟩
 ·rcases h with h|h
  ·obtain⟨y,hy,e1,e2⟩:=mem_lookup h
   exact absurd e1 (hnc y hy).1
  ·obtain⟨y,hy,e1,e2⟩:=mem_lookup h
   exact z60 (.inl ⟨y,hy,e1,e2⟩)
 ·have hf:scope.names.lookup x=some .free:=by
   rcases h3 with h|h|h
   ·obtain⟨y,hy,e1,_⟩:=mem_lookup h
    exact absurd e1 (hnc y hy).2
   ·obtain⟨y,hy,e1,_⟩:=mem_lookup h
    exact absurd e1 (hnc y hy).1
   ·exact h
  obtain⟨y,hy,e1,e2⟩:=mem_lookup hf
  have hk:X.env.scope.names.lookup x=some .cell:=by rw[<- e2];exact hfr y hy e1
  obtain⟨m,_,hv⟩:=I.loc
  obtain⟨u,ru,lk⟩:=hv i x v h1 h2 (.inr (.inl hk))
  obtain⟨c,hc⟩:=z60 (env:=X.env) (l:=scope.names) (cs:=[]) (x:=x) (.inl ⟨y,hy,e1,e2⟩)
  refine⟨u,c,ru,hf,hc,?_⟩
  rcases lk with ⟨hk2,_⟩|⟨_,c2,hc2,hx⟩
  ·have:X.env.scope.names.lookup x=some .local:=hk2
   rw[hk] at this
   cases this
  ·rw[fr x c hc] at hc2
   cases hc2
   exact hx
def zt6 (Y:Cx):TS:=tSeq (tAsg (tTup (z49 (tC (.str "told")) (z49 (zt8 Y 0) tNil))) (ze9 1)) (tRet (tVar 1))
end
section
def zq0 (ts:List Addr) (H:Hp):Prop:=(∀b,H b=none\/(∃o xs,H b=some (.frz o (.lst xs)))\/(b∈ts/\H b=some (.tbl #[])))/\∀b∈ts,H b=some (.tbl #[])
theorem zlo {P:y0q} {w:World} {K:y00} {mg mb:Str->Option Value} {CX:CXT} {k:Nat} {fa a:Addr} {fd:y0b} {x:Str} {sp:Sp} {s₁:y04} {vs:List Value} {ns:List Int} {ts:List Addr}
  (KX:K.In s₁.heap) (hts:∀b∈ts,s₁.heap.get? b=some (PySem.W.tabObj #[])) (hK0:∀b∈ts,K.lookup b=none) (hcd:∀b∈ts,∃c,y37 K c b=true)
  (hns:s₁.heap.Ns y0n mg) (hb:s₁.heap.Ns builtinsNs mb) (hbb:∀x:Str,x≠"__name__"->mb x=bootBuiltins x) (hlim:s₁.heap.NoLimit) (hg:s₁.gens=#[])
  (ha:s₁.heap.get? a=some { cls:=.type "list",data:=.seq vs.toArray }) (hi:IntsAre vs ns) (hl:ns.length<=y0j) (hr:Room k callerA)
  (hbm:BM mg s₁.heap) (F:∀base:Heap,K.In base->base.Ns y0n mg->BM mg base->FnOk P w K mg base CX k fa fd [x] sp) (hbind:∀(s:y04) (u:Value),BindsTo s fd ⟨[u],[]⟩ [(x,u)])
  (hsp:∀H:Hp,zq0 ts H->SqL K H a (ns.map V.int)->sp [.ref a] H (fun v _=>v=.bl true) fun _ _ _=>False)
  (hCX:∀H e s',CX [] H s₁ (fun _ _ _=>False) e s'->False) :
  y2x (y33 P w) callerA (.call (.ref fa) ⟨[.ref a],[]⟩) (fun r s'=>r=.ok (.ret (.bool true))/\OldK s₁.heap s'.heap/\s'.os=s₁.os/\AllBare s'.gens) s₁:=by
 have rv:=zcj hi
 have lenV:=hi.length
 have nat:a∉ts:=fun z=>by
  have:=hts a z
  rw[ha] at this
  cases this
 have core:∀H:Hp,zq0 ts H->SqL K H a (ns.map V.int)->HOk P w H s₁.heap->(∀b,H b≠none->b=a\/b∈ts)->(H a≠none->K.lookup a=none) ->
   y2x (y33 P w) callerA (.call (.ref fa) ⟨[.ref a],[]⟩) (fun r s'=>r=.ok (.ret (.bool true))/\OldK s₁.heap s'.heap/\s'.os=s₁.os/\AllBare s'.gens) s₁:=by
  intro H hO hS hok hA hK
  have base_of:∀{b:Addr} {o:Obj},s₁.heap.get? b=some o->H b=none->(hidT s₁.heap H).get? b=some o:=fun e n=>zpb e n
  have noA:∀{b:Addr} {o:Obj} {es:Array DictEntry} {ep:Nat},s₁.heap.get? b=some o->o.data=.dict es ep->H b=none:=fun {b o es ep} e d=>by
   cases q:H b with
   | none=>rfl
   | some u =>
    rcases hA b (by rw[q];simp) with e'|e'
    ·subst e'
     rw[ha] at e;cases e
     have d':Data.seq vs.toArray _=Data.dict es ep:=d
     cases d'
    ·rw[hts b e'] at e;cases e
     have d':Data.fields _=Data.dict es ep:=d
     cases d'
  have nsK:∀{b:Addr} {m:Str->Option Value},s₁.heap.Ns b m->(hidT s₁.heap H).Ns b m:=fun {b m} ⟨o,es,ep,e,d,r⟩=>⟨o,es,ep,base_of e (noA e d),d,r⟩
  have hKb:K.In (hidT s₁.heap H):=fun b o e=>base_of (KX b o e) (by
   cases q:H b with
   | none=>rfl
   | some u =>
    rcases hA b (by rw[q];simp) with e'|e'
    ·subst e'
     rw[hK (by rw[q];simp)] at e;cases e
    ·rw[hK0 b e'] at e;cases e)
  have hbm':BM mg (hidT s₁.heap H):=by
   obtain⟨bm,ob,b1,b2,b3,b4,b5,b6⟩:=hbm
   refine⟨bm,ob,b1,b2,base_of b3 ?_,b4,b5,b6⟩
   cases q:H bm with
   | none=>rfl
   | some u =>
    rcases hA bm (by rw[q];simp) with e'|e'
    ·subst e'
     rw[ha] at b3
     cases b3
     cases b6
    ·rw[hts bm e'] at b3
     cases b3
     cases b6
  have hM:Mod K mg (hidT s₁.heap H):=⟨hKb,nsK hns,⟨mb,nsK hb,hbb⟩,let ⟨mc,h1,h2⟩:=hlim;⟨mc,nsK h1,h2⟩⟩
  have e0:Env0 P w K mg (hidT s₁.heap H) callerA [] s₁ H:=⟨rfl,hM,fun b o e=>zs4 e,Nat.le_of_eq (zm9 _ _),trivial,fun b hb=>absurd (show b∈([]:List Addr) from hb) (by simp),hok,.of_eq hg⟩
  refine y2s ((F _ hKb (nsK hns) hbm').run callerA [] s₁ H ⟨[.ref a],[]⟩ [.ref a] [.ref a] _ _ hr e0 (hbind s₁ (.ref a)) (.cons rfl .nil) (hsp H hO hS)) fun r s' h=>?_
  cases r with
  | error e=>exact (hCX H e s' h).elim
  | ok fl =>
   cases fl with
   | next=>exact y1w h
   | brk=>exact y1w h
   | cont=>exact y1w h
   | ret u =>
    obtain⟨v,H',os,bare,un,hok',r',q⟩:=h
    have q':v=.bl true:=q
    subst q'
    obtain rfl:u=Value.bool true:=r'
    refine⟨rfl,⟨fun b o e=>?_,fun b o e=>un.there b o e (by simp)⟩,os,bare⟩
    cases q:H b with
    | none=>exact .inl (un.keep b o e q (by intro z;exact absurd (show b∈([]:List Addr) from z) (by simp)) (by simp))
    | some u =>
     rcases hO.1 b with z|⟨ob,xs,z⟩|⟨hbt,z⟩
     ·rw[q] at z;cases z
     ·have z2:=un.frzs b ob _ z
      obtain⟨e1,_⟩:=hok b _ z
      obtain⟨e2,_⟩:=hok' b _ z2
      rw[e] at e1;cases e1
      exact .inl e2
     ·obtain⟨more,z2⟩:=un.tbls b _ z
      have e2:s'.heap.get? b=some (PySem.W.tabObj (#[]++more)):=hok' b _ z2
      have e1:=hts b hbt
      rw[e] at e1
      cases e1
      obtain⟨c,hc⟩:=hcd b hbt
      exact .inr (.inl ⟨((PySem.W.codeHd_of_K KX hc).tab e).isCodeTable,rfl,#[],more,rfl,e2⟩)
 cases hk:K.lookup a with
 | some o =>
  have e:=KX a o hk
  rw[ha] at e
  cases e
  refine core (fun b=>if b∈ts then some (.tbl #[]) else none) ⟨fun b=>?_,fun b hb=>if_pos hb⟩ (.inr ⟨_,vs.toArray,_,hk,rfl,rfl,rfl,by rw[y0h,lenV];exact hl,by simpa using rv⟩) (fun b u z=>?_) (fun b z=>?_) fun z=>?_
  ·by_cases hb:b∈ts
   ·exact .inr (.inr ⟨hb,if_pos hb⟩)
   ·exact .inl (if_neg hb)
  ·by_cases hb:b∈ts
   ·have z':=(if_pos hb).symm.trans z
    cases z'
    exact hts b hb
   ·have z':=(if_neg hb).symm.trans z
    cases z'
  ·by_cases hb:b∈ts
   ·exact .inr hb
   ·exact absurd (if_neg hb) z
  ·exact absurd (if_neg nat) z
 | none =>
  refine core (fun b=>if b=a then some (.frz { cls:=.type "list",data:=.seq vs.toArray } (.lst (ns.map V.int))) else if b∈ts then some (.tbl #[]) else none) ⟨fun b=>?_,fun b hb=>?_⟩ (.inl (.inr ⟨{ cls:=.type "list",data:=.seq vs.toArray },if_pos rfl⟩)) (fun b u z=>?_) (fun b z=>?_) fun _=>hk
  ·by_cases hb:b=a
   ·exact .inr (.inl ⟨_,_,if_pos hb⟩)
   ·by_cases hb2:b∈ts
    ·exact .inr (.inr ⟨hb2,(if_neg hb).trans (if_pos hb2)⟩)
    ·exact .inl ((if_neg hb).trans (if_neg hb2))
  ·have ne:b≠a:=fun z=>nat (z▸hb)
   exact (if_neg ne).trans (if_pos hb)
  ·by_cases hb:b=a
   ·have z':=(if_pos hb).symm.trans z
    cases z'
    subst hb
    exact⟨ha,by rw[y13];exact hl,vs,_,rv,ha⟩
   ·by_cases hb2:b∈ts
    ·have z':=((if_neg hb).trans (if_pos hb2)).symm.trans z
     cases z'
     exact hts b hb2
    ·have z':=((if_neg hb).trans (if_neg hb2)).symm.trans z
     cases z'
  ·by_cases hb:b=a
   ·exact .inl hb
   ·by_cases hb2:b∈ts
    ·exact .inr hb2
    ·exact absurd ((if_neg hb).trans (if_neg hb2)) z
theorem znj {l:PySem.W.OpenLaw} {n k:Nat} {q:y0q} {loose:List Str} {XP:(Str->Option Value)->Heap->Prop} {YP:World->Heap->Prop} {d:DefRec} {K:Params->y00} {CX:World->CXT} {sp:World->Sp} {x:Str} {ts:List Addr}
  (hn:l.most=some n) (hn2:n<=y0j) (hdf:d.params.defaults=[]) (hr:Room k callerA)
  (hY:∀(w:World) (h:Heap),YP w h->(K w.params).In h) (hT:∀(w:World) (h:Heap),YP w h->∀b∈ts,h.get? b=some (PySem.W.tabObj #[]))
  (hK0:∀(w:World),∀b∈ts,(K w.params).lookup b=none) (hcd:∀(w:World),∀b∈ts,∃c,y37 (K w.params) c b=true)
  (F:∀(w:World) (mg:Str->Option Value) (fa:Addr) (h:Heap),(K w.params).In h->h.Ns y0n mg->mg d.name=some (.ref fa) ->
   ∃fd:y0b,(∀(s:y04) (u:Value),BindsTo s fd ⟨[u],[]⟩ [(x,u)]) /\
    ∀base:Heap,(K w.params).In base->base.Ns y0n mg->BM mg base->FnOk l.prog w (K w.params) mg base (CX w) k fa fd [x] (sp w))
  (hsp:∀(w:World) (H:Hp) (a:Addr) (ns:List Int),ns.length<=n->zq0 ts H->SqL (K w.params) H a (ns.map V.int)->sp w [.ref a] H (fun v _=>v=.bl true) fun _ _ _=>False)
  (hCX:∀(w:World) (H:Hp) (s:y04) (e:Value) (s':y04),CX w [] H s (fun _ _ _=>False) e s'->False) :
  PySem.W.WalkO q loose XP YP l.row.toRowW d [] (fun f vs=>PySem.call f vs):=by
 refine Att.attach_call hn hdf fun w s₀ s₁ mg mb fa o pm cd doc a vs ns G Y ho hd hcd' hmg hobj hints hlen hg=>?_
 have KX:=hY w _ Y
 obtain⟨fd,hb,hF⟩:=F w mg fa _ KX G.T.g hmg
 exact zlo KX (hT w _ Y) (hK0 w) (hcd w) G.T.g G.T.b G.T.builtins G.T.nolimit hg hobj hints (y1o hlen hn2) hr G.T.bmain hF hb (fun H hO hS=>hsp w H a ns hlen hO hS) fun H e s'=>hCX w H s₁ e s'
theorem zk9 {t:Tbl} {K:y00} {H:Hp} {a:Addr} {ns:List Int} {d:List T->Option T} {ts:List Addr} (hts:∀p∈t.tb,p.1∈ts) (hO:zq0 ts H) (hL:noL K=true) (hd:d [z05 ns]=some (.bool true)) (hS:SqL K H a (ns.map V.int)):spT K 1 d [.ref a] H (fun v _=>v=.bl true) fun _ _ _=>False:=by
 rcases hS with hS|⟨o,its,n,hk,hc,_⟩
 ·refine⟨rfl,fun b=>b=a,[z05 ns],.bool true,⟨?_,fun p hp=>⟨#[],hO.2 p.1 (hts p hp),trivial,fun pos cv e=>by cases e⟩⟩,RepL.cons ?_ RepL.nil,hd,fun v F' H' x r=>by simpa [Rep] using r⟩
  ·rintro b rfl
   rcases hS with q|⟨u,q⟩
   ·exact⟨_,q⟩
   ·exact⟨_,q⟩
  ·simp only[z05,Rep]
   exact⟨a,_,rfl,rfl,hS,z73 ns⟩
 ·have:=List.all_eq_true.mp hL _ (z9c hk)
  simp[hc] at this
end
section
variable [Tbl]
abbrev Ftx:=Ev->Option (Bool×Ev)
section
variable {X:Cx} {a b e:Expr} {es:List Expr} {f g:Fx} {fe:Fe} {ft:Ft} {c d:Ftx} {pos:Pos}
end
end
section
variable [Tbl]
section
variable {X:Cx} {a b:Expr} {f g:Fo} {pos:Pos}
end
end
section
variable [Tbl]
theorem zsh {P:y0q} {w:World} {K:y00} {mg:Str->Option Value} {base:Heap} {x qual:Str} {st:Stmt} {f:Addr} {oc:Value} {od an:Option Addr} {osl:Array (Option Value)} {kV doc pm cdv ct:Value} {N ps:List Str} {k:Nat} {b:Fs}
  (l:K.lookup f=some ⟨oc,od,.func (y0i x qual (z0k st) (z0d st) (z02 st) .none kV doc pm an cdv ct),osl⟩) (hcd:y0f K cdv qual=true) (S:FnScope N ps (z02 st))
  (hb:∀(A:Around) (outer:List Env) (s:y04) (H:Hp) (E:XK),Room k (A.deeper (envOfC qual (z02 st) s.heap.objs.size f cdv)) ->
   PBt (cxOf CX0 P w K mg base N qual (z02 st) f cdv A outer s H E).nox (z0d st) b) :
  FnOk P w K mg base CX0 (k+1) f (y0i x qual (z0k st) (z0d st) (z02 st) .none kV doc pm an cdv ct) ps (spT K ps.length (runF b N.length)):=by
 refine zsi l hcd S (fun vs H Q E h=>h.1) fun A outer s H vs Q E hr h=>⟨_,(hb A outer s H E hr).nox,?_⟩
 obtain⟨hl,F,ts,t,dom,q,e,kq⟩:=h
 simp only[runF,y01] at e
 obtain⟨o,eo,e⟩:=e
 refine⟨F,⟨H,0⟩,fun a=>H a=none,F,_,o,?_,eo,?_⟩
 ·have:=zav (N:=N) dom q (N.length - ts.length)
  unfold L2.start
  rw[q.length] at this ⊢
  exact this
 ·cases o with
  | rt t' =>
   cases e
   exact fun v F' H' x q=>kq v F' H' x q
  | nx ε' =>
   cases e
   exact fun σ' F' H' _ r=>kq _ F' H' r.ent (by simp[Rep])
  | bk _=>cases e
  | ct _=>cases e
  | rtm _ _=>cases e
  | rto _=>cases e
end
section
abbrev tOf (tb:List (Addr×Str)):Tbl:=⟨tb,fun _=>[],fun _=>none⟩
theorem zsj {t:Tbl} {tb:List (Addr×Str)} (ht:t.tb=tb) {P:y0q} {w:World} {K:y00} {mg:Str->Option Value} {base:Heap} {k n:Nat} {f:Addr} {fd:y0b} {ps:List Str} {d:List T->Option T} (F:FnOk P w K mg base CX0 k f fd ps (@spT t K n d)):FnOk P w K mg base CX0 k f fd ps (@spT (tOf tb) K n d):=by
 subst ht
 have d1:∀{F:Addr->Prop} {H:Hp},@Dom (tOf t.tb) F H->@Dom t F H:=fun {F H} h=>@Dom.mk t F H (@Dom.dm (tOf t.tb) F H h) (@Dom.tgs (tOf t.tb) F H h)
 have d2:∀{F:Addr->Prop} {H:Hp},@Dom t F H->@Dom (tOf t.tb) F H:=fun {F H} h=>@Dom.mk (tOf t.tb) F H (@Dom.dm t F H h) (@Dom.tgs t F H h)
 refine F.imp fun vs H Q E h=>?_
 obtain⟨hl,F,ts,r,dom,q,e,kq⟩:=h
 exact⟨hl,F,ts,r,d1 dom,q,e,fun v F' H' x rv=>kq v F' H' (@Ext.mk (tOf t.tb) F H F' H' (@Ext.same t F H F' H' x) (@Ext.sub t F H F' H' x) (@Ext.new t F H F' H' x) (d2 (@Ext.dom t F H F' H' x))) rv⟩
end
end D
end
section
namespace D
open PySem PySem.Spec PySem.Calls PySem.W PyProof.Rows PySem.Builtin PySem.Builtin.ObjectAttr PySem.Builtin.Getset_descriptor
def ExcAt (x C:Addr) (h:Heap):Prop:=∃o vs,h.get? x=some o/\o.cls=.ref C/\o.data=.fields vs
structure ExcOk (K:Frag) (C:Addr):Prop where
 cl:(clsIn K C).isSome=true
 ga:findIn K (.ref C) "__getattribute__"=some (some (.builtin "BaseException.__getattribute__"))
 gn:findIn K (.ref C) "__getattr__"=some none
 at_:findIn K (.ref C) "__class__"=some (some (.builtin "object.__class__"))
 sp:specialIn K (.builtin "object.__class__") "__get__"=some (some (.builtin "getset_descriptor.__get__"))
 tk:takesIn K (.builtin "object.__class__")=some true
 mo:mroIn K C (.type "object")=some true
 mb:mroIn K C (.type "BaseException")=some true
section
variable {prog:y0q} {w:World} {A:Around} {E:Value->y04->Prop} {s:y04} {K:Frag} {x C:Addr} {R:Result->y04->Prop}
theorem ExcAt.type {M:Model} {h:Heap} (I:ExcAt x C h):Looks M h (typeOf (.ref x)) (.ref C):=by
 obtain⟨o,vs,h1,h2,h3⟩:=I
 exact h2▸(Looks.ld h1).andThen .now
theorem zsk {tp:Value} (X:K.In s.heap) (I:ExcAt x C s.heap) (hm:mroIn K C (.type "object")=some true)
  (h:R (.ok (.ret (.ref C))) s):y2x (y33 prog w) A (.call (.builtin "getset_descriptor.__get__") ⟨[.builtin "object.__class__",.ref x,tp],[]⟩) R s:=by
 obtain⟨hh,g,dr,t,os⟩:=s
 have L0:=I.type (M:=y33 prog w)
 have L1:=looks_mroIn (M:=y33 prog w) X hm
 refine codeAny_call_builtin KF.slot_gs.plain KF.entry_gs (KF.slot_gs.check _ _ _ _ _ _ _ _ KF.type_class (KF.args_gs _ _ _) ?_)
 unfold Builtin.«getset_descriptor.__get__» descrGet
 rw[dga_obj]
 refine y02 (y06 ?_)
 unfold descrGetter descrCheckInstance descrNameAndClass isInstance
 simp only[KF.owner_class]
 obtain⟨o,vs,h1,h2,h3⟩:=I
 repeat lk
 refine⟨Code.quiet_builtin _ (by decide +kernel),y2q KF.entry_class ?_⟩
 unfold Builtin.«object.__class__» shownTypeOf
 repeat lk
 exact h
theorem zpj {M:Model} {h:Heap} (X:K.In h) (O:ExcOk K C):Looks M h (find (.ref x) (.ref C) "__class__") (.bind (.builtin "getset_descriptor.__get__") (.builtin "object.__class__")):=by
 have L1:=looks_findIn (M:=M) X O.at_
 have L2:Looks M h (getOf (some (.builtin "object.__class__"))) (some (.builtin "getset_descriptor.__get__")):=looks_specialIn X O.sp
 have L3:=looks_takesIn (M:=M) X O.tk
 refine L1.andThen (L2.andThen ?_)
 exact (show Looks M h (dataDescriptor? (some (.builtin "object.__class__")) (some (.builtin "getset_descriptor.__get__"))) (some (.builtin "getset_descriptor.__get__",.builtin "object.__class__")) from L3.andThen .now).andThen (Looks.tag .now)
theorem zme {tk:Tok} {Q:Fin->y04->Prop} (X:K.In s.heap) (I:ExcAt x C s.heap) (O:ExcOk K C) (hq:Q (.done (.ret (.ref C))) s) :
  y0u (y33 prog w) A (Builtin.«object.__getattribute__» ⟨[.ref x,.str "__class__" tk],[]⟩) Q E s:=by
 obtain⟨hh,g,dr,t,os⟩:=s
 have L0:=I.type (M:=y33 prog w)
 have L1:=zpj (x:=x) (M:=y33 prog w) X O
 unfold Builtin.«object.__getattribute__»
 refine y02 (y06 (a:=(Value.ref x,[Value.str "__class__" tk])) (y02 (y06 (a:=("__class__":Str)) ?_)))
 refine y02 (L0.at (y02 (L1.at ?_)))
 show y0u _ _ (holding [Value.builtin "object.__class__"] (call (Value.builtin "getset_descriptor.__get__") [Value.builtin "object.__class__",Value.ref x,Value.ref C]) >>= ret) _ _ _
 exact y02 (y2i (y30 (zsk X I O.mo (y06 hq))))
theorem zmg {M:Model} {tk:Tok} {Q:Unit->y04->Prop} (X:K.In s.heap) (I:ExcAt x C s.heap) (O:ExcOk K C) (hq:Q () s) :
  y0u M A (checkBuiltinCall "BaseException.__getattribute__" ⟨[.ref x,.str "__class__" tk],[]⟩) Q E s:=by
 obtain⟨hh,g,dr,t,os⟩:=s
 have L0:=I.type (M:=M)
 have L1:=looks_mroIn (M:=M) X O.mb
 have LI:Looks M hh (isInstance (.ref x) (.type "BaseException")) true:=L0.andThen L1
 have hsplit:splitId "BaseException.__getattribute__"=some ("BaseException","__getattribute__"):=by decide +kernel
 have hk:builtinKind "BaseException.__getattribute__"=some .slot:=by decide +kernel
 have ha:=PySem.F.args_bexc_ga (.ref x) (.str "__class__" tk)
 simp only[checkBuiltinCall,hk,hsplit]
 refine y02 (LI.at ?_)
 simp only[Bool.not_true,y1t,if_false]
 cases hsig:Manifest.signature? "BaseException.__getattribute__" with
 | none=>exact y06 hq
 | some sig =>
  simp only[argsOk,hsig] at ha
  have h2:Bind.checkArgs "BaseException.__getattribute__" sig ⟨[.ref x,.str "__class__" tk],[]⟩=pure ():=ha
  show y0u M A (Bind.checkArgs "BaseException.__getattribute__" sig ⟨[.ref x,.str "__class__" tk],[]⟩) Q E _
  rw[h2]
  exact y06 hq
theorem zmf {Q:Option Value->y04->Prop} (X:K.In s.heap) (I:ExcAt x C s.heap) (O:ExcOk K C) (hq:Q (some (.ref C)) { s with toks:=s.toks+1 }) :
  y0u (y33 prog w) A (getAttr? (.ref x) "__class__") Q E s:=by
 obtain⟨hh,g,dr,t,os⟩:=s
 have L0:=I.type (M:=y33 prog w)
 have L1:=looks_findIn (M:=y33 prog w) X O.ga
 have L2:=looks_findIn (M:=y33 prog w) X O.gn
 unfold getAttr? getAttrBy? getAttrBy
 refine y02 (wpAny_mkText (y02 (wpAny_attempt (y2i (y02 (L0.at (y02 (L1.at ?_))))))))
 show y0u _ _ (getAttrByItsOwn _ _ _ _ _ _) _ _ _
 unfold getAttrByItsOwn
 refine y02 (L2.at ?_)
 refine y02 (wpAny_attempt (y2i ?_))
 show y0u _ _ (boundAndCalled _ _ _) _ _ _
 unfold boundAndCalled
 rw[PySem.F.excAttr_ValueError.ga.bind]
 refine y02 (y06 ?_)
 refine y30 (codeAny_call_builtin PySem.F.excAttr_ValueError.ga.plain PySem.F.entry_bexc_ga (zmg X I O (zme X I O ?_)))
 exact y06 (y06 hq)
theorem zp2 (O:ExcOk K C):KitX K (.ref x) (.ref C) (ExcAt x C) where
 ty:=fun _ _ _ I=>I.type
 it:=fun _ _ X _=>by
  have hcD:=O.cl
  unfold clsIn at hcD
  split at hcD
  ·rename_i c' d' cd' sl' ho
   intro A' Q' E' s' k q
   unfold isType loadHead
   exact y02 (wpAny_loadPart (k _ _ (X _ _ ho)) (y06 q))
  ·cases hcD
 ne:=fun h tp dd its n sl X htp=>by
  have hcD:=O.cl
  refine Bool.eq_false_iff.mpr fun q=>?_
  have e:C=tp:=Value.ref.inj (beq_iff_eq.mp q)
  subst e
  unfold clsIn at hcD
  split at hcD
  ·rename_i c' d' cd' sl' ho
   have z:=(X _ _ ho).symm.trans htp
   cases z
  ·cases hcD
 ca:=fun X I k=>zmf X I O k
end
end D
end
section
namespace D
open PySem PySem.Spec PyProof.Rows L2
section
structure FlownAt (P:y0q) (w:World) (outer:List Env) (H:Hp) (s:y04) (C:Addr) (H':Hp) (ea:Addr) (a0:Value) (B:Heap) (s':y04):Prop where
 os:s'.os=s.os
 bare:AllBare s'.gens
 fly:Heap.FlyingW B outer ea (.ref C) a0 s'.heap
 hok:HOk P w H' B
 un:Un (frs outer) [] H H' s.heap s'.heap
 cov:∀b o,s.heap.get? b=some o->H b=none->b∉frs outer->B.get? b=some o
 thr:∀b o,s.heap.get? b=some o->b∉frs outer->∃o',B.get? b=some o'
def zq1 (P:y0q) (w:World) (outer:List Env) (H:Hp) (s:y04) (C:Addr) (H':Hp) (e:Value) (s':y04):Prop:=∃ea a0 B,e=.ref ea/\FlownAt P w outer H s C H' ea a0 B s'
def CXR (P:y0q) (w:World):CXT:=fun outer H s E e s'=>∃C H',zq1 P w outer H s C H' e s'/\E (.ref C) none H'
noncomputable def zqu (X:Cx) (H:Hp) (s:y04) (C:Addr) (H':Hp) (e:Value) (s':y04):Prop :=
 (H'=H/\∃ea args h2,e=.ref ea/\s'={ s with heap:=h2 }/\Heap.MadeExcOf s.heap h2 ea (.ref C) args)\/zq1 X.prog X.w X.stack H s C H' e s'
def XeOk (X:Cx) (C:Addr) (H':Hp):Prop:=∀(pins:List (Addr×Obj)) (σ:L2.St) (H:Hp) (s:y04) (e:Value) (s':y04),Inv X pins σ H s->zqu X H s C H' e s'->X.xe e s'
theorem zb8 {h h' base:Heap} {l:List Env} {b:Addr} {o:Obj} (F:h.FunFrames base l) (hb:b∈frs l) (e:h.get? b=some o) (k:h.UpToSlots h'):∃sl,h'.get? b=some { o with slots:=sl }:=by
 obtain⟨_,o',e',hd⟩:=F.mem hb
 rw[e] at e'
 cases e'
 exact k b o e hd
theorem FlownAt.on {P:y0q} {w:World} {outer:List Env} {H H':Hp} {s s':y04} {C ea:Addr} {a0:Value} {B h6:Heap} (x:FlownAt P w outer H s C H' ea a0 B s') (st:B.StaysIn h6) (k:s'.heap.UpToSlots h6) :
  Un (frs outer) [] H H' s.heap h6/\HOk P w H' h6:=by
 refine⟨⟨fun b o e n f _=>st _ _ (x.cov b o e n f),fun b o e n f hx=>?_,fun b o e n hx=>x.un.free b o e n hx,fun b o e hx=>?_,x.un.tups,x.un.frzs,x.un.tbls⟩,x.hok.kept st⟩
 ·obtain⟨sl,e1⟩:=x.un.slot b o e n f hx
  obtain⟨sl2,e2⟩:=zb8 x.fly.2.2.1 f e1 k
  exact⟨sl2,e2⟩
 ·by_cases f:b∈frs outer
  ·obtain⟨o',e1⟩:=x.un.there b o e hx
   obtain⟨sl2,e2⟩:=zb8 x.fly.2.2.1 f e1 k
   exact⟨_,e2⟩
  ·obtain⟨o',e1⟩:=x.thr b o e f
   exact⟨o',st _ _ e1⟩
theorem zse {P:y0q} {w:World} {H:Hp} {h:Heap} {as:List Addr} (x:HOk P w H h) (n:∀b∈as,H b=none):HOk P w H (PySem.W.hideAll h as):=fun a o e =>
 z5s.stay (x a o e) (fun b u hb q=>PySem.W.hideAll_get _ q fun m=>by
  have z:=n b m
  rcases hb with rfl|hb
  ·rw[e] at z;cases z
  ·rw[hb] at z;cases z) (fun b hb=>hb) fun b xs hb=>hb
section
variable {X:Cx} {pins:List (Addr×Obj)} {σ:L2.St} {H1 H':Hp} {s1 s2:y04} {C:Addr} {e:Value} {env:Env} {outer:List Env} {E:XK}
theorem zh0 (I:Inv X pins σ H1 s1) (t:zqu X H1 s1 C H' e s2) (hE:E (.ref C) none H') {Z:Value->y04->Prop} (hst:X.stack=env::outer:=by rfl) (hou:X.outer=outer:=by rfl) (hex:X.ex=[]:=by rfl) (hf:env.frame=some X.env.locals:=by rfl) :
  y0u (y33 X.prog X.w) X.A (leaving env e) (fun _ s''=>CXR X.prog X.w outer X.H₀ X.s₀ E e s'') Z s2:=by
 have hfs:X.fs=frs outer:=by unfold Cx.fs;rw[hou]
 have hfr:=I.ok.frames
 rw[hst] at hfr
 have un0:=I.base
 rw[hfs,hex] at un0
 have nx:∀b:Addr,b∉([]:List Addr):=fun b z=>absurd z (by simp)
 have notL:∀b o,X.s₀.heap.get? b=some o->b∉frs outer->b∉frs (env::outer):=fun b o e0 n m=>by
  obtain⟨en,he,hf'⟩:=List.mem_filterMap.mp m
  rcases y09.mp he with rfl|he
  ·rw[hf] at hf'
   cases hf'
   exact absurd (y0c e0) (Nat.not_lt.mpr I.ok.above)
  ·exact n (List.mem_filterMap.mpr ⟨en,he,hf'⟩)
 have stk:=I.stack
 rw[hst] at stk
 rcases t with ⟨eH,ea,args,h2,ee,es,mk⟩|⟨ea,a0,B,ee,fl⟩
 ·subst eH ee es
  have hin:∀en∈(env::outer),∀b,en.frame=some b->b∈frs (env::outer):=fun en he b hb=>List.mem_filterMap.mpr ⟨en,he,hb⟩
  refine wpAny_leaves_madeW (base:=PySem.W.hideAll s1.heap (frs (env::outer))) hfr hf (fun b o q=>PySem.W.of_hideAll _ q) (PySem.W.funFrames_hide stk hin) mk fun h' t x1 x2 x3 x4=>?_
  have fr0:=I.stkFree
  rw[hst] at fr0
  have cov:∀b o,X.s₀.heap.get? b=some o->X.H₀ b=none->b∉frs outer->(PySem.W.hideAll s1.heap (frs (env::outer))).get? b=some o:=fun b o e0 n f=>PySem.W.hideAll_get _ (un0.keep b o e0 n f (nx b)) (notL b o e0 f)
  have thr:∀b o,X.s₀.heap.get? b=some o->b∉frs outer->∃o',(PySem.W.hideAll s1.heap (frs (env::outer))).get? b=some o':=fun b o e0 f=>by
   obtain⟨o',e1⟩:=un0.there b o e0 (nx b)
   exact⟨o',PySem.W.hideAll_get _ e1 (notL b o e0 f)⟩
  have sl:∀b o,s1.heap.get? b=some o->b∈frs outer->∃sl,h'.get? b=some { o with slots:=sl }:=fun b o e1 f=>by
   have F2:s1.heap.FunFrames X.base (env::outer):=stk
   obtain⟨_,o',e',hd⟩:=F2.mem (b:=b) (by
    obtain⟨en,he,hf'⟩:=List.mem_filterMap.mp f
    exact List.mem_filterMap.mpr ⟨en,y05 _ he,hf'⟩)
   rw[e1] at e'
   cases e'
   exact x4 b o (mk.keeps b o e1) hd
  refine⟨C,_,⟨ea,_,_,rfl,⟨I.os,I.bare,x1,zse I.hok fr0,⟨fun b o e0 n f _=>x1.1 _ _ (cov b o e0 n f),fun b o e0 n f _=>?_,fun b o e0 n _=>un0.free b o e0 n (nx b),fun b o e0 _=>?_,un0.tups,un0.frzs,un0.tbls⟩,cov,thr⟩⟩,hE⟩
  ·obtain⟨sl1,e1⟩:=un0.slot b o e0 n f (nx b)
   obtain⟨sl2,e2⟩:=sl b _ e1 f
   exact⟨sl2,e2⟩
  ·by_cases f:b∈frs outer
   ·obtain⟨o',e1⟩:=un0.there b o e0 (nx b)
    obtain⟨sl2,e2⟩:=sl b _ e1 f
    exact⟨_,e2⟩
   ·obtain⟨o',e1⟩:=thr b o e0 f
    exact⟨o',x1.1 _ _ e1⟩
 ·subst ee
  rw[hst] at fl
  refine wpAny_leaves_onW hfr hf fl.fly fun h' x1 x2=>?_
  have on:=fl.on x1.1 x2
  have cov:∀b o,X.s₀.heap.get? b=some o->X.H₀ b=none->b∉frs outer->B.get? b=some o:=fun b o e0 n f=>fl.cov b o (un0.keep b o e0 n f (nx b)) (un0.free b o e0 n (nx b)) (notL b o e0 f)
  have thr:∀b o,X.s₀.heap.get? b=some o->b∉frs outer->∃o',B.get? b=some o':=fun b o e0 f=>by
   obtain⟨o',e1⟩:=un0.there b o e0 (nx b)
   exact fl.thr b o' e1 (notL b o e0 f)
  have up:∀b,b∈frs outer->b∈frs (env::outer):=fun b f=>by
   obtain⟨en,he,hf'⟩:=List.mem_filterMap.mp f
   exact List.mem_filterMap.mpr ⟨en,y05 _ he,hf'⟩
  refine⟨C,_,⟨ea,_,B,rfl,⟨fl.os.trans I.os,fl.bare,x1,fl.hok,⟨fun b o e0 n f _=>x1.1 _ _ (cov b o e0 n f),fun b o e0 n f _=>?_,fun b o e0 n _=>?_,fun b o e0 _=>?_,fun b xs q=>on.1.tups _ _ (un0.tups _ _ q),fun b o u q=>on.1.frzs _ _ _ (un0.frzs _ _ _ q),fun b ps q=>?_⟩,cov,thr⟩⟩,hE⟩
  ·obtain⟨sl1,e1⟩:=un0.slot b o e0 n f (nx b)
   obtain⟨sl2,e2⟩:=on.1.slot b _ e1 (un0.free b o e0 n (nx b)) (up b f) (nx b)
   exact⟨sl2,e2⟩
  ·obtain⟨sl1,e1⟩:=un0.any e0 n (nx b)
   exact on.1.free b _ e1 (un0.free b o e0 n (nx b)) (nx b)
  ·obtain⟨o',e1⟩:=un0.there b o e0 (nx b)
   exact on.1.there b o' e1 (nx b)
  ·obtain⟨m1,q1⟩:=un0.tbls b ps q
   obtain⟨m2,q2⟩:=on.1.tbls b _ q1
   exact⟨m1++m2,by rw[q2,Array.append_assoc]⟩
theorem zok (h:∀C H',E (.ref C) none H'->XeOk X C H'):Passes (CXR X.prog X.w) X E:=fun pins σ H s e s' I ⟨C,H',fl,hE⟩=>h C H' hE pins σ H s e s' I (.inr fl)
end
end
section
variable [Tbl]
abbrev Fz:=Ev->Bool
def tEZ (X:Cx) (C:Addr) (r:Fz):TE:=fun σ H _=>∃F₀ E O F ε,RelE X.K F₀ E O F H ε σ/\r ε=true/\∀F' H',Ext F H F' H'->XeOk X C H'
def tSZ (X:Cx) (C:Addr) (r:Fz):TS:=fun _ σ H=>∃F₀ E O F ε,RelE X.K F₀ E O F H ε σ/\r ε=true/\∀F' H',Ext F₀ E.h F' H'->XeOk X C H'
abbrev PEz (X:Cx) (C:Addr) (e:Expr) (r:Fz):Prop:=PE X e (tEZ X C r)
abbrev PSz (X:Cx) (C:Addr) (s:Stmt) (r:Fz):Prop:=PS X s (tSZ X C r)
abbrev PBz (X:Cx) (C:Addr) (s:List Stmt) (r:Fz):Prop:=PSs X s (tSZ X C r)
def seqZ (b:Fs) (r:Fz):Fz:=fun ε=>match b ε with
 | some (.nx ε')=>r ε'
 | _=>false
def okZ (f:Fe):Fz:=fun ε=>(f ε).isSome
theorem PS.nox {X:Cx} {st:Stmt} {t:TS} (h:PS X.nox st t):PS X st t:=fun pins s σ H D I hw =>
 y1d (h pins s σ H D (I.wish _) hw) (fun _ _ q=>q.unwish) fun _ _ z=>y1w z
theorem PA.nox {X:Cx} {es:List Expr} {t:TA} (h:PA X.nox es t):PA X es t:=fun pos pins s σ H Q I hw =>
 y1d (h pos pins s σ H Q (I.wish _) hw) (fun _ _ ⟨v,H',I',r,q⟩=>⟨v,H',I'.unwish,r,q⟩) fun _ _ z=>y1w z
section
variable {X:Cx} {C:Addr} {e c:Expr} {st:Stmt} {rest els:List Stmt} {r r':Fz} {b:Fs} {ft:Ft} {pos:Pos}
theorem z_1 (h:PSz X C st r):PBz X C (st::rest) r:=zae (z4l (u:=fun _ _ _=>False) h fun _ _ _ _ _ _ z=>z.elim) fun D σ H q=>q
theorem z_n (h1:PSt X.nox st b) (h2:PBz X C rest r):PBz X C (st::rest) (seqZ b r):=zae (z4l (PS.nox h1) h2) fun D σ H ⟨F₀,E,O,F,ε,rl,e,k⟩=>by
 unfold seqZ at e
 split at e
 next ε' hb=>exact⟨F₀,E,O,F,ε,_,rl,hb,fun σ' F' H' kp r2=>⟨F₀,E,O,F',ε',r2,e,k⟩⟩
 next=>cases e
end
abbrev bmV:List Value:=[.type "ValueError",.type "Exception",.type "BaseException",.type "object"]
theorem zrv {K:y00} {h:Heap} {C:Addr} {bmB:List Value} {newId:String} (X:K.In h) (q:PySem.W.excIn K C bmB newId=true) :
  ∃bm N nm q bs hdct sn sub ab col dd k0 k1 k2 k3 k5 mN,h.get? C=some (excClassObj nm q C N bs bm hdct sn sub ab col dd k0 k1 k2 k3 k5 newId)/\h.Ns N mN/\mN "__init__"=none/\OwnTail h bmB bm:=by
 unfold PySem.W.excIn at q
 split at q
 ·rename_i dd cd sl ho
  split at q
  ·rename_i C' bm k0 k1 k2 k3 n k5 hm hs
   simp only[y1b,beq_iff_eq,Bool.not_eq_true'] at q
   obtain⟨⟨⟨⟨⟨rfl,rfl⟩,hdel⟩,ht⟩,hok⟩,hni⟩:=q
   obtain⟨nm,bs,mro,ns,qn,hd,sn,sub,ab,col,del⟩:=cd
   dsimp only at hm hdel hok hni
   subst hm hdel
   have hsl:sl=#[k0,k1,k2,k3,some (.builtin n),k5]:=by
    obtain⟨l⟩:=sl
    simp only at hs
    rw[hs]
   subst hsl
   exact⟨bm,ns,nm,qn,bs,hd,sn,sub,ab,col,dd,k0,k1,k2,k3,k5,_,X _ _ ho,.of_isNs (PySem.W.isNs_of_in X hok),PySem.W.nsMap_none_of_in X hok hni,PySem.W.tail_of_in X ht⟩
  ·cases q
 ·cases q
theorem zr1 {X:Cx} {C:Addr} {x:Str} {e:Expr} {f:Fe} {np cpos pos:Pos} (hm:X.mg x=some (.ref C)) (hx:PySem.W.excIn X.K C bmV "ValueError.__new__"=true) (he:PEv X.nox e f) (hh:X.A.handled=none)
  (hg:Gl X x:=by rfl) (hs:y0a [e] X.env=(false,eval e X.env)::y0a [] X.env:=by rfl) (hd:(x == ("__debug__":Str))=false:=by decide) :
  PSz X C (.Raise (some (.Call (.Name x np) [e] [] cpos)) none pos) (okZ f):=by
 intro pins s σ H D I ⟨F₀,E,O,F,ε,rl,ef,k⟩
 obtain⟨t,et⟩:=Option.isSome_iff_exists.mp ef
 obtain⟨bm,N,nm,q,bs,hdct,sn,sub,ab,col,dd,k0,k1,k2,k3,k5,mN,hC,hN,hni,TL⟩:=zrv I.ok.mod.kin hx
 refine wpAny_Raise_call_subT (C:=C) (nm:=nm) (q:=q) (N:=N) (bs:=bs) (bm:=bm) (hdct:=hdct) (sn:=sn) (sub:=sub) (ab:=ab) (col:=col) (dd:=dd) (k0:=k0) (k1:=k1) (k2:=k2) (k3:=k3) (k5:=k5) (mN:=mN)
  PySem.F.excBase_ValueError (TL.hasType PySem.F.excBase_ValueError.hasBase) hh (by rw[hs];rfl) hni (z9e I hg hm ⟨rfl,?_⟩ hd)
 have ha:PA X [e] (z49 (tV X.K f) tNil):=z13 (PE.nox he) z34 hs
 have h0:=ha cpos pins s σ H (fun vs H1=>∃v,vs=[v]/\XeOk X C H1) I ⟨F₀,E,O,F,ε,t,rl,et,fun v F' H' x _=>⟨v,rfl,k F' H' (rl.ent.trans x)⟩⟩
 rw[hs] at h0 ⊢
 refine Calls.evalArgs_plain (y1d h0 (fun us s₂ ⟨vs,H1,I1,r1,v,ev,kx⟩=>⟨rfl,?_,?_,?_,?_,fun h' ea mk=>?_⟩) fun _ _ y=>y)
 ·have:=r1.length
  rw[ev] at this
  show us.length<=y0j
  rw[<- this]
  show 1<=y0j
  decide
 ·exact I1.bk _ _ hC
 ·exact hN.keeps I1.bk
 ·exact TL.keeps I1.bk
 ·exact kx pins σ H1 s₂ (.ref ea) _ I1 (.inl ⟨rfl,ea,_,h',rfl,rfl,mk⟩)
noncomputable def spZ (K:y00) (n:Nat) (C:Addr) (r:List Sl->Bool):Sp:=fun vs H _ E=>vs.length=n/\∃F ss,Dom F H/\zsz K F H ss vs/\r ss=true/\∀F' H',Ext F H F' H'->E (.ref C) none H'
def runZ (r:Fz) (n:Nat):List Sl->Bool:=fun ss=>r (z4u n ss)
structure ClZ (P:y0q) (w:World) (K:y00) (mg:Str->Option Value) (base:Heap) (x:Str) (C:Addr) (k n:Nat) (r:List Sl->Bool):Prop where
 ex:∃fa fd ps,FnOk P w K mg base (CXR P w) k fa fd ps (spZ K n C r)/\mg x=some (.ref fa)/\y08 K (.ref fa)=true/\Binds K fd ps []
section
variable {P:y0q} {w:World} {K:y00} {mg:Str->Option Value} {base:Heap}
theorem ClZ.mono {x:Str} {C:Addr} {k n j:Nat} {r:List Sl->Bool} (c:ClZ P w K mg base x C j n r) (h:j<=k):ClZ P w K mg base x C k n r:=by
 obtain⟨fa,fd,ps,F,q⟩:=c.ex
 exact⟨fa,fd,ps,F.mono h,q⟩
theorem zsg {x qual:Str} {st:Stmt} {f C:Addr} {fd:y0b} {N ps:List Str} {k:Nat} {r:Fz} (F:Fun K x qual st f fd) (S:FnScope N ps (z02 st))
  (hb:∀(cdv:Value) (A:Around) (outer:List Env) (s:y04) (H:Hp) (E:XK),Room k (A.deeper (envOfC qual (z02 st) s.heap.objs.size f cdv)) ->
   PBz (cxOf (CXR P w) P w K mg base N qual (z02 st) f cdv A outer s H E) C (z0d st) r) :
  FnOk P w K mg base (CXR P w) (k+1) f fd ps (spZ K ps.length C (runZ r N.length)):=by
 obtain⟨oc,od,kV,doc,pm,an,cdv,ct,osl,rfl,lk,hcd⟩:=F.ex
 refine zsi lk hcd S (fun vs H Q E h=>h.1) fun A outer s H vs Q E hr h=>⟨_,hb cdv A outer s H E hr,?_⟩
 obtain⟨hl,F,ss,dom,q,e,kq⟩:=h
 refine⟨F,⟨H,0⟩,fun a=>H a=none,F,_,?_,e,fun F' H' x=>?_⟩
 ·unfold L2.start
  exact zfk dom q N.length
 ·intro pins σ H1 s1 e1 s2 I t
  refine y1d (zh0 (X:=cxOf (CXR P w) P w K mg base N qual (z02 st) f cdv A outer s H E) (E:=E) (Z:=fun _ _=>False) I t (kq F' H' x)) (fun _ _ z=>z) fun _ _ z=>z.elim
theorem zvd {x:Str} {C:Addr} {st:Stmt} {f:Addr} {fd:y0b} {N ps:List Str} {k:Nat} {r:Fz} (F:Fun K x x st f fd) (S:FnScope N ps (z02 st)) (bd:Binds K fd ps []) (m:mg x=some (.ref f))
  (hb:∀(cdv:Value) (A:Around) (outer:List Env) (s:y04) (H:Hp) (E:XK),Room k (A.deeper (envOfC x (z02 st) s.heap.objs.size f cdv)) ->
   PBz (cxOf (CXR P w) P w K mg base N x (z02 st) f cdv A outer s H E) C (z0d st) r):ClZ P w K mg base x C (k+1) ps.length (runZ r N.length):=⟨f,fd,ps,zsg F S hb,m,F.kp,bd⟩
end
def zjc (r:List Sl->Bool) (as:List Ag):Fz:=fun ε=>match agsE as ε with
 | some ss=>r (ss.map roS)
 | none=>false
section
variable {X:Cx} {k n c C CO i:Nat} {ns:List Str} {r:List Sl->Bool} {x m:Str} {p pos apos:Pos} {o e:Expr} {es:List Expr} {as:List Ag} {fs:List Fe}
theorem zt0 (Dc:ClZ X.prog X.w X.K X.mg X.base x C k n r) (hr:Room k X.A) (ha:PAg X.nox (e::es) as) (hg:Gl X x:=by rfl) (hn:as.length=n:=by rfl) (hdb:(x == ("__debug__":Str))=false:=by decide)
  (he:y0a (e::es) X.env=(false,eval e X.env)::y0a es X.env:=by rfl) (hpl:(y2j pos (y0a es X.env)).any (·.1)=false:=by rfl):PEz X C (.Call (.Name x p) (e::es) [] pos) (zjc r as):=by
 obtain⟨fa,fd,ps,F,hm,kp,b⟩:=Dc.ex
 refine z0l (zky F hr hg hm kp b .nil (zok (E:=fun cl _ H'=>∃C',cl=.ref C'/\XeOk X C' H') fun C' H' ⟨C2,e2,q⟩=>by cases e2;exact q) (PA.nox ha) hdb he hpl) fun σ H Q ⟨F₀,E,O,F,ε,rl,e,k⟩=>?_
 unfold zjc at e
 split at e
 next ss es =>
  refine⟨F₀,E,O,F,ε,ss,rl,es,fun vs F1 H1 x1 q=>⟨?_,F1,ss.map roS,x1.dom,?_,e,fun F' H' x2=>⟨C,rfl,k F' H' (x1.trans x2)⟩⟩⟩
  ·rw[y1x,q.len,hn]
  ·rw[y1x]
   exact zne (rl.ext x1) es q
 next=>cases e
end
end
section
abbrev Cx.inX (X:Cx) (ea:Addr):Cx:={ X with A:=X.A.mark (some (.ref ea)),calm:=false,xe:=fun _ _=>False }
section
variable {X:Cx} {pins:List (Addr×Obj)} {σ:L2.St} {H:Hp} {s:y04} {ea:Addr}
theorem zuk (ok:X.Ok) (ea:Addr):(Cx.inX X ea).Ok :=
 ⟨ok.mod,ok.kind,ok.glob,ok.blt,ok.above,ok.inj,ok.has,ok.cab,(fun (z:false=true)=>absurd z (by decide)),ok.frames,ok.stk,ok.exf,ok.bs,ok.bsz,ok.noex,ok.exfs,ok.funs,ok.frf⟩
theorem zm2 (I:Inv X pins σ H s) (ea:Addr):Inv (Cx.inX X ea) pins σ H s:=⟨zuk I.ok ea,I.os,I.bare,I.base,I.loc,I.cell,I.free,I.freeC,I.pin,I.hok,I.len⟩
theorem zp8 (ok:X.Ok) (I:Inv (Cx.inX X ea) pins σ H s):Inv X pins σ H s:=⟨ok,I.os,I.bare,I.base,I.loc,I.cell,I.free,I.freeC,I.pin,I.hok,I.len⟩
theorem zp9 {i:Nat} {n:Str} {h':Heap} {m:Str->Option Value} {v:Option Value} {tk:Nat} (I:Inv X pins σ H s) (hi:X.N[i]?=some n) (hl:∀(i:Nat) (x:Str) (v:V),X.N[i]?=some x->σ[i]?=some (some v)->Vis X.env.scope x->∃u,RelV v u/\Look X.env s.heap m x u) (hN:X.N.Nodup)
  (hn:h'.Ns X.env.locals (fun x=>if x=n then v else m x)) (hs:Heap.SameBut X.env.locals s.heap h') (hoL:∃o,s.heap.get? X.env.locals=some o):Inv X pins (σ.set i none) H { s with heap:=h',toks:=tk }:=by
 have hiσ:i<σ.length:=by rw[I.len];exact (y0k.mp hi).1
 have cne:=I.cne
 have lt:∀{b:Addr} {o:Obj},X.s₀.heap.get? b=some o->b≠X.env.locals:=fun e=>y0y (y0x (y0c e) I.ok.above)
 refine⟨I.ok,I.os,I.bare,⟨fun b o e n hb hx=>(hs.2 b (lt e)).trans (I.base.keep b o e n hb hx),fun b o e n hb hx=>?_,I.base.free,fun b o e hx=>?_,I.base.tups,I.base.frzs,I.base.tbls⟩,⟨_,hn,fun j y v' e1 e2 e3=>?_⟩,fun y c e=>?_,I.free,I.freeC,fun p hp=>?_,fun b ob e=>?_,by simpa using I.len⟩
 ·obtain⟨sl,e1⟩:=I.base.slot b o e n hb hx
  exact⟨sl,(hs.2 b (lt e)).trans e1⟩
 ·obtain⟨o',e1⟩:=I.base.there b o e hx
  exact⟨o',(hs.2 b (lt e)).trans e1⟩
 ·by_cases hj:j=i
  ·subst hj
   rw[List.getElem?_set_self hiσ] at e2
   cases e2
  ·rw[List.getElem?_set_ne (Ne.symm hj)] at e2
   obtain⟨u',r',q⟩:=hl j y v' e1 e2 e3
   refine⟨u',r',?_⟩
   rcases q with ⟨k,e⟩|⟨k,c,e,z⟩
   ·refine .inl ⟨k,?_⟩
    have:y≠n:=fun e=>hj (zby hN e1 (e▸hi))
    simp[this,e]
   ·exact .inr ⟨k,c,e,z.sameBut hs (cne y c e)⟩
 ·obtain⟨w',z⟩:=I.cell y c e
  exact⟨w',z.sameBut hs (cne y c e)⟩
 ·obtain⟨e,n,ne,nf,d⟩:=I.pin p hp
  exact⟨(hs.2 p.1 ne).trans e,n,ne,nf,d⟩
 ·refine (I.hok b ob e).stay (fun c w' hc q=>(hs.2 c ?_).trans q) (fun _ q=>q) fun _ _ q=>q
  rintro rfl
  have fr:=I.free
  rcases hc with rfl|hc
  ·rw[fr] at e;cases e
  ·rw[fr] at hc;cases hc
end
theorem zgg {M:Model} {A:Around} {E:Value->y04->Prop} {K:y00} {s:y04} {x C CD:Addr} {Q:Bool->y04->Prop} (X:K.In s.heap) (I:ExcAt x C s.heap)
  (h1:PySem.W.typeIn K (.ref CD)=some (.type "type")) (h2:PySem.W.mroIn K CD (.type "BaseException")=some true) (h3:PySem.W.mroIn K C (.ref CD)=some true) (hc:(PySem.W.clsIn K CD).isSome=true) (hq:Q true s) :
  y0u M A (excMatches (.ref x) (.ref CD)) Q E s:=by
 obtain⟨hh,g,dr,t,os⟩:=s
 have L0:=I.type (M:=M)
 have L1:=PySem.W.looks_typeIn (M:=M) X h1
 have L2:=PySem.W.looks_mroIn (M:=M) X h2
 have L3:=PySem.W.looks_mroIn (M:=M) X h3
 have LI:PySem.W.Looks M hh (isInstance (.ref CD) (.type "tuple")) false:=L1.andThen (PySem.W.Looks.of_pure tc_notTuple)
 have LT:PySem.W.Looks M hh (isType (.ref CD)) true:=by
  unfold PySem.W.clsIn at hc
  split at hc
  ·rename_i c' d' cd' sl' ho
   intro A' Q' E' s' k q
   unfold isType loadHead
   exact y02 (wpAny_loadPart (k _ _ (X _ _ ho)) (y06 q))
  ·cases hc
 have LE:PySem.W.Looks M hh (isExcClass (.ref CD)) true:=LT.andThen L2
 unfold excMatches
 refine y02 (LI.at ?_)
 rw[if_neg (by decide)]
 refine y02 (y06 ?_)
 dsimp only
 refine y02 ?_
 simp only[List.forIn_cons,List.forIn_nil]
 refine y02 (y02 (LE.at ?_))
 rw[if_neg (by decide)]
 refine y06 (y06 ?_)
 refine y02 (L0.at (y02 ?_))
 refine y02 (y02 (L3.at ?_))
 rw[if_pos rfl]
 exact y06 (y06 (y06 hq))
theorem zpr {X:Cx} {pins:List (Addr×Obj)} {σ:L2.St} {H H':Hp} {s s':y04} {C CD:Addr} {e:Value} {dn n:Str} {i:Nat} {np pos:Pos} {b₀:Stmt} {suite:List Stmt} {ts:TS} {D:Ends}
  (I:Inv X pins σ H s) (fl:zq1 X.prog X.w X.stack H s C H' e s') (hm:X.mg dn=some (.ref CD))
  (h1:PySem.W.typeIn X.K (.ref CD)=some (.type "type")) (h2:PySem.W.mroIn X.K CD (.type "BaseException")=some true) (h3:PySem.W.mroIn X.K C (.ref CD)=some true) (hc:(PySem.W.clsIn X.K CD).isSome=true)
  (hs:∀ea,PSs (Cx.inX X ea) (b₀::suite) ts) (k:∀ea,H' ea=none->ts { nx:=fun σ2 H2=>D.nx (σ2.set i none) H2,rt:=fun _ _=>False } (σ.set i (some (.ref ea))) (upd H' ea (.ext (ExcAt ea C))))
  (hN:X.N.Nodup) (hi:X.N[i]?=some n) (hlo:X.env.kindOf n=some .local) (hst:X.stack=X.env::X.outer) (hf:X.env.frame=some X.env.locals) (hg:Gl X dn) (hdb:(dn == ("__debug__":Str))=false) :
  y0u (y33 X.prog X.w) X.A (noteFrame e X.env) (fun _ s₂=>y0u (y33 X.prog X.w) X.A (setFlight e none) (fun _ s₃=>y0u (y33 X.prog X.w) X.A (handleBy e X.env [.ExceptHandler (some (.Name dn np)) (some n) (b₀::suite) pos]) (L2.SP X pins D) X.xe s₃) X.xe s₂) X.xe s':=by
 obtain⟨ea,a0,B,rfl,fl⟩:=fl
 have hfl:=fl.fly
 have hfr:=I.ok.frames
 rw[hst] at hfl hfr
 refine wpAny_looks_onW hfr hf hfl fun h₄ held₄ sm₄=>?_
 refine wpAny_landsW held₄ fun h₅ fl₅ sm₅=>?_
 have U5:s'.heap.UpToSlots h₅:=sm₄.trans sm₅
 obtain⟨un5,hok5⟩:=fl.on fl₅.1 U5
 have nx:∀b:Addr,b∉([]:List Addr):=fun b z=>absurd z (by simp)
 have J5:Inv X pins σ H' { s' with heap:=h₅ }:=I.call' fl.os un5 hok5 fl.bare fun b hb=>absurd hb (nx b)
 have at5:ExcAt ea C h₅:=by
  obtain⟨oe,vs,q1,q2,q3,_⟩:=fl₅.first
  exact⟨oe,vs,q1,q2,q3⟩
 have hne:H' ea=none:=by
  cases q:H' ea with
  | none=>rfl
  | some u =>
   obtain⟨o,ho⟩:∃o,B.get? ea=some o:=by
    have z:=fl.hok ea u q
    have lt:=z.lt
    have:∀(u:HO),z5s X.prog X.w H' B ea u->∃o,B.get? ea=some o:=by
     intro u
     induction u with
     | lst xs=>rintro⟨_,_,_,_,e⟩;exact⟨_,e⟩
     | tup xs=>rintro⟨_,_,_,o,e,_⟩;exact⟨_,e⟩
     | dK kvs=>rintro⟨_,_,_,_,o,_,_,e,_⟩;exact⟨_,e⟩
     | dT kvs=>rintro⟨_,_,_,_,o,_,_,e,_⟩;exact⟨_,e⟩
     | set S n=>rintro⟨o,_,_,_,e,_⟩;exact⟨_,e⟩
     | ins C dx fs=>rintro⟨_,_,_,e,_⟩;exact⟨_,e⟩
     | own x=>rintro⟨o,e⟩;exact⟨_,e⟩
     | xd fs=>rintro⟨_,e,_⟩;obtain⟨o,_,_,e,_⟩:=e;exact⟨_,e⟩
     | met f x=>intro e;exact⟨_,e⟩
     | rng lo hi=>rintro⟨_,_,_,e⟩;exact⟨_,e⟩
     | frz o u ih=>rintro⟨e,_⟩;exact⟨_,e⟩
     | tbl ps=>intro e;exact⟨_,e⟩
     | ext φ=>rintro⟨_,⟨o,e⟩,_⟩;exact⟨_,e⟩
    exact this u z
   rw[fl.fly.2.1] at ho
   cases ho
 refine wpAny_handleBy_cons (codeAny_handlers_test (z9e (X:=Cx.inX X ea) (zm2 J5 ea) hg hm ?_ hdb)) (by intro q;cases q)
 refine zgg J5.kIn at5 h1 h2 h3 hc ?_
 refine codeAny_handlers_suite_as ?_
 refine lands_againW fl₅ fun h₆ fl₆ sm₆=>?_
 have U6:s'.heap.UpToSlots h₆:=U5.trans sm₆
 obtain⟨un6,hok6⟩:=fl.on fl₆.1 U6
 have at6:ExcAt ea C h₆:=by
  obtain⟨oe,vs,q1,q2,q3,_⟩:=fl₆.first
  exact⟨oe,vs,q1,q2,q3⟩
 have keepT:∀{b:Addr} {u:HO},H' b=some u->upd H' ea (.ext (ExcAt ea C)) b=some u:=fun {b u} q=>by rw[z0f (by rintro rfl;rw[hne] at q;cases q)];exact q
 have notE:∀{b:Addr} {o:Obj},s.heap.get? b=some o->H b=none->b≠ea:=fun {b o} q n=>by
  rintro rfl
  by_cases f:b∈frs X.stack
  ·obtain⟨_,o',e',hd⟩:=fl₆.2.2.1.mem (b:=b) (by rw[<- hst];exact f)
   obtain⟨oe,vs,e1,_,e2⟩:=at6
   rw[e1] at e'
   cases e'
   exact hd vs e2
  ·have z:=fl.cov b o q n f
   rw[fl.fly.2.1] at z
   cases z
 have un7:Un (frs X.stack) [] H (upd H' ea (.ext (ExcAt ea C))) s.heap h₆:=⟨un6.keep,un6.slot,fun b o q n hx=>by rw[z0f (notE q n)];exact un6.free b o q n hx,un6.there,fun b xs q=>keepT (un6.tups b xs q),fun b o u q=>keepT (un6.frzs b o u q),fun b ps q=>by
  obtain⟨m,z⟩:=un6.tbls b ps q
  exact⟨m,keepT z⟩⟩
 have hok7:HOk X.prog X.w (upd H' ea (.ext (ExcAt ea C))) h₆:=fun b u q=>by
  by_cases hb:b=ea
  ·subst hb
   rw[z08] at q
   cases q
   obtain⟨oe,vs,e1,e2,e3⟩:=at6
   exact⟨⟨oe,vs,e1,e2,e3⟩,⟨oe,e1⟩,fun k1 k2 ⟨o,vs,z1,z2,z3⟩ kk=>⟨o,vs,kk o z1,z2,z3⟩⟩
  ·rw[z0f hb] at q
   exact (hok6 b u q).stay (fun _ _ _ z=>z) (fun c z=>keepT z) fun c xs z=>keepT z
 have J6:Inv X pins σ (upd H' ea (.ext (ExcAt ea C))) { s' with heap:=h₆ }:=I.call' fl.os un7 hok7 fl.bare fun b hb=>absurd hb (nx b)
 refine zbk (X:=Cx.inX X ea) (v:=.ref ea) (zm2 J6 ea) hN hi (.inl hlo) rfl (fun s7 I7=>?_) (.inr hlo)
 refine y1d (hs ea pins s7 _ _ _ I7 (k ea hne)) (fun f s8 h8=>?_) fun _ _ z=>z.elim
 cases f with
 | next =>
  obtain⟨σ2,H2,I8,q8⟩:=h8
  have I8':=zp8 I.ok I8
  obtain⟨m,hn8,hl8⟩:=id I8'.loc
  refine wpAny_nameGoes_keeps hlo hn8 (by rw[I.ok.kind];rfl) fun h9 v hn9 hs9=>?_
  have hoL:∃o,s8.heap.get? X.env.locals=some o:=by
   obtain⟨o,_,_,q,_⟩:=hn8
   exact⟨o,q⟩
  exact⟨_,H2,zp9 I8' hi hl8 hN hn9 hs9 hoL,q8⟩
 | brk=>obtain⟨_,_,_,q8⟩:=h8;exact y1w q8
 | cont=>obtain⟨_,_,_,q8⟩:=h8;exact y1w q8
 | ret u=>obtain⟨_,_,_,_,_,q8⟩:=h8;exact y1w q8
end
section
noncomputable def rIsi (K:y00) (C:Addr):List V->Hp->VK->Prop:=fun xs H Q=>∃ea c cv b,xs=[.ref ea,c]/\H ea=some (.ext (ExcAt ea C))/\(∀u,RelV c u->u=cv)/\y36 K (.ref C) cv=some b/\Q (.bl b) H
theorem zv8 {X:Cx} {C:Addr} (O:ExcOk X.K C):z3x X (.builtin "isinstance") (rIsi X.K C):=by
 intro pins s σ H xs us Q I r ⟨ea,c,cv,b,e1,e2,e3,e4,q⟩
 subst e1
 cases r with
 | cons r1 r =>
  cases r with
  | cons r2 r =>
   cases r
   cases r1
   have ec:=e3 _ r2
   subst ec
   exact PySem.W.kia_one (zp2 O) I.kIn (I.hok ea _ e2).1 e4 (by intro z;cases z) fun tk=>⟨.bl b,H,I.tok _,rfl,q⟩
theorem zcd:∀{bs:List Bool} {us:List Value},Vals (bs.map V.bl) us->us=bs.map Value.bool
 | [],us,h=>by cases h;rfl
 | b::bs,us,h=>by
  cases h with
  | cons r t =>
   cases r
   rw[zcd t]
   rfl
def z5h:Value->Bool
 | .bool true=>true
 | _=>false
theorem zoy {X:Cx}:MtR X "list.count" (fun x vs H Q=>∃(l:Addr) (bs:List Bool),x=.ref l/\vs=[.bl true]/\SqL X.K H l (bs.map V.bl)/\Q (.int (bs.countP id:Nat)) H):=by
 intro pins s σ H x vs v us Q I rx rv h
 obtain⟨l,bs,rfl,rfl,hq,q⟩:=h
 cases rx
 obtain⟨u,rfl,ru⟩:=rv.one
 cases ru
 obtain⟨its,r,⟨⟨cls,dd,data,sl⟩,n,ho,hc,hd,hs⟩,hz⟩:=I.list hq
 simp only at hc hd hs
 subst hc hd hs
 have hits:=zcd r
 subst hits
 refine y2z PySem.F.slot_list_count ⟨_,ho,rfl⟩ PySem.F.entry_list_count (PySem.F.args_list_count_2 _ _)
  (SeqAt.list_countAt l _ n _ _ (.bool true) z5h) ⟨ho,fun z hz'=>?_,?_⟩
 ·obtain⟨b,_,rfl⟩:=y0m.mp (show z∈bs.map Value.bool by simpa using hz')
  have e:=SeqAt.EqAt.bool_bool (A:=X.A.in1) (s:=s) b true
  have e2:(b == true)=z5h (.bool b):=by cases b <;> rfl
  rw[e2] at e
  exact e
 ·refine⟨V.int (bs.countP id:Nat),H,I.tok _,⟨s.toks,?_⟩,q⟩
  have:((bs.map Value.bool).toArray.toList.countP z5h)=bs.countP id:=by
   show (bs.map Value.bool).countP z5h=_
   rw[List.countP_map]
   congr 1
   funext b
   cases b <;> rfl
  rw[this]
theorem zle {X:Cx}:MtR X "list.index" (fun x vs H Q=>∃(l:Addr) (bs:List Bool) (j:Nat),x=.ref l/\vs=[.bl true]/\SqL X.K H l (bs.map V.bl)/\bs[j]?=some true/\(∀m,m<j->bs[m]?=some false)/\Q (.int (j:Nat)) H):=by
 intro pins s σ H x vs v us Q I rx rv h
 obtain⟨l,bs,j,rfl,rfl,hq,hj,hb,q⟩:=h
 cases rx
 obtain⟨u,rfl,ru⟩:=rv.one
 cases ru
 obtain⟨its,r,⟨⟨cls,dd,data,sl⟩,n,ho,hc,hd,hs⟩,hz⟩:=I.list hq
 simp only at hc hd hs
 subst hc hd hs
 have hits:=zcd r
 subst hits
 have hjl:=(y0k.mp hj).1
 rw[y13] at hz
 rw[y2n] at hz
 refine y2z PySem.F.slot_list_index ⟨_,ho,rfl⟩ PySem.F.entry_list_index (PySem.F.args_list_index_2 _ _)
  (SeqAt.list_indexAt l _ n _ _ (.bool true) z5h j (by simpa using hjl) (by omega) ?_ ?_) ⟨ho,fun z hz'=>?_,⟨V.int (j:Nat),H,I.tok _,⟨_,rfl⟩,q⟩⟩
 ·have:=(y0k.mp hj).2
  simp[z5h,this]
 ·intro m hm hlt
  have:=(y0k.mp (hb m hlt)).2
  simp[z5h,this]
 ·obtain⟨b,_,rfl⟩:=y0m.mp (show z∈bs.map Value.bool by simpa using hz')
  have e:=SeqAt.EqAt.bool_bool (A:=X.A.in1) (s:=s) b true
  have e2:(b == true)=z5h (.bool b):=by cases b <;> rfl
  rw[e2] at e
  exact e
def Grow [Tbl] (H H':Hp):Prop:=∀F:Addr->Prop,Dom F H->Ext F H F H'
theorem Grow.laid [Tbl] {H:Hp} {p:Addr} {o:HO} (hp:H p=none):Grow H (upd H p o):=fun F d=>Ext.laid d hp
theorem Grow.trans [Tbl] {H H1 H2:Hp} (a:Grow H H1) (b:Grow H1 H2):Grow H H2:=fun F d=>(a F d).trans (b F (a F d).dom)
abbrev tIsi (K:y00) (C:Addr) (c:V):TE:=tCB (rIsi K C) (z49 (tVar 2) (z49 (tC c) tNil))
abbrev rCnt (K:y00):V->List V->Hp->VK->Prop:=fun x vs H Q=>∃(l:Addr) (bs:List Bool),x=.ref l/\vs=[.bl true]/\SqL K H l (bs.map V.bl)/\Q (.int (bs.countP id:Nat)) H
abbrev rIdx (K:y00):V->List V->Hp->VK->Prop:=fun x vs H Q=>∃(l:Addr) (bs:List Bool) (j:Nat),x=.ref l/\vs=[.bl true]/\SqL K H l (bs.map V.bl)/\bs[j]?=some true/\(∀m,m<j->bs[m]?=some false)/\Q (.int (j:Nat)) H
abbrev zk0 (K:y00) (C cz cw cd ct:Addr):TS :=
 tSeq (tAsg (tLst (z49 (tIsi K C (.ref cz)) (z49 (tIsi K C (.ref cw)) (z49 (tIsi K C (.ref cd)) (z49 (tIsi K C (.ref ct)) tNil))))) (ze9 3))
 (tSeq (tAsg (tTup (z49 (tC (.str "refused")) (z49 (tUn (rU fun i=>.int (-i)) (tC (.int 1))) tNil))) (ze9 1))
 (tIfS (tAnd (tB (tIsi K C (.ty "ValueError"))) (zr3 (tOp rEq (tBM K "list" (rCnt K) (tVar 3) (z49 (tC (.bl true)) tNil)) (tC (.int 1)))))
  (tAsg (tTup (z49 (tC (.str "refused")) (z49 (tBM K "list" (rIdx K) (tVar 3) (z49 (tC (.bl true)) tNil)) tNil))) (ze9 1)) zt7))
structure Kinds (K:y00) (C cz cw cd ct:Addr) (bs:List Bool) (j:Nat):Prop where
 b0:∃b0 b1 b2 b3,bs=[b0,b1,b2,b3]/\y36 K (.ref C) (.ref cz)=some b0/\y36 K (.ref C) (.ref cw)=some b1/\y36 K (.ref C) (.ref cd)=some b2/\y36 K (.ref C) (.ref ct)=some b3
 ve:y36 K (.ref C) (.type "ValueError")=some true
 one:bs.countP id=1
 hit:bs[j]?=some true
 no:∀m,m<j->bs[m]?=some false
theorem zf6 [Tbl] {K:y00} {C cz cw cd ct ea:Addr} {bs:List Bool} {j:Nat} (kk:Kinds K C cz cw cd ct bs j) {D:Ends} {σ:L2.St} {H:Hp} (hl:σ.length=4) (he:σ[2]?=some (some (.ref ea))) (hx:H ea=some (.ext (ExcAt ea C)))
  (k:∀H' p σ',Grow H H'->H' p=some (.tup [.str "refused",.int j])->σ'.length=4->σ'[1]?=some (some (.ref p))->D.nx σ' H'):zk0 K C cz cw cd ct D σ H:=by
 obtain⟨⟨b0,b1,b2,b3,rfl,k0,k1,k2,k3⟩,ve,one,hit,no⟩:=kk
 have isi:∀{c:V} {cv:Value} {b:Bool} {σ:L2.St} {H:Hp} {Q:VK},σ[2]?=some (some (.ref ea))->H ea=some (.ext (ExcAt ea C))->(∀u,RelV c u->u=cv)->y36 K (.ref C) cv=some b->Q (.bl b) H->tIsi K C c σ H Q :=
  fun {c cv b σ H Q} e1 e2 e3 e4 q=>⟨_,e1,ea,c,cv,b,rfl,e2,e3,e4,q⟩
 refine isi he hx (cv:=.ref cz) (fun u r=>r) k0 (isi he hx (cv:=.ref cw) (fun u r=>r) k1 (isi he hx (cv:=.ref cd) (fun u r=>r) k2 (isi he hx (cv:=.ref ct) (fun u r=>r) k3 ?_)))
 refine⟨by show 4<=y0j;decide,fun p hp=>?_⟩
 refine⟨1,rfl,?_⟩
 refine⟨by show 2<=y0j;decide,fun p2 hp2=>?_⟩
 have g1:Grow H (upd H p (.lst [.bl b0,.bl b1,.bl b2,.bl b3])):=Grow.laid hp
 have g2:=g1.trans (Grow.laid (o:=.tup [.str "refused",.int (-1)]) hp2)
 have ne1:ea≠p:=by rintro rfl;rw[hx] at hp;cases hp
 have hx1:upd H p (.lst [.bl b0,.bl b1,.bl b2,.bl b3]) ea=some (.ext (ExcAt ea C)):=by rw[z0f ne1];exact hx
 have ne2:ea≠p2:=by rintro rfl;rw[hx1] at hp2;cases hp2
 have ne3:p≠p2:=by rintro rfl;rw[z08] at hp2;cases hp2
 have e2:((σ.set 3 (some (V.ref p))).set 1 (some (V.ref p2)))[2]?=some (some (.ref ea)):=by rw[List.getElem?_set_ne (by decide),List.getElem?_set_ne (by decide)];exact he
 have e3:((σ.set 3 (some (V.ref p))).set 1 (some (V.ref p2)))[3]?=some (some (.ref p)):=by rw[List.getElem?_set_ne (by decide),List.getElem?_set_self (by omega)]
 have hL:upd (upd H p (.lst [.bl b0,.bl b1,.bl b2,.bl b3])) p2 (.tup [.str "refused",.int (-1)]) p=some (.lst [.bl b0,.bl b1,.bl b2,.bl b3]):=by rw[z0f ne3,z08]
 have sq:SqL K (upd (upd H p (.lst [.bl b0,.bl b1,.bl b2,.bl b3])) p2 (.tup [.str "refused",.int (-1)])) p ([b0,b1,b2,b3].map V.bl):=.inl (.inl hL)
 refine isi e2 (by rw[z0f ne2];exact hx1) (cv:=.type "ValueError") (fun u r=>r) ve ⟨true,rfl,?_⟩
 refine iteT ?_
 refine⟨_,e3,.inl ⟨rfl,_,sq⟩,p,[b0,b1,b2,b3],rfl,rfl,sq,rfl,⟨true,?_,?_⟩⟩
 ·rw[one]
  rfl
 ·refine iteT ?_
  refine⟨_,e3,.inl ⟨rfl,_,sq⟩,p,[b0,b1,b2,b3],j,rfl,rfl,sq,hit,no,?_⟩
  refine⟨by show 2<=y0j;decide,fun p3 hp3=>?_⟩
  refine k _ p3 _ (g2.trans (Grow.laid hp3)) z08 ?_ ?_
  ·simp[hl]
  ·rw[List.getElem?_set_self (by simp[hl])]
end
section
variable [Tbl]
abbrev cxLZ (P:y0q) (w:World) (K:y00) (mg:Str->Option Value) (base:Heap) (N:List Str) (qual:Str) (scope:Scope) (q:Addr) (cd:Value) (cl:List (Str×Addr)) (A:Around) (outer:List Env) (s:y04) (H:Hp) (E:XK):Cx :=
 (cxL P w K mg base N qual scope q cd cl A outer s H).wish fun e s'=>y0u (y33 P w) (A.deeper (envL qual scope s.heap.objs.size q cd cl)) (leaving (envL qual scope s.heap.objs.size q cd cl) e) (fun _ s''=>CXR P w outer H s E e s'') (fun e' s''=>CXR P w outer H s E e' s'') s'
section
variable {P:y0q} {w:World} {K:y00} {mg:Str->Option Value} {base:Heap} {k:Nat} {q c':Addr} {N:List Str} {qual:Str} {scope:Scope} {cl:List (Str×Addr)} {A:Around} {outer:List Env} {s:y04} {H:Hp} {σ:L2.St} {C:Addr}
theorem zlp {params:Arguments} {body:Expr} {pm ctv:Value} {r:Fz} {E:XK} (hk:scope.kind=.function) (hco:scope.isCoroutine=false) (hgen:scope.isGenerator=false) (hnc:∀x∈scope.names,x.2≠.cell)
  (hb:∀(A:Around) (outer:List Env) (s:y04) (H:Hp) (E:XK),Room k (A.deeper (envL qual scope s.heap.objs.size q (.ref c') cl))->PEz (cxLZ P w K mg base N qual scope q (.ref c') cl A outer s H E) C body r)
  (bd:bindArgs (PySem.W.kla_fn "<lambda>" qual params body scope cl pm (.ref c') ctv) ⟨[],[]⟩=pure [])
  (hr:Room (k+1) A) (e0:Env0 P w K mg base A outer s H) (hq:H q=some (lamO (PySem.W.kla_obj "<lambda>" qual params body scope cl pm c' ctv) q)) (hc:H c'=some (codO c' qual)) (Cp:Caps N scope cl σ H s.heap)
  (h:∃F₀ En O F ε,RelE K F₀ En O F H ε σ/\r ε=true/\∀F' H',Ext F H F' H'->E (.ref C) none H'):y2x (y33 P w) A (.call (.ref q) ⟨[],[]⟩) (CR (CXR P w) outer P w H s (fun _ _=>False) E) s:=by
 have nolim:s.heap.NoLimit:=e0.mod.nolimit.keeps fun b o e=>(e0.bs b o e).1
 refine PySem.W.kla_callFunE hr.depth (e0.hok q _ hq).1 rfl hco hgen rfl (e0.hok c' _ hc).1 ?_
 rw[bd]
 refine y06 (wpAny_newFunctionEnv hnc (fun x hx=>by cases hx) (fun h₁ hns hsb=>⟨nolim.fresh _ hsb,?_⟩) hk)
 have kp:∀b o,s.heap.get? b=some o->h₁.get? b=some o:=fun b o e=>hsb.extBut b o (y0y (y0c e)) (y03 _ e)
 show y2x _ _ (.expr body (envL qual scope s.heap.objs.size q (.ref c') cl)) _ _
 refine PySem.W.kla_codeExpr ?_
 have I0:Inv (cxL P w K mg base N qual scope q (.ref c') cl A outer s H) [] σ H { s with heap:=h₁,toks:=s.toks+([]:List (Str×Value)).length }:=zb5 hk hr.hd e0 Cp hns kp
 have I:Inv (cxLZ P w K mg base N qual scope q (.ref c') cl A outer s H E) [] σ H { s with heap:=h₁,toks:=s.toks+([]:List (Str×Value)).length }:=I0.wish _
 obtain⟨F₀,En,O,F,ε,rl,er,kq⟩:=h
 refine y1d (hb A outer s H E (hr.deeper _) [] _ σ H (fun _ _=>False) I ⟨F₀,En,O,F,ε,rl,er,fun F' H' x pins σ1 H1 s1 e1 s2 I1 t=>?_⟩) (fun u s' hs=>?_) fun e s' hs=>hs
 ·exact y1d (zh0 (X:=cxLZ P w K mg base N qual scope q (.ref c') cl A outer s H E) (E:=E) (Z:=fun _ _=>False) I1 t (kq F' H' x)) (fun _ _ z=>z) fun _ _ z=>z.elim
 ·obtain⟨_,_,_,_,z⟩:=hs
  exact z.elim
end
noncomputable def zwl (X:Cx) (C:Addr) (H':Hp):Prop:=∀(pins:List (Addr×Obj)) (σ:L2.St) (H:Hp) (s:y04) (e:Value) (s':y04),Inv X pins σ H s->zq1 X.prog X.w X.stack H s C H' e s'->X.xe e s'
noncomputable def zk1 (X:Cx) (C:Addr) (i:Nat):TE:=fun σ H _=>∃q,σ[i]?=some (some (.ref q))/\(∃(o:Obj) (fd:y0b),H q=some (lamO o q)/\o.data=.func fd) /\
 ∀(pins:List (Addr×Obj)) (s:y04),Inv X pins σ H s->y2x (y33 X.prog X.w) X.A (.call (.ref q) ⟨[],[]⟩) (CR (CXR X.prog X.w) X.stack X.prog X.w H s (fun _ _=>False) fun cl _ H'=>∃C',cl=.ref C'/\zwl X C' H') s
theorem zoi {X:Cx} {C:Addr} {i:Nat} {x:Str} {p pos:Pos} (hn:PE X (.Name x p) (tVar i)):PE X (.Call (.Name x p) [] [] pos) (zk1 X C i):=by
 intro pins s σ H Q I ⟨q,hq,⟨o,fd,ho,hfd⟩,hc⟩
 refine y2k (thn (hn pins s σ H (fun v H1=>v=.ref q/\H1=H) I ⟨.ref q,hq,rfl,rfl⟩) fun v s1 ⟨y,H1,I1,ry,ey,eh⟩=>?_)
 subst ey
 subst eh
 cases ry
 have fa:PySem.W.FnAt q s1.heap:=by
  have h1:s1.heap.get? q=some o:=(I1.hok q _ ho).1
  obtain⟨c,dct,dt,sl⟩:=o
  cases hfd
  exact⟨_,_,_,_,h1⟩
 refine PySem.W.callWith_F0 fa ?_
 refine y30 (y2s (hc pins s1 I1) fun r s' hq=>?_)
 cases r with
 | error e =>
  obtain⟨C1,H',fl,C2,e2,ok⟩:=hq
  cases e2
  exact ok pins σ H1 s1 e s' I1 fl
 | ok fl =>
  cases fl with
  | ret u =>
   obtain⟨_,_,_,_,_,_,_,z⟩:=hq
   exact z.elim
  | next=>exact y1w hq
  | brk=>exact y1w hq
  | cont=>exact y1w hq
noncomputable def zh7 (X:Cx) (C:Addr) (j:Nat):TS:=fun D σ H=>∃q,σ.length=4/\σ[0]?=some (some (.ref q))/\(∃(o:Obj) (fd:y0b),H q=some (lamO o q)/\o.data=.func fd)/\∃Φ:Hp->Prop,
 (∀(pins:List (Addr×Obj)) (s:y04),Inv X pins σ H s->y2x (y33 X.prog X.w) X.A (.call (.ref q) ⟨[],[]⟩) (CR (CXR X.prog X.w) X.stack X.prog X.w H s (fun _ _=>False) fun cl _ H'=>cl=.ref C/\Φ H') s) /\
 ∀H',Φ H'->∀H'' p,Grow H' H''->H'' p=some (.tup [.str "refused",.int j])->D.rt (.ref p) H''
abbrev Cx.bears (X:Cx) (pn:List (Addr×Obj)) (E:Value->y04->Prop):Cx:={ X with pn:=pn,xe:=E }
theorem zm3 {X:Cx} {pins:List (Addr×Obj)} {σ:L2.St} {H:Hp} {s:y04} (I:Inv X pins σ H s) (E:Value->y04->Prop):Inv (Cx.bears X (X.pn++pins) E) [] σ H s :=
 ⟨⟨I.ok.mod,I.ok.kind,I.ok.glob,I.ok.blt,I.ok.above,I.ok.inj,I.ok.has,I.ok.cab,I.ok.hd,I.ok.frames,I.ok.stk,I.ok.exf,I.ok.bs,I.ok.bsz,I.ok.noex,I.ok.exfs,I.ok.funs,I.ok.frf⟩,I.os,I.bare,I.base,I.loc,I.cell,I.free,I.freeC,fun p hp=>I.pin p (by simpa using hp),I.hok,I.len⟩
theorem z9j {X:Cx} {pins pins2:List (Addr×Obj)} {σ:L2.St} {H:Hp} {s:y04} {E:Value->y04->Prop} (ok:X.Ok) (I:Inv (Cx.bears X (X.pn++pins) E) pins2 σ H s):Inv X pins σ H s :=
 ⟨ok,I.os,I.bare,I.base,I.loc,I.cell,I.free,I.freeC,fun p hp=>I.pin p (List.mem_append_left _ hp),I.hok,I.len⟩
theorem zoc {X:Cx} {C CD cz cw cd ct:Addr} {bs:List Bool} {j:Nat} {body suite:List Stmt} {b₀:Stmt} {np pos hpos rpos npos:Pos}
  (hbody:∀(pn:List (Addr×Obj)) (E:Value->y04->Prop),PSs (Cx.bears X pn E) body (tAsg (tTup (z49 (tC (.str "told")) (z49 (zk1 (Cx.bears X pn E) C 0) tNil))) (ze9 1)))
  (hsuite:∀ea,PSs (Cx.inX X ea) (b₀::suite) (zk0 X.K C cz cw cd ct)) (kk:Kinds X.K C cz cw cd ct bs j)
  (hm:X.mg "DoorError"=some (.ref CD)) (h1:PySem.W.typeIn X.K (.ref CD)=some (.type "type")) (h2:PySem.W.mroIn X.K CD (.type "BaseException")=some true) (h3:PySem.W.mroIn X.K C (.ref CD)=some true) (hc:(PySem.W.clsIn X.K CD).isSome=true)
  (hret:PE X (.Name "_law_found" npos) (tVar 1))
  (hN:X.N.Nodup) (hi:X.N[2]?=some ("e":Str)) (hlen:X.N.length=4) (hlo:X.env.kindOf "e"=some .local) (hst:X.stack=X.env::X.outer) (hf:X.env.frame=some X.env.locals) (hg:Gl X "DoorError") :
  PSs X [.Try body [.ExceptHandler (some (.Name "DoorError" np)) (some "e") (b₀::suite) hpos] [] [] pos,.Return (some (.Name "_law_found" npos)) rpos] (zh7 X C j):=by
 have htry:PS X (.Try body [.ExceptHandler (some (.Name "DoorError" np)) (some "e") (b₀::suite) hpos] [] [] pos) (fun D σ H=>∃q,σ.length=4/\σ[0]?=some (some (.ref q))/\(∃(o:Obj) (fd:y0b),H q=some (lamO o q)/\o.data=.func fd)/\∃Φ:Hp->Prop,
   (∀(pins:List (Addr×Obj)) (s:y04),Inv X pins σ H s->y2x (y33 X.prog X.w) X.A (.call (.ref q) ⟨[],[]⟩) (CR (CXR X.prog X.w) X.stack X.prog X.w H s (fun _ _=>False) fun cl _ H'=>cl=.ref C/\Φ H') s) /\
   ∀H',Φ H'->∀H'' p σ'',Grow H' H''->H'' p=some (.tup [.str "refused",.int j])->σ''[1]?=some (some (.ref p))->D.nx σ'' H''):=by
  intro pins s σ H D I ⟨q,hl,hq,hlam,Φ,hcall,hk⟩
  refine wpAny_Try_except ?_
  let E':Value->y04->Prop:=fun e s₁=>y0u (y33 X.prog X.w) X.A (noteFrame e X.env) (fun _ s₂=>y0u (y33 X.prog X.w) X.A (setFlight e none) (fun _ s₃=>y0u (y33 X.prog X.w) X.A (handleBy e X.env [.ExceptHandler (some (.Name "DoorError" np)) (some "e") (b₀::suite) hpos]) (L2.SP X pins D) X.xe s₃) X.xe s₂) X.xe s₁
  refine y1d (hbody (X.pn++pins) E' [] s σ H { nx:=fun _ _=>False,rt:=fun _ _=>False } (zm3 I E') ⟨q,hq,hlam,fun pins2 s2 I2=>?_⟩) (fun f s1 hs=>?_) fun e s1 he=>he
  ·refine y2s (hcall (pins) s2 (z9j I.ok I2)) fun r s' hr=>?_
   cases r with
   | ok fl =>
    cases fl with
    | ret u=>exact hr
    | next=>exact hr
    | brk=>exact hr
    | cont=>exact hr
   | error e =>
    obtain⟨C1,H',fl,e1,ph⟩:=hr
    cases e1
    refine⟨C,H',fl,C,rfl,fun pins3 σ3 H3 s3 e3 s4 I3 fl3=>?_⟩
    have J:=z9j I.ok I3
    have l3:σ3.length=4:=by rw[J.len,hlen]
    refine zpr (i:=2) J fl3 hm h1 h2 h3 hc hsuite (fun ea hea=>zf6 kk (ea:=ea) (by simp[l3]) (List.getElem?_set_self (by omega)) z08 fun H'' p σ' g hp hl' h1'=>?_) hN hi hlo hst hf hg (by decide)
    refine hk H' ph H'' p _ ((Grow.laid hea).trans g) hp ?_
    rw[List.getElem?_set_ne (by decide)]
    exact h1'
  ·cases f with
   | next=>obtain⟨_,_,_,z⟩:=hs;exact y1w z
   | brk=>obtain⟨_,_,_,z⟩:=hs;exact y1w z
   | cont=>obtain⟨_,_,_,z⟩:=hs;exact y1w z
   | ret u=>obtain⟨_,_,_,_,_,z⟩:=hs;exact y1w z
 refine zae (z4l htry (z6i (zkt hret))) fun D σ H ⟨q,hl,hq,hlam,Φ,hcall,hk⟩=>?_
 exact⟨q,hl,hq,hlam,Φ,hcall,fun H' ph H'' p σ'' g hp h1'=>⟨_,h1',hk H' ph H'' p g hp⟩⟩
end
section
variable [Tbl]
noncomputable def zil (a:Str):T->Option T
 | .str x=>if (reprText x).length<=10000/\a.length<=1000 then some (.str (Str.empty++a++reprText x)) else none
 | .int i=>if i.natAbs<1000/\a.length<=1000 then some (.str (Str.empty++a++Str.ofString (toString i))) else none
 | _=>none
theorem ztt {X:Cx} {e:Expr} {f:Fe} {a:Str} {j:Nat} {p1 p2 p3:Pos} (he:PEr X e f):PEv X (.JoinedStr [.Constant (.str a) j p1,.FormattedValue e 114 none p2] p3) (op1 (zil a) f):=by
 intro pins s σ H Q I ⟨F₀,E,O,F,ε,t,r,e1,k⟩
 simp only[op1,y01] at e1
 obtain⟨x,ex,e1⟩:=e1
 have emp:∀y:Str,(Str.empty++y).length=y.length:=fun y=>by rw[strLen_append];simp[Str.empty,Str.length]
 have app:∀y z:Str,(Str.empty++y++z).length=y.length+z.length:=fun y z=>by rw[strLen_append,emp]
 refine wpAny_JoinedStr ?_
 refine Calls.Constant_str ⟨a,_,rfl,?_,?_⟩
 ·rw[emp,y2n]
  unfold zil at e1
  split at e1
  ·split at e1
   next h=>have:=h.2;omega
   next=>cases e1
  ·split at e1
   next h=>have:=h.2;omega
   next=>cases e1
  ·cases e1
 show y0u _ _ (eval (.FormattedValue e 114 none p2) X.env) _ _ _
 refine wpAny_FormattedValue_repr ?_
 refine thn (he pins _ σ H (fun v H1=>∃F1,Ext F H F1 H1/\RepR X.K O F1 H1 x v) (I.tok _) ⟨F₀,E,O,F,ε,x,r,ex,fun v F' H' x' rv=>⟨F',x',rv⟩⟩) fun u s1 ⟨v,H1,I1,rv,F1,x1,rx⟩=>?_
 cases x with
 | str y =>
  simp only[zil] at e1
  split at e1
  next h =>
   cases e1
   have ev:=rx.str
   subst ev
   obtain⟨tk,rfl⟩:=rv
   have h1:=h.1
   have h2:=h.2
   refine wpAny_pyReprObj_str ?_ (by rw[y2n];omega)
   have fin:∀(tt:Tok) (ss:y04),Inv X pins σ H1 ss->∃y_1 t,Value.str (reprText y) tt=Value.str y_1 t/\(Str.empty++a++y_1).length<=y0j/\Joins (y33 X.prog X.w) X.A X.xe [] (Str.empty++a++y_1) (fun out s₁=>out.length<=y0j/\EP X pins σ Q (.str out s₁.toks) { s₁ with toks:=s₁.toks+1 }) ss:=fun tt ss Is=>by
    have hz:(Str.empty++a++reprText y).length<=y0j:=by rw[app,y2n];omega
    exact⟨_,_,rfl,hz,hz,⟨.str _,H1,Is.tok _,⟨_,rfl⟩,k _ F1 H1 x1 (by simp[Rep])⟩⟩
   exact wpAny_formatField_str (fin _ _ (I1.tok _)) (fin _ _ ((I1.tok _).tok _)) (by rw[y2n];omega)
  next=>cases e1
 | int i =>
  simp only[zil] at e1
  split at e1
  next h =>
   cases e1
   have ev:=rx.int
   subst ev
   obtain⟨tk,rfl⟩:=rv
   have h1:=h.1
   have h2:=h.2
   have hd:i.natAbs.log2<1920:=by
    by_cases h0:i.natAbs=0
    ·rw[h0];decide
    ·exact y0x ((Nat.log2_lt h0).mpr (show i.natAbs<2 ^ 10 by omega)) (by decide)
   have hln:(Str.ofString (toString i)).length<=4300:=by
    have e:=int_text_length_le10 (k:=3) (by decide) (show i.natAbs<10 ^ 3 from h1)
    rw[PySem.ofString_length]
    omega
   refine wpAny_pyReprObj_gives (typeIs_int _ i tk) PySem.F.slot_int_repr PySem.F.entry_int_repr (PySem.F.args_int_repr_1 _) (gives_int_repr i tk hd) ?_ rfl (by rw[y2n];exact y1o hln (by omega))
   have fin:∀(tt:Tok) (ss:y04),Inv X pins σ H1 ss->∃y_1 t,Value.str (Str.ofString (toString i)) tt=Value.str y_1 t/\(Str.empty++a++y_1).length<=y0j/\Joins (y33 X.prog X.w) X.A X.xe [] (Str.empty++a++y_1) (fun out s₁=>out.length<=y0j/\EP X pins σ Q (.str out s₁.toks) { s₁ with toks:=s₁.toks+1 }) ss:=fun tt ss Is=>by
    have hz:(Str.empty++a++Str.ofString (toString i)).length<=y0j:=by rw[app,y2n];omega
    exact⟨_,_,rfl,hz,hz,⟨.str _,H1,Is.tok _,⟨_,rfl⟩,k _ F1 H1 x1 (by simp[Rep])⟩⟩
   exact wpAny_formatField_str (fin _ _ (I1.tok _)) (fin _ _ ((I1.tok _).tok _)) (by rw[y2n];omega)
  next=>cases e1
 | none=>cases e1
 | bool b=>cases e1
 | tuple b=>cases e1
 | list b=>cases e1
 | dict b=>cases e1
end
section
noncomputable def zop (K:y00) (CD cz cw cd ct C:Addr) (b0 b1 b2 b3:Bool):Bool :=
 (PySem.W.clsIn K C).isSome && (PySem.W.findIn K (.ref C) "__getattribute__" == some (some (.builtin "BaseException.__getattribute__"))) && (PySem.W.findIn K (.ref C) "__getattr__" == some none)
 && (PySem.W.findIn K (.ref C) "__class__" == some (some (.builtin "object.__class__"))) && (PySem.W.specialIn K (.builtin "object.__class__") "__get__" == some (some (.builtin "getset_descriptor.__get__")))
 && (PySem.W.takesIn K (.builtin "object.__class__") == some true) && (PySem.W.mroIn K C (.type "object") == some true) && (PySem.W.mroIn K C (.type "BaseException") == some true)
 && (PySem.W.mroIn K C (.ref CD) == some true) && PySem.W.excIn K C bmV "ValueError.__new__"
 && (y36 K (.ref C) (.ref cz) == some b0) && (y36 K (.ref C) (.ref cw) == some b1) && (y36 K (.ref C) (.ref cd) == some b2) && (y36 K (.ref C) (.ref ct) == some b3)
 && (y36 K (.ref C) (.type "ValueError") == some true)
def zmn (K:y00) (CD:Addr):Bool:=(PySem.W.typeIn K (.ref CD) == some (.type "type")) && (PySem.W.mroIn K CD (.type "BaseException") == some true) && (PySem.W.clsIn K CD).isSome
structure Ref1 (K:y00) (CD cz cw cd ct C:Addr) (j:Nat):Prop where
 ok:ExcOk K C
 mro:PySem.W.mroIn K C (.ref CD)=some true
 new:PySem.W.excIn K C bmV "ValueError.__new__"=true
 kinds:∃bs,Kinds K C cz cw cd ct bs j
theorem zrb {K:y00} {CD cz cw cd ct C:Addr} {b0 b1 b2 b3:Bool} {j:Nat} (h:zop K CD cz cw cd ct C b0 b1 b2 b3=true) (one:[b0,b1,b2,b3].countP id=1) (hit:[b0,b1,b2,b3][j]?=some true) (no:∀m,m<j->[b0,b1,b2,b3][m]?=some false) :
  Ref1 K CD cz cw cd ct C j:=by
 unfold zop at h
 simp only[y1b,beq_iff_eq] at h
 obtain⟨⟨⟨⟨⟨⟨⟨⟨⟨⟨⟨⟨⟨⟨h1,h2⟩,h3⟩,h4⟩,h5⟩,h6⟩,h7⟩,h8⟩,h9⟩,h10⟩,h11⟩,h12⟩,h13⟩,h14⟩,h15⟩:=h
 exact⟨⟨h1,h2,h3,h4,h5,h6,h7,h8⟩,h9,h10,_,⟨b0,b1,b2,b3,rfl,h11,h12,h13,h14⟩,h15,one,hit,no⟩
theorem zvr {K:y00} {CD cz cw cd ct:Addr} (h:zop K CD cz cw cd ct cz true false false false=true):Ref1 K CD cz cw cd ct cz 0:=zrb h rfl rfl fun m hm=>by omega
structure Names (K:y00) (mg:Str->Option Value) (CD cz cw cd ct:Addr):Prop where
 door:mg "DoorError"=some (.ref CD)
 nz:mg "NoZone"=some (.ref cz)
 nw:mg "NoWay"=some (.ref cw)
 nd:mg "NoDeed"=some (.ref cd)
 nt:mg "NoText"=some (.ref ct)
 isi:mg "isinstance"=none
 val:mg "ValueError"=none
 ok:zmn K CD=true
section
variable [Tbl] {X:Cx} {C CD cz cw cd ct:Addr} {j:Nat} {pos p p1:Pos}
theorem zde {ec:Expr} {c:V} (O:ExcOk X.K C) (z:X.mg "isinstance"=none) (he:PE X (.Name "e" p1) (tVar 2)) (hc:PE X ec (tC c)) (hg:Gl X "isinstance":=by rfl)
  (hs:y0a [.Name "e" p1,ec] X.env=(false,eval (.Name "e" p1) X.env)::y0a [ec] X.env:=by rfl) (hs2:y0a [ec] X.env=(false,eval ec X.env)::y0a [] X.env:=by rfl)
  (hpl:(y2j pos (y0a [ec] X.env)).any (·.1)=false:=by rfl) :
  PE X (.Call (.Name "isinstance" p) [.Name "e" p1,ec] [] pos) (tIsi X.K C c):=z42 (zv8 O) hg z PyProof.Rows.Boot.«isinstance» (z13 he (z13 hc z34 hs2) hs) (he:=hs) (hpl:=hpl)
theorem zt4 {body suite:List Stmt} {b₀:Stmt} {np pos hpos rpos npos:Pos} (N:Names X.K X.mg CD cz cw cd ct) (R:Ref1 X.K CD cz cw cd ct C j)
  (hbody:∀(pn:List (Addr×Obj)) (E:Value->y04->Prop),PSs (Cx.bears X pn E) body (tAsg (tTup (z49 (tC (.str "told")) (z49 (zk1 (Cx.bears X pn E) C 0) tNil))) (ze9 1)))
  (hsuite:∀ea,PSs (Cx.inX X ea) (b₀::suite) (zk0 X.K C cz cw cd ct)) (hret:PE X (.Name "_law_found" npos) (tVar 1))
  (hN:X.N.Nodup) (hi:X.N[2]?=some ("e":Str):=by rfl) (hlen:X.N.length=4:=by rfl) (hlo:X.env.kindOf "e"=some .local:=by rfl) (hst:X.stack=X.env::X.outer:=by rfl) (hf:X.env.frame=some X.env.locals:=by rfl) (hg:Gl X "DoorError":=by rfl) :
  PSs X [.Try body [.ExceptHandler (some (.Name "DoorError" np)) (some "e") (b₀::suite) hpos] [] [] pos,.Return (some (.Name "_law_found" npos)) rpos] (zh7 X C j):=by
 have ok:=N.ok
 unfold zmn at ok
 simp only[y1b,beq_iff_eq] at ok
 obtain⟨⟨h1,h2⟩,h3⟩:=ok
 obtain⟨bs,kk⟩:=R.kinds
 exact zoc hbody hsuite kk N.door h1 h2 R.mro h3 hret hN hi hlen hlo hst hf hg
end
end
section
variable [Tbl]
end
section
variable [Tbl]
end
section
variable [Tbl]
section
variable {P:y0q} {w:World} {K:y00} {mg:Str->Option Value} {base:Heap} {k:Nat} {q c':Addr} {N:List Str} {qual:Str} {scope:Scope} {cd:Value} {cl:List (Str×Addr)} {A:Around} {outer:List Env} {s:y04} {H:Hp} {σ:L2.St} {y:Str}
end
section
variable {M:Model} {A:Around} {E:Value->y04->Prop} {s:y04} {env:Env}
end
end
section
variable [Tbl]
mutual
noncomputable def gtD:T->T->Option Bool
 | .int a,.int b=>some (decide (b<a))
 | .tuple xs,.tuple ys=>lexG xs ys
 | _,_=>none
noncomputable def lexG:List T->List T->Option Bool
 | [],[]=>some false
 | [],_::_=>some false
 | _::_,[]=>some true
 | x::xs,y::ys=>if y1z x y then lexG xs ys else gtD x y
end
noncomputable def GtAt (A:Around) (s:y04) (y x:Value) (b:Bool):Prop :=
 ∀(prog:y0q) (w:World) (E:Value->y04->Prop) (Q:Value->y04->Prop),Q (.bool b) s->y0u (y33 prog w) A (richCompare .Gt y x) Q E s
inductive GoodG (A:Around) (s:y04) (fin:Bool):List (Value×Value)->Bool->Prop
 | nil:GoodG A s fin [] fin
 | eq {y x:Value} {r:List (Value×Value)} {b:Bool}:SeqAt.EqAt A s y x true->GoodG A s fin r b->GoodG A s fin ((y,x)::r) b
 | lt {y x:Value} {r:List (Value×Value)} {b:Bool}:SeqAt.EqAt A s y x false->GtAt A s y x b->GoodG A s fin ((y,x)::r) b
section
open PySem.SeqAt
open PySem.AutoSeq1 (wpAny_loadPart')
open PySem.MeetsSeq PySem.MeetsSeq2 PySem.MeetsSeq3
theorem zcn (l b:Addr) (items items2:Array Value) (n n2:Nat) (dd dd2:Option Addr) (sl sl2:Array (Option Value)) (z:Bool) :
  Meets (Builtin.«tuple.__gt__» ⟨[.ref l,.ref b],[]⟩)
   (fun A R s=>s.heap.get? l=some { cls:=.type "tuple",dict:=dd,data:=.seq items n,slots:=sl }/\s.heap.get? b=some { cls:=.type "tuple",dict:=dd2,data:=.seq items2 n2,slots:=sl2 } /\
    GoodG A.in1 s (decide (items2.size<items.size)) (items.toList.zip items2.toList) z/\R (.ok (.ret (.bool z))) s) :=
 .of_wp fun prog w A R s h=>by
  obtain⟨hp,g,d,tk,os⟩:=s;obtain⟨hl,hb,hg,h⟩:=h
  have f2:=AutoSeq1.sub_tuple_tuple
  wp_walk using wpAny_loadPart' hl,wpAny_loadPart' hb,wpAny_forIn_list _ (fun rest b s'=>b.1=none/\s'=⟨hp,g,d,tk,os⟩/\GoodG A.in1 ⟨hp,g,d,tk,os⟩ (decide (items2.size<items.size)) rest z) _
  case turn =>
   rintro⟨y,x⟩ rest b s' ⟨hb',rfl,hG⟩
   cases hG with
   | eq he hG =>
    refine y02 (he prog w _ _ ?_)
    wp_walk
    exact⟨rfl,rfl,hG⟩
   | lt he hlt =>
    refine y02 (he prog w _ _ ?_)
    have hri:=hlt prog w
    wp_walk using hri
    exact⟨_,rfl,h⟩
  case fin =>
   rintro⟨b1,b2⟩ s' ⟨hb',rfl,hG⟩
   simp only at hb'
   subst hb'
   cases hG
   wp_walk
   exact⟨_,rfl,by simpa [Builtin.Tuple.tupleCompareSizes] using h⟩
  case h =>
   exact⟨rfl,rfl,hg⟩
mutual
theorem zpc:∀(da db:T) (A:Around) (s:y04) (a b:Value) (as bs:List Addr) (r:Bool),Reads s.heap a da as->Reads s.heap b db bs->da.canLay0=true->db.canLay0=true->A.units+min da.depth db.depth<cLine->gtD da db=some r->GtAt A s a b r
 | .int i,.int j,A,s,_,_,_,_,r,.int _ t,.int _ u,_,_,_,e=>by
  unfold gtD at e
  cases e
  exact fun prog w E Q q=>(PyProof.Rows.gt_int q:y0u (y33 prog w) A (y2p .Gt (.int i t) (.int j u)) Q E s)
 | .tuple xs,.tuple ys,A,s,_,_,_,_,r,.tuple (a:=l) (o:=o) (vs:=vs) (n:=n) h1 h2 h3 h4,.tuple (a:=l') (o:=o') (vs:=vs') (n:=n') k1 k2 k3 k4,ha,hb,hu,e=>by
  unfold gtD at e
  simp only[PyData.canLay0] at ha hb
  simp only[y24] at hu
  have hG:=goodG_reads xs ys A.in1 s vs.toList vs'.toList _ _ r h4 k4 ha hb (room_in hu) e
  obtain⟨cls,dd,data,sl⟩:=o
  obtain⟨cls2,dd2,data2,sl2⟩:=o'
  simp only at h2 h3 k2 k3
  subst h2 h3 k2 k3
  rw[y1y,y1y] at hG
  exact fun prog w E Q q=>richCompare_meets_room (op:=.Gt) ⟨_,h1,rfl⟩ ⟨_,k1,rfl⟩ PySem.F.slot_tuple_gt PySem.F.entry_tuple_gt (PySem.F.args_tuple_gt_2 _ _) (zcn l l' vs vs' n n' dd dd2 sl sl2 r)
   ⟨h1,k1,hG,show Value.bool r≠Value.notImplemented/\Q (.bool r) s from ⟨(fun x=>nomatch x),q⟩⟩ (by omega)
 | .none,_,_,_,_,_,_,_,_,_,_,_,_,_,e=>by simp[gtD] at e
 | .bool _,_,_,_,_,_,_,_,_,_,_,_,_,_,e=>by simp[gtD] at e
 | .str _,_,_,_,_,_,_,_,_,_,_,_,_,_,e=>by simp[gtD] at e
 | .list _,_,_,_,_,_,_,_,_,_,_,_,_,_,e=>by simp[gtD] at e
 | .dict _,_,_,_,_,_,_,_,_,_,_,_,_,_,e=>by simp[gtD] at e
 | .int _,.none,_,_,_,_,_,_,_,_,_,_,_,_,e=>by simp[gtD] at e
 | .int _,.bool _,_,_,_,_,_,_,_,_,_,_,_,_,e=>by simp[gtD] at e
 | .int _,.str _,_,_,_,_,_,_,_,_,_,_,_,_,e=>by simp[gtD] at e
 | .int _,.list _,_,_,_,_,_,_,_,_,_,_,_,_,e=>by simp[gtD] at e
 | .int _,.dict _,_,_,_,_,_,_,_,_,_,_,_,_,e=>by simp[gtD] at e
 | .int _,.tuple _,_,_,_,_,_,_,_,_,_,_,_,_,e=>by simp[gtD] at e
 | .tuple _,.none,_,_,_,_,_,_,_,_,_,_,_,_,e=>by simp[gtD] at e
 | .tuple _,.bool _,_,_,_,_,_,_,_,_,_,_,_,_,e=>by simp[gtD] at e
 | .tuple _,.str _,_,_,_,_,_,_,_,_,_,_,_,_,e=>by simp[gtD] at e
 | .tuple _,.list _,_,_,_,_,_,_,_,_,_,_,_,_,e=>by simp[gtD] at e
 | .tuple _,.dict _,_,_,_,_,_,_,_,_,_,_,_,_,e=>by simp[gtD] at e
 | .tuple _,.int _,_,_,_,_,_,_,_,_,_,_,_,_,e=>by simp[gtD] at e
theorem goodG_reads:∀(xs ys:List T) (A:Around) (s:y04) (vs ws:List Value) (as bs:List Addr) (r:Bool),ReadsAll s.heap vs xs as->ReadsAll s.heap ws ys bs->y1g xs=true->y1g ys=true->A.units+min (y1e xs) (y1e ys)<cLine->lexG xs ys=some r->GoodG A s (decide (ws.length<vs.length)) (vs.zip ws) r
 | [],[],A,s,_,_,_,_,r,.nil,.nil,_,_,_,e=>by
  unfold lexG at e
  cases e
  exact .nil
 | [],_::_,A,s,_,_,_,_,r,.nil,.cons _ _,_,_,_,e=>by
  unfold lexG at e
  cases e
  exact GoodG.nil
 | _::_,[],A,s,_,_,_,_,r,.cons _ _,.nil,_,_,_,e=>by
  unfold lexG at e
  cases e
  exact GoodG.nil
 | x::xs,y::ys,A,s,_,_,_,_,r,.cons r1 r2,.cons q1 q2,ha,hb,hu,e=>by
  simp only[y1g,y1b] at ha hb
  simp only[y1e] at hu
  unfold lexG at e
  have he:=eqAt_reads x y A s _ _ _ _ r1 q1 ha.1 hb.1 (room_head hu)
  split at e
  next h =>
   rw[h] at he
   have ih:=goodG_reads xs ys A s _ _ _ _ r r2 q2 ha.2 hb.2 (room_tail hu) e
   rw[y20]
   simp only[y0w,Nat.add_lt_add_iff_right]
   exact .eq he ih
  next h =>
   rw[Bool.not_eq_true] at h
   rw[h] at he
   rw[y20]
   exact .lt he (zpc x y A s _ _ _ _ r r1 q1 ha.1 hb.1 (room_head hu) e)
end
end
end
section
variable [Tbl]
section
variable {X:Cx} {e:Expr} {fx:Fx} {pos:Pos}
end
end
section
variable [Tbl]
open PySem.SeqAt
open PySem.W (kas_ask kas_sort kat_run kat_snds kat_lt kat_kind KatTups KatLex KatGo kas_item KasT)
section
variable {prog:y0q} {w:World} {A:Around} {E:Value->y04->Prop} {s:y04}
end
section
variable {prog:y0q} {w:World} {A:Around} {s:y04}
end
section
variable {X:Cx}
variable {e:Expr} {es:List Expr} {fs:List Fe} {p pos:Pos}
end
end
section
variable [Tbl]
structure PEw (X:Cx) (e:Expr) (f:Fe):Prop where
 h:PEv X e f
structure PAw (X:Cx) (es:List Expr) (fs:List Fe):Prop where
 h:PAv X es fs
structure PSw (X:Cx) (st:Stmt) (g:Fs):Prop where
 h:PSt X st g
section
variable {X:Cx} {e b:Expr} {es:List Expr} {f g:Fe} {fs:List Fe} {pos:Pos}
theorem z1c:PAw X [] []:=⟨z0a⟩
theorem z37 {x1} (h:PAw X es fs):PEw X (.Tuple es x1 pos) (z01 fs):=⟨z1t h.h⟩
end
section
variable {X:Cx} {e:Expr} {pos:Pos}
end
end
section
variable [Tbl]
section
variable {X:Cx} {iter elt:Expr} {scope:Scope} {it:Fi} {fx:Fx} {pos py:Pos} {y:Str} {N2:List Str}
end
section
variable {X:Cx} {k n c C:Nat} {ns:List Str} {d:List Sl->Option T} {x:Str} {p pos:Pos} {o:Expr} {fo:Fo}
end
end
end D
end
section
namespace D
open PySem
def isI (ct:String):T->Bool
 | .int _=>ct == "int"
 | .bool _=>ct == "int" || ct == "bool"
 | .str _=>ct == "str"
 | .tuple _=>ct == "tuple"
 | .list _=>ct == "list"
 | _=>false
def oIsI (ct:String):T->Option T
 | .dict _=>none
 | t=>some (.bool (isI ct t))
def zbg (x:Str):Bool:=x.cps.toList.all fun c=>decide (c<128)
def chT (c:Nat):T:=.str ⟨#[c]⟩
def itA (f:Fe):Fi:=fun ε=>(f ε).bind fun t=>match t with
 | .tuple ts=>some ts
 | .list ts=>some ts
 | .str x=>if zbg x then some (x.cps.toList.map chT) else none
 | _=>none
def oSlA (t:T) (lo hi:Option Int):Option T:=match t with
 | .str x=>if x.length<=big then some (.str ⟨(cutZ x.cps.toList lo hi).toArray⟩) else none
 | t=>oSl t lo hi
def z0g (f:Fe) (lo hi:Ev->Option (Option Int)):Fe:=fun ε=>(f ε).bind fun t=>(lo ε).bind fun l=>(hi ε).bind fun h=>oSlA t l h
def zll (i:Int):Bool:=decide (i.natAbs.log2<1920)
def strI (i:Int):Str:=Str.ofString (toString i)
def oStr:List T->Option T
 | [.str x]=>some (.str x)
 | [.int i]=>if zll i then some (.str (strI i)) else none
 | _=>none
def oOrd:List T->Option T
 | [.str x]=>if x.length=1 then some (.int (x.cps.getD 0 0:Nat)) else none
 | _=>none
def zs5:T->T->Option T
 | .int i,.int j=>if i=10/\0<=j/\j<=1000 then some (.int (10 ^ j.toNat)) else none
 | _,_=>none
def bools:List T->Option (List Bool)
 | []=>some []
 | .bool b::ts=>(bools ts).map fun r=>b::r
 | _::_=>none
def z6j:List T->Option T
 | [.list xs]=>(bools xs).map fun bs=>.bool (bs.all id)
 | _=>none
def z99:T->T->Option T
 | .bool b,.bool c=>some (.bool !(b == c))
 | _,_=>none
end D
end
section
namespace D
open PySem PySem.Spec PyProof.Rows L2
section
variable [Tbl]
structure KI (ct:String):Prop where
 n:∀K:y00,y36 K (.type "NoneType") (.type ct)=some false
 b:∀(K:y00) (b:Bool),y36 K (.type "bool") (.type ct)=some (isI ct (.bool b))
 i:∀(K:y00) (i:Int),y36 K (.type "int") (.type ct)=some (isI ct (.int i))
 s:∀(K:y00) (i:Str),y36 K (.type "str") (.type ct)=some (isI ct (.str i))
 t:∀(K:y00) (i:List T),y36 K (.type "tuple") (.type ct)=some (isI ct (.tuple i))
 l:∀(K:y00) (i:List T),y36 K (.type "list") (.type ct)=some (isI ct (.list i))
theorem zlt:KI "int":=⟨fun _=>rfl,fun _ _=>rfl,fun _ _=>rfl,fun _ _=>rfl,fun _ _=>rfl,fun _ _=>rfl⟩
theorem zg9:KI "bool":=⟨fun _=>rfl,fun _ _=>rfl,fun _ _=>rfl,fun _ _=>rfl,fun _ _=>rfl,fun _ _=>rfl⟩
theorem zls:KI "str":=⟨fun _=>rfl,fun _ _=>rfl,fun _ _=>rfl,fun _ _=>rfl,fun _ _=>rfl,fun _ _=>rfl⟩
theorem z78:KI "tuple":=⟨fun _=>rfl,fun _ _=>rfl,fun _ _=>rfl,fun _ _=>rfl,fun _ _=>rfl,fun _ _=>rfl⟩
section
variable {X:Cx} {e:Expr} {f:Fe} {te:TE} {pos p p2 p3:Pos} {cn:Str} {ct:String}
def tIsI (K:y00) (ct:String) (te:TE):TE:=fun σ H Q=>te σ H fun x H1=>∃(O F:Addr->Prop) (t:T),RepR K O F H1 t x/\Q (.bl (isI ct t)) H1
theorem zu8 (ki:KI ct) (hb:bootBuiltins cn=some (.type ct)) (hm:X.mg "isinstance"=none) (hm2:X.mg cn=none) (he:PE X e te) (hg:Gl X "isinstance":=by rfl) (hg2:Gl X cn:=by rfl) (hn:cn≠"__name__":=by decide) (hdb:(cn == ("__debug__":Str))=false:=by decide)
  (hs:y0a [e,.Name cn p2] X.env=(false,eval e X.env)::y0a [.Name cn p2] X.env:=by rfl) :
  PE X (.Call (.Name "isinstance" p) [e,.Name cn p2] [] pos) (tIsI X.K ct te):=by
 intro pins s σ H Q I h
 refine y2k (z9f I hg hm (u:=.builtin "isinstance") (by decide +kernel) ?_)
 refine PyProof.Rows.callWith_builtin1 ?_ hs rfl
 rw[hs]
 show y0u _ _ (spliced ((false,eval e X.env)::y2j pos (y0a [.Name cn p2] X.env))) _ _ s
 refine Calls.spliced_cons (thn (he pins s σ H _ I h) fun u s1 ⟨x,H1,I1,r1,q1⟩=>?_)
 show y0u _ _ (spliced ((false,eval (.Name cn p2) X.env)::[])) _ _ s1
 refine Calls.spliced_cons (z9f I1 hg2 hm2 hb (Calls.spliced_nil ?_) hn hdb)
 obtain⟨O,F,t,rx,q⟩:=q1
 cases t with
 | none =>
  rw[rx.non] at r1
  cases r1
  exact PySem.W.kia_one PySem.W.kitx_none I1.kIn trivial (ki.n _) (fun z=>nomatch z) fun tk=>⟨.bl _,H1,I1.kept (t':=tk) fun _ _ z=>z,rfl,q⟩
 | bool b =>
  rw[rx.bl] at r1
  cases r1
  exact PySem.W.kia_one PySem.W.kitx_bool I1.kIn trivial (ki.b _ b) (fun z=>nomatch z) fun tk=>⟨.bl _,H1,I1.kept (t':=tk) fun _ _ z=>z,rfl,q⟩
 | int i =>
  rw[rx.int] at r1
  obtain⟨tk0,rfl⟩:=r1
  exact PySem.W.kia_one PySem.W.kitx_int I1.kIn trivial (ki.i _ i) (fun z=>nomatch z) fun tk=>⟨.bl _,H1,I1.kept (t':=tk) fun _ _ z=>z,rfl,q⟩
 | str i =>
  rw[rx.str] at r1
  obtain⟨tk0,rfl⟩:=r1
  exact PySem.W.kia_one PySem.W.kitx_str I1.kIn trivial (ki.s _ i) (fun z=>nomatch z) fun tk=>⟨.bl _,H1,I1.kept (t':=tk) fun _ _ z=>z,rfl,q⟩
 | tuple ts =>
  obtain⟨a,vs,rfl,hs,hr⟩:=rx.tup
  cases r1
  obtain⟨its,r,ht,hz⟩:=I1.tuple hs
  obtain⟨o,h1,h2,_⟩:=ht
  exact PySem.W.kia_one PySem.W.kitx_tuple I1.kIn ⟨o,h1,h2⟩ (ki.t _ ts) (fun z=>nomatch z) fun tk=>⟨.bl _,H1,I1.kept (t':=tk) fun _ _ z=>z,rfl,q⟩
 | list ts =>
  obtain⟨a,vs,rfl,hs,hr⟩:=rx.lst
  cases r1
  obtain⟨_,its,n,r,hl,e1⟩:=Inv.lstR I1 hs
  exact PySem.W.kia_one PySem.W.kitx_list I1.kIn ⟨_,e1,rfl⟩ (ki.l _ ts) (fun z=>nomatch z) fun tk=>⟨.bl _,H1,I1.kept (t':=tk) fun _ _ z=>z,rfl,q⟩
 | dict d=>rcases rx with rx|⟨_,_,_,z,_⟩;simp[Rep] at rx;cases z
theorem z76 (ki:KI ct) (hb:bootBuiltins cn=some (.type ct)) (hm:X.mg "isinstance"=none) (hm2:X.mg cn=none) (ha:PEr X e f) (hg:Gl X "isinstance":=by rfl) (hg2:Gl X cn:=by rfl) (hn:cn≠"__name__":=by decide) (hdb:(cn == ("__debug__":Str))=false:=by decide)
  (hs:y0a [e,.Name cn p2] X.env=(false,eval e X.env)::y0a [.Name cn p2] X.env:=by rfl) :
  PEv X (.Call (.Name "isinstance" p) [e,.Name cn p2] [] pos) (op1 (oIsI ct) f):=z0l (zu8 ki hb hm hm2 ha hg hg2 hn hdb hs) fun σ H Q ⟨F₀,H₀,O,F,ε,t,r,e,k⟩=>by
 simp only[op1,y01] at e
 obtain⟨x,ex,e⟩:=e
 have e':t=.bool (isI ct x):=by
  cases x <;> first|exact (y2c e).symm|cases e
 subst e'
 exact⟨F₀,H₀,O,F,ε,_,r,ex,fun v F1 H1 x1 rx=>⟨O,F1,x,rx,k _ F1 H1 x1 (by simp[Rep])⟩⟩
theorem zn0:bootBuiltins "int"=some (.type "int"):=by decide +kernel
theorem zgo:bootBuiltins "bool"=some (.type "bool"):=by decide +kernel
theorem zmz:bootBuiltins "str"=some (.type "str"):=by decide +kernel
theorem z7h:bootBuiltins "tuple"=some (.type "tuple"):=by decide +kernel
end
def Its (x:Str):It:=⟨fun i _=>i<x.cps.size,fun i H v H'=>H'=H/\∃c,x.cps[i]?=some c/\v=.str ⟨#[c]⟩,fun i _=>x.cps.size<=i⟩
theorem znp {P:y0q} {w:World} {K:y00} {tg:Expr} (x:Str) (t:Tok) (it:Addr):Turn P w K tg (Its x) [it] it (fun i h=>h.IsStrIter it "str_ascii_iterator" x t i) where
 mem:=by simp
 obj:=fun i h st b hb=>by
  have e:b=it:=by simpa using hb
  subst e
  obtain⟨o,e,c,d⟩:=st
  exact⟨o,e,fun v z=>by rw[d] at z;cases z⟩
 keep:=fun i h h' st k=>by
  obtain⟨o,e,c,d⟩:=st
  exact⟨o,k it (by simp) o e,c,d⟩
 item:=by
  intro X hP hw hK hc i pins s σ H E I hf st hg
  subst hP hw hK
  obtain⟨f0,f1,f2,f3,f4,f5⟩:=hf it (by simp)
  have hx:x.cps[i]?=some (x.cps[i]'hg):=y1n hg
  refine wpAny_pyNext_ascii_item st hx fun h' st' sb=>?_
  have I1:Inv X pins σ H { s with heap:=h',toks:=s.toks+1 }:=I.turned (t':=s.toks+1) (fun b o hb e=>(sb.2 b hb).trans e) f0 f1 f3 f4 f5
  obtain⟨o,e,c,d⟩:=id st'
  exact⟨_,rfl,zpd (s:={ s with heap:=h',toks:=s.toks+1 }) e c d (by decide) ⟨.str _,H,I1,⟨_,rfl⟩,⟨rfl,_,hx,rfl⟩,st',fun b hb=>(hf b hb).1⟩⟩
 done:=by
  intro X hP hw hK hc i pins s σ H E I hf st hg
  subst hP hw hK
  obtain⟨f0,f1,f2,f3,f4,f5⟩:=hf it (by simp)
  exact wpAny_pyNext_ascii_end (I.ok.hd hc) st (Array.getElem?_eq_none hg) fun h' eb=>⟨rfl,I.turned (t':=s.toks) (fun b o hb e=>eb b o hb e) f0 f1 f3 f4 f5⟩
 self:=fun _ _ _ _ _ st h=>wpAny_pyIter_striter_ascii st h
theorem zpx {x:Str} (h:zbg x=true):strIterType x="str_ascii_iterator":=by
 unfold strIterType
 rw[if_pos]
 rw[<- Array.all_toList]
 exact h
noncomputable def iA (K:y00) (tl:TE):TI:=fun σ H R=>tl σ H fun x H1=>(∃a,x=.ref a/\(((∃xs,SqL K H1 a xs)/\R (Itl K a) H1)\/((∃xs,SqT K H1 a xs)/\R (Itt K a) H1)))\/∃z,x=.str z/\zbg z=true/\R (Its z) H1
section
variable {X:Cx} {tg l:Expr} {tl:TE} {f:Fe}
theorem pi_A (hl:PE X l tl):PI X tg l (iA X.K tl):=by
 intro pins s σ H R I h
 refine thn (hl pins s σ H _ I h) fun v s1 ⟨x,H1,I1,r1,q⟩=>?_
 have fp:∀b∈[s1.heap.objs.size],FpOk X pins H1 b:=fun b hb=>by
  have e:b=s1.heap.objs.size:=by simpa using hb
  subst e
  exact I1.fpOk (y0o _) (I1.hok.fresh (y0o _))
 rcases q with ⟨a,e1,q⟩|⟨z,e1,ha,q⟩
 ·subst e1
  cases r1
  rcases q with ⟨⟨xs,hq⟩,q⟩|⟨⟨xs,hq⟩,q⟩
  ·obtain⟨its,rv,p,hz⟩:=I1.list hq
   refine wpAny_pyIter_list p.isList ?_
   exact⟨s1.heap.objs.size,[s1.heap.objs.size],_,_,H1,rfl,I1.kept (t':=s1.toks) fun b o e=>y03 _ e,zcl a _,⟨_,y0l _ rfl,rfl,rfl⟩,fp,q⟩
  ·obtain⟨its,rv,p,hz⟩:=I1.tuple hq
   refine y2o (show s1.heap.IsTuple a its.toArray from p) ?_
   exact⟨s1.heap.objs.size,[s1.heap.objs.size],_,_,H1,rfl,I1.kept (t':=s1.toks) fun b o e=>y03 _ e,zal a _,⟨_,y0l _ rfl,rfl,rfl⟩,fp,q⟩
 ·subst e1
  obtain⟨t,rfl⟩:=r1
  refine wpAny_pyIter_strU ?_
  rw[zpx ha]
  exact⟨s1.heap.objs.size,[s1.heap.objs.size],_,_,H1,rfl,I1.kept (t':=s1.toks) fun b o e=>y03 _ e,znp z t _,⟨_,y0l _ rfl,rfl,rfl⟩,fp,q⟩
theorem zp6 {K:y00} {F1:Addr->Prop} {H1:Hp} (x:Str):ItOk K (Its x) F1 H1 (x.cps.toList.map chT) where
 go:=fun i F H t kp d e=>by
  have h:=(y0k.mp e).1
  simpa [Its] using h
 yld:=fun i F H t v H' kp d e y=>by
  obtain⟨rfl,c,hc,rfl⟩:=y
  refine⟨F,Ext.refl d,?_⟩
  rw[y14,Array.getElem?_toList,hc] at e
  cases e
  simp[Rep,chT]
 stop:=fun i F H kp hl=>by
  simpa [Its] using hl
theorem i_A (hl:PEv X l f):PIt X tg l (itA f):=zi3 (pi_A hl) fun σ H R ⟨F₀,H₀,O,F,ε,ts,r,e,k⟩=>by
 simp only[itA,y01] at e
 obtain⟨t,et,e⟩:=e
 split at e
 ·cases e
  refine⟨F₀,H₀,O,F,ε,_,r,et,fun v F' H' x q=>?_⟩
  simp only[Rep] at q
  obtain⟨a,vs,rfl,hs,hr⟩:=q
  exact .inl ⟨a,rfl,.inr ⟨⟨vs,hs⟩,k _ F' H' x (zhm hs hr)⟩⟩
 ·cases e
  refine⟨F₀,H₀,O,F,ε,_,r,et,fun v F' H' x q=>?_⟩
  simp only[Rep] at q
  obtain⟨a,vs,rfl,fa,hs,hr⟩:=q
  exact .inl ⟨a,rfl,.inl ⟨⟨vs,.inl hs⟩,k _ F' H' x (ze4 fa hs hr)⟩⟩
 ·split at e
  next ha =>
   cases e
   refine⟨F₀,H₀,O,F,ε,_,r,et,fun v F' H' x q=>?_⟩
   simp only[Rep] at q
   subst q
   exact .inr ⟨_,rfl,ha,k _ F' H' x (zp6 _)⟩
  next=>cases e
 ·cases e
end
end
section
variable [Tbl]
theorem zd3 (n d:Nat) (hd:d<=n) (o:Option Int):D.sIx n d o<=n:=by
 cases o with
 | none=>exact hd
 | some v =>
  simp only[D.sIx]
  split <;> omega
theorem zta (lo hi:Option Int) (n:Nat):Builtin.Str.strSliceIndices lo hi 1 n=sliceRange ((D.sIx n 0 lo:Nat):Int) ((D.sIx n n hi:Nat):Int) 1:=by
 unfold Builtin.Str.strSliceIndices
 have h1:∀(o:Option Int) (d:Nat),(match o with|none=>(d:Int)|some i=>(if (1:Int) > 0 then max 0 (min (if i<0 then i+(n:Int) else i) n) else max (-1) (min (if i<0 then i+(n:Int) else i) ((n:Int) - 1))))=((D.sIx n d o:Nat):Int):=by
  intro o d
  cases o with
  | none=>rfl
  | some v =>
   simp only[D.sIx]
   rw[if_pos (by decide)]
   split <;> omega
 have e1:=h1 lo 0
 have e2:=h1 hi n
 dsimp only
 rw[if_pos (show (1:Int) > 0 by decide)] at *
 rw[if_pos (show (1:Int) > 0 by decide)]
 exact congrFun (congr (congrArg sliceRange e1) e2) 1
theorem zo0 {α:Type} (l:List α) (lo hi:Option Int):(Builtin.Str.strSliceIndices lo hi 1 l.length).filterMap (fun k=>l[k]?)=cutZ l lo hi/\(Builtin.Str.strSliceIndices lo hi 1 l.length).length=(cutZ l lo hi).length:=by
 rw[zta]
 have ha:=zd3 l.length 0 (y23 _) lo
 have hb:=zd3 l.length l.length (y0o _) hi
 unfold cutZ
 generalize D.sIx l.length 0 lo=a at *
 generalize D.sIx l.length l.length hi=b at *
 have e:sliceRange (a:Int) (b:Int) 1=(List.range (b - a)).map fun k=>a+k:=by
  unfold sliceRange
  have ec:((if (1:Int) > 0 then (if (a:Int)<(b:Int) then ((b:Int) - (a:Int)+1 - 1) / 1 else 0) else (if (a:Int) > (b:Int) then ((a:Int) - (b:Int) - 1 - 1) / (-1) else 0)):Int).toNat=b - a:=by
   rw[if_pos (by decide)]
   split <;> omega
  dsimp only
  rw[ec]
  congr 1
  funext k
  omega
 rw[e]
 by_cases hab:a<=b
 ·exact⟨StrLaws.picks l (b - a) a (by omega),by simp;omega⟩
 ·have z:b - a=0:=by omega
  rw[z]
  simp
def rSlS:V->Option Int->Option Int->Hp->VK->Prop:=fun x lo hi H Q=>∃z,x=.str z/\z.length<=y0j/\Q (.str ⟨(cutZ z.cps.toList lo hi).toArray⟩) H
section
variable {X:Cx} {a b e:Expr} {es:List Expr} {f g h:Fe} {fs:List Fe} {pos p p2 apos cpos:Pos}
theorem zmo {α:Type} (l:List α) (lo hi:Option Int) (h:(cutZ l lo hi).length=l.length):cutZ l lo hi=l:=by
 unfold cutZ at h ⊢
 have ha:=zd3 l.length 0 (y23 _) lo
 generalize D.sIx l.length 0 lo=a at *
 generalize D.sIx l.length l.length hi=b at *
 rw[List.length_take,List.length_drop] at h
 cases l with
 | nil=>simp
 | cons c r =>
  have:a=0:=by simp only[y0w] at *;omega
  subst this
  rw[List.drop_zero,List.take_of_length_le (by simp only[y0w] at *;omega)]
theorem zte:SlR X rSlS:=by
 intro pins s σ H x v vl vu lo hi sl Q I rx hs pl pu h
 obtain⟨z,rfl,hzl,q⟩:=h
 obtain⟨t,rfl⟩:=rx
 refine⟨"str",_,slot_str_getitem.lookup,typeIs_str s z t,?_⟩
 obtain⟨h1,h2⟩:=zo0 z.cps.toList lo hi
 have hlen:z.length=z.cps.toList.length:=by simp[Str.length]
 have key:∀l u:Option (Int×Tok),l.map (·.1)=lo->u.map (·.1)=hi->Made.post (sliceMade z t l u none) (EP X pins σ Q) s:=by
  intro l u el eu
  unfold sliceMade slicePicked
  rw[el,eu]
  dsimp only[Option.map_none,Option.getD_none]
  rw[hlen]
  split
  next hw =>
   have hw2:(cutZ z.cps.toList lo hi).length=z.cps.toList.length:=by
    rw[<- h2]
    simpa using hw
   refine⟨.str z,H,I,⟨t,rfl⟩,?_⟩
   have:=zmo _ _ _ hw2
   rw[this] at q
   simpa using q
  next =>
   have e:(List.filterMap (fun k=>z.cps[k]?) (Builtin.Str.strSliceIndices lo hi 1 z.cps.toList.length))=cutZ z.cps.toList lo hi:=by
    rw[<- h1]
    congr 1
    funext k
    simp
   rw[e]
   refine⟨?_,⟨.str _,H,I.tok _,⟨_,rfl⟩,q⟩⟩
   show (cutZ z.cps.toList lo hi).toArray.size<=y0j
   have:(cutZ z.cps.toList lo hi).length<=z.cps.toList.length:=by
    unfold cutZ
    rw[List.length_take,List.length_drop]
    omega
   rw[y0h]
   omega
 obtain⟨o,ho,hc,hd⟩:=hs
 cases pl with
 | none =>
  cases pu with
  | none=>exact wpAny_getItem_str_slice (l:=none) (u:=none) (st:=none) ⟨o,ho,hc,hd⟩ rfl (key _ _ rfl rfl)
  | int i2 t2=>exact wpAny_getItem_str_slice (l:=none) (u:=some (i2,t2)) (st:=none) ⟨o,ho,hc,hd⟩ rfl (key _ _ rfl rfl)
 | int i1 t1 =>
  cases pu with
  | none=>exact wpAny_getItem_str_slice (l:=some (i1,t1)) (u:=none) (st:=none) ⟨o,ho,hc,hd⟩ rfl (key _ _ rfl rfl)
  | int i2 t2=>exact wpAny_getItem_str_slice (l:=some (i1,t1)) (u:=some (i2,t2)) (st:=none) ⟨o,ho,hc,hd⟩ rfl (key _ _ rfl rfl)
theorem zo9 {lo hi:Option Expr} {fl fh:Ev->Option (Option Int)} (ha:PEr X e f) (hl:PO X lo (tOt X.K fl)) (hu:PO X hi (tOt X.K fh)):PEv X (.Subscript e (.Slice lo hi none p2) pos) (z0g f fl fh):=z0l (zoh (((ztd.or zo3).or zr8).or zte) ha hl hu) fun σ H Q ⟨F₀,H₀,O,F,ε,t,r,e,k⟩=>by
 simp only[z0g,y01] at e
 obtain⟨x,ex,l,el,h,eh,e⟩:=e
 refine⟨F₀,H₀,O,F,ε,x,r,ex,fun v F1 H1 x1 rx=>⟨F₀,H₀,O,F1,ε,l,r.ext x1,el,fun F2 H2 x2=>⟨F₀,H₀,O,F2,ε,h,(r.ext x1).ext x2,eh,fun F3 H3 x3=>?_⟩⟩⟩
 have x23:=x2.trans x3
 have x13:=x1.trans x23
 unfold oSlA at e
 split at e
 ·split at e
  next hz =>
   cases e
   rw[(rx.ext x23).str]
   exact .inr ⟨_,rfl,by rw[z6f];exact hz,k _ F3 H3 x13 (by simp[Rep])⟩
  next=>cases e
 unfold oSl at e
 split at e
 ·cases e
  obtain⟨a,vs,rfl,hs,hr⟩:=(rx.ext x23).tup
  by_cases hw:HT.sIx vs.length 0 l=0/\HT.sIx vs.length vs.length h=vs.length
  ·refine .inl (.inl (.inr ⟨a,vs,rfl,hs,hw,k _ F3 H3 x13 ?_⟩))
   simp only[Rep]
   refine⟨a,vs,rfl,hs,?_⟩
   have:=zbr hr l h
   unfold cutV at this
   rw[hw.1,hw.2,List.drop_zero,Nat.sub_zero,List.take_length] at this
   exact this
  ·refine .inl (.inl (.inl ⟨a,vs,rfl,hs,hw,fun q hq=>?_⟩))
   have x4:=Ext.laid (o:=.tup (cutV vs l h)) x13.dom hq
   refine k _ F3 _ (x13.trans x4) ?_
   simp only[Rep]
   exact⟨q,_,rfl,SqT.of z08,(zbr hr l h).ext x4⟩
 ·cases e
  obtain⟨a,vs,rfl,hs,hr⟩:=(rx.ext x23).lst
  refine .inl (.inr ⟨a,vs,rfl,.inl hs,fun q hq=>?_⟩)
  have x4:=Ext.laidF (o:=.lst (cutV vs l h)) x13.dom hq
  refine k _ _ _ (x13.trans x4) ?_
  simp only[Rep]
  exact⟨q,_,rfl,.inr rfl,.inl z08,(zbr hr l h).ext x4⟩
 ·cases e
end
end
section
variable [Tbl]
section
variable {X:Cx} {es:List Expr} {k:Nat} {p pos p2:Pos} {a b:Expr} {f g:Fe}
end
end
section
variable [Tbl]
section
variable {X:Cx} {a b e:Expr} {es:List Expr} {f g h:Fe} {fs:List Fe} {pos p p2 apos cpos:Pos}
theorem zmu:z3x X (.type "str") (fun xs H Q=>(∃x,xs=[.str x]/\Q (.str x) H)\/∃i,xs=[.int i]/\zll i=true/\Q (.str (strI i)) H):=by
 intro pins s σ H xs us Q I r h
 rcases h with ⟨x,rfl,q⟩|⟨i,rfl,hz,q⟩
 ·obtain⟨u,rfl,t,rfl⟩:=vals1 r
  exact PySem.P.str_of_str ⟨.str x,H,I,⟨t,rfl⟩,q⟩
 ·obtain⟨u,rfl,t,rfl⟩:=vals1 r
  exact PySem.P.str_of_int (of_decide_eq_true hz) ⟨.str _,H,I.tok _,⟨_,rfl⟩,q⟩
theorem ztq (hm:X.mg "str"=none) (ha:PAr X (e::es) fs) (hg:Gl X "str":=by rfl) (he:y0a (e::es) X.env=(false,eval e X.env)::y0a es X.env:=by rfl) (hpl:(y2j pos (y0a es X.env)).any (·.1)=false:=by rfl) :
  PEv X (.Call (.Name "str" p) (e::es) [] pos) (opN oStr fs):=z0l (z5b zmu hg hm (by decide +kernel) ha (he:=he) (hpl:=hpl)) (z5e (by
 intro O F H ts t vs Q d q e k
 unfold oStr at e
 split at e
 ·cases e
  cases q with
  | cons q1 q2 =>
   cases q2
   exact .inl ⟨_,by rw[q1.str],k _ F H (Ext.refl d) (by simp[Rep])⟩
 ·split at e
  next hz =>
   cases e
   cases q with
   | cons q1 q2 =>
    cases q2
    exact .inr ⟨_,by rw[q1.int],hz,k _ F H (Ext.refl d) (by simp[Rep])⟩
  next=>cases e
 ·cases e))
theorem zl0:OpR X (y2p .IsNot) (fun x y H Q=>∃b c,x=.bl b/\y=.bl c/\Q (.bl !(b == c)) H):=by
 intro pins s σ H x y v u Q I rx ry h
 obtain⟨b,c,rfl,rfl,q⟩:=h
 cases rx
 cases ry
 exact isnot_bool (z27 I q rfl)
theorem zl2:Op2 X.K z99 (fun x y H Q=>∃b c,x=.bl b/\y=.bl c/\Q (.bl !(b == c)) H):=by
 intro O F H x y t vx vy Q d rx ry e k
 unfold z99 at e
 split at e
 ·cases e
  exact⟨_,_,rx.bl,ry.bl,k _ F H (Ext.refl d) (by simp[Rep])⟩
 ·cases e
end
end
section
variable [Tbl]
end
section
variable [Tbl]
theorem zhy:∀{ts:List T} {bs:List Bool},bools ts=some bs->ts=bs.map .bool
 | [],bs,e=>by
  cases e
  rfl
 | t::ts,bs,e=>by
  unfold bools at e
  split at e
  ·rename_i h
   cases h
  ·rename_i h
   cases h
   simp only[y07] at e
   obtain⟨r,e1,rfl⟩:=e
   rw[zhy e1]
   rfl
  ·cases e
section
variable {X:Cx} {e:Expr} {es:List Expr} {fs:List Fe} {pos p:Pos}
theorem zmy (hc:X.calm=true):z3x X (.builtin "all") (fun xs H Q=>∃(p:Addr) (bs:List Bool),xs=[.ref p]/\SqL X.K H p (bs.map V.bl)/\Q (.bl (bs.all id)) H):=by
 intro pins s σ H xs us Q I r h
 obtain⟨p,bs,rfl,hq,q⟩:=h
 obtain⟨u,rfl,rx⟩:=vals1 r
 cases rx
 obtain⟨its,r',pl,hz⟩:=I.list hq
 have hlt:p<s.heap.objs.size:=by obtain⟨o,n,ho,_⟩:=pl;exact y0c ho
 have hlen:its.length=bs.length:=by have:=r'.length;simpa using this.symm
 refine PySem.call_all_walk (wpAny_pyIter_list (items:=its.toArray) pl.isList ?_)
 refine⟨_,[s.heap.objs.size,p],[s.heap.objs.size],_,_,_,(fun i=>bs.getD i true),rfl,Walks.list (A:=X.A.in1) (I.ok.hd hc) _ p (y0y hlt) its.toArray,⟨⟨_,y0l _ rfl,rfl,rfl⟩,pl.isList.push _⟩,fun i v s' Q' E' hP hQ'=>?_,fun h' tk hk=>?_⟩
 ·have hi:its[i]?=some v:=by simpa using hP
  have hlt':i<bs.length:=by rw[<- hlen];exact (y0k.mp hi).1
  obtain⟨u',e1,e2⟩:=r'.get (i:=i) (x:=V.bl bs[i]) (by simp[hlt'])
  rw[hi] at e1
  cases e1
  have e2':v=.bool bs[i]:=e2
  subst e2'
  refine y2w ?_
  have:bs.getD i true=bs[i]:=by simp[hlt']
  exact this▸hQ'
 ·have e:((List.range its.toArray.size).all fun i=>bs.getD i true)=bs.all id:=by
   rw[y0h,hlen,Bool.eq_iff_iff,List.all_eq_true,List.all_eq_true]
   constructor
   ·intro h b hb
    obtain⟨i,hi,rfl⟩:=List.getElem_of_mem hb
    have:=h i (List.mem_range.mpr hi)
    have e2:bs.getD i true=bs[i]:=by simp[hi]
    rw[e2] at this
    exact this
   ·intro h i hi
    have hi':=List.mem_range.mp hi
    have e2:bs.getD i true=bs[i]:=by simp[hi']
    rw[e2]
    exact h _ (List.getElem_mem hi')
  rw[e]
  exact⟨.bl (bs.all id),H,I.kept (t':=tk) fun b o e=>hk b o (by simp only[y0z];exact y0y (y0c e)) (y03 _ e),rfl,q⟩
theorem ztw (hc:X.calm=true) (hm:X.mg "all"=none) (ha:PAr X (e::es) fs) (hg:Gl X "all":=by rfl) (he:y0a (e::es) X.env=(false,eval e X.env)::y0a es X.env:=by rfl) (hpl:(y2j pos (y0a es X.env)).any (·.1)=false:=by rfl) :
  PEv X (.Call (.Name "all" p) (e::es) [] pos) (opN z6j fs):=z0l (z42 (zmy hc) hg hm (by decide +kernel) ha (he:=he) (hpl:=hpl)) (z5e (by
 intro O F H ts t vs Q d q e k
 unfold z6j at e
 split at e
 ·simp only[y07] at e
  obtain⟨bs,en,rfl⟩:=e
  have:=zhy en
  subst this
  cases q with
  | cons q1 q2 =>
   cases q2
   obtain⟨l0,ws,rfl,hl,hr⟩:=q1.lst
   have:=zau hr
   subst this
   exact⟨l0,bs,rfl,.inl hl,k _ F H (Ext.refl d) (by simp[Rep])⟩
 ·cases e))
end
end
section
variable [Tbl]
def frz (i:Nat):Fs:=fun ε=>match ε[i]? with
 | some (some (.own ts))=>some (.nx (ε.set i (some (.imm (.list ts)))))
 | _=>none
section
variable {P:y0q} {w:World} {K:y00} {mg:Str->Option Value} {base:Heap} {k:Nat} {q c':Addr} {N:List Str} {qual:Str} {scope:Scope} {cd:Value} {cl:List (Str×Addr)} {A:Around} {outer:List Env} {s:y04} {H:Hp} {σ:L2.St}
theorem zlq {params:Arguments} {body:Expr} {pm ctv:Value} {te:TE} {Q:VK} {E:XK} (hk:scope.kind=.function) (hco:scope.isCoroutine=false) (hgen:scope.isGenerator=false) (hnc:∀x∈scope.names,x.2≠.cell)
  (hb:∀(A:Around) (outer:List Env) (s:y04) (H:Hp),Room k (A.deeper (envL qual scope s.heap.objs.size q (.ref c') cl))->PE (cxL P w K mg base N qual scope q (.ref c') cl A outer s H) body te)
  (bd:bindArgs (PySem.W.kla_fn "<lambda>" qual params body scope cl pm (.ref c') ctv) ⟨[],[]⟩=pure [])
  (hr:Room (k+1) A) (e0:Env0 P w K mg base A outer s H) (hq:H q=some (lamO (PySem.W.kla_obj "<lambda>" qual params body scope cl pm c' ctv) q)) (hc:H c'=some (codO c' qual)) (C:Caps N scope cl σ H s.heap)
  (h:te σ H Q):y2x (y33 P w) A (.call (.ref q) ⟨[],[]⟩) (CR CX0 outer P w H s Q E) s:=by
 have nolim:s.heap.NoLimit:=e0.mod.nolimit.keeps fun b o e=>(e0.bs b o e).1
 refine PySem.W.kla_callFunE hr.depth (e0.hok q _ hq).1 rfl hco hgen rfl (e0.hok c' _ hc).1 ?_
 rw[bd]
 refine y06 (wpAny_newFunctionEnv hnc (fun x hx=>by cases hx) (fun h₁ hns hsb=>⟨nolim.fresh _ hsb,?_⟩) hk)
 have kp:∀b o,s.heap.get? b=some o->h₁.get? b=some o:=fun b o e=>hsb.extBut b o (y0y (y0c e)) (y03 _ e)
 show y2x _ _ (.expr body (envL qual scope s.heap.objs.size q (.ref c') cl)) _ _
 refine PySem.W.kla_codeExpr ?_
 have I:Inv (cxL P w K mg base N qual scope q (.ref c') cl A outer s H) [] σ H { s with heap:=h₁,toks:=s.toks+([]:List (Str×Value)).length }:=zb5 hk hr.hd e0 C hns kp
 refine y1d (hb A outer s H (hr.deeper _) [] _ σ H (fun v H'=>Q v H') I h) (fun u s' hs=>?_) fun e s' hs=>(show False from hs).elim
 obtain⟨v,H',J,rv,qv⟩:=hs
 exact⟨v,H',J.os,J.bare,J.base,J.hok,rv,qv⟩
end
def zjx (f:Fe) (r:Fz) (j:Nat):Fe:=fun ε=>if r ε=true then some (.tuple [.str "refused",.int j]) else (f ε).map fun t=>.tuple [.str "told",t]
theorem zrf {X:Cx} {k:Nat} {x:Str} {st:Stmt} {fa:Addr} {fd:y0b} {y0 y1 y2 y3:Str} {params:Arguments} {body:Expr} {scope:Scope} {lpos p pos:Pos} {c Pt C:Addr} {f:Fe} {r:Fz} {j:Nat}
  (F:Fun X.K x x st fa fd) (S:FnScope [y0,y1,y2,y3] [y0] (z02 st)) (bd:Binds X.K fd [y0] []) (hm:X.mg x=some (.ref fa))
  (ht:∀(cdv:Value) (A:Around) (outer:List Env) (s:y04) (H:Hp),PSs (cxOf CX0 X.prog X.w X.K X.mg X.base [y0,y1,y2,y3] x (z02 st) fa cdv A outer s H E0).nox (z0d st) (zt6 (cxOf CX0 X.prog X.w X.K X.mg X.base [y0,y1,y2,y3] x (z02 st) fa cdv A outer s H E0).nox))
  (hz:∀(cdv:Value) (A:Around) (outer:List Env) (s:y04) (H:Hp),PSs (cxOf CX0 X.prog X.w X.K X.mg X.base [y0,y1,y2,y3] x (z02 st) fa cdv A outer s H E0).nox (z0d st) (zh7 (cxOf CX0 X.prog X.w X.K X.mg X.base [y0,y1,y2,y3] x (z02 st) fa cdv A outer s H E0).nox C j))
  (hcode:X.env.code=.ref c) (hcd:y37 X.K c Pt=true) (hbm:BM X.mg X.base) {qn:Str} (htb:(Pt,qn)∈Tbl.tb) (hun:∀p∈Tbl.tb,p.1=Pt->p.2=qn)
  (hr:Room (k+2) X.A)
  (hb:∀(q c':Addr) (cl:List (Str×Addr)) (A:Around) (outer:List Env) (s:y04) (H:Hp),Room k (A.deeper (envL (X.env.qual++"<lambda>") scope s.heap.objs.size q (.ref c') cl))->PEv (cxL X.prog X.w X.K X.mg X.base X.N (X.env.qual++"<lambda>") scope q (.ref c') cl A outer s H) body f)
  (hbz:∀(q c':Addr) (cl:List (Str×Addr)) (A:Around) (outer:List Env) (s:y04) (H:Hp) (E:XK),Room k (A.deeper (envL (X.env.qual++"<lambda>") scope s.heap.objs.size q (.ref c') cl))->PEz (cxLZ X.prog X.w X.K X.mg X.base X.N (X.env.qual++"<lambda>") scope q (.ref c') cl A outer s H E) C body r)
  (hsc:(decide (scope.kind=.function) && !scope.isCoroutine && !scope.isGenerator && scope.names.all fun y=>decide (y.2≠.cell) && decide (y.2≠.local))=true:=by rfl)
  (hfr:(scope.names.all fun y=>decide (y.2≠.free) || decide (X.env.scope.names.lookup y.1=some .cell))=true:=by rfl)
  (bdl:∀(cl:List (Str×Addr)) (pm:Value) (c':Addr) (ctv:Value),bindArgs (PySem.W.kla_fn "<lambda>" (X.env.qual++"<lambda>") params body scope cl pm (.ref c') ctv) ⟨[],[]⟩=pure []:=by intros;rfl)
  (hg:Gl X x:=by rfl) (hdb:(x == ("__debug__":Str))=false:=by decide) (hdef:defaultsOf params X.env=([],[]):=by rfl)
  (he:y0a [.Lambda params body scope lpos] X.env=(false,eval (.Lambda params body scope lpos) X.env)::y0a [] X.env:=by rfl) (hqn:X.env.qual++"<lambda>"=qn:=by rfl) :
  PEv X (.Call (.Name x p) [.Lambda params body scope lpos] [] pos) (zjx f r j):=by
 subst hqn
 simp only[y1b,Bool.not_eq_true',decide_eq_true_eq,List.all_eq_true] at hsc
 obtain⟨⟨⟨hk,hco⟩,hgen⟩,hnc⟩:=hsc
 simp only[List.all_eq_true,Bool.or_eq_true,decide_eq_true_eq] at hfr
 have hfr':∀y∈scope.names,y.2=.free->X.env.scope.names.lookup y.1=some .cell:=fun y hy hf=>by
  rcases hfr y hy with z|z
  ·exact absurd hf z
  ·exact z
 intro pins s σ H Q I ⟨F₀,E,O,F',ε,t,rl,e,kk⟩
 have Chd:=PySem.W.codeHd_of_K I.ok.mod.kin hcd
 refine y2k (z9e I hg hm ?_ hdb)
 refine PySem.W.callWith_K (h₀:=X.base) I.ok.mod.kin F.kp ?_ he rfl
 rw[he]
 show y0u _ _ (spliced ((false,eval (.Lambda params body scope lpos) X.env)::[])) _ _ s
 have hl:∀x∈scope.names,x.2=.free->∃c,X.env.cells.lookup x.1=some c:=fun x hx hf=>I.ok.has x.1 (.inl (hfr' x hx hf))
 refine Calls.spliced_cons (zp1 I hcode Chd hbm hdef (z7e hl) rl.dom.tgs htb hun fun q c' ctv H1 s1 I1 sm tb1 hqn hq hc=>Calls.spliced_nil ⟨I1.kIn,?_⟩)
 have x1:Ext F' H F' H1:=⟨sm,fun _ h=>h,fun _ h=>.inl h,⟨fun a ha=>by
  obtain⟨o,ho⟩:=rl.dom.dm a ha
  exact sm.ne ho,tb1⟩⟩
 have mkcaps:∀{s2:y04} {pins2:List (Addr×Obj)} {H2:Hp} {σ2:L2.St} {Y:Cx},Inv Y pins2 σ2 H2 s2->Y.H₀=H1->Y.s₀=s1->Y.ex=[]->Caps X.N scope (clos X.env scope.names []) σ H1 s2.heap:=by
  intro s2 pins2 H2 σ2 Y I2 eH es eex
  have c1:=zsv I1 hnc hfr'
  have b2:=I2.base
  rw[eH,es,eex] at b2
  have kp:∀{a:Addr} {v:Option Value},s1.heap.IsCell a v->H1 a=none->s2.heap.IsCell a v:=fun {a v} z n=>zm0 b2 z n (by simp)
  refine⟨c1.inj,c1.has,fun x c h=>?_,c1.len,fun i x v h1 h2 h3=>?_⟩
  ·obtain⟨⟨v,hv⟩,hn⟩:=c1.cel x c h
   exact⟨⟨v,kp hv hn⟩,hn⟩
  ·obtain⟨u,c,ru,hf,hc2,hx⟩:=c1.val i x v h1 h2 h3
   exact⟨u,c,ru,hf,hc2,kp hx (c1.cel x c hc2).2⟩
 have fin:y2x (y33 X.prog X.w) X.A (.call (.ref fa) ⟨[.ref q],[]⟩) (CR CX0 X.stack X.prog X.w H1 s1 Q E0) s1:=by
  unfold zjx at e
  by_cases er:r ε=true
  ·rw[if_pos er] at e
   cases e
   refine zhp (k:=k+1) (vs:=[.ref q]) F S bd hr I1.env0 (.cons rfl .nil) rfl fun cdv hr2=>⟨_,hz cdv X.A X.stack s1 H1,?_⟩
   refine⟨q,rfl,rfl,⟨_,_,hq,rfl⟩,fun H'=>∃F2,Ext F' H1 F2 H',fun pins2 s2 I2=>?_,?_⟩
   ·exact zlp hk hco hgen (fun x hx=>(hnc x hx).1) (hbz q c' _) (bdl _ _ _ _) hr2 I2.env0 hq hc (mkcaps I2 rfl rfl rfl) ⟨F₀,E,O,F',ε,rl.ext x1,er,fun F2 H2 x2=>⟨rfl,F2,x2⟩⟩
   ·rintro H' ⟨F2,x2⟩ H'' p g hp
    have x3:=g F2 x2.dom
    refine kk _ F2 _ ((x1.trans x2).trans x3) ?_
    simp only[Rep]
    exact⟨p,_,rfl,SqT.of hp,RepL.cons (by simp[Rep]) (RepL.cons (by simp[Rep]) RepL.nil)⟩
  ·rw[if_neg er,y07] at e
   obtain⟨t0,ef,rfl⟩:=e
   refine zhp (k:=k+1) (vs:=[.ref q]) F S bd hr I1.env0 (.cons rfl .nil) rfl fun cdv hr2=>⟨_,ht cdv X.A X.stack s1 H1,?_⟩
   refine⟨q,rfl,⟨_,_,hq,rfl⟩,fun pins2 s2 I2=>?_⟩
   refine zlq (te:=tV X.K f) hk hco hgen (fun x hx=>(hnc x hx).1) (hb q c' _) (bdl _ _ _ _) hr2 I2.env0 hq hc (mkcaps I2 rfl rfl rfl) ?_
   refine⟨F₀,E,O,F',ε,t0,rl.ext x1,ef,fun v F2 H2 x2 rv=>?_⟩
   refine⟨by show 2<=y0j;decide,fun pp hp=>⟨.ref pp,rfl,?_⟩⟩
   have x3:=Ext.laid (o:=.tup [.str "told",v]) x2.dom hp
   refine kk _ F2 _ ((x1.trans x2).trans x3) ?_
   simp only[Rep]
   exact⟨pp,_,rfl,SqT.of z08,RepL.cons (by simp[Rep]) (RepL.cons (rv.ext x3) RepL.nil)⟩
 refine y30 (y2s fin fun r s' hq=>?_)
 cases r with
 | error e=>exact y1w hq
 | ok fl =>
  cases fl with
  | ret u=>exact I1.after hq
  | next=>exact y1w hq
  | brk=>exact y1w hq
  | cont=>exact y1w hq
end
section
variable [Tbl]
noncomputable def zdi:T->Option T
 | .tuple xs=>some (.tuple xs.reverse)
 | .list xs=>some (.list xs.reverse)
 | .str x=>if x.length<=big then some (.str ⟨x.cps.toList.reverse.toArray⟩) else none
 | _=>none
theorem zq6 (n:Nat):sliceRange ((n:Int) - 1) (-1) (-1)=(List.range n).reverse:=by
 unfold sliceRange
 have ec:((if (-1:Int) > 0 then (if (n:Int) - 1 < -1 then ((-1) - ((n:Int) - 1)+(-1) - 1) / (-1) else 0) else (if (n:Int) - 1 > -1 then ((n:Int) - 1 - (-1) - (-1) - 1) / (- -1) else 0)):Int).toNat=n:=by
  rw[if_neg (by decide),show (- -1:Int)=1 by decide]
  split
  ·rw[Int.ediv_one]
   omega
  ·omega
 dsimp only
 rw[ec,<- PySem.W.krv_range]
 refine List.map_congr_left fun k _=>?_
 omega
theorem zhf {α:Type} (xs:Array α):(List.range xs.size).reverse.filterMap (fun k=>xs[k]?)=xs.toList.reverse:=by
 rw[List.filterMap_reverse]
 congr 1
 have:∀(l:List α),(List.range l.length).filterMap (fun k=>l[k]?)=l:=fun l=>by
  induction l with
  | nil=>rfl
  | cons a l ih =>
   rw[y0w,List.range_succ_eq_map,List.filterMap_cons,List.filterMap_map]
   simp only[y2a]
   congr 1
 have h:=this xs.toList
 simpa using h
section
variable {X:Cx} {e st:Expr} {te:TE} {f:Fe} {pos p2:Pos}
noncomputable def zvj (K:y00) (te:TE):TE:=fun σ H Q=>te σ H fun x H1=>(∃a xs,x=.ref a/\SqT K H1 a xs/\∀p,H1 p=none->Q (.ref p) (upd H1 p (.tup xs.reverse)))\/(∃a xs,x=.ref a/\SqL K H1 a xs/\∀p,H1 p=none->Q (.ref p) (upd H1 p (.lst xs.reverse)))\/∃z,x=.str z/\z.length<=y0j/\Q (.str ⟨z.cps.toList.reverse.toArray⟩) H1
theorem zrp (he:PE X e te) (hst:PE X st (tC (.int (-1)))):PE X (.Subscript e (.Slice none none (some st) p2) pos) (zvj X.K te):=by
 intro pins s σ H Q I h
 refine Subscript_ (thn (he pins s σ H _ I h) fun v s1 ⟨x,H1,I1,r1,q1⟩=>?_)
 refine wpAny_Slice ?_
 rw[evalPart_none]
 refine y06 (y06 ?_)
 rw[evalPart_some]
 refine thn (hst pins s1 σ H1 (fun y H2=>y=.int (-1)/\H2=H1) I1 ⟨rfl,rfl⟩) fun vk s3 ⟨y,H3,I3,pk,ey,eh⟩=>?_
 subst ey
 subst eh
 obtain⟨tk,rfl⟩:=pk
 have I4:Inv X pins σ H3 { s3 with heap:=s3.heap.push { cls:=.type "slice",data:=.fields #[.none,.none,.int (-1) tk] } }:=I3.kept (t':=s3.toks) fun b ob q=>y03 _ q
 show y0u (y33 X.prog X.w) X.A (subscriptTail e (.Slice none none (some st) p2) v (.ref s3.heap.objs.size)) (EP X pins σ Q) X.xe { s3 with heap:=s3.heap.push { cls:=.type "slice",data:=.fields #[.none,.none,.int (-1) tk] } }
 rcases q1 with ⟨a,xs,rfl,hx,q⟩|⟨a,xs,rfl,hx,q⟩|⟨z,rfl,hz,q⟩
 ·cases r1
  obtain⟨its,r,ht,hz⟩:=I4.tuple hx
  have hlen:its.toArray.size=xs.length:=by rw[y0h];exact r.length.symm
  refine tail_any (ops:=[.ref a,.ref s3.heap.objs.size]) ht.typeIs PyProof.Rows.slot_tuple_getitem.lookup ?_ (by with_unfolding_all rfl)
  refine z7p ht (Heap.IsSliceOf.new ..) ?_ (by rw[hlen];exact hz)
  refine⟨.ref _,_,I4.laid (t':=s3.toks) (o:=.tup xs.reverse) (fun b ob q=>y03 _ q) (y0o _) ⟨by simpa using hz,its.reverse,z7n r,?_⟩,rfl,q _ (I4.hok.fresh (y0o _))⟩
  exact IsTup.new _ _
 ·cases r1
  obtain⟨its,r,ht,hz⟩:=I4.list hx
  have hlen:=r.length
  refine tail_any (ops:=[.ref a,.ref s3.heap.objs.size]) ht.isList.typeIs slot_list_getitem.lookup ?_ (by with_unfolding_all rfl)
  refine wpAny_getItem_list_slice ht.isList (Heap.IsSliceOf.new ..) .none .none (.int (-1) tk) (by decide) ?_ (by rw[y0h] <;> omega)
  have es:slicePick its.toArray none none (some (-1))=its.reverse.toArray:=by
   unfold slicePick
   have eb:(sliceBounds none none (some (-1)) its.toArray.size)=((its.toArray.size:Int) - 1,-1,-1):=by simp[sliceBounds]
   rw[eb]
   dsimp only
   rw[zq6,zhf]
  rw[es]
  refine⟨.ref _,_,I4.laid (t':=s3.toks) (o:=.lst xs.reverse) (fun b ob q=>y03 _ q) (y0o _) ⟨by simpa using hz,_,0,z7n r,y0l _ rfl⟩,rfl,q _ (I4.hok.fresh (y0o _))⟩
 ·obtain⟨t,rfl⟩:=r1
  refine tail_any (ops:=[.str z t,.ref s3.heap.objs.size]) (typeIs_str _ z t) slot_str_getitem.lookup ?_ (by with_unfolding_all rfl)
  refine wpAny_getItem_str_slice (l:=none) (u:=none) (st:=some (-1,tk)) (Heap.IsSliceOf.new ..) (by rfl) ?_
  unfold sliceMade slicePicked
  dsimp only[Option.map_none,y1q,Option.getD_some]
  rw[if_neg (by simp)]
  have es:List.filterMap (fun k=>z.cps[k]?) (Builtin.Str.strSliceIndices none none (-1) z.length)=z.cps.toList.reverse:=by
   have eb:Builtin.Str.strSliceIndices none none (-1) z.length=sliceRange ((z.length:Int) - 1) (-1) (-1):=by
    unfold Builtin.Str.strSliceIndices
    dsimp only
    rw[if_neg (by decide),if_neg (by decide)]
   rw[eb,zq6]
   exact zhf z.cps
  rw[es]
  refine⟨?_,⟨.str _,H3,I4.tok _,⟨_,rfl⟩,q⟩⟩
  show z.cps.toList.reverse.toArray.size<=y0j
  simpa [Str.length] using hz
theorem zq9 (ha:PEr X e f) (hst:PE X st (tC (.int (-1)))):PEv X (.Subscript e (.Slice none none (some st) p2) pos) (op1 zdi f):=z0l (zrp ha hst) fun σ H Q ⟨F₀,H₀,O,F,ε,t,r,e,k⟩=>by
 simp only[op1,y01] at e
 obtain⟨x,ex,e⟩:=e
 unfold zdi at e
 split at e
 ·cases e
  refine⟨F₀,H₀,O,F,ε,_,r,ex,fun v F1 H1 x1 rx=>?_⟩
  obtain⟨a,vs,rfl,hs,hr⟩:=rx.tup
  refine .inl ⟨a,vs,rfl,hs,fun p hp=>?_⟩
  have x2:=Ext.laid (o:=.tup vs.reverse) x1.dom hp
  refine k _ F1 _ (x1.trans x2) ?_
  simp only[Rep]
  exact⟨p,_,rfl,SqT.of z08,(z59 hr).ext x2⟩
 ·cases e
  refine⟨F₀,H₀,O,F,ε,_,r,ex,fun v F1 H1 x1 rx=>?_⟩
  obtain⟨a,vs,rfl,hs,hr⟩:=rx.lst
  refine .inr (.inl ⟨a,vs,rfl,.inl hs,fun p hp=>?_⟩)
  have x2:=Ext.laidF (o:=.lst vs.reverse) x1.dom hp
  refine k _ _ _ (x1.trans x2) ?_
  simp only[Rep]
  exact⟨p,_,rfl,.inr rfl,.inl z08,(z59 hr).ext x2⟩
 ·split at e
  next hz =>
   cases e
   refine⟨F₀,H₀,O,F,ε,_,r,ex,fun v F1 H1 x1 rx=>.inr (.inr ⟨_,rx.str,by rw[z6f];exact hz,k _ F1 H1 x1 (by simp[Rep])⟩)⟩
  next=>cases e
 ·cases e
end
end
section
variable [Tbl]
section
variable {X:Cx} {a b:Expr} {f g:Fe} {p pos:Pos}
end
end
section
variable [Tbl]
def zb1:T->Option T
 | .str x=>if x.length<=1000 then some (.str (Txt.upper x)) else none
 | _=>none
def zb2:T->T->Option T
 | .str x,.int i=>if i=2/\x.length<=1000 then some (.str (x++x)) else none
 | _,_=>none
section
variable {X:Cx} {a b:Expr} {f g:Fe} {p pos apos cpos:Pos}
def ztn:V->List V->Hp->VK->Prop:=fun x vs H Q=>∃z,x=.str z/\vs=[]/\z.length<=1000/\Q (.str (Txt.upper z)) H
theorem zox:MtM X "str.upper" ztn:=by
 intro pins s σ H x vs v us Q I rx rv h
 obtain⟨z,rfl,rfl,hz,q⟩:=h
 obtain⟨t,rfl⟩:=rx
 cases rv
 exact SCL.upper (by omega) fun _=>⟨.str _,H,I.tok _,⟨_,rfl⟩,q⟩
theorem zrd (ha:PEr X a f) (hbase:attributeBase a "upper" X.env (eval a X.env)=eval a X.env:=by rfl) (hline:(apos.endLine == cpos.line)=true:=by rfl) :
  PEv X (.Call (.Attribute a "upper" apos) [] [] cpos) (op1 zb1 f) :=
 z0l (zua PySem.F.plainAttrs_str PySem.F.slot_str_upper PySem.F.type_str_upper zox ha hbase hline) fun σ H Q ⟨F₀,H₀,O,F,ε,t,r,e,k⟩=>by
 simp only[op1,y01] at e
 obtain⟨x,ex,e⟩:=e
 unfold zb1 at e
 split at e
 ·split at e
  next hc =>
   cases e
   refine⟨F₀,H₀,O,F,ε,_,r,ex,fun vx F1 H1 x1 rx=>?_⟩
   rw[rx.str]
   exact⟨rfl,_,rfl,rfl,hc,k _ F1 H1 x1 (by simp[Rep])⟩
  next=>cases e
 ·cases e
def zto:R2:=fun x y H Q=>∃z,x=.str z/\y=.int 2/\z.length<=1000/\Q (.str (z++z)) H
theorem zom:OpR X (y31 .Mult) zto:=by
 intro pins s σ H x y v u Q I rx ry h
 obtain⟨z,rfl,rfl,hz,q⟩:=h
 obtain⟨t,rfl⟩:=rx
 obtain⟨t2,rfl⟩:=ry
 refine PySem.P.mul_str (by decide) (fun _ _=>by omega) (fun _ _=>?_) ?_
 ·unfold Builtin.Str.tooLong
  have:y0j=big:=z6f
  unfold big at this
  simp
  omega
 ·rw[if_neg (by decide)]
  split
  next h =>
   have h0:z.length=0:=by simpa using h
   have e:z++z=z:=by
    have:z.cps=#[]:=Array.eq_empty_of_size_eq_zero h0
    show (⟨z.cps++z.cps⟩:Str)=z
    rw[this]
    obtain⟨c⟩:=z
    simp at this
    rw[this]
    rfl
   rw[e] at q
   exact⟨.str z,H,I,⟨t,rfl⟩,q⟩
  next h =>
   have e:(⟨(y0g (2:Int).toNat z.cps).foldl (·++·) #[]⟩:Str)=z++z:=by
    show (⟨(#[]++z.cps)++z.cps⟩:Str)=⟨z.cps++z.cps⟩
    simp
   rw[e]
   refine⟨?_,.str _,H,I.tok _,⟨_,rfl⟩,q⟩
   have:y0j=big:=z6f
   unfold big at this
   have h2:(z++z).length=z.length+z.length:=by
    show (z.cps++z.cps).size=_
    rw[Array.size_append]
    rfl
   first|omega|(rw[h2];omega)|(show (z++z).length<=y0j;rw[h2];omega)
theorem zre (ha:PEr X a f) (hb:PEr X b g):PEv X (.BinOp a .Mult b pos) (op2 zb2 f g) :=
 z0l (zdd zom ha hb) (z3m (by
  intro O F H x y t vx vy Q d rx ry e k
  unfold zb2 at e
  split at e
  ·split at e
   next hm =>
    cases e
    rw[rx.str,ry.int,hm.1]
    exact⟨_,rfl,rfl,hm.2,k _ F H (Ext.refl d) (by simp[Rep])⟩
   next=>cases e
  ·cases e))
theorem zf4 {es:List Expr} {fs:List Fe} (h:PAw X es fs):PEw X (.List es pos) (z0p fs):=⟨zkn h.h⟩
end
end
section
variable [Tbl]
noncomputable def zbx:List T->Option T
 | [.tuple ts]=>if (PyData.tuple ts).showable && !(PyData.tuple ts).hasDict && decide ((PyData.tuple ts).depth<=60) && decide ((PyData.tuple ts).shown.length<=1000000) then some (.str (PyData.tuple ts).shown) else none
 | _=>none
section
variable {X:Cx} {a:Expr} {f:Fe} {p pos:Pos}
theorem zst (hgd:X.A.guards=some []) (hu:X.A.units+62<cLine):z3x X (.builtin "repr") (fun xs H Q=>∃(l:Addr) (t:T) (F:Addr->Prop),xs=[.ref l]/\Rep X.K F H t (.ref l)/\t.showable=true/\t.hasDict=false/\t.depth<=60/\t.shown.length<=1000000/\Q (.str t.shown) H):=by
 intro pins s σ H xs us Q I r h
 obtain⟨l,t,F,rfl,rt,h1,h2,h3,h4,q⟩:=h
 obtain⟨u,rfl,rx⟩:=vals1 r
 cases rx
 obtain⟨as,rd⟩:=zbs I rt (show RelV (.ref l) (.ref l) from rfl)
 refine PySem.repr_of_reads' rd h1 (fun z=>by rw[h2] at z;cases z) hgd (by omega) (fun _ _ e=>e) (fun h' u tk keep=>?_) (by rw[y2n];omega)
 exact⟨.str t.shown,H,I.kept (t':=tk) keep,⟨u,rfl⟩,q⟩
theorem zrg (hgd:X.A.guards=some []) (hu:X.A.units+62<cLine) (hm:X.mg "repr"=none) {e:Expr} {es:List Expr} {fs:List Fe} (ha:PAr X (e::es) fs) (hg:Gl X "repr":=by rfl) (he:y0a (e::es) X.env=(false,eval e X.env)::y0a es X.env:=by rfl) (hpl:(y2j pos (y0a es X.env)).any (·.1)=false:=by rfl) :
  PEv X (.Call (.Name "repr" p) (e::es) [] pos) (opN zbx fs):=z0l (z42 (zst hgd hu) hg hm (by decide +kernel) ha (he:=he) (hpl:=hpl)) (z5e (by
 intro O F H ts t vs Q d q e k
 unfold zbx at e
 split at e
 next us =>
  split at e
  next hz =>
   cases e
   simp only[y1b,Bool.not_eq_true',decide_eq_true_eq] at hz
   cases q with
   | cons q1 q2 =>
    cases q2
    rcases q1 with q1|⟨ts,a,vs,h1,_⟩
    ·obtain⟨a,ws,rfl,hs,hr⟩:=RepR.tup (O:=O) (.inl q1)
     exact⟨a,.tuple us,F,rfl,q1,hz.1.1.1,hz.1.1.2,hz.1.2,hz.2,k _ F H (Ext.refl d) (by simp[Rep])⟩
    ·cases h1
  next=>cases e
 next=>cases e))
theorem zqa {k:Nat} (hr:Room k X.A) (hm:X.mg "repr"=none) {e:Expr} {es:List Expr} {fs:List Fe} (ha:PAr X (e::es) fs) (hg:Gl X "repr":=by rfl) (he:y0a (e::es) X.env=(false,eval e X.env)::y0a es X.env:=by rfl) (hpl:(y2j pos (y0a es X.env)).any (·.1)=false:=by rfl) :
  PEv X (.Call (.Name "repr" p) (e::es) [] pos) (opN zbx fs):=zrg hr.gd (by have:=hr.un;omega) hm ha hg he hpl
end
end
section
variable [Tbl]
structure PRw (X:Cx) (e:Expr) (f:Fe):Prop where
 h:PEr X e f
structure PBw (X:Cx) (b:List Stmt) (g:Fs):Prop where
 h:PBt X b g
def zkv:Expr->Bool
 | .Starred ..=>false
 | _=>true
section
variable {X:Cx} {e a b c:Expr} {es:List Expr} {f g:Fe} {fs:List Fe} {ft:Ft} {gs hs:Fs} {st:Stmt} {rest els:List Stmt} {pos:Pos}
theorem zam (h:zkv e=true):y0a (e::es) X.env=(false,eval e X.env)::y0a es X.env:=by
 cases e <;> first|rfl|cases h
theorem v_cE (h:PEw X e f) (t:PAw X es fs) (hp:zkv e=true:=by rfl):PAw X (e::es) (f::fs):=⟨z00 h.h t.h (zam hp)⟩
theorem v_mk (h:PEv X e f):PEw X e f:=⟨h⟩
theorem v_r (h:PEw X e f):PRw X e f:=⟨v2r h.h⟩
theorem v_mr (h:PEr X e f):PRw X e f:=⟨h⟩
theorem v_ix (ha:PRw X a f) (hb:PRw X b g) (hp:zgy b:=by intro _ _;rfl):PEw X (.Subscript a b pos) (op2 oIx f g):=⟨q_ix ha.h hb.h hp⟩
theorem v_add (ha:PRw X a f) (hb:PRw X b g):PEw X (.BinOp a .Add b pos) (op2 oAdd f g):=⟨z3a ha.h hb.h⟩
theorem v_sl {lo hi:Option Expr} {fl fh:Ev->Option (Option Int)} {p2:Pos} (ha:PRw X e f) (hl:PO X lo (tOt X.K fl)) (hu:PO X hi (tOt X.K fh)):PEw X (.Subscript e (.Slice lo hi none p2) pos) (z0g f fl fh):=⟨zo9 ha.h hl hu⟩
theorem z6w {x:Str} {k n:Nat} {d:List T->Option T} {p:Pos} (C:Cl X.prog X.w X.K X.mg X.base x k n d) (hr:Room k X.A) (ha:PAw X (e::es) fs) (hg:Gl X x:=by rfl) (hn:fs.length=n:=by rfl) (hdb:(x == ("__debug__":Str))=false:=by decide)
  (hp:zkv e=true:=by rfl) (hpl:(y2j pos (y0a es X.env)).any (·.1)=false:=by rfl):PEw X (.Call (.Name x p) (e::es) [] pos) (opN d fs):=⟨z0j C hr ha.h hg hn hdb (zam hp) hpl⟩
theorem z6v (h:PEw X e f):PSw X (.Return (some e) pos) (rtn f):=⟨z1s h.h⟩
theorem v_st (h:PSt X st gs):PSw X st gs:=⟨h⟩
theorem v_if (hc:PTt X c ft) (ha:PBw X rest gs) (hb:PBw X els hs):PSw X (.If c rest els pos) (iff ft gs hs):=⟨s_if hc ha.h hb.h⟩
theorem z8a (i:Nat) {x:Str} {pos':Pos} (hN:X.N.Nodup) (he:PEw X e f) (hi:X.N[i]?=some x:=by rfl) (hx:Loc X.env.scope x:=by first|exact Or.inl rfl|exact Or.inr rfl)
  (hs:swapsWith e (some (.Name x pos')) pos.line X.env=pure false:=by rfl) (hf:X.fn x=true\/X.env.scope.names.lookup x=some .local:=by first|exact .inl rfl|exact .inr rfl) :
  PSw X (.Assign [.Name x pos'] e pos) (asg i f):=⟨z3v i hN he.h hi hx hs hf⟩
theorem zr2 {tg iter:Expr} {body:List Stmt} {it:Fi} {gg:Fg} {bb:Fs} (hp:PassesOwn (y33 X.prog X.w) X.A X.env X.xe) (hi:PIt X tg iter it) (hg:PGt X tg gg) (hb:PBw X body bb) (hc:X.calm=true:=by rfl)
  (hs:∀x,y34 iter X.env x=pure x:=by intro _;rfl):PSw X (.For tg iter body [] pos) (for_ it gg bb):=⟨zd0 hp hi hg hb.h hc hs⟩
theorem z89:PBw X [] skip:=⟨z6r⟩
theorem z50 (h:PSw X st gs):PBw X [st] gs:=⟨z19 h.h⟩
theorem z1h (h:PSw X st gs) (t:PBw X rest hs):PBw X (st::rest) (seq gs hs):=⟨z0z h.h t.h⟩
theorem v_of (h:PBw X rest gs):PBt X rest gs:=h.h
end
end
end D
end
section
namespace Co
open D
def zeu:Fs :=
  (seq (for_ (z1e (op2 oIx (nm 0) (cst (.int 0)))) (gNm 2)
  (iff (tstB (op2 oEq (op2 oIx (nm 2) (cst (.int 0))) (nm 1))) (rtn (op2 oIx (nm 2) (cst (.int 1)))) skip))
  never)
def z2y:List T->Option T:=runF zeu 3
noncomputable def zna:Fs :=
  (seq (asg 1 (opN z1u [(comp 1 [] (z1e (op2 oIx (nm 0) (cst (.int 0)))) (gNm 0) (cstT true) (cst (.str "shut")))]))
  (seq (asg 2 (opN z1u [(comp 1 [] (z1e (op2 oIx (nm 0) (cst (.int 1)))) (gNm 0) (cstT true) (cst (.int 0)))]))
  (rtn (z01 [(cst (.str "off")),(cst (.int 0)),(cst .none),(nmV 1),(z01 []),(cst (.int 0)),(z01 []),(cst (.int 0)),(cst (.int 0)),(nmV 2)]))))
def z9r:List T->Option T:=runF zna 3
end Co
end
section
namespace Co
open D Co
def z22:Fs :=
  (seq (iff (tstB (op2 oLt (nm 1) (opN oLen [(nm 0)]))) (rtn (op2 oIx (nm 0) (nm 1))) skip)
  (rtn (cst (.int 0))))
def z0s:List T->Option T:=runF z22 2
noncomputable def z3q:Fs :=
  (seq (asg 2 (op2 oMod (op2 oMul (op2 oAdd (op2 oAdd (opN z0s [(nmV 0),(nmV 1)]) (op2 oMul (cst (.int 7919)) (nm 1))) (cst (.int 1))) (cst (.int 48271))) (cst (.int 2147483647))))
  (rtn (op2 oMod (op2 oAdd (op2 oAdd (op2 oMul (nm 2) (nm 2)) (op2 oMul (cst (.int 7)) (nm 2))) (nm 1)) (cst (.int 2147483629)))))
def z0e:List T->Option T:=runF z3q 3
noncomputable def z3r:Fs :=
  (seq (asg 2 (op2 oMod (op2 oMul (op2 oAdd (op2 oAdd (nm 0) (op2 oMul (cst (.int 104729)) (nm 1))) (cst (.int 17))) (cst (.int 69621))) (cst (.int 2147483647))))
  (rtn (op2 oMod (op2 oAdd (op2 oAdd (op2 oMul (nm 2) (nm 2)) (op2 oMul (cst (.int 3)) (nm 2))) (nm 1)) (cst (.int 2147483629)))))
def z0i:List T->Option T:=runF z3r 3
noncomputable def zpv:Fs :=
  (seq (asg 1 (z01 []))
  (seq (for_ (z4x (z8e (z01 [(cst (.str "a")),(cst (.str "b")),(cst (.str "back")),(cst (.str "d")),(cst (.str "hall")),(cst (.str "r")),(cst (.str "win")),(cst (.str "z"))]))) (gTu [(gNm 2),(gNm 3)])
  (seq (asg 4 (op2 oDiv (opN z0i [(nmV 0),(nmV 2)]) (cst (.int 4))))
  (iff (orT (tstB (op2 oLt (op2 oMod (nm 4) (cst (.int 8))) (op2 oAdd (cst (.int 3)) (op2 oMod (nm 0) (cst (.int 5)))))) (tstB (op2 oEq (nm 2) (op2 oMod (op2 oDiv (nm 0) (cst (.int 8))) (cst (.int 8)))))) (asg 1 (op2 oAdd (nm 1) (z01 [(z01 [(nmV 3),(op2 oIx (z01 [(cst (.str "day")),(cst (.str "inner")),(cst (.str "once")),(cst (.str "way")),(cst (.str "way"))]) (op2 oMod (op2 oDiv (nm 4) (cst (.int 8))) (cst (.int 5))))])]))) skip)))
  (seq (asg 5 (z01 []))
  (seq (for_ (z4x (z8e (z01 [(cst (.str "0000")),(cst (.str "1234")),(cst (.str "4321")),(cst (.str "7777")),(cst (.str "9990")),(cst (.str "9999"))]))) (gTu [(gNm 2),(gNm 6)])
  (seq (asg 4 (op2 oDiv (opN z0i [(nmV 0),(op2 oAdd (cst (.int 10)) (nm 2))]) (cst (.int 4))))
  (iff (orT (tstB (op2 oGt (op2 oMod (nm 4) (cst (.int 3))) (cst (.int 0)))) (tstB (op2 oEq (nm 2) (cst (.int 1))))) (seq (asg 7 (opN z1u [(comp 1 [4] (z26 (cst (.int 3))) (gNm 0) (tstB (op2 oGt (op2 oMod (op2 oDiv (nm 1) (op2 oIx (z01 [(cst (.int 4)),(cst (.int 16)),(cst (.int 64))]) (nm 0))) (cst (.int 4))) (cst (.int 0)))) (op2 oIx (z01 [(cst (.str "set")),(cst (.str "shunt")),(cst (.str "unset"))]) (nm 0)))]))
  (seq (asg 8 (op2 oIx (z01 [(cst (.str "ann")),(cst (.str "bo")),(cst (.str "cy"))]) (op2 oMod (op2 oDiv (nm 4) (cst (.int 256))) (cst (.int 3)))))
  (asg 5 (op2 oAdd (nm 5) (z01 [(z01 [(nmV 6),(nmV 8),(nmV 7),(op2 oIx (z01 [(cst (.int 0)),(cst (.int 0)),(cst (.int 1)),(cst (.int 2)),(cst (.int 9))]) (op2 oMod (op2 oDiv (nm 4) (cst (.int 1024))) (cst (.int 5))))])]))))) skip)))
  (seq (asg 4 (op2 oDiv (opN z0i [(nmV 0),(cst (.int 20))]) (cst (.int 4))))
  (seq (asg 9 (z01 [(op2 oIx (z01 [(cst (.int 0)),(cst (.int 5)),(cst (.int 30)),(cst (.int 60))]) (op2 oMod (nm 4) (cst (.int 4)))),(op2 oIx (z01 [(cst (.int 0)),(cst (.int 4)),(cst (.int 20)),(cst (.int 60))]) (op2 oMod (op2 oDiv (nm 4) (cst (.int 4))) (cst (.int 4)))),(op2 oIx (z01 [(cst (.int 1)),(cst (.int 9)),(cst (.int 120)),(cst (.int 300))]) (op2 oMod (op2 oDiv (nm 4) (cst (.int 16))) (cst (.int 4))))]))
  (rtn (z01 [(nmV 1),(nmV 5),(nmV 9)]))))))))
def z7a:List T->Option T:=runF zpv 10
noncomputable def zet:Fs :=
  (seq (asg 2 (op2 oIx (op2 oIx (op2 oIx (nm 0) (cst (.int 0))) (op2 oMod (op2 oDiv (nm 1) (cst (.int 8))) (opN oLen [(op2 oIx (nm 0) (cst (.int 0)))]))) (cst (.int 0))))
  (seq (asg 3 (op2 oMod (nm 1) (cst (.int 10))))
  (seq (iff (tstB (op2 oLt (nm 3) (cst (.int 5)))) (rtn (z01 [(cst (.str "line")),(nmV 2),(op2 oIx (z01 [(cst (.str "shut")),(cst (.str "open")),(cst (.str "open")),(cst (.str "cut"))]) (op2 oMod (op2 oDiv (nm 1) (cst (.int 512))) (cst (.int 4))))])) skip)
  (seq (iff (tstB (op2 oLt (nm 3) (cst (.int 7)))) (rtn (z01 [(cst (.str "ticks")),(op2 oAdd (cst (.int 1)) (op2 oMod (op2 oDiv (nm 1) (cst (.int 64))) (op2 oIx (z01 [(cst (.int 3)),(cst (.int 40)),(cst (.int 200))]) (op2 oMod (op2 oDiv (nm 1) (cst (.int 4096))) (cst (.int 3))))))])) skip)
  (seq (asg 4 (op2 oIx (op2 oIx (op2 oIx (nm 0) (cst (.int 1))) (op2 oMod (op2 oDiv (nm 1) (cst (.int 64))) (opN oLen [(op2 oIx (nm 0) (cst (.int 1)))]))) (cst (.int 0))))
  (seq (iff (tstB (op2 oEq (op2 oMod (op2 oDiv (nm 1) (cst (.int 65536))) (cst (.int 4))) (cst (.int 0)))) (asg 4 (op2 oIx (z01 [(cst (.str "0001")),(cst (.str "1111")),(cst (.str "9999")),(cst (.str "0000"))]) (op2 oMod (op2 oDiv (nm 1) (cst (.int 512))) (cst (.int 4))))) skip)
  (seq (asg 5 (op2 oIx (z01 [(cst (.str "set")),(cst (.str "set")),(cst (.str "unset")),(cst (.str "shunt")),(cst (.str "free")),(cst (.str "shunt"))]) (op2 oMod (op2 oDiv (nm 1) (cst (.int 4096))) (cst (.int 6)))))
  (seq (iff (tstB (op2 (oIn false) (nm 5) (z01 [(cst (.str "set")),(cst (.str "unset"))]))) (rtn (z01 [(cst (.str "code")),(nmV 4),(nmV 5),(cst .none)])) skip)
  (rtn (z01 [(cst (.str "code")),(nmV 4),(nmV 5),(nmV 2)]))))))))))
def z9q:List T->Option T:=runF zet 6
end Co
end
section
namespace Fo
open D Co
noncomputable def z5p:Fs :=
  (seq (asg 1 (op2 oAdd (cst (.int 1)) (op2 oMod (nm 0) (cst (.int 7)))))
  (seq (asg 2 (z01 []))
  (seq (for_ (z26 (op2 oMod (op2 oDiv (nm 0) (cst (.int 8))) (cst (.int 11)))) (gNm 3)
  (seq (asg 4 (op2 oDiv (opN z0i [(nmV 0),(op2 oAdd (cst (.int 50)) (nm 3))]) (cst (.int 4))))
  (seq (asg 5 (op2 oMod (nm 4) (op2 oAdd (nm 1) (cst (.int 1)))))
  (seq (asg 6 (op2 oMod (op2 oAdd (op2 oAdd (nm 5) (cst (.int 1))) (op2 oMod (op2 oDiv (nm 4) (cst (.int 8))) (nm 1))) (op2 oAdd (nm 1) (cst (.int 1)))))
  (seq (asg 7 (op2 oIx (z01 [(cst .none),(cst .none),(cst (.str "a")),(cst (.str "b")),(cst (.str "back")),(cst (.str "hall")),(cst (.str "win"))]) (op2 oMod (op2 oDiv (nm 4) (cst (.int 64))) (cst (.int 7)))))
  (asg 2 (op2 oAdd (nm 2) (z01 [(z01 [(opN oMin [(nm 5),(nm 6)]),(opN oMax [(nm 5),(nm 6)]),(nmV 7)])]))))))))
  (rtn (z01 [(nmV 1),(nmV 2)])))))
def d_l_house:List T->Option T:=runF z5p 8
def zjn:Fs :=
  (rtn (andV (op1 (oIsI "tuple") (nm 0)) (chain oLe oLe (nm 1) (opN oLen [(nm 0)]) (nm 2))))
def z06:List T->Option T:=runF zjn 3
def zsw:Fs :=
  (rtn (opN z6j [(comp 2 [] (zp5 (z1e (nmV 0)) (z1e (z0g (nm 0) (opt (cst (.int 1))) optN))) (gTu [(gNm 0),(gNm 1)]) (cstT true) (op2 oLt (nm 0) (nm 1)))]))
def z6m:List T->Option T:=runF zsw 1
noncomputable def zev:Fs :=
  (seq (iff (orT (notT (tstB (op1 (oIsI "str") (nm 0)))) (notT (tstB (chain oLe oLe (nm 1) (opN oLen [(nm 0)]) (nm 2))))) (rtn (cst (.bool false))) skip)
  (rtn (opN z6j [(comp 1 [3,4] (itA (nmV 0)) (gNm 0) (cstT true) (chain oLe oLe (nm 1) (nm 0) (nm 2)))])))
def z1y:List T->Option T:=runF zev 5
def zn9:Fs :=
  (rtn (opN z1y [(nmV 0),(cst (.int 1)),(cst (.int 4)),(cst (.str "a")),(cst (.str "z"))]))
def z4e:List T->Option T:=runF zn9 1
noncomputable def zn7:Fs :=
  (rtn (andV (opN z06 [(nmV 0),(cst (.int 2)),(cst (.int 2))]) (andV (opN z4e [(op2 oIx (nm 0) (cst (.int 0)))]) (op2 (oIn false) (op2 oIx (nm 0) (cst (.int 1))) (cst (.tuple (z8q ["day","inner","once","way"])))))))
def z7b:List T->Option T:=runF zn7 1
noncomputable def za6:Fs :=
  (seq (iff (orT (notT (tstB (opN z06 [(nmV 0),(cst (.int 1)),(cst (.int 8))]))) (notT (tstB (opN z6j [(comp 1 [] (itA (nmV 0)) (gNm 0) (cstT true) (opN z7b [(nmV 0)]))])))) (rtn (cst (.bool false))) skip)
  (rtn (opN z6m [(comp 1 [] (itA (nmV 0)) (gNm 0) (cstT true) (op2 oIx (nm 0) (cst (.int 0))))])))
def z6n:List T->Option T:=runF za6 1
def zew:Fs :=
  (rtn (opN z1y [(nmV 0),(cst (.int 4)),(cst (.int 4)),(cst (.str "0")),(cst (.str "9"))]))
def z45:List T->Option T:=runF zew 1
noncomputable def zey:Fs :=
  (rtn (andV (opN z06 [(nmV 0),(cst (.int 0)),(cst (.int 3))]) (andV (opN z6j [(comp 1 [] (itA (nmV 0)) (gNm 0) (cstT true) (op2 (oIn false) (nm 0) (cst (.tuple (z8q ["set","shunt","unset"])))))]) (opN z6m [(nmV 0)]))))
def z82:List T->Option T:=runF zey 1
def zjm:Fs :=
  (rtn (andV (op1 (oIsI "int") (nm 0)) (notV (op1 (oIsI "bool") (nm 0)))))
def z4d:List T->Option T:=runF zjm 1
def zgw:Fs :=
  (rtn (andV (opN z4d [(nmV 0)]) (chain oLe oLe (nm 1) (nm 0) (nm 2))))
def z0t:List T->Option T:=runF zgw 3
noncomputable def zex:Fs :=
  (seq (iff (notT (tstB (opN z06 [(nmV 0),(cst (.int 4)),(cst (.int 4))]))) (rtn (cst (.bool false))) skip)
  (rtn (andV (opN z45 [(op2 oIx (nm 0) (cst (.int 0)))]) (andV (opN z4e [(op2 oIx (nm 0) (cst (.int 1)))]) (andV (opN z82 [(op2 oIx (nm 0) (cst (.int 2)))]) (opN z0t [(op2 oIx (nm 0) (cst (.int 3))),(cst (.int 0)),(cst (.int 9))]))))))
def z7d:List T->Option T:=runF zex 1
noncomputable def za8:Fs :=
  (seq (iff (orT (notT (tstB (opN z06 [(nmV 0),(cst (.int 1)),(cst (.int 6))]))) (notT (tstB (opN z6j [(comp 1 [] (itA (nmV 0)) (gNm 0) (cstT true) (opN z7d [(nmV 0)]))])))) (rtn (cst (.bool false))) skip)
  (rtn (opN z6m [(comp 1 [] (itA (nmV 0)) (gNm 0) (cstT true) (op2 oIx (nm 0) (cst (.int 0))))])))
def z6p:List T->Option T:=runF za8 1
noncomputable def za7:Fs :=
  (seq (iff (notT (tstB (opN z06 [(nmV 0),(cst (.int 3)),(cst (.int 3))]))) (rtn (cst (.bool false))) skip)
  (rtn (andV (opN z0t [(op2 oIx (nm 0) (cst (.int 0))),(cst (.int 0)),(cst (.int 60))]) (andV (opN z0t [(op2 oIx (nm 0) (cst (.int 1))),(cst (.int 0)),(cst (.int 60))]) (opN z0t [(op2 oIx (nm 0) (cst (.int 2))),(cst (.int 1)),(cst (.int 300))])))))
def z6o:List T->Option T:=runF za7 1
noncomputable def zn8:Fs :=
  (rtn (andV (opN z06 [(nmV 0),(cst (.int 3)),(cst (.int 3))]) (andV (opN z6n [(op2 oIx (nm 0) (cst (.int 0)))]) (andV (opN z6p [(op2 oIx (nm 0) (cst (.int 1)))]) (opN z6o [(op2 oIx (nm 0) (cst (.int 2)))])))))
def z7c:List T->Option T:=runF zn8 1
noncomputable def z87:Fs :=
  (seq (iff (orT (notT (tstB (opN z06 [(nmV 1),(cst (.int 3)),(cst (.int 3))]))) (notT (tstB (opN z0t [(op2 oIx (nm 1) (cst (.int 1))),(cst (.int 1)),(nmV 0)])))) (rtn (cst (.bool false))) skip)
  (rtn (andV (opN z0t [(op2 oIx (nm 1) (cst (.int 0))),(cst (.int 0)),(op2 oSub (op2 oIx (nm 1) (cst (.int 1))) (cst (.int 1)))]) (orV (op1 oIsN (op2 oIx (nm 1) (cst (.int 2)))) (opN z4e [(op2 oIx (nm 1) (cst (.int 2)))])))))
def z2z:List T->Option T:=runF z87 2
noncomputable def zbf:Fs :=
  (seq (iff (orT (notT (tstB (opN z06 [(nmV 0),(cst (.int 2)),(cst (.int 2))]))) (orT (notT (tstB (opN z0t [(op2 oIx (nm 0) (cst (.int 0))),(cst (.int 1)),(cst (.int 7))]))) (notT (tstB (opN z06 [(op2 oIx (nm 0) (cst (.int 1))),(cst (.int 0)),(cst (.int 10))]))))) (rtn (cst (.bool false))) skip)
  (rtn (opN z6j [(comp 1 [0] (itA (op2 oIx (nm 0) (cst (.int 1)))) (gNm 0) (cstT true) (opN z2z [(op2 oIx (nm 1) (cst (.int 0))),(nmV 0)]))])))
def z2q:List T->Option T:=runF zbf 1
def zjp:Fs :=
  (rtn (op2 (oIn false) (nm 1) (comp 1 [] (itA (op2 oIx (nm 0) (cst (.int 0)))) (gNm 0) (cstT true) (op2 oIx (nm 0) (cst (.int 0))))))
def z7t:List T->Option T:=runF zjp 2
noncomputable def za5:Fs :=
  (rtn (andV (opN z06 [(nmV 1),(cst (.int 3)),(cst (.int 3))]) (andV (op2 oEq (op2 oIx (nm 1) (cst (.int 0))) (cst (.str "line"))) (andV (opN z7t [(nmV 0),(op2 oIx (nm 1) (cst (.int 1)))]) (op2 (oIn false) (op2 oIx (nm 1) (cst (.int 2))) (cst (.tuple (z8q ["shut","open","cut"]))))))))
def z5l:List T->Option T:=runF za5 2
noncomputable def z5r:Fs :=
  (seq (iff (orT (notT (tstB (opN z06 [(nmV 1),(cst (.int 4)),(cst (.int 4))]))) (orT (tstB (op2 oNe (op2 oIx (nm 1) (cst (.int 0))) (cst (.str "code")))) (notT (tstB (opN z45 [(op2 oIx (nm 1) (cst (.int 1)))]))))) (rtn (cst (.bool false))) skip)
  (seq (iff (tstB (op2 (oIn false) (op2 oIx (nm 1) (cst (.int 2))) (cst (.tuple (z8q ["set","unset"]))))) (rtn (op1 oIsN (op2 oIx (nm 1) (cst (.int 3))))) skip)
  (rtn (andV (op2 (oIn false) (op2 oIx (nm 1) (cst (.int 2))) (cst (.tuple (z8q ["shunt","free"])))) (opN z7t [(nmV 0),(op2 oIx (nm 1) (cst (.int 3)))])))))
def z3o:List T->Option T:=runF z5r 2
noncomputable def z8g:Fs :=
  (rtn (andV (opN z06 [(nmV 0),(cst (.int 2)),(cst (.int 2))]) (andV (op2 oEq (op2 oIx (nm 0) (cst (.int 0))) (cst (.str "ticks"))) (andV (opN z4d [(op2 oIx (nm 0) (cst (.int 1)))]) (op2 oGe (op2 oIx (nm 0) (cst (.int 1))) (cst (.int 1)))))))
def z4y:List T->Option T:=runF z8g 1
def zjo:Fs :=
  (rtn (orV (opN z5l [(nmV 0),(nmV 1)]) (orV (opN z3o [(nmV 0),(nmV 1)]) (opN z4y [(nmV 1)]))))
def z5z:List T->Option T:=runF zjo 2
noncomputable def za3:Fs :=
  (seq (iff (notT (tstB (opN z1y [(nmV 0),(cst (.int 1)),(opN oLen [(nm 0)]),(cst (.str "0")),(cst (.str "9"))]))) (rtn (cst .none)) skip)
  (seq (asg 1 (cst (.int 0)))
  (seq (for_ (itA (nmV 0)) (gNm 2)
  (asg 1 (op2 oSub (op2 oAdd (op2 oMul (nm 1) (cst (.int 10))) (opN oOrd [(nm 2)])) (opN oOrd [(cst (.str "0"))]))))
  (rtn (nm 1)))))
def z9p:List T->Option T:=runF za3 3
end Fo
end
section
namespace K01
open D Co Fo
noncomputable def z63 (rec:List T->Option T):Fs :=
  (seq (iff (andT (tstB (op2 oGt (nm 2) (cst (.int 0)))) (andT (tstB (op1 (oIsI "tuple") (nm 0))) (andT (tstB (op2 oGt (opN oLen [(nm 0)]) (cst (.int 0)))) (tstB (op2 oGt (op2 oMod (nm 1) (cst (.int 6))) (cst (.int 0))))))) (seq (asg 3 (op2 oMod (op2 oDiv (nm 1) (cst (.int 6))) (opN oLen [(nm 0)])))
  (seq (asg 4 (opN rec [(op2 oIx (nm 0) (nm 3)),(op2 oDiv (opN z0i [(nmV 1),(nmV 2)]) (cst (.int 4))),(op2 oSub (nm 2) (cst (.int 1)))]))
  (rtn (op2 oAdd (op2 oAdd (z0g (nm 0) optN (opt (nm 3))) (z01 [(nmV 4)])) (z0g (nm 0) (opt (op2 oAdd (nm 3) (cst (.int 1)))) optN))))) skip)
  (seq (iff (andT (tstB (op1 (oIsI "tuple") (nm 0))) (andT (tstB (op2 oGt (opN oLen [(nm 0)]) (cst (.int 0)))) (tstB (op2 oEq (op2 oMod (op2 oDiv (nm 1) (cst (.int 6))) (cst (.int 2))) (cst (.int 0)))))) (rtn (op2 oIx (z0p [(opN zag [(nm 0)]),(z0g (nm 0) optN (opt (op1 oNeg (cst (.int 1))))),(op2 oAdd (nm 0) (z0g (nm 0) (opt (op1 oNeg (cst (.int 1)))) optN)),(z0g (nm 0) (opt (cst (.int 1))) optN),(op1 zdi (nm 0)),(z01 [])]) (op2 oMod (op2 oDiv (nm 1) (cst (.int 12))) (cst (.int 6))))) skip)
  (seq (iff (andT (tstB (op1 (oIsI "str") (nm 0))) (tstB (op2 oEq (op2 oMod (op2 oDiv (nm 1) (cst (.int 6))) (cst (.int 2))) (cst (.int 0))))) (rtn (op2 oIx (z0p [(op2 oAdd (nm 0) (cst (.str "a"))),(z0g (nm 0) (opt (cst (.int 1))) optN),(op2 oAdd (nm 0) (cst (.str "1"))),(op1 zb1 (nm 0)),(op2 zb2 (nm 0) (cst (.int 2))),(op1 zdi (nm 0))]) (op2 oMod (op2 oDiv (nm 1) (cst (.int 12))) (cst (.int 6))))) skip)
  (seq (iff (andT (tstB (op1 (oIsI "int") (nm 0))) (tstB (op2 oEq (op2 oMod (op2 oDiv (nm 1) (cst (.int 6))) (cst (.int 2))) (cst (.int 0))))) (rtn (op2 oIx (z0p [(opN oStr [(nm 0)]),(op2 oSub (cst (.int 0)) (nm 0)),(op2 oAdd (nm 0) (cst (.int 1))),(op2 oEq (nm 0) (cst (.int 1))),(op2 oSub (nm 0) (cst (.int 1))),(op2 oAdd (nm 0) (cst (.int 60)))]) (op2 oMod (op2 oDiv (nm 1) (cst (.int 12))) (cst (.int 6))))) skip)
  (seq (asg 5 (z0p [(cst .none),(cst (.bool true)),(cst (.bool false)),(cst (.int 0)),(cst (.int 1)),(cst (.int 7)),(cst (.int 8)),(cst (.int 60)),(cst (.int 61)),(cst (.int 301)),(op1 oNeg (cst (.int 1))),(cst (.str "")),(cst (.str "a")),(cst (.str "set")),(cst (.str "open")),(cst (.str "1234")),(cst (.str "way")),(z01 []),(z0p []),(z01 [(cst (.str "a")),(cst (.str "way"))])]))
  (rtn (op2 oIx (nm 5) (op2 oMod (op2 oDiv (nm 1) (cst (.int 6))) (cst (.int 20))))))))))
def z18:Nat->List T->Option T
 | 0=>fun _=>none
 | n+1=>runF (z63 (z18 n)) 6
noncomputable def z5q:Fs :=
  (seq (asg 1 (op2 oMod (nm 0) (cst (.int 3))))
  (seq (asg 2 (opN z1u [(comp 1 [] (z26 (op2 oAdd (cst (.int 7)) (nm 1))) (gNm 0) (cstT true) (z01 [(op2 oIx (cst (.str "abcdefghij")) (nm 0)),(cst (.str "way"))]))]))
  (seq (asg 3 (opN z1u [(comp 1 [] (z26 (op2 oAdd (cst (.int 5)) (nm 1))) (gNm 0) (cstT true) (z01 [(opN oStr [(op2 oAdd (cst (.int 1000)) (nm 0))]),(cst (.str "x")),(z01 []),(cst (.int 0))]))]))
  (seq (asg 4 (z01 [(z01 [(cst (.str "a")),(op2 oIx (z01 [(cst (.str "day")),(cst (.str "inner")),(cst (.str "once")),(cst (.str "way"))]) (op2 oMod (op2 oDiv (nm 0) (cst (.int 4))) (cst (.int 4))))])]))
  (seq (asgN 5 (z0p [(z01 [(nmV 2),(z0g (nm 3) optN (opt (cst (.int 1)))),(z01 [(cst (.int 0)),(cst (.int 0)),(cst (.int 1))])]),(z01 [(nmV 4),(nmV 3),(z01 [(cst (.int 0)),(cst (.int 0)),(cst (.int 1))])]),(z01 [(nmV 4),(z0g (nm 3) optN (opt (cst (.int 1)))),(z01 [(op2 oAdd (cst (.int 59)) (nm 1)),(cst (.int 0)),(cst (.int 1))])])]))
  (seq (asgN 5 (op2 oAdd (nm 5) (z0p [(z01 [(nmV 4),(z0g (nm 3) optN (opt (cst (.int 1)))),(z01 [(cst (.int 0)),(op2 oAdd (cst (.int 59)) (nm 1)),(cst (.int 1))])]),(z01 [(nmV 4),(z0g (nm 3) optN (opt (cst (.int 1)))),(z01 [(cst (.int 0)),(cst (.int 0)),(op2 oAdd (cst (.int 299)) (nm 1))])])])))
  (seq (app 5 (z01 [(nmV 4),(z0g (nm 3) optN (opt (cst (.int 1)))),(z01 [(cst (.int 0)),(cst (.int 0)),(nmV 1)])]))
  (seq (app 5 (z01 [(nmV 4),(z01 [(z01 [(cst (.str "1234")),(cst (.str "who")),(z0g (z01 [(cst (.str "set")),(cst (.str "shunt")),(cst (.str "unset"))]) (opt (nm 1)) optN),(op2 oAdd (cst (.int 8)) (nm 1))])]),(z01 [(cst (.int 0)),(cst (.int 0)),(cst (.int 1))])]))
  (seq (asg 6 (z0p [(z01 [(cst (.str "set")),(cst (.str "set"))]),(z01 [(cst (.str "unset")),(cst (.str "set"))]),(z01 [(cst (.str "set")),(cst (.str "unset"))]),(z01 [(cst (.str "free"))]),(z0p [(cst (.str "set"))]),(cst (.str "set")),(z01 [(cst (.int 5))]),(cst .none)]))
  (seq (asg 6 (op2 oIx (nm 6) (op2 oMod (op2 oDiv (nm 0) (cst (.int 64))) (cst (.int 8)))))
  (seq (app 5 (z01 [(nmV 4),(z01 [(z01 [(cst (.str "1234")),(cst (.str "who")),(nmV 6),(cst (.int 0))])]),(z01 [(cst (.int 0)),(cst (.int 0)),(cst (.int 1))])]))
  (seq (app 5 (z01 [(z01 [(z01 [(op2 oAdd (z0g (cst (.str "abcd")) optN (opt (op2 oAdd (cst (.int 2)) (nm 1)))) (cst (.str "e"))),(cst (.str "way"))])]),(z0g (nm 3) optN (opt (cst (.int 1)))),(z01 [(cst (.int 0)),(cst (.int 0)),(cst (.int 1))])]))
  (rtn (op2 oAdd (nm 5) (z0p [(z01 [(z01 []),(z0g (nm 3) optN (opt (cst (.int 1)))),(z01 [(cst (.int 0)),(cst (.int 0)),(cst (.int 1))])]),(z01 [(nmV 4),(z01 []),(z01 [(cst (.int 0)),(cst (.int 0)),(cst (.int 1))])])])))))))))))))))
def z1l:List T->Option T:=runF z5q 7
def zjl:Fs :=
  (rtn (andV (op1 (oIsI "int") (nm 0)) (andV (notV (op1 (oIsI "bool") (nm 0))) (chain oLe oLe (nm 1) (nm 0) (nm 2)))))
def z0h:List T->Option T:=runF zjl 3
def zn6:Fs :=
  (rtn (andV (op1 (oIsI "tuple") (nm 0)) (op2 oEq (opN oLen [(nm 0)]) (nm 1))))
def z1b:List T->Option T:=runF zn6 2
def zjk:Fs :=
  (rtn (andV (op1 (oIsI "str") (nm 0)) (op2 (oIn false) (nm 0) (nm 1))))
def z14:List T->Option T:=runF zjk 2
noncomputable def zi1:Fs :=
  (seq (iff (orT (notT (tstB (op1 (oIsI "str") (nm 0)))) (notT (tstB (chain oLe oLe (cst (.int 1)) (opN oLen [(nm 0)]) (cst (.int 4)))))) (rtn (cst (.bool false))) skip)
  (rtn (op2 oEq (comp 1 [] (itA (nmV 0)) (gNm 0) (notT (tstB (chain oLe oLe (cst (.str "a")) (nm 0) (cst (.str "z"))))) (nmV 0)) (z0p []))))
def z1z:List T->Option T:=runF zi1 1
noncomputable def zgv:Fs :=
  (rtn (andV (op1 (oIsI "str") (nm 0)) (andV (op2 oEq (opN oLen [(nm 0)]) (cst (.int 4))) (op2 oEq (comp 1 [] (itA (nmV 0)) (gNm 0) (notT (tstB (chain oLe oLe (cst (.str "0")) (nm 0) (cst (.str "9"))))) (nmV 0)) (z0p [])))))
def z4t:List T->Option T:=runF zgv 1
noncomputable def za4:Fs :=
  (seq (iff (orT (notT (tstB (opN z1b [(nmV 0),(cst (.int 3))]))) (orT (notT (tstB (op1 (oIsI "tuple") (op2 oIx (nm 0) (cst (.int 0)))))) (notT (tstB (chain oLe oLe (cst (.int 1)) (opN oLen [(op2 oIx (nm 0) (cst (.int 0)))]) (cst (.int 8))))))) (rtn (cst (.bool false))) skip)
  (seq (iff (orT (notT (tstB (op1 (oIsI "tuple") (op2 oIx (nm 0) (cst (.int 1)))))) (orT (notT (tstB (chain oLe oLe (cst (.int 1)) (opN oLen [(op2 oIx (nm 0) (cst (.int 1)))]) (cst (.int 6))))) (notT (tstB (opN z1b [(op2 oIx (nm 0) (cst (.int 2))),(cst (.int 3))]))))) (rtn (cst (.bool false))) skip)
  (seq (for_ (itA (op2 oIx (nm 0) (cst (.int 0)))) (gNm 1)
  (seq (iff (orT (notT (tstB (opN z1b [(nmV 1),(cst (.int 2))]))) (notT (tstB (opN z1z [(op2 oIx (nm 1) (cst (.int 0)))])))) (rtn (cst (.bool false))) skip)
  (iff (notT (tstB (opN z14 [(op2 oIx (nm 1) (cst (.int 1))),(z01 [(cst (.str "day")),(cst (.str "inner")),(cst (.str "once")),(cst (.str "way"))])]))) (rtn (cst (.bool false))) skip)))
  (seq (for_ (itA (op2 oIx (nm 0) (cst (.int 1)))) (gNm 2)
  (seq (iff (orT (notT (tstB (opN z1b [(nmV 2),(cst (.int 4))]))) (orT (notT (tstB (opN z4t [(op2 oIx (nm 2) (cst (.int 0)))]))) (notT (tstB (opN z1z [(op2 oIx (nm 2) (cst (.int 1)))]))))) (rtn (cst (.bool false))) skip)
  (seq (iff (orT (notT (tstB (op1 (oIsI "tuple") (op2 oIx (nm 2) (cst (.int 2)))))) (notT (tstB (opN z0h [(op2 oIx (nm 2) (cst (.int 3))),(cst (.int 0)),(cst (.int 9))])))) (rtn (cst (.bool false))) skip)
  (seq (iff (tstB (op2 oNe (comp 1 [] (itA (op2 oIx (nm 2) (cst (.int 2)))) (gNm 0) (notT (tstB (opN z14 [(nmV 0),(z01 [(cst (.str "set")),(cst (.str "shunt")),(cst (.str "unset"))])]))) (nmV 0)) (z0p []))) (rtn (cst (.bool false))) skip)
  (iff (tstB (op2 oNe (opN zag [(op2 oIx (nm 2) (cst (.int 2)))]) (opN z16 [(op2 oIx (nm 2) (cst (.int 2)))]))) (rtn (cst (.bool false))) skip)))))
  (seq (for_ (itA (z01 [(comp 1 [] (itA (op2 oIx (nm 0) (cst (.int 0)))) (gNm 0) (cstT true) (op2 oIx (nm 0) (cst (.int 0)))),(comp 1 [] (itA (op2 oIx (nm 0) (cst (.int 1)))) (gNm 0) (cstT true) (op2 oIx (nm 0) (cst (.int 0))))])) (gNm 3)
  (iff (tstB (op2 oNe (nm 3) (opN z16 [(nm 3)]))) (rtn (cst (.bool false))) skip))
  (seq (asgT (gTu [(gNm 4),(gNm 5),(gNm 6)]) (op2 oIx (nm 0) (cst (.int 2))))
  (rtn (andV (opN z0h [(nmV 4),(cst (.int 0)),(cst (.int 60))]) (andV (opN z0h [(nmV 5),(cst (.int 0)),(cst (.int 60))]) (opN z0h [(nmV 6),(cst (.int 1)),(cst (.int 300))]))))))))))
def z4s:List T->Option T:=runF za4 7
noncomputable def z86:Fs :=
  (seq (asg 2 (comp 1 [] (itA (op2 oIx (nm 0) (cst (.int 0)))) (gNm 0) (cstT true) (op2 oIx (nm 0) (cst (.int 0)))))
  (seq (iff (orT (notT (tstB (op1 (oIsI "tuple") (nm 1)))) (orT (tstB (op2 oEq (nm 1) (z01 []))) (notT (tstB (op1 (oIsI "str") (op2 oIx (nm 1) (cst (.int 0)))))))) (rtn (cst (.bool false))) skip)
  (seq (iff (tstB (op2 oEq (op2 oIx (nm 1) (cst (.int 0))) (cst (.str "line")))) (rtn (andV (op2 oEq (opN oLen [(nm 1)]) (cst (.int 3))) (andV (opN z14 [(op2 oIx (nm 1) (cst (.int 1))),(nmV 2)]) (opN z14 [(op2 oIx (nm 1) (cst (.int 2))),(z01 [(cst (.str "shut")),(cst (.str "open")),(cst (.str "cut"))])])))) skip)
  (seq (iff (tstB (op2 oEq (op2 oIx (nm 1) (cst (.int 0))) (cst (.str "ticks")))) (rtn (andV (op2 oEq (opN oLen [(nm 1)]) (cst (.int 2))) (opN z0h [(op2 oIx (nm 1) (cst (.int 1))),(cst (.int 1)),(op2 zs5 (cst (.int 10)) (cst (.int 30)))]))) skip)
  (seq (iff (orT (tstB (op2 oNe (op2 oIx (nm 1) (cst (.int 0))) (cst (.str "code")))) (orT (tstB (op2 oNe (opN oLen [(nm 1)]) (cst (.int 4)))) (notT (tstB (opN z4t [(op2 oIx (nm 1) (cst (.int 1)))]))))) (rtn (cst (.bool false))) skip)
  (seq (iff (tstB (opN z14 [(op2 oIx (nm 1) (cst (.int 2))),(z01 [(cst (.str "set")),(cst (.str "unset"))])])) (rtn (op1 oIsN (op2 oIx (nm 1) (cst (.int 3))))) skip)
  (rtn (andV (opN z14 [(op2 oIx (nm 1) (cst (.int 2))),(z01 [(cst (.str "shunt")),(cst (.str "free"))])]) (opN z14 [(op2 oIx (nm 1) (cst (.int 3))),(nmV 2)])))))))))
def z44:List T->Option T:=runF z86 3
noncomputable def zn5:Fs :=
  (seq (asg 1 (opN z0e [(nmV 0),(cst (.int 0))]))
  (seq (asg 2 (opN z7a [(opN z0e [(nmV 0),(cst (.int 1))])]))
  (seq (asg 3 (opN z9q [(nmV 2),(opN z0e [(nmV 0),(cst (.int 2))])]))
  (seq (iff (orT (tstB (op2 z99 (opN z7c [(nmV 2)]) (cst (.bool true)))) (tstB (op2 z99 (opN z5z [(nmV 2),(nmV 3)]) (cst (.bool true))))) (rtn (cst (.bool false))) skip)
  (seq (asg 4 (nmV 2))
  (seq (iff (tstB (op2 oGt (op2 oMod (nm 1) (cst (.int 3))) (cst (.int 0)))) (seq (asg 4 (opN (z18 20) [(nmV 4),(opN z0e [(nmV 0),(cst (.int 3))]),(op2 oMod (op2 oDiv (nm 1) (cst (.int 4))) (cst (.int 5)))]))
  (asg 3 (opN (z18 20) [(nmV 3),(opN z0e [(nmV 0),(cst (.int 4))]),(op2 oMod (op2 oDiv (nm 1) (cst (.int 32))) (cst (.int 2)))]))) skip)
  (seq (for_ (itA (op2 oAdd (opN z1l [(opN z0e [(nmV 0),(cst (.int 5))])]) (z0p [(nmV 4),(nmV 3)]))) (gNm 5)
  (seq (asg 6 (opN z7c [(nmV 5)]))
  (iff (orT (notT (tstB (op1 (oIsI "bool") (nm 6)))) (tstB (op2 oNe (nm 6) (opN z4s [(nmV 5)])))) (rtn (cst (.bool false))) skip)))
  (seq (asg 7 (z0p [(z01 [(cst (.str "ticks")),(op2 oMod (op2 oDiv (nm 1) (cst (.int 64))) (cst (.int 3)))]),(z01 [(cst (.str "ticks")),(cst (.bool true))]),(z01 [(cst (.str "line")),(cst (.str "zzzz")),(cst (.str "open"))])]))
  (seq (for_ (itA (op2 oAdd (nm 7) (z0p [(nmV 3),(z01 [(cst (.str "code")),(cst (.str "1234")),(cst (.str "set")),(cst (.str "a"))])]))) (gNm 5)
  (seq (asg 6 (opN z5z [(nmV 2),(nmV 5)]))
  (iff (orT (notT (tstB (op1 (oIsI "bool") (nm 6)))) (tstB (op2 oNe (nm 6) (opN z44 [(nmV 2),(nmV 5)])))) (rtn (cst (.bool false))) skip)))
  (rtn (cst (.bool true))))))))))))
def zc9:List T->Option T:=runF zn5 8
end K01
end
section
namespace K02
open D Co Fo K01
noncomputable def z4g:Fs :=
  (rtn (opN z1u [(opN z0x [(comp 1 [] (z1e (op2 oIx (nm 0) (cst (.int 1)))) (gNm 0) (tstB (op1 z2h (op2 oIx (nm 0) (cst (.int 2))))) (op2 oIx (nm 0) (cst (.int 2))))])]))
def z2p:List T->Option T:=runF z4g 1
noncomputable def z5q:Fs :=
  (seq (asg 1 (op2 oMod (nm 0) (cst (.int 3))))
  (seq (asg 2 (z0p [(z01 [(op2 oAdd (cst (.int 6)) (nm 1)),(z01 [])]),(z01 [(nmV 1),(z01 [])]),(z01 [(cst (.int 3)),(op2 oRep (z01 [(z01 [(cst (.int 0)),(cst (.int 1)),(cst .none)])]) (op2 oAdd (cst (.int 9)) (nm 1)))]),(z01 [(cst (.int 3)),(z01 [(z01 [(cst (.int 0)),(op2 oAdd (cst (.int 2)) (nm 1)),(cst (.str "a"))])])])]))
  (rtn (op2 oAdd (nm 2) (z0p [(z01 [(cst (.int 3)),(z01 [(z01 [(op2 oSub (nm 1) (cst (.int 1))),(cst (.int 2)),(cst (.str "a"))])])]),(z01 [(cst (.int 3)),(z01 [(z01 [(cst (.int 1)),(nmV 1),(cst .none)])])]),(z01 [(cst (.int 3)),(z01 [(z01 [(cst (.int 0)),(cst (.int 1)),(op2 oAdd (z0g (cst (.str "abcd")) optN (opt (op2 oAdd (cst (.int 3)) (op2 oMod (nm 1) (cst (.int 2)))))) (cst (.str "e")))])])])])))))
def z1l:List T->Option T:=runF z5q 3
noncomputable def zi0:Fs :=
  (seq (for_ (z1e (op2 oIx (nm 0) (cst (.int 1)))) (gNm 2)
  (iff (tstB (op2 oEq (op2 oIx (nm 2) (cst (.int 0))) (nm 1))) (rtn (op2 oIx (nm 2) (cst (.int 1)))) skip))
  (rtn (cst .none)))
def z4r:List T->Option T:=runF zi0 3
noncomputable def z85:Fs :=
  (seq (iff (orT (notT (tstB (opN z1b [(nmV 0),(cst (.int 2))]))) (notT (tstB (opN z0h [(op2 oIx (nm 0) (cst (.int 0))),(cst (.int 1)),(cst (.int 7))])))) (rtn (cst (.bool false))) skip)
  (seq (iff (orT (notT (tstB (op1 (oIsI "tuple") (op2 oIx (nm 0) (cst (.int 1)))))) (tstB (op2 oGt (opN oLen [(op2 oIx (nm 0) (cst (.int 1)))]) (cst (.int 10))))) (rtn (cst (.bool false))) skip)
  (seq (for_ (itA (op2 oIx (nm 0) (cst (.int 1)))) (gNm 1)
  (seq (iff (orT (notT (tstB (opN z1b [(nmV 1),(cst (.int 3))]))) (orT (notT (tstB (opN z0h [(op2 oIx (nm 1) (cst (.int 0))),(cst (.int 0)),(op2 oIx (nm 0) (cst (.int 0)))]))) (notT (tstB (opN z0h [(op2 oIx (nm 1) (cst (.int 1))),(cst (.int 0)),(op2 oIx (nm 0) (cst (.int 0)))]))))) (rtn (cst (.bool false))) skip)
  (iff (orT (tstB (op2 oGe (op2 oIx (nm 1) (cst (.int 0))) (op2 oIx (nm 1) (cst (.int 1))))) (andT (tstB (op1 z2h (op2 oIx (nm 1) (cst (.int 2))))) (notT (tstB (opN z1z [(op2 oIx (nm 1) (cst (.int 2)))]))))) (rtn (cst (.bool false))) skip)))
  (rtn (cst (.bool true))))))
def z28:List T->Option T:=runF z85 2
noncomputable def z7m:Fz :=
  (seqZ (for_ (z1e (op2 oIx (nm 0) (cst (.int 0)))) (gNm 2)
  (iff (tstB (op2 oEq (op2 oIx (nm 2) (cst (.int 0))) (nm 1))) (rtn (op2 oIx (nm 2) (cst (.int 1)))) skip)) (okZ (op1 (zil "no zone is called ") (nm 1))))
def z4a:List Sl->Bool:=runZ z7m 3
noncomputable def zn5:Fs :=
  (seq (asg 1 (opN z0e [(nmV 0),(cst (.int 0))]))
  (seq (asg 2 (opN d_l_house [(opN z0e [(nmV 0),(cst (.int 1))])]))
  (seq (asg 3 (opN z7a [(opN z0e [(nmV 0),(cst (.int 2))])]))
  (seq (iff (tstB (op2 z99 (opN z2q [(nmV 2)]) (cst (.bool true)))) (rtn (cst (.bool false))) skip)
  (seq (asg 4 (comp 1 [] (itA (op2 oIx (nm 2) (cst (.int 1)))) (gNm 0) (tstB (op1 z2h (op2 oIx (nm 0) (cst (.int 2))))) (op2 oIx (nm 0) (cst (.int 2)))))
  (seq (iff (tstB (op2 oNe (opN z2p [(nmV 2)]) (opN z1u [(opN z16 [(nm 4)])]))) (rtn (cst (.bool false))) skip)
  (seq (for_ (itA (op2 oIx (nm 3) (cst (.int 0)))) (gTu [(gNm 5),(gNm 6)])
  (iff (tstB (op2 oNe (opN z2y [(nmV 3),(nmV 5)]) (nm 6))) (rtn (cst (.bool false))) skip))
  (seq (for_ (itA (op2 oIx (nm 3) (cst (.int 1)))) (gTu [(gNm 7),(gNm 8),(gNm 9),(gNm 10)])
  (iff (tstB (op2 oNe (opN z4r [(nmV 3),(nmV 7)]) (nm 8))) (rtn (cst (.bool false))) skip))
  (seq (iff (orT (tstB (op2 oNe (zjx (opN z2y [(nmV 3),(cst (.str "zzzz"))]) (zjc z4a [.v (nmV 3),.v (cst (.str "zzzz"))]) 0) (z01 [(cst (.str "refused")),(cst (.int 0))]))) (tstB (op1 z2h (opN z4r [(nmV 3),(cst (.str "5555"))])))) (rtn (cst (.bool false))) skip)
  (seq (asg 11 (z01 [(cst (.str "off")),(cst (.int 0)),(cst .none),(op2 zaf (z01 [(cst (.str "shut"))]) (opN oLen [(op2 oIx (nm 3) (cst (.int 0)))])),(z01 []),(cst (.int 0)),(z01 []),(cst (.int 0)),(cst (.int 0)),(op2 zaf (z01 [(cst (.int 0))]) (opN oLen [(op2 oIx (nm 3) (cst (.int 1)))]))]))
  (seq (iff (tstB (op2 oNe (opN zbx [(opN z9r [(nmV 3)])]) (opN zbx [(nm 11)]))) (rtn (cst (.bool false))) skip)
  (seq (asg 12 (nmV 2))
  (seq (iff (tstB (op2 oGt (op2 oMod (nm 1) (cst (.int 3))) (cst (.int 0)))) (asg 12 (opN (z18 20) [(nmV 12),(opN z0e [(nmV 0),(cst (.int 3))]),(op2 oMod (op2 oDiv (nm 1) (cst (.int 4))) (cst (.int 4)))])) skip)
  (seq (for_ (itA (op2 oAdd (opN z1l [(opN z0e [(nmV 0),(cst (.int 4))])]) (z0p [(nmV 12)]))) (gNm 13)
  (seq (asg 14 (opN z2q [(nmV 13)]))
  (iff (orT (notT (tstB (op1 (oIsI "bool") (nm 14)))) (tstB (op2 oNe (nm 14) (opN z28 [(nmV 13)])))) (rtn (cst (.bool false))) skip)))
  (rtn (cst (.bool true)))))))))))))))))
def zc9:List T->Option T:=runF zn5 15
end K02
end
section
namespace K02
open PySem PySem.Spec PyProof.Rows L2 D Co Fo K01
variable [Tbl]
def top (i:Nat):Stmt:=PySem.Challenge.pw_doorwatch_k02_houses.main.body.getD i (.Pass ⟨0,0,0,0⟩)
section
variable {P:y0q} {w:World} {K:y00} {mg:Str->Option Value} {base:Heap}
abbrev z20:Stmt:=top 22
theorem zcy:FnScope ["_law_script","_law_k"] ["_law_script","_law_k"] (z02 z20):=⟨rfl,rfl,rfl,by decide +kernel,rfl,by decide +kernel,by decide +kernel⟩
theorem zer {K:y00} {f:Addr} {fd:y0b} (F:Fun K "_law_cell_at" "_law_cell_at" z20 f fd):Binds K fd ["_law_script","_law_k"] []:=F.binds (ps:=["_law_script","_law_k"]) fun _ _ _ _ _ _ us hl=>match us,hl with|[_,_],_=>rfl
theorem z6q {k:Nat} {f:Addr} {fd:y0b} (F:Fun K "_law_cell_at" "_law_cell_at" z20 f fd) (m:mg "_law_cell_at"=some (.ref f)) (z_len:mg "len"=none):Cl P w K mg base "_law_cell_at" (k+1) 2 z0s :=
 z3w F zcy (zer F) m fun cdv A outer s H E hr =>
  (z0z (s_if (z2t (zuh.or zdg) zqi (q_nm 1) (v2r (z8z (by exact z_len) (z0n (q_nm 0) z1d)))) (z19 (z1s (q_ix (q_nm 0) (q_nm 1)))) z6r)
  (z19 (z1s z03)))
abbrev z3h:Stmt:=top 23
theorem zap:FnScope ["_law_script","_law_k","_law_drawn_here"] ["_law_script","_law_k"] (z02 z3h):=⟨rfl,rfl,rfl,by decide +kernel,rfl,by decide +kernel,by decide +kernel⟩
theorem zje {K:y00} {f:Addr} {fd:y0b} (F:Fun K "_law_mixed" "_law_mixed" z3h f fd):Binds K fd ["_law_script","_law_k"] []:=F.binds (ps:=["_law_script","_law_k"]) fun _ _ _ _ _ _ us hl=>match us,hl with|[_,_],_=>rfl
theorem z3p {k:Nat} {f:Addr} {fd:y0b} (F:Fun K "_law_mixed" "_law_mixed" z3h f fd) (m:mg "_law_mixed"=some (.ref f)) (z6q:Cl P w K mg base "_law_cell_at" k 2 z0s):Cl P w K mg base "_law_mixed" (k+1) 2 z0e :=
 z3w F zap (zje F) m fun cdv A outer s H E hr =>
  (z0z (z3v 2 zap.nd (z1p (v2r (zd9 (v2r (z3a (v2r (z3a (v2r (z0j z6q hr (z00 (z0q 0) (z00 (z0q 1) z0a)))) (v2r (zd9 (v2r z03) (q_nm 1))))) (v2r z03))) (v2r z03))) (v2r z03)))
  (z19 (z1s (z1p (v2r (z3a (v2r (z3a (v2r (zd9 (q_nm 2) (q_nm 2))) (v2r (zd9 (v2r z03) (q_nm 2))))) (q_nm 1))) (v2r z03)))))
abbrev z3k:Stmt:=top 24
theorem zaq:FnScope ["_law_number_here","_law_k","_law_drawn_here"] ["_law_number_here","_law_k"] (z02 z3k):=⟨rfl,rfl,rfl,by decide +kernel,rfl,by decide +kernel,by decide +kernel⟩
theorem zjh {K:y00} {f:Addr} {fd:y0b} (F:Fun K "_law_drawn" "_law_drawn" z3k f fd):Binds K fd ["_law_number_here","_law_k"] []:=F.binds (ps:=["_law_number_here","_law_k"]) fun _ _ _ _ _ _ us hl=>match us,hl with|[_,_],_=>rfl
theorem z1g {k:Nat} {f:Addr} {fd:y0b} (F:Fun K "_law_drawn" "_law_drawn" z3k f fd) (m:mg "_law_drawn"=some (.ref f)) :Cl P w K mg base "_law_drawn" (k+1) 2 z0i :=
 z3w F zaq (zjh F) m fun cdv A outer s H E hr =>
  (z0z (z3v 2 zaq.nd (z1p (v2r (zd9 (v2r (z3a (v2r (z3a (q_nm 0) (v2r (zd9 (v2r z03) (q_nm 1))))) (v2r z03))) (v2r z03))) (v2r z03)))
  (z19 (z1s (z1p (v2r (z3a (v2r (z3a (v2r (zd9 (q_nm 2) (q_nm 2))) (v2r (zd9 (v2r z03) (q_nm 2))))) (q_nm 1))) (v2r z03)))))
abbrev z3i:Stmt:=top 27
theorem z1n:FnScope ["_law_number_here","_law_rooms","_law_openings","_law_k","_law_drawn_here","_law_one","_law_other","_law_zone"] ["_law_number_here"] (z02 z3i):=⟨rfl,rfl,rfl,by decide +kernel,rfl,by decide +kernel,by decide +kernel⟩
theorem zjf {K:y00} {f:Addr} {fd:y0b} (F:Fun K "_law_house" "_law_house" z3i f fd):Binds K fd ["_law_number_here"] []:=F.binds (ps:=["_law_number_here"]) fun _ _ _ _ _ _ us hl=>match us,hl with|[_],_=>rfl
theorem z9x {k:Nat} {f:Addr} {fd:y0b} (F:Fun K "_law_house" "_law_house" z3i f fd) (m:mg "_law_house"=some (.ref f)) (z_range:mg "range"=none) (z1g:Cl P w K mg base "_law_drawn" k 2 z0i) (z_min:mg "min"=none) (z_max:mg "max"=none):Cl P w K mg base "_law_house" (k+1) 1 d_l_house :=
 z3w F z1n (zjf F) m fun cdv A outer s H E hr =>
  (z0z (z3v 1 z1n.nd (z3a (v2r z03) (v2r (z1p (q_nm 0) (v2r z03)))))
  (z0z (z3v 2 z1n.nd (z1t z0a))
  (z0z (zd0 y25 (zqm z_range (v2r (z1p (v2r (z39 (q_nm 0) (v2r z03))) (v2r z03)))) (g_nm 3 z1n.nd)
  (z0z (z3v 4 z1n.nd (z39 (v2r (z0j z1g hr (z00 (z0q 0) (z00 (z3a (v2r z03) (q_nm 3)) z0a)))) (v2r z03)))
  (z0z (z3v 5 z1n.nd (z1p (q_nm 4) (v2r (z3a (q_nm 1) (v2r z03)))))
  (z0z (z3v 6 z1n.nd (z1p (v2r (z3a (v2r (z3a (q_nm 5) (v2r z03))) (v2r (z1p (v2r (z39 (q_nm 4) (v2r z03))) (q_nm 1))))) (v2r (z3a (q_nm 1) (v2r z03)))))
  (z0z (z3v 7 z1n.nd (q_ix (v2r (z1t (z00 zd8 (z00 zd8 (z00 z0o (z00 z0o (z00 z0o (z00 z0o (z00 z0o z0a))))))))) (v2r (z1p (v2r (z39 (q_nm 4) (v2r z03))) (v2r z03)))))
  (z19 (z3v 2 z1n.nd (z3a (q_nm 2) (v2r (z1t (z00 (z1t (z00 (zvw z_min (z0n (q_nm 5) (z0n (q_nm 6) z1d))) (z00 (zvx z_max (z0n (q_nm 5) (z0n (q_nm 6) z1d))) (z00 (z0q 7) z0a)))) z0a)))))))))))
  (z19 (z1s (z1t (z00 (z0q 1) (z00 (z0q 2) z0a))))))))
abbrev z40:Stmt:=top 26
theorem z15:FnScope ["_law_number_here","_law_zones","_law_k","_law_name","_law_drawn_here","_law_codes","_law_figures_here","_law_rights","_law_who","_law_times"] ["_law_number_here"] (z02 z40):=⟨rfl,rfl,rfl,by decide +kernel,rfl,by decide +kernel,by decide +kernel⟩
theorem zn4 {K:y00} {f:Addr} {fd:y0b} (F:Fun K "_law_plan" "_law_plan" z40 f fd):Binds K fd ["_law_number_here"] []:=F.binds (ps:=["_law_number_here"]) fun _ _ _ _ _ _ us hl=>match us,hl with|[_],_=>rfl
theorem zcc {k:Nat} {f:Addr} {fd:y0b} (F:Fun K "_law_plan" "_law_plan" z40 f fd) (m:mg "_law_plan"=some (.ref f)) (z_enumerate:mg "enumerate"=none) (z1g:Cl P w K mg base "_law_drawn" k 2 z0i) (z_tuple:mg "tuple"=none) (z_range:mg "range"=none):Cl P w K mg base "_law_plan" (k+1) 1 z7a :=
 z3w F z15 (zn4 F) m fun cdv A outer s H E hr =>
  (z0z (z3v 1 z15.nd (z1t z0a))
  (z0z (zd0 y25 (zqn z_enumerate (z1t (z00 z0o (z00 z0o (z00 z0o (z00 z0o (z00 z0o (z00 z0o (z00 z0o (z00 z0o z0a)))))))))) (zpf (z6a (g_nm 2 z15.nd) (z6a (g_nm 3 z15.nd) zpg)))
  (z0z (z3v 4 z15.nd (z39 (v2r (z0j z1g hr (z00 (z0q 0) (z00 (z0q 2) z0a)))) (v2r z03)))
  (z19 (s_if (w_t (w_or (z2t (zuh.or zdg) zqi (v2r (z1p (q_nm 4) (v2r z03))) (v2r (z3a (v2r z03) (v2r (z1p (q_nm 0) (v2r z03)))))) (z88 (z2t (z5d (by exact hr.units)) z5f (q_nm 2) (v2r (z1p (v2r (z39 (q_nm 0) (v2r z03))) (v2r z03))))))) (z19 (z3v 1 z15.nd (z3a (q_nm 1) (v2r (z1t (z00 (z1t (z00 (z0q 3) (z00 (q_ix (v2r (z1t (z00 z0o (z00 z0o (z00 z0o (z00 z0o (z00 z0o z0a))))))) (v2r (z1p (v2r (z39 (q_nm 4) (v2r z03))) (v2r z03)))) z0a))) z0a)))))) z6r))))
  (z0z (z3v 5 z15.nd (z1t z0a))
  (z0z (zd0 y25 (zqn z_enumerate (z1t (z00 z0o (z00 z0o (z00 z0o (z00 z0o (z00 z0o (z00 z0o z0a)))))))) (zpf (z6a (g_nm 2 z15.nd) (z6a (g_nm 6 z15.nd) zpg)))
  (z0z (z3v 4 z15.nd (z39 (v2r (z0j z1g hr (z00 (z0q 0) (z00 (z3a (v2r z03) (q_nm 2)) z0a)))) (v2r z03)))
  (z19 (s_if (w_t (w_or (z2t (zdh.or z2w) z80 (v2r (z1p (q_nm 4) (v2r z03))) (v2r z03)) (z88 (z2t (z5d (by exact hr.units)) z5f (q_nm 2) (v2r z03))))) (z0z (z3v 7 z15.nd (z8y z_tuple (z0n (v2r (z6h (own:=["_law_j"]) (caps:=[(4,"_law_drawn_here")]) (z83 (sc:=z02 z40) ["_law_number_here","_law_zones","_law_k","_law_name","_law_drawn_here","_law_codes","_law_figures_here","_law_rights","_law_who","_law_times"] rfl rfl rfl (by decide +kernel)) (zqm z_range (v2r z03)) (fun _ _ _ _ _ _=>(g_nm 0 (show y1p (["_law_j","_law_drawn_here"]:List Str) by decide +kernel))) (fun _ _ _ _ _ _=>(zh4 (z2t (zdh.or z2w) z80 (v2r (z1p (v2r (z39 (q_nm 1) (v2r (q_ix (v2r (z1t (z00 z03 (z00 z03 (z00 z03 z0a))))) (q_nm 0))))) (v2r z03))) (v2r z03)))) (fun _ _ _ _ _ _=>(q_ix (v2r (z1t (z00 z0o (z00 z0o (z00 z0o z0a))))) (q_nm 0))))) z1d)))
  (z0z (z3v 8 z15.nd (q_ix (v2r (z1t (z00 z0o (z00 z0o (z00 z0o z0a))))) (v2r (z1p (v2r (z39 (q_nm 4) (v2r z03))) (v2r z03)))))
  (z19 (z3v 5 z15.nd (z3a (q_nm 5) (v2r (z1t (z00 (z1t (z00 (z0q 6) (z00 (z0q 8) (z00 (z0q 7) (z00 (q_ix (v2r (z1t (z00 z03 (z00 z03 (z00 z03 (z00 z03 (z00 z03 z0a))))))) (v2r (z1p (v2r (z39 (q_nm 4) (v2r z03))) (v2r z03)))) z0a))))) z0a)))))))) z6r))))
  (z0z (z3v 4 z15.nd (z39 (v2r (z0j z1g hr (z00 (z0q 0) (z00 z03 z0a)))) (v2r z03)))
  (z0z (z3v 9 z15.nd (z1t (z00 (q_ix (v2r (z1t (z00 z03 (z00 z03 (z00 z03 (z00 z03 z0a)))))) (v2r (z1p (q_nm 4) (v2r z03)))) (z00 (q_ix (v2r (z1t (z00 z03 (z00 z03 (z00 z03 (z00 z03 z0a)))))) (v2r (z1p (v2r (z39 (q_nm 4) (v2r z03))) (v2r z03)))) (z00 (q_ix (v2r (z1t (z00 z03 (z00 z03 (z00 z03 (z00 z03 z0a)))))) (v2r (z1p (v2r (z39 (q_nm 4) (v2r z03))) (v2r z03)))) z0a)))))
  (z19 (z1s (z1t (z00 (z0q 1) (z00 (z0q 5) (z00 (z0q 9) z0a))))))))))))
abbrev z2o:Stmt:=top 3
theorem zff:FnScope ["thing","least","most"] ["thing","least","most"] (z02 z2o):=⟨rfl,rfl,rfl,by decide +kernel,rfl,by decide +kernel,by decide +kernel⟩
theorem zgt {K:y00} {f:Addr} {fd:y0b} (F:Fun K "is_tuple" "is_tuple" z2o f fd):Binds K fd ["thing","least","most"] []:=F.binds (ps:=["thing","least","most"]) fun _ _ _ _ _ _ us hl=>match us,hl with|[_,_,_],_=>rfl
theorem z3c {k:Nat} {f:Addr} {fd:y0b} (F:Fun K "is_tuple" "is_tuple" z2o f fd) (m:mg "is_tuple"=some (.ref f)) (z_isinstance:mg "isinstance"=none) (z_tuple:mg "tuple"=none) (z_len:mg "len"=none):Cl P w K mg base "is_tuple" (k+1) 3 z06 :=
 z3w F zff (zgt F) m fun cdv A outer s H E hr =>
  (z19 (z1s (zfm (z76 z78 z7h z_isinstance z_tuple (q_nm 0)) (zaw (zhc (q_nm 1) (v2r (z8z (by exact z_len) (z0n (q_nm 0) z1d))) (q_nm 2))))))
abbrev z2n:Stmt:=top 1
theorem zfe:FnScope ["thing"] ["thing"] (z02 z2n):=⟨rfl,rfl,rfl,by decide +kernel,rfl,by decide +kernel,by decide +kernel⟩
theorem zgs {K:y00} {f:Addr} {fd:y0b} (F:Fun K "is_whole" "is_whole" z2n f fd):Binds K fd ["thing"] []:=F.binds (ps:=["thing"]) fun _ _ _ _ _ _ us hl=>match us,hl with|[_],_=>rfl
theorem z7y {k:Nat} {f:Addr} {fd:y0b} (F:Fun K "is_whole" "is_whole" z2n f fd) (m:mg "is_whole"=some (.ref f)) (z_isinstance:mg "isinstance"=none) (z_int:mg "int"=none) (z_bool:mg "bool"=none):Cl P w K mg base "is_whole" (k+1) 1 z4d :=
 z3w F zfe (zgs F) m fun cdv A outer s H E hr =>
  (z19 (z1s (zfm (z76 zlt zn0 z_isinstance z_int (q_nm 0)) (zaw (ztr (z76 zg9 zgo z_isinstance z_bool (q_nm 0)))))))
abbrev z21:Stmt:=top 2
theorem zcz:FnScope ["thing","least","most"] ["thing","least","most"] (z02 z21):=⟨rfl,rfl,rfl,by decide +kernel,rfl,by decide +kernel,by decide +kernel⟩
theorem zes {K:y00} {f:Addr} {fd:y0b} (F:Fun K "is_within" "is_within" z21 f fd):Binds K fd ["thing","least","most"] []:=F.binds (ps:=["thing","least","most"]) fun _ _ _ _ _ _ us hl=>match us,hl with|[_,_,_],_=>rfl
theorem z2r {k:Nat} {f:Addr} {fd:y0b} (F:Fun K "is_within" "is_within" z21 f fd) (m:mg "is_within"=some (.ref f)) (z7y:Cl P w K mg base "is_whole" k 1 z4d):Cl P w K mg base "is_within" (k+1) 3 z0t :=
 z3w F zcz (zes F) m fun cdv A outer s H E hr =>
  (z19 (z1s (zfm (z0j z7y hr (z00 (z0q 0) z0a)) (zaw (zhc (q_nm 1) (q_nm 0) (q_nm 2))))))
abbrev z2v:Stmt:=top 4
theorem zib:FnScope ["thing","least","most","first","last"] ["thing","least","most","first","last"] (z02 z2v):=⟨rfl,rfl,rfl,by decide +kernel,rfl,by decide +kernel,by decide +kernel⟩
theorem zji {K:y00} {f:Addr} {fd:y0b} (F:Fun K "is_text" "is_text" z2v f fd):Binds K fd ["thing","least","most","first","last"] []:=F.binds (ps:=["thing","least","most","first","last"]) fun _ _ _ _ _ _ us hl=>match us,hl with|[_,_,_,_,_],_=>rfl
theorem z9z {k:Nat} {f:Addr} {fd:y0b} (F:Fun K "is_text" "is_text" z2v f fd) (m:mg "is_text"=some (.ref f)) (z_all:mg "all"=none) (z_isinstance:mg "isinstance"=none) (z_len:mg "len"=none) (z_str:mg "str"=none):Cl P w K mg base "is_text" (k+1) 5 z1y :=
 z3w F zib (zji F) m fun cdv A outer s H E hr =>
  (z0z (s_if (w_t (w_or (z51 (z29 (v2r (z76 zls zmz z_isinstance z_str (q_nm 0))))) (z88 (z51 (zjz (q_nm 1) (v2r (z8z (by exact z_len) (z0n (q_nm 0) z1d))) (q_nm 2)))))) (z19 (z1s q_bl)) z6r)
  (z19 (z1s (ztw rfl z_all (z0n (v2r (z6h (own:=["sign"]) (caps:=[(3,"first"),(4,"last")]) (z83 (sc:=z02 z2v) ["thing","least","most","first","last"] rfl rfl rfl (by decide +kernel)) (i_A (z0q 0)) (fun _ _ _ _ _ _=>(g_nm 0 (show y1p (["sign","first","last"]:List Str) by decide +kernel))) (fun _ _ _ _ _ _=>zh5) (fun _ _ _ _ _ _=>(zhc (q_nm 1) (q_nm 0) (q_nm 2))))) z1d)))))
abbrev z3l:Stmt:=top 5
theorem zic:FnScope ["thing"] ["thing"] (z02 z3l):=⟨rfl,rfl,rfl,by decide +kernel,rfl,by decide +kernel,by decide +kernel⟩
theorem zjj {K:y00} {f:Addr} {fd:y0b} (F:Fun K "is_name" "is_name" z3l f fd):Binds K fd ["thing"] []:=F.binds (ps:=["thing"]) fun _ _ _ _ _ _ us hl=>match us,hl with|[_],_=>rfl
theorem za0 {k:Nat} {f:Addr} {fd:y0b} (F:Fun K "is_name" "is_name" z3l f fd) (m:mg "is_name"=some (.ref f)) (z9z:Cl P w K mg base "is_text" k 5 z1y):Cl P w K mg base "is_name" (k+1) 1 z4e :=
 z3w F zic (zjj F) m fun cdv A outer s H E hr =>
  (z19 (z1s (z0j z9z hr (z00 (z0q 0) (z00 z03 (z00 z03 (z00 z0o (z00 z0o z0a))))))))
abbrev z1k:Stmt:=top 8
theorem zbp:FnScope ["rooms","thing"] ["rooms","thing"] (z02 z1k):=⟨rfl,rfl,rfl,by decide +kernel,rfl,by decide +kernel,by decide +kernel⟩
theorem zcg {K:y00} {f:Addr} {fd:y0b} (F:Fun K "is_opening" "is_opening" z1k f fd):Binds K fd ["rooms","thing"] []:=F.binds (ps:=["rooms","thing"]) fun _ _ _ _ _ _ us hl=>match us,hl with|[_,_],_=>rfl
theorem z5o {k:Nat} {f:Addr} {fd:y0b} (F:Fun K "is_opening" "is_opening" z1k f fd) (m:mg "is_opening"=some (.ref f)) (z2r:Cl P w K mg base "is_within" k 3 z0t) (z3c:Cl P w K mg base "is_tuple" k 3 z06) (za0:Cl P w K mg base "is_name" k 1 z4e) {t_OUTSIDE:Tok} (g_OUTSIDE:mg "OUTSIDE"=some (.int 0 t_OUTSIDE)):Cl P w K mg base "is_opening" (k+1) 2 z2z :=
 z3w F zbp (zcg F) m fun cdv A outer s H E hr =>
  (z0z (s_if (w_t (w_or (z51 (z29 (v2r (z0j z3c hr (z00 (z0q 1) (z00 z03 (z00 z03 z0a))))))) (z88 (z51 (z29 (v2r (z0j z2r hr (z00 (q_ix (q_nm 1) (v2r z03)) (z00 z03 (z00 (z0q 0) z0a)))))))))) (z19 (z1s q_bl)) z6r)
  (z19 (z1s (zfm (z0j z2r hr (z00 (q_ix (q_nm 1) (v2r z03)) (z00 (q_gI g_OUTSIDE) (z00 (zkm (v2r (q_ix (q_nm 1) (v2r z03))) (v2r z03)) z0a)))) (zaw (q_or (zvz (v2r (q_ix (q_nm 1) (v2r z03)))) (zvv (z0j za0 hr (z00 (q_ix (q_nm 1) (v2r z03)) z0a)))))))))
abbrev z25:Stmt:=top 9
theorem zfg:FnScope ["thing"] ["thing"] (z02 z25):=⟨rfl,rfl,rfl,by decide +kernel,rfl,by decide +kernel,by decide +kernel⟩
theorem zgu {K:y00} {f:Addr} {fd:y0b} (F:Fun K "is_house" "is_house" z25 f fd):Binds K fd ["thing"] []:=F.binds (ps:=["thing"]) fun _ _ _ _ _ _ us hl=>match us,hl with|[_],_=>rfl
theorem z62 {k:Nat} {f:Addr} {fd:y0b} (F:Fun K "is_house" "is_house" z25 f fd) (m:mg "is_house"=some (.ref f)) (z_all:mg "all"=none) (z3c:Cl P w K mg base "is_tuple" k 3 z06) (z2r:Cl P w K mg base "is_within" k 3 z0t) (z5o:Cl P w K mg base "is_opening" k 2 z2z):Cl P w K mg base "is_house" (k+1) 1 z2q :=
 z3w F zfg (zgu F) m fun cdv A outer s H E hr =>
  (z0z (s_if (w_t (w_or (z51 (z29 (v2r (z0j z3c hr (z00 (z0q 0) (z00 z03 (z00 z03 z0a))))))) (w_or (z51 (z29 (v2r (z0j z2r hr (z00 (q_ix (q_nm 0) (v2r z03)) (z00 z03 (z00 z03 z0a))))))) (z88 (z51 (z29 (v2r (z0j z3c hr (z00 (q_ix (q_nm 0) (v2r z03)) (z00 z03 (z00 z03 z0a))))))))))) (z19 (z1s q_bl)) z6r)
  (z19 (z1s (ztw rfl z_all (z0n (v2r (z6h (own:=["opening"]) (caps:=[(0,"thing")]) (z83 (sc:=z02 z25) ["thing"] rfl rfl rfl (by decide +kernel)) (i_A (q_ix (q_nm 0) (v2r z03))) (fun _ _ _ _ _ _=>(g_nm 0 (show y1p (["opening","thing"]:List Str) by decide +kernel))) (fun _ _ _ _ _ _=>zh5) (fun _ _ _ _ _ _=>(z0j (by exact z5o) (by exact hr) (z00 (q_ix (q_nm 1) (v2r z03)) (z00 (z0q 0) z0a)))))) z1d)))))
abbrev z23:Stmt:=top 10
theorem zfc:FnScope ["house"] ["house"] (z02 z23):=⟨rfl,rfl,rfl,by decide +kernel,rfl,by decide +kernel,by decide +kernel⟩
theorem zgq {K:y00} {f:Addr} {fd:y0b} (F:Fun K "zones_of" "zones_of" z23 f fd):Binds K fd ["house"] []:=F.binds (ps:=["house"]) fun _ _ _ _ _ _ us hl=>match us,hl with|[_],_=>rfl
theorem z7x {k:Nat} {f:Addr} {fd:y0b} (F:Fun K "zones_of" "zones_of" z23 f fd) (m:mg "zones_of"=some (.ref f)) (z_tuple:mg "tuple"=none) (z_sorted:mg "sorted"=none) (z_set:mg "set"=none):Cl P w K mg base "zones_of" (k+1) 1 z2p :=
 z3w F zfc (zgq F) m fun cdv A outer s H E hr =>
  (z19 (z1s (z8y z_tuple (z0n (v2r (zfl rfl z_sorted z_set (v2r (z6h (own:=["opening"]) (caps:=[]) (z83 (sc:=z02 z23) ["house"] rfl rfl rfl (by decide +kernel)) (zj4 (q_ix (q_nm 0) (v2r z03))) (fun _ _ _ _ _ _=>(g_nm 0 (show y1p (["opening"]:List Str) by decide +kernel))) (fun _ _ _ _ _ _=>(zh4 (zh6 (v2r (q_ix (q_nm 0) (v2r z03)))))) (fun _ _ _ _ _ _=>(q_ix (q_nm 0) (v2r z03))))))) z1d))))
abbrev z24:Stmt:=top 33
theorem z4i:FnScope ["_law_thing","_law_number_here","_law_deep","_law_at","_law_part","_law_some"] ["_law_thing","_law_number_here","_law_deep"] (z02 z24):=⟨rfl,rfl,rfl,by decide +kernel,rfl,by decide +kernel,by decide +kernel⟩
theorem za2 {K:y00} {f:Addr} {fd:y0b} (F:Fun K "_law_spoilt" "_law_spoilt" z24 f fd):Binds K fd ["_law_thing","_law_number_here","_law_deep"] []:=F.binds (ps:=["_law_thing","_law_number_here","_law_deep"]) fun _ _ _ _ _ _ us hl=>match us,hl with|[_,_,_],_=>rfl
theorem zgn {d:List T->Option T} {k:Nat} {f:Addr} {fd:y0b} (F:Fun K "_law_spoilt" "_law_spoilt" z24 f fd) (m:mg "_law_spoilt"=some (.ref f)) (z3b:Cl P w K mg base "_law_spoilt" k 3 d) (z_isinstance:mg "isinstance"=none) (z_tuple:mg "tuple"=none) (z_len:mg "len"=none) (z1g:Cl P w K mg base "_law_drawn" k 2 z0i) (z_list:mg "list"=none) (z_str:mg "str"=none) (z_int:mg "int"=none):Cl P w K mg base "_law_spoilt" (k+1) 3 (runF (z63 d) 6) :=
 z3w F z4i (za2 F) m fun cdv A outer s H E hr =>
  (v_of (z1h (v_if (w_t (w_and (z2t (zdh.or z2w) z80 (q_nm 2) (v2r z03)) (w_and (z29 (v2r (z76 z78 z7h z_isinstance z_tuple (q_nm 0)))) (w_and (z2t (zdh.or z2w) z80 (v2r (z8z (by exact z_len) (z0n (q_nm 0) z1d))) (v2r z03)) (zci (z2t (zdh.or z2w) z80 (v2r (z1p (q_nm 1) (v2r z03))) (v2r z03))))))) (z1h (z8a 3 z4i.nd (v_mk (z1p (v2r (z39 (q_nm 1) (v2r z03))) (v2r (z8z (by exact z_len) (z0n (q_nm 0) z1d))))))
(z1h (z8a 4 z4i.nd (z6w z3b hr (v_cE (v_ix (v_mr (q_nm 0)) (v_mr (q_nm 3))) (v_cE (v_mk (z39 (v2r (z0j z1g hr (z00 (z0q 1) (z00 (z0q 2) z0a)))) (v2r z03))) (v_cE (v_mk (zkm (q_nm 2) (v2r z03))) z1c)))))
(z50 (z6v (v_add (v_r (v_add (v_r (v_sl (v_mr (q_nm 0)) z98 (z97 (q_nm 3)))) (v_r (z37 (v_cE (v_mk (z0q 4)) z1c))))) (v_r (v_sl (v_mr (q_nm 0)) (z97 (v2r (z3a (q_nm 3) (v2r z03)))) z98))))))) z89)
(z1h (v_if (w_t (w_and (z29 (v2r (z76 z78 z7h z_isinstance z_tuple (q_nm 0)))) (w_and (z2t (zdh.or z2w) z80 (v2r (z8z (by exact z_len) (z0n (q_nm 0) z1d))) (v2r z03)) (zci (z2t (z5d (by exact hr.units)) z5f (v2r (z1p (v2r (z39 (q_nm 1) (v2r z03))) (v2r z03))) (v2r z03)))))) (z50 (z6v (v_ix (v_r (zf4 (v_cE (v_mk (zts z_list (z0n (q_nm 0) z1d))) (v_cE (v_sl (v_mr (q_nm 0)) z98 (z97 (v2r (zrh (v2r z03))))) (v_cE (v_add (v_mr (q_nm 0)) (v_r (v_sl (v_mr (q_nm 0)) (z97 (v2r (zrh (v2r z03)))) z98))) (v_cE (v_sl (v_mr (q_nm 0)) (z97 (v2r z03)) z98) (v_cE (v_mk (zq9 (q_nm 0) neg1)) (v_cE (z37 z1c) z1c)))))))) (v_r (v_mk (z1p (v2r (z39 (q_nm 1) (v2r z03))) (v2r z03))))))) z89)
(z1h (v_if (w_t (w_and (z29 (v2r (z76 zls zmz z_isinstance z_str (q_nm 0)))) (zci (z2t (z5d (by exact hr.units)) z5f (v2r (z1p (v2r (z39 (q_nm 1) (v2r z03))) (v2r z03))) (v2r z03))))) (z50 (z6v (v_ix (v_r (zf4 (v_cE (v_add (v_mr (q_nm 0)) (v_r (v_mk z0o))) (v_cE (v_sl (v_mr (q_nm 0)) (z97 (v2r z03)) z98) (v_cE (v_add (v_mr (q_nm 0)) (v_r (v_mk z0o))) (v_cE (v_mk (zrd (q_nm 0))) (v_cE (v_mk (zre (q_nm 0) (v2r z03))) (v_cE (v_mk (zq9 (q_nm 0) neg1)) z1c)))))))) (v_r (v_mk (z1p (v2r (z39 (q_nm 1) (v2r z03))) (v2r z03))))))) z89)
(z1h (v_if (w_t (w_and (z29 (v2r (z76 zlt zn0 z_isinstance z_int (q_nm 0)))) (zci (z2t (z5d (by exact hr.units)) z5f (v2r (z1p (v2r (z39 (q_nm 1) (v2r z03))) (v2r z03))) (v2r z03))))) (z50 (z6v (v_ix (v_r (zf4 (v_cE (v_mk (ztq z_str (z0n (q_nm 0) z1d))) (v_cE (v_mk (zkm (v2r z03) (q_nm 0))) (v_cE (v_add (v_mr (q_nm 0)) (v_r (v_mk z03))) (v_cE (v_mk (zri (z5d (by exact hr.units)) z5f (q_nm 0) (v2r z03))) (v_cE (v_mk (zkm (q_nm 0) (v2r z03))) (v_cE (v_add (v_mr (q_nm 0)) (v_r (v_mk z03))) z1c)))))))) (v_r (v_mk (z1p (v2r (z39 (q_nm 1) (v2r z03))) (v2r z03))))))) z89)
(z1h (z8a 5 z4i.nd (zf4 (v_cE (v_mk zd8) (v_cE (v_mk q_bl) (v_cE (v_mk q_bl) (v_cE (v_mk z03) (v_cE (v_mk z03) (v_cE (v_mk z03) (v_cE (v_mk z03) (v_cE (v_mk z03) (v_cE (v_mk z03) (v_cE (v_mk z03) (v_cE (v_mk (zrh (v2r z03))) (v_cE (v_mk z0o) (v_cE (v_mk z0o) (v_cE (v_mk z0o) (v_cE (v_mk z0o) (v_cE (v_mk z0o) (v_cE (v_mk z0o) (v_cE (z37 z1c) (v_cE (zf4 z1c) (v_cE (z37 (v_cE (v_mk z0o) (v_cE (v_mk z0o) z1c))) z1c))))))))))))))))))))))
(z50 (z6v (v_ix (v_mr (q_nm 5)) (v_r (v_mk (z1p (v2r (z39 (q_nm 1) (v2r z03))) (v2r z03)))))))))))))
theorem z3b {k:Nat} {f:Addr} {fd:y0b} (F:Fun K "_law_spoilt" "_law_spoilt" z24 f fd) (m:mg "_law_spoilt"=some (.ref f)) (z_isinstance:mg "isinstance"=none) (z_tuple:mg "tuple"=none) (z_len:mg "len"=none) (z1g:Cl P w K mg base "_law_drawn" k 2 z0i) (z_list:mg "list"=none) (z_str:mg "str"=none) (z_int:mg "int"=none):∀n,Cl P w K mg base "_law_spoilt" (k+n) 3 (z18 n)
 | 0=>.mk' zmc m F.kp (za2 F)
 | n+1=>zgn F m (z3b F m z_isinstance z_tuple z_len z1g z_list z_str z_int  n) z_isinstance z_tuple z_len (z1g.mono (y38 _ _)) z_list z_str z_int
abbrev z3j:Stmt:=top 35
theorem z7l:FnScope ["_law_number_here","_law_few","_law_found"] ["_law_number_here"] (z02 z3j):=⟨rfl,rfl,rfl,by decide +kernel,rfl,by decide +kernel,by decide +kernel⟩
theorem zjg {K:y00} {f:Addr} {fd:y0b} (F:Fun K "_law_edges" "_law_edges" z3j f fd):Binds K fd ["_law_number_here"] []:=F.binds (ps:=["_law_number_here"]) fun _ _ _ _ _ _ us hl=>match us,hl with|[_],_=>rfl
theorem z9y {k:Nat} {f:Addr} {fd:y0b} (F:Fun K "_law_edges" "_law_edges" z3j f fd) (m:mg "_law_edges"=some (.ref f)) :Cl P w K mg base "_law_edges" (k+1) 1 z1l :=
 z3w F z7l (zjg F) m fun cdv A outer s H E hr =>
  (v_of (z1h (z8a 1 z7l.nd (v_mk (z1p (q_nm 0) (v2r z03))))
(z1h (z8a 2 z7l.nd (zf4 (v_cE (z37 (v_cE (v_add (v_r (v_mk z03)) (v_mr (q_nm 1))) (v_cE (z37 z1c) z1c))) (v_cE (z37 (v_cE (v_mk (z0q 1)) (v_cE (z37 z1c) z1c))) (v_cE (z37 (v_cE (v_mk z03) (v_cE (v_mk (zvu (v2r (z1t (z00 (z1t (z00 z03 (z00 z03 (z00 zd8 z0a)))) z0a))) (v2r (z3a (v2r z03) (q_nm 1))))) z1c))) (v_cE (z37 (v_cE (v_mk z03) (v_cE (z37 (v_cE (z37 (v_cE (v_mk z03) (v_cE (v_add (v_r (v_mk z03)) (v_mr (q_nm 1))) (v_cE (v_mk z0o) z1c)))) z1c)) z1c))) z1c))))))
(z50 (z6v (v_add (v_mr (q_nm 2)) (v_r (zf4 (v_cE (z37 (v_cE (v_mk z03) (v_cE (z37 (v_cE (z37 (v_cE (v_mk (zkm (q_nm 1) (v2r z03))) (v_cE (v_mk z03) (v_cE (v_mk z0o) z1c)))) z1c)) z1c))) (v_cE (z37 (v_cE (v_mk z03) (v_cE (z37 (v_cE (z37 (v_cE (v_mk z03) (v_cE (v_mk (z0q 1)) (v_cE (v_mk zd8) z1c)))) z1c)) z1c))) (v_cE (z37 (v_cE (v_mk z03) (v_cE (z37 (v_cE (z37 (v_cE (v_mk z03) (v_cE (v_mk z03) (v_cE (v_add (v_r (v_sl (v_r (v_mk z0o)) z98 (z97 (v2r (z3a (v2r z03) (v2r (z1p (q_nm 1) (v2r z03)))))))) (v_r (v_mk z0o))) z1c)))) z1c)) z1c))) z1c)))))))))))
abbrev z2u:Stmt:=top 18
theorem z5v:FnScope ["plan","name","zone"] ["plan","name"] (z02 z2u):=⟨rfl,rfl,rfl,by decide +kernel,rfl,by decide +kernel,by decide +kernel⟩
theorem zbe {K:y00} {f:Addr} {fd:y0b} (F:Fun K "kind_of" "kind_of" z2u f fd):Binds K fd ["plan","name"] []:=F.binds (ps:=["plan","name"]) fun _ _ _ _ _ _ us hl=>match us,hl with|[_,_],_=>rfl
theorem z7g {k:Nat} {f:Addr} {fd:y0b} (F:Fun K "kind_of" "kind_of" z2u f fd) (m:mg "kind_of"=some (.ref f)) :Cl P w K mg base "kind_of" (k+1) 2 z2y :=
 z3w F z5v (zbe F) m fun cdv A outer s H E hr =>
  (z0z (zd0 y25 (zj4 (q_ix (q_nm 0) (v2r z03))) (g_nm 2 z5v.nd)
  (z19 (s_if (z2t (z5d (by exact hr.units)) z5f (v2r (q_ix (q_nm 2) (v2r z03))) (q_nm 1)) (z19 (z1s (q_ix (q_nm 2) (v2r z03)))) z6r)))
  (z19 zr9))
theorem z7i {k:Nat} {f:Addr} {fd:y0b} (F:Fun K "kind_of" "kind_of" z2u f fd) (m:mg "kind_of"=some (.ref f)) {XD xz xw xd xt:Addr} (Nm:Names K mg XD xz xw xd xt) (Rz:Ref1 K XD xz xw xd xt xz 0)  :ClZ P w K mg base "kind_of" xz (k+1) 2 z4a :=
 zvd F z5v (zbe F) m fun cdv A outer s H E hr =>
  (z_n (zd0 y25 (zj4 (q_ix (q_nm 0) (v2r z03))) (g_nm 2 z5v.nd)
  (z19 (s_if (z2t (z5d (by exact hr.units)) z5f (v2r (q_ix (q_nm 2) (v2r z03))) (q_nm 1)) (z19 (z1s (q_ix (q_nm 2) (v2r z03)))) z6r))) (z_1 (zr1 Nm.nz Rz.new (ztt (q_nm 1)) hr.hd)))
abbrev z4j:Stmt:=top 19
theorem zcx:FnScope ["plan","figures","code"] ["plan","figures"] (z02 z4j):=⟨rfl,rfl,rfl,by decide +kernel,rfl,by decide +kernel,by decide +kernel⟩
theorem zn1 {K:y00} {f:Addr} {fd:y0b} (F:Fun K "who_of" "who_of" z4j f fd):Binds K fd ["plan","figures"] []:=F.binds (ps:=["plan","figures"]) fun _ _ _ _ _ _ us hl=>match us,hl with|[_,_],_=>rfl
theorem z8k {k:Nat} {f:Addr} {fd:y0b} (F:Fun K "who_of" "who_of" z4j f fd) (m:mg "who_of"=some (.ref f)) :Cl P w K mg base "who_of" (k+1) 2 z4r :=
 z3w F zcx (zn1 F) m fun cdv A outer s H E hr =>
  (z0z (zd0 y25 (zj4 (q_ix (q_nm 0) (v2r z03))) (g_nm 2 zcx.nd)
  (z19 (s_if (z2t (z5d (by exact hr.units)) z5f (v2r (q_ix (q_nm 2) (v2r z03))) (q_nm 1)) (z19 (z1s (q_ix (q_nm 2) (v2r z03)))) z6r)))
  (z19 (z1s zd8)))
abbrev z1o:Stmt:=top 25
theorem z3f:FnScope ["_law_deed","_law_found","e","_law_kinds"] ["_law_deed"] (z02 z1o):=⟨rfl,rfl,rfl,by decide +kernel,rfl,by decide +kernel,by decide +kernel⟩
theorem zn3 {K:y00} {f:Addr} {fd:y0b} (F:Fun K "_law_told" "_law_told" z1o f fd):Binds K fd ["_law_deed"] []:=F.binds (ps:=["_law_deed"]) fun _ _ _ _ _ _ us hl=>match us,hl with|[_],_=>rfl
theorem zm7 {f:Addr} (cdv:Value) (A:Around) (outer:List Env) (s:y04) (H:Hp):PSs (cxOf CX0 P w K mg base ["_law_deed","_law_found","e","_law_kinds"] "_law_told" (z02 z1o) f cdv A outer s H E0).nox (z0d z1o) (zt6 (cxOf CX0 P w K mg base ["_law_deed","_law_found","e","_law_kinds"] "_law_told" (z02 z1o) f cdv A outer s H E0).nox) :=
 z4l (zu0 (z6i (zax z3f.nd rfl (Or.inl rfl) (zdb (z13 zdc (z13 (zrq (pv 0)) z34)))))) (z6i (zkt (pv 1)))
theorem zm6 {f C XD xz xw xd xt:Addr} {j:Nat} (Nm:Names K mg XD xz xw xd xt) (R:Ref1 K XD xz xw xd xt C j) (cdv:Value) (A:Around) (outer:List Env) (s:y04) (H:Hp):PSs (cxOf CX0 P w K mg base ["_law_deed","_law_found","e","_law_kinds"] "_law_told" (z02 z1o) f cdv A outer s H E0).nox (z0d z1o) (zh7 (cxOf CX0 P w K mg base ["_law_deed","_law_found","e","_law_kinds"] "_law_told" (z02 z1o) f cdv A outer s H E0).nox C j) :=
 zt4 Nm R (fun pn E=>z6i (zax z3f.nd rfl (Or.inl rfl) (zdb (z13 zdc (z13 (zoi (pv 0)) z34)))))
  (fun ea=>z4l (zax z3f.nd rfl (Or.inl rfl) (zqg (z13 (zde R.ok Nm.isi (pv 2) (z92 (by rfl) Nm.nz (by rfl))) (z13 (zde R.ok Nm.isi (pv 2) (z92 (by rfl) Nm.nw (by rfl))) (z13 (zde R.ok Nm.isi (pv 2) (z92 (by rfl) Nm.nd (by rfl))) (z13 (zde R.ok Nm.isi (pv 2) (z92 (by rfl) Nm.nt (by rfl))) z34))))))
   (z4l (zax z3f.nd rfl (Or.inl rfl) (zdb (z13 zdc (z13 (zro zju zhg) z34))))
   (z6i (zu1 (zqc (zqe (zde R.ok Nm.isi (pv 2) (zrs (by rfl) Nm.val PyProof.Rows.Boot.«ValueError» (by rfl)))) (zkp (zkr zw7 (zub PySem.F.plainAttrs_list PySem.F.slot_list_count PySem.F.type_list_count zoy (pv 3) (z13 zrt z34)) zhg (zlb _)))).pt (z6i (zax z3f.nd rfl (Or.inl rfl) (zdb (z13 zdc (z13 (zub PySem.F.plainAttrs_list PySem.F.slot_list_index PySem.F.type_list_index zle (pv 3) (z13 zrt z34)) z34))))) zks)))) (pv 1) z3f.nd
abbrev z4k:Stmt:=top 20
theorem zbq:FnScope ["plan","lines","used"] ["plan"] (z02 z4k):=⟨rfl,rfl,rfl,by decide +kernel,rfl,by decide +kernel,by decide +kernel⟩
theorem zpu {K:y00} {f:Addr} {fd:y0b} (F:Fun K "begun" "begun" z4k f fd):Binds K fd ["plan"] []:=F.binds (ps:=["plan"]) fun _ _ _ _ _ _ us hl=>match us,hl with|[_],_=>rfl
theorem zgm {k:Nat} {f:Addr} {fd:y0b} (F:Fun K "begun" "begun" z4k f fd) (m:mg "begun"=some (.ref f)) (z_tuple:mg "tuple"=none):Cl P w K mg base "begun" (k+1) 1 z9r :=
 z3w F zbq (zpu F) m fun cdv A outer s H E hr =>
  (z0z (z3v 1 zbq.nd (z8y z_tuple (z0n (v2r (z6h (own:=["zone"]) (caps:=[]) (z83 (sc:=z02 z4k) ["plan","lines","used"] rfl rfl rfl (by decide +kernel)) (zj4 (q_ix (q_nm 0) (v2r z03))) (fun _ _ _ _ _ _=>(g_nm 0 (show y1p (["zone"]:List Str) by decide +kernel))) (fun _ _ _ _ _ _=>zh5) (fun _ _ _ _ _ _=>z0o))) z1d)))
  (z0z (z3v 2 zbq.nd (z8y z_tuple (z0n (v2r (z6h (own:=["code"]) (caps:=[]) (z83 (sc:=z02 z4k) ["plan","lines","used"] rfl rfl rfl (by decide +kernel)) (zj4 (q_ix (q_nm 0) (v2r z03))) (fun _ _ _ _ _ _=>(g_nm 0 (show y1p (["code"]:List Str) by decide +kernel))) (fun _ _ _ _ _ _=>zh5) (fun _ _ _ _ _ _=>z03))) z1d)))
  (z19 (z1s (z1t (z00 z0o (z00 z03 (z00 zd8 (z00 (z0q 1) (z00 (z1t z0a) (z00 z03 (z00 (z1t z0a) (z00 z03 (z00 z03 (z00 (z0q 2) z0a)))))))))))))))
abbrev z3g:Stmt:=top 29
theorem zia:FnScope ["_law_thing","_law_many"] ["_law_thing","_law_many"] (z02 z3g):=⟨rfl,rfl,rfl,by decide +kernel,rfl,by decide +kernel,by decide +kernel⟩
theorem zjd {K:y00} {f:Addr} {fd:y0b} (F:Fun K "_law_tuple" "_law_tuple" z3g f fd):Binds K fd ["_law_thing","_law_many"] []:=F.binds (ps:=["_law_thing","_law_many"]) fun _ _ _ _ _ _ us hl=>match us,hl with|[_,_],_=>rfl
theorem z7f {k:Nat} {f:Addr} {fd:y0b} (F:Fun K "_law_tuple" "_law_tuple" z3g f fd) (m:mg "_law_tuple"=some (.ref f)) (z_isinstance:mg "isinstance"=none) (z_tuple:mg "tuple"=none) (z_len:mg "len"=none):Cl P w K mg base "_law_tuple" (k+1) 2 z1b :=
 z3w F zia (zjd F) m fun cdv A outer s H E hr =>
  (z19 (z1s (zfm (z76 z78 z7h z_isinstance z_tuple (q_nm 0)) (zaw (zri (z5d (by exact hr.units)) z5f (v2r (z8z (by exact z_len) (z0n (q_nm 0) z1d))) (q_nm 1))))))
abbrev z2m:Stmt:=top 28
theorem zfd:FnScope ["_law_thing","_law_low","_law_high"] ["_law_thing","_law_low","_law_high"] (z02 z2m):=⟨rfl,rfl,rfl,by decide +kernel,rfl,by decide +kernel,by decide +kernel⟩
theorem zgr {K:y00} {f:Addr} {fd:y0b} (F:Fun K "_law_number" "_law_number" z2m f fd):Binds K fd ["_law_thing","_law_low","_law_high"] []:=F.binds (ps:=["_law_thing","_law_low","_law_high"]) fun _ _ _ _ _ _ us hl=>match us,hl with|[_,_,_],_=>rfl
theorem z4f {k:Nat} {f:Addr} {fd:y0b} (F:Fun K "_law_number" "_law_number" z2m f fd) (m:mg "_law_number"=some (.ref f)) (z_isinstance:mg "isinstance"=none) (z_int:mg "int"=none) (z_bool:mg "bool"=none):Cl P w K mg base "_law_number" (k+1) 3 z0h :=
 z3w F zfd (zgr F) m fun cdv A outer s H E hr =>
  (z19 (z1s (zfm (z76 zlt zn0 z_isinstance z_int (q_nm 0)) (zfm (ztr (z76 zg9 zgo z_isinstance z_bool (q_nm 0))) (zaw (zhc (q_nm 1) (q_nm 0) (q_nm 2)))))))
abbrev z3z:Stmt:=top 30
theorem zkg:FnScope ["_law_thing"] ["_law_thing"] (z02 z3z):=⟨rfl,rfl,rfl,by decide +kernel,rfl,by decide +kernel,by decide +kernel⟩
theorem zn2 {K:y00} {f:Addr} {fd:y0b} (F:Fun K "_law_word" "_law_word" z3z f fd):Binds K fd ["_law_thing"] []:=F.binds (ps:=["_law_thing"]) fun _ _ _ _ _ _ us hl=>match us,hl with|[_],_=>rfl
theorem zcb {k:Nat} {f:Addr} {fd:y0b} (F:Fun K "_law_word" "_law_word" z3z f fd) (m:mg "_law_word"=some (.ref f)) (z_isinstance:mg "isinstance"=none) (z_len:mg "len"=none) (z_str:mg "str"=none):Cl P w K mg base "_law_word" (k+1) 1 z1z :=
 z3w F zkg (zn2 F) m fun cdv A outer s H E hr =>
  (z0z (s_if (w_t (w_or (z51 (z29 (v2r (z76 zls zmz z_isinstance z_str (q_nm 0))))) (z88 (z51 (zjz (v2r z03) (v2r (z8z (by exact z_len) (z0n (q_nm 0) z1d))) (v2r z03)))))) (z19 (z1s q_bl)) z6r)
  (z19 (z1s (zri (z5d (by exact hr.units)) z5f (v2r (z6h (own:=["_law_sign"]) (caps:=[]) (z83 (sc:=z02 z3z) ["_law_thing"] rfl rfl rfl (by decide +kernel)) (i_A (z0q 0)) (fun _ _ _ _ _ _=>(g_nm 0 (show y1p (["_law_sign"]:List Str) by decide +kernel))) (fun _ _ _ _ _ _=>(zh4 (z51 (zjz (v2r z0o) (q_nm 0) (v2r z0o))))) (fun _ _ _ _ _ _=>(z0q 0)))) (v2r (zkn z0a))))))
abbrev z1j:Stmt:=top 34
theorem z70:FnScope ["_law_thing","_law_part"] ["_law_thing"] (z02 z1j):=⟨rfl,rfl,rfl,by decide +kernel,rfl,by decide +kernel,by decide +kernel⟩
theorem zcf {K:y00} {f:Addr} {fd:y0b} (F:Fun K "_law_is_house" "_law_is_house" z1j f fd):Binds K fd ["_law_thing"] []:=F.binds (ps:=["_law_thing"]) fun _ _ _ _ _ _ us hl=>match us,hl with|[_],_=>rfl
theorem z5n {k:Nat} {f:Addr} {fd:y0b} (F:Fun K "_law_is_house" "_law_is_house" z1j f fd) (m:mg "_law_is_house"=some (.ref f)) (z7f:Cl P w K mg base "_law_tuple" k 2 z1b) (z4f:Cl P w K mg base "_law_number" k 3 z0h) (z_isinstance:mg "isinstance"=none) (z_tuple:mg "tuple"=none) (z_len:mg "len"=none) (zcb:Cl P w K mg base "_law_word" k 1 z1z):Cl P w K mg base "_law_is_house" (k+1) 1 z28 :=
 z3w F z70 (zcf F) m fun cdv A outer s H E hr =>
  (z0z (s_if (w_t (w_or (z51 (z29 (v2r (z0j z7f hr (z00 (z0q 0) (z00 z03 z0a)))))) (z88 (z51 (z29 (v2r (z0j z4f hr (z00 (q_ix (q_nm 0) (v2r z03)) (z00 z03 (z00 z03 z0a)))))))))) (z19 (z1s q_bl)) z6r)
  (z0z (s_if (w_t (w_or (z51 (z29 (v2r (z76 z78 z7h z_isinstance z_tuple (v2r (q_ix (q_nm 0) (v2r z03))))))) (z88 (z2t (zdh.or z2w) z80 (v2r (z8z (by exact z_len) (z0n (v2r (q_ix (q_nm 0) (v2r z03))) z1d))) (v2r z03))))) (z19 (z1s q_bl)) z6r)
  (z0z (zd0 y25 (i_A (q_ix (q_nm 0) (v2r z03))) (g_nm 1 z70.nd)
  (z0z (s_if (w_t (w_or (z51 (z29 (v2r (z0j z7f hr (z00 (z0q 1) (z00 z03 z0a)))))) (w_or (z51 (z29 (v2r (z0j z4f hr (z00 (q_ix (q_nm 1) (v2r z03)) (z00 z03 (z00 (q_ix (q_nm 0) (v2r z03)) z0a))))))) (z88 (z51 (z29 (v2r (z0j z4f hr (z00 (q_ix (q_nm 1) (v2r z03)) (z00 z03 (z00 (q_ix (q_nm 0) (v2r z03)) z0a))))))))))) (z19 (z1s q_bl)) z6r)
  (z19 (s_if (w_t (w_or (z2t (zw6.or zl1) zuj (v2r (q_ix (q_nm 1) (v2r z03))) (v2r (q_ix (q_nm 1) (v2r z03)))) (z88 (w_t (w_and (zh6 (v2r (q_ix (q_nm 1) (v2r z03)))) (zci (z51 (z29 (v2r (z0j zcb hr (z00 (q_ix (q_nm 1) (v2r z03)) z0a))))))))))) (z19 (z1s q_bl)) z6r))))
  (z19 (z1s q_bl)))))
abbrev z6g:Stmt:=top 36
theorem z33:FnScope ["_law_script","_law_number_here","_law_house_here","_law_plan_here","_law_names","_law_name","_law_kind","_law_figures_here","_law_who","_law_rights","_law_uses","_law_first","_law_thing","_law_one","_law_got"] ["_law_script"] (z02 z6g):=⟨rfl,rfl,rfl,by decide +kernel,rfl,by decide +kernel,by decide +kernel⟩
theorem zwd {k:Nat} {f cL Pt:Addr} {oc:Value} {od an:Option Addr} {osl:Array (Option Value)} {kV doc pm ct:Value} (l:K.lookup f=some ⟨oc,od,.func (y0i "law" "law" (z0k z6g) (z0d z6g) (z02 z6g) .none kV doc pm an (.ref cL) ct),osl⟩) (hcd:y0f K (.ref cL) "law"=true) (hCH:y37 K cL Pt=true) (hbm:BM mg base) (htb:(Pt,(("law":Str)++".<locals>.")++"<lambda>")∈Tbl.tb) (hun:∀p∈Tbl.tb,p.1=Pt->p.2=(("law":Str)++".<locals>.")++"<lambda>") {XD xz xw xd xt:Addr} (Nm:Names K mg XD xz xw xd xt) (Rz:Ref1 K XD xz xw xd xt xz 0) (z7i:ClZ P w K mg base "kind_of" xz k 2 z4a) (z3p:Cl P w K mg base "_law_mixed" k 2 z0e) (z9x:Cl P w K mg base "_law_house" k 1 d_l_house) (zcc:Cl P w K mg base "_law_plan" k 1 z7a) (z62:Cl P w K mg base "is_house" k 1 z2q) (z7x:Cl P w K mg base "zones_of" k 1 z2p) (z_tuple:mg "tuple"=none) (z_repr:mg "repr"=none) (z3b:Cl P w K mg base "_law_spoilt" k 3 (z18 20)) (z9y:Cl P w K mg base "_law_edges" k 1 z1l) (z_sorted:mg "sorted"=none) (z7g:Cl P w K mg base "kind_of" k 2 z2y) (z8k:Cl P w K mg base "who_of" k 2 z4r) {f_l_told:Addr} {fd_l_told:y0b} (F_l_told:Fun K "_law_told" "_law_told" z1o f_l_told fd_l_told) (m_l_told:mg "_law_told"=some (.ref f_l_told)) (z_len:mg "len"=none) (zgm:Cl P w K mg base "begun" k 1 z9r) (z_set:mg "set"=none) (z_isinstance:mg "isinstance"=none) (z5n:Cl P w K mg base "_law_is_house" k 1 z28) (z_bool:mg "bool"=none):FnOk P w K mg base CX0 (k+3) f (y0i "law" "law" (z0k z6g) (z0d z6g) (z02 z6g) .none kV doc pm an (.ref cL) ct) ["_law_script"] (spT K 1 zc9) :=
 zsh l hcd z33 fun A outer s H E hr =>
  (v_of (z1h (z8a 1 z33.nd (z6w z3p (hr.mono (y38 _ 2)) (v_cE (v_mk (z0q 0)) (v_cE (v_mk z03) z1c))))
(z1h (z8a 2 z33.nd (z6w z9x (hr.mono (y38 _ 2)) (v_cE (z6w z3p (hr.mono (y38 _ 2)) (v_cE (v_mk (z0q 0)) (v_cE (v_mk z03) z1c))) z1c)))
(z1h (z8a 3 z33.nd (z6w zcc (hr.mono (y38 _ 2)) (v_cE (z6w z3p (hr.mono (y38 _ 2)) (v_cE (v_mk (z0q 0)) (v_cE (v_mk z03) z1c))) z1c)))
(z1h (v_if (z2t zl0 zl2 (v2r (z0j z62 (hr.mono (y38 _ 2)) (z00 (z0q 2) z0a))) (v2r q_bl)) (z50 (z6v (v_mk q_bl))) z89)
(z1h (v_st (ztg 4 z33.nd (own:=["_law_part"]) (caps:=[]) (z83 (sc:=z02 z6g) ["_law_script","_law_number_here","_law_house_here","_law_plan_here","_law_names","_law_name","_law_kind","_law_figures_here","_law_who","_law_rights","_law_uses","_law_first","_law_thing","_law_one","_law_got"] rfl rfl rfl (by decide +kernel)) (i_A (q_ix (q_nm 2) (v2r z03))) (fun _ _ _ _ _ _=>(g_nm 0 (show y1p (["_law_part"]:List Str) by decide +kernel))) (fun _ _ _ _ _ _=>(zh4 (zh6 (v2r (q_ix (q_nm 0) (v2r z03)))))) (fun _ _ _ _ _ _=>(q_ix (q_nm 0) (v2r z03)))))
(z1h (v_if (z2t (zaz (by exact hr.units)) zb0 (v2r (z0j z7x (hr.mono (y38 _ 2)) (z00 (z0q 2) z0a))) (v2r (z8y z_tuple (z0n (v2r (zd7 rfl z_sorted z_set (q_nm 4))) z1d)))) (z50 (z6v (v_mk q_bl))) z89)
(z1h (zr2 y25 (i_A (q_ix (q_nm 3) (v2r z03))) (zpf (z6a (g_nm 5 z33.nd) (z6a (g_nm 6 z33.nd) zpg))) (z50 (v_if (z2t (zaz (by exact hr.units)) zb0 (v2r (z0j z7g (hr.mono (y38 _ 2)) (z00 (z0q 3) (z00 (z0q 5) z0a)))) (q_nm 6)) (z50 (z6v (v_mk q_bl))) z89)))
(z1h (zr2 y25 (i_A (q_ix (q_nm 3) (v2r z03))) (zpf (z6a (g_nm 7 z33.nd) (z6a (g_nm 8 z33.nd) (z6a (g_nm 9 z33.nd) (z6a (g_nm 10 z33.nd) zpg))))) (z50 (v_if (z2t (zaz (by exact hr.units)) zb0 (v2r (z0j z8k (hr.mono (y38 _ 2)) (z00 (z0q 3) (z00 (z0q 7) z0a)))) (q_nm 8)) (z50 (z6v (v_mk q_bl))) z89)))
(z1h (v_if (w_t (w_or (z2t (zaz (by exact hr.units)) zb0 (v2r (zrf F_l_told z3f (zn3 F_l_told) m_l_told (fun cdv A outer s H=>zm7 cdv A outer s H) (fun cdv A outer s H=>zm6 Nm Rz cdv A outer s H) rfl hCH hbm htb hun hr (fun q c2 cl A2 o2 s2 H2 hrL=>by exact (z0j z7g hrL (z00 (z0q 3) (z00 z0o z0a)))) (fun q c2 cl A2 o2 s2 H2 E2 hrL=>by exact (zt0 z7i hrL (ag_v (z0q 3) (ag_v z0o zvf)))))) (v2r (z1t (z00 z0o (z00 z03 z0a))))) (z88 (zh6 (v2r (z0j z8k (hr.mono (y38 _ 2)) (z00 (z0q 3) (z00 z0o z0a)))))))) (z50 (z6v (v_mk q_bl))) z89)
(z1h (z8a 11 z33.nd (z37 (v_cE (v_mk z0o) (v_cE (v_mk z03) (v_cE (v_mk zd8) (v_cE (v_mk (zqb (v2r (z1t (z00 z0o z0a))) (v2r (z8z (by exact z_len) (z0n (v2r (q_ix (q_nm 3) (v2r z03))) z1d))))) (v_cE (z37 z1c) (v_cE (v_mk z03) (v_cE (z37 z1c) (v_cE (v_mk z03) (v_cE (v_mk z03) (v_cE (v_mk (zqb (v2r (z1t (z00 z03 z0a))) (v2r (z8z (by exact z_len) (z0n (v2r (q_ix (q_nm 3) (v2r z03))) z1d))))) z1c))))))))))))
(z1h (v_if (z2t (zaz (by exact hr.units)) zb0 (v2r (zqa (hr.mono (y38 _ 2)) z_repr (z0n (v2r (z0j zgm (hr.mono (y38 _ 2)) (z00 (z0q 3) z0a))) z1d))) (v2r (zqa (hr.mono (y38 _ 2)) z_repr (z0n (q_nm 11) z1d)))) (z50 (z6v (v_mk q_bl))) z89)
(z1h (z8a 12 z33.nd (v_mk (z0q 2)))
(z1h (v_if (z2t (zdh.or z2w) z80 (v2r (z1p (q_nm 1) (v2r z03))) (v2r z03)) (z50 (z8a 12 z33.nd (z6w z3b (hr.mono (y38 _ 2)) (v_cE (v_mk (z0q 12)) (v_cE (z6w z3p (hr.mono (y38 _ 2)) (v_cE (v_mk (z0q 0)) (v_cE (v_mk z03) z1c))) (v_cE (v_mk (z1p (v2r (z39 (q_nm 1) (v2r z03))) (v2r z03))) z1c)))))) z89)
(z1h (zr2 y25 (i_A (z3a (v2r (z0j z9y (hr.mono (y38 _ 2)) (z00 (z0j z3p (hr.mono (y38 _ 2)) (z00 (z0q 0) (z00 z03 z0a))) z0a))) (v2r (zkn (z00 (z0q 12) z0a))))) (g_nm 13 z33.nd) (z1h (z8a 14 z33.nd (z6w z62 (hr.mono (y38 _ 2)) (v_cE (v_mk (z0q 13)) z1c)))
(z50 (v_if (w_t (w_or (z51 (z29 (v2r (z76 zg9 zgo z_isinstance z_bool (q_nm 14))))) (z88 (z2t (zaz (by exact hr.units)) zb0 (q_nm 14) (v2r (z0j z5n (hr.mono (y38 _ 2)) (z00 (z0q 13) z0a))))))) (z50 (z6v (v_mk q_bl))) z89))))
(z50 (z6v (v_mk q_bl))))))))))))))))))
end
end K02
end
section
namespace Fo
open D PySem
def ls (x:Str):List Nat:=x.cps.toList
def st (l:List Nat):Str:=⟨l.toArray⟩
theorem z8d (l:List Nat):ls (st l)=l:=rfl
theorem z1r (x:Str):x.length=(ls x).length:=by simp[Str.length,ls]
theorem z4w (x y:Str):ls (x++y)=ls x++ls y:=by
 show (x.cps++y.cps).toList=_
 simp[ls]
def jn (c:Nat):List (List Nat)->List Nat
 | []=>[]
 | [p]=>p
 | p::q::r=>p++c::jn c (q::r)
def asc (l:List Nat):Prop:=∀a∈l,a<128
theorem z3d (x:Str):zbg x=true <-> asc (ls x):=by
 unfold zbg asc ls
 rw[List.all_eq_true]
 constructor
 ·intro h a ha
  exact of_decide_eq_true (h a ha)
 ·intro h a ha
  exact decide_eq_true (h a ha)
theorem z6y {x:Str} (h:asc (ls x)):PyData.strOk x=true:=by
 unfold PyData.strOk
 rw[<- Array.all_toList,List.all_eq_true]
 intro a ha
 have:=h a ha
 exact decide_eq_true (by omega)
theorem z3s {a b:List Nat} (h1:asc a) (h2:asc b):asc (a++b):=fun x hx=>(y10.mp hx).elim (h1 x) (h2 x)
theorem za9 {a b:List Nat} (h:asc b) (hs:∀x∈a,x∈b):asc a:=fun x hx=>h x (hs x hx)
theorem zf7 (m:Nat):ls (strI (m:Int))=(Nat.toDigits 10 m).map Char.toNat:=W.KIN.signs_num m
theorem zny (m:Nat):NumText.AllDigits (ls (strI (m:Int))):=by
 rw[zf7]
 intro c hc
 obtain⟨d,hd,rfl⟩:=y0m.mp hc
 have h:=Nat.isDigit_of_mem_toDigits (by decide) (by decide) hd
 simp only[Char.isDigit,y1b,decide_eq_true_eq] at h
 exact⟨h.1,h.2⟩
end Fo
end
section
namespace D
open PySem
theorem z8j (ss:List Str) (h:∀x∈ss,(y1v x).canLay0=true):y1g (ss.map .str)=true/\y1e (ss.map .str)<=1:=by
 induction ss with
 | nil=>simp[y1g,y1e]
 | cons n ns ih =>
  have h1:=h n (by simp)
  have h2:=ih fun x hx=>h x (by simp[hx])
  simp[y1g,y1e,y24,h1,h2]
theorem z9o:∀(ns ms:List Str),PyData.eqvAll (ns.map .str) (ms.map .str)=decide (ns=ms)
 | [],[]=>by simp[PyData.eqvAll]
 | [],_::_=>by simp[PyData.eqvAll]
 | _::_,[]=>by simp[PyData.eqvAll]
 | n::ns,m::ms=>by simp[PyData.eqvAll,y1z,z9o ns ms,Bool.beq_eq_decide_eq]
theorem zhs (ns ms:List Str):y1z (.tuple (ns.map .str)) (.tuple (ms.map .str))=decide (ns=ms):=by rw[y1z,z9o]
theorem zhn (n:Str):∀ns:List Str,hasT (.str n) (ns.map .str)=decide (n∈ns)
 | []=>by simp[hasT]
 | m::ns=>by
  have ih:=zhn n ns
  unfold hasT at ih ⊢
  rw[y0d,List.any_cons,ih]
  simp[y1z,Bool.beq_eq_decide_eq,eq_comm]
theorem zfq (n:Int):okT (.int n)=true:=by simp[okT,PyData.canLay0,y24]
theorem zfp {x:Str} (h:(y1v x).canLay0=true):okT (.str x)=true:=by simp[okT,y24,h]
theorem zl6 (ss:List Str) (h:∀x∈ss,(y1v x).canLay0=true):okL (ss.map .str)=true:=by
 have:=z8j ss h
 simp[okL,this.1]
 omega
theorem zs6 (neg:Bool) (n:Str) (ns:List Str) (h0:(y1v n).canLay0=true) (h:∀x∈ns,(y1v x).canLay0=true):oIn neg (.str n) (.tuple (ns.map .str))=some (.bool (if neg then !decide (n∈ns) else decide (n∈ns))):=by
 simp only[oIn,zfp h0,zl6 ns h,zhn,Bool.and_self,if_true]
end D
end
section
namespace Co
open D PySem
structure Cd where
 fig:Str
 who:Str
 rights:List Str
 uses:Int
structure Pl where
 zones:List (Str×Str)
 codes:List Cd
 leave:Int
 come:Int
 loud:Int
structure Cs where
 mode:Str
 left:Int
 came:Option Str
 lines:List (Str×Str)
 shunts:List Str
 siren:Int
 alarms:List Str
 tries:Int
 locked:Int
 used:List (Str×Int)
 past:Int
 told:List (Int×Str×Option Str)
def oS:Option Str->T
 | none=>.none
 | some x=>.str x
def encZ (z:Str×Str):T:=.tuple [.str z.1,.str z.2]
def z1x (c:Cd):T:=.tuple [.str c.fig,.str c.who,.tuple (c.rights.map .str),.int c.uses]
def encP (p:Pl):T:=.tuple [.tuple (p.zones.map encZ),.tuple (p.codes.map z1x),.tuple [.int p.leave,.int p.come,.int p.loud]]
def encW (w:Int×Str×Option Str):T:=.tuple [.int w.1,.str w.2.1,oS w.2.2]
def dS (l:List (Str×Str)):List (D.Key×T):=l.map fun p=>(.inr p.1,.str p.2)
def dI (l:List (Str×Int)):List (D.Key×T):=l.map fun p=>(.inr p.1,.int p.2)
noncomputable def encC (p:Pl) (c:Cs):List Sl:=[.imm (encP p),.imm (.str c.mode),.imm (.int c.left),.imm (oS c.came),.dic (dS c.lines),.own (c.shunts.map .str),.imm (.int c.siren),.own (c.alarms.map .str),.imm (.int c.tries),.imm (.int c.locked),.dic (dI c.used),.imm (.int c.past),.own (c.told.map encW)]
theorem zc1:¬(("off":Str)="leaving"):=by decide +kernel
theorem zow:¬(("off":Str)="on"):=by decide +kernel
theorem zdr:¬(("off":Str)="coming"):=by decide +kernel
theorem zc2:¬(("leaving":Str)="off"):=by decide +kernel
theorem zdt:¬(("leaving":Str)="on"):=by decide +kernel
theorem z8b:¬(("leaving":Str)="coming"):=by decide +kernel
theorem zov:¬(("on":Str)="off"):=by decide +kernel
theorem zdq:¬(("on":Str)="leaving"):=by decide +kernel
theorem zg0:¬(("on":Str)="coming"):=by decide +kernel
theorem zdx:¬(("coming":Str)="off"):=by decide +kernel
theorem z8c:¬(("coming":Str)="leaving"):=by decide +kernel
theorem zg5:¬(("coming":Str)="on"):=by decide +kernel
theorem zfv:¬(("shut":Str)="open"):=by decide +kernel
theorem zin:¬(("shut":Str)="cut"):=by decide +kernel
theorem zfz:¬(("open":Str)="shut"):=by decide +kernel
theorem ziq:¬(("open":Str)="cut"):=by decide +kernel
theorem ziv:¬(("cut":Str)="shut"):=by decide +kernel
theorem ziw:¬(("cut":Str)="open"):=by decide +kernel
theorem zg4:¬(("day":Str)="inner"):=by decide +kernel
theorem ziu:¬(("day":Str)="once"):=by decide +kernel
theorem zld:¬(("day":Str)="way"):=by decide +kernel
theorem zg3:¬(("inner":Str)="day"):=by decide +kernel
theorem zdu:¬(("inner":Str)="once"):=by decide +kernel
theorem zg2:¬(("inner":Str)="way"):=by decide +kernel
theorem zis:¬(("once":Str)="day"):=by decide +kernel
theorem zdp:¬(("once":Str)="inner"):=by decide +kernel
theorem zir:¬(("once":Str)="way"):=by decide +kernel
theorem zlc:¬(("way":Str)="day"):=by decide +kernel
theorem zft:¬(("way":Str)="inner"):=by decide +kernel
theorem zim:¬(("way":Str)="once"):=by decide +kernel
theorem zfx:¬(("set":Str)="unset"):=by decide +kernel
theorem zfy:¬(("set":Str)="shunt"):=by decide +kernel
theorem zio:¬(("set":Str)="free"):=by decide +kernel
theorem zfu:¬(("unset":Str)="set"):=by decide +kernel
theorem zbz:¬(("unset":Str)="shunt"):=by decide +kernel
theorem zdl:¬(("unset":Str)="free"):=by decide +kernel
theorem zfw:¬(("shunt":Str)="set"):=by decide +kernel
theorem zc0:¬(("shunt":Str)="unset"):=by decide +kernel
theorem zdo:¬(("shunt":Str)="free"):=by decide +kernel
theorem zit:¬(("free":Str)="set"):=by decide +kernel
theorem zdv:¬(("free":Str)="unset"):=by decide +kernel
theorem zdw:¬(("free":Str)="shunt"):=by decide +kernel
theorem zg1:¬(("line":Str)="code"):=by decide +kernel
theorem zds:¬(("line":Str)="ticks"):=by decide +kernel
theorem zg6:¬(("code":Str)="line"):=by decide +kernel
theorem zdy:¬(("code":Str)="ticks"):=by decide +kernel
theorem zdm:¬(("ticks":Str)="line"):=by decide +kernel
theorem zdn:¬(("ticks":Str)="code"):=by decide +kernel
def tell (w:Str) (n:Option Str) (c:Cs):Cs:={ c with told:=c.told++[(c.past,w,n)] }
def beLoud (p:Pl) (c:Cs):Cs:={ c with siren:=p.loud }
def alarm (p:Pl) (z:Str) (c:Cs):Cs:=if z∈c.alarms then beLoud p c else tell "alarm" (some z) { beLoud p c with alarms:=c.alarms++[z] }
section
variable (p:Pl) (c:Cs)
theorem zpl:(encC p c).length=13:=rfl
theorem e0:(encC p c)[0]?=some (.imm (encP p)):=rfl
theorem e1:(encC p c)[1]?=some (.imm (.str c.mode)):=rfl
theorem e2:(encC p c)[2]?=some (.imm (.int c.left)):=rfl
theorem e3:(encC p c)[3]?=some (.imm (oS c.came)):=rfl
theorem e4:(encC p c)[4]?=some (.dic (dS c.lines)):=rfl
theorem e5:(encC p c)[5]?=some (.own (c.shunts.map .str)):=rfl
theorem e6:(encC p c)[6]?=some (.imm (.int c.siren)):=rfl
theorem e7:(encC p c)[7]?=some (.own (c.alarms.map .str)):=rfl
theorem e8:(encC p c)[8]?=some (.imm (.int c.tries)):=rfl
theorem e9:(encC p c)[9]?=some (.imm (.int c.locked)):=rfl
theorem e10:(encC p c)[10]?=some (.dic (dI c.used)):=rfl
theorem e11:(encC p c)[11]?=some (.imm (.int c.past)):=rfl
theorem e12:(encC p c)[12]?=some (.own (c.told.map encW)):=rfl
theorem s1 (x:Str):(encC p c).set 1 (.imm (.str x))=encC p { c with mode:=x }:=rfl
theorem s2 (x:Int):(encC p c).set 2 (.imm (.int x))=encC p { c with left:=x }:=rfl
theorem s3 (x:Str):(encC p c).set 3 (.imm (.str x))=encC p { c with came:=some x }:=rfl
theorem s3n:(encC p c).set 3 (.imm .none)=encC p { c with came:=none }:=rfl
theorem s4 (l:List (Str×Str)):(encC p c).set 4 (.dic (dS l))=encC p { c with lines:=l }:=rfl
theorem s5 (l:List Str):(encC p c).set 5 (.own (l.map .str))=encC p { c with shunts:=l }:=rfl
theorem s5n:(encC p c).set 5 (.own [])=encC p { c with shunts:=[] }:=rfl
theorem s6 (x:Int):(encC p c).set 6 (.imm (.int x))=encC p { c with siren:=x }:=rfl
theorem s7 (l:List Str):(encC p c).set 7 (.own (l.map .str))=encC p { c with alarms:=l }:=rfl
theorem s7n:(encC p c).set 7 (.own [])=encC p { c with alarms:=[] }:=rfl
theorem s7a (l:List Str) (z:Str):(encC p c).set 7 (.own (l.map .str++[.str z]))=encC p { c with alarms:=l++[z] }:=by simp[encC]
theorem s8 (x:Int):(encC p c).set 8 (.imm (.int x))=encC p { c with tries:=x }:=rfl
theorem s9 (x:Int):(encC p c).set 9 (.imm (.int x))=encC p { c with locked:=x }:=rfl
theorem s10 (l:List (Str×Int)):(encC p c).set 10 (.dic (dI l))=encC p { c with used:=l }:=rfl
theorem s11 (x:Int):(encC p c).set 11 (.imm (.int x))=encC p { c with past:=x }:=rfl
theorem s12a (l:List (Int×Str×Option Str)) (i:Int) (w:Str) (n:Option Str):(encC p c).set 12 (.own (l.map encW++[.tuple [.int i,.str w,oS n]]))=encC p { c with told:=l++[(i,w,n)] }:=by simp[encC,encW]
end
end Co
open D Co
open PySem hiding run fresh code
local macro_rules
 | `(tactic| simp! [sp1,$xs,*] $[$l]?)=>`(tactic| simp[zpl,e0,e1,e2,e3,e4,e5,e6,e7,e8,e9,e10,e11,e12,s1,s2,s3,s3n,s4,s5,s5n,s6,s7,s7n,s7a,s8,s9,s10,s11,s12a,runM,runR,z4u,z9d,exX,zli,zlh,rtnM,zki,rtnX,asgF,znc,augF,appF,setF,objF,fld,fldV,fldD,fldL,fGet,zkq,znb,zfr,never,asgX,ifE,z8q,runF,seq,iff,tstB,tstL,andT,orT,notT,cstT,ofT,op1,op2,opN,args,cst,nm,nmV,rtn,skip,asg,asgN,asgT,par,z01,z0p,oIsN,z2h,oIx,atZ,ixOf,gNm,gTu,gAll,z1e,comp,z1f,$xs,*] $[$l]?)
local macro_rules
 | `(tactic| simp! [sp2,$xs,*] $[$l]?)=>`(tactic| simp[runF,seq,iff,tstB,tstL,andT,orT,notT,cstT,ofT,op1,op2,opN,args,cst,nm,nmV,rtn,skip,asg,asgN,asgT,par,z01,z0p,oIsN,z2h,oIx,atZ,ixOf,gNm,gTu,gAll,z1e,comp,z1f,$xs,*] $[$l]?)
 | `(tactic| simp! [sp2] $[$l]?)=>`(tactic| simp[runF,seq,iff,tstB,tstL,andT,orT,notT,cstT,ofT,op1,op2,opN,args,cst,nm,nmV,rtn,skip,asg,asgN,asgT,par,z01,z0p,oIsN,z2h,oIx,atZ,ixOf,gNm,gTu,gAll,z1e,comp,z1f] $[$l]?)
local macro_rules
 | `(tactic| simp! [sp3,$xs,*] $[$l]?)=>`(tactic| simp[oAdd,oSub,oMul,oDiv,oMod,oNeg,oLen,oMin,oMax,z1u,zag,oInt,oLt,oLe,oGt,oGe,big,zpl,e0,e1,e2,e3,e4,e5,e6,e7,e8,e9,e10,e11,e12,s1,s2,s3,s3n,s4,s5,s5n,s6,s7,s7n,s7a,s8,s9,s10,s11,s12a,runM,runR,z4u,z9d,exX,zli,zlh,rtnM,zki,rtnX,asgF,znc,augF,appF,setF,objF,fld,fldV,fldD,fldL,fGet,zkq,znb,zfr,never,asgX,ifE,z8q,runF,seq,iff,tstB,tstL,andT,orT,notT,cstT,ofT,op1,op2,opN,args,cst,nm,nmV,rtn,skip,asg,asgN,asgT,par,z01,z0p,oIsN,z2h,oIx,atZ,ixOf,gNm,gTu,gAll,z1e,comp,z1f,$xs,*] $[$l]?)
local macro_rules
 | `(tactic| simp! [sp4,$xs,*] $[$l]?)=>`(tactic| simp[runM,runR,z4u,z9d,exX,zli,zlh,rtnM,zki,rtnX,asgF,znc,augF,appF,setF,objF,fld,fldV,fldD,fldL,fGet,zkq,znb,zfr,never,asgX,ifE,z8q,runF,seq,iff,tstB,tstL,andT,orT,notT,cstT,ofT,op1,op2,opN,args,cst,nm,nmV,rtn,skip,asg,asgN,asgT,par,z01,z0p,oIsN,z2h,oIx,atZ,ixOf,gNm,gTu,gAll,z1e,comp,z1f,$xs,*] $[$l]?)
local macro_rules
 | `(tactic| simp! [sp5,$xs,*] $[$l]?)=>`(tactic| simp[zpl,e0,e1,e2,e3,e4,e5,e6,e7,e8,e9,e10,e11,e12,s1,s2,s3,s3n,s4,s5,s5n,s6,s7,s7n,s7a,s8,s9,s10,s11,s12a,runM,runR,z4u,z9d,exX,zli,zlh,rtnM,zki,rtnX,asgF,znc,augF,appF,setF,objF,fld,fldV,fldD,fldL,fGet,zkq,znb,zfr,never,asgX,ifE,z8q,zc1,zow,zdr,zc2,zdt,z8b,zov,zdq,zg0,zdx,z8c,zg5,zfv,zin,zfz,ziq,ziv,ziw,zg4,ziu,zld,zg3,zdu,zg2,zis,zdp,zir,zlc,zft,zim,zfx,zfy,zio,zfu,zbz,zdl,zfw,zc0,zdo,zit,zdv,zdw,zg1,zds,zg6,zdy,zdm,zdn,runF,seq,iff,tstB,tstL,andT,orT,notT,cstT,ofT,op1,op2,opN,args,cst,nm,nmV,rtn,skip,asg,asgN,asgT,par,z01,z0p,oIsN,z2h,oIx,atZ,ixOf,gNm,gTu,gAll,z1e,comp,z1f,$xs,*] $[$l]?)
local macro_rules
 | `(tactic| simp! [sp6,$xs,*] $[$l]?)=>`(tactic| simp[oAdd,oSub,oMul,oDiv,oMod,oNeg,oLen,oMin,oMax,z1u,zag,oInt,oLt,oLe,oGt,oGe,big,runF,seq,iff,tstB,tstL,andT,orT,notT,cstT,ofT,op1,op2,opN,args,cst,nm,nmV,rtn,skip,asg,asgN,asgT,par,z01,z0p,oIsN,z2h,oIx,atZ,ixOf,gNm,gTu,gAll,z1e,comp,z1f,$xs,*] $[$l]?)
local macro_rules
 | `(tactic| simp! [sp7,$xs,*] $[$l]?)=>`(tactic| simp[runM,runR,z4u,z9d,exX,zli,zlh,rtnM,zki,rtnX,asgF,znc,augF,appF,setF,objF,fld,fldV,fldD,fldL,fGet,zkq,znb,zfr,never,asgX,ifE,z8q,$xs,*] $[$l]?)
local macro_rules
 | `(tactic| simp! [sp8,$xs,*] $[$l]?)=>`(tactic| simp[zpl,e0,e1,e2,e3,e4,e5,e6,e7,e8,e9,e10,e11,e12,s1,s2,s3,s3n,s4,s5,s5n,s6,s7,s7n,s7a,s8,s9,s10,s11,s12a,$xs,*] $[$l]?)
local macro_rules
 | `(tactic| simp! [sp9,$xs,*] $[$l]?)=>`(tactic| simp[runF,seq,iff,tstB,tstL,andT,orT,notT,cstT,ofT,op1,op2,opN,args,cst,nm,nmV,rtn,skip,asg,asgN,asgT,par,z01,z0p,oIsN,z2h,gNm,gTu,gAll,z1e,comp,z1f,$xs,*] $[$l]?)
 | `(tactic| simp! [sp9] $[$l]?)=>`(tactic| simp[runF,seq,iff,tstB,tstL,andT,orT,notT,cstT,ofT,op1,op2,opN,args,cst,nm,nmV,rtn,skip,asg,asgN,asgT,par,z01,z0p,oIsN,z2h,gNm,gTu,gAll,z1e,comp,z1f] $[$l]?)
namespace Co
open D PySem
def okS (x:Str):Prop:=(y1v x).canLay0=true
theorem z9a {x y:Str} (h1:okS x) (h2:okS y):oEq (.str x) (.str y)=some (.bool (decide (x=y))):=by
 unfold oEq
 rw[zfp h1,zfp h2]
 by_cases e:x=y <;> simp[y1z,e]
theorem zor (neg:Bool) {n:Str} {ns:List Str} (h0:okS n) (h:∀x∈ns,okS x):oIn neg (.str n) (.tuple (ns.map .str))=some (.bool (if neg then !decide (n∈ns) else decide (n∈ns))):=zs6 neg n ns h0 h
def kindOf (p:Pl) (z:Str):Str:=((p.zones.find? fun x=>decide (x.1=z)).map (·.2)).getD ""
def codeOf (p:Pl) (f:Str):Option Cd:=p.codes.find? fun k=>decide (k.fig=f)
theorem ze2 {z:Str} (hz:okS z) (s0:Option Sl):∀(zs:List (Str×Str)) (t0:Option Sl),(∀x∈zs,okS x.1)->z∈zs.map (·.1)->forL (gNm 2) (iff (tstB (op2 oEq (op2 oIx (nm 2) (cst (.int 0))) (nm 1))) (rtn (op2 oIx (nm 2) (cst (.int 1)))) skip) (zs.map encZ) [s0,some (.imm (.str z)),t0]=some (.rt (.str (((zs.find? fun x=>decide (x.1=z)).map (·.2)).getD "")))
 | [],t0,_,h=>by simp at h
 | x::zs,t0,ho,h=>by
  have e:=z9a (ho x (by simp)) hz
  by_cases hx:x.1=z
  ·simp! [sp2,forL,encZ,hx,z9a hz hz]
  ·have h':z∈zs.map (·.1):=by
    rw[y0d] at h
    rcases y09.mp h with q|q
    ·exact absurd q.symm hx
    ·exact q
   have ih:=ze2 hz s0 zs (some (.imm (encZ x))) (fun y hy=>ho y (y05 _ hy)) h'
   simp[encZ] at ih
   simp! [sp2,forL,encZ,hx,e]
   simpa [runF,seq,iff,tstB,tstL,andT,orT,notT,cstT,ofT,op1,op2,opN,args,cst,nm,nmV,rtn,skip,asg,asgN,asgT,par,z01,z0p,oIsN,z2h,oIx,atZ,ixOf,gNm,gTu,gAll,z1e,comp,z1f] using ih
theorem zj1 {p:Pl} {z:Str} (ho:∀x∈p.zones,okS x.1/\okS x.2) (hz:z∈p.zones.map (·.1)):z2y [encP p,.str z]=some (.str (kindOf p z)):=by
 obtain⟨x,hx,rfl⟩:=y0m.mp hz
 have:=ze2 (ho x hx).1 (some (.imm (encP p))) p.zones none (fun y hy=>(ho y hy).1) hz
 simp! [sp2,z2y,zeu,for_,encP] at this ⊢
 simp[this,kindOf]
def zlm (c:Cs) (z:Str):Str:=(c.lines.lookup z).getD ""
def setL (l:List (Str×Str)) (z w:Str):List (Str×Str):=l.map fun p=>if p.1=z then (z,w) else p
def zt2 (c:Cs) (f:Str):Int:=(c.used.lookup f).getD 0
def addU (l:List (Str×Int)) (f:Str):List (Str×Int):=l.map fun p=>if p.1=f then (f,p.2+1) else p
theorem zmq {α:Type} {cc:Ft} {ee:Fe} {caps:Ev} (enc:α->T) (q:α->Bool) (f:α->T):∀(ts:List α) (s0:Option Sl),(∀a∈ts,cc (some (.imm (enc a))::caps)=some (q a)/\(q a=true->ee (some (.imm (enc a))::caps)=some (f a)))->z2c (gNm 0) cc ee (ts.map enc) (s0::caps)=some ((ts.filter q).map f)
 | [],_,_=>rfl
 | a::ts,s0,h=>by
  obtain⟨h1,h2⟩:=h a (by simp)
  have ih:=zmq enc q f ts (some (.imm (enc a))) fun b hb=>h b (y05 _ hb)
  simp only[y0d,z2c,gNm,y1i,y0p,h1]
  cases hq:q a with
  | false=>simp[ih,hq]
  | true=>simp[ih,hq,h2 hq]
def bare (p:Pl) (kinds:List Str) (c:Cs):List Str:=((p.zones.filter fun z=>decide (z.2∈kinds)).map (·.1)).filter fun z=>decide (zlm c z≠"shut") && !decide (z∈c.shunts)
def zvc (p:Pl) (z k:Str) (c:Cs):Cs:=if k≠"way"\/p.come<=0 then alarm p z c else tell "coming" (some z) { c with mode:="coming",left:=p.come,came:=some z }
noncomputable def zsp (p:Pl) (z w:Str) (c:Cs):Cs :=
 if kindOf p z="day" then alarm p z c
 else if c.mode="off" then (if w="cut" then tell "fault" (some z) c else c)
 else if w="cut"\/kindOf p z="once" then alarm p z c
 else if c.mode="on" then zvc p z (kindOf p z) c else c
noncomputable def line (p:Pl) (z w:Str) (c:Cs):Cs :=
 if w=zlm c z then c
 else if w="shut" then (if zlm c z="cut" then tell "mended" (some z) { c with lines:=setL c.lines z w } else { c with lines:=setL c.lines z w })
 else if z∈c.shunts then { c with lines:=setL c.lines z w } else zsp p z w { c with lines:=setL c.lines z w }
def less (a n:Int):Int:=if 0 > a - n then 0 else a - n
def z9t (n:Int) (c:Cs):Cs:={ c with past:=c.past+n,locked:=less c.locked n,siren:=less c.siren n,left:=less c.left n }
def alarms (p:Pl) (zs:List Str) (c:Cs):Cs:=zs.foldl (fun c z=>alarm p z c) c
def zba (p:Pl) (c:Cs):Cs:=alarms p (bare p ["inner","way"] (tell "on" none { c with mode:="on",left:=0 })) (tell "on" none { c with mode:="on",left:=0 })
def zmm (p:Pl) (c:Cs):Cs:=alarm p (c.came.getD "") { c with mode:="on",came:=none }
def zsn (p:Pl) (c:Cs):Cs:=if c.mode="leaving" then zba p c else zmm p c
noncomputable def ticks (p:Pl) (n:Int) (c:Cs):Cs :=
 if n<1 then c else if (c.mode="leaving"\/c.mode="coming")/\c.left<=n then z9t (n - c.left) (zsn p (z9t c.left c)) else z9t n c
def zt1 (k:Cd) (c:Cs):Bool:=decide (k.uses≠0) && decide (k.uses<=zt2 c k.fig)
def wrong1 (c:Cs):Cs:={ tell "wrong" none c with tries:=c.tries+1 }
def zcp (p:Pl) (c:Cs):Cs:=if 3<=c.tries+1 then tell "attack" none (beLoud p { wrong1 c with tries:=0,locked:=90 }) else wrong1 c
noncomputable def znn (p:Pl) (d:Str) (z:Option Str) (c:Cs):Bool :=
 if d="unset" then false else if c.mode≠"off" then true
 else if d="shunt" then decide (kindOf p (z.getD "")="day") || decide (z.getD ""∈c.shunts)
 else decide (d="free") && !decide (z.getD ""∈c.shunts)
noncomputable def zsy (p:Pl) (k:Cd) (d:Str) (z:Option Str) (c:Cs):Option (Str×Str) :=
 if (if d="free" then ("shunt":Str) else d)∉k.rights then some ("denied",k.who)
 else if znn p d z c then some ("no",k.who)
 else if d="set"/\bare p ["day","once"] c≠[] then some ("open",(bare p ["day","once"] c).headD "") else none
def zwh (p:Pl) (who:Str) (c:Cs):Cs :=
 let c1:=tell "set" (some who) { c with alarms:=[],siren:=0,mode:="leaving",left:=p.leave }
 if p.leave<=0 then zba p c1 else c1
def zso (who:Str) (c:Cs):Cs:=tell "unset" (some who) { c with mode:="off",left:=0,siren:=0,came:=none,shunts:=[] }
noncomputable def zv6 (p:Pl) (who d:Str) (z:Option Str) (c:Cs):Cs :=
 if d="set" then zwh p who c else if d="unset" then zso who c
 else if d="shunt" then tell "shunt" z { c with shunts:=z4h (c.shunts++[z.getD ""]) }
 else tell "free" z { c with shunts:=c.shunts.erase (z.getD "") }
noncomputable def takeRight (p:Pl) (k:Cd) (d:Str) (z:Option Str) (c:Cs):Cs:=match zsy p k d z c with
 | none=>zv6 p k.who d z { c with used:=addU c.used k.fig }
 | some (w,n)=>tell w (some n) c
noncomputable def code (p:Pl) (f d:Str) (z:Option Str) (c:Cs):Cs :=
 if 0<c.locked then tell "locked" none c else match codeOf p f with
  | none=>zcp p c
  | some k=>if zt1 k c then zcp p c else takeRight p k d z { c with tries:=0 }
end Co
section
namespace Co
open D PySem
theorem zck:(2<=big)=True:=by simp[big]
theorem zno:(10<=big)=True:=by simp[big]
def okZ (p:Pl) (d:Str) (z:Option Str):Prop:=(d="shunt"\/d="free")->∃x,z=some x/\x∈p.zones.map (·.1)
structure Wp (p:Pl):Prop where
 cd:(p.codes.map (·.fig)).Nodup
 zd:(p.zones.map (·.1)).Nodup
 cl:p.codes.length<=40
 ti:0<=p.leave/\0<=p.come/\0<=p.loud
inductive Et where
 | line (z w:Str)
 | code (f d:Str) (z:Option Str)
 | ticks (n:Int)
def encE:Et->T
 | .line z w=>.tuple [.str "line",.str z,.str w]
 | .code f d z=>.tuple [.str "code",.str f,.str d,oS z]
 | .ticks n=>.tuple [.str "ticks",.int n]
def zv1 (p:Pl) (c:Cs):Et->Cs
 | .line z w=>line p z w c
 | .code f d z=>code p f d z c
 | .ticks n=>ticks p n c
end Co
end
section
namespace Co
open D PySem
local instance:Tbl:=⟨[],fun _=>[],fun _=>none⟩
def run (p:Pl) (c:Cs) (es:List Et):Cs:=es.foldl (zv1 p) c
def fresh (c:Cs):Cs:={ c with past:=0,told:=[] }
noncomputable def encS (c:Cs):T:=.tuple [.str c.mode,.int c.left,oS c.came,.tuple (c.lines.map fun l=>.str l.2),.tuple (c.shunts.map .str),.int c.siren,.tuple (c.alarms.map .str),.int c.tries,.int c.locked,.tuple (c.used.map fun u=>.int u.2)]
noncomputable def zhz (p:Pl):Cs:={ mode:="off",left:=0,came:=none,lines:=p.zones.map fun z=>(z.1,"shut"),shunts:=[],siren:=0,alarms:=[],tries:=0,locked:=0,used:=p.codes.map fun k=>(k.fig,0),past:=0,told:=[] }
theorem zpt (p:Pl) (hz:p.zones.length<=40) (hp:Wp p):z9r [encP p]=some (encS (zhz p)):=by
 have hc:=hp.cl
 have b1:p.zones.length<=big:=by unfold big;omega
 have b2:p.codes.length<=big:=by unfold big;omega
 have c1:=zmq (cc:=cstT true) (ee:=cst (.str "shut")) (caps:=[]) encZ (fun _=>true) (fun _=>.str "shut") p.zones none fun a ha=>⟨rfl,fun _=>rfl⟩
 have c2:=zmq (cc:=cstT true) (ee:=cst (.int 0)) (caps:=[]) z1x (fun _=>true) (fun _=>.int 0) p.codes none fun a ha=>⟨rfl,fun _=>rfl⟩
 rw[List.filter_eq_self.mpr (fun _ _=>rfl)] at c1 c2
 simp! [sp2,z9r,zna,encP,z1u,b1,b2,c1,c2,zno,encS,zhz,oS,y16]
end Co
end
section
namespace Co
open D PySem
local instance:Tbl:=⟨[],fun _=>[],fun _=>none⟩
theorem zgk (ns:List Int) (k:Nat):z0s [z05 ns,.int k]=some (.int (ns.getD k 0)):=by
 by_cases h:k<ns.length
 ·have h':(k:Int)<(ns.length:Int):=by omega
  simp! [sp6,z0s,z22,z05,h,h',List.getD]
 ·have h':¬(k:Int)<(ns.length:Int):=by omega
  simp! [sp6,z0s,z22,z05,h,h',List.getD]
theorem mul_ok {i j:Int} (h:-(2 ^ 64)<j/\j<2 ^ 64):oMul (.int i) (.int j)=some (.int (i*j)):=by
 unfold oMul ziz
 simp only[decide_eq_true h.1,decide_eq_true h.2,Bool.and_self,Bool.or_true,if_true]
theorem z35 {i j:Int} (h:0<j):oMod (.int i) (.int j)=some (.int (i % j)):=if_pos h
theorem zbb {i j:Int} (h:0<j/\j<1073741824):oDiv (.int i) (.int j)=some (.int (i / j)):=if_pos h
theorem z2g {i j:Int}:oAdd (.int i) (.int j)=some (.int (i+j)):=rfl
theorem seq_nx {a b:Fs} {ε ε':Ev} (h:a ε=some (.nx ε')):seq a b ε=b ε':=by
 unfold seq
 rw[h]
 rfl
theorem mixed_eq (ns:List Int) (k:Nat):∃m:Int,0<=m/\z0e [z05 ns,.int k]=some (.int m):=by
 have hc:=zgk ns k
 have hd:0<=(ns.getD k 0+7919*(k:Int)+1)*48271 % 2147483647/\(ns.getD k 0+7919*(k:Int)+1)*48271 % 2147483647<2147483647:=⟨y2f _ (by decide),y2g _ (by decide)⟩
 generalize hx:(ns.getD k 0+7919*(k:Int)+1)*48271 % 2147483647=d at hd
 refine⟨(d*d+7*d+k) % 2147483629,y2f _ (by decide),?_⟩
 have e0:z0e [z05 ns,.int k]=(z3q [some (.imm (z05 ns)),some (.imm (.int k)),none]).bind fun o=>match o with|.rt t=>some t|.nx _=>some .none|_=>none:=rfl
 have m1:oMul (.int 7919) (.int k)=some (.int (7919*k)):=by
  unfold oMul ziz
  simp
 have n0:nmV 0 [some (.imm (z05 ns)),some (.imm (.int k)),none]=some (z05 ns):=rfl
 have n1:nmV 1 [some (.imm (z05 ns)),some (.imm (.int k)),none]=some (.int k):=rfl
 have n1':nm 1 [some (.imm (z05 ns)),some (.imm (.int k)),none]=some (.int k):=rfl
 have s1:asg 2 (op2 oMod (op2 oMul (op2 oAdd (op2 oAdd (opN z0s [(nmV 0),(nmV 1)]) (op2 oMul (cst (.int 7919)) (nm 1))) (cst (.int 1))) (cst (.int 48271))) (cst (.int 2147483647))) [some (.imm (z05 ns)),some (.imm (.int k)),none]=some (.nx [some (.imm (z05 ns)),some (.imm (.int k)),some (.imm (.int d))]):=by
  simp only[asg,op2,opN,args,n0,n1,n1',y0p,y1q,hc,cst,m1,z2g,mul_ok (i:=ns.getD k 0+7919*(k:Int)+1) (j:=48271) (by decide),z35 (j:=2147483647) (by decide),hx]
  rfl
 have m2:oMul (.int d) (.int d)=some (.int (d*d)):=mul_ok (by omega)
 have m3:oMul (.int 7) (.int d)=some (.int (7*d)):=mul_ok (by omega)
 rw[e0]
 unfold z3q
 rw[seq_nx s1]
 have q2:nm 2 [some (.imm (z05 ns)),some (.imm (.int k)),some (.imm (.int d))]=some (.int d):=rfl
 have q1:nm 1 [some (.imm (z05 ns)),some (.imm (.int k)),some (.imm (.int d))]=some (.int k):=rfl
 simp only[rtn,op2,q2,q1,y0p,y1q,cst,m2,m3,z2g,z35 (j:=2147483629) (by decide)]
theorem drawn_eq (n k:Int) (hk:-(2 ^ 64)<k/\k<2 ^ 64):∃m:Int,0<=m/\z0i [.int n,.int k]=some (.int m):=by
 have hd:0<=(n+104729*k+17)*69621 % 2147483647/\(n+104729*k+17)*69621 % 2147483647<2147483647:=⟨y2f _ (by decide),y2g _ (by decide)⟩
 generalize hx:(n+104729*k+17)*69621 % 2147483647=d at hd
 refine⟨(d*d+3*d+k) % 2147483629,y2f _ (by decide),?_⟩
 have e0:z0i [.int n,.int k]=(z3r [some (.imm (.int n)),some (.imm (.int k)),none]).bind fun o=>match o with|.rt t=>some t|.nx _=>some .none|_=>none:=rfl
 have m1:oMul (.int 104729) (.int k)=some (.int (104729*k)):=mul_ok hk
 have n0:nm 0 [some (.imm (.int n)),some (.imm (.int k)),none]=some (.int n):=rfl
 have n1:nm 1 [some (.imm (.int n)),some (.imm (.int k)),none]=some (.int k):=rfl
 have s1:asg 2 (op2 oMod (op2 oMul (op2 oAdd (op2 oAdd (nm 0) (op2 oMul (cst (.int 104729)) (nm 1))) (cst (.int 17))) (cst (.int 69621))) (cst (.int 2147483647))) [some (.imm (.int n)),some (.imm (.int k)),none]=some (.nx [some (.imm (.int n)),some (.imm (.int k)),some (.imm (.int d))]):=by
  simp only[asg,op2,n0,n1,y0p,y1q,cst,m1,z2g,mul_ok (i:=n+104729*k+17) (j:=69621) (by decide),z35 (j:=2147483647) (by decide),hx]
  rfl
 have m2:oMul (.int d) (.int d)=some (.int (d*d)):=mul_ok (by omega)
 have m3:oMul (.int 3) (.int d)=some (.int (3*d)):=mul_ok (by omega)
 rw[e0]
 unfold z3r
 rw[seq_nx s1]
 have q2:nm 2 [some (.imm (.int n)),some (.imm (.int k)),some (.imm (.int d))]=some (.int d):=rfl
 have q1:nm 1 [some (.imm (.int n)),some (.imm (.int k)),some (.imm (.int d))]=some (.int k):=rfl
 simp only[rtn,op2,q2,q1,y0p,y1q,cst,m2,m3,z2g,z35 (j:=2147483629) (by decide)]
theorem oEq_int (a b:Int):oEq (.int a) (.int b)=some (.bool (decide (a=b))):=by
 unfold oEq
 rw[zfq,zfq]
 by_cases e:a=b <;> simp[y1z,e]
theorem divQ (m:Int) (j:Int) (h:0<j/\j<1073741824:=by decide):∃q,q=m / j/\oDiv (.int m) (.int j)=some (.int q):=⟨_,rfl,zbb h⟩
theorem modQ (m:Int) (j:Int) (h:0<j:=by decide):∃q,q=m % j/\0<=q/\q<j/\oMod (.int m) (.int j)=some (.int q):=⟨_,rfl,y2f _ (by omega),y2g _ h,z35 h⟩
theorem ixT {ts:List T} {j:Int} (h0:0<=j) (h1:j<ts.length):∃t∈ts,oIx (.tuple ts) (.int j)=some t:=by
 have hj:j.toNat<ts.length:=by omega
 refine⟨ts[j.toNat],List.getElem_mem hj,?_⟩
 simp only[oIx,atZ,ixOf,if_pos h0,if_pos h1,y0p]
 exact y0v hj
theorem ixS (ss:List Str) {j:Int} (h0:0<=j) (h1:j<ss.length):∃s∈ss,oIx (.tuple (ss.map .str)) (.int j)=some (.str s):=by
 obtain⟨t,ht,e⟩:=ixT (ts:=ss.map .str) h0 (by simpa using h1)
 obtain⟨s,hs,rfl⟩:=y0m.mp ht
 exact⟨s,hs,e⟩
theorem ixI (ss:List Int) {j:Int} (h0:0<=j) (h1:j<ss.length):∃s∈ss,oIx (.tuple (ss.map .int)) (.int j)=some (.int s):=by
 obtain⟨t,ht,e⟩:=ixT (ts:=ss.map .int) h0 (by simpa using h1)
 obtain⟨s,hs,rfl⟩:=y0m.mp ht
 exact⟨s,hs,e⟩
theorem zgf:(5<=big)=True:=by simp[big]
theorem z7r:(4<=big)=True:=by simp[big]
theorem z38:(3<=big)=True:=by simp[big]
theorem zkd:(6<=big)=True:=by simp[big]
theorem zpk:(8<=big)=True:=by simp[big]
theorem one_le:(1<=big)=True:=by simp[big]
noncomputable def bZ:Fs:=(seq (asg 4 (op2 oDiv (opN z0i [(nmV 0),(nmV 2)]) (cst (.int 4))))
  (iff (orT (tstB (op2 oLt (op2 oMod (nm 4) (cst (.int 8))) (op2 oAdd (cst (.int 3)) (op2 oMod (nm 0) (cst (.int 5)))))) (tstB (op2 oEq (nm 2) (op2 oMod (op2 oDiv (nm 0) (cst (.int 8))) (cst (.int 8)))))) (asg 1 (op2 oAdd (nm 1) (z01 [(z01 [(nmV 3),(op2 oIx (z01 [(cst (.str "day")),(cst (.str "inner")),(cst (.str "once")),(cst (.str "way")),(cst (.str "way"))]) (op2 oMod (op2 oDiv (nm 4) (cst (.int 8))) (cst (.int 5))))])]))) skip))
def encK (x:Int×Str):T:=.tuple [.int x.1,.str x.2]
def kinds:List Str:=["day","inner","once","way","way"]
theorem z8n (n:Int):∀(l:List (Int×Str)) (acc:List (Str×Str)) (s2 s3 s4:Option Sl),(∀x∈l,0<=x.1/\x.1<100)->acc.length+l.length<=20->∃zs s2' s3' s4',(zs.map (·.1)).Sublist (l.map (·.2))/\(∀z∈zs,z.2∈kinds)/\((∃x∈l,x.1=n / 8 % 8)->zs≠[]) /\
  forL (gTu [(gNm 2),(gNm 3)]) bZ (l.map encK) [some (.imm (.int n)),some (.imm (.tuple (acc.map encZ))),s2,s3,s4,none,none,none,none,none]=some (.nx [some (.imm (.int n)),some (.imm (.tuple ((acc++zs).map encZ))),s2',s3',s4',none,none,none,none,none])
 | [],acc,s2,s3,s4,_,_=>⟨[],s2,s3,s4,.refl _,by simp,by simp,by simp[forL]⟩
 | x::l,acc,s2,s3,s4,hx,hl=>by
  obtain⟨m,hm,e1_⟩:=drawn_eq n x.1 (by have:=hx x y0e;omega)
  obtain⟨q,hq,e2_⟩:=divQ m 4
  obtain⟨r,_,_,_,e3_⟩:=modQ q 8
  obtain⟨r',_,_,_,e4_⟩:=modQ n 5
  obtain⟨q1,hq1,e5_⟩:=divQ n 8
  obtain⟨r1,hr1,_,_,e6_⟩:=modQ q1 8
  obtain⟨q2,hq2,e7_⟩:=divQ q 8
  obtain⟨r2,_,h0,h1,e8_⟩:=modQ q2 5
  obtain⟨s,hs,e9_⟩:=ixS kinds h0 h1
  simp only[kinds,y0d,y19] at e9_
  simp only[y0w] at hl
  have b1:acc.length+1<=big:=by unfold big;omega
  have hx':∀y∈l,0<=y.1/\y.1<100:=fun y hy=>hx y (y05 _ hy)
  by_cases hc:r<3+r'\/x.1=r1
  ·obtain⟨zs,s2',s3',s4',i1,i2,i3,i4⟩:=z8n n l (acc++[(x.2,s)]) (some (.imm (.int x.1))) (some (.imm (.str x.2))) (some (.imm (.int q))) hx' (by simp;omega)
   refine⟨(x.2,s)::zs,s2',s3',s4',by simpa using i1,fun z hz=>?_,fun _=>by simp,?_⟩
   ·rcases y09.mp hz with rfl|hz
    ·exact hs
    ·exact i2 z hz
   ·rw[y0d,forL]
    have:bZ [some (.imm (.int n)),some (.imm (.tuple (acc.map encZ))),some (.imm (.int x.1)),some (.imm (.str x.2)),s4,none,none,none,none,none]=some (.nx [some (.imm (.int n)),some (.imm (.tuple ((acc++[(x.2,s)]).map encZ))),some (.imm (.int x.1)),some (.imm (.str x.2)),some (.imm (.int q)),none,none,none,none,none]):=by
     by_cases hc':r<3+r'
     ·simp! [sp9,bZ,e1_,e2_,e3_,e4_,e5_,e6_,e7_,e8_,e9_,z2g,oLt,hc',oAdd,b1,zgf,zck,one_le,encZ]
     ·have e10_:oEq (.int x.1) (.int r1)=some (.bool true):=by rw[oEq_int,decide_eq_true (hc.resolve_left hc')]
      simp! [sp9,bZ,e1_,e2_,e3_,e4_,e5_,e6_,e7_,e8_,e9_,z2g,oLt,hc',e10_,oAdd,b1,zgf,zck,one_le,encZ]
    simp only[encK,gTu,gAll,gNm,y0p,y1k,y1i,this]
    simpa using i4
  ·obtain⟨zs,s2',s3',s4',i1,i2,i3,i4⟩:=z8n n l acc (some (.imm (.int x.1))) (some (.imm (.str x.2))) (some (.imm (.int q))) hx' (by omega)
   refine⟨zs,s2',s3',s4',i1.cons _,i2,fun⟨y,hy,e⟩=>i3 ?_,?_⟩
   ·rcases y09.mp hy with rfl|hy
    ·exact absurd (.inr (by rw[e,hr1,hq1])) hc
    ·exact⟨y,hy,e⟩
   ·rw[y0d,forL]
    have:bZ [some (.imm (.int n)),some (.imm (.tuple (acc.map encZ))),some (.imm (.int x.1)),some (.imm (.str x.2)),s4,none,none,none,none,none]=some (.nx [some (.imm (.int n)),some (.imm (.tuple (acc.map encZ))),some (.imm (.int x.1)),some (.imm (.str x.2)),some (.imm (.int q)),none,none,none,none,none]):=by
     have h1':¬r<3+r':=fun z=>hc (.inl z)
     have h2':¬x.1=r1:=fun z=>hc (.inr z)
     simp! [sp9,bZ,e1_,e2_,e3_,e4_,e5_,e6_,e7_,e8_,e9_,z2g,oLt,h1',h2',oEq_int]
    simp only[encK,gTu,gAll,gNm,y0p,y1k,y1i,this]
    exact i4
theorem rng3:rng 0 3=[.int 0,.int 1,.int 2]:=by simp[rng,List.range_succ]
def cR:Ft:=tstB (op2 oGt (op2 oMod (op2 oDiv (nm 1) (op2 oIx (z01 [(cst (.int 4)),(cst (.int 16)),(cst (.int 64))]) (nm 0))) (cst (.int 4))) (cst (.int 0)))
def eR:Fe:=op2 oIx (z01 [(cst (.str "set")),(cst (.str "shunt")),(cst (.str "unset"))]) (nm 0)
def z0m:List Str:=["set","shunt","unset"]
theorem zkl (q:Int) (ε:Ev) (h:(ε[4]?).join=some (.imm (.int q))):∃rs:List Str,rs.Sublist z0m/\comp 1 [4] (z26 (cst (.int 3))) (gNm 0) cR eR ε=some (.list (rs.map .str)):=by
 have key:∀j j':Int,oIx (.tuple [.int 4,.int 16,.int 64]) (.int j)=some (.int j')->0<j'->j'<1073741824->∃b,cR [some (.imm (.int j)),some (.imm (.int q))]=some b:=by
  intro j j' h1 h2 h3
  obtain⟨q1,_,e1_⟩:=divQ q j' ⟨h2,h3⟩
  obtain⟨r1,_,_,_,e2_⟩:=modQ q1 4
  exact⟨decide (0<r1),by simp! [sp9,cR,h1,e1_,e2_,oGt,z38]⟩
 obtain⟨b0,k0⟩:=key 0 4 (by simp[oIx,atZ,ixOf]) (by decide) (by decide)
 obtain⟨b1,k1⟩:=key 1 16 (by simp[oIx,atZ,ixOf]) (by decide) (by decide)
 obtain⟨b2,k2⟩:=key 2 64 (by simp[oIx,atZ,ixOf]) (by decide) (by decide)
 have r0:eR [some (.imm (.int 0)),some (.imm (.int q))]=some (.str "set"):=by simp! [sp2,eR,z38]
 have r1:eR [some (.imm (.int 1)),some (.imm (.int q))]=some (.str "shunt"):=by simp! [sp2,eR,z38]
 have r2:eR [some (.imm (.int 2)),some (.imm (.int q))]=some (.str "unset"):=by simp! [sp2,eR,z38]
 have c0:comp 1 [4] (z26 (cst (.int 3))) (gNm 0) cR eR ε=(z2c (gNm 0) cR eR [.int 0,.int 1,.int 2] [none,some (.imm (.int q))]).map .list:=by
  have s3:z6d 3=true:=by decide
  simp[comp,z26,cst,s3,rng3,z1f,h,z38]
 rw[c0]
 cases b0 <;> cases b1 <;> cases b2
 ·exact⟨[],by simp,by simp[z2c,gNm,k0,k1,k2]⟩
 ·exact⟨["unset"],by decide,by simp[z2c,gNm,k0,k1,k2,r0,r1,r2]⟩
 ·exact⟨["shunt"],by decide,by simp[z2c,gNm,k0,k1,k2,r0,r1,r2]⟩
 ·exact⟨["shunt","unset"],by decide,by simp[z2c,gNm,k0,k1,k2,r0,r1,r2]⟩
 ·exact⟨["set"],by decide,by simp[z2c,gNm,k0,k1,k2,r0,r1,r2]⟩
 ·exact⟨["set","unset"],by decide,by simp[z2c,gNm,k0,k1,k2,r0,r1,r2]⟩
 ·exact⟨["set","shunt"],by decide,by simp[z2c,gNm,k0,k1,k2,r0,r1,r2]⟩
 ·exact⟨["set","shunt","unset"],by decide,by simp[z2c,gNm,k0,k1,k2,r0,r1,r2]⟩
noncomputable def bC:Fs:=(seq (asg 4 (op2 oDiv (opN z0i [(nmV 0),(op2 oAdd (cst (.int 10)) (nm 2))]) (cst (.int 4))))
  (iff (orT (tstB (op2 oGt (op2 oMod (nm 4) (cst (.int 3))) (cst (.int 0)))) (tstB (op2 oEq (nm 2) (cst (.int 1))))) (seq (asg 7 (opN z1u [(comp 1 [4] (z26 (cst (.int 3))) (gNm 0) cR eR)]))
  (seq (asg 8 (op2 oIx (z01 [(cst (.str "ann")),(cst (.str "bo")),(cst (.str "cy"))]) (op2 oMod (op2 oDiv (nm 4) (cst (.int 256))) (cst (.int 3)))))
  (asg 5 (op2 oAdd (nm 5) (z01 [(z01 [(nmV 6),(nmV 8),(nmV 7),(op2 oIx (z01 [(cst (.int 0)),(cst (.int 0)),(cst (.int 1)),(cst (.int 2)),(cst (.int 9))]) (op2 oMod (op2 oDiv (nm 4) (cst (.int 1024))) (cst (.int 5))))])]))))) skip))
def whos:List Str:=["ann","bo","cy"]
theorem z7u (n:Int) (s1 s3:Option Sl):∀(l:List (Int×Str)) (acc:List Cd) (s2 s4 s6 s7 s8:Option Sl),(∀x∈l,0<=x.1/\x.1<100)->acc.length+l.length<=20->∃ks s2' s4' s6' s7' s8',(ks.map (·.fig)).Sublist (l.map (·.2))/\(∀k∈ks,k.who∈whos/\k.rights.Sublist z0m/\k.uses∈([0,0,1,2,9]:List Int))/\((∃x∈l,x.1=1)->ks≠[]) /\
  forL (gTu [(gNm 2),(gNm 6)]) bC (l.map encK) [some (.imm (.int n)),s1,s2,s3,s4,some (.imm (.tuple (acc.map z1x))),s6,s7,s8,none]=some (.nx [some (.imm (.int n)),s1,s2',s3,s4',some (.imm (.tuple ((acc++ks).map z1x))),s6',s7',s8',none])
 | [],acc,s2,s4,s6,s7,s8,_,_=>⟨[],s2,s4,s6,s7,s8,.refl _,by simp,by simp,by simp[forL]⟩
 | x::l,acc,s2,s4,s6,s7,s8,hx,hl=>by
  obtain⟨m,hm,e1_⟩:=drawn_eq n (10+x.1) (by have:=hx x y0e;omega)
  obtain⟨q,hq,e2_⟩:=divQ m 4
  obtain⟨r,_,_,_,e3_⟩:=modQ q 3
  obtain⟨q1,hq1,e5_⟩:=divQ q 256
  obtain⟨r1,hr1,h0,h1,e6_⟩:=modQ q1 3
  obtain⟨q2,hq2,e7_⟩:=divQ q 1024
  obtain⟨r2,_,h2,h3,e8_⟩:=modQ q2 5
  obtain⟨s,hs,e9_⟩:=ixS whos h0 h1
  obtain⟨u,hu,e10_⟩:=ixI [0,0,1,2,9] h2 h3
  simp only[whos,y0d,y19] at e9_ e10_
  simp only[y0w] at hl
  have b1:acc.length+1<=big:=by unfold big;omega
  have hx':∀y∈l,0<=y.1/\y.1<100:=fun y hy=>hx y (y05 _ hy)
  obtain⟨rs,hrs,e11_⟩:=zkl q [some (.imm (.int n)),s1,some (.imm (.int x.1)),s3,some (.imm (.int q)),some (.imm (.tuple (acc.map z1x))),some (.imm (.str x.2)),s7,s8,none] rfl
  by_cases hc:0<r\/x.1=1
  ·obtain⟨ks,s2',s4',s6',s7',s8',i1,i2,i3,i4⟩:=z7u n s1 s3 l (acc++[(⟨x.2,s,rs,u⟩:Cd)]) (some (.imm (.int x.1))) (some (.imm (.int q))) (some (.imm (.str x.2))) (some (.imm (.tuple (rs.map .str)))) (some (.imm (.str s))) hx' (by simp;omega)
   refine⟨⟨x.2,s,rs,u⟩::ks,s2',s4',s6',s7',s8',by simpa using i1,fun z hz=>?_,fun _=>by simp,?_⟩
   ·rcases y09.mp hz with rfl|hz
    ·exact⟨hs,hrs,hu⟩
    ·exact i2 z hz
   ·rw[y0d,forL]
    have:bC [some (.imm (.int n)),s1,some (.imm (.int x.1)),s3,s4,some (.imm (.tuple (acc.map z1x))),some (.imm (.str x.2)),s7,s8,none]=some (.nx [some (.imm (.int n)),s1,some (.imm (.int x.1)),s3,some (.imm (.int q)),some (.imm (.tuple ((acc++[(⟨x.2,s,rs,u⟩:Cd)]).map z1x))),some (.imm (.str x.2)),some (.imm (.tuple (rs.map .str))),some (.imm (.str s)),none]):=by
     have s1':asg 4 (op2 oDiv (opN z0i [(nmV 0),(op2 oAdd (cst (.int 10)) (nm 2))]) (cst (.int 4))) [some (.imm (.int n)),s1,some (.imm (.int x.1)),s3,s4,some (.imm (.tuple (acc.map z1x))),some (.imm (.str x.2)),s7,s8,none]=some (.nx [some (.imm (.int n)),s1,some (.imm (.int x.1)),s3,some (.imm (.int q)),some (.imm (.tuple (acc.map z1x))),some (.imm (.str x.2)),s7,s8,none]):=by
      simp! [sp9,z2g,e1_,e2_]
     have s2':asg 7 (opN z1u [(comp 1 [4] (z26 (cst (.int 3))) (gNm 0) cR eR)]) [some (.imm (.int n)),s1,some (.imm (.int x.1)),s3,some (.imm (.int q)),some (.imm (.tuple (acc.map z1x))),some (.imm (.str x.2)),s7,s8,none]=some (.nx [some (.imm (.int n)),s1,some (.imm (.int x.1)),s3,some (.imm (.int q)),some (.imm (.tuple (acc.map z1x))),some (.imm (.str x.2)),some (.imm (.tuple (rs.map .str))),s8,none]):=by
      simp only[asg,opN,args,e11_,y0p,y1q,z1u]
      rfl
     unfold bC
     rw[seq_nx s1']
     have ct:orT (tstB (op2 oGt (op2 oMod (nm 4) (cst (.int 3))) (cst (.int 0)))) (tstB (op2 oEq (nm 2) (cst (.int 1)))) [some (.imm (.int n)),s1,some (.imm (.int x.1)),s3,some (.imm (.int q)),some (.imm (.tuple (acc.map z1x))),some (.imm (.str x.2)),s7,s8,none]=some true:=by
      by_cases hc':0<r
      ·simp! [sp9,e3_,oGt,hc']
      ·have e12_:oEq (.int x.1) (.int 1)=some (.bool true):=by rw[oEq_int,decide_eq_true (hc.resolve_left hc')]
       simp! [sp9,e3_,oGt,hc',e12_]
     simp only[iff,ct,y0p,if_true]
     rw[seq_nx s2']
     simp! [sp9,e3_,e5_,e6_,e7_,e8_,e9_,e10_,oAdd,b1,zgf,z7r,z38,one_le,z1x]
    simp only[encK,gTu,gAll,gNm,y0p,y1k,y1i,this]
    simpa using i4
  ·obtain⟨ks,s2',s4',s6',s7',s8',i1,i2,i3,i4⟩:=z7u n s1 s3 l acc (some (.imm (.int x.1))) (some (.imm (.int q))) (some (.imm (.str x.2))) s7 s8 hx' (by omega)
   refine⟨ks,s2',s4',s6',s7',s8',i1.cons _,i2,fun⟨y,hy,e⟩=>i3 ?_,?_⟩
   ·rcases y09.mp hy with rfl|hy
    ·exact absurd (.inr e) hc
    ·exact⟨y,hy,e⟩
   ·rw[y0d,forL]
    have:bC [some (.imm (.int n)),s1,some (.imm (.int x.1)),s3,s4,some (.imm (.tuple (acc.map z1x))),some (.imm (.str x.2)),s7,s8,none]=some (.nx [some (.imm (.int n)),s1,some (.imm (.int x.1)),s3,some (.imm (.int q)),some (.imm (.tuple (acc.map z1x))),some (.imm (.str x.2)),s7,s8,none]):=by
     have h1':¬0<r:=fun z=>hc (.inl z)
     have e12_:oEq (.int x.1) (.int 1)=some (.bool false):=by rw[oEq_int,decide_eq_false fun z=>hc (.inr z)]
     simp! [sp9,bC,e1_,e2_,e3_,z2g,oGt,h1',e12_]
    simp only[encK,gTu,gAll,gNm,y0p,y1k,y1i,this]
    exact i4
def zN:List (Int×Str):=[(0,"a"),(1,"b"),(2,"back"),(3,"d"),(4,"hall"),(5,"r"),(6,"win"),(7,"z")]
def cN:List (Int×Str):=[(0,"0000"),(1,"1234"),(2,"4321"),(3,"7777"),(4,"9990"),(5,"9999")]
structure DP (p:Pl):Prop where
 zs:(p.zones.map (·.1)).Sublist (zN.map (·.2))
 zk:∀z∈p.zones,z.2∈kinds
 z0:p.zones≠[]
 cs:(p.codes.map (·.fig)).Sublist (cN.map (·.2))
 ck:∀k∈p.codes,k.who∈whos/\k.rights.Sublist z0m/\k.uses∈([0,0,1,2,9]:List Int)
 c0:p.codes≠[]
 tl:p.leave∈([0,5,30,60]:List Int)
 tc:p.come∈([0,4,20,60]:List Int)
 to:p.loud∈([1,9,120,300]:List Int)
theorem plan_eq (n:Int):∃p,DP p/\z7a [.int n]=some (encP p):=by
 obtain⟨zs,s2,s3,s4,i1,i2,i3,i4⟩:=z8n n zN [] none none none (by decide) (by decide)
 have hz0:zs≠[]:=i3 (by
  have h1:0<=n / 8 % 8:=y2f _ (by decide)
  have h2:n / 8 % 8<8:=y2g _ (by decide)
  generalize n / 8 % 8=r at h1 h2
  have:r=0\/r=1\/r=2\/r=3\/r=4\/r=5\/r=6\/r=7:=by omega
  rcases this with rfl|rfl|rfl|rfl|rfl|rfl|rfl|rfl
  ·exact⟨(0,"a"),by simp[zN],rfl⟩
  ·exact⟨(1,"b"),by simp[zN],rfl⟩
  ·exact⟨(2,"back"),by simp[zN],rfl⟩
  ·exact⟨(3,"d"),by simp[zN],rfl⟩
  ·exact⟨(4,"hall"),by simp[zN],rfl⟩
  ·exact⟨(5,"r"),by simp[zN],rfl⟩
  ·exact⟨(6,"win"),by simp[zN],rfl⟩
  ·exact⟨(7,"z"),by simp[zN],rfl⟩)
 obtain⟨ks,t2,t4,t6,t7,t8,j1,j2,j3,j4⟩:=z7u n (some (.imm (.tuple (zs.map encZ)))) s3 cN [] s2 s4 none none none (by decide) (by decide)
 have hk0:ks≠[]:=j3 ⟨(1,"1234"),by simp[cN],rfl⟩
 obtain⟨m,hm,e1_⟩:=drawn_eq n 20 (by decide)
 obtain⟨q,hq,e2_⟩:=divQ m 4
 obtain⟨r,_,a0,a1,e3_⟩:=modQ q 4
 obtain⟨q1,hq1,e4_⟩:=divQ q 4
 obtain⟨r1,_,b0,b1,e5_⟩:=modQ q1 4
 obtain⟨q2,hq2,e6_⟩:=divQ q 16
 obtain⟨r2,_,c0,c1,e7_⟩:=modQ q2 4
 obtain⟨u,hu,e8_⟩:=ixI [0,5,30,60] a0 a1
 obtain⟨v,hv,e9_⟩:=ixI [0,4,20,60] b0 b1
 obtain⟨w,hw,e10_⟩:=ixI [1,9,120,300] c0 c1
 simp only[y0d,y19] at e8_ e9_ e10_
 refine⟨⟨zs,ks,u,v,w⟩,⟨i1,i2,hz0,j1,j2,hk0,hu,hv,hw⟩,?_⟩
 have f1:for_ (z4x (z8e (z01 [(cst (.str "a")),(cst (.str "b")),(cst (.str "back")),(cst (.str "d")),(cst (.str "hall")),(cst (.str "r")),(cst (.str "win")),(cst (.str "z"))]))) (gTu [(gNm 2),(gNm 3)]) bZ [some (.imm (.int n)),some (.imm (.tuple [])),none,none,none,none,none,none,none,none]=some (.nx [some (.imm (.int n)),some (.imm (.tuple (zs.map encZ))),s2,s3,s4,none,none,none,none,none]):=by
  have:(z4x (z8e (z01 [(cst (.str "a")),(cst (.str "b")),(cst (.str "back")),(cst (.str "d")),(cst (.str "hall")),(cst (.str "r")),(cst (.str "win")),(cst (.str "z"))]))) [some (.imm (.int n)),some (.imm (.tuple [])),none,none,none,none,none,none,none,none]=some (zN.map encK):=by
   simp[z4x,z8e,z01,args,cst,zpk,enum,zN,encK,List.zipIdx]
  unfold for_
  rw[this]
  exact i4
 have f2:for_ (z4x (z8e (z01 [(cst (.str "0000")),(cst (.str "1234")),(cst (.str "4321")),(cst (.str "7777")),(cst (.str "9990")),(cst (.str "9999"))]))) (gTu [(gNm 2),(gNm 6)]) bC [some (.imm (.int n)),some (.imm (.tuple (zs.map encZ))),s2,s3,s4,some (.imm (.tuple [])),none,none,none,none]=some (.nx [some (.imm (.int n)),some (.imm (.tuple (zs.map encZ))),t2,s3,t4,some (.imm (.tuple (ks.map z1x))),t6,t7,t8,none]):=by
  have:(z4x (z8e (z01 [(cst (.str "0000")),(cst (.str "1234")),(cst (.str "4321")),(cst (.str "7777")),(cst (.str "9990")),(cst (.str "9999"))]))) [some (.imm (.int n)),some (.imm (.tuple (zs.map encZ))),s2,s3,s4,some (.imm (.tuple [])),none,none,none,none]=some (cN.map encK):=by
   simp[z4x,z8e,z01,args,cst,zkd,enum,cN,encK,List.zipIdx]
  unfold for_
  rw[this]
  exact j4
 show runF (seq (asg 1 (z01 [])) (seq (for_ (z4x (z8e (z01 [(cst (.str "a")),(cst (.str "b")),(cst (.str "back")),(cst (.str "d")),(cst (.str "hall")),(cst (.str "r")),(cst (.str "win")),(cst (.str "z"))]))) (gTu [(gNm 2),(gNm 3)]) bZ)
  (seq (asg 5 (z01 [])) (seq (for_ (z4x (z8e (z01 [(cst (.str "0000")),(cst (.str "1234")),(cst (.str "4321")),(cst (.str "7777")),(cst (.str "9990")),(cst (.str "9999"))]))) (gTu [(gNm 2),(gNm 6)]) bC) _)))) 10 [.int n]=_
 unfold runF
 have g0:seq (asg 1 (z01 []))=fun b=>seq (asg 1 (z01 [])) b:=rfl
 have h1:asg 1 (z01 []) [some (.imm (.int n)),none,none,none,none,none,none,none,none,none]=some (.nx [some (.imm (.int n)),some (.imm (.tuple [])),none,none,none,none,none,none,none,none]):=by simp[asg,z01,args]
 have h5:asg 5 (z01 []) [some (.imm (.int n)),some (.imm (.tuple (zs.map encZ))),s2,s3,s4,none,none,none,none,none]=some (.nx [some (.imm (.int n)),some (.imm (.tuple (zs.map encZ))),s2,s3,s4,some (.imm (.tuple [])),none,none,none,none]):=by simp[asg,z01,args]
 show (seq _ _ [some (.imm (.int n)),none,none,none,none,none,none,none,none,none]).bind _=_
 rw[seq_nx h1,seq_nx f1,seq_nx h5,seq_nx f2]
 simp! [sp9,e1_,e2_,e3_,e4_,e5_,e6_,e7_,e8_,e9_,e10_,z7r,z38,encP]
theorem DP.zl {p:Pl} (h:DP p):p.zones.length<=8:=by simpa [zN] using h.zs.length_le
theorem DP.cl {p:Pl} (h:DP p):p.codes.length<=6:=by simpa [cN] using h.cs.length_le
theorem z4m {l:List Str} (h:l.all (fun x=>(y1v x).canLay0)=true:=by decide +kernel) {x:Str} (hx:x∈l):okS x:=List.all_eq_true.mp h x hx
theorem DP.wp {p:Pl} (h:DP p):Wp p:=by
 refine⟨?_,?_,?_,?_⟩
 ·exact h.cs.nodup (by decide +kernel)
 ·exact h.zs.nodup (by decide +kernel)
 ·have:=h.cl
  omega
 ·have h1:=h.tl
  have h2:=h.tc
  have h3:=h.to
  simp at h1 h2 h3
  omega
theorem DP.okz {p:Pl} (h:DP p):∀z∈p.zones,okS z.1/\okS z.2:=fun z hz=>⟨z4m (l:=zN.map (·.2)) (hx:=h.zs.subset (y0m.mpr ⟨z,hz,rfl⟩)),z4m (l:=kinds) (hx:=h.zk z hz)⟩
theorem DP.okc {p:Pl} (h:DP p):∀k∈p.codes,okS k.fig/\okS k.who/\∀r∈k.rights,okS r:=fun k hk=>⟨z4m (l:=cN.map (·.2)) (hx:=h.cs.subset (y0m.mpr ⟨k,hk,rfl⟩)),z4m (l:=whos) (hx:=(h.ck k hk).1),fun r hr=>z4m (l:=z0m) (hx:=(h.ck k hk).2.1.subset hr)⟩
end Co
end
section
namespace Co
open D PySem
theorem ix_z (p:Pl):oIx (encP p) (.int 0)=some (.tuple (p.zones.map encZ)):=by simp[oIx,atZ,ixOf,encP]
theorem ix_c (p:Pl):oIx (encP p) (.int 1)=some (.tuple (p.codes.map z1x)):=by simp[oIx,atZ,ixOf,encP]
theorem zp4 (z:Str×Str):oIx (encZ z) (.int 0)=some (.str z.1):=by simp[oIx,atZ,ixOf,encZ]
theorem zw9 (k:Cd):oIx (z1x k) (.int 0)=some (.str k.fig):=by simp[oIx,atZ,ixOf,z1x]
theorem modL (m:Int) {l:List T} (h:l≠[]):∃q:Int,0<=q/\q<l.length/\oMod (.int m) (.int l.length)=some (.int q):=by
 have hl:0<(l.length:Int):=by
  have:=List.length_pos_iff.mpr h
  omega
 obtain⟨q,_,h1,h2,e⟩:=modQ m l.length hl
 exact⟨q,h1,h2,e⟩
def zj7:List Str:=["0000","1234","4321","7777","9990","9999","0001","1111","5555"]
noncomputable def DE (p:Pl):Et->Prop
 | .line z w=>z∈p.zones.map (·.1)/\w∈(["shut","open","open","cut"]:List Str)
 | .code f d z=>f∈zj7/\(((d="set"\/d="unset")/\z=none)\/((d="shunt"\/d="free")/\∃x,z=some x/\x∈p.zones.map (·.1)))
 | .ticks n=>1<=n/\n<=1000000000
theorem event_eq {p:Pl} (h:DP p) (n:Int):∃e,DE p e/\z9q [encP p,.int n]=some (encE e):=by
 obtain⟨q1,_,e1_⟩:=divQ n 8
 obtain⟨i,i0,i1,e2_⟩:=modL (l:=p.zones.map encZ) q1 (by simpa using h.z0)
 obtain⟨t,ht,e3_⟩:=ixT i0 i1
 obtain⟨z,hz,rfl⟩:=y0m.mp ht
 have hz1:z.1∈p.zones.map (·.1):=y0m.mpr ⟨z,hz,rfl⟩
 obtain⟨k,_,_,_,e4_⟩:=modQ n 10
 obtain⟨q2,_,e5_⟩:=divQ n 512
 obtain⟨r2,_,j0,j1,e6_⟩:=modQ q2 4
 obtain⟨w,hw,e7_⟩:=ixS ["shut","open","open","cut"] j0 j1
 obtain⟨f',hf',e8_⟩:=ixS ["0001","1111","9999","0000"] j0 j1
 obtain⟨q3,_,e9_⟩:=divQ n 64
 obtain⟨q4,_,e10_⟩:=divQ n 4096
 obtain⟨r4,_,k0,k1,e11_⟩:=modQ q4 3
 obtain⟨u,hu,e12_⟩:=ixI [3,40,200] k0 k1
 have hu':0<u/\u<=200:=by
  simp at hu
  omega
 obtain⟨r3,_,l0,l1,e13_⟩:=modQ q3 u hu'.1
 obtain⟨i',i0',i1',e14_⟩:=modL (l:=p.codes.map z1x) q3 (by simpa using h.c0)
 obtain⟨t',ht',e15_⟩:=ixT i0' i1'
 obtain⟨c,hc,rfl⟩:=y0m.mp ht'
 have hcf:c.fig∈zj7:=by
  have:=h.cs.subset (y0m.mpr ⟨c,hc,rfl⟩)
  simp[cN,zj7] at this ⊢
  rcases this with q|q|q|q|q|q <;> simp[q]
 obtain⟨q5,_,e16_⟩:=divQ n 65536
 obtain⟨r5,_,_,_,e17_⟩:=modQ q5 4
 obtain⟨r6,_,m0,m1,e18_⟩:=modQ q4 6
 obtain⟨d,hd,e19_⟩:=ixS ["set","set","unset","shunt","free","shunt"] m0 m1
 simp only[y0d,y19] at e7_ e8_ e12_ e19_
 simp only[y13] at e2_ e14_
 have L1:oLen [.tuple (p.zones.map encZ)]=some (.int p.zones.length):=by simp[oLen]
 have L2:oLen [.tuple (p.codes.map z1x)]=some (.int p.codes.length):=by simp[oLen]
 simp only[z9q,zet,runF,y0d,y19,y0w,y2d,y0g,List.cons_append,List.nil_append]
 by_cases h1:k<5
 ·exact⟨.line z.1 w,⟨hz1,hw⟩,by simp! [sp9,ix_z,zp4,e1_,L1,e2_,e3_,e4_,oLt,h1,e5_,e6_,e7_,z7r,z38,encE]⟩
 ·by_cases h2:k<7
  ·exact⟨.ticks (1+r3),⟨by omega,by omega⟩,by simp! [sp9,ix_z,zp4,e1_,L1,e2_,e3_,e4_,oLt,h1,h2,e9_,e10_,e11_,e12_,e13_,z2g,z38,zck,encE]⟩
  ·have od:okS d:=z4m (l:=["set","set","unset","shunt","free","shunt"]) (hx:=hd)
   have qi:=zor false (n:=d) (ns:=["set","unset"]) od (by
    intro k hk
    exact z4m (l:=["set","unset"]) (hx:=hk))
   simp only[y0d,y19] at qi
   obtain⟨f,hf,ef⟩:∃f∈zj7,(iff (tstB (op2 oEq (op2 oMod (op2 oDiv (nm 1) (cst (.int 65536))) (cst (.int 4))) (cst (.int 0)))) (asg 4 (op2 oIx (z01 [(cst (.str "0001")),(cst (.str "1111")),(cst (.str "9999")),(cst (.str "0000"))]) (op2 oMod (op2 oDiv (nm 1) (cst (.int 512))) (cst (.int 4))))) skip) [some (.imm (encP p)),some (.imm (.int n)),some (.imm (.str z.1)),some (.imm (.int k)),some (.imm (.str c.fig)),none]=some (.nx [some (.imm (encP p)),some (.imm (.int n)),some (.imm (.str z.1)),some (.imm (.int k)),some (.imm (.str f)),none]):=by
    by_cases h3:r5=0
    ·refine⟨f',?_,by simp! [sp9,e16_,e17_,oEq_int,h3,e5_,e6_,e8_,z7r]⟩
     simp[zj7] at hf' ⊢
     rcases hf' with q|q|q|q <;> simp[q]
    ·exact⟨c.fig,hcf,by simp! [sp9,e16_,e17_,oEq_int,h3]⟩
   have sA:∀X:Fs,iff (tstB (op2 oLt (nm 3) (cst (.int 5)))) X skip [some (.imm (encP p)),some (.imm (.int n)),some (.imm (.str z.1)),some (.imm (.int k)),none,none]=some (.nx [some (.imm (encP p)),some (.imm (.int n)),some (.imm (.str z.1)),some (.imm (.int k)),none,none]):=fun X=>by simp! [sp9,oLt,h1]
   have sB:∀X:Fs,iff (tstB (op2 oLt (nm 3) (cst (.int 7)))) X skip [some (.imm (encP p)),some (.imm (.int n)),some (.imm (.str z.1)),some (.imm (.int k)),none,none]=some (.nx [some (.imm (encP p)),some (.imm (.int n)),some (.imm (.str z.1)),some (.imm (.int k)),none,none]):=fun X=>by simp! [sp9,oLt,h2]
   have sC:asg 4 (op2 oIx (op2 oIx (op2 oIx (nm 0) (cst (.int 1))) (op2 oMod (op2 oDiv (nm 1) (cst (.int 64))) (opN oLen [(op2 oIx (nm 0) (cst (.int 1)))]))) (cst (.int 0))) [some (.imm (encP p)),some (.imm (.int n)),some (.imm (.str z.1)),some (.imm (.int k)),none,none]=some (.nx [some (.imm (encP p)),some (.imm (.int n)),some (.imm (.str z.1)),some (.imm (.int k)),some (.imm (.str c.fig)),none]):=by simp! [sp9,ix_c,L2,e9_,e14_,e15_,zw9]
   by_cases h4:d="set"\/d="unset"
   ·refine⟨.code f d none,⟨hf,.inl ⟨h4,rfl⟩⟩,?_⟩
    have qi':oIn false (.str d) (.tuple [.str "set",.str "unset"])=some (.bool true):=by
     rw[qi]
     simp[h4]
    have pre:∀B:Fs,(seq (asg 2 (op2 oIx (op2 oIx (op2 oIx (nm 0) (cst (.int 0))) (op2 oMod (op2 oDiv (nm 1) (cst (.int 8))) (opN oLen [(op2 oIx (nm 0) (cst (.int 0)))]))) (cst (.int 0)))) (seq (asg 3 (op2 oMod (nm 1) (cst (.int 10)))) B)) [some (.imm (encP p)),some (.imm (.int n)),none,none,none,none]=B [some (.imm (encP p)),some (.imm (.int n)),some (.imm (.str z.1)),some (.imm (.int k)),none,none]:=by
     intro B
     simp! [sp9,ix_z,zp4,e1_,L1,e2_,e3_,e4_]
    rw[pre]
    rw[seq_nx (sA _),seq_nx (sB _),seq_nx sC,seq_nx ef]
    simp! [sp9,e10_,e18_,e19_,zkd,zck,qi',z7r,encE,oS]
   ·refine⟨.code f d (some z.1),⟨hf,.inr ⟨?_,z.1,rfl,hz1⟩⟩,?_⟩
    ·simp at hd
     rcases hd with q|q|q|q|q
     ·exact absurd (.inl q) h4
     ·exact absurd (.inr q) h4
     ·exact .inl q
     ·exact .inr q
     ·exact .inl q
    have qi':oIn false (.str d) (.tuple [.str "set",.str "unset"])=some (.bool false):=by
     rw[qi]
     simp at h4
     simp[h4]
    have pre:∀B:Fs,(seq (asg 2 (op2 oIx (op2 oIx (op2 oIx (nm 0) (cst (.int 0))) (op2 oMod (op2 oDiv (nm 1) (cst (.int 8))) (opN oLen [(op2 oIx (nm 0) (cst (.int 0)))]))) (cst (.int 0)))) (seq (asg 3 (op2 oMod (nm 1) (cst (.int 10)))) B)) [some (.imm (encP p)),some (.imm (.int n)),none,none,none,none]=B [some (.imm (encP p)),some (.imm (.int n)),some (.imm (.str z.1)),some (.imm (.int k)),none,none]:=by
     intro B
     simp! [sp9,ix_z,zp4,e1_,L1,e2_,e3_,e4_]
    rw[pre]
    rw[seq_nx (sA _),seq_nx (sB _),seq_nx sC,seq_nx ef]
    simp! [sp9,e10_,e18_,e19_,zkd,zck,qi',z7r,encE,oS]
end Co
end
section
namespace Co
open D PySem
def shW (k:Int) (w:Int×Str×Option Str):Int×Str×Option Str:=(k+w.1,w.2)
def sh (k:Int) (pre:List (Int×Str×Option Str)) (c:Cs):Cs:={ c with past:=k+c.past,told:=pre++c.told.map (shW k) }
section
variable (k:Int) (pre:List (Int×Str×Option Str)) (p:Pl)
end
end Co
end
section
namespace Co
open D PySem
def okN (d:Nat) (t:T):Prop:=t.canLay0=true/\t.depth<=d
theorem okN.okT {d:Nat} {t:T} (h:okN d t) (hd:d<=60:=by decide):okT t=true:=by
 unfold D.okT
 rw[h.1,decide_eq_true (y1o h.2 hd)]
 rfl
theorem zbw {d:Nat}:∀{ts:List T},(∀t∈ts,okN d t)->y1g ts=true/\y1e ts<=d
 | [],_=>by simp[y1g,y1e]
 | t::ts,h=>by
  obtain⟨h1,h2⟩:=zbw fun x hx=>h x (y05 _ hx)
  obtain⟨h3,h4⟩:=h t y0e
  constructor
  ·rw[y1g,h3,h1]
   rfl
  ·rw[y1e]
   omega
theorem zl5 {d:Nat} {ts:List T} (h:∀t∈ts,okN d t):okN (d+1) (.tuple ts):=by
 obtain⟨h1,h2⟩:=zbw h
 constructor
 ·rw[PyData.canLay0];exact h1
 ·rw[y24];omega
theorem zoq {d:Nat} {ts:List T} (h:∀t∈ts,okN d t):okN (d+1) (.list ts):=by
 obtain⟨h1,h2⟩:=zbw h
 constructor
 ·rw[PyData.canLay0];exact h1
 ·rw[y24];omega
theorem oNe_self {d:Nat} {t:T} (h:okN d t) (hd:d<=60:=by decide):oNe t t=some (.bool false):=by
 unfold oNe
 rw[h.okT hd,PySem.SeqAt.eqv_refl t h.1]
 rfl
end Co
end
section
namespace Fo
open D Co PySem
section
variable {f g:Fe} {ft gt:Ft} {ε:Ev} {a b:Bool}
theorem z0c (hf:f ε=some (.bool a)) (hg:a=true->g ε=some (.bool b)):andV f g ε=some (.bool (a && b)):=by
 cases a with
 | true=>simp[andV,hf,hg rfl]
 | false=>simp[andV,hf]
theorem zrw (hf:f ε=some (.bool a)) (hg:a=false->g ε=some (.bool b)):orV f g ε=some (.bool (a || b)):=by
 cases a with
 | false=>simp[orV,hf,hg rfl]
 | true=>simp[orV,hf]
theorem zla (hf:f ε=some (.bool a)):notV f ε=some (.bool !a):=by simp[notV,hf]
theorem z04 (hf:f ε=some (.bool a)):tstB f ε=some a:=by simp[tstB,hf]
theorem z0w (hf:ft ε=some a) (hg:a=false->gt ε=some b):orT ft gt ε=some (a || b):=by
 cases a with
 | false=>simp[orT,hf,hg rfl]
 | true=>simp[orT,hf]
theorem z2k (hf:ft ε=some a) (hg:a=true->gt ε=some b):andT ft gt ε=some (a && b):=by
 cases a with
 | true=>simp[andT,hf,hg rfl]
 | false=>simp[andT,hf]
theorem z09 (hf:ft ε=some a):notT ft ε=some !a:=by simp[notT,hf]
theorem opN1 {d:List T->Option T} {t:T} (h:f ε=some t):opN d [f] ε=d [t]:=by simp[opN,args,h]
theorem opN2 {d:List T->Option T} {t u:T} (h:f ε=some t) (h2:g ε=some u):opN d [f,g] ε=d [t,u]:=by simp[opN,args,h,h2]
theorem z07 {o:T->T->Option T} {t u:T} (h:f ε=some t) (h2:g ε=some u):op2 o f g ε=o t u:=by simp[op2,h,h2]
theorem z0y {o:T->Option T} {t:T} (h:f ε=some t):op1 o f ε=o t:=by simp[op1,h]
theorem z58 {n:Nat} {as:List T} {r:Option T} (h:f ((as.map fun t=>some (.imm t))++y0g (n - as.length) none)=r):runF (rtn f) n as=r:=by
 unfold runF rtn
 rw[h]
 cases r <;> rfl
theorem z0u {ft:Ft} {s1 s2:Fs} (h:ft ε=some a):seq (iff ft s1 skip) s2 ε=if a=true then seq s1 s2 ε else s2 ε:=by
 cases a with
 | true =>
  show (iff ft s1 skip ε).bind _=_
  rw[show iff ft s1 skip ε=s1 ε by simp[iff,h]]
  rfl
 | false=>simp[seq,iff,h,skip]
theorem z11 {f:Fe} {s2:Fs} {t:T} (h:f ε=some t):seq (rtn f) s2 ε=some (.rt t):=by simp[seq,rtn,h]
end
theorem zvb {r:Ev} {e:Fe} {f:T->T}:∀(ts:List T) (s0:Option Sl),(∀t∈ts,e (some (.imm t)::r)=some (f t))->z2c (gNm 0) (cstT true) e ts (s0::r)=some (ts.map f)
 | [],_,_=>rfl
 | t::ts,s0,h=>by
  have h1:=h t (by simp)
  have h2:=zvb (f:=f) ts (some (.imm t)) fun u hu=>h u (y05 _ hu)
  simp[z2c,gNm,cstT,h1,h2]
theorem zqq {r:Ev} {c:Ft} {e:Fe} {p:T->Bool} {f:T->T}:∀(ts:List T) (s0:Option Sl),(∀t∈ts,c (some (.imm t)::r)=some (p t))->(∀t∈ts,p t=true->e (some (.imm t)::r)=some (f t))->z2c (gNm 0) c e ts (s0::r)=some ((ts.filter p).map f)
 | [],_,_,_=>rfl
 | t::ts,s0,hc,h=>by
  have h0:=hc t (by simp)
  have h2:=zqq (p:=p) (f:=f) ts (some (.imm t)) (fun u hu=>hc u (y05 _ hu)) fun u hu=>h u (y05 _ hu)
  cases hp:p t with
  | true =>
   have h1:=h t (by simp) hp
   rw[hp] at h0
   simp[z2c,gNm,h0,h1,h2,hp]
  | false =>
   rw[hp] at h0
   simp[z2c,gNm,h0,h2,hp]
theorem zeg {it:Fi} {caps:List Nat} {e:Fe} {f:T->T} {ε:Ev} {ts:List T} (hi:it ε=some ts) (hl:ts.length<=big) (h:∀t∈ts,e (some (.imm t)::caps.map fun i=>(ε[i]?).join)=some (f t)):comp 1 caps it (gNm 0) (cstT true) e ε=some (.list (ts.map f)):=by
 simp only[comp,hi,y0p,if_pos hl]
 rw[show z1f 1 caps ε=none::caps.map fun i=>(ε[i]?).join from rfl,zvb (f:=f) ts none h]
 rfl
theorem zqp {it:Fi} {caps:List Nat} {c:Ft} {e:Fe} {p:T->Bool} {f:T->T} {ε:Ev} {ts:List T} (hi:it ε=some ts) (hl:ts.length<=big) (hc:∀t∈ts,c (some (.imm t)::caps.map fun i=>(ε[i]?).join)=some (p t)) (h:∀t∈ts,p t=true->e (some (.imm t)::caps.map fun i=>(ε[i]?).join)=some (f t)):comp 1 caps it (gNm 0) c e ε=some (.list ((ts.filter p).map f)):=by
 simp only[comp,hi,y0p,if_pos hl]
 rw[show z1f 1 caps ε=none::caps.map fun i=>(ε[i]?).join from rfl,zqq (p:=p) (f:=f) ts none hc h]
 rfl
theorem za1 {α:Type} (f:α->Bool):∀l:List α,bools (l.map fun x=>.bool (f x))=some (l.map f)
 | []=>rfl
 | x::l=>by simp[bools,za1 f l]
theorem znd {it:Fi} {caps:List Nat} {e:Fe} {f:T->Bool} {ε:Ev} {ts:List T} (hi:it ε=some ts) (hl:ts.length<=big) (h:∀t∈ts,e (some (.imm t)::caps.map fun i=>(ε[i]?).join)=some (.bool (f t))):opN z6j [comp 1 caps it (gNm 0) (cstT true) e] ε=some (.bool (ts.all f)):=by
 rw[opN1 (zeg (f:=fun t=>.bool (f t)) hi hl h)]
 simp only[z6j,za1,y1q]
 simp[List.all_map]
mutual
noncomputable def gd:T->Bool
 | .str x=>zbg x && decide (x.length<=1000000)
 | .tuple ts=>gdL ts
 | .list ts=>gdL ts
 | .dict _=>false
 | _=>true
noncomputable def gdL:List T->Bool
 | []=>true
 | t::ts=>gd t && gdL ts
end
theorem zc6:∀{ts:List T},gdL ts=true <-> ∀t∈ts,gd t=true
 | []=>by simp[gdL]
 | t::ts=>by
  rw[gdL,y1b,zc6 (ts:=ts)]
  simp
mutual
theorem zei:∀{t:T},gd t=true->t.canLay0=true
 | .str x,h=>by
  rw[gd,y1b] at h
  rw[PyData.canLay0]
  exact z6y ((z3d x).mp h.1)
 | .tuple ts,h=>by
  rw[gd] at h
  rw[PyData.canLay0]
  exact z7w h
 | .list ts,h=>by
  rw[gd] at h
  rw[PyData.canLay0]
  exact z7w h
 | .dict _,h=>by simp[gd] at h
 | .none,_=>rfl
 | .int _,_=>rfl
 | .bool _,_=>rfl
theorem z7w:∀{ts:List T},gdL ts=true->y1g ts=true
 | [],_=>rfl
 | t::ts,h=>by
  rw[gdL,y1b] at h
  rw[y1g,zei h.1,z7w h.2]
  rfl
end
structure Gd (d:Nat) (t:T):Prop where
 g:gd t=true
 d:t.depth<=d
theorem Gd.okN {d:Nat} {t:T} (h:Gd d t):Co.okN d t:=⟨zei h.g,h.d⟩
theorem Gd.okT {d:Nat} {t:T} (h:Gd d t) (hd:d<=60:=by decide):okT t=true:=h.okN.okT hd
theorem Gd.le {d e:Nat} {t:T} (h:Gd d t) (hd:d<=e):Gd e t:=⟨h.g,y1o h.d hd⟩
theorem zee:∀{ts:List T} {t:T},t∈ts->t.depth<=y1e ts
 | u::ts,t,h=>by
  rw[y1e]
  rcases y09.mp h with rfl|h
  ·omega
  ·have:=zee h
   omega
theorem Gd.tup {d:Nat} {ts:List T} (h:Gd (d+1) (.tuple ts)):∀t∈ts,Gd d t:=fun t ht=>by
 have h1:=h.g
 have h2:=h.d
 rw[gd] at h1
 rw[y24] at h2
 have:=zee ht
 exact⟨zc6.mp h1 t ht,by omega⟩
theorem Gd.mk_tup {d:Nat} {ts:List T} (h:∀t∈ts,Gd d t):Gd (d+1) (.tuple ts) :=
 ⟨by rw[gd];exact zc6.mpr fun t ht=>(h t ht).g,(zl5 fun t ht=>(h t ht).okN).2⟩
theorem Gd.mk_lst {d:Nat} {ts:List T} (h:∀t∈ts,Gd d t):Gd (d+1) (.list ts) :=
 ⟨by rw[gd];exact zc6.mpr fun t ht=>(h t ht).g,(zoq fun t ht=>(h t ht).okN).2⟩
theorem z5j {d:Nat} {x:Str} (h:asc (ls x)) (hl:x.length<=1000000):Gd d (.str x):=⟨by rw[gd,y1b];exact⟨(z3d x).mpr h,decide_eq_true hl⟩,by rw[y24];omega⟩
theorem z9n {d:Nat} {i:Int}:Gd d (.int i):=⟨rfl,by rw[y24];omega⟩
theorem zqo {d:Nat}:Gd d .none:=⟨rfl,by rw[y24];omega⟩
theorem zc5 {d:Nat} {b:Bool}:Gd d (.bool b):=⟨rfl,by rw[y24];omega⟩
def z68:T->Bool
 | .int _=>true
 | _=>false
def z0b (t:T) (lo hi:Int):Bool:=match t with
 | .int i=>decide (lo<=i) && decide (i<=hi)
 | _=>false
def tupB (t:T) (lo hi:Int):Bool:=match t with
 | .tuple ts=>decide (lo<=ts.length) && decide ((ts.length:Int)<=hi)
 | _=>false
theorem z4c (ct:String) {t:T} (h:gd t=true):oIsI ct t=some (.bool (isI ct t)):=by
 cases t <;> first|rfl|simp[gd] at h
theorem zh1 {t:T} (h:gd t=true):z4d [t]=some (.bool (z68 t)):=by
 refine z58 ?_
 have e1:=z4c "int" h
 have e2:=z4c "bool" h
 refine (z0c (a:=isI "int" t) (b:=!isI "bool" t) (by rw[z0y (t:=t) rfl];exact e1) fun _=>zla (by rw[z0y (t:=t) rfl];exact e2)).trans ?_
 cases t <;> first|rfl|simp[gd] at h
theorem z61 {f g h:Fe} {ε:Ev} {i j k:Int} (hf:f ε=some (.int i)) (hg:g ε=some (.int j)) (hh:h ε=some (.int k)):chain oLe oLe f g h ε=some (.bool (decide (i<=j) && decide (j<=k))):=by
 simp only[chain,hf,hg,hh,oLe,y0p]
 cases decide (i<=j) <;> rfl
theorem z6t {t:T} {lo hi:Int} (h:gd t=true):z0t [t,.int lo,.int hi]=some (.bool (z0b t lo hi)):=by
 refine z58 ?_
 have hb:z68 t=true->chain oLe oLe (nm 1) (nm 0) (nm 2) [some (.imm t),some (.imm (.int lo)),some (.imm (.int hi))]=some (.bool (z0b t lo hi)):=by
  intro hw
  cases t with
  | int i=>exact z61 rfl rfl rfl
  | _=>simp[z68] at hw
 refine (z0c (a:=z68 t) (b:=z0b t lo hi) (by rw[opN1 (t:=t) rfl];exact zh1 h) hb).trans ?_
 cases t <;> rfl
theorem z1m {t:T} {lo hi:Int} (h:gd t=true):z06 [t,.int lo,.int hi]=some (.bool (tupB t lo hi)):=by
 refine z58 ?_
 have hb:isI "tuple" t=true->chain oLe oLe (nm 1) (opN oLen [(nm 0)]) (nm 2) [some (.imm t),some (.imm (.int lo)),some (.imm (.int hi))]=some (.bool (tupB t lo hi)):=by
  intro hw
  cases t with
  | tuple ts=>exact z61 rfl (by rw[opN1 (t:=.tuple ts) rfl];rfl) rfl
  | _=>simp[isI] at hw
 refine (z0c (a:=isI "tuple" t) (b:=tupB t lo hi) (by rw[z0y (t:=t) rfl];exact z4c _ h) hb).trans ?_
 cases t <;> rfl
noncomputable def z7k (t:T) (lo hi:Int) (a b:Nat):Bool:=match t with
 | .str x=>decide (lo<=x.length) && decide ((x.length:Int)<=hi) && (ls x).all fun c=>decide (a<=c) && decide (c<=b)
 | _=>false
theorem znw (a b:Nat):strLt ⟨#[a]⟩ ⟨#[b]⟩=decide (a<b):=by
 simp[strLt,List.cons_lt_cons_iff]
theorem zhw {f g h:Fe} {ε:Ev} {i j k:Nat} (hf:f ε=some (chT i)) (hg:g ε=some (chT j)) (hh:h ε=some (chT k)):chain oLe oLe f g h ε=some (.bool (decide (i<=j) && decide (j<=k))):=by
 simp only[chain,hf,hg,hh,oLe,chT,y0p,znw]
 have e1:(!decide (j<i))=decide (i<=j):=by
  by_cases q:i<=j
  ·simp[q]
  ·simp[q];omega
 have e2:(!decide (k<j))=decide (j<=k):=by
  by_cases q:j<=k
  ·simp[q]
  ·simp[q];omega
 rw[e1,e2]
 cases decide (i<=j) <;> rfl
theorem zf5 {t:T} {lo hi:Int} {a b:Nat} (h:gd t=true):z1y [t,.int lo,.int hi,chT a,chT b]=some (.bool (z7k t lo hi a b)):=by
 unfold z1y runF zev
 show (seq _ _ [some (.imm t),some (.imm (.int lo)),some (.imm (.int hi)),some (.imm (chT a)),some (.imm (chT b))]).bind _=_
 generalize hε:[some (Sl.imm t),some (.imm (.int lo)),some (.imm (.int hi)),some (.imm (chT a)),some (.imm (chT b))]=ε
 have h0:nm 0 ε=some t:=by subst hε;rfl
 have h1:nm 1 ε=some (.int lo):=by subst hε;rfl
 have h2:nm 2 ε=some (.int hi):=by subst hε;rfl
 cases t with
 | str x =>
  rw[gd,y1b] at h
  have hx:=of_decide_eq_true h.2
  have hle:chain oLe oLe (nm 1) (opN oLen [(nm 0)]) (nm 2) ε=some (.bool (decide (lo<=x.length) && decide ((x.length:Int)<=hi))):=z61 h1 (by rw[opN1 h0];simp only[oLen];rw[if_pos (by unfold big;omega)]) h2
  rw[z0u (a:=!(decide (lo<=x.length) && decide ((x.length:Int)<=hi)))]
  ·cases hq:(decide (lo<=x.length) && decide ((x.length:Int)<=hi)) with
   | false =>
    simp only[Bool.not_false,if_true]
    rw[z11 (t:=.bool false) rfl]
    simp only[y0p]
    simp only[z7k,hq,Bool.false_and]
   | true =>
    simp only[Bool.not_true,y1t,if_false,rtn]
    have:=znd (it:=itA (nmV 0)) (caps:=[3,4]) (e:=chain oLe oLe (nm 1) (nm 0) (nm 2)) (f:=fun t=>match t with|.str y=>decide (a<=y.cps.getD 0 0) && decide (y.cps.getD 0 0<=b)|_=>false) (ε:=ε) (ts:=(ls x).map chT) (by subst hε;simp[itA,nmV,h.1,ls]) (by rw[y13,<- z1r];unfold big;omega) (by
     intro t ht
     obtain⟨c,hc,rfl⟩:=y0m.mp ht
     subst hε
     exact zhw rfl rfl rfl)
    rw[this]
    simp only[y1q,y0p,z7k,hq,Bool.true_and,List.all_map]
    rfl
  ·have e:orT (notT (tstB (op1 (oIsI "str") (nm 0)))) (notT (tstB (chain oLe oLe (nm 1) (opN oLen [(nm 0)]) (nm 2)))) ε=some (false || !(decide (lo<=x.length) && decide ((x.length:Int)<=hi))) :=
    z0w (a:=false) (z09 (a:=true) (z04 (by rw[z0y h0];rfl))) fun _=>z09 (z04 hle)
   rw[e]
   rfl
 | dict d=>simp[gd] at h
 | _ =>
  rw[z0u (a:=true) (by
   refine z0w (a:=true) (b:=false) (z09 (a:=false) (z04 (by rw[z0y h0];rfl))) fun z=>by cases z)]
  rfl
def z1v (t:T):Bool:=z7k t 1 4 97 122
def figB (t:T):Bool:=z7k t 4 4 48 57
theorem zfs {t:T} (h:gd t=true):z4e [t]=some (.bool (z1v t)):=by
 refine z58 ?_
 show opN z1y [_,_,_,_,_] _=_
 simp only[opN,args,nmV,cst,y0p,y1q,y0d,y19,List.cons_append,y2a]
 exact zf5 (a:=97) (b:=122) h
theorem zb9 {t:T} (h:gd t=true):z45 [t]=some (.bool (figB t)):=by
 refine z58 ?_
 show opN z1y [_,_,_,_,_] _=_
 simp only[opN,args,nmV,cst,y0p,y1q,y0d,y19,List.cons_append,y2a]
 exact zf5 (a:=48) (b:=57) h
end Fo
end
section
namespace Fo
open D Co PySem
def z1a:List Str->Bool
 | x::y::r=>strLt x y && z1a (y::r)
 | _=>true
theorem zva {r:Ev} {e:Fe} {f:T->T->T}:∀(ps:List (T×T)) (s0 s1:Option Sl),(∀p∈ps,e (some (.imm p.1)::some (.imm p.2)::r)=some (f p.1 p.2))->z2c (gTu [gNm 0,gNm 1]) (cstT true) e (ps.map fun p=>.tuple [p.1,p.2]) (s0::s1::r)=some (ps.map fun p=>f p.1 p.2)
 | [],_,_,_=>rfl
 | p::ps,s0,s1,h=>by
  have h1:=h p (by simp)
  have h2:=zva (f:=f) ps (some (.imm p.1)) (some (.imm p.2)) fun u hu=>h u (y05 _ hu)
  simp[z2c,gTu,gAll,gNm,cstT,h1,h2]
theorem zip_map (a b:List T):List.zipWith (fun x y=>PyData.tuple [x,y]) a b=(a.zip b).map fun p=>.tuple [p.1,p.2]:=by
 rw[List.zip,List.map_zipWith]
theorem zd5:∀ss:List Str,(List.zipWith strLt ss ss.tail).all id=z1a ss
 | []=>rfl
 | [x]=>rfl
 | x::y::r=>by
  have:=zd5 (y::r)
  simp only[List.tail_cons] at this
  simp only[List.tail_cons,List.zipWith_cons_cons,List.all_cons,z1a,id,this]
theorem cut1 {α:Type} (l:List α):cutZ l (some 1) none=l.tail:=by
 unfold cutZ
 cases l with
 | nil=>rfl
 | cons a r =>
  have e1:D.sIx (a::r).length 0 (some 1)=1:=by simp[D.sIx];omega
  have e2:D.sIx (a::r).length (a::r).length none=(a::r).length:=rfl
  rw[e1,e2]
  simp
def sq:T->Option (List T)
 | .tuple ts=>some ts
 | .list ts=>some ts
 | _=>none
theorem zlx {f:Fe} {ε:Ev} {t:T} (h:f ε=some t):z1e f ε=sq t:=by
 simp only[z1e,h,y0p]
 cases t <;> rfl
theorem zas {ss:List Str} {t u:T} (ht:sq t=some (ss.map .str)) (hu:oSlA t (some 1) none=some u) (hu2:sq u=some (ss.tail.map .str)) (hl:ss.length<=big):z6m [t]=some (.bool (z1a ss)):=by
 refine z58 ?_
 have e1:zp5 (z1e (nmV 0)) (z1e (z0g (nm 0) (opt (cst (.int 1))) optN)) [some (.imm t)]=some (((ss.map y1v).zip (ss.tail.map y1v)).map fun p=>.tuple [p.1,p.2]):=by
  simp only[zp5]
  rw[zlx (t:=t) rfl,zlx (t:=u) (by simp only[z0g,nm,opt,optN,cst,y2a,y0p,hu]),ht,hu2]
  simp only[y0p,y1q,zip_map]
 show opN z6j [_] [some (.imm t)]=_
 have e2:comp 2 [] (zp5 (z1e (nmV 0)) (z1e (z0g (nm 0) (opt (cst (.int 1))) optN))) (gTu [(gNm 0),(gNm 1)]) (cstT true) (op2 oLt (nm 0) (nm 1)) [some (.imm t)]=some (.list ((List.zipWith strLt ss ss.tail).map .bool)):=by
  simp only[comp,e1,y0p]
  rw[if_pos (by simp;omega)]
  rw[show z1f 2 [] [some (.imm t)]=[none,none] from rfl,zva (f:=fun a b=>match a,b with|.str x,.str y=>.bool (strLt x y)|_,_=>.none) _ none none (by
   intro p hp
   obtain⟨h1,h2⟩:=List.of_mem_zip hp
   obtain⟨x,_,ex⟩:=y0m.mp h1
   obtain⟨y,_,ey⟩:=y0m.mp h2
   rw[<- ex,<- ey]
   rfl)]
  simp only[y1q]
  congr 2
  rw[List.zip_map,y2h,List.map_zipWith,List.zip,List.map_zipWith]
  rfl
 rw[opN1 e2]
 have e3:=za1 (fun x:Bool=>x) (List.zipWith strLt ss ss.tail)
 simp only[z6j,e3,y1q,List.map_id']
 rw[zd5]
theorem zid {ss:List Str} (hl:ss.length<=big):z6m [.list (ss.map .str)]=some (.bool (z1a ss)) :=
 zas (u:=.list (ss.tail.map .str)) rfl (by simp only[oSlA,oSl,cut1,List.map_tail]) rfl hl
theorem zkk {ss:List Str} (hl:ss.length<=big):z6m [.tuple (ss.map .str)]=some (.bool (z1a ss)) :=
 zas (u:=.tuple (ss.tail.map .str)) rfl (by simp only[oSlA,oSl,cut1,List.map_tail]) rfl hl
def inB (ss:List Str) (t:T):Bool:=match t with
 | .str x=>decide (x∈ss)
 | _=>false
theorem zmk (s:Str) (t:T):y1z (.str s) t=match t with|.str x=>decide (s=x)|_=>false:=by
 cases t with
 | str x =>
  rw[y1z,Bool.eq_iff_iff]
  simp
 | _=>simp[y1z]
theorem ze8 (ss:List Str) (t:T):hasT t (ss.map .str)=inB ss t:=by
 unfold hasT inB
 rw[List.any_map]
 cases t with
 | str x =>
  simp only[y16,zmk]
  rw[Bool.eq_iff_iff,List.any_eq_true,decide_eq_true_iff]
  constructor
  ·rintro⟨y,hy,e⟩
   rw[<- of_decide_eq_true e]
   exact hy
  ·intro h
   exact⟨x,h,decide_eq_true rfl⟩
 | _=>simp[y16,zmk]
theorem z8j {ss:List Str} (h:∀s∈ss,asc (ls s)):okL (ss.map .str)=true:=by
 unfold okL
 have:=zbw (d:=0) (ts:=ss.map .str) fun t ht=>by
  obtain⟨s,hs,rfl⟩:=y0m.mp ht
  exact⟨by rw[PyData.canLay0];exact z6y (h s hs),by rw[y24];omega⟩
 rw[this.1,Bool.true_and]
 exact decide_eq_true (by omega)
theorem zb6 {ss:List Str} {t:T} {d:Nat} (h:∀s∈ss,asc (ls s)) (ht:Gd d t) (hd:d<=60:=by decide):oIn false t (.tuple (ss.map .str))=some (.bool (inB ss t)):=by
 simp only[oIn,ht.okT hd,z8j h,Bool.and_self,if_true,ze8]
 rfl
theorem zql {ss:List Str} {t:T} {d:Nat} (h:∀s∈ss,asc (ls s)) (ht:Gd d t) (hd:d<=60:=by decide):oIn false t (.list (ss.map .str))=some (.bool (inB ss t)):=by
 simp only[oIn,ht.okT hd,z8j h,Bool.and_self,if_true,ze8]
 rfl
def ascB (ss:List Str):Bool:=ss.all fun s=>(ls s).all fun c=>decide (c<128)
theorem zaa {ss:List Str} (h:ascB ss=true):∀s∈ss,asc (ls s):=fun s hs a ha=>of_decide_eq_true (List.all_eq_true.mp (List.all_eq_true.mp h s hs) a ha)
def z36:List Str:=["day","inner","once","way"]
def zb4:List Str:=["shut","open","cut"]
theorem zad:∀s∈z36,asc (ls s):=zaa (by decide +kernel)
theorem z8l:∀s∈z0m,asc (ls s):=zaa (by decide +kernel)
theorem zng:∀s∈zb4,asc (ls s):=zaa (by decide +kernel)
theorem a_da:∀s∈(["set","unset"]:List Str),asc (ls s):=zaa (by decide +kernel)
theorem a_dz:∀s∈(["shunt","free"]:List Str),asc (ls s):=zaa (by decide +kernel)
theorem ix_0 {a:T} {r:List T}:oIx (.tuple (a::r)) (.int 0)=some a:=by
 simp only[oIx,atZ,ixOf]
 rw[if_pos (by decide),if_pos (by simp only[y0w];omega)]
 rfl
theorem ix_1 {a b:T} {r:List T}:oIx (.tuple (a::b::r)) (.int 1)=some b:=by
 simp only[oIx,atZ,ixOf]
 rw[if_pos (by decide),if_pos (by simp only[y0w];omega)]
 rfl
theorem ix_2 {a b c:T} {r:List T}:oIx (.tuple (a::b::c::r)) (.int 2)=some c:=by
 simp only[oIx,atZ,ixOf]
 rw[if_pos (by decide),if_pos (by simp only[y0w];omega)]
 rfl
theorem ix_3 {a b c d:T} {r:List T}:oIx (.tuple (a::b::c::d::r)) (.int 3)=some d:=by
 simp only[oIx,atZ,ixOf]
 rw[if_pos (by decide),if_pos (by simp only[y0w];omega)]
 rfl
theorem znq {t:T} {n:Nat} (h:tupB t n n=true):∃ts,t=.tuple ts/\ts.length=n:=by
 cases t with
 | tuple ts =>
  simp only[tupB,y1b,decide_eq_true_eq] at h
  exact⟨ts,rfl,by omega⟩
 | _=>simp[tupB] at h
theorem zi7 {t:T} (h:tupB t 2 2=true):∃a b,t=.tuple [a,b]:=by
 obtain⟨ts,rfl,hl⟩:=znq (n:=2) h
 match ts,hl with
 | [a,b],_=>exact⟨a,b,rfl⟩
theorem zco {t:T} (h:tupB t 3 3=true):∃a b c,t=.tuple [a,b,c]:=by
 obtain⟨ts,rfl,hl⟩:=znq (n:=3) h
 match ts,hl with
 | [a,b,c],_=>exact⟨a,b,c,rfl⟩
theorem znr {t:T} (h:tupB t 4 4=true):∃a b c d,t=.tuple [a,b,c,d]:=by
 obtain⟨ts,rfl,hl⟩:=znq (n:=4) h
 match ts,hl with
 | [a,b,c,d],_=>exact⟨a,b,c,d,rfl⟩
def z65 (t:T):Bool:=match t with
 | .tuple [a,b]=>z1v a && inB z36 b
 | _=>false
theorem zr0 {d:Nat} {t:T} (h:Gd (d+1) t) (hd:d<=59):z7b [t]=some (.bool (z65 t)):=by
 refine z58 ?_
 have h1:opN z06 [(nmV 0),(cst (.int 2)),(cst (.int 2))] [some (.imm t)]=some (.bool (tupB t 2 2)):=by
  simp only[opN,args,nmV,cst,y2a,y0p,y1q]
  exact z1m h.g
 cases hb:tupB t 2 2 with
 | false =>
  rw[hb] at h1
  refine (z0c h1 (b:=false) fun z=>by cases z).trans ?_
  have:z65 t=false:=by
   unfold z65
   split
   ·simp[tupB] at hb
   ·rfl
  rw[this]
  rfl
 | true =>
  obtain⟨a,b,rfl⟩:=zi7 hb
  have ha:=h.tup a (by simp)
  have hb2:=h.tup b (by simp)
  rw[hb] at h1
  refine (z0c h1 fun _=>z0c (a:=z1v a) (b:=inB z36 b) ?_ fun _=>?_).trans ?_
  ·rw[opN1 (t:=a) (by rw[z07 rfl rfl];exact ix_0)]
   exact zfs ha.g
  ·rw[z07 (t:=b) (u:=.tuple (z36.map .str)) (by rw[z07 rfl rfl];exact ix_1) rfl]
   exact zb6 zad hb2 (by omega)
  ·rfl
def fstS (t:T):Str:=match t with
 | .tuple (.str x::_)=>x
 | _=>⟨#[]⟩
def z3y (t:T):Bool:=match t with
 | .tuple ts=>decide (1<=ts.length) && decide (ts.length<=8) && ts.all z65 && z1a (ts.map fstS)
 | _=>false
theorem zdk {t:T} (h:z1v t=true):∃x,t=.str x:=by
 cases t with
 | str x=>exact⟨x,rfl⟩
 | _=>simp[z1v,z7k] at h
theorem zph {t:T} (h:figB t=true):∃x,t=.str x:=by
 cases t with
 | str x=>exact⟨x,rfl⟩
 | _=>simp[figB,z7k] at h
theorem z8o {t:T} (h:z65 t=true):∃x k,t=.tuple [.str x,.str k]/\k∈z36/\z1v (.str x)=true:=by
 unfold z65 at h
 split at h
 next a b =>
  rw[y1b] at h
  obtain⟨x,rfl⟩:=zdk h.1
  cases b with
  | str k=>exact⟨x,k,rfl,of_decide_eq_true h.2,h.1⟩
  | _=>simp[inB] at h
 next=>cases h
theorem zeb {ts:List T} {ε:Ev} (hε:nmV 0 ε=some (.tuple ts)) (hl:ts.length<=big) (h:∀t∈ts,∃x r,t=.tuple (.str x::r)):opN z6m [comp 1 [] (itA (nmV 0)) (gNm 0) (cstT true) (op2 oIx (nm 0) (cst (.int 0)))] ε=some (.bool (z1a (ts.map fstS))):=by
 rw[opN1 (t:=.list ((ts.map fstS).map .str)) (by
  rw[y2h]
  refine zeg (f:=y1v ∘ fstS) (ts:=ts) (by simp[itA,hε]) hl fun t ht=>?_
  obtain⟨x,r,rfl⟩:=h t ht
  rw[z07 rfl rfl]
  exact ix_0)]
 exact zid (by rw[y13];exact hl)
theorem zgd {d:Nat} {ts:List T} (h:Gd (d+2) (.tuple ts)) (hd:d<=50) {ε:Ev} (hε:nmV 0 ε=some (.tuple ts)) (hl:ts.length<=big):opN z6j [comp 1 [] (itA (nmV 0)) (gNm 0) (cstT true) (opN z7b [(nmV 0)])] ε=some (.bool (ts.all z65)) :=
 znd (by simp[itA,hε]) hl fun t ht=>by
  rw[opN1 (t:=t) rfl]
  exact zr0 (h.tup t ht) (by omega)
theorem zones_eq {d:Nat} {t:T} (h:Gd (d+2) t) (hd:d<=50):z6n [t]=some (.bool (z3y t)):=by
 unfold z6n runF za6
 show (seq _ _ [some (.imm t)]).bind _=_
 have h1:opN z06 [(nmV 0),(cst (.int 1)),(cst (.int 8))] [some (.imm t)]=some (.bool (tupB t 1 8)):=by
  simp only[opN,args,nmV,cst,y2a,y0p,y1q]
  exact z1m h.g
 cases hb:tupB t 1 8 with
 | false =>
  rw[hb] at h1
  rw[z0u (a:=true) (z0w (a:=true) (b:=false) (z09 (z04 h1)) fun z=>by cases z),if_pos rfl,z11 (t:=.bool false) rfl]
  have:z3y t=false:=by
   unfold z3y
   split
   next ts =>
    have:(decide (1<=ts.length) && decide (ts.length<=8))=false:=by
     simp only[tupB] at hb
     rw[<- hb]
     congr 1 <;> (congr 1;apply propext;omega)
    rw[this]
    rfl
   next=>rfl
  rw[this]
  rfl
 | true =>
  cases t with
  | tuple ts =>
   have hl:decide (1<=ts.length)=true/\decide (ts.length<=8)=true:=by
    simp only[tupB,y1b,decide_eq_true_eq] at hb ⊢
    omega
   have hl8:=of_decide_eq_true hl.2
   have hlb:ts.length<=big:=by unfold big;omega
   have hc:orT (notT (tstB (opN z06 [(nmV 0),(cst (.int 1)),(cst (.int 8))]))) (notT (tstB (opN z6j [(comp 1 [] (itA (nmV 0)) (gNm 0) (cstT true) (opN z7b [(nmV 0)]))]))) [some (.imm (.tuple ts))]=some (false || !ts.all z65):=by
    rw[hb] at h1
    exact z0w (z09 (z04 h1)) fun _=>z09 (z04 (zgd h hd rfl hlb))
   rw[z0u hc]
   cases ha:ts.all z65 with
   | false =>
    rw[if_pos (by rfl),z11 (t:=.bool false) rfl]
    simp only[z3y,ha,Bool.and_false,Bool.false_and]
    rfl
   | true =>
    rw[if_neg (by simp)]
    simp only[rtn]
    rw[zeb (ts:=ts) rfl hlb fun t ht=>by
     obtain⟨x,k,rfl,_⟩:=z8o (List.all_eq_true.mp ha t ht)
     exact⟨x,_,rfl⟩]
    simp only[z3y,ha,hl.1,hl.2,Bool.true_and]
    rfl
  | _=>simp[tupB] at hb
end Fo
end
section
namespace Fo
open D Co PySem
def txS (t:T):Str:=match t with
 | .str x=>x
 | _=>⟨#[]⟩
theorem zsd {ss:List Str} {t:T} (h:inB ss t=true):∃x,t=.str x/\x∈ss:=by
 cases t with
 | str x=>exact⟨x,rfl,of_decide_eq_true h⟩
 | _=>simp[inB] at h
def z57 (t:T):Bool:=match t with
 | .tuple ts=>decide (ts.length<=3) && (ts.all (inB z0m) && z1a (ts.map txS))
 | _=>false
theorem zie {d:Nat} {t:T} (h:Gd (d+1) t) (hd:d<=50):z82 [t]=some (.bool (z57 t)):=by
 refine z58 ?_
 have h1:opN z06 [(nmV 0),(cst (.int 0)),(cst (.int 3))] [some (.imm t)]=some (.bool (tupB t 0 3)):=by
  simp only[opN,args,nmV,cst,y2a,y0p,y1q]
  exact z1m h.g
 cases t with
 | tuple ts =>
  have e:tupB (.tuple ts) 0 3=decide (ts.length<=3):=by
   simp only[tupB]
   rw[decide_eq_true (show (0:Int)<=ts.length by omega),Bool.true_and]
   congr 1
   apply propext
   omega
  rw[e] at h1
  refine (z0c h1 fun hl=>?_).trans rfl
  have hl3:=of_decide_eq_true hl
  have hlb:ts.length<=big:=by unfold big;omega
  refine z0c (a:=ts.all (inB z0m)) (znd (ts:=ts) rfl hlb fun t ht=>?_) fun ha=>?_
  ·rw[z07 (t:=t) (u:=.tuple (z0m.map .str)) rfl rfl]
   exact zb6 z8l (h.tup t ht) (by omega)
  ·rw[opN1 (t:=.tuple ts) rfl]
   have e2:ts=(ts.map txS).map .str:=by
    rw[y2h]
    conv=>lhs;rw[<- List.map_id ts]
    refine List.map_congr_left fun t ht=>?_
    obtain⟨x,rfl,_⟩:=zsd (List.all_eq_true.mp ha t ht)
    rfl
   rw[e2]
   rw[zkk (by rw[y13];exact hlb),<- e2]
 | _=>exact (z0c (b:=false) h1 fun z=>by cases z).trans rfl
def codeB (t:T):Bool:=match t with
 | .tuple [f,w,r,u]=>figB f && (z1v w && (z57 r && z0b u 0 9))
 | _=>false
theorem ifF {f:Fe} {ε:Ev} {s2:Fs} (h:f ε=some (.bool false)):seq (iff (notT (tstB f)) (rtn (cst (.bool false))) skip) s2 ε=some (.rt (.bool false)):=by
 rw[z0u (z09 (z04 h)),if_pos (by rfl),z11 (t:=.bool false) rfl]
theorem ifT {f:Fe} {ε:Ev} {s2:Fs} (h:f ε=some (.bool true)):seq (iff (notT (tstB f)) (rtn (cst (.bool false))) skip) s2 ε=s2 ε:=by
 rw[z0u (z09 (z04 h)),if_neg (by simp)]
theorem zpq {d:Nat} {t:T} (h:Gd (d+2) t) (hd:d<=50):z7d [t]=some (.bool (codeB t)):=by
 unfold z7d runF zex
 show (seq _ _ [some (.imm t)]).bind _=_
 have h1:opN z06 [(nmV 0),(cst (.int 4)),(cst (.int 4))] [some (.imm t)]=some (.bool (tupB t 4 4)):=by
  simp only[opN,args,nmV,cst,y2a,y0p,y1q]
  exact z1m h.g
 cases hb:tupB t 4 4 with
 | false =>
  rw[hb] at h1
  rw[ifF h1]
  have:codeB t=false:=by
   unfold codeB
   split
   ·simp[tupB] at hb
   ·rfl
  rw[this]
  rfl
 | true =>
  rw[hb] at h1
  rw[ifT h1]
  obtain⟨f,w,r,u,rfl⟩:=znr hb
  have hf:=h.tup f (by simp)
  have hw:=h.tup w (by simp)
  have hr:=h.tup r (by simp)
  have hu:=h.tup u (by simp)
  simp only[rtn]
  rw[z0c (a:=figB f) (b:=z1v w && (z57 r && z0b u 0 9)) (by rw[opN1 (t:=f) (by rw[z07 rfl rfl];exact ix_0)];exact zb9 hf.g) fun _ =>
   z0c (by rw[opN1 (t:=w) (by rw[z07 rfl rfl];exact ix_1)];exact zfs hw.g) fun _ =>
   z0c (by rw[opN1 (t:=r) (by rw[z07 rfl rfl];exact ix_2)];exact zie hr hd) fun _=>by
    simp only[opN,args,cst,y0p,y1q]
    rw[show op2 oIx (nm 0) (cst (.int 3)) [some (.imm (.tuple [f,w,r,u]))]=some u from by rw[z07 rfl rfl];exact ix_3]
    exact z6t hu.g]
  rfl
def z46 (t:T):Bool:=match t with
 | .tuple ts=>decide (1<=ts.length) && decide (ts.length<=6) && ts.all codeB && z1a (ts.map fstS)
 | _=>false
theorem z9w {t:T} (h:codeB t=true):∃f w r u,t=.tuple [.str f,.str w,r,u]/\figB (.str f)=true/\z1v (.str w)=true/\z57 r=true/\z0b u 0 9=true:=by
 unfold codeB at h
 split at h
 next f w r u =>
  simp only[y1b] at h
  obtain⟨h1,h2,h3,h4⟩:=h
  obtain⟨x,rfl⟩:=zph h1
  obtain⟨y,rfl⟩:=zdk h2
  exact⟨x,y,r,u,rfl,h1,h2,h3,h4⟩
 next=>cases h
theorem zpp {d:Nat} {t:T} (h:Gd (d+3) t) (hd:d<=50):z6p [t]=some (.bool (z46 t)):=by
 unfold z6p runF za8
 show (seq _ _ [some (.imm t)]).bind _=_
 have h1:opN z06 [(nmV 0),(cst (.int 1)),(cst (.int 6))] [some (.imm t)]=some (.bool (tupB t 1 6)):=by
  simp only[opN,args,nmV,cst,y2a,y0p,y1q]
  exact z1m h.g
 cases hb:tupB t 1 6 with
 | false =>
  rw[hb] at h1
  rw[z0u (a:=true) (z0w (a:=true) (b:=false) (z09 (z04 h1)) fun z=>by cases z),if_pos rfl,z11 (t:=.bool false) rfl]
  have:z46 t=false:=by
   unfold z46
   split
   next ts =>
    have:(decide (1<=ts.length) && decide (ts.length<=6))=false:=by
     simp only[tupB] at hb
     rw[<- hb]
     congr 1 <;> (congr 1;apply propext;omega)
    rw[this]
    rfl
   next=>rfl
  rw[this]
  rfl
 | true =>
  cases t with
  | tuple ts =>
   have hl:decide (1<=ts.length)=true/\decide (ts.length<=6)=true:=by
    simp only[tupB,y1b,decide_eq_true_eq] at hb ⊢
    omega
   have hl8:=of_decide_eq_true hl.2
   have hlb:ts.length<=big:=by unfold big;omega
   have hc:orT (notT (tstB (opN z06 [(nmV 0),(cst (.int 1)),(cst (.int 6))]))) (notT (tstB (opN z6j [(comp 1 [] (itA (nmV 0)) (gNm 0) (cstT true) (opN z7d [(nmV 0)]))]))) [some (.imm (.tuple ts))]=some (false || !ts.all codeB):=by
    rw[hb] at h1
    exact z0w (z09 (z04 h1)) fun _=>z09 (z04 (znd (ts:=ts) rfl hlb fun t ht=>by
     rw[opN1 (t:=t) rfl]
     exact zpq (h.tup t ht) hd))
   rw[z0u hc]
   cases ha:ts.all codeB with
   | false =>
    rw[if_pos (by rfl),z11 (t:=.bool false) rfl]
    simp only[z46,ha,Bool.and_false,Bool.false_and]
    rfl
   | true =>
    rw[if_neg (by simp)]
    simp only[rtn]
    rw[zeb (ts:=ts) rfl hlb fun t ht=>by
     obtain⟨x,w,r,u,rfl,_⟩:=z9w (List.all_eq_true.mp ha t ht)
     exact⟨x,_,rfl⟩]
    simp only[z46,ha,hl.1,hl.2,Bool.true_and]
    rfl
  | _=>simp[tupB] at hb
def z6x (t:T):Bool:=match t with
 | .tuple [a,b,c]=>z0b a 0 60 && (z0b b 0 60 && z0b c 1 300)
 | _=>false
theorem w_ix {ε:Ev} {e:Fe} {u:T} {lo hi:Int} (he:e ε=some u) (hu:gd u=true):opN z0t [e,cst (.int lo),cst (.int hi)] ε=some (.bool (z0b u lo hi)):=by
 simp only[opN,args,cst,y0p,y1q,he]
 exact z6t hu
theorem zns {d:Nat} {t:T} (h:Gd (d+1) t):z6o [t]=some (.bool (z6x t)):=by
 unfold z6o runF za7
 show (seq _ _ [some (.imm t)]).bind _=_
 have h1:opN z06 [(nmV 0),(cst (.int 3)),(cst (.int 3))] [some (.imm t)]=some (.bool (tupB t 3 3)):=by
  simp only[opN,args,nmV,cst,y2a,y0p,y1q]
  exact z1m h.g
 cases hb:tupB t 3 3 with
 | false =>
  rw[hb] at h1
  rw[ifF h1]
  have:z6x t=false:=by
   unfold z6x
   split
   ·simp[tupB] at hb
   ·rfl
  rw[this]
  rfl
 | true =>
  rw[hb] at h1
  rw[ifT h1]
  obtain⟨a,b,c,rfl⟩:=zco hb
  have ha:=h.tup a (by simp)
  have hb:=h.tup b (by simp)
  have hc:=h.tup c (by simp)
  simp only[rtn]
  rw[z0c (a:=z0b a 0 60) (b:=z0b b 0 60 && z0b c 1 300) (w_ix (by rw[z07 rfl rfl];exact ix_0) ha.g) fun _ =>
   z0c (w_ix (by rw[z07 rfl rfl];exact ix_1) hb.g) fun _=>w_ix (by rw[z07 rfl rfl];exact ix_2) hc.g]
  rfl
def z52 (t:T):Bool:=match t with
 | .tuple [z,c,m]=>z3y z && (z46 c && z6x m)
 | _=>false
theorem zhe {d:Nat} {t:T} (h:Gd (d+4) t) (hd:d<=40):z7c [t]=some (.bool (z52 t)):=by
 refine z58 ?_
 have h1:opN z06 [(nmV 0),(cst (.int 3)),(cst (.int 3))] [some (.imm t)]=some (.bool (tupB t 3 3)):=by
  simp only[opN,args,nmV,cst,y2a,y0p,y1q]
  exact z1m h.g
 cases hb:tupB t 3 3 with
 | false =>
  rw[hb] at h1
  refine (z0c h1 (b:=false) fun z=>by cases z).trans ?_
  have:z52 t=false:=by
   unfold z52
   split
   ·simp[tupB] at hb
   ·rfl
  rw[this]
  rfl
 | true =>
  obtain⟨z,c,m,rfl⟩:=zco hb
  have hz:=h.tup z (by simp)
  have hc:=h.tup c (by simp)
  have hm:=h.tup m (by simp)
  rw[hb] at h1
  refine (z0c h1 fun _=>z0c (a:=z3y z) (b:=z46 c && z6x m) ?_ fun _=>z0c ?_ fun _=>?_).trans rfl
  ·rw[opN1 (t:=z) (by rw[z07 rfl rfl];exact ix_0)]
   exact zones_eq (d:=d+1) hz (by omega)
  ·rw[opN1 (t:=c) (by rw[z07 rfl rfl];exact ix_1)]
   exact zpp hc (by omega)
  ·rw[opN1 (t:=m) (by rw[z07 rfl rfl];exact ix_2)]
   exact zns hm
def zah (t:T):Bool:=match t with
 | .none=>true
 | _=>false
def z5c (R:T) (t:T):Bool:=match R,t with
 | .int r,.tuple [a,.int b,z]=>z0b (.int b) 1 r && (z0b a 0 (b - 1) && (zah z || z1v z))
 | _,_=>false
theorem zv0 {f:Fe} {ε:Ev} {t:T} (h:f ε=some t):op1 oIsN f ε=some (.bool (zah t)):=by
 rw[z0y h]
 cases t <;> rfl
theorem zij {d:Nat} {t:T} {r:Int} (h:Gd (d+1) t):z2z [.int r,t]=some (.bool (z5c (.int r) t)):=by
 unfold z2z runF z87
 show (seq _ _ [some (.imm (.int r)),some (.imm t)]).bind _=_
 have h1:opN z06 [(nmV 1),(cst (.int 3)),(cst (.int 3))] [some (.imm (.int r)),some (.imm t)]=some (.bool (tupB t 3 3)):=by
  simp only[opN,args,nmV,cst,y2a,y2b,y0p,y1q]
  exact z1m h.g
 cases hb:tupB t 3 3 with
 | false =>
  rw[hb] at h1
  rw[z0u (a:=true) (z0w (a:=true) (b:=false) (z09 (z04 h1)) fun z=>by cases z),if_pos rfl,z11 (t:=.bool false) rfl]
  have:z5c (.int r) t=false:=by
   unfold z5c
   split
   ·simp[tupB] at hb
   ·rfl
  rw[this]
  rfl
 | true =>
  obtain⟨a,b,z,rfl⟩:=zco hb
  have ha:=h.tup a (by simp)
  have hb2:=h.tup b (by simp)
  have hz:=h.tup z (by simp)
  rw[hb] at h1
  have hw:opN z0t [(op2 oIx (nm 1) (cst (.int 1))),(cst (.int 1)),(nmV 0)] [some (.imm (.int r)),some (.imm (.tuple [a,b,z]))]=some (.bool (z0b b 1 r)):=by
   have e:op2 oIx (nm 1) (cst (.int 1)) [some (.imm (.int r)),some (.imm (.tuple [a,b,z]))]=some b:=by rw[z07 rfl rfl];exact ix_1
   simp only[opN,args,nmV,y0p,y1q,y2a,e]
   exact z6t hb2.g
  have hc:=z0w (z09 (z04 h1)) fun _=>z09 (z04 hw)
  rw[z0u hc]
  cases hq:z0b b 1 r with
  | false =>
   rw[if_pos (by rfl),z11 (t:=.bool false) rfl]
   cases b with
   | int j=>simp only[z5c,hq,Bool.false_and];rfl
   | _=>rfl
  | true =>
   rw[if_neg (by simp)]
   cases b with
   | int j =>
    simp only[rtn]
    have e0:op2 oIx (nm 1) (cst (.int 0)) [some (.imm (.int r)),some (.imm (.tuple [a,.int j,z]))]=some a:=by rw[z07 rfl rfl];exact ix_0
    have e1:op2 oIx (nm 1) (cst (.int 1)) [some (.imm (.int r)),some (.imm (.tuple [a,.int j,z]))]=some (.int j):=by rw[z07 rfl rfl];exact ix_1
    have e2:op2 oIx (nm 1) (cst (.int 2)) [some (.imm (.int r)),some (.imm (.tuple [a,.int j,z]))]=some z:=by rw[z07 rfl rfl];exact ix_2
    have es:op2 oSub (op2 oIx (nm 1) (cst (.int 1))) (cst (.int 1)) [some (.imm (.int r)),some (.imm (.tuple [a,.int j,z]))]=some (.int (j - 1)):=by rw[z07 e1 rfl];rfl
    rw[z0c (a:=z0b a 0 (j - 1)) (b:=zah z || z1v z) (by
     simp only[opN,args,y0p,y1q,e0,es]
     exact z6t ha.g) fun _=>zrw (zv0 e2) fun _=>by rw[opN1 e2];exact zfs hz.g]
    simp only[z5c,hq,Bool.true_and]
    rfl
   | _=>simp[z0b] at hq
def z1w (t:T):Bool:=match t with
 | .tuple [r,.tuple os]=>z0b r 1 7 && (decide (os.length<=10) && os.all (z5c r))
 | _=>false
theorem ze7 {d:Nat} {t:T} (h:Gd (d+3) t) (hd:d<=50):z2q [t]=some (.bool (z1w t)):=by
 unfold z2q runF zbf
 show (seq _ _ [some (.imm t)]).bind _=_
 have h1:opN z06 [(nmV 0),(cst (.int 2)),(cst (.int 2))] [some (.imm t)]=some (.bool (tupB t 2 2)):=by
  simp only[opN,args,nmV,cst,y2a,y0p,y1q]
  exact z1m h.g
 cases hb:tupB t 2 2 with
 | false =>
  rw[hb] at h1
  rw[z0u (a:=true) (z0w (a:=true) (b:=false) (z09 (z04 h1)) fun z=>by cases z),if_pos rfl,z11 (t:=.bool false) rfl]
  have:z1w t=false:=by
   unfold z1w
   split
   ·simp[tupB] at hb
   ·rfl
  rw[this]
  rfl
 | true =>
  obtain⟨r,o,rfl⟩:=zi7 hb
  have hr:=h.tup r (by simp)
  have ho:=h.tup o (by simp)
  rw[hb] at h1
  have e0:op2 oIx (nm 0) (cst (.int 0)) [some (.imm (.tuple [r,o]))]=some r:=by rw[z07 rfl rfl];exact ix_0
  have e1:op2 oIx (nm 0) (cst (.int 1)) [some (.imm (.tuple [r,o]))]=some o:=by rw[z07 rfl rfl];exact ix_1
  have h3:opN z06 [(op2 oIx (nm 0) (cst (.int 1))),(cst (.int 0)),(cst (.int 10))] [some (.imm (.tuple [r,o]))]=some (.bool (tupB o 0 10)):=by
   simp only[opN,args,cst,y0p,y1q]
   rw[show op2 oIx (nm 0) (cst (.int 1)) [some (.imm (.tuple [r,o]))]=some o from e1]
   exact z1m ho.g
  have hc:=z0w (z09 (z04 h1)) fun _=>z0w (z09 (z04 (w_ix (lo:=1) (hi:=7) e0 hr.g))) fun _=>z09 (z04 h3)
  rw[z0u hc]
  cases hq:(z0b r 1 7 && tupB o 0 10) with
  | false =>
   rw[if_pos (by
    rw[<- Bool.not_and,hq]
    rfl),z11 (t:=.bool false) rfl]
   have:z1w (.tuple [r,o])=false:=by
    unfold z1w
    split
    next r' os' e' =>
     cases e'
     have:tupB (.tuple os') 0 10=decide (os'.length<=10):=by
      simp only[tupB]
      rw[decide_eq_true (show (0:Int)<=os'.length by omega),Bool.true_and]
      congr 1
      apply propext
      omega
     rw[this] at hq
     rw[<- Bool.and_assoc,hq,Bool.false_and]
    next=>rfl
   rw[this]
   rfl
  | true =>
   rw[if_neg (by
    rw[<- Bool.not_and,hq]
    simp)]
   rw[y1b] at hq
   cases o with
   | tuple os =>
    have hl:os.length<=10:=by
     have:=hq.2
     simp only[tupB,y1b,decide_eq_true_eq] at this
     omega
    cases r with
    | int i =>
     simp only[rtn]
     rw[znd (ts:=os) (f:=z5c (.int i)) (by simp only[itA,e1,y0p]) (by unfold big;omega) fun t ht=>by
      rw[opN2 (t:=.int i) (u:=t) (by rw[z07 rfl rfl];exact ix_0) rfl]
      exact zij (ho.tup t ht)]
     simp only[z1w,hq.1,decide_eq_true hl,Bool.true_and]
     rfl
    | _=>simp[z0b] at hq
   | _=>simp[tupB] at hq
end Fo
end
section
namespace Fo
open D Co PySem
def z2j (p:Pl):List Str:=p.zones.map (·.1)
structure Pok (p:Pl):Prop where
 z:∀s∈z2j p,asc (ls s)
 l:p.zones.length<=1000
theorem zgz {p:Pl} (hp:Pok p) {d:Nat} {t:T} (ht:Gd d t) (hd:d<=60):z7t [encP p,t]=some (.bool (inB (z2j p) t)):=by
 refine z58 ?_
 have e:comp 1 [] (itA (op2 oIx (nm 0) (cst (.int 0)))) (gNm 0) (cstT true) (op2 oIx (nm 0) (cst (.int 0))) [some (.imm (encP p)),some (.imm t)]=some (.list ((z2j p).map .str)):=by
  rw[zeg (f:=fun t=>.str (fstS t)) (ts:=p.zones.map encZ) (by
   simp only[itA]
   rw[z07 (t:=encP p) rfl rfl,show oIx (encP p) (.int 0)=some (.tuple (p.zones.map encZ)) from ix_0]
   rfl) (by rw[y13];have:=hp.l;unfold big;omega) fun t ht=>by
    obtain⟨z,_,rfl⟩:=y0m.mp ht
    rw[z07 rfl rfl]
    exact ix_0]
  simp only[y2h,z2j]
  rfl
 show op2 (oIn false) (nm 1) _ [some (.imm (encP p)),some (.imm t)]=_
 rw[z07 (t:=t) rfl e]
 exact zql hp.z ht hd
def eqS (s:Str) (t:T):Bool:=match t with
 | .str x=>decide (x=s)
 | _=>false
theorem zc7 (s:Str) (t:T):y1z t (.str s)=eqS s t:=by
 cases t with
 | str x =>
  rw[y1z,Bool.eq_iff_iff]
  simp[eqS]
 | _=>simp[y1z,eqS]
theorem eq_s {d:Nat} {f:Fe} {ε:Ev} {t:T} {s:Str} (h:f ε=some t) (ht:Gd d t) (hs:asc (ls s)) (hd:d<=60:=by decide):op2 oEq f (cst (.str s)) ε=some (.bool (eqS s t)):=by
 rw[z07 h rfl]
 simp only[oEq,ht.okT hd,show okT (.str s)=true from Co.okN.okT (d:=0) ⟨by rw[PyData.canLay0];exact z6y hs,by rw[y24];omega⟩,Bool.and_self,if_true,zc7]
theorem ne_s {d:Nat} {f:Fe} {ε:Ev} {t:T} {s:Str} (h:f ε=some t) (ht:Gd d t) (hs:asc (ls s)) (hd:d<=60:=by decide):op2 oNe f (cst (.str s)) ε=some (.bool !(eqS s t)):=by
 rw[z07 h rfl]
 simp only[oNe,ht.okT hd,show okT (.str s)=true from Co.okN.okT (d:=0) ⟨by rw[PyData.canLay0];exact z6y hs,by rw[y24];omega⟩,Bool.and_self,if_true,zc7]
theorem z32 {s:Str} (h:((ls s).all fun c=>decide (c<128))=true:=by decide +kernel):asc (ls s):=fun a ha=>of_decide_eq_true (List.all_eq_true.mp h a ha)
theorem zqs:asc (ls "line"):=z32
theorem zqt:asc (ls "code"):=z32
theorem znf:asc (ls "ticks"):=z32
def z6k (p:Pl) (t:T):Bool:=match t with
 | .tuple [a,z,w]=>eqS "line" a && (inB (z2j p) z && inB zb4 w)
 | _=>false
theorem zp0 {p:Pl} (hp:Pok p) {d:Nat} {t:T} (h:Gd (d+1) t) (hd:d<=50):z5l [encP p,t]=some (.bool (z6k p t)):=by
 refine z58 ?_
 have h1:opN z06 [(nmV 1),(cst (.int 3)),(cst (.int 3))] [some (.imm (encP p)),some (.imm t)]=some (.bool (tupB t 3 3)):=by
  simp only[opN,args,nmV,cst,y2a,y2b,y0p,y1q]
  exact z1m h.g
 cases hb:tupB t 3 3 with
 | false =>
  rw[hb] at h1
  refine (z0c h1 (b:=false) fun z=>by cases z).trans ?_
  have:z6k p t=false:=by
   unfold z6k
   split
   ·simp[tupB] at hb
   ·rfl
  rw[this]
  rfl
 | true =>
  obtain⟨a,z,w,rfl⟩:=zco hb
  have ha:=h.tup a (by simp)
  have hz:=h.tup z (by simp)
  have hw:=h.tup w (by simp)
  rw[hb] at h1
  refine (z0c h1 fun _=>z0c (eq_s (t:=a) (by rw[z07 rfl rfl];exact ix_0) ha zqs (by omega)) fun _=>z0c (a:=inB (z2j p) z) ?_ fun _=>?_).trans rfl
  ·rw[opN2 (t:=encP p) (u:=z) rfl (by rw[z07 rfl rfl];exact ix_1)]
   exact zgz hp hz (by omega)
  ·rw[z07 (t:=w) (u:=.tuple (zb4.map .str)) (by rw[z07 rfl rfl];exact ix_2) rfl]
   exact zb6 zng hw (by omega)
noncomputable def z30 (p:Pl) (t:T):Bool:=match t with
 | .tuple [a,f,e,z]=>eqS "code" a && (figB f && (if inB ["set","unset"] e=true then zah z else inB ["shunt","free"] e && inB (z2j p) z))
 | _=>false
theorem zmr {p:Pl} (hp:Pok p) {d:Nat} {t:T} (h:Gd (d+1) t) (hd:d<=50):z3o [encP p,t]=some (.bool (z30 p t)):=by
 unfold z3o runF z5r
 show (seq _ _ [some (.imm (encP p)),some (.imm t)]).bind _=_
 have h1:opN z06 [(nmV 1),(cst (.int 4)),(cst (.int 4))] [some (.imm (encP p)),some (.imm t)]=some (.bool (tupB t 4 4)):=by
  simp only[opN,args,nmV,cst,y2a,y2b,y0p,y1q]
  exact z1m h.g
 cases hb:tupB t 4 4 with
 | false =>
  rw[hb] at h1
  rw[z0u (a:=true) (z0w (a:=true) (b:=false) (z09 (z04 h1)) fun z=>by cases z),if_pos rfl,z11 (t:=.bool false) rfl]
  have:z30 p t=false:=by
   unfold z30
   split
   ·simp[tupB] at hb
   ·rfl
  rw[this]
  rfl
 | true =>
  obtain⟨a,f,e,z,rfl⟩:=znr hb
  have ha:=h.tup a (by simp)
  have hf:=h.tup f (by simp)
  have he:=h.tup e (by simp)
  have hz:=h.tup z (by simp)
  rw[hb] at h1
  generalize hε:[some (Sl.imm (encP p)),some (.imm (.tuple [a,f,e,z]))]=ε at *
  have e0:op2 oIx (nm 1) (cst (.int 0)) ε=some a:=by subst hε;rw[z07 rfl rfl];exact ix_0
  have e1:op2 oIx (nm 1) (cst (.int 1)) ε=some f:=by subst hε;rw[z07 rfl rfl];exact ix_1
  have e2:op2 oIx (nm 1) (cst (.int 2)) ε=some e:=by subst hε;rw[z07 rfl rfl];exact ix_2
  have e3:op2 oIx (nm 1) (cst (.int 3)) ε=some z:=by subst hε;rw[z07 rfl rfl];exact ix_3
  have hc:=z0w (z09 (z04 h1)) fun _=>z0w (z04 (ne_s e0 ha zqt (by omega))) fun _=>z09 (z04 (show opN z45 [(op2 oIx (nm 1) (cst (.int 1)))] ε=some (.bool (figB f)) by rw[opN1 e1];exact zb9 hf.g))
  rw[z0u hc]
  cases hq:(eqS "code" a && figB f) with
  | false =>
   rw[if_pos (by
    rw[<- Bool.not_and,hq]
    rfl),z11 (t:=.bool false) rfl]
   simp only[z30]
   rw[<- Bool.and_assoc,hq,Bool.false_and]
   rfl
  | true =>
   rw[if_neg (by
    rw[<- Bool.not_and,hq]
    simp)]
   have hs:op2 (oIn false) (op2 oIx (nm 1) (cst (.int 2))) (cst (.tuple (z8q ["set","unset"]))) ε=some (.bool (inB ["set","unset"] e)):=by
    rw[z07 (t:=e) (u:=.tuple ((["set","unset"]:List Str).map .str)) e2 rfl]
    exact zb6 a_da he (by omega)
   rw[z0u (z04 hs)]
   simp only[z30]
   rw[<- Bool.and_assoc,hq,Bool.true_and]
   cases hi:inB ["set","unset"] e with
   | true =>
    rw[if_pos rfl,z11 (zv0 e3),if_pos rfl]
    rfl
   | false =>
    rw[if_neg (by simp),if_neg (by simp)]
    simp only[rtn]
    rw[z0c (a:=inB ["shunt","free"] e) (b:=inB (z2j p) z) (by
     rw[z07 (t:=e) (u:=.tuple ((["shunt","free"]:List Str).map .str)) e2 rfl]
     exact zb6 a_dz he (by omega)) fun _=>by
     rw[opN2 (t:=encP p) (u:=z) (by subst hε;rfl) e3]
     exact zgz hp hz (by omega)]
    rfl
def posB (t:T):Bool:=match t with
 | .int i=>decide (1<=i)
 | _=>false
def z3e (t:T):Bool:=match t with
 | .tuple [a,n]=>eqS "ticks" a && (z68 n && posB n)
 | _=>false
theorem zjy {d:Nat} {t:T} (h:Gd (d+1) t) (hd:d<=50):z4y [t]=some (.bool (z3e t)):=by
 refine z58 ?_
 have h1:opN z06 [(nmV 0),(cst (.int 2)),(cst (.int 2))] [some (.imm t)]=some (.bool (tupB t 2 2)):=by
  simp only[opN,args,nmV,cst,y2a,y0p,y1q]
  exact z1m h.g
 cases hb:tupB t 2 2 with
 | false =>
  rw[hb] at h1
  refine (z0c h1 (b:=false) fun z=>by cases z).trans ?_
  have:z3e t=false:=by
   unfold z3e
   split
   ·simp[tupB] at hb
   ·rfl
  rw[this]
  rfl
 | true =>
  obtain⟨a,n,rfl⟩:=zi7 hb
  have ha:=h.tup a (by simp)
  have hn:=h.tup n (by simp)
  rw[hb] at h1
  refine (z0c h1 fun _=>z0c (eq_s (t:=a) (by rw[z07 rfl rfl];exact ix_0) ha znf (by omega)) fun _=>z0c (a:=z68 n) (b:=posB n) ?_ fun hw=>?_).trans rfl
  ·rw[opN1 (t:=n) (by rw[z07 rfl rfl];exact ix_1)]
   exact zh1 hn.g
  ·cases n with
   | int i =>
    rw[z07 (t:=.int i) (u:=.int 1) (by rw[z07 rfl rfl];exact ix_1) rfl]
    rfl
   | _=>simp[z68] at hw
def z2x (p:Pl) (t:T):Bool:=z6k p t || (z30 p t || z3e t)
theorem zed {p:Pl} (hp:Pok p) {d:Nat} {t:T} (h:Gd (d+1) t) (hd:d<=50):z5z [encP p,t]=some (.bool (z2x p t)):=by
 refine z58 ?_
 refine (zrw (a:=z6k p t) (b:=z30 p t || z3e t) ?_ fun _=>zrw ?_ fun _=>?_).trans rfl
 ·rw[opN2 (t:=encP p) (u:=t) rfl rfl]
  exact zp0 hp h hd
 ·rw[opN2 (t:=encP p) (u:=t) rfl rfl]
  exact zmr hp h hd
 ·rw[opN1 (t:=t) rfl]
  exact zjy h hd
end Fo
end
section
namespace Fo
open D Co PySem
def W64:Int:=10 ^ 64
theorem zvg:W64<2 ^ 213:=by decide +kernel
theorem zlk {a:Int} (h0:0<=a) (h:a<W64):zll a=true:=by
 unfold zll
 refine decide_eq_true ?_
 have h1:=zvg
 have h2:a.natAbs<2 ^ 213:=by
  have e:((2 ^ 213:Nat):Int)=2 ^ 213:=by norm_cast
  have:a<((2 ^ 213:Nat):Int):=by rw[e];exact Int.lt_trans h h1
  generalize 2 ^ 213=q at this ⊢
  omega
 by_cases hz:a.natAbs=0
 ·rw[hz]
  decide
 ·have:=(Nat.log2_lt hz).mpr h2
  omega
def dig (l:List Nat):Prop:=NumText.AllDigits l
theorem zbj {a:Int} (h:0<=a):strI a=strI ((a.toNat:Nat):Int):=by rw[Int.toNat_of_nonneg h]
theorem z8s {a:Int} (h:0<=a):dig (ls (strI a)):=by
 rw[zbj h]
 exact zny _
theorem znx {a:Int} (h0:0<=a) (h:a<W64):(strI a).length<=64/\0<(strI a).length:=by
 rw[zbj h0,z1r,zf7,y13]
 refine⟨(Nat.length_toDigits_le_iff (by decide) (by decide)).mpr ?_,Nat.length_toDigits_pos⟩
 have:((a.toNat:Nat):Int)<((10 ^ 64:Nat):Int):=by
  rw[Int.toNat_of_nonneg h0]
  have e:((10 ^ 64:Nat):Int)=W64:=by unfold W64;norm_cast
  rw[e]
  exact h
 exact_mod_cast this
def dv (l:List Nat):Nat:=NumText.digitsVal l
end Fo
end
section
namespace Ho
open D
noncomputable def z4g:Fs :=
  (rtn (opN z1u [(opN z0x [(comp 1 [] (z1e (op2 oIx (nm 0) (cst (.int 1)))) (gNm 0) (tstB (op1 z2h (op2 oIx (nm 0) (cst (.int 2))))) (op2 oIx (nm 0) (cst (.int 2))))])]))
def z2p:List T->Option T:=runF z4g 1
noncomputable def zpw:Fs :=
  (seq (iff (tstB (op2 oEq (op2 oIx (nm 0) (cst (.int 0))) (nm 1))) (rtn (op2 oIx (nm 0) (cst (.int 1)))) skip)
  (seq (iff (tstB (op2 oEq (op2 oIx (nm 0) (cst (.int 1))) (nm 1))) (rtn (op2 oIx (nm 0) (cst (.int 0)))) skip)
  (rtn (cst .none))))
def zpn:List T->Option T:=runF zpw 2
def z22:Fs :=
  (seq (iff (tstB (op2 oLt (nm 1) (opN oLen [(nm 0)]))) (rtn (op2 oIx (nm 0) (nm 1))) skip)
  (rtn (cst (.int 0))))
def z0s:List T->Option T:=runF z22 2
noncomputable def z3q:Fs :=
  (seq (asg 2 (op2 oMod (op2 oMul (op2 oAdd (op2 oAdd (opN z0s [(nmV 0),(nmV 1)]) (op2 oMul (cst (.int 7919)) (nm 1))) (cst (.int 1))) (cst (.int 48271))) (cst (.int 2147483647))))
  (rtn (op2 oMod (op2 oAdd (op2 oAdd (op2 oMul (nm 2) (nm 2)) (op2 oMul (cst (.int 7)) (nm 2))) (nm 1)) (cst (.int 2147483629)))))
def z0e:List T->Option T:=runF z3q 3
noncomputable def z3r:Fs :=
  (seq (asg 2 (op2 oMod (op2 oMul (op2 oAdd (op2 oAdd (nm 0) (op2 oMul (cst (.int 104729)) (nm 1))) (cst (.int 17))) (cst (.int 69621))) (cst (.int 2147483647))))
  (rtn (op2 oMod (op2 oAdd (op2 oAdd (op2 oMul (nm 2) (nm 2)) (op2 oMul (cst (.int 3)) (nm 2))) (nm 1)) (cst (.int 2147483629)))))
def z0i:List T->Option T:=runF z3r 3
noncomputable def z5p:Fs :=
  (seq (asg 1 (op2 oAdd (cst (.int 1)) (op2 oMod (nm 0) (cst (.int 7)))))
  (seq (asg 2 (z01 []))
  (seq (for_ (z26 (op2 oMod (op2 oDiv (nm 0) (cst (.int 8))) (cst (.int 11)))) (gNm 3)
  (seq (asg 4 (op2 oDiv (opN z0i [(nmV 0),(op2 oAdd (cst (.int 50)) (nm 3))]) (cst (.int 4))))
  (seq (asg 5 (op2 oMod (nm 4) (op2 oAdd (nm 1) (cst (.int 1)))))
  (seq (asg 6 (op2 oMod (op2 oAdd (op2 oAdd (nm 5) (cst (.int 1))) (op2 oMod (op2 oDiv (nm 4) (cst (.int 8))) (nm 1))) (op2 oAdd (nm 1) (cst (.int 1)))))
  (seq (asg 7 (op2 oIx (z01 [(cst .none),(cst .none),(cst (.str "a")),(cst (.str "b")),(cst (.str "back")),(cst (.str "hall")),(cst (.str "win"))]) (op2 oMod (op2 oDiv (nm 4) (cst (.int 64))) (cst (.int 7)))))
  (asg 2 (op2 oAdd (nm 2) (z01 [(z01 [(opN oMin [(nm 5),(nm 6)]),(opN oMax [(nm 5),(nm 6)]),(nmV 7)])]))))))))
  (rtn (z01 [(nmV 1),(nmV 2)])))))
def d_l_house:List T->Option T:=runF z5p 8
end Ho
end
section
namespace Hg
def adj (e:Int×Int) (x:Int):Option Int:=if e.1=x then some e.2 else if e.2=x then some e.1 else none
def Within (R:Int) (E:List (Int×Int)):Prop:=∀e∈E,0<=e.1/\e.1<=R/\0<=e.2/\e.2<=R
noncomputable def inner (h:Int):List (Int×Int)->List Int->List Int->List Int×List Int
 | [],r,w=>(r,w)
 | e::es,r,w=>match adj e h with
  | some t=>if t∈r then inner h es r w else inner h es (r++[t]) (w++[t])
  | none=>inner h es r w
end Hg
end
section
namespace Ho
open PySem D
abbrev Op:=Int×Int×Option Str
def zT:Option Str->T
 | none=>.none
 | some x=>.str x
def opT (o:Op):T:=.tuple [.int o.1,.int o.2.1,zT o.2.2]
def houseT (R:Int) (os:List Op):T:=.tuple [.int R,.tuple (os.map opT)]
def free (ns:List Str) (o:Op):Bool:=match o.2.2 with
 | none=>true
 | some x=>decide (x∈ns)
theorem oEq_int (a b:Int):oEq (.int a) (.int b)=some (.bool (decide (a=b))):=by
 simp[oEq,zfq,y1z,Bool.beq_eq_decide_eq]
theorem seq_nx {a b:Fs} {ε ε':Ev} (h:a ε=some (.nx ε')):seq a b ε=b ε':=by
 simp only[seq,h,y0p]
theorem comp_zones:∀(os:List Op) (j:Option Sl),z2c (gNm 0) (tstB (op1 z2h (op2 oIx (nm 0) (cst (.int 2))))) (op2 oIx (nm 0) (cst (.int 2))) (os.map opT) [j]=some ((os.filterMap (·.2.2)).map .str)
  | [],j=>rfl
  | (a,b,none)::os,j=>by
    have ih:=comp_zones os (some (.imm (opT (a,b,none))))
    simp[z2c,runF,seq,iff,tstB,tstL,andT,orT,notT,cstT,ofT,op1,op2,opN,args,cst,nm,nmV,rtn,skip,asg,asgN,asgT,par,z01,z0p,oIsN,z2h,oIx,atZ,ixOf,gNm,gTu,gAll,z1e,comp,z1f,opT,zT] at ih ⊢
    exact ih
  | (a,b,some x)::os,j=>by
    have ih:=comp_zones os (some (.imm (opT (a,b,some x))))
    simp[z2c,runF,seq,iff,tstB,tstL,andT,orT,notT,cstT,ofT,op1,op2,opN,args,cst,nm,nmV,rtn,skip,asg,asgN,asgT,par,z01,z0p,oIsN,z2h,oIx,atZ,ixOf,gNm,gTu,gAll,z1e,comp,z1f,opT,zT] at ih ⊢
    exact ih
def zonesL (os:List Op):List Str:=z4h (dedup (os.filterMap (·.2.2)))
theorem zgc:∀(ss:List Str),ss≠[]->intsOf (ss.map .str)=none
 | [],h=>absurd rfl h
 | x::r,_=>rfl
theorem z8r:∀(ss:List Str),strsOf (ss.map .str)=some ss
 | []=>rfl
 | x::r=>by
  simp only[y0d,strsOf,z8r r]
  rfl
theorem zones_eq {R:Int} {os:List Op} (hl:os.length<=10):z2p [houseT R os]=some (.tuple ((zonesL os).map .str)):=by
 have hit:z1e (op2 oIx (nm 0) (cst (.int 1))) [some (.imm (houseT R os))]=some (os.map opT):=by
  simp[z1e,op2,nm,houseT,oIx,cst,atZ,ixOf]
 have hcap:z1f 1 [] [some (.imm (houseT R os))]=[none]:=rfl
 have hc:comp 1 [] (z1e (op2 oIx (nm 0) (cst (.int 1)))) (gNm 0) (tstB (op1 z2h (op2 oIx (nm 0) (cst (.int 2))))) (op2 oIx (nm 0) (cst (.int 2))) [some (.imm (houseT R os))]=some (.list ((os.filterMap (·.2.2)).map .str)):=by
  simp only[comp,hit,y0p,hcap,comp_zones,y13]
  rw[if_pos (by unfold big;omega)]
  rfl
 have hz:(os.filterMap (·.2.2)).length<64:=Nat.lt_of_le_of_lt (List.length_filterMap_le _ _) (by omega)
 have hs:z0x [.list ((os.filterMap (·.2.2)).map .str)]=some (.list ((zonesL os).map .str)):=by
  unfold z0x
  simp only[y13]
  rw[if_pos hz]
  by_cases he:os.filterMap (·.2.2)=[]
  ·simp only[zonesL,he]
   rfl
  ·rw[zgc _ he,z8r]
   rfl
 have e0:z2p [houseT R os]=(z4g [some (.imm (houseT R os))]).bind fun o=>match o with|.rt t=>some t|.nx _=>some .none|_=>none:=rfl
 rw[e0]
 simp only[z4g,rtn,opN,args,hc,y0p,y1q,hs,z1u]
end Ho
end
section
namespace Ho
open PySem D
noncomputable def bW (rec:List T->Option T):Fs:=(seq (asg 6 (opN zpn [(nmV 5),(op2 oIx (nm 2) (op1 oNeg (cst (.int 1))))]))
  (iff (andT (tstB (op1 z2h (nm 6))) (tstB (op2 (oIn true) (nm 6) (nm 2)))) (ext 3 (comp 1 [4] (z1e (opN rec [(nmV 0),(nmV 1),(op2 oAdd (nm 2) (z01 [(nmV 6)]))])) (gNm 0) (cstT true) (op2 oAdd (z01 [(nmV 1)]) (nm 0)))) skip))
end Ho
end
section
namespace Ho
open PySem D
def z05 (ns:List Int):T:=.list (ns.map .int)
theorem zgk (ns:List Int) (k:Nat):z0s [z05 ns,.int k]=some (.int (ns.getD k 0)):=by
 by_cases h:k<ns.length
 ·have h':(k:Int)<(ns.length:Int):=by omega
  simp[z0s,z22,z05,runF,seq,iff,tstB,tstL,andT,orT,notT,cstT,ofT,op1,op2,opN,args,cst,nm,nmV,rtn,skip,asg,asgN,asgT,par,z01,z0p,oIsN,z2h,oIx,atZ,ixOf,gNm,gTu,gAll,z1e,comp,z1f,oAdd,oSub,oMul,oDiv,oMod,oNeg,oLen,oMin,oMax,z1u,zag,oInt,oLt,oLe,oGt,oGe,big,h,h',List.getD]
 ·have h':¬(k:Int)<(ns.length:Int):=by omega
  simp[z0s,z22,z05,runF,seq,iff,tstB,tstL,andT,orT,notT,cstT,ofT,op1,op2,opN,args,cst,nm,nmV,rtn,skip,asg,asgN,asgT,par,z01,z0p,oIsN,z2h,oIx,atZ,ixOf,gNm,gTu,gAll,z1e,comp,z1f,oAdd,oSub,oMul,oDiv,oMod,oNeg,oLen,oMin,oMax,z1u,zag,oInt,oLt,oLe,oGt,oGe,big,h,h',List.getD]
theorem mul_ok {i j:Int} (h:-(2 ^ 64)<j/\j<2 ^ 64):oMul (.int i) (.int j)=some (.int (i*j)):=by
 unfold oMul ziz
 simp only[decide_eq_true h.1,decide_eq_true h.2,Bool.and_self,Bool.or_true,if_true]
theorem z35 {i j:Int} (h:0<j):oMod (.int i) (.int j)=some (.int (i % j)):=if_pos h
theorem zbb {i j:Int} (h:0<j/\j<1073741824):oDiv (.int i) (.int j)=some (.int (i / j)):=if_pos h
theorem z2g {i j:Int}:oAdd (.int i) (.int j)=some (.int (i+j)):=rfl
theorem mixed_eq (ns:List Int) (k:Nat):∃m:Int,0<=m/\z0e [z05 ns,.int k]=some (.int m):=by
 have hc:=zgk ns k
 have hd:0<=(ns.getD k 0+7919*(k:Int)+1)*48271 % 2147483647/\(ns.getD k 0+7919*(k:Int)+1)*48271 % 2147483647<2147483647:=⟨y2f _ (by decide),y2g _ (by decide)⟩
 generalize hx:(ns.getD k 0+7919*(k:Int)+1)*48271 % 2147483647=d at hd
 refine⟨(d*d+7*d+k) % 2147483629,y2f _ (by decide),?_⟩
 have e0:z0e [z05 ns,.int k]=(z3q [some (.imm (z05 ns)),some (.imm (.int k)),none]).bind fun o=>match o with|.rt t=>some t|.nx _=>some .none|_=>none:=rfl
 have m1:oMul (.int 7919) (.int k)=some (.int (7919*k)):=by
  unfold oMul ziz
  simp
 have n0:nmV 0 [some (.imm (z05 ns)),some (.imm (.int k)),none]=some (z05 ns):=rfl
 have n1:nmV 1 [some (.imm (z05 ns)),some (.imm (.int k)),none]=some (.int k):=rfl
 have n1':nm 1 [some (.imm (z05 ns)),some (.imm (.int k)),none]=some (.int k):=rfl
 have s1:asg 2 (op2 oMod (op2 oMul (op2 oAdd (op2 oAdd (opN z0s [(nmV 0),(nmV 1)]) (op2 oMul (cst (.int 7919)) (nm 1))) (cst (.int 1))) (cst (.int 48271))) (cst (.int 2147483647))) [some (.imm (z05 ns)),some (.imm (.int k)),none]=some (.nx [some (.imm (z05 ns)),some (.imm (.int k)),some (.imm (.int d))]):=by
  simp only[asg,op2,opN,args,n0,n1,n1',y0p,y1q,hc,cst,m1,z2g,mul_ok (i:=ns.getD k 0+7919*(k:Int)+1) (j:=48271) (by decide),z35 (j:=2147483647) (by decide),hx]
  rfl
 have m2:oMul (.int d) (.int d)=some (.int (d*d)):=mul_ok (by omega)
 have m3:oMul (.int 7) (.int d)=some (.int (7*d)):=mul_ok (by omega)
 rw[e0]
 unfold z3q
 rw[seq_nx s1]
 have q2:nm 2 [some (.imm (z05 ns)),some (.imm (.int k)),some (.imm (.int d))]=some (.int d):=rfl
 have q1:nm 1 [some (.imm (z05 ns)),some (.imm (.int k)),some (.imm (.int d))]=some (.int k):=rfl
 simp only[rtn,op2,q2,q1,y0p,y1q,cst,m2,m3,z2g,z35 (j:=2147483629) (by decide)]
theorem drawn_eq (n k:Int) (hk:-(2 ^ 64)<k/\k<2 ^ 64):∃m:Int,0<=m/\z0i [.int n,.int k]=some (.int m):=by
 have hd:0<=(n+104729*k+17)*69621 % 2147483647/\(n+104729*k+17)*69621 % 2147483647<2147483647:=⟨y2f _ (by decide),y2g _ (by decide)⟩
 generalize hx:(n+104729*k+17)*69621 % 2147483647=d at hd
 refine⟨(d*d+3*d+k) % 2147483629,y2f _ (by decide),?_⟩
 have e0:z0i [.int n,.int k]=(z3r [some (.imm (.int n)),some (.imm (.int k)),none]).bind fun o=>match o with|.rt t=>some t|.nx _=>some .none|_=>none:=rfl
 have m1:oMul (.int 104729) (.int k)=some (.int (104729*k)):=mul_ok hk
 have n0:nm 0 [some (.imm (.int n)),some (.imm (.int k)),none]=some (.int n):=rfl
 have n1:nm 1 [some (.imm (.int n)),some (.imm (.int k)),none]=some (.int k):=rfl
 have s1:asg 2 (op2 oMod (op2 oMul (op2 oAdd (op2 oAdd (nm 0) (op2 oMul (cst (.int 104729)) (nm 1))) (cst (.int 17))) (cst (.int 69621))) (cst (.int 2147483647))) [some (.imm (.int n)),some (.imm (.int k)),none]=some (.nx [some (.imm (.int n)),some (.imm (.int k)),some (.imm (.int d))]):=by
  simp only[asg,op2,n0,n1,y0p,y1q,cst,m1,z2g,mul_ok (i:=n+104729*k+17) (j:=69621) (by decide),z35 (j:=2147483647) (by decide),hx]
  rfl
 have m2:oMul (.int d) (.int d)=some (.int (d*d)):=mul_ok (by omega)
 have m3:oMul (.int 3) (.int d)=some (.int (3*d)):=mul_ok (by omega)
 rw[e0]
 unfold z3r
 rw[seq_nx s1]
 have q2:nm 2 [some (.imm (.int n)),some (.imm (.int k)),some (.imm (.int d))]=some (.int d):=rfl
 have q1:nm 1 [some (.imm (.int n)),some (.imm (.int k)),some (.imm (.int d))]=some (.int k):=rfl
 simp only[rtn,op2,q2,q1,y0p,y1q,cst,m2,m3,z2g,z35 (j:=2147483629) (by decide)]
def names5:List Str:=["a","b","back","hall","win"]
def OpOk (R:Int) (o:Op):Prop:=0<=o.1/\o.1<o.2.1/\o.2.1<=R/\∀x,o.2.2=some x->x∈names5
structure Drawn (R:Int) (os:List Op):Prop where
 r1:1<=R
 r7:R<=7
 len:os.length<=10
 ok:∀o∈os,OpOk R o
noncomputable def bH:Fs:=(seq (asg 4 (op2 oDiv (opN z0i [(nmV 0),(op2 oAdd (cst (.int 50)) (nm 3))]) (cst (.int 4))))
  (seq (asg 5 (op2 oMod (nm 4) (op2 oAdd (nm 1) (cst (.int 1)))))
  (seq (asg 6 (op2 oMod (op2 oAdd (op2 oAdd (nm 5) (cst (.int 1))) (op2 oMod (op2 oDiv (nm 4) (cst (.int 8))) (nm 1))) (op2 oAdd (nm 1) (cst (.int 1)))))
  (seq (asg 7 (op2 oIx (z01 [(cst .none),(cst .none),(cst (.str "a")),(cst (.str "b")),(cst (.str "back")),(cst (.str "hall")),(cst (.str "win"))]) (op2 oMod (op2 oDiv (nm 4) (cst (.int 64))) (cst (.int 7)))))
  (asg 2 (op2 oAdd (nm 2) (z01 [(z01 [(opN oMin [(nm 5),(nm 6)]),(opN oMax [(nm 5),(nm 6)]),(nmV 7)])])))))))
def envH (n R:Int) (os:List Op) (j3 j4 j5 j6 j7:Option Sl):Ev:=[some (.imm (.int n)),some (.imm (.int R)),some (.imm (.tuple (os.map opT))),j3,j4,j5,j6,j7]
theorem zqz (i:Int) (h0:0<=i) (h7:i<7) (ε:Ev):∃z:Option Str,(z01 [(cst .none),(cst .none),(cst (.str "a")),(cst (.str "b")),(cst (.str "back")),(cst (.str "hall")),(cst (.str "win"))] ε).bind (fun t=>oIx t (.int i))=some (zT z)/\∀x,z=some x->x∈names5:=by
 have hc:i=0\/i=1\/i=2\/i=3\/i=4\/i=5\/i=6:=by omega
 have e:z01 [(cst .none),(cst .none),(cst (.str "a")),(cst (.str "b")),(cst (.str "back")),(cst (.str "hall")),(cst (.str "win"))] ε=some (.tuple [.none,.none,.str "a",.str "b",.str "back",.str "hall",.str "win"]):=by
  simp[z01,args,cst,big]
 rw[e]
 rcases hc with rfl|rfl|rfl|rfl|rfl|rfl|rfl
 ·exact⟨none,rfl,fun x h=>by cases h⟩
 ·exact⟨none,rfl,fun x h=>by cases h⟩
 ·exact⟨some "a",rfl,fun x h=>by cases h;simp[names5]⟩
 ·exact⟨some "b",rfl,fun x h=>by cases h;simp[names5]⟩
 ·exact⟨some "back",rfl,fun x h=>by cases h;simp[names5]⟩
 ·exact⟨some "hall",rfl,fun x h=>by cases h;simp[names5]⟩
 ·exact⟨some "win",rfl,fun x h=>by cases h;simp[names5]⟩
theorem zj5 (n R:Int) (h1:1<=R) (h7:R<=7) (os:List Op) (hl:os.length<1000) (k:Int) (hk:0<=k/\k<1000) (j4 j5 j6 j7:Option Sl) :
  ∃o j4' j5' j6' j7',OpOk R o/\bH (envH n R os (some (.imm (.int k))) j4 j5 j6 j7)=some (.nx (envH n R (os++[o]) (some (.imm (.int k))) j4' j5' j6' j7')):=by
 obtain⟨m,hm,hd⟩:=drawn_eq n (50+k) (by omega)
 have q0:0<=m / 4:=Int.ediv_nonneg hm (by decide)
 generalize hq:m / 4=q at q0
 have s1:asg 4 (op2 oDiv (opN z0i [(nmV 0),(op2 oAdd (cst (.int 50)) (nm 3))]) (cst (.int 4))) (envH n R os (some (.imm (.int k))) j4 j5 j6 j7)=some (.nx (envH n R os (some (.imm (.int k))) (some (.imm (.int q))) j5 j6 j7)):=by
  have n0:nmV 0 (envH n R os (some (.imm (.int k))) j4 j5 j6 j7)=some (.int n):=rfl
  have n3:nm 3 (envH n R os (some (.imm (.int k))) j4 j5 j6 j7)=some (.int k):=rfl
  simp only[asg,op2,opN,args,n0,n3,cst,z2g,y0p,y1q,hd,zbb (j:=4) (by decide),hq]
  rfl
 have hone:0<=q % (R+1)/\q % (R+1)<R+1:=⟨y2f _ (by omega),y2g _ (by omega)⟩
 have hother:0<=q / 8 % R/\q / 8 % R<R:=⟨y2f _ (by omega),y2g _ (by omega)⟩
 have hneq:(q % (R+1)+1+q / 8 % R) % (R+1)≠q % (R+1):=by
  generalize q % (R+1)=a at *
  generalize q / 8 % R=b at *
  intro e
  by_cases c:a+1+b<R+1
  ·rw[Int.emod_eq_of_lt (by omega) c] at e
   omega
  ·have:(a+1+b) % (R+1)=a+1+b - (R+1):=by
    rw[<- Int.sub_emod_right,Int.emod_eq_of_lt (by omega) (by omega)]
   omega
 have hoth:0<=(q % (R+1)+1+q / 8 % R) % (R+1)/\(q % (R+1)+1+q / 8 % R) % (R+1)<R+1:=⟨y2f _ (by omega),y2g _ (by omega)⟩
 have s2:asg 5 (op2 oMod (nm 4) (op2 oAdd (nm 1) (cst (.int 1)))) (envH n R os (some (.imm (.int k))) (some (.imm (.int q))) j5 j6 j7)=some (.nx (envH n R os (some (.imm (.int k))) (some (.imm (.int q))) (some (.imm (.int (q % (R+1))))) j6 j7)):=by
  have n4:nm 4 (envH n R os (some (.imm (.int k))) (some (.imm (.int q))) j5 j6 j7)=some (.int q):=rfl
  have n1:nm 1 (envH n R os (some (.imm (.int k))) (some (.imm (.int q))) j5 j6 j7)=some (.int R):=rfl
  simp only[asg,op2,n4,n1,cst,z2g,y0p,y1q,z35 (j:=R+1) (by omega)]
  rfl
 generalize q % (R+1)=one at *
 have s3:asg 6 (op2 oMod (op2 oAdd (op2 oAdd (nm 5) (cst (.int 1))) (op2 oMod (op2 oDiv (nm 4) (cst (.int 8))) (nm 1))) (op2 oAdd (nm 1) (cst (.int 1)))) (envH n R os (some (.imm (.int k))) (some (.imm (.int q))) (some (.imm (.int one))) j6 j7)=some (.nx (envH n R os (some (.imm (.int k))) (some (.imm (.int q))) (some (.imm (.int one))) (some (.imm (.int ((one+1+q / 8 % R) % (R+1))))) j7)):=by
  have n5:nm 5 (envH n R os (some (.imm (.int k))) (some (.imm (.int q))) (some (.imm (.int one))) j6 j7)=some (.int one):=rfl
  have n4:nm 4 (envH n R os (some (.imm (.int k))) (some (.imm (.int q))) (some (.imm (.int one))) j6 j7)=some (.int q):=rfl
  have n1:nm 1 (envH n R os (some (.imm (.int k))) (some (.imm (.int q))) (some (.imm (.int one))) j6 j7)=some (.int R):=rfl
  simp only[asg,op2,n5,n4,n1,cst,z2g,y0p,y1q,zbb (j:=8) (by decide),z35 (j:=R) (by omega),z35 (j:=R+1) (by omega)]
  rfl
 generalize (one+1+q / 8 % R) % (R+1)=oth at *
 obtain⟨z,hz,hzn⟩:=zqz (q / 64 % 7) (y2f _ (by decide)) (y2g _ (by decide)) (envH n R os (some (.imm (.int k))) (some (.imm (.int q))) (some (.imm (.int one))) (some (.imm (.int oth))) j7)
 have s4:asg 7 (op2 oIx (z01 [(cst .none),(cst .none),(cst (.str "a")),(cst (.str "b")),(cst (.str "back")),(cst (.str "hall")),(cst (.str "win"))]) (op2 oMod (op2 oDiv (nm 4) (cst (.int 64))) (cst (.int 7)))) (envH n R os (some (.imm (.int k))) (some (.imm (.int q))) (some (.imm (.int one))) (some (.imm (.int oth))) j7)=some (.nx (envH n R os (some (.imm (.int k))) (some (.imm (.int q))) (some (.imm (.int one))) (some (.imm (.int oth))) (some (.imm (zT z))))):=by
  have n4:nm 4 (envH n R os (some (.imm (.int k))) (some (.imm (.int q))) (some (.imm (.int one))) (some (.imm (.int oth))) j7)=some (.int q):=rfl
  have hi:op2 oMod (op2 oDiv (nm 4) (cst (.int 64))) (cst (.int 7)) (envH n R os (some (.imm (.int k))) (some (.imm (.int q))) (some (.imm (.int one))) (some (.imm (.int oth))) j7)=some (.int (q / 64 % 7)):=by
   simp only[op2,n4,cst,y0p,zbb (j:=64) (by decide),z35 (j:=7) (by decide)]
  have hh:op2 oIx (z01 [(cst .none),(cst .none),(cst (.str "a")),(cst (.str "b")),(cst (.str "back")),(cst (.str "hall")),(cst (.str "win"))]) (op2 oMod (op2 oDiv (nm 4) (cst (.int 64))) (cst (.int 7))) (envH n R os (some (.imm (.int k))) (some (.imm (.int q))) (some (.imm (.int one))) (some (.imm (.int oth))) j7)=some (zT z):=by
   rw[<- hz]
   unfold op2 at hi ⊢
   simp only[hi,y0p]
  simp only[asg,hh,y1q]
  rfl
 refine⟨((if oth<one then oth else one),(if oth > one then oth else one),z),some (.imm (.int q)),some (.imm (.int one)),some (.imm (.int oth)),some (.imm (zT z)),⟨?_,?_,?_,hzn⟩,?_⟩
 ·dsimp only
  split <;> omega
 ·dsimp only
  split <;> split <;> omega
 ·dsimp only
  split <;> omega
 ·have s5:asg 2 (op2 oAdd (nm 2) (z01 [(z01 [(opN oMin [(nm 5),(nm 6)]),(opN oMax [(nm 5),(nm 6)]),(nmV 7)])])) (envH n R os (some (.imm (.int k))) (some (.imm (.int q))) (some (.imm (.int one))) (some (.imm (.int oth))) (some (.imm (zT z))))=some (.nx (envH n R (os++[((if oth<one then oth else one),(if oth > one then oth else one),z)]) (some (.imm (.int k))) (some (.imm (.int q))) (some (.imm (.int one))) (some (.imm (.int oth))) (some (.imm (zT z))))):=by
   have n5:nm 5 (envH n R os (some (.imm (.int k))) (some (.imm (.int q))) (some (.imm (.int one))) (some (.imm (.int oth))) (some (.imm (zT z))))=some (.int one):=rfl
   have n6:nm 6 (envH n R os (some (.imm (.int k))) (some (.imm (.int q))) (some (.imm (.int one))) (some (.imm (.int oth))) (some (.imm (zT z))))=some (.int oth):=rfl
   have n7:nmV 7 (envH n R os (some (.imm (.int k))) (some (.imm (.int q))) (some (.imm (.int one))) (some (.imm (.int oth))) (some (.imm (zT z))))=some (zT z):=rfl
   have n2:nm 2 (envH n R os (some (.imm (.int k))) (some (.imm (.int q))) (some (.imm (.int one))) (some (.imm (.int oth))) (some (.imm (zT z))))=some (.tuple (os.map opT)):=rfl
   have hb:(os.map opT).length+1<=16777216:=by simp;omega
   simp only[asg,op2,opN,z01,args,n5,n6,n7,n2,y0p,y1q,oMin,oMax,oAdd,y0w,y2d,big]
   simp[hb,envH,opT]
   omega
  unfold bH
  rw[seq_nx s1,seq_nx s2,seq_nx s3,seq_nx s4,s5]
theorem zb7 (n R:Int) (h1:1<=R) (h7:R<=7):∀(ks:List Int) (os:List Op) (j3 j4 j5 j6 j7:Option Sl),(∀k∈ks,0<=k/\k<1000)->os.length+ks.length<1000->(∀o∈os,OpOk R o) ->
  ∃os' j3' j4' j5' j6' j7',os'.length=os.length+ks.length/\(∀o∈os',OpOk R o)/\forL (gNm 3) bH (ks.map .int) (envH n R os j3 j4 j5 j6 j7)=some (.nx (envH n R os' j3' j4' j5' j6' j7'))
 | [],os,j3,j4,j5,j6,j7,_,_,ho=>⟨os,j3,j4,j5,j6,j7,rfl,ho,rfl⟩
 | k::ks,os,j3,j4,j5,j6,j7,hk,hl,ho=>by
  simp only[y0w] at hl
  obtain⟨o,a4,a5,a6,a7,oo,hs⟩:=zj5 n R h1 h7 os (by omega) k (hk k (by simp)) j4 j5 j6 j7
  obtain⟨os',b3,b4,b5,b6,b7,e1,e2,e3⟩:=zb7 n R h1 h7 ks (os++[o]) (some (.imm (.int k))) a4 a5 a6 a7 (fun k' h=>hk k' (by simp[h])) (by simp;omega) fun o' h=>by
   rcases y10.mp h with q|q
   ·exact ho o' q
   ·simp at q
    subst q
    exact oo
  refine⟨os',b3,b4,b5,b6,b7,by rw[e1];simp;omega,e2,?_⟩
  have e0:gNm 3 (.int k) (envH n R os j3 j4 j5 j6 j7)=some (envH n R os (some (.imm (.int k))) j4 j5 j6 j7):=rfl
  simp only[y0d,forL,e0,y0p,hs,e3]
theorem house_eq (n:Int) (hn:0<=n):∃R os,Drawn R os/\d_l_house [.int n]=some (houseT R os):=by
 have hR:0<=n % 7/\n % 7<7:=⟨y2f _ (by decide),y2g _ (by decide)⟩
 have hN:0<=n / 8 % 11/\n / 8 % 11<11:=⟨y2f _ (by decide),y2g _ (by decide)⟩
 have s1:asg 1 (op2 oAdd (cst (.int 1)) (op2 oMod (nm 0) (cst (.int 7)))) [some (.imm (.int n)),none,none,none,none,none,none,none]=some (.nx [some (.imm (.int n)),some (.imm (.int (1+n % 7))),none,none,none,none,none,none]):=by
  have n0:nm 0 [some (.imm (.int n)),none,none,none,none,none,none,none]=some (.int n):=rfl
  simp only[asg,op2,n0,cst,y0p,y1q,z35 (j:=7) (by decide),z2g]
  rfl
 have s2:asg 2 (z01 []) [some (.imm (.int n)),some (.imm (.int (1+n % 7))),none,none,none,none,none,none]=some (.nx (envH n (1+n % 7) [] none none none none none)):=by
  simp[asg,z01,args,big,envH]
 have hit:z26 (op2 oMod (op2 oDiv (nm 0) (cst (.int 8))) (cst (.int 11))) (envH n (1+n % 7) [] none none none none none)=some (((List.range (n / 8 % 11).toNat).map fun (k:Nat)=>(k:Int)).map .int):=by
  have n0:nm 0 (envH n (1+n % 7) [] none none none none none)=some (.int n):=rfl
  have hs:z6d (n / 8 % 11)=true:=by
   unfold z6d
   simp
   omega
  simp only[z26,op2,n0,cst,y0p,zbb (j:=8) (by decide),z35 (j:=11) (by decide),hs,if_true,rng,Int.sub_zero,Int.zero_add,y2h,y16]
 obtain⟨os,b3,b4,b5,b6,b7,e1,e2,e3⟩:=zb7 n (1+n % 7) (by omega) (by omega) ((List.range (n / 8 % 11).toNat).map fun (k:Nat)=>(k:Int)) [] none none none none none (fun k hk=>by
  obtain⟨j,hj,rfl⟩:=y0m.mp hk
  have:=List.mem_range.mp hj
  omega) (by simp;omega) (by simp)
 simp only[y2d,y13,List.length_range] at e1
 refine⟨1+n % 7,os,⟨by omega,by omega,by omega,e2⟩,?_⟩
 have s3:for_ (z26 (op2 oMod (op2 oDiv (nm 0) (cst (.int 8))) (cst (.int 11)))) (gNm 3) bH (envH n (1+n % 7) [] none none none none none)=some (.nx (envH n (1+n % 7) os b3 b4 b5 b6 b7)):=by
  simp only[for_,hit,y0p]
  exact e3
 have s4:seq (for_ (z26 (op2 oMod (op2 oDiv (nm 0) (cst (.int 8))) (cst (.int 11)))) (gNm 3) bH) (rtn (z01 [(nmV 1),(nmV 2)])) (envH n (1+n % 7) [] none none none none none)=some (.rt (houseT (1+n % 7) os)):=by
  rw[seq_nx s3]
  simp[rtn,z01,args,nmV,envH,big,houseT]
 have e0:d_l_house [.int n]=(z5p [some (.imm (.int n)),none,none,none,none,none,none,none]).bind fun o=>match o with|.rt t=>some t|.nx _=>some .none|_=>none:=rfl
 rw[e0]
 unfold z5p
 rw[seq_nx s1,seq_nx s2]
 exact congrArg (fun x:Option Out=>x.bind fun o=>match o with|.rt t=>some t|.nx _=>some .none|_=>none) s4
end Ho
end
section
namespace Fo
open D Co PySem
def rowL (ps:List Str):List Nat:=jn 32 (ps.map ls)++[10]
def txL (rs:List (List Str)):List Nat:=(rs.map rowL).flatten
def tx (rs:List (List Str)):Str:=st (txL rs)
theorem zh9:∀ss:List Str,strsOf (ss.map .str)=some ss
 | []=>rfl
 | s::ss=>by simp[strsOf,zh9 ss]
theorem zk3 {a:Int} (h0:0<=a) (h:a<1000000000):(strI a).length<=100:=by
 have h2:(1000000000:Int)<=W64:=by decide +kernel
 have:=(znx h0 (by omega)).1
 omega
end Fo
end
section
namespace Fo
open D Co PySem
structure Ow (o:Ho.Op):Prop where
 a:0<=o.1/\o.1<1000000000
 b:0<=o.2.1/\o.2.1<1000000000
 z:∀x,o.2.2=some x->x.length<=100/\asc (ls x)
theorem zwf:eqS "ticks" (.str "ticks")=true:=by decide +kernel
theorem zwg:eqS "code" (.str "code")=true:=by decide +kernel
end Fo
end
section
namespace Fo
open D Co PySem
def digB (p:Str):Bool:=decide (1<=p.length) && (ls p).all fun c=>decide (48<=c) && decide (c<=57)
def numT (p:Str):T:=if digB p=true then .int (dv (ls p):Nat) else .none
theorem zpm {p:Str} (h:digB p=true):dig (ls p)/\1<=p.length:=by
 rw[digB,y1b,List.all_eq_true] at h
 exact⟨fun c hc=>by
  have:=h.2 c hc
  rw[y1b,decide_eq_true_eq,decide_eq_true_eq] at this
  exact this,of_decide_eq_true h.1⟩
def bNum:Fs:=asg 1 (op2 oSub (op2 oAdd (op2 oMul (nm 1) (cst (.int 10))) (opN oOrd [(nm 2)])) (opN oOrd [(cst (.str "0"))]))
theorem zos (a:Int) (c:Nat) (s0:Option Sl):bNum [s0,some (.imm (.int a)),some (.imm (chT c))]=some (.nx [s0,some (.imm (.int (a*10+c - 48))),some (.imm (chT c))]):=by
 unfold bNum asg
 have e1:op2 oMul (nm 1) (cst (.int 10)) [s0,some (.imm (.int a)),some (.imm (chT c))]=some (.int (a*10)):=by
  rw[z07 (t:=.int a) rfl rfl]
  exact Co.mul_ok (i:=a) (j:=10) ⟨by decide +kernel,by decide +kernel⟩
 have e2:opN oOrd [(nm 2)] [s0,some (.imm (.int a)),some (.imm (chT c))]=some (.int (c:Nat)):=by
  rw[opN1 (t:=chT c) rfl]
  rfl
 have e3:op2 oAdd (op2 oMul (nm 1) (cst (.int 10))) (opN oOrd [(nm 2)]) [s0,some (.imm (.int a)),some (.imm (chT c))]=some (.int (a*10+c)):=by
  rw[z07 e1 e2]
  rfl
 have e4:opN oOrd [(cst (.str "0"))] [s0,some (.imm (.int a)),some (.imm (chT c))]=some (.int 48):=by
  rw[opN1 (t:=chT 48) rfl]
  rfl
 rw[z07 e3 e4]
 rfl
theorem zot (a c:Nat) (h:48<=c):((a:Int)*10+c - 48)=((a*10+(c - 48):Nat):Int):=by omega
def znz (acc c:Nat):Nat:=acc*10+(c - 48)
theorem zs7 (a c:Nat) (l:List T) (s0 s2:Option Sl) (h:48<=c):forL (gNm 2) bNum (chT c::l) [s0,some (.imm (.int (a:Int))),s2]=forL (gNm 2) bNum l [s0,some (.imm (.int ((znz a c:Nat):Int))),some (.imm (chT c))]:=by
 have e1:((a:Int)*10+(c:Int) - 48)=((znz a c:Nat):Int):=zot a c h
 have e2:=zos (a:Int) c s0
 rw[e1] at e2
 rw[forL,show gNm 2 (chT c) [s0,some (.imm (.int (a:Int))),s2]=some [s0,some (.imm (.int (a:Int))),some (.imm (chT c))] from rfl,y0p,e2,y0p]
theorem zl9:∀(l:List Nat) (a:Nat) (s0 s2:Option Sl),dig l->∃s2',forL (gNm 2) bNum (l.map chT) [s0,some (.imm (.int (a:Int))),s2]=some (.nx [s0,some (.imm (.int ((l.foldl znz a:Nat):Int))),s2'])
 | [],a,s0,s2,_=>⟨s2,rfl⟩
 | c::l,a,s0,s2,h=>by
  have hc:=h c (by simp)
  obtain⟨s2',e⟩:=zl9 l (znz a c) s0 (some (.imm (chT c))) fun x hx=>h x (y05 _ hx)
  refine⟨s2',?_⟩
  rw[y0d,zs7 a c _ s0 s2 hc.1,List.foldl_cons]
  exact e
theorem z2a {p:Str} (hp:asc (ls p)) (hl:p.length<=900000):z9p [.str p]=some (numT p):=by
 unfold z9p runF za3
 show (seq _ _ [some (.imm (.str p)),none,none]).bind _=_
 have hg:gd (.str p)=true:=(z5j (d:=0) hp (by omega)).g
 have e1:opN z1y [(nmV 0),(cst (.int 1)),(opN oLen [(nm 0)]),(cst (.str "0")),(cst (.str "9"))] [some (.imm (.str p)),none,none]=some (.bool (digB p)):=by
  have e0:opN oLen [(nm 0)] [some (.imm (.str p)),none,none]=some (.int p.length):=by
   rw[opN1 (t:=.str p) rfl]
   simp only[oLen]
   rw[if_pos (by unfold big;omega)]
  simp only[opN,args] at e0 ⊢
  simp only[nmV,cst,y2a,y0p,y1q]
  simp only[nm,y2a,y0p,y1q] at e0 ⊢
  rw[e0]
  simp only[y0p,y1q]
  have:=zf5 (t:=.str p) (lo:=1) (hi:=p.length) (a:=48) (b:=57) hg
  rw[show ([.str p,.int 1,.int p.length,.str "0",.str "9"]:List T)=[.str p,.int 1,.int p.length,chT 48,chT 57] from rfl,this]
  simp only[z7k,digB]
  rw[decide_eq_true (show (p.length:Int)<=p.length by omega),Bool.and_true]
  congr 3
  congr 1
  apply propext
  omega
 rw[z0u (z09 (z04 e1))]
 unfold numT
 cases hd:digB p with
 | false =>
  rw[if_pos (by rfl),z11 (t:=.none) rfl,if_neg (by simp)]
  rfl
 | true =>
  rw[if_neg (by simp),if_pos rfl]
  obtain⟨h1,h2⟩:=zpm hd
  rw[Co.seq_nx (ε':=[some (.imm (.str p)),some (.imm (.int 0)),none]) rfl]
  obtain⟨s2',e2⟩:=zl9 (ls p) 0 (some (.imm (.str p))) none h1
  have e3:for_ (itA (nmV 0)) (gNm 2) bNum [some (.imm (.str p)),some (.imm (.int 0)),none]=some (.nx [some (.imm (.str p)),some (.imm (.int (dv (ls p):Nat))),s2']):=by
   unfold for_
   rw[show itA (nmV 0) [some (.imm (.str p)),some (.imm (.int 0)),none]=some ((ls p).map chT) by
    simp only[itA,nmV,y2a,y0p]
    rw[if_pos ((z3d p).mpr hp)]
    rfl]
   exact e2
  show (seq (for_ (itA (nmV 0)) (gNm 2) bNum) (rtn (nm 1)) _).bind _=_
  rw[Co.seq_nx e3]
  rfl
theorem z48 {α:Type} {l:List α} {a b:Option Int} {x:α} (h:x∈cutZ l a b):x∈l:=by
 unfold cutZ at h
 exact List.mem_of_mem_drop (List.mem_of_mem_take h)
theorem cut_len {α:Type} (l:List α) (a b:Option Int):(cutZ l a b).length<=l.length:=by
 unfold cutZ
 rw[List.length_take,List.length_drop]
 omega
end Fo
end
section
namespace Fo
open D Co PySem
theorem z43 {x:Str} (h:z1v (.str x)=true):1<=x.length/\x.length<=4/\∀c∈ls x,97<=c/\c<=122:=by
 simp only[z1v,z7k,y1b,decide_eq_true_eq,List.all_eq_true] at h
 exact⟨by omega,by omega,h.2⟩
theorem z7s {x:Str} (h:figB (.str x)=true):x.length=4/\∀c∈ls x,48<=c/\c<=57:=by
 simp only[figB,z7k,y1b,decide_eq_true_eq,List.all_eq_true] at h
 exact⟨by omega,h.2⟩
theorem z4n {x:Str} (h:z1v (.str x)=true):asc (ls x):=fun a ha=>by
 have:=(z43 h).2.2 a ha
 omega
theorem zhk {l:List Str} {x:Str} (n:Nat) (h:(l.all fun s=>decide (s.length<=n))=true) (hx:x∈l):x.length<=n:=of_decide_eq_true (List.all_eq_true.mp h x hx)
theorem zlr {x:Str} (h:x∈z36):x.length<=100/\asc (ls x):=⟨zhk 100 (by decide +kernel) h,zad x h⟩
structure Pv (p:Pl):Prop where
 z1:1<=p.zones.length
 z8:p.zones.length<=8
 zs:∀z∈p.zones,z1v (.str z.1)=true/\z.2∈z36
 zr:z1a (p.zones.map (·.1))=true
 c1:1<=p.codes.length
 c6:p.codes.length<=6
 cs:∀k∈p.codes,figB (.str k.fig)=true/\z1v (.str k.who)=true/\k.rights.length<=3/\(∀r∈k.rights,r∈z0m)/\z1a k.rights=true/\0<=k.uses/\k.uses<=9
 cr:z1a (p.codes.map (·.fig))=true
 t1:0<=p.leave/\p.leave<=60
 t2:0<=p.come/\p.come<=60
 t3:1<=p.loud/\p.loud<=300
structure Hv (R:Int) (os:List Ho.Op):Prop where
 r:1<=R/\R<=7
 l:os.length<=10
 o:∀o∈os,0<=o.1/\o.1<o.2.1/\o.2.1<=R/\∀x,o.2.2=some x->z1v (.str x)=true
theorem eq_str {a b:Str} (ha:asc (ls a)) (hb:asc (ls b)):oEq (.str a) (.str b)=some (.bool (decide (a=b))):=by
 have h:∀s:Str,asc (ls s)->okT (.str s)=true:=fun s hs=>Co.okN.okT (d:=0) ⟨by rw[PyData.canLay0];exact z6y hs,by rw[y24];omega⟩
 simp only[oEq,h a ha,h b hb,Bool.and_self,if_true,zc7]
 rfl
def hd (s:Str) (ps:List Str):Bool:=decide (ps.head?=some s)
end Fo
end
section
namespace Fo
open D Co PySem
noncomputable def evOk (p:Pl):Et->Prop
 | .line z w=>z∈z2j p/\w∈zb4
 | .code f d z=>figB (.str f)=true/\((z=none/\d∈(["set","unset"]:List Str))\/∃x,z=some x/\x∈z2j p/\d∈(["shunt","free"]:List Str))
 | .ticks n=>1<=n
structure PokN (p:Pl):Prop where
 ok:Pok p
 n:∀s∈z2j p,s.length<=4
end Fo
end
section
namespace Fo
open D Co PySem
theorem z71:∀{ss:List Str},ss.Pairwise (fun a b=>strLt a b=true)->z1a ss=true
 | [],_=>rfl
 | [x],_=>rfl
 | x::y::r,h=>by
  rw[y18] at h
  simp only[z1a,h.1 y (by simp),Bool.true_and]
  exact z71 h.2
theorem pw_z:(zN.map (·.2)).Pairwise (fun a b=>strLt a b=true):=by decide +kernel
theorem pw_c:(cN.map (·.2)).Pairwise (fun a b=>strLt a b=true):=by decide +kernel
theorem pw_r:z0m.Pairwise (fun a b=>strLt a b=true):=by decide +kernel
theorem zbh {l:List Str} {f:Str->Bool} (h:l.all f=true) {x:Str} (hx:x∈l):f x=true:=List.all_eq_true.mp h x hx
theorem n_z:(zN.map (·.2)).all (fun s=>z1v (.str s))=true:=by decide +kernel
theorem n_c:(cN.map (·.2)).all (fun s=>figB (.str s))=true:=by decide +kernel
theorem n_w:whos.all (fun s=>z1v (.str s))=true:=by decide +kernel
theorem n_k:kinds.all (fun s=>decide (s∈z36))=true:=by decide +kernel
theorem zoa {p:Pl} (h:DP p):Pv p:=by
 refine⟨?_,h.zl,fun z hz=>⟨?_,?_⟩,z71 (pw_z.sublist h.zs),?_,h.cl,fun k hk=>?_,z71 (pw_c.sublist h.cs),?_,?_,?_⟩
 ·have:=List.length_pos_iff.mpr h.z0
  omega
 ·exact zbh n_z (h.zs.subset (y0m.mpr ⟨z,hz,rfl⟩))
 ·exact of_decide_eq_true (zbh n_k (h.zk z hz))
 ·have:=List.length_pos_iff.mpr h.c0
  omega
 ·obtain⟨h1,h2,h3⟩:=h.ck k hk
  refine⟨zbh n_c (h.cs.subset (y0m.mpr ⟨k,hk,rfl⟩)),zbh n_w h1,h2.length_le,fun r hr=>h2.subset hr,z71 (pw_r.sublist h2),?_,?_⟩
  ·simp only[y09,y28,or_false] at h3
   omega
  ·simp only[y09,y28,or_false] at h3
   omega
 ·have:=h.tl
  simp only[y09,y28,or_false] at this
  omega
 ·have:=h.tc
  simp only[y09,y28,or_false] at this
  omega
 ·have:=h.to
  simp only[y09,y28,or_false] at this
  omega
theorem zu3 {p:Pl} (h:Pv p):PokN p:=by
 refine⟨⟨fun s hs=>?_,?_⟩,fun s hs=>?_⟩
 ·obtain⟨z,hz,rfl⟩:=y0m.mp hs
  exact z4n (h.zs z hz).1
 ·have:=h.z8
  omega
 ·obtain⟨z,hz,rfl⟩:=y0m.mp hs
  have:=z43 (h.zs z hz).1
  omega
theorem zk4 {a:Int} {k:Nat} (h0:0<=a) (hk:0<k) (h:a.toNat<10 ^ k):(strI a).length<=k:=by
 rw[zbj h0,z1r,zf7,y13]
 exact (Nat.length_toDigits_le_iff (by decide) hk).mpr h
theorem zwb {R:Int} {os:List Ho.Op} (h:Ho.Drawn R os):Hv R os:=by
 refine⟨⟨h.r1,h.r7⟩,h.len,fun o ho=>?_⟩
 obtain⟨h1,h2,h3,h4⟩:=h.ok o ho
 refine⟨h1,h2,h3,fun x hx=>zbh (l:=Ho.names5) (f:=fun s=>z1v (.str s)) (by decide +kernel) (h4 x hx)⟩
theorem f_5:zj7.all (fun s=>figB (.str s))=true:=by decide +kernel
theorem zsm {p:Pl} {e:Et} (h:DE p e):evOk p e:=by
 cases e with
 | line z w =>
  refine⟨h.1,?_⟩
  have:=h.2
  simp only[y09,y28,or_false] at this
  rcases this with rfl|rfl|rfl|rfl
  ·decide
  ·decide
  ·decide
  ·decide
 | code f d z =>
  refine⟨zbh f_5 h.1,?_⟩
  rcases h.2 with ⟨h1,h2⟩|⟨h1,x,h2,h3⟩
  ·refine .inl ⟨h2,?_⟩
   rcases h1 with rfl|rfl
   ·decide
   ·decide
  ·refine .inr ⟨x,h2,h3,?_⟩
   rcases h1 with rfl|rfl
   ·decide
   ·decide
 | ticks n=>exact h.1
theorem DE.tick {p:Pl} {e:Et} (h:DE p e):∀n,e=.ticks n->n<=1000000000:=fun n en=>by
 subst en
 exact h.2
theorem zj6 (n:Int):Fo.d_l_house [.int n]=Ho.d_l_house [.int n]:=rfl
end Fo
end
section
namespace Fo
open D Co PySem
def okP (q:Str):Prop:=32∉ls q/\10∉ls q
structure Cl (ps:List Str):Prop where
 ne:ps≠[]
 p:∀q∈ps,okP q
theorem zod {p:Pl} (h:Pv p):z52 (encP p)=true:=by
 have hz:z3y (.tuple (p.zones.map encZ))=true:=by
  simp only[z3y,y1b,decide_eq_true_eq,y13,List.all_eq_true]
  refine⟨⟨⟨h.z1,h.z8⟩,fun t ht=>?_⟩,?_⟩
  ·obtain⟨z,hz,rfl⟩:=y0m.mp ht
   obtain⟨h1,h2⟩:=h.zs z hz
   simp only[z65,encZ,h1,inB,decide_eq_true h2,Bool.and_self]
  ·rw[y2h]
   exact h.zr
 have hc:z46 (.tuple (p.codes.map z1x))=true:=by
  simp only[z46,y1b,decide_eq_true_eq,y13,List.all_eq_true]
  refine⟨⟨⟨h.c1,h.c6⟩,fun t ht=>?_⟩,?_⟩
  ·obtain⟨k,hk,rfl⟩:=y0m.mp ht
   obtain⟨h1,h2,h3,h4,h5,h6,h7⟩:=h.cs k hk
   have hr:z57 (.tuple (k.rights.map .str))=true:=by
    simp only[z57,y1b,decide_eq_true_eq,y13,List.all_eq_true]
    refine⟨h3,fun t ht=>?_,?_⟩
    ·obtain⟨r,hr,rfl⟩:=y0m.mp ht
     exact decide_eq_true (h4 r hr)
    ·rw[y2h,show txS ∘ y1v=id from rfl,List.map_id]
     exact h5
   simp only[codeB,z1x,h1,h2,hr,z0b,decide_eq_true h6,decide_eq_true h7,Bool.and_self]
  ·rw[y2h]
   exact h.cr
 have t1:=h.t1
 have t2:=h.t2
 have t3:=h.t3
 simp only[z52,encP,hz,hc,z6x,z0b,decide_eq_true t1.1,decide_eq_true t1.2,decide_eq_true t2.1,decide_eq_true t2.2,decide_eq_true t3.1,decide_eq_true t3.2,Bool.and_self]
theorem zm8 {R:Int} {os:List Ho.Op} (h:Hv R os):z1w (Ho.houseT R os)=true:=by
 have hr:=h.r
 simp only[z1w,Ho.houseT,z0b,decide_eq_true hr.1,decide_eq_true hr.2,Bool.and_self,Bool.true_and,y1b,decide_eq_true_eq,y13,List.all_eq_true]
 refine⟨h.l,fun t ht=>?_⟩
 obtain⟨o,ho,rfl⟩:=y0m.mp ht
 obtain⟨h1,h2,h3,h4⟩:=h.o o ho
 have hz:(zah (Ho.zT o.2.2) || z1v (Ho.zT o.2.2))=true:=by
  cases hz:o.2.2 with
  | none=>rfl
  | some x =>
   rw[Bool.or_eq_true]
   exact .inr (h4 x hz)
 simp only[z5c,Ho.opT,z0b,hz,Bool.and_true,y1b,decide_eq_true_eq]
 omega
theorem zmh {p:Pl} {e:Et} (h:evOk p e):z2x p (encE e)=true:=by
 unfold z2x
 cases e with
 | line z w =>
  rw[Bool.or_eq_true]
  left
  simp only[z6k,encE,inB,decide_eq_true h.1,decide_eq_true h.2,Bool.and_self,Bool.and_true]
  decide +kernel
 | code f d z =>
  rw[Bool.or_eq_true,Bool.or_eq_true]
  right
  left
  obtain⟨h1,h2⟩:=h
  simp only[z30,encE,h1,Bool.true_and]
  rw[show eqS "code" (.str "code")=true from zwg,Bool.true_and]
  rcases h2 with ⟨rfl,h2⟩|⟨x,rfl,h3,h2⟩
  ·rw[if_pos (show inB ["set","unset"] (.str d)=true from decide_eq_true h2)]
   rfl
  ·have hn:¬(inB ["set","unset"] (.str d)=true):=by
    intro hq
    have hq':=of_decide_eq_true (show decide (d∈(["set","unset"]:List Str))=true from hq)
    simp only[y09,y28,or_false] at hq' h2
    rcases hq' with rfl|rfl <;> rcases h2 with h2|h2 <;> revert h2 <;> decide +kernel
   rw[if_neg hn,y1b]
   exact⟨decide_eq_true h2,decide_eq_true h3⟩
 | ticks n =>
  rw[Bool.or_eq_true,Bool.or_eq_true]
  right
  right
  simp only[z3e,encE,z68,posB,Bool.true_and,y1b]
  exact⟨zwf,decide_eq_true h⟩
end Fo
end
section
namespace Fo
open D Co PySem
theorem ne_self {d:Nat} {f g:Fe} {ε:Ev} {t:T} (hf:f ε=some t) (hg:g ε=some t) (h:Gd d t) (hd:d<=60:=by decide):tstB (op2 oNe f g) ε=some false:=by
 refine z04 ?_
 rw[z07 hf hg]
 exact Co.oNe_self h.okN hd
theorem orF {ft gt:Ft} {ε:Ev} (h1:ft ε=some false) (h2:gt ε=some false):orT ft gt ε=some false:=z0w (a:=false) (b:=false) h1 fun _=>h2
theorem z8v {ft:Ft} {s1 s2:Fs} {ε:Ev} (h:ft ε=some false):seq (iff ft s1 skip) s2 ε=s2 ε:=by rw[z0u h,if_neg (by simp)]
theorem opN3 {d:List T->Option T} {f g h:Fe} {ε:Ev} {t u v:T} (h1:f ε=some t) (h2:g ε=some u) (h3:h ε=some v):opN d [f,g,h] ε=d [t,u,v]:=by simp[opN,args,h1,h2,h3]
theorem z2f {i:Nat} {f:Fe} {ε:Ev} {t:T} (h:f ε=some t):asg i f ε=some (.nx (ε.set i (some (.imm t)))):=by simp[asg,h]
end Fo
end
section
namespace Fo
open D Co PySem
theorem zfa {f:Fe} {ε:Ev} {x:Str} {lo hi:Ev->Option (Option Int)} {a b:Option Int} (hf:f ε=some (.str x)) (h1:lo ε=some a) (h2:hi ε=some b) (hl:x.length<=1000000):z0g f lo hi ε=some (.str (st (cutZ (ls x) a b))):=by
 simp only[z0g,hf,h1,h2,y0p,oSlA]
 rw[if_pos (by unfold big;omega)]
 rfl
theorem add_l {f g:Fe} {ε:Ev} {a b:List T} (hf:f ε=some (.list a)) (hg:g ε=some (.list b)) (hl:a.length+b.length<=1000000):op2 oAdd f g ε=some (.list (a++b)):=by
 rw[z07 hf hg]
 simp only[oAdd]
 rw[if_pos (by unfold big;omega)]
end Fo
end
section
namespace K01
open D Co Fo PySem
local instance:Tbl:=⟨[],fun _=>[],fun _=>none⟩
theorem z2a {t:T} {lo hi:Int} (h:gd t=true):z0h [t,.int lo,.int hi]=some (.bool (z0b t lo hi)):=by
 refine z58 ?_
 show andV _ _ [some (.imm t),some (.imm (.int lo)),some (.imm (.int hi))]=_
 have e1:=z4c "int" h
 have e2:=z4c "bool" h
 cases t with
 | int i =>
  refine (z0c (a:=true) (b:=true && (decide (lo<=i) && decide (i<=hi))) (by rw[z0y (t:=.int i) rfl];exact e1) fun _=>z0c (zla (a:=false) (by rw[z0y (t:=.int i) rfl];exact e2)) fun _=>z61 rfl rfl rfl).trans ?_
  simp[z0b]
 | bool b =>
  exact (z0c (a:=true) (b:=false) (by rw[z0y (t:=.bool b) rfl];exact e1) fun _=>z0c (a:=false) (b:=true) (zla (a:=true) (by rw[z0y (t:=.bool b) rfl];exact e2)) fun z=>by cases z).trans rfl
 | dict d=>simp[gd] at h
 | none=>exact (z0c (a:=false) (b:=true) (by rw[z0y (t:=.none) rfl];exact e1) fun z=>by cases z).trans rfl
 | str x=>exact (z0c (a:=false) (b:=true) (by rw[z0y (t:=.str x) rfl];exact e1) fun z=>by cases z).trans rfl
 | tuple x=>exact (z0c (a:=false) (b:=true) (by rw[z0y (t:=.tuple x) rfl];exact e1) fun z=>by cases z).trans rfl
 | list x=>exact (z0c (a:=false) (b:=true) (by rw[z0y (t:=.list x) rfl];exact e1) fun z=>by cases z).trans rfl
def tupN (t:T) (n:Nat):Bool:=match t with
 | .tuple ts=>decide (ts.length=n)
 | _=>false
theorem zjw {t:T} {n:Nat} (h:gd t=true):z1b [t,.int (n:Int)]=some (.bool (tupN t n)):=by
 refine z58 ?_
 show andV _ _ [some (.imm t),some (.imm (.int (n:Int)))]=_
 have e1:=z4c "tuple" h
 cases t with
 | tuple x =>
  refine (z0c (a:=true) (b:=decide (x.length=n)) (by rw[z0y (t:=.tuple x) rfl];exact e1) fun _=>?_).trans rfl
  rw[z07 (t:=.int x.length) (u:=.int n) (by rw[opN1 (t:=.tuple x) rfl];rfl) rfl,Co.oEq_int]
  congr 2
  exact decide_eq_decide.mpr (by omega)
 | dict d=>simp[gd] at h
 | none=>exact (z0c (a:=false) (b:=true) (by rw[z0y (t:=.none) rfl];exact e1) fun z=>by cases z).trans rfl
 | bool x=>exact (z0c (a:=false) (b:=true) (by rw[z0y (t:=.bool x) rfl];exact e1) fun z=>by cases z).trans rfl
 | int x=>exact (z0c (a:=false) (b:=true) (by rw[z0y (t:=.int x) rfl];exact e1) fun z=>by cases z).trans rfl
 | str x=>exact (z0c (a:=false) (b:=true) (by rw[z0y (t:=.str x) rfl];exact e1) fun z=>by cases z).trans rfl
 | list x=>exact (z0c (a:=false) (b:=true) (by rw[z0y (t:=.list x) rfl];exact e1) fun z=>by cases z).trans rfl
theorem z95 {t s:T} {ss:List Str} {d:Nat} (h:Gd d t) (hd:d<=60) (hs:s=.tuple (ss.map .str)\/s=.list (ss.map .str)) (ha:∀x∈ss,asc (ls x)):z14 [t,s]=some (.bool (inB ss t)):=by
 refine z58 ?_
 show andV _ _ [some (.imm t),some (.imm s)]=_
 have e1:=z4c "str" h.g
 cases t with
 | str x =>
  refine (z0c (a:=true) (b:=inB ss (.str x)) (by rw[z0y (t:=.str x) rfl];exact e1) fun _=>?_).trans rfl
  rw[z07 (t:=.str x) (u:=s) rfl rfl]
  rcases hs with rfl|rfl
  ·exact zb6 ha h hd
  ·exact zql ha h hd
 | dict x=>have:=h.g;simp[gd] at this
 | none=>exact (z0c (a:=false) (b:=true) (by rw[z0y (t:=.none) rfl];exact e1) fun z=>by cases z).trans rfl
 | bool x=>exact (z0c (a:=false) (b:=true) (by rw[z0y (t:=.bool x) rfl];exact e1) fun z=>by cases z).trans rfl
 | int x=>exact (z0c (a:=false) (b:=true) (by rw[z0y (t:=.int x) rfl];exact e1) fun z=>by cases z).trans rfl
 | tuple x=>exact (z0c (a:=false) (b:=true) (by rw[z0y (t:=.tuple x) rfl];exact e1) fun z=>by cases z).trans rfl
 | list x=>exact (z0c (a:=false) (b:=true) (by rw[z0y (t:=.list x) rfl];exact e1) fun z=>by cases z).trans rfl
theorem zke {ε:Ev} {x:Str} {a b:Nat} {ca cb:Fe} (h0:nmV 0 ε=some (.str x)) (hx:asc (ls x)) (hl:x.length<=1000000) (ha:∀ε,ca ε=some (chT a)) (hb:∀ε,cb ε=some (chT b)):op2 oEq (comp 1 [] (itA (nmV 0)) (gNm 0) (notT (tstB (chain oLe oLe ca (nm 0) cb))) (nmV 0)) (z0p []) ε=some (.bool ((ls x).all fun c=>decide (a<=c) && decide (c<=b))):=by
 have e1:comp 1 [] (itA (nmV 0)) (gNm 0) (notT (tstB (chain oLe oLe ca (nm 0) cb))) (nmV 0) ε=some (.list ((((ls x).map chT).filter fun t=>match t with|.str y=>!(decide (a<=y.cps.getD 0 0) && decide (y.cps.getD 0 0<=b))|_=>false).map id)):=by
  refine zqp (ts:=(ls x).map chT) (by simp[itA,h0,(z3d x).mpr hx,ls]) (by rw[y13,<- z1r];unfold big;omega) (fun t ht=>?_) fun t ht _=>rfl
  obtain⟨c,hc,rfl⟩:=y0m.mp ht
  exact z09 (z04 (zhw (ha _) rfl (hb _)))
 have hg:∀l:List Nat,asc l->okT (.list (l.map chT))=true:=fun l hl=>by
  have:Gd 1 (.list (l.map chT)):=Gd.mk_lst fun t ht=>by
   obtain⟨c,hc,rfl⟩:=y0m.mp ht
   exact z5j (x:=⟨#[c]⟩) (fun a ha=>by
    have:a=c:=by simpa [ls] using ha
    rw[this]
    exact hl c hc) (by show (1:Nat)<=_;omega)
  exact this.okT (by omega)
 have e2:(((ls x).map chT).filter fun t=>match t with|.str y=>!(decide (a<=y.cps.getD 0 0) && decide (y.cps.getD 0 0<=b))|_=>false).map id=((ls x).filter fun c=>!(decide (a<=c) && decide (c<=b))).map chT:=by
  rw[List.map_id,List.filter_map]
  rfl
 rw[e2] at e1
 rw[z07 e1 (u:=.list []) rfl]
 simp only[oEq]
 rw[hg _ (za9 hx fun y hy=>(List.mem_filter.mp hy).1),show okT (.list [])=true from rfl,Bool.and_self,if_pos rfl]
 congr 2
 cases hq:(ls x).all fun c=>decide (a<=c) && decide (c<=b) with
 | true =>
  have:(ls x).filter (fun c=>!(decide (a<=c) && decide (c<=b)))=[]:=by
   rw[List.filter_eq_nil_iff]
   intro c hc
   rw[List.all_eq_true.mp hq c hc]
   simp
  rw[this]
  rfl
 | false =>
  have:(ls x).filter (fun c=>!(decide (a<=c) && decide (c<=b)))≠[]:=by
   intro e
   rw[List.filter_eq_nil_iff] at e
   have:(ls x).all (fun c=>decide (a<=c) && decide (c<=b))=true:=List.all_eq_true.mpr fun c hc=>by
    have:=e c hc
    simpa using this
   rw[hq] at this
   cases this
  cases hz:(ls x).filter (fun c=>!(decide (a<=c) && decide (c<=b))) with
  | nil=>exact absurd hz this
  | cons c r=>rfl
theorem zf3 {t:T} (h:gd t=true):z1z [t]=some (.bool (z1v t)):=by
 unfold z1z runF zi1
 show (seq _ _ [some (.imm t)]).bind _=_
 cases t with
 | str x =>
  rw[gd,y1b] at h
  have hx:=(z3d x).mp h.1
  have hl:=of_decide_eq_true h.2
  have hle:chain oLe oLe (cst (.int 1)) (opN oLen [(nm 0)]) (cst (.int 4)) [some (.imm (.str x))]=some (.bool (decide ((1:Int)<=x.length) && decide ((x.length:Int)<=4))):=z61 rfl (by rw[opN1 (t:=.str x) rfl];simp only[oLen];rw[if_pos (by unfold big;omega)]) rfl
  rw[z0u (z0w (a:=false) (z09 (a:=true) (z04 rfl)) fun _=>z09 (z04 hle))]
  have hs:=zke (ε:=[some (.imm (.str x))]) (a:=97) (b:=122) (ca:=cst (.str "a")) (cb:=cst (.str "z")) rfl hx hl (fun _=>rfl) (fun _=>rfl)
  cases hq:(decide ((1:Int)<=x.length) && decide ((x.length:Int)<=4)) with
  | false =>
   rw[if_pos (by rfl),z11 (t:=.bool false) rfl]
   simp only[y0p,z1v,z7k,hq,Bool.false_and]
  | true =>
   rw[if_neg (by simp)]
   simp only[rtn]
   rw[hs]
   simp only[y1q,y0p,z1v,z7k,hq,Bool.true_and]
 | dict d=>simp[gd] at h
 | _ =>
  rw[z0u (a:=true) (by
   refine z0w (a:=true) (b:=false) (z09 (a:=false) (z04 rfl)) fun z=>by cases z)]
  rfl
theorem zmd {t:T} (h:gd t=true):z4t [t]=some (.bool (figB t)):=by
 refine z58 ?_
 show andV _ _ [some (.imm t)]=_
 have e1:=z4c "str" h
 cases t with
 | str x =>
  rw[gd,y1b] at h
  have hx:=(z3d x).mp h.1
  have hl:=of_decide_eq_true h.2
  have hs:=zke (ε:=[some (.imm (.str x))]) (a:=48) (b:=57) (ca:=cst (.str "0")) (cb:=cst (.str "9")) rfl hx hl (fun _=>rfl) (fun _=>rfl)
  refine (z0c (a:=true) (b:=decide ((x.length:Int)=4) && (ls x).all fun c=>decide (48<=c) && decide (c<=57)) (by rw[z0y (t:=.str x) rfl];exact e1) fun _=>z0c ?_ fun _=>hs).trans ?_
  ·rw[z07 (t:=.int x.length) (u:=.int 4) (by rw[opN1 (t:=.str x) rfl];simp only[oLen];rw[if_pos (by unfold big;omega)]) rfl]
   exact Co.oEq_int _ _
  ·simp only[Bool.true_and,figB,z7k]
   congr 2
   congr 1
   rw[<- Bool.decide_and]
   exact decide_eq_decide.mpr (by omega)
 | dict d=>simp[gd] at h
 | none=>exact (z0c (a:=false) (b:=true) (by rw[z0y (t:=.none) rfl];exact e1) fun z=>by cases z).trans rfl
 | bool x=>exact (z0c (a:=false) (b:=true) (by rw[z0y (t:=.bool x) rfl];exact e1) fun z=>by cases z).trans rfl
 | int x=>exact (z0c (a:=false) (b:=true) (by rw[z0y (t:=.int x) rfl];exact e1) fun z=>by cases z).trans rfl
 | tuple x=>exact (z0c (a:=false) (b:=true) (by rw[z0y (t:=.tuple x) rfl];exact e1) fun z=>by cases z).trans rfl
 | list x=>exact (z0c (a:=false) (b:=true) (by rw[z0y (t:=.list x) rfl];exact e1) fun z=>by cases z).trans rfl
theorem zea {g:Fg} {body:Fs} {P:T->Bool} {E:Option Sl->Ev} (hg:∀t s,g t (E s)=some (E (some (.imm t)))):∀(ts:List T) (s:Option Sl),(∀t∈ts,body (E (some (.imm t)))=if P t=true then some (.nx (E (some (.imm t)))) else some (.rt (.bool false))) ->
  (ts.all P=true/\∃s',forL g body ts (E s)=some (.nx (E s')))\/(ts.all P=false/\forL g body ts (E s)=some (.rt (.bool false)))
 | [],s,_=>.inl ⟨rfl,s,rfl⟩
 | t::ts,s,h=>by
  have h1:=h t (by simp)
  cases hp:P t with
  | true =>
   rw[hp,if_pos rfl] at h1
   rcases zea hg ts (some (.imm t)) fun u hu=>h u (y05 _ hu) with ⟨a,s',e⟩|⟨a,e⟩
   ·refine .inl ⟨by rw[List.all_cons,hp,a];rfl,s',?_⟩
    rw[forL,hg,y0p,h1,y0p]
    exact e
   ·refine .inr ⟨by rw[List.all_cons,hp,a];rfl,?_⟩
    rw[forL,hg,y0p,h1,y0p]
    exact e
  | false =>
   rw[hp,if_neg (by simp)] at h1
   refine .inr ⟨by rw[List.all_cons,hp];rfl,?_⟩
   rw[forL,hg,y0p,h1,y0p]
theorem lt_trans {x y z:Str} (h1:strLt x y=true) (h2:strLt y z=true):strLt x z=true:=by
 simp only[strLt,decide_eq_true_eq] at *
 exact List.lt_trans h1 h2
theorem zul (x:Str):strLt x x=false:=by
 simp only[strLt,decide_eq_false_iff_not]
 exact List.lt_irrefl _
theorem zhd:∀{ss:List Str},z1a ss=true->ss.Pairwise (fun a b=>strLt a b=true)
 | [],_=>.nil
 | [x],_=>by simp
 | x::y::r,h=>by
  rw[z1a,y1b] at h
  have ih:=zhd h.2
  refine y18.mpr ⟨fun z hz=>?_,ih⟩
  rcases y09.mp hz with rfl|hz
  ·exact h.1
  ·exact lt_trans h.1 ((y18.mp ih).1 z hz)
theorem zd4 (ss:List Str):z4h (dedup ss)=ss <-> z1a ss=true:=by
 constructor
 ·intro e
  refine z71 ?_
  have h1:ss.Pairwise sLe:=e▸z8i (dedup ss)
  have h2:ss.Nodup:=by
   have:=(z2l (dedup ss)).nodup_iff.mpr (z4q ss)
   rw[e] at this
   exact this
  refine (h1.and h2).imp fun {a b} ⟨ha,hb⟩=>?_
  cases hq:strLt a b with
  | true=>rfl
  | false =>
   exfalso
   apply hb
   by_cases hz:sLe b a
   ·exact zhb ha hz
   ·have:=zkh hz
    rw[hq] at this
    cases this
 ·intro h
  have pw:=zhd h
  have nd:ss.Nodup:=pw.imp fun {a b} hab e=>by
   rw[e,zul] at hab
   cases hab
  have pm:ss.Perm (dedup ss):=by
   refine (List.perm_ext_iff_of_nodup nd (z4q ss)).mpr fun a=>?_
   exact z5k.symm
  exact (zbm pm (pw.imp fun {a b} hab=>zd2 hab)).symm
theorem zbl {ts:List T} {ss:List Str} (h:ts=ss.map .str) (hl:ss.length<60) {t:T} (ht:t=.list ts\/t=.tuple ts):z16 [t]=some (.list ((z4h (dedup ss)).map .str)):=by
 have e:z16 [t]=z0x [.list ts]:=by rcases ht with rfl|rfl <;> rfl
 rw[e,h]
 simp only[z0x]
 rw[if_pos (by rw[y13];omega)]
 cases ss with
 | nil=>rfl
 | cons x r =>
  rw[show intsOf ((x::r).map y1v)=none from rfl]
  simp only[zh9]
  rfl
theorem zhs (a b:List Str):y1z (.list (a.map .str)) (.list (b.map .str))=decide (a=b):=by
 rw[y1z]
 induction a generalizing b with
 | nil=>cases b <;> simp[PyData.eqvAll]
 | cons x a ih =>
  cases b with
  | nil=>simp[PyData.eqvAll]
  | cons y b =>
   rw[y0d,y0d,PyData.eqvAll,ih,y1z]
   simp only[List.cons.injEq,Bool.decide_and]
   rfl
theorem zma {ss:List Str} (h:∀x∈ss,asc (ls x)/\x.length<=1000000):Gd 1 (.list (ss.map .str)):=Gd.mk_lst fun t ht=>by
 obtain⟨x,hx,rfl⟩:=y0m.mp ht
 exact z5j (h x hx).1 (h x hx).2
theorem zkb {f g:Fe} {ε:Ev} {ss:List Str} (h:∀x∈ss,asc (ls x)/\x.length<=1000000) (hf:f ε=some (.list (ss.map .str))) (hg:g ε=some (.list ((z4h (dedup ss)).map .str))):tstB (op2 oNe f g) ε=some !(z1a ss):=by
 refine z04 ?_
 have h2:∀x∈z4h (dedup ss),asc (ls x)/\x.length<=1000000:=fun x hx=>h x (z5k.mp ((z2l _).mem_iff.mp hx))
 rw[z07 hf hg]
 simp only[oNe,(zma h).okT (by omega),(zma h2).okT (by omega),Bool.and_self,if_true,zhs]
 congr 3
 cases hr:z1a ss with
 | true=>exact decide_eq_true ((zd4 ss).mpr hr).symm
 | false =>
  refine decide_eq_false fun e=>?_
  have:=(zd4 ss).mp e.symm
  rw[hr] at this
  cases this
theorem z79 {c:Ft} {ε:Ev} {b:Bool} (h:c ε=some b):iff c (rtn (cst (.bool false))) skip ε=if b=true then some (.rt (.bool false)) else some (.nx ε):=by
 simp only[iff,h,y0p]
 cases b <;> rfl
theorem z12 {c:Ft} {g:Fs} {ε:Ev} {b:Bool} (h:c ε=some b):seq (iff c (rtn (cst (.bool false))) skip) g ε=if b=true then some (.rt (.bool false)) else g ε:=by
 rw[z0u h]
 cases b with
 | true=>rw[if_pos rfl,if_pos rfl,z11 (t:=.bool false) rfl]
 | false=>rfl
theorem tN {t:T} {n:Nat} (h:tupN t n=true):tupB t n n=true:=by
 cases t with
 | tuple ts =>
  have:=of_decide_eq_true h
  simp only[tupB,y1b,decide_eq_true_eq]
  omega
 | _=>cases h
theorem tNf {t:T} {n:Nat} (h:tupN t n=false):tupB t n n=false:=by
 cases hb:tupB t n n with
 | false=>rfl
 | true =>
  obtain⟨ts,rfl,hl⟩:=znq hb
  rw[tupN,decide_eq_false_iff_not] at h
  exact absurd hl h
theorem z7j {f:Fe} {ε:Ev} {t:T} {i:Int} (n:Nat) (hi:i=(n:Int)) (hf:f ε=some t) (h:gd t=true):opN z1b [f,cst (.int i)] ε=some (.bool (tupN t n)):=by
 rw[hi,opN2 hf (u:=.int (n:Int)) rfl]
 exact zjw h
noncomputable def bZ:Fs:=(seq (iff (orT (notT (tstB (opN z1b [(nmV 1),(cst (.int 2))]))) (notT (tstB (opN z1z [(op2 oIx (nm 1) (cst (.int 0)))])))) (rtn (cst (.bool false))) skip)
  (iff (notT (tstB (opN z14 [(op2 oIx (nm 1) (cst (.int 1))),(z01 [(cst (.str "day")),(cst (.str "inner")),(cst (.str "once")),(cst (.str "way"))])]))) (rtn (cst (.bool false))) skip))
theorem zwi {s0:Option Sl} {r:Ev} {t:T} {d:Nat} (h:Gd (d+1) t) (hd:d<=50):bZ (s0::some (.imm t)::r)=if z65 t=true then some (.nx (s0::some (.imm t)::r)) else some (.rt (.bool false)):=by
 unfold bZ
 have h1:=z7j (f:=nmV 1) (ε:=s0::some (.imm t)::r) (i:=2) 2 rfl rfl h.g
 cases hb:tupN t 2 with
 | false =>
  rw[hb] at h1
  rw[z12 (z0w (a:=true) (b:=false) (z09 (z04 h1)) fun z=>by cases z),if_pos (by rfl)]
  have:z65 t=false:=by
   have hb:=tNf hb
   unfold z65
   split
   ·simp[tupB] at hb
   ·rfl
  rw[this,if_neg (by simp)]
 | true =>
  rw[hb] at h1
  obtain⟨a,b,rfl⟩:=zi7 (tN hb)
  have ha:=h.tup a (by simp)
  have hb':=h.tup b (by simp)
  have w0:opN z1z [(op2 oIx (nm 1) (cst (.int 0)))] (s0::some (.imm (.tuple [a,b]))::r)=some (.bool (z1v a)):=by rw[opN1 (t:=a) (by rw[z07 (t:=.tuple [a,b]) (u:=.int 0) rfl rfl];exact ix_0)];exact zf3 ha.g
  have w1:opN z14 [(op2 oIx (nm 1) (cst (.int 1))),(z01 [(cst (.str "day")),(cst (.str "inner")),(cst (.str "once")),(cst (.str "way"))])] (s0::some (.imm (.tuple [a,b]))::r)=some (.bool (inB z36 b)):=by
   rw[opN2 (t:=b) (u:=.tuple (z36.map .str)) (by rw[z07 (t:=.tuple [a,b]) (u:=.int 1) rfl rfl];exact ix_1) rfl]
   exact z95 hb' (by omega) (.inl rfl) zad
  rw[z12 (z0w (a:=false) (z09 (z04 h1)) fun _=>z09 (z04 w0)),z79 (z09 (z04 w1))]
  simp only[z65,Bool.false_or]
  by_cases q1:z1v a=true <;> by_cases q2:inB z36 b=true <;> simp[q1,q2]
theorem zqr {ss:List Str}:∀{ts:List T},ts.all (inB ss)=true->∃xs:List Str,ts=xs.map .str/\∀x∈xs,x∈ss
 | [],_=>⟨[],rfl,by simp⟩
 | t::ts,h=>by
  rw[List.all_cons,y1b] at h
  obtain⟨xs,rfl,hx⟩:=zqr h.2
  cases t with
  | str x=>exact⟨x::xs,rfl,fun y hy=>by
    rcases y09.mp hy with rfl|hy
    ·exact of_decide_eq_true h.1
    ·exact hx y hy⟩
  | _=>exact absurd h.1 (by simp[inB])
theorem no4:(z0m.all fun a=>z0m.all fun b=>z0m.all fun c=>z0m.all fun d=>!(strLt a b && (strLt b c && strLt c d)))=true:=by decide +kernel
theorem zj8 {xs:List Str} (h:∀x∈xs,x∈z0m) (hr:z1a xs=true):xs.length<=3:=by
 match xs,h,hr with
 | [],_,_=>simp
 | [_],_,_=>simp
 | [_,_],_,_=>simp
 | [_,_,_],_,_=>simp
 | a::b::c::d::r,h,hr =>
  exfalso
  simp only[z1a,y1b] at hr
  have h1:=List.all_eq_true.mp (List.all_eq_true.mp (List.all_eq_true.mp (List.all_eq_true.mp no4 a (h a (by simp))) b (h b (by simp))) c (h c (by simp))) d (h d (by simp))
  rw[hr.1,hr.2.1,hr.2.2.1] at h1
  cases h1
noncomputable def bC:Fs:=(seq (iff (orT (notT (tstB (opN z1b [(nmV 2),(cst (.int 4))]))) (orT (notT (tstB (opN z4t [(op2 oIx (nm 2) (cst (.int 0)))]))) (notT (tstB (opN z1z [(op2 oIx (nm 2) (cst (.int 1)))]))))) (rtn (cst (.bool false))) skip)
  (seq (iff (orT (notT (tstB (op1 (oIsI "tuple") (op2 oIx (nm 2) (cst (.int 2)))))) (notT (tstB (opN z0h [(op2 oIx (nm 2) (cst (.int 3))),(cst (.int 0)),(cst (.int 9))])))) (rtn (cst (.bool false))) skip)
  (seq (iff (tstB (op2 oNe (comp 1 [] (itA (op2 oIx (nm 2) (cst (.int 2)))) (gNm 0) (notT (tstB (opN z14 [(nmV 0),(z01 [(cst (.str "set")),(cst (.str "shunt")),(cst (.str "unset"))])]))) (nmV 0)) (z0p []))) (rtn (cst (.bool false))) skip)
  (iff (tstB (op2 oNe (opN zag [(op2 oIx (nm 2) (cst (.int 2)))]) (opN z16 [(op2 oIx (nm 2) (cst (.int 2)))]))) (rtn (cst (.bool false))) skip))))
mutual
noncomputable def wd:T->Bool
 | .tuple ts=>decide (ts.length<60) && wdL ts
 | .list ts=>decide (ts.length<60) && wdL ts
 | _=>true
noncomputable def wdL:List T->Bool
 | []=>true
 | t::ts=>wd t && wdL ts
end
theorem zbi:∀{ts:List T},wdL ts=true <-> ∀t∈ts,wd t=true
 | []=>by simp[wdL]
 | t::ts=>by rw[wdL,y1b,zbi];simp
theorem zak {ts:List T} (h:wd (.tuple ts)=true):ts.length<60/\∀t∈ts,wd t=true:=by
 rw[wd,y1b] at h
 exact⟨of_decide_eq_true h.1,zbi.mp h.2⟩
theorem ne_nil {d:Nat} {f:Fe} {ε:Ev} {us:List T} (hf:f ε=some (.list us)) (h:Gd d (.list us)) (hd:d<=60):tstB (op2 oNe f (z0p [])) ε=some !us.isEmpty:=by
 refine z04 ?_
 rw[z07 hf (u:=.list []) rfl]
 simp only[oNe,h.okT hd,show okT (.list [])=true from rfl,Bool.and_self,if_true]
 congr 2
 cases us <;> rfl
theorem zwk {s0 s1:Option Sl} {r:Ev} {t:T} {d:Nat} (h:Gd (d+2) t) (hd:d<=50) (hw:wd t=true):bC (s0::s1::some (.imm t)::r)=if codeB t=true then some (.nx (s0::s1::some (.imm t)::r)) else some (.rt (.bool false)):=by
 unfold bC
 have h1:=z7j (f:=nmV 2) (ε:=s0::s1::some (.imm t)::r) (i:=4) 4 rfl rfl h.g
 cases hb:tupN t 4 with
 | false =>
  rw[hb] at h1
  rw[z12 (z0w (a:=true) (b:=false) (z09 (z04 h1)) fun z=>by cases z),if_pos (by rfl)]
  have:codeB t=false:=by
   have hb:=tNf hb
   unfold codeB
   split
   ·simp[tupB] at hb
   ·rfl
  rw[this,if_neg (by simp)]
 | true =>
  rw[hb] at h1
  obtain⟨f,w,q,u,rfl⟩:=znr (tN hb)
  have hf:=h.tup f (by simp)
  have hw':=h.tup w (by simp)
  have hq:=h.tup q (by simp)
  have hu:=h.tup u (by simp)
  have hwq:=(zak hw).2 q (by simp)
  generalize hE:s0::s1::some (Sl.imm (.tuple [f,w,q,u]))::r=E at *
  have n2:nm 2 E=some (.tuple [f,w,q,u]):=by subst hE;rfl
  have j0:op2 oIx (nm 2) (cst (.int 0)) E=some f:=by rw[z07 n2 (u:=.int 0) rfl];exact ix_0
  have j1:op2 oIx (nm 2) (cst (.int 1)) E=some w:=by rw[z07 n2 (u:=.int 1) rfl];exact ix_1
  have j2:op2 oIx (nm 2) (cst (.int 2)) E=some q:=by rw[z07 n2 (u:=.int 2) rfl];exact ix_2
  have j3:op2 oIx (nm 2) (cst (.int 3)) E=some u:=by rw[z07 n2 (u:=.int 3) rfl];exact ix_3
  rw[z12 (z0w (a:=false) (z09 (z04 h1)) fun _=>z0w (z09 (z04 (by rw[opN1 j0];exact zmd hf.g))) fun _=>z09 (z04 (by rw[opN1 j1];exact zf3 hw'.g)))]
  have w3:opN z0h [(op2 oIx (nm 2) (cst (.int 3))),(cst (.int 0)),(cst (.int 9))] E=some (.bool (z0b u 0 9)):=by rw[opN3 j3 (u:=.int 0) (v:=.int 9) rfl rfl];exact z2a hu.g
  have eI:=z4c "tuple" hq.g
  have k1:orT (notT (tstB (op1 (oIsI "tuple") (op2 oIx (nm 2) (cst (.int 2)))))) (notT (tstB (opN z0h [(op2 oIx (nm 2) (cst (.int 3))),(cst (.int 0)),(cst (.int 9))]))) E=some (!(isI "tuple" q) || !(z0b u 0 9)):=z0w (z09 (z04 (by rw[z0y j2];exact eI))) fun _=>z09 (z04 w3)
  rw[z12 k1]
  simp only[codeB]
  by_cases q1:figB f=false
  ·simp[q1]
  rw[Bool.not_eq_false] at q1
  by_cases q2:z1v w=false
  ·simp[q2]
  rw[Bool.not_eq_false] at q2
  by_cases q3:z0b u 0 9=false
  ·simp[q3]
  rw[Bool.not_eq_false] at q3
  simp only[q1,q2,q3,Bool.not_true,Bool.false_or,Bool.or_false,Bool.true_and,Bool.and_true,y1t,if_false]
  cases q with
  | tuple rs =>
   simp only[show isI "tuple" (.tuple rs)=true from rfl,Bool.not_true,y1t,if_false]
   have hrs:=hq.tup
   have c1:comp 1 [] (itA (op2 oIx (nm 2) (cst (.int 2)))) (gNm 0) (notT (tstB (opN z14 [(nmV 0),(z01 [(cst (.str "set")),(cst (.str "shunt")),(cst (.str "unset"))])]))) (nmV 0) E=some (.list ((rs.filter fun t=>!inB z0m t).map id)):=by
    refine zqp (ts:=rs) (by simp only[itA,j2,y0p]) (by have:=(zak hwq).1;unfold big;omega) (fun t ht=>?_) fun t _ _=>rfl
    refine z09 (z04 ?_)
    rw[opN2 (t:=t) (u:=.tuple (z0m.map .str)) rfl rfl]
    exact z95 (hrs t ht) (by omega) (.inl rfl) z8l
   rw[List.map_id] at c1
   rw[z12 (ne_nil (d:=d+1) c1 (Gd.mk_lst fun t ht=>hrs t (List.mem_filter.mp ht).1) (by omega))]
   cases ha:rs.all (inB z0m) with
   | false =>
    have:(rs.filter fun t=>!inB z0m t).isEmpty=false:=by
     cases he:(rs.filter fun t=>!inB z0m t).isEmpty with
     | false=>rfl
     | true =>
      rw[List.isEmpty_iff,List.filter_eq_nil_iff] at he
      have:rs.all (inB z0m)=true:=List.all_eq_true.mpr fun t ht=>by simpa using he t ht
      rw[ha] at this
      cases this
    rw[this]
    simp[z57,ha]
   | true =>
    have:(rs.filter fun t=>!inB z0m t).isEmpty=true:=by
     rw[List.isEmpty_iff,List.filter_eq_nil_iff]
     intro t ht
     simp[List.all_eq_true.mp ha t ht]
    rw[this]
    simp only[Bool.not_true,y1t,if_false]
    obtain⟨xs,rfl,hx⟩:=zqr ha
    have hxl:xs.length<60:=by have:=(zak hwq).1;simpa using this
    rw[z79 (zkb (ss:=xs) (fun x hx'=>⟨z8l x (hx x hx'),by have:=zhk (l:=z0m) 100 (by decide +kernel) (hx x hx');omega⟩) (by rw[opN1 j2];rfl) (by rw[opN1 j2];exact zbl rfl hxl (.inr rfl)))]
    have e2:(xs.map y1v).map txS=xs:=by rw[y2h];exact (List.map_congr_left fun x _=>rfl).trans (List.map_id _)
    simp only[z57,ha,e2,y13,Bool.true_and]
    cases hr:z1a xs with
    | false=>simp
    | true =>
     have:=zj8 hx hr
     simp[this]
  | dict x=>have:=hq.g;simp[gd] at this
  | _=>rfl
theorem zcw {f g:Fs} {ε:Ev} {t:T} (h:f ε=some (.rt t)):seq f g ε=some (.rt t):=by simp[seq,h]
theorem zus {f:Fe} {ε:Ev} {ts:List T} {lo hi:Int} (hf:f ε=some (.tuple ts)):chain oLe oLe (cst (.int lo)) (opN oLen [f]) (cst (.int hi)) ε=some (.bool (decide (lo<=ts.length) && decide ((ts.length:Int)<=hi))):=z61 rfl (by rw[opN1 hf];rfl) rfl
def risT (t:T):Bool:=match t with
 | .list ts=>z1a (ts.map txS)
 | _=>false
def bR:Fs:=iff (tstB (op2 oNe (nm 3) (opN z16 [(nm 3)]))) (rtn (cst (.bool false))) skip
theorem zve {s0 s1 s2:Option Sl} {r:Ev} {xs:List Str} (h:∀x∈xs,asc (ls x)/\x.length<=1000000) (hl:xs.length<60):bR (s0::s1::s2::some (.imm (.list (xs.map .str)))::r)=if risT (.list (xs.map .str))=true then some (.nx (s0::s1::s2::some (.imm (.list (xs.map .str)))::r)) else some (.rt (.bool false)):=by
 unfold bR
 rw[z79 (zkb (ss:=xs) h rfl (by rw[opN1 (t:=.list (xs.map .str)) rfl];exact zbl rfl hl (.inl rfl)))]
 have e2:(xs.map y1v).map txS=xs:=by rw[y2h];exact (List.map_congr_left fun x _=>rfl).trans (List.map_id _)
 simp only[risT,e2]
 by_cases q:z1a xs=true <;> simp[q]
theorem zc4 (t:T) (h:isI "tuple" t=true) (hg:gd t=true):∃ts,t=.tuple ts:=by
 cases t with
 | tuple ts=>exact⟨ts,rfl⟩
 | dict d=>simp[gd] at hg
 | _=>cases h
theorem fsts {f:Fe} {ε:Ev} {zs:List T} {P:T->Bool} (hf:f ε=some (.tuple zs)) (hl:zs.length<=100) (ha:zs.all P=true) (hP:∀t,P t=true->∃x r,t=.tuple (.str x::r)):comp 1 [] (itA f) (gNm 0) (cstT true) (op2 oIx (nm 0) (cst (.int 0))) ε=some (.list ((zs.map fstS).map .str)):=by
 rw[zeg (ts:=zs) (f:=fun t=>.str (fstS t)) (by simp only[itA,hf,y0p]) (by unfold big;omega) fun t ht=>?_,y2h]
 ·rfl
 ·obtain⟨x,r,rfl⟩:=hP t (List.all_eq_true.mp ha t ht)
  rw[z07 (t:=.tuple (.str x::r)) (u:=.int 0) rfl rfl,ix_0]
  rfl
theorem zj3 {d:Nat} {t:T} (h:Gd (d+4) t) (hd:d<=40) (hw:wd t=true):z4s [t]=some (.bool (z52 t)):=by
 unfold z4s runF za4
 show (seq _ _ [some (.imm t),none,none,none,none,none,none]).bind _=_
 have h1:=z7j (f:=nmV 0) (ε:=[some (.imm t),none,none,none,none,none,none]) (i:=3) 3 rfl rfl h.g
 by_cases hb:tupN t 3=false
 ·rw[hb] at h1
  rw[z12 (z0w (a:=true) (b:=false) (z09 (z04 h1)) fun z=>by cases z),if_pos (by rfl)]
  have:z52 t=false:=by
   have hb:=tNf hb
   unfold z52
   split
   ·simp[tupB] at hb
   ·rfl
  rw[this]
  rfl
 rw[Bool.not_eq_false] at hb
 rw[hb] at h1
 obtain⟨z,c,m,rfl⟩:=zco (tN hb)
 have hz:=h.tup z (by simp)
 have hc:=h.tup c (by simp)
 have hm:=h.tup m (by simp)
 have wz:=(zak hw).2 z (by simp)
 have wc:=(zak hw).2 c (by simp)
 have j0:∀r:Ev,op2 oIx (nm 0) (cst (.int 0)) (some (.imm (.tuple [z,c,m]))::r)=some z:=fun r=>by rw[z07 (t:=.tuple [z,c,m]) (u:=.int 0) rfl rfl];exact ix_0
 have j1:∀r:Ev,op2 oIx (nm 0) (cst (.int 1)) (some (.imm (.tuple [z,c,m]))::r)=some c:=fun r=>by rw[z07 (t:=.tuple [z,c,m]) (u:=.int 1) rfl rfl];exact ix_1
 have j2:∀r:Ev,op2 oIx (nm 0) (cst (.int 2)) (some (.imm (.tuple [z,c,m]))::r)=some m:=fun r=>by rw[z07 (t:=.tuple [z,c,m]) (u:=.int 2) rfl rfl];exact ix_2
 by_cases q0:isI "tuple" z=false
 ·rw[z12 (z0w (a:=false) (z09 (z04 h1)) fun _=>z0w (a:=true) (b:=false) (z09 (a:=false) (z04 (by rw[z0y (j0 _),z4c "tuple" hz.g,q0]))) fun z=>by cases z),if_pos (by rfl)]
  have:z3y z=false:=by cases z <;> first|rfl|cases q0
  simp[z52,this]
 rw[Bool.not_eq_false] at q0
 obtain⟨zs,rfl⟩:=zc4 z q0 hz.g
 rw[z12 (z0w (a:=false) (z09 (z04 h1)) fun _=>z0w (a:=false) (z09 (a:=true) (z04 (by rw[z0y (j0 _),z4c "tuple" hz.g,q0]))) fun _=>z09 (z04 (zus (j0 _))))]
 by_cases q1:(decide ((1:Int)<=zs.length) && decide ((zs.length:Int)<=8))=false
 ·rw[q1,if_pos (by rfl)]
  have:(decide (1<=zs.length) && decide (zs.length<=8))=false:=by
   rw[Bool.and_eq_false_iff,decide_eq_false_iff_not,decide_eq_false_iff_not] at q1 ⊢
   omega
  simp[z52,z3y,this]
 rw[Bool.not_eq_false] at q1
 rw[q1,if_neg (by simp)]
 have hzl:1<=zs.length/\zs.length<=8:=by
  rw[y1b,decide_eq_true_eq,decide_eq_true_eq] at q1
  omega
 by_cases q2:isI "tuple" c=false
 ·rw[z12 (z0w (a:=true) (b:=false) (z09 (a:=false) (z04 (by rw[z0y (j1 _),z4c "tuple" hc.g,q2]))) fun z=>by cases z),if_pos (by rfl)]
  have:z46 c=false:=by cases c <;> first|rfl|cases q2
  simp[z52,this]
 rw[Bool.not_eq_false] at q2
 obtain⟨cs,rfl⟩:=zc4 c q2 hc.g
 rw[z12 (z0w (a:=false) (z09 (a:=true) (z04 (by rw[z0y (j1 _),z4c "tuple" hc.g,q2]))) fun _=>z0w (z09 (z04 (zus (j1 _)))) fun _=>z09 (z04 (z7j (i:=3) 3 rfl (j2 _) hm.g)))]
 by_cases q3:(decide ((1:Int)<=cs.length) && decide ((cs.length:Int)<=6))=false
 ·rw[q3,if_pos (by rfl)]
  have:(decide (1<=cs.length) && decide (cs.length<=6))=false:=by
   rw[Bool.and_eq_false_iff,decide_eq_false_iff_not,decide_eq_false_iff_not] at q3 ⊢
   omega
  simp[z52,z46,this]
 rw[Bool.not_eq_false] at q3
 rw[q3]
 have hcl:1<=cs.length/\cs.length<=6:=by
  rw[y1b,decide_eq_true_eq,decide_eq_true_eq] at q3
  omega
 by_cases q4:tupN m 3=false
 ·rw[q4,if_pos (by rfl)]
  have:z6x m=false:=by
   have hb:=tNf q4
   unfold z6x
   split
   ·simp[tupB] at hb
   ·rfl
  simp[z52,this]
 rw[Bool.not_eq_false] at q4
 rw[q4,if_neg (by simp)]
 obtain⟨a,b,e,rfl⟩:=zco (tN q4)
 have ez:z3y (.tuple zs)=(zs.all z65 && z1a (zs.map fstS)):=by simp[z3y,hzl]
 have ec:z46 (.tuple cs)=(cs.all codeB && z1a (cs.map fstS)):=by simp[z46,hcl]
 have eP:z52 (.tuple [.tuple zs,.tuple cs,.tuple [a,b,e]])=(z3y (.tuple zs) && (z46 (.tuple cs) && z6x (.tuple [a,b,e]))):=rfl
 rcases (zea (g:=gNm 1) (body:=bZ) (P:=z65) (E:=fun s=>[some (.imm (.tuple [.tuple zs,.tuple cs,.tuple [a,b,e]])),s,none,none,none,none,none]) (fun _ _=>rfl) zs none fun t ht=>zwi (d:=d+1) (hz.tup t ht |>.le (by omega)) (by omega)).symm with ⟨az,fz⟩|⟨az,s1,fz⟩
 ·rw[zcw (t:=.bool false) (by unfold for_;simp only[itA];rw[j0];exact fz),eP,ez,az]
  rfl
 rw[Co.seq_nx (ε':=[some (.imm (.tuple [.tuple zs,.tuple cs,.tuple [a,b,e]])),s1,none,none,none,none,none]) (by unfold for_;simp only[itA];rw[j0];exact fz)]
 rcases (zea (g:=gNm 2) (body:=bC) (P:=codeB) (E:=fun s=>[some (.imm (.tuple [.tuple zs,.tuple cs,.tuple [a,b,e]])),s1,s,none,none,none,none]) (fun _ _=>rfl) cs none fun t ht=>zwk (d:=d) (hc.tup t ht |>.le (by omega)) (by omega) ((zak wc).2 t ht)).symm with ⟨ac,fc⟩|⟨ac,s2,fc⟩
 ·rw[zcw (t:=.bool false) (by unfold for_;simp only[itA];rw[j1];exact fc),eP,ec,ac]
  simp
 rw[Co.seq_nx (ε':=[some (.imm (.tuple [.tuple zs,.tuple cs,.tuple [a,b,e]])),s1,s2,none,none,none,none]) (by unfold for_;simp only[itA];rw[j1];exact fc)]
 have hZ:∀x∈zs.map fstS,asc (ls x)/\x.length<=1000000:=fun x hx=>by
  obtain⟨t,ht,rfl⟩:=y0m.mp hx
  obtain⟨y,k,rfl,hk,hy⟩:=z8o (List.all_eq_true.mp az t ht)
  have:=(z43 hy).2.1
  exact⟨z4n hy,by show y.length<=_;omega⟩
 have hC:∀x∈cs.map fstS,asc (ls x)/\x.length<=1000000:=fun x hx=>by
  obtain⟨t,ht,rfl⟩:=y0m.mp hx
  obtain⟨f,w,r,u,rfl,hf,_⟩:=z9w (List.all_eq_true.mp ac t ht)
  have:=(z7s hf).1
  exact⟨fun c hc=>by have:=(z7s hf).2 c hc;omega,by show f.length<=_;omega⟩
 have f1:=fsts (ε:=[some (.imm (.tuple [.tuple zs,.tuple cs,.tuple [a,b,e]])),s1,s2,none,none,none,none]) (j0 _) (by omega) az fun t ht=>by
  obtain⟨y,k,rfl,_⟩:=z8o ht
  exact⟨y,_,rfl⟩
 have f2:=fsts (ε:=[some (.imm (.tuple [.tuple zs,.tuple cs,.tuple [a,b,e]])),s1,s2,none,none,none,none]) (j1 _) (by omega) ac fun t ht=>by
  obtain⟨f,w,r,u,rfl,_⟩:=z9w ht
  exact⟨f,_,rfl⟩
 have hitm:itA (z01 [(comp 1 [] (itA (op2 oIx (nm 0) (cst (.int 0)))) (gNm 0) (cstT true) (op2 oIx (nm 0) (cst (.int 0)))),(comp 1 [] (itA (op2 oIx (nm 0) (cst (.int 1)))) (gNm 0) (cstT true) (op2 oIx (nm 0) (cst (.int 0))))]) [some (.imm (.tuple [.tuple zs,.tuple cs,.tuple [a,b,e]])),s1,s2,none,none,none,none]=some [.list ((zs.map fstS).map .str),.list ((cs.map fstS).map .str)]:=by
  rw[itA,z01]
  simp only[args]
  rw[f1,f2]
  rfl
 have e2:∀l:List Str,(l.map y1v).map txS=l:=fun l=>by rw[y2h];exact (List.map_congr_left fun x _=>rfl).trans (List.map_id _)
 rcases (zea (g:=gNm 3) (body:=bR) (P:=risT) (E:=fun s=>[some (.imm (.tuple [.tuple zs,.tuple cs,.tuple [a,b,e]])),s1,s2,s,none,none,none]) (fun _ _=>rfl) [.list ((zs.map fstS).map .str),.list ((cs.map fstS).map .str)] none fun t ht=>by
  simp only[y09,y28,or_false] at ht
  rcases ht with rfl|rfl
  ·exact zve hZ (by simp;omega)
  ·exact zve hC (by simp;omega)).symm with ⟨ar,fr⟩|⟨ar,s3,fr⟩
 ·rw[zcw (t:=.bool false) (by unfold for_;rw[hitm];exact fr),eP,ez,ec,az,ac]
  simp only[List.all_cons,List.all_nil,risT,e2,Bool.and_true] at ar
  simp only[Bool.true_and]
  rw[<- Bool.and_assoc,ar]
  rfl
 rw[Co.seq_nx (ε':=[some (.imm (.tuple [.tuple zs,.tuple cs,.tuple [a,b,e]])),s1,s2,s3,none,none,none]) (by unfold for_;rw[hitm];exact fr)]
 rw[Co.seq_nx (ε':=[some (.imm (.tuple [.tuple zs,.tuple cs,.tuple [a,b,e]])),s1,s2,s3,some (.imm a),some (.imm b),some (.imm e)]) (by unfold asgT;rw[j2];rfl)]
 simp only[List.all_cons,List.all_nil,risT,e2,Bool.and_true,y1b] at ar
 have ha:=hm.tup a (by simp)
 have hb_:=hm.tup b (by simp)
 have he:=hm.tup e (by simp)
 simp only[rtn]
 rw[z0c (a:=z0b a 0 60) (b:=z0b b 0 60 && z0b e 1 300) (by rw[opN3 (t:=a) (u:=.int 0) (v:=.int 60) rfl rfl rfl];exact z2a ha.g) fun _=>z0c (by rw[opN3 (t:=b) (u:=.int 0) (v:=.int 60) rfl rfl rfl];exact z2a hb_.g) fun _=>by rw[opN3 (t:=e) (u:=.int 1) (v:=.int 300) rfl rfl rfl];exact z2a he.g]
 rw[eP,ez,ec,az,ac,ar.1,ar.2]
 rfl
theorem ix0T {a:T} {r:List T} {f:Fe} {ε:Ev} (h:f ε=some (.tuple (a::r))):op2 oIx f (cst (.int 0)) ε=some a:=by rw[z07 h (u:=.int 0) rfl];exact ix_0
theorem zqk {f:Fe} {ε:Ev} {ts:List T} {i:Int} (n:Nat) (hi:i=(n:Int)) (hf:f ε=some (.tuple ts)):op2 oEq (opN oLen [f]) (cst (.int i)) ε=some (.bool (decide (ts.length=n))):=by
 rw[z07 (t:=.int ts.length) (u:=.int i) (by rw[opN1 hf];rfl) rfl,Co.oEq_int]
 congr 2
 exact decide_eq_decide.mpr (by omega)
theorem zur {f:Fe} {ε:Ev} {ts:List T} {i:Int} (n:Nat) (hi:i=(n:Int)) (hf:f ε=some (.tuple ts)):op2 oNe (opN oLen [f]) (cst (.int i)) ε=some (.bool !(decide (ts.length=n))):=by
 rw[z07 (t:=.int ts.length) (u:=.int i) (by rw[opN1 hf];rfl) rfl]
 show some (PyData.bool !(((ts.length:Int) == i)))=_
 congr 3
 rw[Bool.eq_iff_iff]
 simp
 omega
theorem zl3 {f g:Fe} {ε:Ev} {t s:T} {ss:List Str} {d:Nat} (hf:f ε=some t) (hg:g ε=some s) (h:Gd d t) (hd:d<=60) (hs:s=.tuple (ss.map .str)\/s=.list (ss.map .str)) (ha:∀x∈ss,asc (ls x)):opN z14 [f,g] ε=some (.bool (inB ss t)):=by
 rw[opN2 hf hg]
 exact z95 h hd hs ha
theorem zv4 {p:Pl} {a:T} {r:List T} (h1:eqS "line" a=false) (h2:eqS "code" a=false) (h3:eqS "ticks" a=false):z2x p (.tuple (a::r))=false:=by
 have l1:z6k p (.tuple (a::r))=false:=by
  unfold z6k
  split
  next a' z w e=>cases e;simp[h1]
  next=>rfl
 have l2:z30 p (.tuple (a::r))=false:=by
  unfold z30
  split
  next a' f e' z e=>cases e;simp[h2]
  next=>rfl
 have l3:z3e (.tuple (a::r))=false:=by
  unfold z3e
  split
  next a' n e=>cases e;simp[h3]
  next=>rfl
 simp[z2x,l1,l2,l3]
theorem zs8 {p:Pl} {ts:List T} (h:ts.length≠3):z6k p (.tuple ts)=false:=by
 unfold z6k
 split
 next a' z w e=>cases e;simp at h
 next=>rfl
theorem zsu {p:Pl} {ts:List T} (h:ts.length≠4):z30 p (.tuple ts)=false:=by
 unfold z30
 split
 next a' f e' z e=>cases e;simp at h
 next=>rfl
theorem znt {ts:List T} (h:ts.length≠2):z3e (.tuple ts)=false:=by
 unfold z3e
 split
 next a' n e=>cases e;simp at h
 next=>rfl
theorem sl_c:¬(("line":Str)="code"):=by decide +kernel
theorem sl_t:¬(("line":Str)="ticks"):=by decide +kernel
theorem st_c:¬(("ticks":Str)="code"):=by decide +kernel
theorem zw1 {ε:Ev}:op2 zs5 (cst (.int 10)) (cst (.int 30)) ε=some (.int (10 ^ 30)):=by
 rw[z07 (t:=.int 10) (u:=.int 30) rfl rfl]
 simp only[zs5]
 rw[if_pos ⟨trivial,by decide,by decide⟩]
 rfl
theorem zgb {p:Pl} (hp:Pok p) {d:Nat} {t:T} (h:Gd (d+1) t) (hd:d<=50) (hi:∀a i,t=.tuple [a,.int i]->i<=10 ^ 30):z44 [encP p,t]=some (.bool (z2x p t)):=by
 unfold z44 runF z86
 show (seq _ _ [some (.imm (encP p)),some (.imm t),none]).bind _=_
 have e0:comp 1 [] (itA (op2 oIx (nm 0) (cst (.int 0)))) (gNm 0) (cstT true) (op2 oIx (nm 0) (cst (.int 0))) [some (.imm (encP p)),some (.imm t),none]=some (.list ((z2j p).map .str)):=by
  rw[zeg (f:=fun t=>.str (fstS t)) (ts:=p.zones.map encZ) (by
   simp only[itA]
   rw[z07 (t:=encP p) rfl rfl,show oIx (encP p) (.int 0)=some (.tuple (p.zones.map encZ)) from ix_0]
   rfl) (by rw[y13];have:=hp.l;unfold big;omega) fun t ht=>by
    obtain⟨z,_,rfl⟩:=y0m.mp ht
    rw[z07 rfl rfl]
    exact ix_0]
  simp only[y2h,z2j]
  rfl
 rw[Co.seq_nx (z2f e0)]
 simp only[y1k,y1i]
 by_cases q0:isI "tuple" t=false
 ·rw[z12 (z0w (a:=true) (b:=false) (z09 (a:=false) (z04 (by rw[z0y (t:=t) rfl,z4c "tuple" h.g,q0]))) fun z=>by cases z),if_pos (by rfl)]
  have:z2x p t=false:=by cases t <;> first|rfl|cases q0
  rw[this]
  rfl
 rw[Bool.not_eq_false] at q0
 obtain⟨ts,rfl⟩:=zc4 t q0 h.g
 generalize hE:[some (Sl.imm (encP p)),some (.imm (.tuple ts)),some (.imm (.list ((z2j p).map .str)))]=E
 have n1:nm 1 E=some (.tuple ts):=by subst hE;rfl
 have n2:nmV 2 E=some (.list ((z2j p).map .str)):=by subst hE;rfl
 have k0:tstB (op1 (oIsI "tuple") (nm 1)) E=some true:=z04 (by rw[z0y n1,z4c "tuple" h.g,q0])
 have kE:op2 oEq (nm 1) (z01 []) E=some (.bool ts.isEmpty):=by
  rw[z07 n1 (u:=.tuple []) rfl]
  simp only[oEq,h.okT (by omega),show okT (.tuple [])=true from rfl,Bool.and_self,if_true]
  cases ts <;> rfl
 cases ts with
 | nil =>
  rw[z12 (z0w (a:=false) (z09 k0) fun _=>z0w (a:=true) (b:=false) (z04 kE) fun z=>by cases z),if_pos (by rfl)]
  rfl
 | cons a r =>
  have ha:=h.tup a (by simp)
  have j0:=ix0T n1
  by_cases q1:isI "str" a=false
  ·rw[z12 (z0w (a:=false) (z09 k0) fun _=>z0w (a:=false) (z04 kE) fun _=>z09 (a:=false) (z04 (by rw[z0y j0,z4c "str" ha.g,q1]))),if_pos (by rfl)]
   have:∀s,eqS s a=false:=fun s=>by cases a <;> first|rfl|cases q1
   rw[zv4 (this _) (this _) (this _)]
   rfl
  rw[Bool.not_eq_false] at q1
  rw[z12 (z0w (a:=false) (z09 k0) fun _=>z0w (a:=false) (z04 kE) fun _=>z09 (a:=true) (z04 (by rw[z0y j0,z4c "str" ha.g,q1]))),if_neg (by simp)]
  have c1:=eq_s j0 ha zqs (by omega)
  have c2:=eq_s j0 ha znf (by omega)
  have c3:=ne_s j0 ha zqt (by omega)
  by_cases qa:eqS "line" a=true
  ·rw[z0u (z04 c1),qa,if_pos rfl]
   have xa:a=.str "line":=by
    cases a with
    | str x=>rw[of_decide_eq_true qa]
    | _=>cases qa
   have z2:z30 p (.tuple (a::r))=false:=by
    unfold z30
    split
    next a' f e' z e=>cases e;rw[xa];simp[eqS,sl_c]
    next=>rfl
   have z3:z3e (.tuple (a::r))=false:=by
    unfold z3e
    split
    next a' n e=>cases e;rw[xa];simp[eqS,sl_t]
    next=>rfl
   have hL:=zqk (i:=3) 3 rfl n1
   by_cases ql:(a::r).length=3
   ·obtain⟨a',z,w,e⟩:=zco (t:=.tuple (a::r)) (by simp only[tupB,y1b,decide_eq_true_eq];omega)
    cases e
    have hz:=h.tup z (by simp)
    have hw:=h.tup w (by simp)
    rw[z11 (t:=.bool (true && (inB (z2j p) z && inB zb4 w))) (z0c (by rw[hL,decide_eq_true ql]) fun _=>z0c (zl3 (by rw[z07 n1 (u:=.int 1) rfl];exact ix_1) n2 hz (by omega) (.inr rfl) hp.z) fun _=>zl3 (by rw[z07 n1 (u:=.int 2) rfl];exact ix_2) rfl hw (by omega) (.inl rfl) zng)]
    simp only[z2x,z2,z3,z6k,qa,Bool.true_and,Bool.or_false,y0p]
   ·rw[z11 (t:=.bool (false && true)) (z0c (by rw[hL,decide_eq_false ql]) fun z=>by cases z)]
    simp only[z2x,z2,z3,zs8 ql,y0p]
    rfl
  rw[Bool.not_eq_true] at qa
  rw[z0u (z04 c1),qa,if_neg (by simp)]
  by_cases qt:eqS "ticks" a=true
  ·rw[z0u (z04 c2),qt,if_pos rfl]
   have xa:a=.str "ticks":=by
    cases a with
    | str x=>rw[of_decide_eq_true qt]
    | _=>cases qt
   have z2:z30 p (.tuple (a::r))=false:=by
    unfold z30
    split
    next a' f e' z e=>cases e;rw[xa];simp[eqS,st_c]
    next=>rfl
   have z1:z6k p (.tuple (a::r))=false:=by
    unfold z6k
    split
    next a' z w e=>cases e;simp[qa]
    next=>rfl
   have hL:=zqk (i:=2) 2 rfl n1
   by_cases ql:(a::r).length=2
   ·obtain⟨a',n,e⟩:=zi7 (t:=.tuple (a::r)) (by simp only[tupB,y1b,decide_eq_true_eq];omega)
    cases e
    have hn:=h.tup n (by simp)
    rw[z11 (t:=.bool (true && z0b n 1 (10 ^ 30))) (z0c (by rw[hL,decide_eq_true ql]) fun _=>by
     rw[opN3 (t:=n) (u:=.int 1) (v:=.int (10 ^ 30)) (by rw[z07 n1 (u:=.int 1) rfl];exact ix_1) rfl zw1]
     exact z2a hn.g)]
    have:z0b n 1 (10 ^ 30)=(z68 n && posB n):=by
     cases n with
     | int i =>
      have:=hi a i rfl
      simp only[z0b,z68,posB,Bool.true_and]
      rw[decide_eq_true this,Bool.and_true]
     | _=>rfl
    simp only[z2x,z1,z2,z3e,qt,this,Bool.true_and,Bool.false_or,y0p]
   ·rw[z11 (t:=.bool (false && true)) (z0c (by rw[hL,decide_eq_false ql]) fun z=>by cases z)]
    simp only[z2x,z1,z2,znt ql,y0p]
    rfl
  rw[Bool.not_eq_true] at qt
  rw[z0u (z04 c2),qt,if_neg (by simp)]
  by_cases qc:eqS "code" a=false
  ·rw[z12 (z0w (a:=true) (b:=false) (z04 (by rw[c3,qc];rfl)) fun z=>by cases z),if_pos (by rfl),zv4 qa qc qt]
   rfl
  rw[Bool.not_eq_false] at qc
  have z1:z6k p (.tuple (a::r))=false:=by
   unfold z6k
   split
   next a' z w e=>cases e;simp[qa]
   next=>rfl
  have z3:z3e (.tuple (a::r))=false:=by
   unfold z3e
   split
   next a' n e=>cases e;simp[qt]
   next=>rfl
  have hL:=zur (i:=4) 4 rfl n1
  by_cases ql:(a::r).length=4
  ·obtain⟨a',f,e',z,e⟩:=znr (t:=.tuple (a::r)) (by simp only[tupB,y1b,decide_eq_true_eq];omega)
   cases e
   have hf:=h.tup f (by simp)
   have he:=h.tup e' (by simp)
   have hz:=h.tup z (by simp)
   have j1:op2 oIx (nm 1) (cst (.int 1)) E=some f:=by rw[z07 n1 (u:=.int 1) rfl];exact ix_1
   have j2:op2 oIx (nm 1) (cst (.int 2)) E=some e':=by rw[z07 n1 (u:=.int 2) rfl];exact ix_2
   have j3:op2 oIx (nm 1) (cst (.int 3)) E=some z:=by rw[z07 n1 (u:=.int 3) rfl];exact ix_3
   rw[z12 (z0w (a:=false) (z04 (by rw[c3,qc];rfl)) fun _=>z0w (a:=false) (z04 (by rw[hL,decide_eq_true ql];rfl)) fun _=>z09 (z04 (by rw[opN1 j1];exact zmd hf.g)))]
   simp only[z2x,z1,z3,z30,qc,Bool.true_and,Bool.false_or,Bool.or_false]
   by_cases qf:figB f=false
   ·simp[qf]
   rw[Bool.not_eq_false] at qf
   simp only[qf,Bool.not_true,y1t,if_false,Bool.true_and]
   have o1:=zl3 (g:=z01 [(cst (.str "set")),(cst (.str "unset"))]) (ss:=["set","unset"]) j2 rfl he (by omega) (.inl rfl) a_da
   have o2:=zl3 (g:=z01 [(cst (.str "shunt")),(cst (.str "free"))]) (ss:=["shunt","free"]) j2 rfl he (by omega) (.inl rfl) a_dz
   have o3:=zl3 (ss:=z2j p) j3 n2 hz (by omega) (.inr rfl) hp.z
   rw[z0u (z04 o1)]
   by_cases qd:inB ["set","unset"] e'=true
   ·rw[qd,if_pos rfl,if_pos rfl,z11 (t:=.bool (zah z)) (by rw[z0y j3];cases z <;> rfl)]
    rfl
   ·rw[if_neg qd,if_neg qd]
    simp only[rtn]
    rw[z0c o2 fun _=>o3]
    rfl
  ·rw[z12 (z0w (a:=false) (z04 (by rw[c3,qc];rfl)) fun _=>z0w (a:=true) (b:=false) (z04 (by rw[hL,decide_eq_false ql];rfl)) fun z=>by cases z),if_pos (by rfl)]
   simp only[z2x,z1,z3,zsu ql]
   rfl
theorem zt3:((List.range 128).all fun c=>(Unicode.upperOf c).all (fun a=>decide (a<128)) && decide ((Unicode.upperOf c).length<=3))=true:=by decide +kernel
theorem up_c {c:Nat} (h:c<128):(∀a∈Unicode.upperOf c,a<128)/\(Unicode.upperOf c).length<=3:=by
 have:=List.all_eq_true.mp zt3 c (List.mem_range.mpr h)
 rw[y1b,List.all_eq_true] at this
 exact⟨fun a ha=>of_decide_eq_true (this.1 a ha),of_decide_eq_true this.2⟩
theorem znm (x:Str):ls (Txt.upper x)=((ls x).map Unicode.upperOf).flatten:=by
 show ((x.cps.mapIdx fun _ c=>(Unicode.upperOf c).toArray).flatten).toList=_
 rw[Array.toList_flatten]
 congr 1
 apply List.ext_getElem?
 intro i
 simp[ls]
 rfl
theorem znl {x:Str} (h:asc (ls x)):asc (ls (Txt.upper x))/\(Txt.upper x).length<=3*x.length:=by
 rw[z1r (Txt.upper x),znm,z1r x]
 generalize ls x=l at h
 induction l with
 | nil=>exact⟨fun a ha=>by simp at ha,by simp⟩
 | cons c l ih =>
  have h1:=up_c (h c (by simp))
  have h2:=ih fun a ha=>h a (y05 _ ha)
  refine⟨fun a ha=>?_,?_⟩
  ·simp only[y0d,y26,y10] at ha
   rcases ha with ha|ha
   ·exact h1.1 a ha
   ·exact h2.1 a ha
  ·simp only[y0d,y26,y21,y0w]
   omega
noncomputable def Src:Nat->T->Prop
 | _,.int i=>0<=i/\i<=1000000000
 | _,.str x=>asc (ls x)/\x.length<=10
 | _,.none=>True
 | d+1,.tuple ts=>ts.length<=10/\∀t∈ts,Src d t
 | _,_=>False
structure Ok (d:Nat) (t:T):Prop where
 g:Gd d t
 w:wd t=true
 i:∀i,t=.int i->i<=10 ^ 30
 c:∀ts,t=.tuple ts->∀i,PyData.int i∈ts->i<=10 ^ 30
theorem Ok.le {d e:Nat} {t:T} (h:Ok d t) (hd:d<=e):Ok e t:=⟨h.g.le hd,h.w,h.i,h.c⟩
theorem z1q {d:Nat} {ts:List T} (h:∀t∈ts,Ok d t) (hl:ts.length<60):Ok (d+1) (.tuple ts) :=
 ⟨Gd.mk_tup fun t ht=>(h t ht).g,by rw[wd,y1b];exact⟨decide_eq_true hl,zbi.mpr fun t ht=>(h t ht).w⟩,fun i e=>(by cases e),fun us e i hi=>(by cases e;exact (h _ hi).i i rfl)⟩
theorem zl4 {d:Nat} {ts:List T} (h:∀t∈ts,Ok d t) (hl:ts.length<60):Ok (d+1) (.list ts) :=
 ⟨Gd.mk_lst fun t ht=>(h t ht).g,by rw[wd,y1b];exact⟨decide_eq_true hl,zbi.mpr fun t ht=>(h t ht).w⟩,fun i e=>(by cases e),fun us e=>(by cases e)⟩
theorem z5g {d:Nat} {i:Int} (h:i<=10 ^ 30):Ok d (.int i):=⟨z9n,rfl,fun j e=>(by cases e;exact h),fun us e=>(by cases e)⟩
theorem z2i {d:Nat} {x:Str} (h:asc (ls x)) (hl:x.length<=1000000):Ok d (.str x):=⟨z5j h hl,rfl,fun j e=>(by cases e),fun us e=>(by cases e)⟩
theorem z96 {d:Nat}:Ok d .none:=⟨zqo,rfl,fun j e=>(by cases e),fun us e=>(by cases e)⟩
theorem zbv {d:Nat} {b:Bool}:Ok d (.bool b):=⟨zc5,rfl,fun j e=>(by cases e),fun us e=>(by cases e)⟩
theorem e30:(1000000060:Int)<=10 ^ 30:=by decide +kernel
theorem zk6 {d:Nat} {i:Int} (h:Src d (.int i)):0<=i/\i<=1000000000:=by cases d <;> exact h
theorem zf8 {d:Nat} {x:Str} (h:Src d (.str x)):asc (ls x)/\x.length<=10:=by cases d <;> exact h
theorem z81 {d:Nat} {i:Int} (h:0<=i/\i<=1000000000):Src d (.int i):=by cases d <;> exact h
theorem z9b {d:Nat} {x:Str} (h:asc (ls x)/\x.length<=10):Src d (.str x):=by cases d <;> exact h
theorem zlg {d:Nat}:Src d .none:=by cases d <;> exact trivial
theorem zan:∀{d:Nat} {t:T},Src d t->Ok (d+1) t
 | d,.int i,h=>z5g (Int.le_trans (zk6 h).2 (Int.le_trans (by omega) e30))
 | d,.str x,h=>z2i (zf8 h).1 (by have:=(zf8 h).2;omega)
 | d,.none,_=>z96
 | d+1,.tuple ts,h=>z1q (fun t ht=>zan (h.2 t ht)) (by have:=h.1;omega)
 | 0,.tuple ts,h=>by simp[Src] at h
 | d,.bool _,h=>by cases d <;> simp[Src] at h
 | d,.list _,h=>by cases d <;> simp[Src] at h
 | d,.dict _,h=>by cases d <;> simp[Src] at h
theorem cut_len {α:Type} (l:List α) (a b:Option Int):(cutZ l a b).length<=l.length:=by
 unfold cutZ
 rw[List.length_take,List.length_drop]
 omega
theorem zlw {L:List T} {k:Int} (h0:0<=k) (h:k<L.length):∃u∈L,oIx (.list L) (.int k)=some u:=by
 obtain⟨n,rfl⟩:∃n:Nat,k=n:=⟨k.toNat,by omega⟩
 have hn:n<L.length:=by omega
 refine⟨L[n],List.getElem_mem _,?_⟩
 simp only[oIx,atZ,ixOf]
 rw[if_pos (by omega),if_pos (by omega)]
 exact y0v hn
theorem pick {ε:Ev} {fs:List Fe} {L:List T} {g:Fe} {k:Int} {d:Nat} (hl:args fs ε=some L) (hn:L.length<=100) (hg:g ε=some (.int k)) (h0:0<=k) (hk:k<L.length) (ho:∀u∈L,Ok d u):∃u,op2 oIx (z0p fs) g ε=some u/\Ok d u:=by
 obtain⟨u,hu,e⟩:=zlw h0 hk
 refine⟨u,?_,ho u hu⟩
 rw[z07 (t:=.list L) (u:=.int k) (by
  simp only[z0p,hl,y0p]
  rw[if_pos (by unfold big;omega)]) hg]
 exact e
theorem m_b {f:Fe} {ε:Ev} {a k b:Int} (hf:f ε=some (.int a)) (e:oMod (.int a) (.int k)=some (.int b)):op2 oMod f (cst (.int k)) ε=some (.int b):=by rw[z07 hf rfl];exact e
theorem d_b {f:Fe} {ε:Ev} {a k b:Int} (hf:f ε=some (.int a)) (e:oDiv (.int a) (.int k)=some (.int b)):op2 oDiv f (cst (.int k)) ε=some (.int b):=by rw[z07 hf rfl];exact e
theorem gt_b {f:Fe} {ε:Ev} {a:Int} (hf:f ε=some (.int a)):tstB (op2 oGt f (cst (.int 0))) ε=some (decide (0<a)):=z04 (by rw[z07 hf (u:=.int 0) rfl];rfl)
theorem eq_b {f:Fe} {ε:Ev} {a k:Int} (hf:f ε=some (.int a)):tstB (op2 oEq f (cst (.int k))) ε=some (decide (a=k)):=z04 (by rw[z07 hf (u:=.int k) rfl];exact Co.oEq_int _ _)
theorem str_1:asc (ls "1"):=z32
theorem zvp:asc (ls "a"):=z32
theorem z6e {f:Fe} {ε:Ev} {ts:List T} {lo hi:Ev->Option (Option Int)} {a b:Option Int} (hf:f ε=some (.tuple ts)) (h1:lo ε=some a) (h2:hi ε=some b):z0g f lo hi ε=some (.tuple (cutZ ts a b)):=by
 simp only[z0g,hf,h1,h2,y0p,oSlA,oSl]
theorem addT {f g:Fe} {ε:Ev} {a b:List T} (hf:f ε=some (.tuple a)) (hg:g ε=some (.tuple b)) (hl:a.length+b.length<=1000000):op2 oAdd f g ε=some (.tuple (a++b)):=by
 rw[z07 hf hg]
 simp only[oAdd]
 rw[if_pos (by unfold big;omega)]
theorem addS {f g:Fe} {ε:Ev} {a b:Str} (hf:f ε=some (.str a)) (hg:g ε=some (.str b)) (hl:a.length+b.length<=1000000):op2 oAdd f g ε=some (.str (a++b)):=by
 rw[z07 hf hg]
 simp only[oAdd]
 rw[if_pos (by unfold big;omega)]
theorem zac (a b:Str):(a++b).length=a.length+b.length:=by rw[z1r,z4w,y21,<- z1r,<- z1r]
theorem zsc (c:String) {f:Fe} {ε:Ev} {t:T} (hf:f ε=some t) (h:gd t=true):tstB (op1 (oIsI c) f) ε=some (isI c t):=z04 (by rw[z0y hf];exact z4c c h)
theorem ztc:∀u∈([.none,.bool true,.bool false,.int 0,.int 1,.int 7,.int 8,.int 60,.int 61,.int 301,.int (-1),.str "",.str "a",.str "set",.str "open",.str "1234",.str "way",.tuple [],.list [],.tuple [.str "a",.str "way"]]:List T),Ok 2 u:=by
 have s:∀{d:Nat} {x:Str},((ls x).all fun c=>decide (c<128))=true->x.length<=1000000->Ok d (.str x):=fun h1 h2=>z2i (z32 h1) h2
 have i:∀{d:Nat} {i:Int},i<=1000000060->Ok d (.int i):=fun h=>z5g (Int.le_trans h e30)
 intro u hu
 simp only[y09,y28,or_false] at hu
 rcases hu with rfl|rfl|rfl|rfl|rfl|rfl|rfl|rfl|rfl|rfl|rfl|rfl|rfl|rfl|rfl|rfl|rfl|rfl|rfl|rfl
 ·exact z96
 ·exact zbv
 ·exact zbv
 ·exact i (by omega)
 ·exact i (by omega)
 ·exact i (by omega)
 ·exact i (by omega)
 ·exact i (by omega)
 ·exact i (by omega)
 ·exact i (by omega)
 ·exact i (by omega)
 ·exact s (by decide +kernel) (by decide +kernel)
 ·exact s (by decide +kernel) (by decide +kernel)
 ·exact s (by decide +kernel) (by decide +kernel)
 ·exact s (by decide +kernel) (by decide +kernel)
 ·exact s (by decide +kernel) (by decide +kernel)
 ·exact s (by decide +kernel) (by decide +kernel)
 ·exact z1q (by simp) (by simp)
 ·exact zl4 (by simp) (by simp)
 ·refine z1q (fun t ht=>?_) (by simp)
  simp only[y09,y28,or_false] at ht
  rcases ht with rfl|rfl
  ·exact s (by decide +kernel) (by decide +kernel)
  ·exact s (by decide +kernel) (by decide +kernel)
noncomputable def spL:Fs:=(seq (asg 5 (z0p [(cst .none),(cst (.bool true)),(cst (.bool false)),(cst (.int 0)),(cst (.int 1)),(cst (.int 7)),(cst (.int 8)),(cst (.int 60)),(cst (.int 61)),(cst (.int 301)),(op1 oNeg (cst (.int 1))),(cst (.str "")),(cst (.str "a")),(cst (.str "set")),(cst (.str "open")),(cst (.str "1234")),(cst (.str "way")),(z01 []),(z0p []),(z01 [(cst (.str "a")),(cst (.str "way"))])]))
  (rtn (op2 oIx (nm 5) (op2 oMod (op2 oDiv (nm 1) (cst (.int 6))) (cst (.int 20))))))
theorem ztb {s0 s2 s3 s4 s5:Option Sl} {m:Int}:∃u,spL [s0,some (.imm (.int m)),s2,s3,s4,s5]=some (.rt u)/\Ok 2 u:=by
 obtain⟨a1,_,e1⟩:=divQ m 6
 obtain⟨a2,_,a20,a21,e2⟩:=modQ a1 20
 unfold spL
 rw[Co.seq_nx (z2f (t:=.list [.none,.bool true,.bool false,.int 0,.int 1,.int 7,.int 8,.int 60,.int 61,.int 301,.int (-1),.str "",.str "a",.str "set",.str "open",.str "1234",.str "way",.tuple [],.list [],.tuple [.str "a",.str "way"]]) rfl)]
 simp only[y1k,y1i]
 obtain⟨u,hu,e⟩:=zlw (L:=[.none,.bool true,.bool false,.int 0,.int 1,.int 7,.int 8,.int 60,.int 61,.int 301,.int (-1),.str "",.str "a",.str "set",.str "open",.str "1234",.str "way",.tuple [],.list [],.tuple [.str "a",.str "way"]]) a20 (by simpa using a21)
 refine⟨u,?_,ztc u hu⟩
 simp only[rtn]
 rw[z07 (u:=.int a2) rfl (m_b (d_b rfl e1) e2),e]
 rfl
theorem z6z:∀(n deep d:Nat) (t:T) (m:Int),Src d t->deep<n->n<=1000->∃u,z18 n [t,.int m,.int (deep:Int)]=some u/\Ok (d+2) u
 | 0,_,_,_,_,_,h,_=>absurd h (Nat.not_lt_zero _)
 | n+1,deep,d,t,m,hs,hn,hn2=>by
  have hok:=zan hs
  obtain⟨r6,_,r60,r61,er6⟩:=modQ m 6
  obtain⟨d6,_,ed6⟩:=divQ m 6
  obtain⟨q2,_,q20,q21,eq2⟩:=modQ d6 2
  obtain⟨d12,_,ed12⟩:=divQ m 12
  obtain⟨k6,_,k60,k61,ek6⟩:=modQ d12 6
  obtain⟨uL,eL,oL⟩:=ztb (s0:=some (.imm t)) (s2:=some (.imm (.int (deep:Int)))) (s3:=none) (s4:=none) (s5:=none) (m:=m)
  show ∃u,(z63 (z18 n) [some (.imm t),some (.imm (.int m)),some (.imm (.int (deep:Int))),none,none,none]).bind _=some u/\_
  unfold z63
  generalize hE:[some (Sl.imm t),some (.imm (.int m)),some (.imm (.int (deep:Int))),none,none,none]=E at eL
  have n0:nm 0 E=some t:=by subst hE;rfl
  have n1:nm 1 E=some (.int m):=by subst hE;rfl
  have n1v:nmV 1 E=some (.int m):=by subst hE;rfl
  have n2:nm 2 E=some (.int (deep:Int)):=by subst hE;rfl
  have n2v:nmV 2 E=some (.int (deep:Int)):=by subst hE;rfl
  have cD:=gt_b n2
  have c6:=gt_b (m_b n1 er6)
  have c2:=eq_b (k:=0) (m_b (d_b n1 ed6) eq2)
  have ik:op2 oMod (op2 oDiv (nm 1) (cst (.int 12))) (cst (.int 6)) E=some (.int k6):=m_b (d_b n1 ed12) ek6
  have iT:=zsc "tuple" n0 hok.g.g
  have iS:=zsc "str" n0 hok.g.g
  have iI:=zsc "int" n0 hok.g.g
  have last:∀o,spL E=some (.rt o)->∃u,(spL E).bind (fun o=>match o with|.rt t=>some t|.nx _=>some .none|_=>none)=some u/\Ok (d+2) u:=fun o _=>⟨uL,by rw[eL];rfl,oL.le (by omega)⟩
  have no1:∀{c1 c2:Ft} {X Y c3':Fs},isI "tuple" t=false->seq (iff (andT (tstB (op2 oGt (nm 2) (cst (.int 0)))) (andT (tstB (op1 (oIsI "tuple") (nm 0))) c1)) X skip) (seq (iff (andT (tstB (op1 (oIsI "tuple") (nm 0))) c2) Y skip) c3') E=c3' E:=fun h=>by
   rw[z0u (z2k (b:=false) cD fun _=>z2k (a:=false) (b:=true) (by rw[iT,h]) fun z=>by cases z),if_neg (by simp),z0u (z2k (a:=false) (b:=true) (by rw[iT,h]) fun z=>by cases z),if_neg (by simp)]
  have noS:∀{c2:Ft} {X Y:Fs},isI "str" t=false->seq (iff (andT (tstB (op1 (oIsI "str") (nm 0))) c2) X skip) Y E=Y E:=fun h=>by
   rw[z0u (z2k (a:=false) (b:=true) (by rw[iS,h]) fun z=>by cases z),if_neg (by simp)]
  have noI:∀{c2:Ft} {X Y:Fs},isI "int" t=false->seq (iff (andT (tstB (op1 (oIsI "int") (nm 0))) c2) X skip) Y E=Y E:=fun h=>by
   rw[z0u (z2k (a:=false) (b:=true) (by rw[iI,h]) fun z=>by cases z),if_neg (by simp)]
  cases t with
  | none =>
   rw[no1 rfl,noS rfl,noI rfl]
   exact last _ eL
  | bool b=>cases d <;> simp[Src] at hs
  | list b=>cases d <;> simp[Src] at hs
  | dict b=>cases d <;> simp[Src] at hs
  | int i =>
   have hi:=zk6 hs
   rw[no1 rfl,noS rfl,z0u (z2k (a:=true) (by rw[iI];rfl) fun _=>c2)]
   by_cases hq:q2=0
   ·rw[decide_eq_true hq,if_pos (by rfl)]
    have hlog:zll i=true:=zlk hi.1 (Int.lt_of_le_of_lt hi.2 (by decide +kernel))
    have eS:opN oStr [(nm 0)] E=some (.str (strI i)):=by rw[opN1 n0];simp only[oStr];rw[if_pos hlog]
    obtain⟨u,eu,ou⟩:=pick (d:=d+2) (fs:=[(opN oStr [(nm 0)]),(op2 oSub (cst (.int 0)) (nm 0)),(op2 oAdd (nm 0) (cst (.int 1))),(op2 oEq (nm 0) (cst (.int 1))),(op2 oSub (nm 0) (cst (.int 1))),(op2 oAdd (nm 0) (cst (.int 60)))]) (L:=[.str (strI i),.int (0 - i),.int (i+1),.bool (decide (i=1)),.int (i - 1),.int (i+60)]) (by
     simp only[args]
     rw[eS,z07 (t:=.int 0) rfl n0,z07 n0 (u:=.int 1) rfl,z07 n0 (u:=.int 1) rfl,z07 n0 (u:=.int 1) rfl,z07 n0 (u:=.int 60) rfl,Co.oEq_int]
     rfl) (by simp) ik k60 (by simpa using k61) fun u hu=>by
     simp only[y09,y28,or_false] at hu
     have l:=e30
     rcases hu with rfl|rfl|rfl|rfl|rfl|rfl
     ·refine z2i (fun a ha=>?_) ?_
      ·have:=z8s hi.1 a ha
       omega
      ·have:=zk4 (k:=10) hi.1 (by decide) (by omega)
       omega
     ·exact z5g (Int.le_trans (by omega) l)
     ·exact z5g (Int.le_trans (by omega) l)
     ·exact zbv
     ·exact z5g (Int.le_trans (by omega) l)
     ·exact z5g (Int.le_trans (by omega) l)
    rw[z11 eu]
    exact⟨u,rfl,ou⟩
   ·rw[decide_eq_false hq,if_neg (by simp)]
    exact last _ eL
  | str x =>
   have hx:=zf8 hs
   rw[no1 rfl,z0u (z2k (a:=true) (by rw[iS];rfl) fun _=>c2)]
   by_cases hq:q2=0
   ·rw[decide_eq_true hq,if_pos (by rfl)]
    have hu:=znl hx.1
    have eR:op1 zdi (nm 0) E=some (.str (st (ls x).reverse)):=by
     rw[z0y n0]
     simp only[zdi]
     rw[if_pos (by unfold big;omega)]
     rfl
    have eU:op1 zb1 (nm 0) E=some (.str (Txt.upper x)):=by rw[z0y n0];simp only[zb1];rw[if_pos (by omega)]
    have eW:op2 zb2 (nm 0) (cst (.int 2)) E=some (.str (x++x)):=by rw[z07 n0 (u:=.int 2) rfl];simp only[zb2];rw[if_pos ⟨trivial,by omega⟩]
    have eC:=zfa (f:=nm 0) (lo:=opt (cst (.int 1))) (hi:=optN) (a:=some 1) (b:=none) n0 rfl rfl (by omega)
    have la:("a":Str).length=1:=by decide +kernel
    have l1:("1":Str).length=1:=by decide +kernel
    obtain⟨u,eu,ou⟩:=pick (d:=d+2) (fs:=[(op2 oAdd (nm 0) (cst (.str "a"))),(z0g (nm 0) (opt (cst (.int 1))) optN),(op2 oAdd (nm 0) (cst (.str "1"))),(op1 zb1 (nm 0)),(op2 zb2 (nm 0) (cst (.int 2))),(op1 zdi (nm 0))]) (L:=[.str (x++"a"),.str (st (cutZ (ls x) (some 1) none)),.str (x++"1"),.str (Txt.upper x),.str (x++x),.str (st (ls x).reverse)]) (by
     simp only[args]
     rw[addS (b:="a") n0 rfl (by omega),eC,addS (b:="1") n0 rfl (by omega),eU,eW,eR]
     rfl) (by simp) ik k60 (by simpa using k61) fun u hu'=>by
     simp only[y09,y28,or_false] at hu'
     rcases hu' with rfl|rfl|rfl|rfl|rfl|rfl
     ·exact z2i (by rw[z4w];exact z3s hx.1 zvp) (by rw[zac];omega)
     ·exact z2i (by rw[z8d];exact za9 hx.1 fun y hy=>z48 hy) (by
       rw[z1r,z8d]
       have:=cut_len (ls x) (some 1) none
       rw[<- z1r] at this
       omega)
     ·exact z2i (by rw[z4w];exact z3s hx.1 str_1) (by rw[zac];omega)
     ·exact z2i hu.1 (by omega)
     ·exact z2i (by rw[z4w];exact z3s hx.1 hx.1) (by rw[zac];omega)
     ·exact z2i (by rw[z8d];exact za9 hx.1 fun y hy=>List.mem_reverse.mp hy) (by rw[z1r,z8d,List.length_reverse,<- z1r];omega)
    rw[z11 eu]
    exact⟨u,rfl,ou⟩
   ·rw[decide_eq_false hq,if_neg (by simp),noI rfl]
    exact last _ eL
  | tuple ts=>cases d with
   | zero=>simp[Src] at hs
   | succ d =>
    obtain⟨hl,hc⟩:ts.length<=10/\∀t∈ts,Src d t:=hs
    have iT':tstB (op1 (oIsI "tuple") (nm 0)) E=some true:=iT
    have cL:tstB (op2 oGt (opN oLen [(nm 0)]) (cst (.int 0))) E=some (decide (0<(ts.length:Int))):=gt_b (by rw[opN1 n0];rfl)
    cases ts with
    | nil =>
     rw[z0u (z2k (b:=false) cD fun _=>z2k (a:=true) (b:=false) iT' fun _=>z2k (a:=false) (b:=true) cL fun z=>by cases z),if_neg (by simp),z0u (z2k (a:=true) (b:=false) iT' fun _=>z2k (a:=false) (b:=true) cL fun z=>by cases z),if_neg (by simp),noS rfl,noI rfl]
     exact last _ eL
    | cons x r =>
     have hlen:(0:Int)<((x::r).length:Int):=by simp only[y0w];omega
     have hco:∀u∈x::r,Ok (d+2) u:=fun u hu=>(zan (hc u hu)).le (by omega)
     have cA:andT (tstB (op2 oGt (nm 2) (cst (.int 0)))) (andT (tstB (op1 (oIsI "tuple") (nm 0))) (andT (tstB (op2 oGt (opN oLen [(nm 0)]) (cst (.int 0)))) (tstB (op2 oGt (op2 oMod (nm 1) (cst (.int 6))) (cst (.int 0)))))) E=some (decide (0<(deep:Int)) && (true && (decide (0<((x::r).length:Int)) && decide (0<r6)))):=z2k cD fun _=>z2k iT' fun _=>z2k cL fun _=>c6
     have cB:andT (tstB (op1 (oIsI "tuple") (nm 0))) (andT (tstB (op2 oGt (opN oLen [(nm 0)]) (cst (.int 0)))) (tstB (op2 oEq (op2 oMod (op2 oDiv (nm 1) (cst (.int 6))) (cst (.int 2))) (cst (.int 0))))) E=some (true && (decide (0<((x::r).length:Int)) && decide (q2=0))):=z2k iT' fun _=>z2k cL fun _=>c2
     by_cases hA:(decide (0<(deep:Int)) && (true && (decide (0<((x::r).length:Int)) && decide (0<r6))))=true
     ·rw[z0u cA,hA,if_pos rfl]
      have hdp:0<deep:=by
       rw[y1b,decide_eq_true_eq] at hA
       omega
      obtain⟨k,rfl⟩:∃k,deep=k+1:=⟨deep - 1,by omega⟩
      obtain⟨at_,_,at0,at1,eat⟩:=modQ d6 ((x::r).length:Int) hlen
      obtain⟨v,hv,ev⟩:=ixT (ts:=x::r) at0 at1
      obtain⟨m',_,em'⟩:=Co.drawn_eq m ((k+1:Nat):Int) ⟨by omega,by omega⟩
      obtain⟨m4,_,em4⟩:=divQ m' 4
      obtain⟨u,eu,ou⟩:=z6z n k d v m4 (hc v hv) (by omega) (by omega)
      refine⟨.tuple (cutZ (x::r) none (some at_)++[u]++cutZ (x::r) (some (at_+1)) none),?_,?_⟩
      ·have g1:asg 3 (op2 oMod (op2 oDiv (nm 1) (cst (.int 6))) (opN oLen [(nm 0)])) E=some (.nx (E.set 3 (some (.imm (.int at_))))):=z2f (by rw[z07 (d_b n1 ed6) (u:=.int ((x::r).length:Int)) (by rw[opN1 n0];rfl)];exact eat)
       subst hE
       have g2:(seq (asg 3 (op2 oMod (op2 oDiv (nm 1) (cst (.int 6))) (opN oLen [(nm 0)])))
  (seq (asg 4 (opN (z18 n) [(op2 oIx (nm 0) (nm 3)),(op2 oDiv (opN z0i [(nmV 1),(nmV 2)]) (cst (.int 4))),(op2 oSub (nm 2) (cst (.int 1)))]))
  (rtn (op2 oAdd (op2 oAdd (z0g (nm 0) optN (opt (nm 3))) (z01 [(nmV 4)])) (z0g (nm 0) (opt (op2 oAdd (nm 3) (cst (.int 1)))) optN))))) [some (Sl.imm (.tuple (x::r))),some (.imm (.int m)),some (.imm (.int ((k+1:Nat):Int))),none,none,none]=some (.rt (.tuple (cutZ (x::r) none (some at_)++[u]++cutZ (x::r) (some (at_+1)) none))):=by
        rw[Co.seq_nx g1]
        simp only[y1k,y1i]
        rw[Co.seq_nx (z2f (t:=u) (by
         rw[opN3 (t:=v) (u:=.int m4) (v:=.int (k:Int)) (by rw[z07 (t:=.tuple (x::r)) (u:=.int at_) rfl rfl];exact ev) (d_b (by rw[opN2 (t:=.int m) (u:=.int ((k+1:Nat):Int)) rfl rfl];exact em') em4) (by
          rw[z07 (t:=.int ((k+1:Nat):Int)) (u:=.int 1) rfl rfl]
          simp only[oSub]
          congr 2
          omega)]
         exact eu))]
        simp only[y1k,y1i,rtn]
        have hc1:=cut_len (x::r) none (some at_)
        have hc2:=cut_len (x::r) (some (at_+1)) none
        rw[addT (a:=cutZ (x::r) none (some at_)++[u]) (b:=cutZ (x::r) (some (at_+1)) none) (addT (z6e (ts:=x::r) (a:=none) (b:=some at_) rfl rfl rfl) rfl (by simp only[List.length_singleton];omega)) (z6e (ts:=x::r) (a:=some (at_+1)) (b:=none) rfl rfl rfl) (by rw[y21];simp only[List.length_singleton];omega)]
        rfl
       rw[zcw g2]
       rfl
      ·have hc1:=cut_len (x::r) none (some at_)
       have hc2:=cut_len (x::r) (some (at_+1)) none
       refine z1q (fun w hw=>?_) (by simp only[y21,List.length_singleton];omega)
       simp only[y10,y0z] at hw
       rcases hw with (hw|rfl)|hw
       ·exact hco w (z48 hw)
       ·exact ou
       ·exact hco w (z48 hw)
     ·rw[Bool.not_eq_true] at hA
      rw[z0u cA,hA,if_neg (by simp),z0u cB]
      by_cases hq:q2=0
      ·rw[decide_eq_true hq,decide_eq_true hlen,if_pos (by rfl)]
       have neg1:opt (op1 oNeg (cst (.int 1))) E=some (some (-1)):=rfl
       have s1:=z6e (lo:=optN) (hi:=opt (op1 oNeg (cst (.int 1)))) (a:=none) (b:=some (-1)) n0 rfl rfl
       have s2:=z6e (lo:=opt (op1 oNeg (cst (.int 1)))) (hi:=optN) (a:=some (-1)) (b:=none) n0 rfl rfl
       have s3:=z6e (lo:=opt (cst (.int 1))) (hi:=optN) (a:=some 1) (b:=none) n0 rfl rfl
       have l1:=cut_len (x::r) none (some (-1))
       have l2:=cut_len (x::r) (some (-1)) none
       have l3:=cut_len (x::r) (some 1) none
       obtain⟨u,eu,ou⟩:=pick (d:=d+1+2) (fs:=[(opN zag [(nm 0)]),(z0g (nm 0) optN (opt (op1 oNeg (cst (.int 1))))),(op2 oAdd (nm 0) (z0g (nm 0) (opt (op1 oNeg (cst (.int 1)))) optN)),(z0g (nm 0) (opt (cst (.int 1))) optN),(op1 zdi (nm 0)),(z01 [])]) (L:=[.list (x::r),.tuple (cutZ (x::r) none (some (-1))),.tuple ((x::r)++cutZ (x::r) (some (-1)) none),.tuple (cutZ (x::r) (some 1) none),.tuple (x::r).reverse,.tuple []]) (by
        simp only[args]
        rw[opN1 n0,s1,addT n0 s2 (by omega),s3,z0y n0]
        rfl) (by simp) ik k60 (by simpa using k61) fun u hu=>by
        simp only[y09,y28,or_false] at hu
        rcases hu with rfl|rfl|rfl|rfl|rfl|rfl
        ·exact zl4 hco (by omega)
        ·exact z1q (fun w hw=>hco w (z48 hw)) (by omega)
        ·refine z1q (fun w hw=>?_) (by rw[y21];omega)
         rcases y10.mp hw with hw|hw
         ·exact hco w hw
         ·exact hco w (z48 hw)
        ·exact z1q (fun w hw=>hco w (z48 hw)) (by omega)
        ·exact z1q (fun w hw=>hco w (List.mem_reverse.mp hw)) (by rw[List.length_reverse];omega)
        ·exact z1q (by simp) (by simp)
       rw[z11 eu]
       exact⟨u,rfl,ou⟩
      ·rw[decide_eq_false hq,decide_eq_true hlen,if_neg (by simp),noS rfl,noI rfl]
       exact last _ eL
theorem zr7 {d:Nat} {x:Str} (h1:((ls x).all fun c=>decide (c<128))=true:=by decide +kernel) (h2:x.length<=10:=by decide +kernel):Src d (.str x):=z9b ⟨z32 h1,h2⟩
theorem ze6 {d:Nat} {x:Str} {l:List Str} (h:(l.all fun q=>(ls q).all (fun c=>decide (c<128)) && decide (q.length<=10))=true) (hx:x∈l):Src d (.str x):=by
 have:=List.all_eq_true.mp h x hx
 rw[y1b] at this
 exact z9b ⟨z32 this.1,of_decide_eq_true this.2⟩
theorem zo2 {p:Pl} (dp:DP p) (h:Pv p):Src 4 (encP p):=by
 refine⟨by simp,fun t ht=>?_⟩
 simp only[y09,y28,or_false] at ht
 have nm:∀{d:Nat} {x:Str},z1v (.str x)=true->Src d (.str x):=fun hx=>z9b ⟨z4n hx,by have:=(z43 hx).2.1;omega⟩
 rcases ht with rfl|rfl|rfl
 ·refine⟨by rw[y13];have:=h.z8;omega,fun t ht=>?_⟩
  obtain⟨z,hz,rfl⟩:=y0m.mp ht
  have:=h.zs z hz
  refine⟨by simp,fun t ht=>?_⟩
  simp only[y09,y28,or_false] at ht
  rcases ht with rfl|rfl
  ·exact nm this.1
  ·exact ze6 (l:=z36) (by decide +kernel) this.2
 ·refine⟨by rw[y13];have:=h.c6;omega,fun t ht=>?_⟩
  obtain⟨k,hk,rfl⟩:=y0m.mp ht
  obtain⟨k1,k2,k3,k4,_,k5,k6⟩:=h.cs k hk
  refine⟨by simp,fun t ht=>?_⟩
  simp only[y09,y28,or_false] at ht
  rcases ht with rfl|rfl|rfl|rfl
  ·exact z9b ⟨fun c hc=>by have:=(z7s k1).2 c hc;omega,by have:=(z7s k1).1;omega⟩
  ·exact nm k2
  ·refine⟨by rw[y13];omega,fun t ht=>?_⟩
   obtain⟨r,hr,rfl⟩:=y0m.mp ht
   exact ze6 (l:=z0m) (by decide +kernel) (k4 r hr)
  ·exact z81 ⟨k5,by omega⟩
 ·refine⟨by simp,fun t ht=>?_⟩
  simp only[y09,y28,or_false] at ht
  have t1:=h.t1
  have t2:=h.t2
  have t3:=h.t3
  rcases ht with rfl|rfl|rfl
  ·exact z81 ⟨t1.1,by omega⟩
  ·exact z81 ⟨t2.1,by omega⟩
  ·exact z81 ⟨by omega,by omega⟩
theorem zk8 {p:Pl} (h:Pv p) {e:Et} (he:evOk p e) (ht:∀n,e=.ticks n->n<=1000000000):Src 1 (encE e):=by
 have nz:∀{d:Nat} {x:Str},x∈z2j p->Src d (.str x):=fun hx=>by
  obtain⟨z,hz,rfl⟩:=y0m.mp hx
  have:=(h.zs z hz).1
  exact z9b ⟨z4n this,by have:=(z43 this).2.1;omega⟩
 cases e with
 | line z w =>
  refine⟨by simp,fun t hm=>?_⟩
  simp only[y09,y28,or_false] at hm
  rcases hm with rfl|rfl|rfl
  ·exact zr7
  ·exact nz he.1
  ·exact ze6 (l:=zb4) (by decide +kernel) he.2
 | ticks n =>
  refine⟨by simp,fun t hm=>?_⟩
  simp only[y09,y28,or_false] at hm
  have h1:1<=n:=he
  rcases hm with rfl|rfl
  ·exact zr7
  ·exact z81 ⟨by omega,ht n rfl⟩
 | code f d z =>
  refine⟨by simp,fun t hm=>?_⟩
  simp only[y09,y28,or_false] at hm
  have h1:Src 0 (.str f):=z9b ⟨fun c hc=>by have:=(z7s he.1).2 c hc;omega,by have:=(z7s he.1).1;omega⟩
  have h2:Src 0 (.str d)/\Src 0 (oS z):=by
   rcases he.2 with ⟨rfl,hd⟩|⟨x,rfl,hx,hd⟩
   ·exact⟨ze6 (l:=["set","unset"]) (by decide +kernel) hd,zlg⟩
   ·exact⟨ze6 (l:=["shunt","free"]) (by decide +kernel) hd,nz hx⟩
  rcases hm with rfl|rfl|rfl|rfl
  ·exact zr7
  ·exact h1
  ·exact h2.1
  ·exact h2.2
def Ev1 (d:Nat) (f:Fe) (ε:Ev):Prop:=∃u,f ε=some u/\Ok d u
def EvL (d:Nat) (fs:List Fe) (ε:Ev):Prop:=∃us,args fs ε=some us/\us.length=fs.length/\∀u∈us,Ok d u
theorem evn {d:Nat} {ε:Ev}:EvL d [] ε:=⟨[],rfl,rfl,by simp⟩
theorem evc {d:Nat} {f:Fe} {fs:List Fe} {ε:Ev} (h:Ev1 d f ε) (hs:EvL d fs ε):EvL d (f::fs) ε:=by
 obtain⟨u,h1,h2⟩:=h
 obtain⟨us,g1,g2,g3⟩:=hs
 refine⟨u::us,by simp[args,h1,g1],by simp[g2],fun v hv=>?_⟩
 rcases y09.mp hv with rfl|hv
 ·exact h2
 ·exact g3 v hv
theorem evt {d:Nat} {fs:List Fe} {ε:Ev} (h:EvL d fs ε) (hl:fs.length<60:=by decide):Ev1 (d+1) (z01 fs) ε:=by
 obtain⟨us,g1,g2,g3⟩:=h
 refine⟨.tuple us,?_,z1q g3 (by omega)⟩
 simp only[z01,g1,y0p]
 first|rfl|(rw[if_pos (by unfold big;omega)])
theorem evi {d:Nat} {f:Fe} {ε:Ev} {i:Int} (h:f ε=some (.int i)) (hi:i<=1000000060):Ev1 d f ε:=⟨_,h,z5g (Int.le_trans hi e30)⟩
theorem evs {d:Nat} {ε:Ev} {x:Str} (h1:((ls x).all fun c=>decide (c<128))=true:=by decide +kernel) (h2:x.length<=1000000:=by decide +kernel):Ev1 d (cst (.str x)) ε:=⟨_,rfl,z2i (z32 h1) h2⟩
theorem zsl {d i:Nat} {fs:List Fe} {ε:Ev} (h:EvL d fs ε) (hl:fs.length<=100):∃L,asgN i (z0p fs) ε=some (.nx (ε.set i (some (.own L))))/\L.length=fs.length/\∀u∈L,Ok d u:=by
 obtain⟨us,g1,g2,g3⟩:=h
 refine⟨us,?_,g2,g3⟩
 simp only[asgN,z0p,g1,y0p]
 rw[if_pos (by unfold big;omega)]
 rfl
theorem zhr {d i:Nat} {f:Fe} {ε:Ev} {L:List T} (h:Ev1 d f ε) (hi:ε[i]?=some (some (.own L))) (hl:L.length<=100) (hL:∀u∈L,Ok d u):∃L',app i f ε=some (.nx (ε.set i (some (.own L'))))/\L'.length=L.length+1/\∀u∈L',Ok d u:=by
 obtain⟨u,g1,g2⟩:=h
 refine⟨L++[u],?_,by simp,fun v hv=>?_⟩
 ·simp only[app,hi,g1,y0p]
  rw[if_pos (by unfold big;omega)]
 ·rcases y10.mp hv with hv|hv
  ·exact hL v hv
  ·rw[y0z.mp hv]
   exact g2
def ten:Str:="abcdefghij"
theorem zt5 (i:Int) (h0:0<=i) (h:i<10):∃x,oIx (.str ten) (.int i)=some (.str x)/\asc (ls x)/\x.length<=10:=by
 obtain⟨n,rfl⟩:∃n:Nat,i=n:=⟨i.toNat,by omega⟩
 have hn:n<10:=by omega
 have hls:(ls ten).length=10:=by decide +kernel
 have hb:ten.length<=big:=by decide +kernel
 have ha:asc (ls ten):=z32
 have hget:(ls ten)[n]?=some ((ls ten)[n]'(by omega)):=y0v _
 refine⟨st [(ls ten)[n]'(by omega)],?_,by rw[z8d];exact fun a ha'=>by rw[y0z.mp ha'];exact ha _ (List.getElem_mem _),by rw[z1r,z8d];simp⟩
 simp only[oIx]
 rw[if_pos hb]
 have e:atZ ten.cps.toList (n:Int)=some ((ls ten)[n]'(by omega)):=by
  simp only[atZ,ixOf]
  rw[if_pos (by omega),if_pos (by
   show (n:Int)<((ls ten).length:Int)
   omega)]
  exact hget
 rw[e]
 rfl
theorem z9u {d:Nat} {it:Fi} {e:Fe} {ε:Ev}:∀{ts:List T} (s:Option Sl),(∀t∈ts,Ev1 d e [some (.imm t)])->∃us,z2c (gNm 0) (cstT true) e ts [s]=some us/\us.length=ts.length/\∀u∈us,Ok d u
 | [],s,_=>⟨[],rfl,rfl,by simp⟩
 | t::ts,s,h=>by
  obtain⟨u,h1,h2⟩:=h t (by simp)
  obtain⟨us,g1,g2,g3⟩:=z9u (it:=it) (ε:=ε) (ts:=ts) (some (.imm t)) fun v hv=>h v (y05 _ hv)
  refine⟨u::us,?_,by simp[g2],fun v hv=>?_⟩
  ·rw[z2c,show gNm 0 t [s]=some [some (.imm t)] from rfl]
   simp only[y0p,cstT,if_true,h1]
   rw[g1]
   rfl
  ·rcases y09.mp hv with rfl|hv
   ·exact h2
   ·exact g3 v hv
theorem zhu {d:Nat} {f e:Fe} {ε:Ev} {n:Int} (hf:f ε=some (.int n)) (h0:0<=n) (hn:n<=50) (h:∀k:Int,0<=k->k<n->Ev1 d e [some (.imm (.int k))]):∃us,opN z1u [comp 1 [] (z26 f) (gNm 0) (cstT true) e] ε=some (.tuple us)/\(us.length:Int)=n/\∀u∈us,Ok d u:=by
 have hit:z26 f ε=some ((List.range n.toNat).map fun (k:Nat)=>PyData.int (k:Int)):=by
  unfold z26
  rw[hf]
  simp only[y0p]
  rw[if_pos (by
   unfold z6d
   rw[y1b]
   exact⟨decide_eq_true (by omega),decide_eq_true (by omega)⟩)]
  unfold rng
  rw[Int.sub_zero]
  congr 1
  refine List.map_congr_left fun a _=>?_
  show PyData.int (0+(a:Int))=.int (a:Int)
  rw[Int.zero_add]
 obtain⟨us,g1,g2,g3⟩:=z9u (it:=z26 f) (ε:=ε) (d:=d) (e:=e) (ts:=(List.range n.toNat).map fun (k:Nat)=>PyData.int (k:Int)) none fun t ht=>by
  obtain⟨k,hk,rfl⟩:=y0m.mp ht
  have:=List.mem_range.mp hk
  exact h k (by omega) (by omega)
 refine⟨us,?_,by rw[g2,y13,List.length_range];omega,g3⟩
 rw[opN1 (t:=.list us) (by
  simp only[comp,hit,y0p]
  rw[if_pos (by rw[y13,List.length_range];unfold big;omega),show z1f 1 [] ε=[none] from rfl,g1]
  rfl)]
 rfl
theorem zmj {d i:Nat} {fs:List Fe} {ε:Ev} {L:List T} (hi:nm i ε=some (.list L)) (hL:∀u∈L,Ok d u) (hl:L.length+fs.length<=100) (h:EvL d fs ε):∃L',op2 oAdd (nm i) (z0p fs) ε=some (.list L')/\L'.length=L.length+fs.length/\∀u∈L',Ok d u:=by
 obtain⟨us,g1,g2,g3⟩:=h
 refine⟨L++us,add_l hi (by
  simp only[z0p,g1,y0p]
  rw[if_pos (by unfold big;omega)]) (by omega),by rw[y21,g2],fun u hu=>?_⟩
 rcases y10.mp hu with hu|hu
 ·exact hL u hu
 ·exact g3 u hu
theorem zmi {d:Nat}:∀u∈([.tuple [.str "set",.str "set"],.tuple [.str "unset",.str "set"],.tuple [.str "set",.str "unset"],.tuple [.str "free"],.list [.str "set"],.str "set",.tuple [.int 5],.none]:List T),Ok (d+1) u:=by
 have s:∀{d:Nat} {x:Str},((ls x).all fun c=>decide (c<128))=true->x.length<=1000000->Ok d (.str x):=fun h1 h2=>z2i (z32 h1) h2
 have cs:∀{ts:List T},(∀t∈ts,t∈([.str "set",.str "unset",.str "free",.int 5]:List T))->∀t∈ts,Ok d t:=fun h t ht=>by
  have:=h t ht
  simp only[y09,y28,or_false] at this
  rcases this with rfl|rfl|rfl|rfl
  ·exact s (by decide +kernel) (by decide +kernel)
  ·exact s (by decide +kernel) (by decide +kernel)
  ·exact s (by decide +kernel) (by decide +kernel)
  ·exact z5g (Int.le_trans (by omega) e30)
 intro u hu
 simp only[y09,y28,or_false] at hu
 rcases hu with rfl|rfl|rfl|rfl|rfl|rfl|rfl|rfl
 ·exact z1q (cs (by simp)) (by simp)
 ·exact z1q (cs (by simp)) (by simp)
 ·exact z1q (cs (by simp)) (by simp)
 ·exact z1q (cs (by simp)) (by simp)
 ·exact zl4 (cs (by simp)) (by simp)
 ·exact s (by decide +kernel) (by decide +kernel)
 ·exact z1q (cs (by simp)) (by simp)
 ·exact z96
theorem zc8 (n:Int):∃L,z1l [.int n]=some (.list L)/\L.length<=50/\∀u∈L,Ok 4 u:=by
 obtain⟨w,_,w0,w1,ew⟩:=modQ n 3
 obtain⟨n4,_,en4⟩:=divQ n 4
 obtain⟨k4,_,k40,k41,ek4⟩:=modQ n4 4
 obtain⟨n64,_,en64⟩:=divQ n 64
 obtain⟨k8,_,k80,k81,ek8⟩:=modQ n64 8
 unfold z1l runF z5q
 show ∃L,(seq _ _ [some (.imm (.int n)),none,none,none,none,none,none]).bind _=_/\_
 rw[Co.seq_nx (z2f (m_b (a:=n) rfl ew))]
 simp only[y1k,y1i]
 obtain⟨zs,ez,lz,oz⟩:=zhu (d:=1) (f:=op2 oAdd (cst (.int 7)) (nm 1)) (e:=z01 [(op2 oIx (cst (.str "abcdefghij")) (nm 0)),(cst (.str "way"))]) (ε:=[some (.imm (.int n)),some (.imm (.int w)),none,none,none,none,none]) (n:=7+w) rfl (by omega) (by omega) fun k h0 hk=>by
  obtain⟨x,ex,ax,lx⟩:=zt5 k h0 (by omega)
  refine evt (evc ⟨.str x,?_,z2i ax (by omega)⟩ (evc evs evn))
  rw[z07 (t:=.str ten) (u:=.int k) rfl rfl]
  exact ex
 rw[Co.seq_nx (z2f ez)]
 simp only[y1k,y1i]
 obtain⟨cs,ecs,lc,oc⟩:=zhu (d:=2) (f:=op2 oAdd (cst (.int 5)) (nm 1)) (e:=z01 [(opN oStr [(op2 oAdd (cst (.int 1000)) (nm 0))]),(cst (.str "x")),(z01 []),(cst (.int 0))]) (ε:=[some (.imm (.int n)),some (.imm (.int w)),some (.imm (.tuple zs)),none,none,none,none]) (n:=5+w) rfl (by omega) (by omega) fun k h0 hk=>by
  have hs:oStr [.int (1000+k)]=some (.str (strI (1000+k))):=by
   simp only[oStr]
   rw[if_pos (zlk (by omega) (Int.lt_of_le_of_lt (b:=2000) (by omega) (by decide +kernel)))]
  refine evt (evc ⟨.str (strI (1000+k)),?_,z2i (fun a ha=>?_) ?_⟩ (evc evs (evc (evt (d:=0) evn) (evc (evi rfl (by omega)) evn))))
  ·rw[opN1 (t:=.int (1000+k)) rfl]
   exact hs
  ·have:=z8s (show 0<=1000+k by omega) a ha
   omega
  ·have:=zk4 (a:=1000+k) (k:=10) (by omega) (by decide) (by omega)
   omega
 rw[Co.seq_nx (z2f ecs)]
 simp only[y1k,y1i]
 have hzs:Ok 3 (.tuple zs):=(z1q oz (by omega)).le (by omega)
 have hcs:Ok 3 (.tuple cs):=z1q oc (by omega)
 obtain⟨P,eP,oP⟩:Ev1 2 (z01 [(z01 [(cst (.str "a")),(op2 oIx (z01 [(cst (.str "day")),(cst (.str "inner")),(cst (.str "once")),(cst (.str "way"))]) (op2 oMod (op2 oDiv (nm 0) (cst (.int 4))) (cst (.int 4))))])]) [some (.imm (.int n)),some (.imm (.int w)),some (.imm (.tuple zs)),some (.imm (.tuple cs)),none,none,none]:=by
  refine evt (evc (evt (evc evs (evc ?_ evn))) evn)
  obtain⟨v,hv,ev⟩:=ixT (ts:=z36.map .str) k40 (by simpa [z36] using k41)
  obtain⟨x,hx,rfl⟩:=y0m.mp hv
  refine⟨.str x,?_,z2i (zad x hx) (by have:=zlr hx;omega)⟩
  rw[z07 (t:=.tuple (z36.map .str)) (u:=.int k4) rfl (m_b (d_b rfl en4) ek4)]
  exact ev
 rw[Co.seq_nx (z2f eP)]
 simp only[y1k,y1i]
 have E1:∀{s5 s6:Option Sl},Ev1 3 (nmV 2) [some (.imm (.int n)),some (.imm (.int w)),some (.imm (.tuple zs)),some (.imm (.tuple cs)),some (.imm P),s5,s6]:=⟨_,rfl,hzs⟩
 have E2:∀{s5 s6:Option Sl},Ev1 3 (nmV 3) [some (.imm (.int n)),some (.imm (.int w)),some (.imm (.tuple zs)),some (.imm (.tuple cs)),some (.imm P),s5,s6]:=⟨_,rfl,hcs⟩
 have E3:∀{s5 s6:Option Sl},Ev1 3 (nmV 4) [some (.imm (.int n)),some (.imm (.int w)),some (.imm (.tuple zs)),some (.imm (.tuple cs)),some (.imm P),s5,s6]:=⟨_,rfl,oP.le (by omega)⟩
 have E4:∀{s5 s6:Option Sl},Ev1 3 (z0g (nm 3) optN (opt (cst (.int 1)))) [some (.imm (.int n)),some (.imm (.int w)),some (.imm (.tuple zs)),some (.imm (.tuple cs)),some (.imm P),s5,s6]:=⟨_,z6e (ts:=cs) (a:=none) (b:=some 1) rfl rfl rfl,z1q (fun u hu=>oc u (z48 hu)) (by have:=cut_len cs none (some 1);omega)⟩
 have T3:∀{f g h:Fe} {ε:Ev},Ev1 2 f ε->Ev1 2 g ε->Ev1 2 h ε->Ev1 3 (z01 [f,g,h]) ε:=fun a b c=>evt (evc a (evc b (evc c evn))) (by simp)
 have M3:∀{f g h:Fe} {ε:Ev},Ev1 3 f ε->Ev1 3 g ε->Ev1 3 h ε->Ev1 4 (z01 [f,g,h]) ε:=fun a b c=>evt (evc a (evc b (evc c evn))) (by simp)
 have Z:∀{ε:Ev},Ev1 2 (cst (.int 0)) ε:=evi rfl (by omega)
 have O:∀{ε:Ev},Ev1 2 (cst (.int 1)) ε:=evi rfl (by omega)
 have N:∀{c:Int} {s5 s6:Option Sl},c<=1000->Ev1 2 (op2 oAdd (cst (.int c)) (nm 1)) [some (.imm (.int n)),some (.imm (.int w)),some (.imm (.tuple zs)),some (.imm (.tuple cs)),some (.imm P),s5,s6]:=fun h=>evi rfl (by omega)
 obtain⟨L1,g1,l1,o1⟩:=zsl (i:=5) (d:=4) (fs:=[(z01 [(nmV 2),(z0g (nm 3) optN (opt (cst (.int 1)))),(z01 [(cst (.int 0)),(cst (.int 0)),(cst (.int 1))])]),(z01 [(nmV 4),(nmV 3),(z01 [(cst (.int 0)),(cst (.int 0)),(cst (.int 1))])]),(z01 [(nmV 4),(z0g (nm 3) optN (opt (cst (.int 1)))),(z01 [(op2 oAdd (cst (.int 59)) (nm 1)),(cst (.int 0)),(cst (.int 1))])])]) (ε:=[some (.imm (.int n)),some (.imm (.int w)),some (.imm (.tuple zs)),some (.imm (.tuple cs)),some (.imm P),none,none]) (evc (M3 E1 E4 (T3 Z Z O)) (evc (M3 E3 E2 (T3 Z Z O)) (evc (M3 E3 E4 (T3 (N (by omega)) Z O)) evn))) (by simp)
 rw[Co.seq_nx g1]
 simp only[y1k,y1i]
 obtain⟨L2,g2,l2,o2⟩:=zmj (i:=5) (d:=4) (L:=L1) (fs:=[(z01 [(nmV 4),(z0g (nm 3) optN (opt (cst (.int 1)))),(z01 [(cst (.int 0)),(op2 oAdd (cst (.int 59)) (nm 1)),(cst (.int 1))])]),(z01 [(nmV 4),(z0g (nm 3) optN (opt (cst (.int 1)))),(z01 [(cst (.int 0)),(cst (.int 0)),(op2 oAdd (cst (.int 299)) (nm 1))])])]) (ε:=[some (.imm (.int n)),some (.imm (.int w)),some (.imm (.tuple zs)),some (.imm (.tuple cs)),some (.imm P),some (.own L1),none]) rfl o1 (by simp at l1 ⊢;omega) (evc (M3 E3 E4 (T3 Z (N (by omega)) O)) (evc (M3 E3 E4 (T3 Z Z (N (by omega)))) evn))
 simp only[y0w,y2d] at l1 l2
 rw[Co.seq_nx (ε':=[some (.imm (.int n)),some (.imm (.int w)),some (.imm (.tuple zs)),some (.imm (.tuple cs)),some (.imm P),some (.own L2),none]) (by unfold asgN;rw[g2];rfl)]
 obtain⟨L3,g3,l3,o3⟩:=zhr (i:=5) (d:=4) (L:=L2) (f:=z01 [(nmV 4),(z0g (nm 3) optN (opt (cst (.int 1)))),(z01 [(cst (.int 0)),(cst (.int 0)),(nmV 1)])]) (ε:=[some (.imm (.int n)),some (.imm (.int w)),some (.imm (.tuple zs)),some (.imm (.tuple cs)),some (.imm P),some (.own L2),none]) (M3 E3 E4 (T3 Z Z (evi rfl (by omega)))) rfl (by omega) o2
 rw[Co.seq_nx g3]
 simp only[y1k,y1i]
 obtain⟨L4,g4,l4,o4⟩:=zhr (i:=5) (d:=4) (L:=L3) (f:=z01 [(nmV 4),(z01 [(z01 [(cst (.str "1234")),(cst (.str "who")),(z0g (z01 [(cst (.str "set")),(cst (.str "shunt")),(cst (.str "unset"))]) (opt (nm 1)) optN),(op2 oAdd (cst (.int 8)) (nm 1))])]),(z01 [(cst (.int 0)),(cst (.int 0)),(cst (.int 1))])]) (ε:=[some (.imm (.int n)),some (.imm (.int w)),some (.imm (.tuple zs)),some (.imm (.tuple cs)),some (.imm P),some (.own L3),none]) (M3 E3 (evt (evc (evt (evc (d:=1) evs (evc evs (evc ⟨.tuple (cutZ (z0m.map .str) (some w) none),z6e (ts:=z0m.map .str) (a:=some w) (b:=none) rfl rfl rfl,z1q (fun u hu=>by
  obtain⟨x,hx,rfl⟩:=y0m.mp (z48 hu)
  exact z2i (z8l x hx) (by have:=zhk (l:=z0m) 100 (by decide +kernel) hx;omega)) (by have:=cut_len (z0m.map y1v) (some w) none;have h3:(z0m.map y1v).length=3:=rfl;omega)⟩ (evc (evi rfl (by omega)) evn))))) evn)) (T3 Z Z O)) rfl (by omega) o3
 rw[Co.seq_nx g4]
 simp only[y1k,y1i]
 rw[Co.seq_nx (z2f (t:=.list [.tuple [.str "set",.str "set"],.tuple [.str "unset",.str "set"],.tuple [.str "set",.str "unset"],.tuple [.str "free"],.list [.str "set"],.str "set",.tuple [.int 5],.none]) rfl)]
 simp only[y1k,y1i]
 obtain⟨R,hR,eR⟩:=zlw (L:=[.tuple [.str "set",.str "set"],.tuple [.str "unset",.str "set"],.tuple [.str "set",.str "unset"],.tuple [.str "free"],.list [.str "set"],.str "set",.tuple [.int 5],.none]) k80 (by simpa using k81)
 have oR:Ok 1 R:=zmi (d:=0) R hR
 rw[Co.seq_nx (z2f (t:=R) (by rw[z07 (u:=.int k8) rfl (m_b (d_b rfl en64) ek8)];exact eR))]
 simp only[y1k,y1i]
 obtain⟨L5,g5,l5,o5⟩:=zhr (i:=5) (d:=4) (L:=L4) (f:=z01 [(nmV 4),(z01 [(z01 [(cst (.str "1234")),(cst (.str "who")),(nmV 6),(cst (.int 0))])]),(z01 [(cst (.int 0)),(cst (.int 0)),(cst (.int 1))])]) (ε:=[some (.imm (.int n)),some (.imm (.int w)),some (.imm (.tuple zs)),some (.imm (.tuple cs)),some (.imm P),some (.own L4),some (.imm R)]) (M3 E3 (evt (evc (evt (evc (d:=1) evs (evc evs (evc ⟨R,rfl,oR⟩ (evc (evi rfl (by omega)) evn))))) evn)) (T3 Z Z O)) rfl (by omega) o4
 rw[Co.seq_nx g5]
 simp only[y1k,y1i]
 have eA:op2 oAdd (z0g (cst (.str "abcd")) optN (opt (op2 oAdd (cst (.int 2)) (nm 1)))) (cst (.str "e")) [some (.imm (.int n)),some (.imm (.int w)),some (.imm (.tuple zs)),some (.imm (.tuple cs)),some (.imm P),some (.own L5),some (.imm R)]=some (.str (st (cutZ (ls "abcd") none (some (2+w)))++"e")):=addS (zfa (x:="abcd") (a:=none) (b:=some (2+w)) rfl rfl rfl (by decide +kernel)) rfl (by
  rw[z1r,z8d]
  have:=cut_len (ls "abcd") none (some (2+w))
  have h4:(ls "abcd").length=4:=by decide +kernel
  have h1:("e":Str).length=1:=by decide +kernel
  omega)
 obtain⟨L6,g6,l6,o6⟩:=zhr (i:=5) (d:=4) (L:=L5) (f:=z01 [(z01 [(z01 [(op2 oAdd (z0g (cst (.str "abcd")) optN (opt (op2 oAdd (cst (.int 2)) (nm 1)))) (cst (.str "e"))),(cst (.str "way"))])]),(z0g (nm 3) optN (opt (cst (.int 1)))),(z01 [(cst (.int 0)),(cst (.int 0)),(cst (.int 1))])]) (ε:=[some (.imm (.int n)),some (.imm (.int w)),some (.imm (.tuple zs)),some (.imm (.tuple cs)),some (.imm P),some (.own L5),some (.imm R)]) (M3 (evt (evc (evt (evc (d:=1) ⟨_,eA,z2i (by rw[z4w,z8d];exact z3s (za9 (z32 (s:="abcd")) fun y hy=>z48 hy) z32) (by
  rw[zac,z1r,z8d]
  have:=cut_len (ls "abcd") none (some (2+w))
  have h4:(ls "abcd").length=4:=by decide +kernel
  have h1:("e":Str).length=1:=by decide +kernel
  omega)⟩ (evc evs evn))) evn)) E4 (T3 Z Z O)) rfl (by omega) o5
 rw[Co.seq_nx g6]
 simp only[y1k,y1i]
 obtain⟨L7,g7,l7,o7⟩:=zmj (i:=5) (d:=4) (L:=L6) (fs:=[(z01 [(z01 []),(z0g (nm 3) optN (opt (cst (.int 1)))),(z01 [(cst (.int 0)),(cst (.int 0)),(cst (.int 1))])]),(z01 [(nmV 4),(z01 []),(z01 [(cst (.int 0)),(cst (.int 0)),(cst (.int 1))])])]) (ε:=[some (.imm (.int n)),some (.imm (.int w)),some (.imm (.tuple zs)),some (.imm (.tuple cs)),some (.imm P),some (.own L6),some (.imm R)]) rfl o6 (by simp;omega) (evc (M3 (evt (d:=2) evn) E4 (T3 Z Z O)) (evc (M3 E3 (evt (d:=2) evn) (T3 Z Z O)) evn))
 simp only[y0w,y2d] at l7
 refine⟨L7,?_,by omega,o7⟩
 simp only[rtn]
 rw[g7]
 rfl
def bP:Fs:=(seq (asg 6 (opN z7c [(nmV 5)]))
  (iff (orT (notT (tstB (op1 (oIsI "bool") (nm 6)))) (tstB (op2 oNe (nm 6) (opN z4s [(nmV 5)])))) (rtn (cst (.bool false))) skip))
noncomputable def bE:Fs:=(seq (asg 6 (opN z5z [(nmV 2),(nmV 5)]))
  (iff (orT (notT (tstB (op1 (oIsI "bool") (nm 6)))) (tstB (op2 oNe (nm 6) (opN z44 [(nmV 2),(nmV 5)])))) (rtn (cst (.bool false))) skip))
theorem zun {s0 s1 s2 s3 s4 s7:Option Sl}:∀(us:List T) (s5 s6:Option Sl),(∀u∈us,Ok 6 u)->∃s5' s6',forL (gNm 5) bP us [s0,s1,s2,s3,s4,s5,s6,s7]=some (.nx [s0,s1,s2,s3,s4,s5',s6',s7])
 | [],s5,s6,_=>⟨s5,s6,rfl⟩
 | u::us,s5,s6,h=>by
  have hu:=h u (by simp)
  obtain⟨a,b,e⟩:=zun (s0:=s0) (s1:=s1) (s2:=s2) (s3:=s3) (s4:=s4) (s7:=s7) us (some (.imm u)) (some (.imm (.bool (z52 u)))) fun v hv=>h v (y05 _ hv)
  refine⟨a,b,?_⟩
  rw[forL,show gNm 5 u [s0,s1,s2,s3,s4,s5,s6,s7]=some [s0,s1,s2,s3,s4,some (.imm u),s6,s7] from rfl,y0p]
  have e1:bP [s0,s1,s2,s3,s4,some (.imm u),s6,s7]=some (.nx [s0,s1,s2,s3,s4,some (.imm u),some (.imm (.bool (z52 u))),s7]):=by
   unfold bP
   rw[Co.seq_nx (z2f (t:=.bool (z52 u)) (by rw[opN1 (t:=u) rfl];exact zhe (d:=2) hu.g (by omega)))]
   simp only[y1k,y1i]
   rw[z79 (orF (z09 (a:=true) (z04 rfl)) (ne_self (d:=0) (t:=.bool (z52 u)) rfl (by rw[opN1 (t:=u) rfl];exact zj3 (d:=2) hu.g (by omega) hu.w) zc5)),if_neg (by simp)]
  rw[e1,y0p]
  exact e
theorem zuq {s0 s1 s3 s4 s7:Option Sl} {p:Pl} (hp:Pok p):∀(us:List T) (s5 s6:Option Sl),(∀u∈us,Ok 3 u)->∃s5' s6',forL (gNm 5) bE us [s0,s1,some (.imm (encP p)),s3,s4,s5,s6,s7]=some (.nx [s0,s1,some (.imm (encP p)),s3,s4,s5',s6',s7])
 | [],s5,s6,_=>⟨s5,s6,rfl⟩
 | u::us,s5,s6,h=>by
  have hu:=h u (by simp)
  obtain⟨a,b,e⟩:=zuq (s0:=s0) (s1:=s1) (s3:=s3) (s4:=s4) (s7:=s7) hp us (some (.imm u)) (some (.imm (.bool (z2x p u)))) fun v hv=>h v (y05 _ hv)
  refine⟨a,b,?_⟩
  rw[forL,show gNm 5 u [s0,s1,some (.imm (encP p)),s3,s4,s5,s6,s7]=some [s0,s1,some (.imm (encP p)),s3,s4,some (.imm u),s6,s7] from rfl,y0p]
  have e1:bE [s0,s1,some (.imm (encP p)),s3,s4,some (.imm u),s6,s7]=some (.nx [s0,s1,some (.imm (encP p)),s3,s4,some (.imm u),some (.imm (.bool (z2x p u))),s7]):=by
   unfold bE
   rw[Co.seq_nx (z2f (t:=.bool (z2x p u)) (by rw[opN2 (t:=encP p) (u:=u) rfl rfl];exact zed hp (d:=2) hu.g (by omega)))]
   simp only[y1k,y1i]
   rw[z79 (orF (z09 (a:=true) (z04 rfl)) (ne_self (d:=0) (t:=.bool (z2x p u)) rfl (by
    rw[opN2 (t:=encP p) (u:=u) rfl rfl]
    exact zgb hp (d:=2) hu.g (by omega) fun a i e=>hu.c _ e i (by simp)) zc5)),if_neg (by simp)]
  rw[e1,y0p]
  exact e
theorem zhl (ns:List Int) (h:ns.length<=63):zc9 [z05 ns]=some (.bool true):=by
 obtain⟨m0,hm0,x0⟩:=Co.mixed_eq ns 0
 obtain⟨m1,hm1,x1⟩:=Co.mixed_eq ns 1
 obtain⟨m2,hm2,x2⟩:=Co.mixed_eq ns 2
 obtain⟨m3,hm3,x3⟩:=Co.mixed_eq ns 3
 obtain⟨m4,hm4,x4⟩:=Co.mixed_eq ns 4
 obtain⟨m5,hm5,x5⟩:=Co.mixed_eq ns 5
 obtain⟨p,hp,xp⟩:=Co.plan_eq m1
 obtain⟨e,he,xe⟩:=Co.event_eq hp m2
 have hv:=zoa hp
 have hpn:=zu3 hv
 have heo:=zsm he
 have sP:=zo2 hp hv
 have sE:=zk8 hv heo (DE.tick he)
 have oP:Ok 6 (encP p):=(zan sP).le (by omega)
 have oE:Ok 3 (encE e):=(zan sE).le (by omega)
 unfold zc9 runF zn5
 show (seq _ _ [some (.imm (z05 ns)),none,none,none,none,none,none,none]).bind _=_
 have S:∀(j m:Int) (r:Ev),z0e [z05 ns,.int j]=some (.int m)->opN z0e [(nmV 0),(cst (.int j))] (some (.imm (z05 ns))::r)=some (.int m):=fun j m r e=>by
  rw[opN2 (t:=z05 ns) (u:=.int j) rfl rfl]
  exact e
 rw[Co.seq_nx (z2f (S 0 m0 _ x0))]
 simp only[y1k,y1i]
 rw[Co.seq_nx (z2f (t:=encP p) (by rw[opN1 (S 1 m1 _ x1),xp]))]
 simp only[y1k,y1i]
 rw[Co.seq_nx (z2f (t:=encE e) (by rw[opN2 (t:=encP p) rfl (S 2 m2 _ x2),xe]))]
 simp only[y1k,y1i]
 have isn:∀{f:Fe} {ε:Ev},f ε=some (.bool true)->tstB (op2 z99 f (cst (.bool true))) ε=some false:=fun hf=>z04 (by rw[z07 hf (u:=.bool true) rfl];rfl)
 rw[z8v (orF (isn (by rw[opN1 (t:=encP p) rfl,zhe (d:=2) oP.g (by omega),zod hv])) (isn (by rw[opN2 (t:=encP p) (u:=encE e) rfl rfl,zed hpn.ok (d:=2) oE.g (by omega),zmh heo])))]
 rw[Co.seq_nx (z2f (t:=encP p) rfl)]
 simp only[y1k,y1i]
 obtain⟨r3,_,r30,r31,er3⟩:=modQ m0 3
 obtain⟨d4,_,ed4⟩:=divQ m0 4
 obtain⟨k5,_,k50,k51,ek5⟩:=modQ d4 5
 obtain⟨d32,_,ed32⟩:=divQ m0 32
 obtain⟨k2,_,k20,k21,ek2⟩:=modQ d32 2
 obtain⟨a5,rfl⟩:∃a:Nat,k5=a:=⟨k5.toNat,by omega⟩
 obtain⟨a2,rfl⟩:∃a:Nat,k2=a:=⟨k2.toNat,by omega⟩
 obtain⟨u,eu,ou⟩:=z6z 20 a5 4 (encP p) m3 sP (by omega) (by omega)
 obtain⟨v,ev,ov⟩:=z6z 20 a2 1 (encE e) m4 sE (by omega) (by omega)
 obtain⟨t,w,ot,ow,est⟩:∃t w,Ok 6 t/\Ok 3 w/\iff (tstB (op2 oGt (op2 oMod (nm 1) (cst (.int 3))) (cst (.int 0)))) (seq (asg 4 (opN (z18 20) [(nmV 4),(opN z0e [(nmV 0),(cst (.int 3))]),(op2 oMod (op2 oDiv (nm 1) (cst (.int 4))) (cst (.int 5)))]))
  (asg 3 (opN (z18 20) [(nmV 3),(opN z0e [(nmV 0),(cst (.int 4))]),(op2 oMod (op2 oDiv (nm 1) (cst (.int 32))) (cst (.int 2)))]))) skip [some (.imm (z05 ns)),some (.imm (.int m0)),some (.imm (encP p)),some (.imm (encE e)),some (.imm (encP p)),none,none,none]=some (.nx [some (.imm (z05 ns)),some (.imm (.int m0)),some (.imm (encP p)),some (.imm w),some (.imm t),none,none,none]):=by
  simp only[iff]
  rw[gt_b (m_b (a:=m0) rfl er3),y0p]
  by_cases hq:0<r3
  ·refine⟨u,v,ou,ov,?_⟩
   rw[decide_eq_true hq,if_pos rfl]
   rw[Co.seq_nx (z2f (t:=u) (by rw[opN3 (t:=encP p) (u:=.int m3) (v:=.int (a5:Int)) rfl (S 3 m3 _ x3) (m_b (d_b (a:=m0) rfl ed4) ek5)];exact eu))]
   simp only[y1k,y1i]
   rw[z2f (t:=v) (by rw[opN3 (t:=encE e) (u:=.int m4) (v:=.int (a2:Int)) rfl (S 4 m4 _ x4) (m_b (d_b (a:=m0) rfl ed32) ek2)];exact ev)]
   rfl
  ·refine⟨encP p,encE e,oP,oE,?_⟩
   rw[decide_eq_false hq,if_neg (by simp)]
   rfl
 rw[Co.seq_nx est]
 obtain⟨L,eL,lL,oL⟩:=zc8 m5
 have hit:itA (op2 oAdd (opN z1l [(opN z0e [(nmV 0),(cst (.int 5))])]) (z0p [(nmV 4),(nmV 3)])) [some (.imm (z05 ns)),some (.imm (.int m0)),some (.imm (encP p)),some (.imm w),some (.imm t),none,none,none]=some (L++[t,w]):=by
  simp only[itA]
  rw[add_l (a:=L) (b:=[t,w]) (by rw[opN1 (S 5 m5 _ x5)];exact eL) rfl (by simp;omega)]
  rfl
 obtain⟨s5,s6,ep⟩:=zun (s0:=some (.imm (z05 ns))) (s1:=some (.imm (.int m0))) (s2:=some (.imm (encP p))) (s3:=some (.imm w)) (s4:=some (.imm t)) (s7:=none) (L++[t,w]) none none fun x hx=>by
  rcases y10.mp hx with hx|hx
  ·exact (oL x hx).le (by omega)
  ·simp only[y09,y28,or_false] at hx
   rcases hx with rfl|rfl
   ·exact ot
   ·exact ow.le (by omega)
 rw[Co.seq_nx (ε':=[some (.imm (z05 ns)),some (.imm (.int m0)),some (.imm (encP p)),some (.imm w),some (.imm t),s5,s6,none]) (by unfold for_;rw[hit];exact ep)]
 obtain⟨d64,_,ed64⟩:=divQ m0 64
 obtain⟨k3,_,k30,k31,ek3⟩:=modQ d64 3
 rw[Co.seq_nx (z2f (t:=.list [.tuple [.str "ticks",.int k3],.tuple [.str "ticks",.bool true],.tuple [.str "line",.str "zzzz",.str "open"]]) (by
  simp only[z0p,z01,args]
  rw[m_b (d_b (a:=m0) rfl ed64) ek3]
  rfl))]
 simp only[y1k,y1i]
 have oS:∀{d:Nat} {x:Str},((ls x).all fun c=>decide (c<128))=true->x.length<=1000000->Ok d (.str x):=fun h1 h2=>z2i (z32 h1) h2
 obtain⟨s5',s6',ee⟩:=zuq (s0:=some (.imm (z05 ns))) (s1:=some (.imm (.int m0))) (s3:=some (.imm w)) (s4:=some (.imm t)) (s7:=some (.imm (.list [.tuple [.str "ticks",.int k3],.tuple [.str "ticks",.bool true],.tuple [.str "line",.str "zzzz",.str "open"]]))) hpn.ok [.tuple [.str "ticks",.int k3],.tuple [.str "ticks",.bool true],.tuple [.str "line",.str "zzzz",.str "open"],w,.tuple [.str "code",.str "1234",.str "set",.str "a"]] s5 s6 fun x hx=>by
  simp only[y09,y28,or_false] at hx
  have tp:∀{ts:List T},(∀y∈ts,Ok 0 y)->ts.length<60->Ok 3 (.tuple ts):=fun h1 h2=>(z1q h1 h2).le (by omega)
  rcases hx with rfl|rfl|rfl|rfl|rfl
  ·refine tp (fun y hy=>?_) (by simp)
   simp only[y09,y28,or_false] at hy
   rcases hy with rfl|rfl
   ·exact oS (by decide +kernel) (by decide +kernel)
   ·exact z5g (Int.le_trans (by omega) e30)
  ·refine tp (fun y hy=>?_) (by simp)
   simp only[y09,y28,or_false] at hy
   rcases hy with rfl|rfl
   ·exact oS (by decide +kernel) (by decide +kernel)
   ·exact zbv
  ·refine tp (fun y hy=>?_) (by simp)
   simp only[y09,y28,or_false] at hy
   rcases hy with rfl|rfl|rfl <;> exact oS (by decide +kernel) (by decide +kernel)
  ·exact ow
  ·refine tp (fun y hy=>?_) (by simp)
   simp only[y09,y28,or_false] at hy
   rcases hy with rfl|rfl|rfl|rfl <;> exact oS (by decide +kernel) (by decide +kernel)
 rw[Co.seq_nx (ε':=[some (.imm (z05 ns)),some (.imm (.int m0)),some (.imm (encP p)),some (.imm w),some (.imm t),s5',s6',some (.imm (.list [.tuple [.str "ticks",.int k3],.tuple [.str "ticks",.bool true],.tuple [.str "line",.str "zzzz",.str "open"]]))]) (by
  unfold for_
  rw[show itA (op2 oAdd (nm 7) (z0p [(nmV 3),(z01 [(cst (.str "code")),(cst (.str "1234")),(cst (.str "set")),(cst (.str "a"))])])) [some (.imm (z05 ns)),some (.imm (.int m0)),some (.imm (encP p)),some (.imm w),some (.imm t),s5,s6,some (.imm (.list [.tuple [.str "ticks",.int k3],.tuple [.str "ticks",.bool true],.tuple [.str "line",.str "zzzz",.str "open"]]))]=some [.tuple [.str "ticks",.int k3],.tuple [.str "ticks",.bool true],.tuple [.str "line",.str "zzzz",.str "open"],w,.tuple [.str "code",.str "1234",.str "set",.str "a"]] from rfl]
  exact ee)]
 rfl
end K01
end
section
namespace Fo
open D Co PySem
mutual
noncomputable def nb:T->Bool
 | .bool _=>false
 | .dict _=>false
 | .tuple ts=>nbL ts
 | .list ts=>nbL ts
 | _=>true
noncomputable def nbL:List T->Bool
 | []=>true
 | t::ts=>nb t && nbL ts
end
mutual
theorem zv5:∀{t u:T},nb t=true->nb u=true->y1z t u=true->t=u
 | .none,u,_,_,h=>by cases u <;> simp[y1z] at h;rfl
 | .bool _,_,h,_,_=>by simp[nb] at h
 | .dict _,_,h,_,_=>by simp[nb] at h
 | .int i,u,_,hu,h=>by
  cases u <;> simp[y1z] at h
  ·simp[nb] at hu
  ·rw[h]
 | .str x,u,_,_,h=>by
  cases u <;> simp[y1z] at h
  rw[h]
 | .list xs,u,ht,hu,h=>by
  cases u <;> simp only[y1z,y1t] at h
  rw[nb] at ht hu
  rw[zgh ht hu h]
 | .tuple xs,u,ht,hu,h=>by
  cases u <;> simp only[y1z,y1t] at h
  rw[nb] at ht hu
  rw[zgh ht hu h]
theorem zgh:∀{ts us:List T},nbL ts=true->nbL us=true->PyData.eqvAll ts us=true->ts=us
 | [],[],_,_,_=>rfl
 | [],_::_,_,_,h=>by simp[PyData.eqvAll] at h
 | _::_,[],_,_,h=>by simp[PyData.eqvAll] at h
 | t::ts,u::us,ht,hu,h=>by
  rw[nbL,y1b] at ht hu
  rw[PyData.eqvAll,y1b] at h
  rw[zv5 ht.1 hu.1 h.1,zgh ht.2 hu.2 h.2]
end
theorem ztl:([34,39].all fun q=>(List.range 128).all fun c=>(Builtin.Str.reprChar q c).all fun a=>decide (a<128))=true:=by decide +kernel
theorem ztk {q c:Nat} (hq:q=34\/q=39) (hc:c<128):asc (Builtin.Str.reprChar q c):=fun a ha=>by
 have h1:=List.all_eq_true.mp ztl q (by rcases hq with rfl|rfl <;> simp)
 have h2:=List.all_eq_true.mp h1 c (List.mem_range.mpr hc)
 exact of_decide_eq_true (List.all_eq_true.mp h2 a ha)
theorem rq (x:Str):reprQuote x=34\/reprQuote x=39:=by
 unfold reprQuote
 split
 ·exact .inl rfl
 ·exact .inr rfl
theorem zhq {q:Nat} (hq:q=34\/q=39):∀(l:List Nat) (acc:Array Nat),asc l->asc acc.toList->asc (l.foldl (fun out c=>out++(Builtin.Str.reprChar q c).toArray) acc).toList
 | [],acc,_,h=>h
 | c::l,acc,hl,h=>by
  rw[List.foldl_cons]
  refine zhq hq l _ (fun a ha=>hl a (y05 _ ha)) ?_
  rw[Array.toList_append]
  exact z3s h (ztk hq (hl c (by simp)))
theorem zo6 {x:Str} (h:asc (ls x)):asc (ls (reprText x)):=by
 have h34:∀a∈[reprQuote x],a<128:=fun a ha=>by
  rw[y0z.mp ha]
  rcases rq x with e|e <;> rw[e] <;> omega
 show asc ((x.cps.foldl (fun out c=>out++(Builtin.Str.reprChar (reprQuote x) c).toArray) #[reprQuote x]).push (reprQuote x)).toList
 rw[Array.toList_push,<- Array.foldl_toList]
 exact z3s (zhq (rq x) _ _ h h34) h34
structure Sw (B:Nat) (t:T):Prop where
 sh:t.showable=true
 nd:t.hasDict=false
 as:asc (ls t.shown)
 le:t.shown.length<=B
theorem Sw.mono {B C:Nat} {t:T} (h:Sw B t) (hc:B<=C):Sw C t:=⟨h.sh,h.nd,h.as,y1o h.le hc⟩
theorem zr5:Sw 2000 .none:=⟨rfl,rfl,by rw[PyData.shown_none];exact z32,by rw[PyData.shown_none];decide +kernel⟩
theorem zr6 {i:Int} (h0:0<=i) (hw:i<W64) (hl:(strI i).length<=100):Sw 2000 (.int i) :=
 ⟨by
  have:=zlk h0 hw
  rw[PyData.showable]
  exact this,rfl,by rw[PyData.shown_int];exact fun a ha=>(by
   have:=z8s h0 a ha
   omega),by rw[PyData.shown_int];exact y1o hl (by omega)⟩
theorem zt9 {i:Int} (h0:0<=i) (h:i<1000000000):Sw 2000 (.int i):=zr6 h0 (Int.lt_trans h (by decide +kernel)) (zk3 h0 h)
theorem zq4 {x:Str} (h:asc (ls x)) (hl:x.length<=100):Sw 2000 (.str x) :=
 ⟨rfl,rfl,by rw[PyData.shown_str];exact zo6 h,by
  rw[PyData.shown_str]
  have:=StrLaws.reprText_len x fun c hc=>by
   have:=h c hc
   omega
  omega⟩
theorem z56:∀ts:List T,PyData.shownAll ts=ts.map PyData.shown
 | []=>PyData.shownAll_nil
 | t::ts=>by rw[PyData.shownAll_cons,z56 ts];rfl
theorem ze3 {s:Str} (hs:asc (ls s)):∀ps:List Str,(∀p∈ps,asc (ls p))->asc (ls (Str.join s ps))
 | [],_=>fun a ha=>by cases ha
 | [p],h=>by rw[PyProof.Rows.join_one];exact h p (by simp)
 | p::q::r,h=>by
  rw[PyProof.Rows.join_cons_cons,z4w,z4w]
  exact z3s (z3s (h p (by simp)) hs) (ze3 hs (q::r) fun y hy=>h y (y05 _ hy))
theorem zq7:∀{ts:List T},(∀t∈ts,t.showable=true)->PyData.showableAll ts=true
 | [],_=>rfl
 | t::ts,h=>by rw[PyData.showableAll,h t (by simp),zq7 fun u hu=>h u (y05 _ hu)];rfl
theorem zqj:∀{ts:List T},(∀t∈ts,t.hasDict=false)->PyData.hasDictAll ts=false
 | [],_=>rfl
 | t::ts,h=>by rw[PyData.hasDictAll,h t (by simp),zqj fun u hu=>h u (y05 _ hu)];rfl
theorem zq5 {B:Nat}:∀{ps:List Nat},(∀p∈ps,p<=B)->ps.sum<=ps.length*B
 | [],_=>by simp
 | p::ps,h=>by
  have h1:=h p (by simp)
  have h2:=zq5 fun q hq=>h q (y05 p hq)
  rw[List.sum_cons,y0w,Nat.succ_mul]
  omega
theorem zh8 {B n:Nat} {ts:List T} (h:∀t∈ts,Sw B t) (hn:ts.length<=n):Sw (n*(B+2)+4) (.tuple ts):=by
 have e2:asc (ls (", ":Str)):=z32
 have l2:(", ":Str).length=2:=by decide +kernel
 have e3:asc (ls ("(":Str)):=z32
 have e4:asc (ls (if ts.length == 1 then ",)" else ")":String)):=by split <;> exact z32
 have l3:("(":Str).length=1:=by decide +kernel
 have l4:(Str.ofString (if ts.length == 1 then ",)" else ")":String)).length<=2:=by split <;> decide +kernel
 have hj:=StrLaws.join_length_le ", " (ts.map PyData.shown)
 rw[l2,y13,y2h] at hj
 have hs:=zq5 (ps:=ts.map (Str.length ∘ PyData.shown)) (B:=B) fun p hp=>by
  obtain⟨t,ht,rfl⟩:=y0m.mp hp
  exact (h t ht).le
 rw[y13] at hs
 have hm:ts.length*(B+2)<=n*(B+2):=Nat.mul_le_mul_right _ hn
 rw[Nat.mul_add] at hm
 refine⟨by rw[PyData.showable];exact zq7 fun t ht=>(h t ht).sh,by rw[PyData.hasDict];exact zqj fun t ht=>(h t ht).nd,?_,?_⟩
 ·rw[PyData.shown_tuple,z56,z4w,z4w]
  refine z3s (z3s e3 (ze3 e2 _ fun p hp=>?_)) e4
  obtain⟨t,ht,rfl⟩:=y0m.mp hp
  exact (h t ht).as
 ·rw[PyData.shown_tuple,z56,z1r,z4w,z4w,y21,y21,<- z1r,<- z1r,<- z1r]
  have:(List.map (Str.length ∘ PyData.shown) ts).sum<=ts.length*B:=hs
  have hj2:(Str.join ", " (List.map PyData.shown ts)).length<=(List.map (Str.length ∘ PyData.shown) ts).sum+ts.length*2:=hj
  omega
theorem zq8 {f:Fe} {ε:Ev} {ts:List T} {B d:Nat} (hf:f ε=some (.tuple ts)) (h:Sw B (.tuple ts)) (hB:B<=1000000) (g:Gd d (.tuple ts)) (hd:d<=60:=by decide):opN zbx [f] ε=some (.str (PyData.tuple ts).shown):=by
 rw[opN1 hf]
 simp only[zbx]
 have:=h.le
 have hdp:=g.2
 rw[if_pos (by
  simp only[y1b,Bool.not_eq_true',decide_eq_true_eq]
  exact⟨⟨⟨h.sh,h.nd⟩,by omega⟩,by omega⟩)]
theorem zra {f g:Fe} {ε:Ev} {ts:List T} {B d:Nat} (hf:f ε=some (.tuple ts)) (hg:g ε=some (.tuple ts)) (h:Sw B (.tuple ts)) (hB:B<=1000000) (gdt:Gd d (.tuple ts)) (hd:d<=60:=by decide):tstB (op2 oNe (opN zbx [f]) (opN zbx [g])) ε=some false :=
 ne_self (d:=0) (zq8 hf h hB gdt hd) (zq8 hg h hB gdt hd) (z5j h.as (y1o h.le hB))
end Fo
end
section
namespace K02
open D Co Fo K01 PySem
local instance:Tbl:=⟨[],fun _=>[],fun _=>none⟩
noncomputable def bO:Fs:=(seq (iff (orT (notT (tstB (opN z1b [(nmV 1),(cst (.int 3))]))) (orT (notT (tstB (opN z0h [(op2 oIx (nm 1) (cst (.int 0))),(cst (.int 0)),(op2 oIx (nm 0) (cst (.int 0)))]))) (notT (tstB (opN z0h [(op2 oIx (nm 1) (cst (.int 1))),(cst (.int 0)),(op2 oIx (nm 0) (cst (.int 0)))]))))) (rtn (cst (.bool false))) skip)
  (iff (orT (tstB (op2 oGe (op2 oIx (nm 1) (cst (.int 0))) (op2 oIx (nm 1) (cst (.int 1))))) (andT (tstB (op1 z2h (op2 oIx (nm 1) (cst (.int 2))))) (notT (tstB (opN z1z [(op2 oIx (nm 1) (cst (.int 2)))]))))) (rtn (cst (.bool false))) skip))
theorem zol {R i j:Int} {z:T}:z5c (.int R) (.tuple [.int i,.int j,z])=((z0b (.int i) 0 R && z0b (.int j) 0 R) && (!(decide (j<=i)) && (zah z || z1v z))):=by
 simp only[z5c,z0b]
 generalize (zah z || z1v z)=c
 rw[Bool.eq_iff_iff]
 simp only[y1b,decide_eq_true_eq,Bool.not_eq_true',decide_eq_false_iff_not]
 constructor
 ·rintro⟨⟨a1,a2⟩,⟨a3,a4⟩,a5⟩
  exact⟨⟨⟨a3,by omega⟩,by omega,a2⟩,by omega,a5⟩
 ·rintro⟨⟨⟨a3,a4⟩,a1,a2⟩,a6,a5⟩
  exact⟨⟨by omega,a2⟩,⟨a3,by omega⟩,a5⟩
theorem zwj {R:Int} {os t:T} {d:Nat} (h:Gd (d+1) t):bO [some (.imm (.tuple [.int R,os])),some (.imm t)]=if z5c (.int R) t=true then some (.nx [some (.imm (.tuple [.int R,os])),some (.imm t)]) else some (.rt (.bool false)):=by
 unfold bO
 generalize hE:[some (Sl.imm (.tuple [.int R,os])),some (.imm t)]=E
 have n0:nm 0 E=some (.tuple [.int R,os]):=by subst hE;rfl
 have n1:nm 1 E=some t:=by subst hE;rfl
 have v1:nmV 1 E=some t:=by subst hE;rfl
 have h1:=z7j (i:=3) 3 rfl v1 h.g
 have r0:=ix0T n0
 cases hb:tupN t 3 with
 | false =>
  rw[hb] at h1
  rw[z12 (z0w (a:=true) (b:=false) (z09 (z04 h1)) fun z=>by cases z),if_pos (by rfl)]
  have:z5c (.int R) t=false:=by
   have hb:=tNf hb
   unfold z5c
   split
   ·simp[tupB] at hb
   ·rfl
  rw[this,if_neg (by simp)]
 | true =>
  rw[hb] at h1
  obtain⟨a,b,z,rfl⟩:=zco (tN hb)
  have ha:=h.tup a (by simp)
  have hb':=h.tup b (by simp)
  have hz:=h.tup z (by simp)
  have j0:op2 oIx (nm 1) (cst (.int 0)) E=some a:=by rw[z07 n1 (u:=.int 0) rfl];exact ix_0
  have j1:op2 oIx (nm 1) (cst (.int 1)) E=some b:=by rw[z07 n1 (u:=.int 1) rfl];exact ix_1
  have j2:op2 oIx (nm 1) (cst (.int 2)) E=some z:=by rw[z07 n1 (u:=.int 2) rfl];exact ix_2
  have w0:opN z0h [(op2 oIx (nm 1) (cst (.int 0))),(cst (.int 0)),(op2 oIx (nm 0) (cst (.int 0)))] E=some (.bool (z0b a 0 R)):=by
   rw[opN3 (u:=.int 0) j0 rfl r0]
   exact z2a ha.g
  have w1:opN z0h [(op2 oIx (nm 1) (cst (.int 1))),(cst (.int 0)),(op2 oIx (nm 0) (cst (.int 0)))] E=some (.bool (z0b b 0 R)):=by
   rw[opN3 (u:=.int 0) j1 rfl r0]
   exact z2a hb'.g
  rw[z12 (z0w (a:=false) (z09 (z04 h1)) fun _=>z0w (z09 (z04 w0)) fun _=>z09 (z04 w1))]
  by_cases ia:∃i,a=.int i
  ·obtain⟨i,rfl⟩:=ia
   by_cases ib:∃j,b=.int j
   ·obtain⟨j,rfl⟩:=ib
    rw[zol]
    have hge:op2 oGe (op2 oIx (nm 1) (cst (.int 0))) (op2 oIx (nm 1) (cst (.int 1))) E=some (.bool (decide (j<=i))):=by rw[z07 j0 j1];rfl
    have hn:op1 z2h (op2 oIx (nm 1) (cst (.int 2))) E=some (.bool !(zah z)):=by rw[z0y j2];cases z <;> rfl
    have hw:opN z1z [(op2 oIx (nm 1) (cst (.int 2)))] E=some (.bool (z1v z)):=by rw[opN1 j2];exact zf3 hz.g
    rw[z79 (z0w (z04 hge) fun _=>z2k (z04 hn) fun _=>z09 (z04 hw))]
    generalize z0b (.int i) 0 R=x1
    generalize z0b (.int j) 0 R=x2
    generalize decide (j<=i)=x3
    generalize zah z=x4
    generalize z1v z=x5
    cases x1 <;> cases x2 <;> cases x3 <;> cases x4 <;> cases x5 <;> rfl
   ·have q:z0b b 0 R=false:=by
     cases b with
     | int j=>exact absurd ⟨j,rfl⟩ ib
     | _=>rfl
    have q2:z5c (.int R) (.tuple [.int i,b,z])=false:=by
     cases b with
     | int j=>exact absurd ⟨j,rfl⟩ ib
     | _=>rfl
    rw[q,q2,if_pos (by simp),if_neg (by simp)]
  ·have q:z0b a 0 R=false:=by
    cases a with
    | int j=>exact absurd ⟨j,rfl⟩ ia
    | _=>rfl
   have q2:z5c (.int R) (.tuple [a,b,z])=false:=by
    cases b with
    | int j =>
     have:z0b a 0 (j - 1)=false:=by
      cases a with
      | int j=>exact absurd ⟨j,rfl⟩ ia
      | _=>rfl
     simp only[z5c,this,Bool.false_and,Bool.and_false]
    | _=>rfl
   rw[q,q2,if_pos (by simp),if_neg (by simp)]
theorem zj0 {d:Nat} {t:T} (h:Gd (d+3) t) (hd:d<=50):z28 [t]=some (.bool (z1w t)):=by
 unfold z28 runF z85
 show (seq _ _ [some (.imm t),none]).bind _=_
 have h1:=z7j (f:=nmV 0) (ε:=[some (.imm t),none]) (i:=2) 2 rfl rfl h.g
 cases hb:tupN t 2 with
 | false =>
  rw[hb] at h1
  rw[z12 (z0w (a:=true) (b:=false) (z09 (z04 h1)) fun z=>by cases z),if_pos (by rfl)]
  have:z1w t=false:=by
   have hb:=tNf hb
   unfold z1w
   split
   ·simp[tupB] at hb
   ·rfl
  rw[this]
  rfl
 | true =>
  rw[hb] at h1
  obtain⟨r,o,rfl⟩:=zi7 (tN hb)
  have hr:=h.tup r (by simp)
  have ho:=h.tup o (by simp)
  have e0:op2 oIx (nm 0) (cst (.int 0)) [some (.imm (.tuple [r,o])),none]=some r:=by rw[z07 rfl rfl];exact ix_0
  have e1:op2 oIx (nm 0) (cst (.int 1)) [some (.imm (.tuple [r,o])),none]=some o:=by rw[z07 rfl rfl];exact ix_1
  have w0:opN z0h [(op2 oIx (nm 0) (cst (.int 0))),(cst (.int 1)),(cst (.int 7))] [some (.imm (.tuple [r,o])),none]=some (.bool (z0b r 1 7)):=by
   rw[opN3 (u:=.int 1) (v:=.int 7) e0 rfl rfl]
   exact z2a hr.g
  rw[z12 (z0w (a:=false) (z09 (z04 h1)) fun _=>z09 (z04 w0))]
  by_cases q1:z0b r 1 7=false
  ·rw[q1,if_pos (by rfl)]
   have:z1w (.tuple [r,o])=false:=by
    unfold z1w
    split
    next r' os' e' =>
     cases e'
     rw[q1]
     rfl
    next=>rfl
   rw[this]
   rfl
  rw[Bool.not_eq_false] at q1
  rw[q1,if_neg (by simp)]
  obtain⟨R,rfl⟩:∃R,r=.int R:=by
   cases r with
   | int j=>exact⟨j,rfl⟩
   | _=>cases q1
  by_cases q2:isI "tuple" o=false
  ·rw[z12 (z0w (a:=true) (b:=false) (z09 (a:=false) (z04 (by rw[z0y e1,z4c "tuple" ho.g,q2]))) fun z=>by cases z),if_pos (by rfl)]
   have:z1w (.tuple [.int R,o])=false:=by
    cases o with
    | tuple os=>cases q2
    | _=>rfl
   rw[this]
   rfl
  rw[Bool.not_eq_false] at q2
  obtain⟨os,rfl⟩:=zc4 o q2 ho.g
  have hl:op2 oGt (opN oLen [(op2 oIx (nm 0) (cst (.int 1)))]) (cst (.int 10)) [some (.imm (.tuple [.int R,.tuple os])),none]=some (.bool (decide ((10:Int)<os.length))):=by
   rw[z07 (t:=.int os.length) (u:=.int 10) (by rw[opN1 e1];rfl) rfl]
   rfl
  rw[z12 (z0w (a:=false) (z09 (a:=true) (z04 (by rw[z0y e1,z4c "tuple" ho.g,q2]))) fun _=>z04 hl)]
  by_cases q3:os.length<=10
  ·rw[decide_eq_false (show ¬(10:Int)<os.length by omega),if_neg (by simp)]
   have it:itA (op2 oIx (nm 0) (cst (.int 1))) [some (.imm (.tuple [.int R,.tuple os])),none]=some os:=by
    simp only[itA,e1,y0p]
   rcases zea (E:=fun s=>[some (.imm (.tuple [.int R,.tuple os])),s]) (P:=z5c (.int R)) (g:=gNm 1) (body:=bO) (fun t s=>rfl) os none (fun t ht=>zwj (ho.tup t ht)) with ⟨a,s',e⟩|⟨a,e⟩
   ·have fo:for_ (itA (op2 oIx (nm 0) (cst (.int 1)))) (gNm 1) bO [some (.imm (.tuple [.int R,.tuple os])),none]=some (.nx [some (.imm (.tuple [.int R,.tuple os])),s']):=by
     unfold for_
     rw[it]
     exact e
    unfold bO at fo
    rw[Co.seq_nx fo]
    simp only[z1w,q1,a,decide_eq_true q3,Bool.and_self]
    rfl
   ·have fo:for_ (itA (op2 oIx (nm 0) (cst (.int 1)))) (gNm 1) bO [some (.imm (.tuple [.int R,.tuple os])),none]=some (.rt (.bool false)):=by
     unfold for_
     rw[it]
     exact e
    unfold bO at fo
    rw[zcw fo]
    simp only[z1w,q1,a,Bool.and_false]
    rfl
  ·rw[decide_eq_true (show (10:Int)<os.length by omega),if_pos (by rfl)]
   simp only[z1w,decide_eq_false q3,Bool.false_and,Bool.and_false]
   rfl
theorem evN {d:Nat} {ε:Ev}:Ev1 d (cst .none) ε:=⟨_,rfl,z96⟩
theorem zwe {d:Nat} {fs:List Fe} {ε:Ev} (h:EvL d fs ε) (hl:fs.length<=50):∃L,z0p fs ε=some (.list L)/\L.length=fs.length/\∀u∈L,Ok d u:=by
 obtain⟨us,g1,g2,g3⟩:=h
 refine⟨us,?_,g2,g3⟩
 simp only[z0p,g1,y0p]
 rw[if_pos (by unfold big;omega)]
theorem zv3 {d:Nat} {f g:Fe} {ε:Ev} {t:T} {k:Int} (hf:f ε=some (.tuple [t])) (ht:Ok d t) (hg:g ε=some (.int k)) (h0:2<=k) (h1:k<50):Ev1 (d+1) (op2 oRep f g) ε:=by
 have fl:(y0g k.toNat [t]).flatten=y0g k.toNat t:=by
  induction k.toNat with
  | zero=>rfl
  | succ n ih=>rw[y1r,y26,ih];rfl
 refine⟨.tuple (y0g k.toNat t),?_,z1q (fun u hu=>?_) (by rw[List.length_replicate];omega)⟩
 ·rw[z07 hf hg]
  unfold oRep
  simp only
  rw[if_pos ⟨h0,by omega,by simp,by unfold big;simp;omega⟩,fl]
 ·rw[List.eq_of_mem_replicate hu]
  exact ht
theorem zc8 (n:Int):∃L,z1l [.int n]=some (.list L)/\L.length<=50/\∀u∈L,Ok 3 u:=by
 obtain⟨w,_,w0,w1,ew⟩:=modQ n 3
 obtain⟨w2,_,w20,w21,ew2⟩:=modQ w 2
 unfold z1l runF z5q
 show ∃L,(seq _ _ [some (.imm (.int n)),none,none]).bind _=_/\_
 rw[Co.seq_nx (z2f (m_b (a:=n) rfl ew))]
 simp only[y1k,y1i]
 have T2:∀{d:Nat} {f g:Fe} {ε:Ev},Ev1 d f ε->Ev1 d g ε->Ev1 (d+1) (z01 [f,g]) ε:=fun a b=>evt (evc a (evc b evn)) (by simp)
 have T1:∀{d:Nat} {f:Fe} {ε:Ev},Ev1 d f ε->Ev1 (d+1) (z01 [f]) ε:=fun a=>evt (evc a evn) (by simp)
 have T3:∀{d:Nat} {f g h:Fe} {ε:Ev},Ev1 d f ε->Ev1 d g ε->Ev1 d h ε->Ev1 (d+1) (z01 [f,g,h]) ε:=fun a b c=>evt (evc a (evc b (evc c evn))) (by simp)
 have I:∀{d:Nat} {c:Int} {ε:Ev},c<=1000->Ev1 d (cst (.int c)) ε:=fun h=>evi rfl (by omega)
 have V:∀{d:Nat} {s2:Option Sl},Ev1 d (nmV 1) [some (.imm (.int n)),some (.imm (.int w)),s2]:=evi rfl (by omega)
 have N:∀{d:Nat} {c:Int} {s2:Option Sl},c<=1000->Ev1 d (op2 oAdd (cst (.int c)) (nm 1)) [some (.imm (.int n)),some (.imm (.int w)),s2]:=fun h=>evi rfl (by omega)
 obtain⟨L1,g1,l1,o1⟩:=zwe (d:=3) (fs:=[(z01 [(op2 oAdd (cst (.int 6)) (nm 1)),(z01 [])]),(z01 [(nmV 1),(z01 [])]),(z01 [(cst (.int 3)),(op2 oRep (z01 [(z01 [(cst (.int 0)),(cst (.int 1)),(cst .none)])]) (op2 oAdd (cst (.int 9)) (nm 1)))]),(z01 [(cst (.int 3)),(z01 [(z01 [(cst (.int 0)),(op2 oAdd (cst (.int 2)) (nm 1)),(cst (.str "a"))])])])]) (ε:=[some (.imm (.int n)),some (.imm (.int w)),none])
  (evc (T2 (N (by omega)) (evt (d:=1) evn)) (evc (T2 V (evt (d:=1) evn)) (evc (T2 (I (by omega)) (zv3 (t:=.tuple [.int 0,.int 1,.none]) (k:=9+w) rfl (z1q (d:=0) (fun u hu=>by
   simp only[y09,y28,or_false] at hu
   rcases hu with rfl|rfl|rfl
   ·exact z5g (by decide +kernel)
   ·exact z5g (by decide +kernel)
   ·exact z96) (by simp)) rfl (by omega) (by omega))) (evc (T2 (I (by omega)) (T1 (T3 (d:=0) (I (by omega)) (N (by omega)) evs))) evn)))) (by simp)
 rw[Co.seq_nx (z2f g1)]
 simp only[y1k,y1i]
 have eA:op2 oAdd (z0g (cst (.str "abcd")) optN (opt (op2 oAdd (cst (.int 3)) (op2 oMod (nm 1) (cst (.int 2)))))) (cst (.str "e")) [some (.imm (.int n)),some (.imm (.int w)),some (.imm (.list L1))]=some (.str (st (cutZ (ls "abcd") none (some (3+w2)))++"e")):=addS (zfa (x:="abcd") (a:=none) (b:=some (3+w2)) rfl rfl (by
   have e1:=m_b (f:=nm 1) (ε:=[some (.imm (.int n)),some (.imm (.int w)),some (.imm (.list L1))]) (a:=w) rfl ew2
   have e2:op2 oAdd (cst (.int 3)) (op2 oMod (nm 1) (cst (.int 2))) [some (.imm (.int n)),some (.imm (.int w)),some (.imm (.list L1))]=some (.int (3+w2)):=by rw[z07 (t:=.int 3) rfl e1];rfl
   simp only[opt,e2]
   rfl) (by decide +kernel)) rfl (by
  rw[z1r,z8d]
  have:=K01.cut_len (ls "abcd") none (some (3+w2))
  have h4:(ls "abcd").length=4:=by decide +kernel
  have h1:("e":Str).length=1:=by decide +kernel
  omega)
 have eE:Ev1 0 (op2 oAdd (z0g (cst (.str "abcd")) optN (opt (op2 oAdd (cst (.int 3)) (op2 oMod (nm 1) (cst (.int 2)))))) (cst (.str "e"))) [some (.imm (.int n)),some (.imm (.int w)),some (.imm (.list L1))]:=⟨_,eA,z2i (by rw[z4w,z8d];exact z3s (za9 (z32 (s:="abcd")) fun y hy=>z48 hy) z32) (by
  rw[zac,z1r,z8d]
  have:=K01.cut_len (ls "abcd") none (some (3+w2))
  have h4:(ls "abcd").length=4:=by decide +kernel
  have h1:("e":Str).length=1:=by decide +kernel
  omega)⟩
 have eS:Ev1 0 (op2 oSub (nm 1) (cst (.int 1))) [some (.imm (.int n)),some (.imm (.int w)),some (.imm (.list L1))]:=evi (i:=w - 1) rfl (by omega)
 obtain⟨L2,g2,l2,o2⟩:=zmj (i:=2) (d:=3) (L:=L1) (fs:=[(z01 [(cst (.int 3)),(z01 [(z01 [(op2 oSub (nm 1) (cst (.int 1))),(cst (.int 2)),(cst (.str "a"))])])]),(z01 [(cst (.int 3)),(z01 [(z01 [(cst (.int 1)),(nmV 1),(cst .none)])])]),(z01 [(cst (.int 3)),(z01 [(z01 [(cst (.int 0)),(cst (.int 1)),(op2 oAdd (z0g (cst (.str "abcd")) optN (opt (op2 oAdd (cst (.int 3)) (op2 oMod (nm 1) (cst (.int 2)))))) (cst (.str "e")))])])])]) (ε:=[some (.imm (.int n)),some (.imm (.int w)),some (.imm (.list L1))]) rfl o1 (by simp at l1 ⊢;omega)
  (evc (T2 (I (by omega)) (T1 (T3 eS (I (by omega)) evs))) (evc (T2 (I (by omega)) (T1 (T3 (d:=0) (I (by omega)) V evN))) (evc (T2 (I (by omega)) (T1 (T3 (I (by omega)) (I (by omega)) eE))) evn)))
 simp only[y0w,y2d] at l1 l2
 refine⟨L2,?_,by omega,o2⟩
 simp only[rtn]
 rw[g2]
 rfl
theorem zk7 {R:Int} {os:List Ho.Op} (h:Hv R os):Src 3 (Ho.houseT R os):=by
 refine⟨by simp,fun t ht=>?_⟩
 simp only[y09,y28,or_false] at ht
 have hr:=h.r
 rcases ht with rfl|rfl
 ·exact z81 ⟨by omega,by omega⟩
 ·refine⟨by rw[y13];exact h.l,fun t ht=>?_⟩
  obtain⟨⟨a,b,z⟩,hm,rfl⟩:=y0m.mp ht
  obtain⟨o1,o2,o3,o4⟩:=h.o _ hm
  simp only at o1 o2 o3 o4
  refine⟨by simp,fun t ht=>?_⟩
  simp only[y09,y28,or_false] at ht
  rcases ht with rfl|rfl|rfl
  ·exact z81 ⟨o1,by omega⟩
  ·exact z81 ⟨by omega,by omega⟩
  ·cases z with
   | none=>exact zlg
   | some x=>exact z9b ⟨z4n (o4 x rfl),by have:=(z43 (o4 x rfl)).2.1;omega⟩
theorem zh2 {f:Str} (hf:okS f) (s0:Option Sl):∀(ks:List Cd) (t0:Option Sl),(∀k∈ks,okS k.fig)->∃t1,forL (gNm 2) (iff (tstB (op2 oEq (op2 oIx (nm 2) (cst (.int 0))) (nm 1))) (rtn (op2 oIx (nm 2) (cst (.int 1)))) skip) (ks.map z1x) [s0,some (.imm (.str f)),t0] =
   match ks.find? fun k=>decide (k.fig=f) with
   | some k=>some (.rt (.str k.who))
   | none=>some (.nx [s0,some (.imm (.str f)),t1])
 | [],t0,_=>⟨t0,by simp[forL]⟩
 | k::ks,t0,ho=>by
  have e:=z9a (ho k (by simp)) hf
  by_cases hx:k.fig=f
  ·exact⟨none,by simp! [sp2,forL,z1x,hx,z9a hf hf]⟩
  ·obtain⟨t1,ih⟩:=zh2 hf s0 ks (some (.imm (z1x k))) (fun y hy=>ho y (y05 _ hy))
   refine⟨t1,?_⟩
   simp only[y0d,forL]
   simp! [sp2,z1x,hx,e] at ih ⊢
   rw[ih]
theorem zch {p:Pl} {f:Str} (ho:∀k∈p.codes,okS k.fig) (hf:okS f):z4r [encP p,.str f]=some (oS ((codeOf p f).map (·.who))):=by
 obtain⟨t1,h⟩:=zh2 hf (some (.imm (encP p))) p.codes none ho
 simp! [sp2,z4r,zi0,for_,encP] at h ⊢
 rw[h]
 unfold codeOf
 cases e:p.codes.find? fun k=>decide (k.fig=f) with
 | none=>simp[oS]
 | some k=>simp[oS]
theorem no5 {p:Pl} (h:DP p):codeOf p "5555"=none:=by
 unfold codeOf
 rw[List.find?_eq_none]
 intro k hk e
 have h1:k.fig∈cN.map (·.2):=h.cs.subset (y0m.mpr ⟨k,hk,rfl⟩)
 have n:("5555":Str)∉cN.map (·.2):=by decide +kernel
 exact n (of_decide_eq_true e▸h1)
theorem noZ4 {p:Pl} (h:DP p):("zzzz":Str)∉p.zones.map (·.1):=fun q=>by
 have n:("zzzz":Str)∉zN.map (·.2):=by decide +kernel
 exact n (h.zs.subset q)
theorem ze1 {z:Str} (hz:okS z) (s0:Option Sl):∀(zs:List (Str×Str)) (t0:Option Sl),(∀x∈zs,okS x.1)->z∉zs.map (·.1)->∃t1,forL (gNm 2) (iff (tstB (op2 oEq (op2 oIx (nm 2) (cst (.int 0))) (nm 1))) (rtn (op2 oIx (nm 2) (cst (.int 1)))) skip) (zs.map encZ) [s0,some (.imm (.str z)),t0]=some (.nx [s0,some (.imm (.str z)),t1])
 | [],t0,_,_=>⟨t0,rfl⟩
 | x::zs,t0,ho,h=>by
  have e:=z9a (ho x (by simp)) hz
  rw[y0d,y09,not_or] at h
  have hx:¬x.1=z:=fun q=>h.1 q.symm
  obtain⟨t1,ih⟩:=ze1 hz s0 zs (some (.imm (encZ x))) (fun y hy=>ho y (y05 _ hy)) h.2
  refine⟨t1,?_⟩
  simp[encZ] at ih
  simp! [sp2,forL,encZ,hx,e]
  simpa [runF,seq,iff,tstB,tstL,andT,orT,notT,cstT,ofT,op1,op2,opN,args,cst,nm,nmV,rtn,skip,asg,asgN,asgT,par,z01,z0p,oIsN,z2h,oIx,atZ,ixOf,gNm,gTu,gAll,z1e,comp,z1f] using ih
theorem ztm {p:Pl} {z:Str} (ho:∀x∈p.zones,okS x.1/\okS x.2) (hz:okS z) (h:z∉p.zones.map (·.1)) (hr:(reprText z).length<=10000):z4a [.imm (encP p),.imm (.str z)]=true:=by
 obtain⟨t1,x⟩:=ze1 hz (some (.imm (encP p))) p.zones none (fun y hy=>(ho y hy).1) h
 have fo:for_ (z1e (op2 oIx (nm 0) (cst (.int 0)))) (gNm 2) (iff (tstB (op2 oEq (op2 oIx (nm 2) (cst (.int 0))) (nm 1))) (rtn (op2 oIx (nm 2) (cst (.int 1)))) skip) [some (.imm (encP p)),some (.imm (.str z)),none]=some (.nx [some (.imm (encP p)),some (.imm (.str z)),t1]):=by
  have it:z1e (op2 oIx (nm 0) (cst (.int 0))) [some (.imm (encP p)),some (.imm (.str z)),none]=some (p.zones.map encZ):=by
   simp! [sp2,encP]
  unfold for_
  rw[it]
  exact x
 have nm1:nm 1 [some (.imm (encP p)),some (.imm (.str z)),t1]=some (.str z):=rfl
 have l1:((("no zone is called ":Str))).length<=1000:=by decide
 show z7m [some (.imm (encP p)),some (.imm (.str z)),none]=true
 unfold z7m seqZ D.okZ op1
 rw[fo]
 simp only[nm1,y0p,zil,if_pos (And.intro hr l1),Option.isSome_some]
theorem zec:∀{l:List Cd} {k:Cd},(l.map (·.fig)).Nodup->k∈l->l.find? (fun x=>decide (x.fig=k.fig))=some k
 | x::l,k,nd,hk=>by
  rw[y0d,y0r] at nd
  rcases y09.mp hk with rfl|q
  ·simp
  ·have:¬x.fig=k.fig:=fun e=>nd.1 (e▸y0m.mpr ⟨k,q,rfl⟩)
   rw[List.find?_cons,decide_eq_false this]
   exact zec nd.2 q
theorem zw8 {p:Pl} (h:Wp p) {k:Cd} (hk:k∈p.codes):codeOf p k.fig=some k:=zec h.cd hk
theorem ze0:∀{l:List (Str×Str)} {x:Str×Str},(l.map (·.1)).Nodup->x∈l->l.find? (fun y=>decide (y.1=x.1))=some x
 | y::l,x,nd,hk=>by
  rw[y0d,y0r] at nd
  rcases y09.mp hk with rfl|q
  ·simp
  ·have:¬y.1=x.1:=fun e=>nd.1 (e▸y0m.mpr ⟨x,q,rfl⟩)
   rw[List.find?_cons,decide_eq_false this]
   exact ze0 nd.2 q
theorem zp3 {p:Pl} (hp:Wp p) {x:Str×Str} (hx:x∈p.zones):kindOf p x.1=x.2:=by
 unfold kindOf
 rw[ze0 hp.zd hx]
 rfl
theorem zlj {os:List Ho.Op} {x:Str} (h:x∈Ho.zonesL os):x∈os.filterMap (·.2.2):=by
 rw[Ho.zonesL,(z2l _).mem_iff,z5k] at h
 exact h
def bK:Fs:=(iff (tstB (op2 oNe (opN z2y [(nmV 3),(nmV 5)]) (nm 6))) (rtn (cst (.bool false))) skip)
def bW:Fs:=(iff (tstB (op2 oNe (opN z4r [(nmV 3),(nmV 7)]) (nm 8))) (rtn (cst (.bool false))) skip)
def bI:Fs:=(seq (asg 14 (opN z2q [(nmV 13)]))
  (iff (orT (notT (tstB (op1 (oIsI "bool") (nm 14)))) (tstB (op2 oNe (nm 14) (opN z28 [(nmV 13)])))) (rtn (cst (.bool false))) skip))
theorem zuo {s0 s1 s2 s4 s7 s8 s9 s10 s11 s12 s13 s14:Option Sl} {p:Pl} (hp:DP p):∀(zs:List (Str×Str)) (s5 s6:Option Sl),(∀z∈zs,z∈p.zones)->∃s5' s6',forL (gTu [gNm 5,gNm 6]) bK (zs.map encZ) [s0,s1,s2,some (.imm (encP p)),s4,s5,s6,s7,s8,s9,s10,s11,s12,s13,s14]=some (.nx [s0,s1,s2,some (.imm (encP p)),s4,s5',s6',s7,s8,s9,s10,s11,s12,s13,s14])
 | [],s5,s6,_=>⟨s5,s6,rfl⟩
 | z::zs,s5,s6,h=>by
  have hz:=h z (by simp)
  obtain⟨a,b,e⟩:=zuo (s0:=s0) (s1:=s1) (s2:=s2) (s4:=s4) (s7:=s7) (s8:=s8) (s9:=s9) (s10:=s10) (s11:=s11) (s12:=s12) (s13:=s13) (s14:=s14) hp zs (some (.imm (.str z.1))) (some (.imm (.str z.2))) fun y hy=>h y (y05 _ hy)
  refine⟨a,b,?_⟩
  rw[y0d,forL,show gTu [gNm 5,gNm 6] (encZ z) [s0,s1,s2,some (.imm (encP p)),s4,s5,s6,s7,s8,s9,s10,s11,s12,s13,s14]=some [s0,s1,s2,some (.imm (encP p)),s4,some (.imm (.str z.1)),some (.imm (.str z.2)),s7,s8,s9,s10,s11,s12,s13,s14] from rfl,y0p]
  have e1:bK [s0,s1,s2,some (.imm (encP p)),s4,some (.imm (.str z.1)),some (.imm (.str z.2)),s7,s8,s9,s10,s11,s12,s13,s14]=some (.nx [s0,s1,s2,some (.imm (encP p)),s4,some (.imm (.str z.1)),some (.imm (.str z.2)),s7,s8,s9,s10,s11,s12,s13,s14]):=by
   unfold bK
   have hv:=zoa hp
   rw[z79 (ne_self (d:=0) (t:=.str z.2) (by
    rw[opN2 (t:=encP p) (u:=.str z.1) rfl rfl,zj1 hp.okz (y0m.mpr ⟨z,hz,rfl⟩),zp3 hp.wp hz]) rfl (z5j (zad _ (hv.zs z hz).2) (by have:=zhk (l:=z36) 100 (by decide +kernel) (hv.zs z hz).2;omega))),if_neg (by simp)]
  rw[e1,y0p]
  exact e
theorem zum {s0 s1 s2 s4 s5 s6 s11 s12 s13 s14:Option Sl} {p:Pl} (hp:DP p):∀(ks:List Cd) (s7 s8 s9 s10:Option Sl),(∀k∈ks,k∈p.codes)->∃s7' s8' s9' s10',forL (gTu [gNm 7,gNm 8,gNm 9,gNm 10]) bW (ks.map z1x) [s0,s1,s2,some (.imm (encP p)),s4,s5,s6,s7,s8,s9,s10,s11,s12,s13,s14]=some (.nx [s0,s1,s2,some (.imm (encP p)),s4,s5,s6,s7',s8',s9',s10',s11,s12,s13,s14])
 | [],s7,s8,s9,s10,_=>⟨s7,s8,s9,s10,rfl⟩
 | k::ks,s7,s8,s9,s10,h=>by
  have hk:=h k (by simp)
  obtain⟨a,b,c,d,e⟩:=zum (s0:=s0) (s1:=s1) (s2:=s2) (s4:=s4) (s5:=s5) (s6:=s6) (s11:=s11) (s12:=s12) (s13:=s13) (s14:=s14) hp ks (some (.imm (.str k.fig))) (some (.imm (.str k.who))) (some (.imm (.tuple (k.rights.map .str)))) (some (.imm (.int k.uses))) fun y hy=>h y (y05 _ hy)
  refine⟨a,b,c,d,?_⟩
  rw[y0d,forL,show gTu [gNm 7,gNm 8,gNm 9,gNm 10] (z1x k) [s0,s1,s2,some (.imm (encP p)),s4,s5,s6,s7,s8,s9,s10,s11,s12,s13,s14]=some [s0,s1,s2,some (.imm (encP p)),s4,s5,s6,some (.imm (.str k.fig)),some (.imm (.str k.who)),some (.imm (.tuple (k.rights.map .str))),some (.imm (.int k.uses)),s11,s12,s13,s14] from rfl,y0p]
  have e1:bW [s0,s1,s2,some (.imm (encP p)),s4,s5,s6,some (.imm (.str k.fig)),some (.imm (.str k.who)),some (.imm (.tuple (k.rights.map .str))),some (.imm (.int k.uses)),s11,s12,s13,s14]=some (.nx [s0,s1,s2,some (.imm (encP p)),s4,s5,s6,some (.imm (.str k.fig)),some (.imm (.str k.who)),some (.imm (.tuple (k.rights.map .str))),some (.imm (.int k.uses)),s11,s12,s13,s14]):=by
   unfold bW
   have hv:=zoa hp
   have hw:=(hv.cs k hk).2.1
   rw[z79 (ne_self (d:=0) (t:=.str k.who) (by
    rw[opN2 (t:=encP p) (u:=.str k.fig) rfl rfl,zch (fun q hq=>(hp.okc q hq).1) (hp.okc k hk).1,show codeOf p k.fig=some k from zw8 hp.wp hk]
    rfl) rfl (z5j (z4n hw) (by have:=(z43 hw).2.1;omega))),if_neg (by simp)]
  rw[e1,y0p]
  exact e
theorem zup {s0 s1 s2 s3 s4 s5 s6 s7 s8 s9 s10 s11 s12:Option Sl}:∀(us:List T) (s13 s14:Option Sl),(∀u∈us,Ok 5 u)->∃s13' s14',forL (gNm 13) bI us [s0,s1,s2,s3,s4,s5,s6,s7,s8,s9,s10,s11,s12,s13,s14]=some (.nx [s0,s1,s2,s3,s4,s5,s6,s7,s8,s9,s10,s11,s12,s13',s14'])
 | [],s13,s14,_=>⟨s13,s14,rfl⟩
 | u::us,s13,s14,h=>by
  have hu:=h u (by simp)
  obtain⟨a,b,e⟩:=zup (s0:=s0) (s1:=s1) (s2:=s2) (s3:=s3) (s4:=s4) (s5:=s5) (s6:=s6) (s7:=s7) (s8:=s8) (s9:=s9) (s10:=s10) (s11:=s11) (s12:=s12) us (some (.imm u)) (some (.imm (.bool (z1w u)))) fun v hv=>h v (y05 _ hv)
  refine⟨a,b,?_⟩
  rw[forL,show gNm 13 u [s0,s1,s2,s3,s4,s5,s6,s7,s8,s9,s10,s11,s12,s13,s14]=some [s0,s1,s2,s3,s4,s5,s6,s7,s8,s9,s10,s11,s12,some (.imm u),s14] from rfl,y0p]
  have e1:bI [s0,s1,s2,s3,s4,s5,s6,s7,s8,s9,s10,s11,s12,some (.imm u),s14]=some (.nx [s0,s1,s2,s3,s4,s5,s6,s7,s8,s9,s10,s11,s12,some (.imm u),some (.imm (.bool (z1w u)))]):=by
   unfold bI
   rw[Co.seq_nx (z2f (t:=.bool (z1w u)) (by rw[opN1 (t:=u) rfl];exact ze7 (d:=2) hu.g (by omega)))]
   simp only[y1k,y1i]
   rw[z79 (orF (z09 (a:=true) (z04 rfl)) (ne_self (d:=0) (t:=.bool (z1w u)) rfl (by rw[opN1 (t:=u) rfl];exact zj0 (d:=2) hu.g (by omega)) zc5)),if_neg (by simp)]
  rw[e1,y0p]
  exact e
def z3n (p:Pl):List T:=[.str "off",.int 0,.none,.tuple (y0g p.zones.length (.str "shut")),.tuple [],.int 0,.tuple [],.int 0,.int 0,.tuple (y0g p.codes.length (.int 0))]
theorem zgp (p:Pl):encS (zhz p)=.tuple (z3n p):=by
 simp only[encS,zhz,z3n,y2h,oS]
 have h1:p.zones.map ((fun (l:Str×Str)=>y1v l.2) ∘ fun z=>(z.1,"shut"))=y0g p.zones.length (.str "shut"):=List.map_eq_replicate_iff.mpr fun _ _=>rfl
 have h2:p.codes.map ((fun (u:Str×Int)=>PyData.int u.2) ∘ fun k=>(k.fig,0))=y0g p.codes.length (.int 0):=List.map_eq_replicate_iff.mpr fun _ _=>rfl
 rw[h1,h2]
 rfl
theorem ztj {f g:Fe} {ε:Ev} {t:T} {k:Nat} (hf:f ε=some (.tuple [t])) (hg:g ε=some (.int k)) (h0:1<=k) (h1:k<50):op2 zaf f g ε=some (.tuple (y0g k t)):=by
 have fl:∀n:Nat,(y0g n [t]).flatten=y0g n t:=fun n=>by
  induction n with
  | zero=>rfl
  | succ n ih=>rw[y1r,y26,ih];rfl
 rw[z07 hf hg]
 unfold zaf
 simp only
 rw[if_pos ⟨by omega,by omega,by simp,by unfold big;simp;omega⟩,Int.toNat_natCast,fl]
theorem zpe {p:Pl} (hp:DP p):Gd 2 (.tuple (z3n p)):=Gd.mk_tup fun t ht=>by
 simp only[z3n,y09,y28,or_false] at ht
 rcases ht with rfl|rfl|rfl|rfl|rfl|rfl|rfl|rfl|rfl|rfl
 ·exact z5j z32 (by decide +kernel)
 ·exact z9n
 ·exact zqo
 ·exact Gd.mk_tup (d:=0) fun t ht=>by rw[List.eq_of_mem_replicate ht];exact z5j z32 (by decide +kernel)
 ·exact Gd.mk_tup (d:=0) fun t ht=>by simp at ht
 ·exact z9n
 ·exact Gd.mk_tup (d:=0) fun t ht=>by simp at ht
 ·exact z9n
 ·exact z9n
 ·exact Gd.mk_tup (d:=0) fun t ht=>by rw[List.eq_of_mem_replicate ht];exact z9n
theorem znu {p:Pl} (hp:DP p):Sw 1000000 (.tuple (z3n p)):=by
 have z:Sw 2000 (.int 0):=zt9 (by omega) (by omega)
 refine (zh8 (B:=50000) (n:=10) (fun t ht=>?_) (by simp[z3n])).mono (by omega)
 simp only[z3n,y09,y28,or_false] at ht
 have n0:Sw 50000 (.tuple []):=(zh8 (B:=2000) (n:=10) (fun t ht=>by simp at ht) (by simp)).mono (by omega)
 rcases ht with rfl|rfl|rfl|rfl|rfl|rfl|rfl|rfl|rfl|rfl
 ·exact (zq4 z32 (by decide +kernel)).mono (by omega)
 ·exact z.mono (by omega)
 ·exact zr5.mono (by omega)
 ·refine (zh8 (B:=2000) (n:=10) (fun t ht=>?_) (by rw[List.length_replicate];have:=hp.zl;omega)).mono (by omega)
  rw[List.eq_of_mem_replicate ht]
  exact zq4 z32 (by decide +kernel)
 ·exact n0
 ·exact z.mono (by omega)
 ·exact n0
 ·exact z.mono (by omega)
 ·exact z.mono (by omega)
 ·refine (zh8 (B:=2000) (n:=10) (fun t ht=>?_) (by rw[List.length_replicate];have:=hp.cl;omega)).mono (by omega)
  rw[List.eq_of_mem_replicate ht]
  exact z
theorem zhl (ns:List Int) (h:ns.length<=63):zc9 [z05 ns]=some (.bool true):=by
 obtain⟨m0,hm0,x0⟩:=Co.mixed_eq ns 0
 obtain⟨m1,hm1,x1⟩:=Co.mixed_eq ns 1
 obtain⟨m2,hm2,x2⟩:=Co.mixed_eq ns 2
 obtain⟨m3,hm3,x3⟩:=Co.mixed_eq ns 3
 obtain⟨m4,hm4,x4⟩:=Co.mixed_eq ns 4
 obtain⟨R,os,dr,xh⟩:=Ho.house_eq m1 (by omega)
 obtain⟨p,hp,xp⟩:=Co.plan_eq m2
 have hh:=zwb dr
 have hv:=zoa hp
 have sH:=zk7 hh
 have oH:Ok 5 (Ho.houseT R os):=(zan sH).le (by omega)
 have zl:=hp.zl
 have cl:=hp.cl
 have z0:=List.length_pos_iff.mpr hp.z0
 have c0:=List.length_pos_iff.mpr hp.c0
 unfold zc9 runF zn5
 show (seq _ _ [some (.imm (z05 ns)),none,none,none,none,none,none,none,none,none,none,none,none,none,none]).bind _=_
 have S:∀(j m:Int) (r:Ev),z0e [z05 ns,.int j]=some (.int m)->opN z0e [(nmV 0),(cst (.int j))] (some (.imm (z05 ns))::r)=some (.int m):=fun j m r e=>by
  rw[opN2 (t:=z05 ns) (u:=.int j) rfl rfl]
  exact e
 rw[Co.seq_nx (z2f (S 0 m0 _ x0))]
 simp only[y1k,y1i]
 rw[Co.seq_nx (z2f (t:=Ho.houseT R os) (by rw[opN1 (S 1 m1 _ x1),zj6,xh]))]
 simp only[y1k,y1i]
 rw[Co.seq_nx (z2f (t:=encP p) (by rw[opN1 (S 2 m2 _ x2),xp]))]
 simp only[y1k,y1i]
 have isn:∀{f:Fe} {ε:Ev},f ε=some (.bool true)->tstB (op2 z99 f (cst (.bool true))) ε=some false:=fun hf=>z04 (by rw[z07 hf (u:=.bool true) rfl];rfl)
 rw[z8v (isn (by rw[opN1 (t:=Ho.houseT R os) rfl,ze7 (d:=2) oH.g (by omega),zm8 hh]))]
 have hcomp:comp 1 [] (itA (op2 oIx (nm 2) (cst (.int 1)))) (gNm 0) (tstB (op1 z2h (op2 oIx (nm 0) (cst (.int 2))))) (op2 oIx (nm 0) (cst (.int 2))) [some (.imm (z05 ns)),some (.imm (.int m0)),some (.imm (Ho.houseT R os)),some (.imm (encP p)),none,none,none,none,none,none,none,none,none,none,none]=some (.list ((os.filterMap (·.2.2)).map .str)):=by
  have hit:itA (op2 oIx (nm 2) (cst (.int 1))) [some (.imm (z05 ns)),some (.imm (.int m0)),some (.imm (Ho.houseT R os)),some (.imm (encP p)),none,none,none,none,none,none,none,none,none,none,none]=some (os.map Ho.opT):=by
   simp only[itA]
   rw[z07 (t:=Ho.houseT R os) (u:=.int 1) rfl rfl,show oIx (Ho.houseT R os) (.int 1)=some (.tuple (os.map Ho.opT)) from ix_1]
   rfl
  have hl:=hh.l
  have hcap:z1f 1 [] [some (.imm (z05 ns)),some (.imm (.int m0)),some (.imm (Ho.houseT R os)),some (.imm (encP p)),none,none,none,none,none,none,none,none,none,none,none]=[none]:=rfl
  simp only[comp,hit,y0p,hcap,Ho.comp_zones,y13]
  rw[if_pos (by unfold big;omega)]
  rfl
 rw[Co.seq_nx (z2f hcomp)]
 simp only[y1k,y1i]
 have hz:(os.filterMap (·.2.2)).length<60:=Nat.lt_of_le_of_lt (List.length_filterMap_le _ _) (by have:=hh.l;omega)
 have zs1:opN z2p [(nmV 2)] [some (.imm (z05 ns)),some (.imm (.int m0)),some (.imm (Ho.houseT R os)),some (.imm (encP p)),some (.imm (.list ((os.filterMap (·.2.2)).map .str))),none,none,none,none,none,none,none,none,none,none]=some (.tuple ((Ho.zonesL os).map .str)):=by
  rw[opN1 (t:=Ho.houseT R os) rfl]
  exact Ho.zones_eq hh.l
 have zs2:opN z1u [(opN z16 [(nm 4)])] [some (.imm (z05 ns)),some (.imm (.int m0)),some (.imm (Ho.houseT R os)),some (.imm (encP p)),some (.imm (.list ((os.filterMap (·.2.2)).map .str))),none,none,none,none,none,none,none,none,none,none]=some (.tuple ((Ho.zonesL os).map .str)):=by
  rw[opN1 (t:=.list ((Ho.zonesL os).map .str)) (by rw[opN1 (t:=.list ((os.filterMap (·.2.2)).map .str)) rfl];exact zbl rfl hz (.inl rfl))]
  rfl
 have gz:Gd 1 (.tuple ((Ho.zonesL os).map .str)):=Gd.mk_tup fun t ht=>by
  obtain⟨x,hx,rfl⟩:=y0m.mp ht
  have hx:x∈os.filterMap (·.2.2):=zlj hx
  obtain⟨o,ho,e⟩:=List.mem_filterMap.mp hx
  have:=(hh.o o ho).2.2.2 x e
  exact z5j (z4n this) (by have:=(z43 this).2.1;omega)
 rw[z8v (ne_self zs1 zs2 gz)]
 obtain⟨s5,s6,ek⟩:=zuo (s0:=some (.imm (z05 ns))) (s1:=some (.imm (.int m0))) (s2:=some (.imm (Ho.houseT R os))) (s4:=some (.imm (.list ((os.filterMap (·.2.2)).map .str)))) (s7:=none) (s8:=none) (s9:=none) (s10:=none) (s11:=none) (s12:=none) (s13:=none) (s14:=none) hp p.zones none none fun _ h=>h
 rw[Co.seq_nx (ε':=[some (.imm (z05 ns)),some (.imm (.int m0)),some (.imm (Ho.houseT R os)),some (.imm (encP p)),some (.imm (.list ((os.filterMap (·.2.2)).map .str))),s5,s6,none,none,none,none,none,none,none,none]) (by
  unfold for_
  rw[show itA (op2 oIx (nm 3) (cst (.int 0))) [some (.imm (z05 ns)),some (.imm (.int m0)),some (.imm (Ho.houseT R os)),some (.imm (encP p)),some (.imm (.list ((os.filterMap (·.2.2)).map .str))),none,none,none,none,none,none,none,none,none,none]=some (p.zones.map encZ) by
   simp only[itA]
   rw[z07 (t:=encP p) (u:=.int 0) rfl rfl,show oIx (encP p) (.int 0)=some (.tuple (p.zones.map encZ)) from ix_0]
   rfl]
  exact ek)]
 obtain⟨s7,s8,s9,s10,ew⟩:=zum (s0:=some (.imm (z05 ns))) (s1:=some (.imm (.int m0))) (s2:=some (.imm (Ho.houseT R os))) (s4:=some (.imm (.list ((os.filterMap (·.2.2)).map .str)))) (s5:=s5) (s6:=s6) (s11:=none) (s12:=none) (s13:=none) (s14:=none) hp p.codes none none none none fun _ h=>h
 rw[Co.seq_nx (ε':=[some (.imm (z05 ns)),some (.imm (.int m0)),some (.imm (Ho.houseT R os)),some (.imm (encP p)),some (.imm (.list ((os.filterMap (·.2.2)).map .str))),s5,s6,s7,s8,s9,s10,none,none,none,none]) (by
  unfold for_
  rw[show itA (op2 oIx (nm 3) (cst (.int 1))) [some (.imm (z05 ns)),some (.imm (.int m0)),some (.imm (Ho.houseT R os)),some (.imm (encP p)),some (.imm (.list ((os.filterMap (·.2.2)).map .str))),s5,s6,none,none,none,none,none,none,none,none]=some (p.codes.map z1x) by
   simp only[itA]
   rw[z07 (t:=encP p) (u:=.int 1) rfl rfl,show oIx (encP p) (.int 1)=some (.tuple (p.codes.map z1x)) from ix_1]
   rfl]
  exact ew)]
 generalize hE:[some (Sl.imm (z05 ns)),some (.imm (.int m0)),some (.imm (Ho.houseT R os)),some (.imm (encP p)),some (.imm (.list ((os.filterMap (·.2.2)).map .str))),s5,s6,s7,s8,s9,s10,none,none,none,none]=E
 have v3:nmV 3 E=some (encP p):=by subst hE;rfl
 have n3:nm 3 E=some (encP p):=by subst hE;rfl
 have tz:zjx (opN z2y [(nmV 3),(cst (.str "zzzz"))]) (zjc z4a [.v (nmV 3),.v (cst (.str "zzzz"))]) 0 E=some (.tuple [.str "refused",.int 0]):=by
  have a:agsE [.v (nmV 3),.v (cst (.str "zzzz"))] E=some [.imm (encP p),.imm (.str "zzzz")]:=by subst hE;rfl
  have rz:zjc z4a [.v (nmV 3),.v (cst (.str "zzzz"))] E=true:=by
   unfold zjc
   rw[a]
   exact ztm hp.okz (show (y1v "zzzz").canLay0=true by decide +kernel) (noZ4 hp) (by decide +kernel)
  unfold zjx
  rw[rz]
  rfl
 have g2:Gd 1 (.tuple [.str "refused",.int 0]):=Gd.mk_tup fun t ht=>by
  simp only[y09,y28,or_false] at ht
  rcases ht with rfl|rfl
  ·exact z5j z32 (by decide +kernel)
  ·exact z9n
 rw[z8v (orF (ne_self (d:=1) tz rfl g2) (z04 (a:=false) (by
  rw[z0y (t:=.none) (by rw[opN2 (t:=encP p) (u:=.str "5555") v3 rfl,zch (fun q hq=>(hp.okc q hq).1) (show (y1v "5555").canLay0=true by decide +kernel),no5 hp];rfl)]
  rfl)))]
 have z3:op2 oIx (nm 3) (cst (.int 0)) E=some (.tuple (p.zones.map encZ)):=by rw[z07 n3 (u:=.int 0) rfl];exact ix_0
 have c3:op2 oIx (nm 3) (cst (.int 1)) E=some (.tuple (p.codes.map z1x)):=by rw[z07 n3 (u:=.int 1) rfl];exact ix_1
 have r1:=ztj (f:=z01 [(cst (.str "shut"))]) (g:=opN oLen [(op2 oIx (nm 3) (cst (.int 0)))]) (ε:=E) (t:=.str "shut") (k:=p.zones.length) rfl (by rw[opN1 z3];simp[oLen]) (by omega) (by omega)
 have r2:=ztj (f:=z01 [(cst (.int 0))]) (g:=opN oLen [(op2 oIx (nm 3) (cst (.int 1)))]) (ε:=E) (t:=.int 0) (k:=p.codes.length) rfl (by rw[opN1 c3];simp[oLen]) (by omega) (by omega)
 have ef:z01 [(cst (.str "off")),(cst (.int 0)),(cst .none),(op2 zaf (z01 [(cst (.str "shut"))]) (opN oLen [(op2 oIx (nm 3) (cst (.int 0)))])),(z01 []),(cst (.int 0)),(z01 []),(cst (.int 0)),(cst (.int 0)),(op2 zaf (z01 [(cst (.int 0))]) (opN oLen [(op2 oIx (nm 3) (cst (.int 1)))]))] E=some (.tuple (z3n p)):=by
  have q:args [(cst (.str "off")),(cst (.int 0)),(cst .none),(op2 zaf (z01 [(cst (.str "shut"))]) (opN oLen [(op2 oIx (nm 3) (cst (.int 0)))])),(z01 []),(cst (.int 0)),(z01 []),(cst (.int 0)),(cst (.int 0)),(op2 zaf (z01 [(cst (.int 0))]) (opN oLen [(op2 oIx (nm 3) (cst (.int 1)))]))] E=some (z3n p):=by
   simp only[args,r1,r2,y0p,y1q]
   rfl
  simp only[z01,q,y0p]
  rfl
 rw[Co.seq_nx (z2f ef)]
 subst hE
 simp only[y1k,y1i]
 rw[z8v (zra (ts:=z3n p) (B:=1000000) (d:=2) (by rw[opN1 (t:=encP p) rfl,zpt p (by omega) hp.wp,zgp]) rfl (znu hp) (by omega) (zpe hp))]
 rw[Co.seq_nx (z2f (t:=Ho.houseT R os) rfl)]
 simp only[y1k,y1i]
 obtain⟨r3,_,r30,r31,er3⟩:=modQ m0 3
 obtain⟨d4,_,ed4⟩:=divQ m0 4
 obtain⟨k4,_,k40,k41,ek4⟩:=modQ d4 4
 obtain⟨a4,rfl⟩:∃a:Nat,k4=a:=⟨k4.toNat,by omega⟩
 obtain⟨u,eu,ou⟩:=z6z 20 a4 3 (Ho.houseT R os) m3 sH (by omega) (by omega)
 obtain⟨t,ot,est⟩:∃t,Ok 5 t/\iff (tstB (op2 oGt (op2 oMod (nm 1) (cst (.int 3))) (cst (.int 0)))) (asg 12 (opN (z18 20) [(nmV 12),(opN z0e [(nmV 0),(cst (.int 3))]),(op2 oMod (op2 oDiv (nm 1) (cst (.int 4))) (cst (.int 4)))])) skip [some (.imm (z05 ns)),some (.imm (.int m0)),some (.imm (Ho.houseT R os)),some (.imm (encP p)),some (.imm (.list ((os.filterMap (·.2.2)).map .str))),s5,s6,s7,s8,s9,s10,some (.imm (.tuple (z3n p))),some (.imm (Ho.houseT R os)),none,none]=some (.nx [some (.imm (z05 ns)),some (.imm (.int m0)),some (.imm (Ho.houseT R os)),some (.imm (encP p)),some (.imm (.list ((os.filterMap (·.2.2)).map .str))),s5,s6,s7,s8,s9,s10,some (.imm (.tuple (z3n p))),some (.imm t),none,none]):=by
  simp only[iff]
  rw[gt_b (m_b (a:=m0) rfl er3),y0p]
  by_cases hq:0<r3
  ·refine⟨u,ou,?_⟩
   rw[decide_eq_true hq,if_pos rfl]
   rw[z2f (t:=u) (by rw[opN3 (t:=Ho.houseT R os) (u:=.int m3) (v:=.int (a4:Int)) rfl (S 3 m3 _ x3) (m_b (d_b (a:=m0) rfl ed4) ek4)];exact eu)]
   rfl
  ·refine⟨Ho.houseT R os,oH,?_⟩
   rw[decide_eq_false hq,if_neg (by simp)]
   rfl
 rw[Co.seq_nx est]
 obtain⟨L,eL,lL,oL⟩:=zc8 m4
 have hit:itA (op2 oAdd (opN z1l [(opN z0e [(nmV 0),(cst (.int 4))])]) (z0p [(nmV 12)])) [some (.imm (z05 ns)),some (.imm (.int m0)),some (.imm (Ho.houseT R os)),some (.imm (encP p)),some (.imm (.list ((os.filterMap (·.2.2)).map .str))),s5,s6,s7,s8,s9,s10,some (.imm (.tuple (z3n p))),some (.imm t),none,none]=some (L++[t]):=by
  simp only[itA]
  rw[add_l (a:=L) (b:=[t]) (by rw[opN1 (S 4 m4 _ x4)];exact eL) rfl (by simp;omega)]
  rfl
 obtain⟨s13,s14,ep⟩:=zup (s0:=some (.imm (z05 ns))) (s1:=some (.imm (.int m0))) (s2:=some (.imm (Ho.houseT R os))) (s3:=some (.imm (encP p))) (s4:=some (.imm (.list ((os.filterMap (·.2.2)).map .str)))) (s5:=s5) (s6:=s6) (s7:=s7) (s8:=s8) (s9:=s9) (s10:=s10) (s11:=some (.imm (.tuple (z3n p)))) (s12:=some (.imm t)) (L++[t]) none none fun x hx=>by
  rcases y10.mp hx with hx|hx
  ·exact (oL x hx).le (by omega)
  ·rw[y0z.mp hx]
   exact ot
 rw[Co.seq_nx (ε':=[some (.imm (z05 ns)),some (.imm (.int m0)),some (.imm (Ho.houseT R os)),some (.imm (encP p)),some (.imm (.list ((os.filterMap (·.2.2)).map .str))),s5,s6,s7,s8,s9,s10,some (.imm (.tuple (z3n p))),some (.imm t),s13,s14]) (by
  unfold for_
  rw[hit]
  exact ep)]
 rfl
end K02
end
end
section
namespace K02
open PySem PySem.Spec PyProof.Rows L2 D Co Fo K01
theorem all_mk {l:PySem.W.OpenLaw} {w:World} {K:y00} {h:Heap} {mg:Str->Option Value} {fa f1 f2 f3 f4 f5 f6 f7 f8 f9 f10 f11 f12 f13 f14 f15 f16 f17 f18 f19 f20 f21 f22 f23 f24 cL XD xz xw xd xt:Addr} {od1 an1 od2 an2 od3 an3 od4 an4 od5 an5 od6 an6 od7 an7 od8 an8 od9 an9 od10 an10 od11 an11 od12 an12 od13 an13 od14 an14 od15 an15 od16 an16 od17 an17 od18 an18 od19 an19 od20 an20 od21 an21 od22 an22 od23 an23 od24 an24:Option Addr} {sl1 sl2 sl3 sl4 sl5 sl6 sl7 sl8 sl9 sl10 sl11 sl12 sl13 sl14 sl15 sl16 sl17 sl18 sl19 sl20 sl21 sl22 sl23 sl24:Array (Option Value)} {oc1 kV1 dc1 pm1 cd1 ct1 oc2 kV2 dc2 pm2 cd2 ct2 oc3 kV3 dc3 pm3 cd3 ct3 oc4 kV4 dc4 pm4 cd4 ct4 oc5 kV5 dc5 pm5 cd5 ct5 oc6 kV6 dc6 pm6 cd6 ct6 oc7 kV7 dc7 pm7 cd7 ct7 oc8 kV8 dc8 pm8 cd8 ct8 oc9 kV9 dc9 pm9 cd9 ct9 oc10 kV10 dc10 pm10 cd10 ct10 oc11 kV11 dc11 pm11 cd11 ct11 oc12 kV12 dc12 pm12 cd12 ct12 oc13 kV13 dc13 pm13 cd13 ct13 oc14 kV14 dc14 pm14 cd14 ct14 oc15 kV15 dc15 pm15 cd15 ct15 oc16 kV16 dc16 pm16 cd16 ct16 oc17 kV17 dc17 pm17 cd17 ct17 oc18 kV18 dc18 pm18 cd18 ct18 oc19 kV19 dc19 pm19 cd19 ct19 oc20 kV20 dc20 pm20 cd20 ct20 oc21 kV21 dc21 pm21 cd21 ct21 oc22 kV22 dc22 pm22 cd22 ct22 oc23 kV23 dc23 pm23 cd23 ct23 oc24 kV24 dc24 pm24 ct24:Value} {t_OUTSIDE:Tok} (X:K.In h) (G:h.Ns y0n mg) (hfa:mg "law"=some (.ref fa))
  (a1:y0s K y0n "_law_cell_at"=some (some (.ref f1)))
  (l1:K.lookup f1=some ⟨oc1,od1,.func (y0i "_law_cell_at" "_law_cell_at" (z0k z20) (z0d z20) (z02 z20) .none kV1 dc1 pm1 an1 cd1 ct1),sl1⟩)
  (c1:y0f K cd1 "_law_cell_at"=true)
  (k1:y08 K (.ref f1)=true)
  (a2:y0s K y0n "_law_mixed"=some (some (.ref f2)))
  (l2:K.lookup f2=some ⟨oc2,od2,.func (y0i "_law_mixed" "_law_mixed" (z0k z3h) (z0d z3h) (z02 z3h) .none kV2 dc2 pm2 an2 cd2 ct2),sl2⟩)
  (c2:y0f K cd2 "_law_mixed"=true)
  (k2:y08 K (.ref f2)=true)
  (a3:y0s K y0n "_law_drawn"=some (some (.ref f3)))
  (l3:K.lookup f3=some ⟨oc3,od3,.func (y0i "_law_drawn" "_law_drawn" (z0k z3k) (z0d z3k) (z02 z3k) .none kV3 dc3 pm3 an3 cd3 ct3),sl3⟩)
  (c3:y0f K cd3 "_law_drawn"=true)
  (k3:y08 K (.ref f3)=true)
  (a4:y0s K y0n "_law_house"=some (some (.ref f4)))
  (l4:K.lookup f4=some ⟨oc4,od4,.func (y0i "_law_house" "_law_house" (z0k z3i) (z0d z3i) (z02 z3i) .none kV4 dc4 pm4 an4 cd4 ct4),sl4⟩)
  (c4:y0f K cd4 "_law_house"=true)
  (k4:y08 K (.ref f4)=true)
  (a5:y0s K y0n "_law_plan"=some (some (.ref f5)))
  (l5:K.lookup f5=some ⟨oc5,od5,.func (y0i "_law_plan" "_law_plan" (z0k z40) (z0d z40) (z02 z40) .none kV5 dc5 pm5 an5 cd5 ct5),sl5⟩)
  (c5:y0f K cd5 "_law_plan"=true)
  (k5:y08 K (.ref f5)=true)
  (a6:y0s K y0n "is_tuple"=some (some (.ref f6)))
  (l6:K.lookup f6=some ⟨oc6,od6,.func (y0i "is_tuple" "is_tuple" (z0k z2o) (z0d z2o) (z02 z2o) .none kV6 dc6 pm6 an6 cd6 ct6),sl6⟩)
  (c6:y0f K cd6 "is_tuple"=true)
  (k6:y08 K (.ref f6)=true)
  (a7:y0s K y0n "is_whole"=some (some (.ref f7)))
  (l7:K.lookup f7=some ⟨oc7,od7,.func (y0i "is_whole" "is_whole" (z0k z2n) (z0d z2n) (z02 z2n) .none kV7 dc7 pm7 an7 cd7 ct7),sl7⟩)
  (c7:y0f K cd7 "is_whole"=true)
  (k7:y08 K (.ref f7)=true)
  (a8:y0s K y0n "is_within"=some (some (.ref f8)))
  (l8:K.lookup f8=some ⟨oc8,od8,.func (y0i "is_within" "is_within" (z0k z21) (z0d z21) (z02 z21) .none kV8 dc8 pm8 an8 cd8 ct8),sl8⟩)
  (c8:y0f K cd8 "is_within"=true)
  (k8:y08 K (.ref f8)=true)
  (a9:y0s K y0n "is_text"=some (some (.ref f9)))
  (l9:K.lookup f9=some ⟨oc9,od9,.func (y0i "is_text" "is_text" (z0k z2v) (z0d z2v) (z02 z2v) .none kV9 dc9 pm9 an9 cd9 ct9),sl9⟩)
  (c9:y0f K cd9 "is_text"=true)
  (k9:y08 K (.ref f9)=true)
  (a10:y0s K y0n "is_name"=some (some (.ref f10)))
  (l10:K.lookup f10=some ⟨oc10,od10,.func (y0i "is_name" "is_name" (z0k z3l) (z0d z3l) (z02 z3l) .none kV10 dc10 pm10 an10 cd10 ct10),sl10⟩)
  (c10:y0f K cd10 "is_name"=true)
  (k10:y08 K (.ref f10)=true)
  (a11:y0s K y0n "is_opening"=some (some (.ref f11)))
  (l11:K.lookup f11=some ⟨oc11,od11,.func (y0i "is_opening" "is_opening" (z0k z1k) (z0d z1k) (z02 z1k) .none kV11 dc11 pm11 an11 cd11 ct11),sl11⟩)
  (c11:y0f K cd11 "is_opening"=true)
  (k11:y08 K (.ref f11)=true)
  (a12:y0s K y0n "is_house"=some (some (.ref f12)))
  (l12:K.lookup f12=some ⟨oc12,od12,.func (y0i "is_house" "is_house" (z0k z25) (z0d z25) (z02 z25) .none kV12 dc12 pm12 an12 cd12 ct12),sl12⟩)
  (c12:y0f K cd12 "is_house"=true)
  (k12:y08 K (.ref f12)=true)
  (a13:y0s K y0n "zones_of"=some (some (.ref f13)))
  (l13:K.lookup f13=some ⟨oc13,od13,.func (y0i "zones_of" "zones_of" (z0k z23) (z0d z23) (z02 z23) .none kV13 dc13 pm13 an13 cd13 ct13),sl13⟩)
  (c13:y0f K cd13 "zones_of"=true)
  (k13:y08 K (.ref f13)=true)
  (a14:y0s K y0n "_law_spoilt"=some (some (.ref f14)))
  (l14:K.lookup f14=some ⟨oc14,od14,.func (y0i "_law_spoilt" "_law_spoilt" (z0k z24) (z0d z24) (z02 z24) .none kV14 dc14 pm14 an14 cd14 ct14),sl14⟩)
  (c14:y0f K cd14 "_law_spoilt"=true)
  (k14:y08 K (.ref f14)=true)
  (a15:y0s K y0n "_law_edges"=some (some (.ref f15)))
  (l15:K.lookup f15=some ⟨oc15,od15,.func (y0i "_law_edges" "_law_edges" (z0k z3j) (z0d z3j) (z02 z3j) .none kV15 dc15 pm15 an15 cd15 ct15),sl15⟩)
  (c15:y0f K cd15 "_law_edges"=true)
  (k15:y08 K (.ref f15)=true)
  (a16:y0s K y0n "kind_of"=some (some (.ref f16)))
  (l16:K.lookup f16=some ⟨oc16,od16,.func (y0i "kind_of" "kind_of" (z0k z2u) (z0d z2u) (z02 z2u) .none kV16 dc16 pm16 an16 cd16 ct16),sl16⟩)
  (c16:y0f K cd16 "kind_of"=true)
  (k16:y08 K (.ref f16)=true)
  (a17:y0s K y0n "who_of"=some (some (.ref f17)))
  (l17:K.lookup f17=some ⟨oc17,od17,.func (y0i "who_of" "who_of" (z0k z4j) (z0d z4j) (z02 z4j) .none kV17 dc17 pm17 an17 cd17 ct17),sl17⟩)
  (c17:y0f K cd17 "who_of"=true)
  (k17:y08 K (.ref f17)=true)
  (a18:y0s K y0n "_law_told"=some (some (.ref f18)))
  (l18:K.lookup f18=some ⟨oc18,od18,.func (y0i "_law_told" "_law_told" (z0k z1o) (z0d z1o) (z02 z1o) .none kV18 dc18 pm18 an18 cd18 ct18),sl18⟩)
  (c18:y0f K cd18 "_law_told"=true)
  (k18:y08 K (.ref f18)=true)
  (a19:y0s K y0n "begun"=some (some (.ref f19)))
  (l19:K.lookup f19=some ⟨oc19,od19,.func (y0i "begun" "begun" (z0k z4k) (z0d z4k) (z02 z4k) .none kV19 dc19 pm19 an19 cd19 ct19),sl19⟩)
  (c19:y0f K cd19 "begun"=true)
  (k19:y08 K (.ref f19)=true)
  (a20:y0s K y0n "_law_tuple"=some (some (.ref f20)))
  (l20:K.lookup f20=some ⟨oc20,od20,.func (y0i "_law_tuple" "_law_tuple" (z0k z3g) (z0d z3g) (z02 z3g) .none kV20 dc20 pm20 an20 cd20 ct20),sl20⟩)
  (c20:y0f K cd20 "_law_tuple"=true)
  (k20:y08 K (.ref f20)=true)
  (a21:y0s K y0n "_law_number"=some (some (.ref f21)))
  (l21:K.lookup f21=some ⟨oc21,od21,.func (y0i "_law_number" "_law_number" (z0k z2m) (z0d z2m) (z02 z2m) .none kV21 dc21 pm21 an21 cd21 ct21),sl21⟩)
  (c21:y0f K cd21 "_law_number"=true)
  (k21:y08 K (.ref f21)=true)
  (a22:y0s K y0n "_law_word"=some (some (.ref f22)))
  (l22:K.lookup f22=some ⟨oc22,od22,.func (y0i "_law_word" "_law_word" (z0k z3z) (z0d z3z) (z02 z3z) .none kV22 dc22 pm22 an22 cd22 ct22),sl22⟩)
  (c22:y0f K cd22 "_law_word"=true)
  (k22:y08 K (.ref f22)=true)
  (a23:y0s K y0n "_law_is_house"=some (some (.ref f23)))
  (l23:K.lookup f23=some ⟨oc23,od23,.func (y0i "_law_is_house" "_law_is_house" (z0k z1j) (z0d z1j) (z02 z1j) .none kV23 dc23 pm23 an23 cd23 ct23),sl23⟩)
  (c23:y0f K cd23 "_law_is_house"=true)
  (k23:y08 K (.ref f23)=true)
  (a24:y0s K y0n "law"=some (some (.ref f24)))
  (l24:K.lookup f24=some ⟨oc24,od24,.func (y0i "law" "law" (z0k z6g) (z0d z6g) (z02 z6g) .none kV24 dc24 pm24 an24 (.ref cL) ct24),sl24⟩)
  (c24:y0f K (.ref cL) "law"=true)
  (k24:y08 K (.ref f24)=true)
  (z_len:y0s K y0n "len"=some none)
  (z_range:y0s K y0n "range"=some none)
  (z_min:y0s K y0n "min"=some none)
  (z_max:y0s K y0n "max"=some none)
  (z_enumerate:y0s K y0n "enumerate"=some none)
  (z_tuple:y0s K y0n "tuple"=some none)
  (z_isinstance:y0s K y0n "isinstance"=some none)
  (z_int:y0s K y0n "int"=some none)
  (z_bool:y0s K y0n "bool"=some none)
  (z_all:y0s K y0n "all"=some none)
  (z_str:y0s K y0n "str"=some none)
  (z_sorted:y0s K y0n "sorted"=some none)
  (z_set:y0s K y0n "set"=some none)
  (z_list:y0s K y0n "list"=some none)
  (z_repr:y0s K y0n "repr"=some none)
  (g_OUTSIDE:y0s K y0n "OUTSIDE"=some (some (.int 0 t_OUTSIDE)))
  (hCH:y37 K cL 238=true)
  (nDoorError:y0s K y0n "DoorError"=some (some (.ref XD)))
  (nNoZone:y0s K y0n "NoZone"=some (some (.ref xz)))
  (nNoWay:y0s K y0n "NoWay"=some (some (.ref xw)))
  (nNoDeed:y0s K y0n "NoDeed"=some (some (.ref xd)))
  (nNoText:y0s K y0n "NoText"=some (some (.ref xt)))
  (z_ValueError:y0s K y0n "ValueError"=some none)
  (hDo:zmn K XD=true)
  (hXz:zop K XD xz xw xd xt xz true false false false=true) :
  ∃fd:y0b,(∀(s:y04) (v:Value),BindsTo s fd ⟨[v],[]⟩ [("_law_script",v)])/\∀base:Heap,K.In base->base.Ns y0n mg->BM mg base->FnOk l.prog w K mg base CX0 24 fa fd ["_law_script"] (@spT (tOf [(238,(("law":Str)++".<locals>.")++"<lambda>")]) K 1 zc9):=by
 have e:=hfa.symm.trans (y11 X G a24)
 cases e
 refine⟨y0i "law" "law" (z0k z6g) (z0d z6g) (z02 z6g) .none kV24 dc24 pm24 an24 (.ref cL) ct24,fun s v=>.of_eq rfl,fun base _ _ hbm=>?_⟩
 letI tt:Tbl:=⟨[(238,(("law":Str)++".<locals>.")++"<lambda>")],fun c=>match c with  | _=>[],fun c=>match c with  | _=>none⟩
 replace z_len:=y1c X G z_len
 replace z_range:=y1c X G z_range
 replace z_min:=y1c X G z_min
 replace z_max:=y1c X G z_max
 replace z_enumerate:=y1c X G z_enumerate
 replace z_tuple:=y1c X G z_tuple
 replace z_isinstance:=y1c X G z_isinstance
 replace z_int:=y1c X G z_int
 replace z_bool:=y1c X G z_bool
 replace z_all:=y1c X G z_all
 replace z_str:=y1c X G z_str
 replace z_sorted:=y1c X G z_sorted
 replace z_set:=y1c X G z_set
 replace z_list:=y1c X G z_list
 replace z_repr:=y1c X G z_repr
 replace z_ValueError:=y1c X G z_ValueError
 have Nm:Names K mg XD xz xw xd xt:=⟨y11 X G nDoorError,y11 X G nNoZone,y11 X G nNoWay,y11 X G nNoDeed,y11 X G nNoText,z_isinstance,z_ValueError,hDo⟩
 have Rz:=zvr hXz
 replace g_OUTSIDE:=y11 X G g_OUTSIDE
 have F1:=z1i (st:=z20) l1 c1 k1
 have C_l_cell_at:=z6q (P:=l.prog) (w:=w) (base:=base) (k:=0) F1 (y11 X G a1) z_len
 have F2:=z1i (st:=z3h) l2 c2 k2
 have C_l_mixed:=z3p (P:=l.prog) (w:=w) (base:=base) (k:=1) F2 (y11 X G a2) (C_l_cell_at.mono (by decide))
 have F3:=z1i (st:=z3k) l3 c3 k3
 have C_l_drawn:=z1g (P:=l.prog) (w:=w) (base:=base) (k:=0) F3 (y11 X G a3)
 have F4:=z1i (st:=z3i) l4 c4 k4
 have C_l_house:=z9x (P:=l.prog) (w:=w) (base:=base) (k:=1) F4 (y11 X G a4) z_range (C_l_drawn.mono (by decide)) z_min z_max
 have F5:=z1i (st:=z40) l5 c5 k5
 have C_l_plan:=zcc (P:=l.prog) (w:=w) (base:=base) (k:=1) F5 (y11 X G a5) z_enumerate (C_l_drawn.mono (by decide)) z_tuple z_range
 have F6:=z1i (st:=z2o) l6 c6 k6
 have C_is_tuple:=z3c (P:=l.prog) (w:=w) (base:=base) (k:=0) F6 (y11 X G a6) z_isinstance z_tuple z_len
 have F7:=z1i (st:=z2n) l7 c7 k7
 have C_is_whole:=z7y (P:=l.prog) (w:=w) (base:=base) (k:=0) F7 (y11 X G a7) z_isinstance z_int z_bool
 have F8:=z1i (st:=z21) l8 c8 k8
 have C_is_within:=z2r (P:=l.prog) (w:=w) (base:=base) (k:=1) F8 (y11 X G a8) (C_is_whole.mono (by decide))
 have F9:=z1i (st:=z2v) l9 c9 k9
 have C_is_text:=z9z (P:=l.prog) (w:=w) (base:=base) (k:=0) F9 (y11 X G a9) z_all z_isinstance z_len z_str
 have F10:=z1i (st:=z3l) l10 c10 k10
 have C_is_name:=za0 (P:=l.prog) (w:=w) (base:=base) (k:=1) F10 (y11 X G a10) (C_is_text.mono (by decide))
 have F11:=z1i (st:=z1k) l11 c11 k11
 have C_is_opening:=z5o (P:=l.prog) (w:=w) (base:=base) (k:=2) F11 (y11 X G a11) (C_is_within.mono (by decide)) (C_is_tuple.mono (by decide)) (C_is_name.mono (by decide)) g_OUTSIDE
 have F12:=z1i (st:=z25) l12 c12 k12
 have C_is_house:=z62 (P:=l.prog) (w:=w) (base:=base) (k:=3) F12 (y11 X G a12) z_all (C_is_tuple.mono (by decide)) (C_is_within.mono (by decide)) (C_is_opening.mono (by decide))
 have F13:=z1i (st:=z23) l13 c13 k13
 have C_zones_of:=z7x (P:=l.prog) (w:=w) (base:=base) (k:=0) F13 (y11 X G a13) z_tuple z_sorted z_set
 have F14:=z1i (st:=z24) l14 c14 k14
 have C_l_spoilt:=z3b (P:=l.prog) (w:=w) (base:=base) (k:=1) F14 (y11 X G a14) z_isinstance z_tuple z_len (C_l_drawn.mono (by decide)) z_list z_str z_int 20
 have F15:=z1i (st:=z3j) l15 c15 k15
 have C_l_edges:=z9y (P:=l.prog) (w:=w) (base:=base) (k:=0) F15 (y11 X G a15)
 have F16:=z1i (st:=z2u) l16 c16 k16
 have C_kind_of:=z7g (P:=l.prog) (w:=w) (base:=base) (k:=0) F16 (y11 X G a16)
 have Z_kind_of:=z7i (P:=l.prog) (w:=w) (base:=base) (k:=0) F16 (y11 X G a16) Nm Rz
 have F17:=z1i (st:=z4j) l17 c17 k17
 have C_who_of:=z8k (P:=l.prog) (w:=w) (base:=base) (k:=0) F17 (y11 X G a17)
 have F18:=z1i (st:=z1o) l18 c18 k18
 have F19:=z1i (st:=z4k) l19 c19 k19
 have C_begun:=zgm (P:=l.prog) (w:=w) (base:=base) (k:=0) F19 (y11 X G a19) z_tuple
 have F20:=z1i (st:=z3g) l20 c20 k20
 have C_l_tuple:=z7f (P:=l.prog) (w:=w) (base:=base) (k:=0) F20 (y11 X G a20) z_isinstance z_tuple z_len
 have F21:=z1i (st:=z2m) l21 c21 k21
 have C_l_number:=z4f (P:=l.prog) (w:=w) (base:=base) (k:=0) F21 (y11 X G a21) z_isinstance z_int z_bool
 have F22:=z1i (st:=z3z) l22 c22 k22
 have C_l_word:=zcb (P:=l.prog) (w:=w) (base:=base) (k:=0) F22 (y11 X G a22) z_isinstance z_len z_str
 have F23:=z1i (st:=z1j) l23 c23 k23
 have C_l_is_house:=z5n (P:=l.prog) (w:=w) (base:=base) (k:=1) F23 (y11 X G a23) (C_l_tuple.mono (by decide)) (C_l_number.mono (by decide)) z_isinstance z_tuple z_len (C_l_word.mono (by decide))
 have F24:=z1i (st:=z6g) l24 c24 k24
 exact zsj rfl (zwd (k:=21) l24 c24 hCH hbm (by show _∈[(238,(("law":Str)++".<locals>.")++"<lambda>")];simp) (fun p hp=>by
  have hp:p∈[(238,(("law":Str)++".<locals>.")++"<lambda>")]:=hp
  simp only[y09,y28,or_false] at hp
  rcases hp with rfl <;> first|(intro z;exact absurd z (by decide))|(intro _;rfl)) Nm Rz (Z_kind_of.mono (by decide)) (C_l_mixed.mono (by decide)) (C_l_house.mono (by decide)) (C_l_plan.mono (by decide)) (C_is_house.mono (by decide)) (C_zones_of.mono (by decide)) z_tuple z_repr (C_l_spoilt.mono (by decide)) (C_l_edges.mono (by decide)) z_sorted (C_kind_of.mono (by decide)) (C_who_of.mono (by decide)) F18 (y11 X G a18) z_len (C_begun.mono (by decide)) z_set z_isinstance (C_l_is_house.mono (by decide)) z_bool)
theorem walk {l:PySem.W.OpenLaw} {q:y0q} {loose:List Str} {XP:(Str->Option Value)->Heap->Prop} {YP:World->Heap->Prop} {d:DefRec} {K:Params->y00} (hn:l.most=some 63) (hdf:d.params.defaults=[])
  (hL:∀w:World,noL (K w.params)=true) (hY:∀(w:World) (h:Heap),YP w h->(K w.params).In h) (hT:∀(w:World) (h:Heap),YP w h->∀b∈[238],h.get? b=some (PySem.W.tabObj #[]))
  (hK0:∀w:World,(([238]:List Nat).all fun b=>((K w.params).lookup b).isNone)=true) (hcd:∀w:World,(([238]:List Nat).all fun b=>(K w.params).any fun p=>y37 (K w.params) p.1 b)=true)
  (F:∀(w:World) (mg:Str->Option Value) (fa:Addr) (h:Heap),(K w.params).In h->h.Ns y0n mg->mg d.name=some (.ref fa) ->
   ∃fd:y0b,(∀(s:y04) (u:Value),BindsTo s fd ⟨[u],[]⟩ [("_law_script",u)])/\∀base:Heap,(K w.params).In base->base.Ns y0n mg->BM mg base->FnOk l.prog w (K w.params) mg base CX0 24 fa fd ["_law_script"] (@spT (tOf [(238,(("law":Str)++".<locals>.")++"<lambda>")]) (K w.params) 1 zc9)) :
  PySem.W.WalkO q loose XP YP l.row.toRowW d [] (fun f vs=>PySem.call f vs) :=
 znj (n:=63) (k:=24) (x:="_law_script") (ts:=[238]) (CX:=fun _=>CX0) (sp:=fun w=>@spT (tOf [(238,(("law":Str)++".<locals>.")++"<lambda>")]) (K w.params) 1 zc9) hn (by decide) hdf ⟨rfl,by decide,by decide,rfl⟩ hY hT (fun w b hb=>Option.isNone_iff_eq_none.mp (List.all_eq_true.mp (hK0 w) b hb)) (fun w b hb=>by
  obtain⟨p,_,hp⟩:=List.any_eq_true.mp (List.all_eq_true.mp (hcd w) b hb)
  exact⟨p.1,hp⟩) F (fun w H a ns hl hO hS=>zk9 (t:=tOf [(238,(("law":Str)++".<locals>.")++"<lambda>")]) (fun p hp=>by
  have hp:p∈[(238,(("law":Str)++".<locals>.")++"<lambda>")]:=hp
  simp only[y09,y28,or_false] at hp
  rcases hp with rfl <;> simp) hO (hL w) (zhl ns hl) hS) fun _ _ _ _ _ z=>z
end K02
open PySem PySem.W PyProof.Rows
set_option maxRecDepth 100000 in
set_option maxHeartbeats 0 in
theorem PySem.Challenge.cw_doorwatch_k02_houses_holds : PySem.Challenge.rw_doorwatch_k02_houses.Holds := by
 w_on;o_law;k_head;(case hw=>w_witness2)
 k_fill
 refine K02.walk (l:=PySem.Challenge.rw_doorwatch_k02_houses) rfl rfl ?L (fun w h Y=>PySem.W.km_in_of Y) (fun w h Y=>PySem.W.km_tabs_of Y) ?K0 ?CD ?F
 case L =>
  intro w
  first|rfl|(with_unfolding_all rfl)|kernel_rfl
 case K0 =>
  intro w
  first|rfl|(with_unfolding_all rfl)|kernel_rfl
 case CD =>
  intro w
  first|rfl|(with_unfolding_all rfl)|kernel_rfl
 case F =>
  intro w mg fa h KX G hmg
  refine' K02.all_mk KX G hmg ?a1 ?l1 ?c1 ?k1 ?a2 ?l2 ?c2 ?k2 ?a3 ?l3 ?c3 ?k3 ?a4 ?l4 ?c4 ?k4 ?a5 ?l5 ?c5 ?k5 ?a6 ?l6 ?c6 ?k6 ?a7 ?l7 ?c7 ?k7 ?a8 ?l8 ?c8 ?k8 ?a9 ?l9 ?c9 ?k9 ?a10 ?l10 ?c10 ?k10 ?a11 ?l11 ?c11 ?k11 ?a12 ?l12 ?c12 ?k12 ?a13 ?l13 ?c13 ?k13 ?a14 ?l14 ?c14 ?k14 ?a15 ?l15 ?c15 ?k15 ?a16 ?l16 ?c16 ?k16 ?a17 ?l17 ?c17 ?k17 ?a18 ?l18 ?c18 ?k18 ?a19 ?l19 ?c19 ?k19 ?a20 ?l20 ?c20 ?k20 ?a21 ?l21 ?c21 ?k21 ?a22 ?l22 ?c22 ?k22 ?a23 ?l23 ?c23 ?k23 ?a24 ?l24 ?c24 ?k24 ?z_len ?z_range ?z_min ?z_max ?z_enumerate ?z_tuple ?z_isinstance ?z_int ?z_bool ?z_all ?z_str ?z_sorted ?z_set ?z_list ?z_repr ?g_OUTSIDE ?hCH ?nDoorError ?nNoZone ?nNoWay ?nNoDeed ?nNoText ?z_ValueError ?hDo ?hXz
  (case a1=>k_is)
  (case l1=>k_is)
  (case c1=>k_is)
  (case k1=>k_is)
  (case a2=>k_is)
  (case l2=>k_is)
  (case c2=>k_is)
  (case k2=>k_is)
  (case a3=>k_is)
  (case l3=>k_is)
  (case c3=>k_is)
  (case k3=>k_is)
  (case a4=>k_is)
  (case l4=>k_is)
  (case c4=>k_is)
  (case k4=>k_is)
  (case a5=>k_is)
  (case l5=>k_is)
  (case c5=>k_is)
  (case k5=>k_is)
  (case a6=>k_is)
  (case l6=>k_is)
  (case c6=>k_is)
  (case k6=>k_is)
  (case a7=>k_is)
  (case l7=>k_is)
  (case c7=>k_is)
  (case k7=>k_is)
  (case a8=>k_is)
  (case l8=>k_is)
  (case c8=>k_is)
  (case k8=>k_is)
  (case a9=>k_is)
  (case l9=>k_is)
  (case c9=>k_is)
  (case k9=>k_is)
  (case a10=>k_is)
  (case l10=>k_is)
  (case c10=>k_is)
  (case k10=>k_is)
  (case a11=>k_is)
  (case l11=>k_is)
  (case c11=>k_is)
  (case k11=>k_is)
  (case a12=>k_is)
  (case l12=>k_is)
  (case c12=>k_is)
  (case k12=>k_is)
  (case a13=>k_is)
  (case l13=>k_is)
  (case c13=>k_is)
  (case k13=>k_is)
  (case a14=>k_is)
  (case l14=>k_is)
  (case c14=>k_is)
  (case k14=>k_is)
  (case a15=>k_is)
  (case l15=>k_is)
  (case c15=>k_is)
  (case k15=>k_is)
  (case a16=>k_is)
  (case l16=>k_is)
  (case c16=>k_is)
  (case k16=>k_is)
  (case a17=>k_is)
  (case l17=>k_is)
  (case c17=>k_is)
  (case k17=>k_is)
  (case a18=>k_is)
  (case l18=>k_is)
  (case c18=>k_is)
  (case k18=>k_is)
  (case a19=>k_is)
  (case l19=>k_is)
  (case c19=>k_is)
  (case k19=>k_is)
  (case a20=>k_is)
  (case l20=>k_is)
  (case c20=>k_is)
  (case k20=>k_is)
  (case a21=>k_is)
  (case l21=>k_is)
  (case c21=>k_is)
  (case k21=>k_is)
  (case a22=>k_is)
  (case l22=>k_is)
  (case c22=>k_is)
  (case k22=>k_is)
  (case a23=>k_is)
  (case l23=>k_is)
  (case c23=>k_is)
  (case k23=>k_is)
  (case a24=>k_is)
  (case l24=>k_is)
  (case c24=>k_is)
  (case k24=>k_is)
  (case z_len=>k_is)
  (case z_range=>k_is)
  (case z_min=>k_is)
  (case z_max=>k_is)
  (case z_enumerate=>k_is)
  (case z_tuple=>k_is)
  (case z_isinstance=>k_is)
  (case z_int=>k_is)
  (case z_bool=>k_is)
  (case z_all=>k_is)
  (case z_str=>k_is)
  (case z_sorted=>k_is)
  (case z_set=>k_is)
  (case z_list=>k_is)
  (case z_repr=>k_is)
  (case g_OUTSIDE=>k_is)
  (case hCH=>first|kernel_rfl|rfl|(with_unfolding_all rfl))
  (case nDoorError=>k_is)
  (case nNoZone=>k_is)
  (case nNoWay=>k_is)
  (case nNoDeed=>k_is)
  (case nNoText=>k_is)
  (case z_ValueError=>k_is)
  (case hDo=>first|kernel_rfl|rfl|(with_unfolding_all rfl))
  (case hXz=>first|kernel_rfl|rfl|(with_unfolding_all rfl))
end
end
