import PyProof.Rows.All
import Wide.All
import OpenK.AllK
import Wide.FinOn
import Lean
import PyProof.EqAt
import PyProof.EqKinds
import PyProof.TupleCall
import PyProof.P3Statements
import KE.KSortTup
import PyProof.AttrMissHeap
import PyProof.ZipIter
import PyProof.Draws
import PyProof.ListMulRoad
import Wide.Seal
import KE.KLam
import KE.KNest
import KE.KNestM
import KE.KIsAll
import PyProof.ExcArgs
import PyProof.ReprStr
import PyProof.FString
import PyProof.FitsInt
import KE.KMinKey
import PySem.Challenge.RW_doorwatch_k22_whole_few_openings
set_option Elab.async false
set_option linter.all false
set_option maxRecDepth 100000
set_option maxHeartbeats 0
open PySem.W renaming Frag → y00, keepIn → y08, codeIn → y0f, fnOf → y0i, nsIn → y0s, mg_of → y11, mg_none_of → y1c, codeHdIn → y3a
open Option renaming bind_eq_some_iff → y01, map_eq_some_iff → y07, bind_some → y0p, map_some → y1r
open PySem renaming wpAny_bind → y02, Shared → y04, wpAny_pure → y06, starEach → y0a, FuncData → y0b, sizeLine → y0j, mainGlobals → y0n, Program → y0q, wpAny → y0u, wpAny_mono → y1d, mem_of_lookup → y29, keywordEach → y2j, wpAny_holding → y2k, backTo → y2l, wpAny_field → y2m, wpAny_callSpecial?_slot → y2n, backToKw → y2o, sizeLine_eq → y2p, wpAny_seqItems → y2q, wpAny_pyIter_tuple → y2r, compareOp → y2s, codeAny_builtin → y2t, wpAny_newObj_type → y2u, codeAny_mono → y2v, wpAny_call_entry → y2w, wpAny_setField_rec → y2x, swapsWith → y2y, behindInMarks → y2z, wpAny_truthy_bool → y30, codeAny → y31, plainId_quiet → y32, assignEach → y33, wpAny_tryCatch → y34, binaryOp → y35, NameKind → y36, model → y37, foldedSetIterable → y38, rawInt → y39
open PySem.Heap renaming get?_push_of_some → y03, lt_size → y0c, get?_push_size → y0l, size_push → y17, get?_update_other → y3c
open List renaming mem_cons_of_mem → y05, mem_cons → y09, map_cons → y0d, mem_cons_self → y0e, replicate → y0g, size_toArray → y0h, getElem?_eq_some_iff → y0k, mem_map → y0m, nodup_cons → y0r, getElem?_eq_getElem → y0v, length_cons → y0w, mem_singleton → y0z, mem_append → y10, length_map → y13, getElem?_map → y14, pairwise_cons → y18, map_nil → y19, mem_append_right → y1a, lookup_cons → y1f, set_cons_zero → y1i, set_cons_succ → y1k, getElem?_append_right → y1l, nodup_append → y1m, getElem?_append_left → y1n, Nodup → y1q, find?_cons → y1s, mem_of_getElem? → y1v, length_append → y21, length_filter_le → y26, not_mem_nil → y28, getElem?_cons_zero → y2a, getElem?_cons_succ → y2b, length_nil → y2d, cons_append → y2h, map_map → y2i
open Nat renaming le_refl → y0o, lt_of_lt_of_le → y0x, ne_of_lt → y0y, ne_of_gt → y15, le_trans → y1p, zero_le → y23, le_succ → y2e, le_add_right → y3b
open PySem.Builtin.SmallTypes renaming nextOf → y0t
open PySem.Builtin.Tuple renaming tupleExact → y12
open Function renaming comp_def → y16
open Bool renaming and_eq_true → y1b, false_eq_true → y1u, false_ne_true → y22
open PySem.PyData renaming depthAll → y1e, canLayAll0 → y1g, str → y1x, eqv → y20, depth → y24
open PyProof.Rows renaming slot_tuple_getitem → y1h, callWith_type1 → y1t
open PySem.Builtin.Slice renaming slicePlaces → y1j
open Array renaming getElem?_eq_getElem → y1o, length_toList → y1z
open PySem.Around renaming under_plainId → y1w
open False renaming elim → y1y
open PySem.PassesOwn renaming never → y25
open PySem.F renaming slot_tuple_iterator_next → y27
open Option.some renaming inj → y2c
open Int renaming emod_nonneg → y2f, emod_lt_of_pos → y2g
namespace PySem.W.Fast
def tw17863034304435848224:=0
def tw18187518869110472935:=0
def tw13698418221578547975:=0
def tw16189130587172036294:=0
def tw15260489650786420901:=0
def tw6126252354642427325:=0
def tw18214697102690351305:=0
def tw5456919039093605135:=0
def tw2520027572361311480:=0
def tw13681066965418307992:=0
def tw16771562587558428159:=0
def tw14179299419334921953:=0
def tw17809747414274328329:=0
def tw12497289402358475097:=0
def tw679600334564873416:=0
def tw13566120685234501788:=0
def tw9168846589761873093:=0
def tw8273769024158265916:=0
def tw7948342236002270497:=0
def tw7473033328773756322:=0
def tw15859850557474699001:=0
def tw14870357441207245937:=0
def tw3467512692883382457:=0
def tw3145129452014414235:=0
def tw11061042378154655449:=0
def tw17276092328130654520:=0
def tw1046607868163959553:=0
def tw8384389051330229511:=0
def tw6078923705044640548:=0
def tw10390167663162493194:=0
def tw4939216284290903540:=0
def tw3392203035673412408:=0
def tw15931352819352849055:=0
def tw1111417155282085552:=0
def tw12114426045482031377:=0
def tw18049469412822567701:=0
def tw13886827720494132927:=0
def tw9978260940679570694:=0
def tw12777621954372565185:=0
def tw9085905372485985510:=0
def tw7676047065914216811:=0
def tw15242103819053987380:=0
def tw13329154929822022307:=0
def tw16777487248708898706:=0
def tw3577746104959167312:=0
def tw4278729782298491190:=0
def tw4802388836353263999:=0
def tw9442625441116332032:=0
def tw2220448299611894344:=0
def tw9210203325808382015:=0
def tw9119470125285303387:=0
end PySem.W.Fast
noncomputable section
section
namespace L2
open PySem PySem.Spec PyProof.Rows
abbrev Key:=Sum Int Str
def zc1:Key->Value->Bool
 | .inl k,v=>Value.isInt k v
 | .inr x,v=>Value.isStrOf x v
def keyH (w:World):Key->Int
 | .inl k=>hashInt k
 | .inr x=>hashStr w x
theorem z0m:∀{k:Key} {v:Value},zc1 k v=true->(∃i t,k=Sum.inl i/\v=Value.int i t)\/(∃x t,k=Sum.inr x/\v=Value.str x t)
 | .inl i,v,h=>by
  obtain⟨t,e⟩:=Value.isInt_shape (k:=i) (v:=v) h
  exact .inl ⟨i,t,rfl,e⟩
 | .inr x,v,h=>by
  obtain⟨t,e⟩:=Value.isStrOf_shape (x:=x) (v:=v) h
  exact .inr ⟨x,t,rfl,e⟩
theorem zh5 (i:Int) (t:Tok):zc1 (.inl i) (.int i t)=true:=by simp[zc1,Value.isInt]
theorem zh4 (x:Str) (t:Tok):zc1 (.inr x) (.str x t)=true:=by simp[zc1,Value.isStrOf]
theorem zp3 (a b:Int):decide ((Sum.inl a:Key)=Sum.inl b)=(a == b):=by
 by_cases e:a=b
 ·subst e;simp
 ·have h:¬(Sum.inl a:Key)=Sum.inl b:=fun q=>e (Sum.inl.inj q)
  rw[decide_eq_false h]
  exact (beq_eq_false_iff_ne.mpr e).symm
theorem zp0 (a b:Str):decide ((Sum.inr a:Key)=Sum.inr b)=decide (a=b):=by
 by_cases e:a=b
 ·subst e;simp
 ·have h:¬(Sum.inr a:Key)=Sum.inr b:=fun q=>e (Sum.inr.inj q)
  rw[decide_eq_false h,decide_eq_false e]
theorem zp2 (a:Int) (b:Str):decide ((Sum.inl a:Key)=Sum.inr b)=false:=decide_eq_false (fun q=>nomatch q)
theorem zp1 (a:Str) (b:Int):decide ((Sum.inr a:Key)=Sum.inl b)=false:=decide_eq_false (fun q=>nomatch q)
noncomputable def z0f (prog:y0q) (w:World):PySem.KeyKind prog w Key where
 is:=zc1
 hash:=keyH w
 inj:=fun v a b ha hb=>by
  rcases z0m ha with ⟨i,t,rfl,rfl⟩|⟨x,t,rfl,rfl⟩
  ·rcases z0m hb with ⟨j,u,rfl,e⟩|⟨y,u,rfl,e⟩
   ·injection e with e1 _;rw[e1]
   ·exact nomatch e
  ·rcases z0m hb with ⟨j,u,rfl,e⟩|⟨y,u,rfl,e⟩
   ·exact nomatch e
   ·injection e with e1 _;rw[e1]
 byValue:=fun k v h=>by
  rcases z0m h with ⟨i,t,rfl,rfl⟩|⟨x,t,rfl,rfl⟩ <;> rfl
 pyHash:=fun hv h=>by
  rcases z0m hv with ⟨i,t,rfl,rfl⟩|⟨x,t,rfl,rfl⟩
  ·exact wpAny_pyHash_int h
  ·exact wpAny_pyHash_str h
 eqBool:=fun hu hv h=>by
  rcases z0m hu with ⟨i,t,rfl,rfl⟩|⟨x,t,rfl,rfl⟩
  ·rcases z0m hv with ⟨j,u,rfl,rfl⟩|⟨y,u,rfl,rfl⟩
   ·rw[zp3] at h;exact wpAny_eqBool_int h
   ·rw[zp2] at h;exact SeqAt.EqAt.int_str i t y u _ _ _ _ h
  ·rcases z0m hv with ⟨j,u,rfl,rfl⟩|⟨y,u,rfl,rfl⟩
   ·rw[zp1] at h;exact SeqAt.EqAt.str_int x t j u _ _ _ _ h
   ·rw[zp0] at h;exact wpAny_eqBool_str h
 «strs»:=fun k x t v h=>by
  rcases z0m h with ⟨i,u,rfl,e⟩|⟨y,u,rfl,e⟩
  ·exact nomatch e
  ·injection e with e1 _
   subst e1
   cases v <;> rfl
theorem z8j (prog:y0q) (w:World) (k:Key) (v:Value):(z0f prog w).is k v=zc1 k v:=rfl
theorem z75 (prog:y0q) (w:World) (i:Int) (t:Tok):(z0f prog w).is (.inl i) (.int i t)=true:=zh5 i t
theorem z74 (prog:y0q) (w:World) (x:Str) (t:Tok):(z0f prog w).is (.inr x) (.str x t)=true:=zh4 x t
end L2
namespace L2
open PySem PySem.Spec PyProof.Rows
inductive V where
 | non|bl (b:Bool)|int (i:Int)|str (x:Str)|byt (b:Array UInt8)|flt (b:UInt64)|ref (a:Addr)|ty (n:String)
 deriving DecidableEq
noncomputable def RelV:V->Value->Prop
 | .non,u=>u=Value.none
 | .bl b,u=>u=Value.bool b
 | .int i,u=>∃t,u=Value.int i t
 | .str x,u=>∃t,u=Value.str x t
 | .byt b,u=>∃t,u=Value.bytes b t
 | .flt b,u=>∃t,u=Value.float b t
 | .ref a,u=>u=Value.ref a
 | .ty n,u=>u=Value.type n
abbrev Vals:List V->List Value->Prop:=Paired RelV
theorem Vals.length {xs:List V} {us:List Value} (r:Vals xs us):xs.length=us.length:=Paired.length r
theorem Vals.get:∀{xs:List V} {us:List Value} {i:Nat} {x:V},Vals xs us->xs[i]?=some x->∃u,us[i]?=some u/\RelV x u
 | _,_,_,_,.nil,e=>by simp at e
 | _,_,0,_,.cons r _,e=>by simp at e;subst e;exact⟨_,rfl,r⟩
 | _,_,i+1,x,.cons _ t,e=>by
  obtain⟨u,h1,h2⟩:=Vals.get (i:=i) (x:=x) t (by simpa using e)
  exact⟨u,by simpa using h1,h2⟩
theorem Vals.append:∀{xs ys:List V} {us ws:List Value},Vals xs us->Vals ys ws->Vals (xs++ys) (us++ws)
 | _,_,_,_,.nil,s=>s
 | _,_,_,_,.cons r t,s=>.cons r (Vals.append t s)
theorem Vals.take:∀{xs:List V} {us:List Value} (n:Nat),Vals xs us->Vals (xs.take n) (us.take n)
 | _,_,0,_=>.nil
 | _,_,_+1,.nil=>.nil
 | _,_,n+1,.cons r t=>.cons r (Vals.take n t)
theorem Vals.drop:∀{xs:List V} {us:List Value} (n:Nat),Vals xs us->Vals (xs.drop n) (us.drop n)
 | _,_,0,r=>r
 | _,_,_+1,.nil=>.nil
 | _,_,n+1,.cons _ t=>Vals.drop n t
def RelO:Option V->Option Value->Prop
 | some v,some u=>RelV v u
 | none,none=>True
 | _,_=>False
def KV {κ:Type}:List (κ×V)->List (κ×Value)->Prop:=Paired fun (p:κ×V) (q:κ×Value)=>p.1=q.1/\RelV p.2 q.2
def kV:Key->V
 | .inl i=>.int i
 | .inr x=>.str x
inductive HO where
 | lst (xs:List V)
 | tup (xs:List V)
 | dK (kvs:List (Key×V))|dT (kvs:List (List Key×V))
 | set (S:Int->Bool) (n:Nat)
 | ins (C dx:Addr) (fs:List (Str×V))
 | own (x:Addr)
 | xd (fs:List (Str×V))
 | met (f x:Addr)
 | rng (lo hi:Int)
 | frz (o:Obj) (u:HO)
 | tbl (ps:Array Value)
 | ext (φ:Heap->Prop)
abbrev Hp:=Addr->Option HO
def upd (H:Hp) (a:Addr) (o:HO):Hp:=fun b=>if b=a then some o else H b
theorem z03 {H:Hp} {a:Addr} {o:HO}:upd H a o a=some o:=by unfold upd;rw[if_pos rfl]
theorem z05 {H:Hp} {a b:Addr} {o:HO} (h:b≠a):upd H a o b=H b:=by unfold upd;rw[if_neg h]
theorem ne_of {H:Hp} {a b:Addr} {o u:HO} (h:H a=some o) (h':H b=some u) (d:o≠u):a≠b:=by
 intro e;subst e;rw[h] at h';exact d (y2c h')
theorem z0a {H:Hp} {a b:Addr} {o:HO} (h:H a=some o) (h':H b=none):a≠b:=by
 intro e;subst e;rw[h] at h';cases h'
section
variable (P:y0q) (w:World)
noncomputable def z2n (H:Hp) (h:Heap) (a:Addr):HO->Prop
 | .lst xs=>xs.length<=y0j/\∃(its:List Value) (n:Nat),Vals xs its/\h.get? a=some { cls:=.type "list",data:=.seq its.toArray n }
 | .tup xs=>xs.length<=y0j/\∃its:List Value,Vals xs its/\IsTup h a its.toArray
 | .dK kvs=>kvs.length<=y0j/\(a == sysModules)=false/\∃vs,KV kvs vs/\h.DictOf (z0f P w) a vs
 | .dT kvs=>kvs.length<=y0j/\(a == sysModules)=false/\∃xs:List (List Key×Addr×Value),
   Paired (fun (p:List Key×V) (q:List Key×Addr×Value)=>p.1=q.1/\H q.2.1=some (.tup (p.1.map kV))/\RelV p.2 q.2.2) kvs xs /\
   ∃o es ep,h.get? a=some o/\o.ExactDict/\o.data=.dict es ep/\es.toList=xs.map (entryOfKey (tupleKind (z0f P w)))/\(xs.map (·.1)).Nodup
 | .set S n=>h.SetOf (intKind P w) a S n
 | .ins C dx fs=>H dx=some (.own a)/\fs.length<=1000/\dx≠a/\h.get? a=some (PySem.W.instObj C dx) /\
   ∃mA,h.Ns1 dx mA/\(∀f,RelO (fs.lookup f) (mA f))/\PySem.Within mA (fs.map (·.1))
 | .own _=>∃o,h.get? a=some o
 | .xd fs=>∃mA,h.Ns1 a mA/\∀f,RelO (fs.lookup f) (mA f)
 | .rng lo hi=>∃t u v,h.get? a=some { cls:=.type "range",data:=.fields #[.int lo t,.int hi u,.int 1 v] }
 | .frz o u=>h.get? a=some o/\z2n H h a u
 | .tbl ps=>h.get? a=some { cls:=.none,data:=.fields ps }
 | .met f x=>h.get? a=some (PySem.W.methodObj (.ref f) (.ref x))
 | .ext φ=>φ h/\(∃o,h.get? a=some o)/\∀h1 h2:Heap,φ h1->(∀o,h1.get? a=some o->h2.get? a=some o)->φ h2
def HOk (H:Hp) (h:Heap):Prop:=∀a o,H a=some o->z2n P w H h a o
end
section
variable {P:y0q} {w:World} {H H':Hp} {h h':Heap} {a:Addr} {o:HO}
theorem z2n.lt (x:z2n P w H h a o):a<h.objs.size:=by
 cases o with
 | lst xs=>obtain⟨_,_,_,_,e⟩:=x;exact y0c e
 | tup xs=>obtain⟨_,_,_,p⟩:=x;exact p.lt
 | dK kvs=>obtain⟨_,_,_,_,o,_,_,e,_⟩:=x;exact y0c e
 | dT kvs=>obtain⟨_,_,_,_,o,_,_,e,_⟩:=x;exact y0c e
 | set S n=>obtain⟨o,_,_,_,e,_⟩:=x;exact y0c e
 | ins C dx fs=>obtain⟨_,_,_,e,_⟩:=x;exact y0c e
 | own y=>obtain⟨_,e⟩:=x;exact y0c e
 | xd fs=>obtain⟨_,⟨_,_,_,e,_⟩,_⟩:=x;exact y0c e
 | rng lo hi=>obtain⟨_,_,_,e⟩:=x;exact y0c e
 | frz ob u=>obtain⟨e,_⟩:=x;exact y0c e
 | tbl ps=>exact y0c (show h.get? a=some _ from x)
 | met f y=>exact y0c (show h.get? a=some _ from x)
 | ext φ=>obtain⟨_,⟨_,e⟩,_⟩:=x;exact y0c e
theorem Paired.mapP {α β:Type} {F G:α->β->Prop}:∀{l₁:List α} {l₂:List β},Paired F l₁ l₂->(∀a b,F a b->G a b)->Paired G l₁ l₂
 | _,_,.nil,_=>.nil
 | _,_,.cons r t,f=>.cons (f _ _ r) (Paired.mapP t f)
theorem z2n.stay (x:z2n P w H h a o) (k:∀b u,(b=a\/H b=some (.own a))->h.get? b=some u->h'.get? b=some u)
  (ho:∀b,H b=some (.own a)->H' b=some (.own a)) (ht:∀b xs,H b=some (.tup xs)->H' b=some (.tup xs)):z2n P w H' h' a o:=by
 induction o with
 | lst xs=>obtain⟨z,its,n,r,e⟩:=x;exact⟨z,its,n,r,k _ _ (.inl rfl) e⟩
 | tup xs=>obtain⟨z,its,r,ob,e,c⟩:=x;exact⟨z,its,r,ob,k _ _ (.inl rfl) e,c⟩
 | dK kvs=>obtain⟨z,y,vs,r,ob,es,ep,e,c⟩:=x;exact⟨z,y,vs,r,ob,es,ep,k _ _ (.inl rfl) e,c⟩
 | dT kvs =>
  obtain⟨z,y,xs,r,ob,es,ep,e,c⟩:=x
  exact⟨z,y,xs,Paired.mapP r fun p q z=>⟨z.1,ht _ _ z.2.1,z.2.2⟩,ob,es,ep,k _ _ (.inl rfl) e,c⟩
 | set S n=>obtain⟨ob,es,ep,t,e,c⟩:=x;exact⟨ob,es,ep,t,k _ _ (.inl rfl) e,c⟩
 | ins C dx fs =>
  obtain⟨d,z,ne,e,mA,⟨od,es,ep,e2,c⟩,r⟩:=x
  exact⟨ho _ d,z,ne,k _ _ (.inl rfl) e,mA,⟨od,es,ep,k _ _ (.inr d) e2,c⟩,r⟩
 | own y=>obtain⟨ob,e⟩:=x;exact⟨ob,k _ _ (.inl rfl) e⟩
 | xd fs=>obtain⟨mA,⟨od,es,ep,e,c⟩,r⟩:=x;exact⟨mA,⟨od,es,ep,k _ _ (.inl rfl) e,c⟩,r⟩
 | rng lo hi=>obtain⟨t,u,v,e⟩:=x;exact⟨t,u,v,k _ _ (.inl rfl) e⟩
 | frz ob u ih=>obtain⟨e,q⟩:=x;exact⟨k _ _ (.inl rfl) e,ih q⟩
 | tbl ps =>
  have e:h.get? a=some { cls:=.none,data:=.fields ps }:=x
  show h'.get? a=some { cls:=.none,data:=.fields ps }
  exact k a _ (.inl rfl) e
 | met f y =>
  have e:h.get? a=some (PySem.W.methodObj (.ref f) (.ref y)):=x
  show h'.get? a=some (PySem.W.methodObj (.ref f) (.ref y))
  exact k a _ (.inl rfl) e
 | ext φ=>obtain⟨p,⟨o,e⟩,st⟩:=x;exact⟨st _ _ p fun o q=>k _ _ (.inl rfl) q,⟨o,k _ _ (.inl rfl) e⟩,st⟩
theorem HOk.lt (x:HOk P w H h) (e:H a=some o):a<h.objs.size:=(x a o e).lt
theorem HOk.fresh (x:HOk P w H h) (e:h.objs.size<=a):H a=none:=by
 cases q:H a with
 | none=>rfl
 | some u=>exact absurd (y0x (x.lt q) e) (Nat.lt_irrefl _)
theorem HOk.kept (x:HOk P w H h) (k:∀b u,h.get? b=some u->h'.get? b=some u):HOk P w H h':=fun a o e =>
 (x a o e).stay (fun b u _ q=>k b u q) (fun _ q=>q) fun _ _ q=>q
theorem HOk.laid (x:HOk P w H h) (k:∀b u,h.get? b=some u->h'.get? b=some u) (hp:h.objs.size<=a) (new:z2n P w (upd H a o) h' a o):HOk P w (upd H a o) h':=fun b u e=>by
 have hn:=x.fresh hp
 by_cases hb:b=a
 ·subst hb;rw[z03] at e;cases e;exact new
 ·rw[z05 hb] at e
  exact (x b u e).stay (fun c v _ q=>k c v q) (fun c q=>by rw[z05 (z0a q hn)];exact q) fun c xs q=>by rw[z05 (z0a q hn)];exact q
end
def Rd (H:Hp) (a:Addr) (u:HO):Prop:=H a=some u\/∃o,H a=some (.frz o u)
theorem Rd.ok {P:y0q} {w:World} {H:Hp} {h:Heap} {a:Addr} {u:HO} (r:Rd H a u) (x:HOk P w H h):z2n P w H h a u:=by
 rcases r with r|⟨o,r⟩
 ·exact x a u r
 ·obtain⟨_,q⟩:=x a _ r
  exact q
def Mut:Option HO->Prop
 | some (.lst _)=>True
 | some (.dK _)=>True
 | some (.dT _)=>True
 | some (.set _ _)=>True
 | some (.ins _ _ _)=>True
 | some (.ext _)=>True
 | _=>False
section
variable {P:y0q} {w:World} {H:Hp} {h h':Heap} {x e:Addr} {o':HO}
theorem HOk.write (ok:HOk P w H h) (mu:Mut (H x)) (he:e=x\/H e=some (.own x)) (k:∀b u,b≠e->h.get? b=some u->h'.get? b=some u) (heo:∃u,h'.get? e=some u)
  (new:z2n P w (upd H x o') h' x o'):HOk P w (upd H x o') h':=fun b u q=>by
 have nown:∀c y,H c=some (.own y)->c≠x:=fun c y r z=>by subst z;rw[r] at mu;exact mu
 have ntup:∀c xs,H c=some (.tup xs)->c≠x:=fun c xs r z=>by subst z;rw[r] at mu;exact mu
 by_cases hb:b=x
 ·subst hb;rw[z03] at q;cases q;exact new
 ·rw[z05 hb] at q
  by_cases hbe:b=e
  ·have q':H b=some (.own x):=by
    rcases he with z|z
    ·exact absurd (hbe.trans z) hb
    ·rw[hbe];exact z
   rw[q] at q';cases q'
   obtain⟨v,hv⟩:=heo
   exact⟨v,by rw[hbe];exact hv⟩
  ·refine (ok b u q).stay (fun c v hc r=>k c v ?_ r) (fun c r=>by rw[z05 (nown c b r)];exact r) fun c xs r=>by rw[z05 (ntup c xs r)];exact r
   rcases hc with rfl|hc
   ·exact hbe
   ·rintro rfl
    rcases he with z|z
    ·exact nown c b hc z
    ·rw[hc] at z;cases z;exact hb rfl
end
structure Un (fs ex:List Addr) (H H':Hp) (h h':Heap):Prop where
 keep:∀b o,h.get? b=some o->H b=none->b∉fs->b∉ex->h'.get? b=some o
 slot:∀b o,h.get? b=some o->H b=none->b∈fs->b∉ex->∃sl,h'.get? b=some { o with slots:=sl }
 free:∀b o,h.get? b=some o->H b=none->b∉ex->H' b=none
 there:∀b o,h.get? b=some o->b∉ex->∃o',h'.get? b=some o'
 tups:∀b xs,H b=some (.tup xs)->H' b=some (.tup xs)
 frzs:∀b o u,H b=some (.frz o u)->H' b=some (.frz o u)
 tbls:∀b ps,H b=some (.tbl ps)->∃more,H' b=some (.tbl (ps++more))
section
variable {fs fs' ex ex':List Addr} {H H1 H2:Hp} {h h1 h2 h':Heap} {a x e:Addr} {o:HO}
theorem Un.any (u:Un fs ex H H1 h h1) {b:Addr} {ob:Obj} (q:h.get? b=some ob) (n:H b=none) (hx:b∉ex):∃sl,h1.get? b=some { ob with slots:=sl }:=by
 by_cases hb:b∈fs
 ·exact u.slot b ob q n hb hx
 ·exact⟨ob.slots,u.keep b ob q n hb hx⟩
theorem Un.kept (k:∀b u,h.get? b=some u->h'.get? b=some u):Un fs ex H H h h' :=
 ⟨fun b ob q _ _ _=>k b ob q,fun b ob q _ _ _=>⟨ob.slots,k b ob q⟩,fun _ _ _ n _=>n,fun b ob q _=>⟨ob,k b ob q⟩,fun _ _ q=>q,fun _ _ _ q=>q,fun _ ps q=>⟨#[],by rw[q];simp⟩⟩
theorem Un.refl:Un fs ex H H h h:=Un.kept fun _ _ q=>q
theorem Un.laid (k:∀b u,h.get? b=some u->h'.get? b=some u) (hp:h.objs.size<=a) (hn:H a=none):Un fs ex H (upd H a o) h h' where
 keep:=fun b u q _ _ _=>k b u q
 slot:=fun b u q _ _ _=>⟨u.slots,k b u q⟩
 free:=fun b u q n _=>by rw[z05 (y0y (y0x (y0c q) hp))];exact n
 there:=fun b u q _=>⟨u,k b u q⟩
 tups:=fun b xs q=>by rw[z05 (z0a q hn)];exact q
 frzs:=fun b u xs q=>by rw[z05 (z0a q hn)];exact q
 tbls:=fun b ps q=>⟨#[],by rw[z05 (z0a q hn),q];simp⟩
theorem Un.write (mu:Mut (H x)) (he:e=x\/H e=some (.own x)) (k:∀b u,b≠e->h.get? b=some u->h'.get? b=some u) (heo:∃u,h'.get? e=some u):Un fs ex H (upd H x o) h h':=by
 have hx:∀b,H b=none->b≠x:=fun b n z=>by subst z;rw[n] at mu;exact mu
 have hb:∀b,H b=none->b≠e:=fun b n z=>by
  subst z
  rcases he with r|r
  ·exact hx b n r
  ·rw[n] at r;cases r
 have hm:∀b u,H b=some u->¬Mut (some u)->b≠x:=fun b u q nm z=>by subst z;rw[q] at mu;exact nm mu
 refine⟨fun b u q n _ _=>k b u (hb b n) q,fun b u q n _ _=>⟨u.slots,k b u (hb b n) q⟩,fun b u q n _=>by rw[z05 (hx b n)];exact n,fun b u q _=>?_,
  fun b xs q=>by rw[z05 (hm b _ q fun z=>z)];exact q,fun b u xs q=>by rw[z05 (hm b _ q fun z=>z)];exact q,fun b ps q=>⟨#[],by rw[z05 (hm b _ q fun z=>z),q];simp⟩⟩
 by_cases hbe:b=e
 ·subst hbe;exact heo
 ·exact⟨u,k b u hbe q⟩
end
def trk (h:Heap) (H:Hp):List Addr:=(List.range h.objs.size).filter fun a=>(H a).isSome
def hidT (h:Heap) (H:Hp):Heap:=PySem.W.hideAll h (trk h H)
theorem zhf (h:Heap) (H:Hp):(hidT h H).objs.size=h.objs.size:=PySem.W.hideAll_size _ _
theorem zk0 {h:Heap} {H:Hp} {b:Addr} {o:Obj} (e:h.get? b=some o) (n:H b=none):(hidT h H).get? b=some o :=
 PySem.W.hideAll_get _ e fun hm=>by
  have q:(H b).isSome=true:=(List.mem_filter.mp hm).2
  rw[n] at q;simp at q
theorem zmo {h:Heap} {H:Hp} {b:Addr} {o:Obj} (e:(hidT h H).get? b=some o):h.get? b=some o/\H b=none:=by
 have e':h.get? b=some o:=PySem.W.of_hideAll (trk h H) e
 refine⟨e',?_⟩
 cases q:H b with
 | none=>rfl
 | some x =>
  have hm:b∈trk h H:=List.mem_filter.mpr ⟨List.mem_range.mpr (y0c e'),by simp[q]⟩
  have z:(hidT h H).get? b=none:=PySem.W.hideAll_none (trk h H) hm
  rw[z] at e;cases e
def zne (g h:Heap) (L:Addr):List (Addr×Obj):=(List.range h.objs.size).filterMap fun a=>if a=L\/(g.get? a).isSome=true then none else (h.get? a).map fun o=>(a,o)
def rest (g h:Heap) (L d:Addr):List (Addr×Obj):=(zne g h L).filter fun p=>decide (p.1≠d)
end L2
namespace L2
open PySem PySem.Spec PyProof.Rows
structure Mod (K:y00) (mg:Str->Option Value) (base:Heap):Prop where
 kin:K.In base
 glob:base.Ns y0n mg
 blt:∃mb,base.Ns builtinsNs mb/\∀x:Str,x≠"__name__"->mb x=bootBuiltins x
 nolimit:base.NoLimit
structure Cx where
 prog:y0q
 w:World
 K:y00
 mg:Str->Option Value
 base:Heap
 A:Around
 N:List Str
 s₀:y04
 H₀:Hp
 env:Env
 outer:List Env
 stack:List Env
 ex:List Addr
 fn:Str->Bool
 calm:Bool
 pn:List (Addr×Obj)
 xe:Value->y04->Prop
def frs (l:List Env):List Addr:=l.filterMap (·.frame)
abbrev Cx.fs (X:Cx):List Addr:=frs X.outer
def Vis (sc:Scope) (x:Str):Prop:=sc.names.lookup x=some .local\/sc.names.lookup x=some .cell\/sc.names.lookup x=some .free
def Loc (sc:Scope) (x:Str):Prop:=sc.names.lookup x=some .local\/sc.names.lookup x=some .cell
noncomputable def Look (env:Env) (h:Heap) (m:Str->Option Value) (x:Str) (u:Value):Prop :=
 (env.kindOf x=some .local/\m x=some u)\/((env.kindOf x=some .cell\/env.kindOf x=some .free)/\∃c,env.cells.lookup x=some c/\h.IsCell c (some u))
structure Cx.Ok (X:Cx):Prop where
 mod:Mod X.K X.mg X.base
 kind:X.env.scope.kind=.function
 glob:X.env.globals=y0n
 blt:X.env.builtins=builtinsNs
 above:X.s₀.heap.objs.size<=X.env.locals
 inj:∀x y c,X.env.cells.lookup x=some c->X.env.cells.lookup y=some c->x=y
 has:∀x,(X.env.kindOf x=some .cell\/X.env.kindOf x=some .free)->∃c,X.env.cells.lookup x=some c
 cab:∀x c,X.fn x=true->X.env.cells.lookup x=some c->X.s₀.heap.objs.size<=c
 hd:X.calm=true->X.A.handled=none
 frames:X.A.frames=some X.stack
 stk:X.stack=X.outer\/(X.stack=X.env::X.outer/\X.env.frame=some X.env.locals)
 exf:∀b∈X.ex,b≠X.env.locals/\∀x c,X.env.cells.lookup x=some c->c≠b
 bs:∀b o,X.base.get? b=some o->X.s₀.heap.get? b=some o/\X.H₀ b=none
 bsz:X.base.objs.size<=X.s₀.heap.objs.size
 noex:∀b o,X.base.get? b=some o->b∉X.ex
 exfs:∀b∈X.ex,b∉X.fs
 funs:X.s₀.heap.FunFrames X.base X.outer
 frf:∀b∈X.fs,X.H₀ b=none
structure Inv (X:Cx) (pins:List (Addr×Obj)) (σ:List (Option V)) (H:Hp) (s:y04):Prop where
 ok:X.Ok
 os:s.os=X.s₀.os
 bare:AllBare s.gens
 base:Un X.fs X.ex X.H₀ H X.s₀.heap s.heap
 loc:∃m,s.heap.Ns X.env.locals m/\∀(i:Nat) (x:Str) (v:V),X.N[i]?=some x->σ[i]?=some (some v)->Vis X.env.scope x->∃u,RelV v u/\Look X.env s.heap m x u
 cell:∀x c,X.env.cells.lookup x=some c->∃v,s.heap.IsCell c v
 free:H X.env.locals=none
 freeC:∀x c,X.env.cells.lookup x=some c->H c=none
 pin:∀p∈X.pn++pins,s.heap.get? p.1=some p.2/\H p.1=none/\p.1≠X.env.locals/\p.1∉X.fs/\∀v,p.2.data≠.cell v
 hok:HOk X.prog X.w H s.heap
 len:σ.length=X.N.length
section
variable {X:Cx} {pins:List (Addr×Obj)} {σ:List (Option V)} {H H':Hp} {s:y04} {h':Heap}
theorem Cx.Ok.nofr (ok:X.Ok) {b:Addr} {o:Obj} (e:X.base.get? b=some o):b∉X.fs:=fun hb=>by
 have:=(ok.funs.mem hb).1
 rw[e] at this;cases this
theorem Inv.bs (I:Inv X pins σ H s):∀b o,X.base.get? b=some o->s.heap.get? b=some o/\H b=none:=fun b o e =>
 ⟨I.base.keep b o (I.ok.bs b o e).1 (I.ok.bs b o e).2 (I.ok.nofr e) (I.ok.noex b o e),I.base.free b o (I.ok.bs b o e).1 (I.ok.bs b o e).2 (I.ok.noex b o e)⟩
theorem Inv.bk (I:Inv X pins σ H s):∀b o,X.base.get? b=some o->s.heap.get? b=some o:=fun b o e=>(I.bs b o e).1
theorem Inv.mod (I:Inv X pins σ H s):Mod X.K X.mg X.base:=I.ok.mod
theorem Inv.kIn (I:Inv X pins σ H s):X.K.In s.heap:=I.ok.mod.kin.keeps I.bk
theorem Inv.lt (I:Inv X pins σ H s):X.env.locals<s.heap.objs.size:=let ⟨_,hn,_⟩:=I.loc;hn.lt
theorem Inv.sz (I:Inv X pins σ H s):X.s₀.heap.objs.size<=s.heap.objs.size:=y1p I.ok.above (Nat.le_of_lt I.lt)
theorem Inv.nofs (I:Inv X pins σ H s) {a:Addr} (h:s.heap.objs.size<=a):a∉X.fs:=fun hb=>by
 obtain⟨_,o,ho,_⟩:=I.ok.funs.mem hb
 exact absurd (y0x (y0c ho) (y1p I.sz h)) (Nat.lt_irrefl _)
theorem Inv.cne (I:Inv X pins σ H s):∀x c,X.env.cells.lookup x=some c->c≠X.env.locals:=fun x c e z=>by
 obtain⟨v,o,ho,hd⟩:=I.cell x c e
 obtain⟨m,⟨o',es,ep,ho',hd',_⟩,_⟩:=I.loc
 rw[z,ho'] at ho;cases ho;rw[hd'] at hd;cases hd
theorem Inv.funs (I:Inv X pins σ H s):s.heap.FunFrames X.base X.outer:=by
 have all:∀(l:List Env),(∀b∈frs l,b∈X.fs)->X.s₀.heap.FunFrames X.base l->s.heap.FunFrames X.base l:=by
  intro l
  induction l with
  | nil=>intro _ _;trivial
  | cons env r ih =>
   intro hs hl
   obtain⟨hk,⟨L,o,hf,hn,ho,hd⟩,hr⟩:=hl
   have hL:L∈X.fs:=hs L (by unfold frs;rw[List.filterMap_cons,hf];exact y0e)
   obtain⟨sl,e⟩:=I.base.slot L o ho (I.ok.frf L hL) hL fun z=>I.ok.exfs L z hL
   exact⟨hk,⟨L,_,hf,hn,e,hd⟩,ih (fun b hb=>hs b (by unfold frs;rw[List.filterMap_cons,hf];exact y05 _ hb)) hr⟩
 exact all X.outer (fun _ hb=>hb) I.ok.funs
theorem Inv.stack (I:Inv X pins σ H s):s.heap.FunFrames X.base X.stack:=by
 rcases I.ok.stk with e|⟨e,hf⟩
 ·rw[e];exact I.funs
 ·rw[e]
  obtain⟨m,hn,_⟩:=I.loc
  refine .cons (by rw[I.ok.kind];decide) hf hn ?_ I.funs
  exact Heap.get?_none_of_le (y1p I.ok.bsz I.ok.above)
theorem Inv.stkSub (I:Inv X pins σ H s):∀b∈frs X.stack,b∈X.env.locals::X.fs:=fun b hb=>by
 rcases I.ok.stk with e|⟨e,hf⟩
 ·rw[e] at hb;exact y05 _ hb
 ·rw[e] at hb
  unfold frs at hb
  rw[List.filterMap_cons,hf] at hb
  exact hb
theorem Inv.stkFree (I:Inv X pins σ H s):∀b∈frs X.stack,H b=none:=fun b hb=>by
 rcases y09.mp (I.stkSub b hb) with e|hb
 ·rw[e];exact I.free
 ·obtain⟨_,o,ho,_⟩:=I.ok.funs.mem hb
  exact I.base.free b o ho (I.ok.frf b hb) fun z=>I.ok.exfs b z hb
theorem Inv.step {g':Array GenState} {t':Nat} {d':Drawn} {ch:List Addr} (I:Inv X pins σ H s)
  (hch:∀b∈ch,(b∈X.ex\/X.s₀.heap.objs.size<=b)/\b≠X.env.locals/\(∀x c,X.env.cells.lookup x=some c->c≠b)/\∀p∈X.pn++pins,p.1≠b)
  (keep:∀b o,b≠X.env.locals->b∉X.fs->b∉ch->s.heap.get? b=some o->H b=none->h'.get? b=some o)
  (slot:∀b o,b≠X.env.locals->b∈X.fs->b∉ch->s.heap.get? b=some o->H b=none->∃sl,h'.get? b=some { o with slots:=sl }) (free:∀b o,b∉ch->s.heap.get? b=some o->H b=none->H' b=none)
  (there:∀b o,b∉ch->s.heap.get? b=some o->∃o',h'.get? b=some o')
  (tups:∀b xs,H b=some (.tup xs)->H' b=some (.tup xs)) (frzs:∀b o u,H b=some (.frz o u)->H' b=some (.frz o u)) (tbls:∀b ps,H b=some (.tbl ps)->∃more,H' b=some (.tbl (ps++more)))
  (ns:∀m,s.heap.Ns X.env.locals m->h'.Ns X.env.locals m) (hok:HOk X.prog X.w H' h') (hg:AllBare g') :
  Inv X pins σ H' { s with heap:=h',gens:=g',drawn:=d',toks:=t' }:=by
 have neL:∀b o,X.s₀.heap.get? b=some o->b≠X.env.locals:=fun b o e=>y0y (y0x (y0c e) I.ok.above)
 have neC:∀b o,X.s₀.heap.get? b=some o->b∉X.ex->b∉ch:=fun b o e hx hb=>by
  rcases (hch b hb).1 with z|z
  ·exact hx z
  ·exact absurd (y0x (y0c e) z) (Nat.lt_irrefl _)
 have cellK:∀x c,X.env.cells.lookup x=some c->∀v,s.heap.IsCell c v->h'.IsCell c v:=fun x c e v ⟨o,ho,hd⟩=>by
  have nch:c∉ch:=fun z=>(hch c z).2.2.1 x c e rfl
  by_cases hc:c∈X.fs
  ·obtain⟨sl,q⟩:=slot c o (I.cne x c e) hc nch ho (I.freeC x c e)
   exact⟨_,q,hd⟩
  ·exact⟨o,keep c o (I.cne x c e) hc nch ho (I.freeC x c e),hd⟩
 refine⟨I.ok,I.os,hg,⟨fun b o e n hb hx=>?_,fun b o e n hb hx=>?_,fun b o e n hx=>?_,fun b o e hx=>?_,fun b xs e=>tups b xs (I.base.tups b xs e),fun b o xs e=>frzs b o xs (I.base.frzs b o xs e),fun b ps e=>?_⟩,?_,fun x c e=>?_,?_,fun x c e=>?_,fun p hp=>?_,hok,I.len⟩
 ·exact keep b o (neL b o e) hb (neC b o e hx) (I.base.keep b o e n hb hx) (I.base.free b o e n hx)
 ·obtain⟨sl,e1⟩:=I.base.slot b o e n hb hx
  obtain⟨sl',e2⟩:=slot b _ (neL b o e) hb (neC b o e hx) e1 (I.base.free b o e n hx)
  exact⟨sl',e2⟩
 ·obtain⟨o',e1⟩:=I.base.there b o e hx
  exact free b o' (neC b o e hx) e1 (I.base.free b o e n hx)
 ·obtain⟨o',e1⟩:=I.base.there b o e hx
  exact there b o' (neC b o e hx) e1
 ·obtain⟨m1,e1⟩:=I.base.tbls b ps e
  obtain⟨m2,e2⟩:=tbls b _ e1
  exact⟨m1++m2,by rw[e2,Array.append_assoc]⟩
 ·obtain⟨m,hn,hl⟩:=I.loc
  refine⟨m,ns m hn,fun i x v e1 e2 e3=>?_⟩
  obtain⟨u,r,l⟩:=hl i x v e1 e2 e3
  refine⟨u,r,?_⟩
  rcases l with l|⟨k,c,e,z⟩
  ·exact .inl l
  ·exact .inr ⟨k,c,e,cellK x c e _ z⟩
 ·obtain⟨v,z⟩:=I.cell x c e
  exact⟨v,cellK x c e v z⟩
 ·obtain⟨m,⟨o,_,_,ho,_⟩,_⟩:=I.loc
  exact free _ o (fun z=>(hch _ z).2.1 rfl) ho I.free
 ·obtain⟨v,o,ho,hd⟩:=I.cell x c e
  exact free c o (fun z=>(hch c z).2.2.1 x c e rfl) ho (I.freeC x c e)
 ·obtain⟨e,n,ne,nf,d⟩:=I.pin p hp
  have nch:p.1∉ch:=fun z=>(hch p.1 z).2.2.2 p hp rfl
  exact⟨keep p.1 p.2 ne nf nch e n,free p.1 p.2 nch e n,ne,nf,d⟩
theorem Inv.un {t':Nat} (I:Inv X pins σ H s) (u:Un X.fs [] H H' s.heap h') (hok:HOk X.prog X.w H' h'):Inv X pins σ H' { s with heap:=h',toks:=t' }:=by
 obtain⟨m,⟨o,es,ep,ho,r⟩,_⟩:=id I.loc
 obtain⟨sl,hL⟩:=u.any ho I.free (by simp)
 exact I.step (g':=s.gens) (d':=s.drawn) (ch:=[]) (fun _ z=>nomatch z) (fun b o _ hb _ e n=>u.keep b o e n hb (by simp)) (fun b o _ hb _ e n=>u.slot b o e n hb (by simp)) (fun b o _ e n=>u.free b o e n (by simp)) (fun b o _ e=>u.there b o e (by simp)) u.tups u.frzs u.tbls (fun m' hm=>by
  obtain⟨o',es',ep',ho',r'⟩:=hm
  rw[ho] at ho';cases ho'
  exact⟨_,es',ep',hL,r'⟩) hok I.bare
theorem Inv.call {g':Array GenState} {t':Nat} {d':Drawn} {ch:List Addr} (I:Inv X pins σ H s) (u:Un (frs X.stack) ch H H' s.heap h') (hok:HOk X.prog X.w H' h') (hg:AllBare g')
  (hch:∀b∈ch,(b∈X.ex\/X.s₀.heap.objs.size<=b)/\b≠X.env.locals/\(∀x c,X.env.cells.lookup x=some c->c≠b)/\∀p∈X.pn++pins,p.1≠b) :
  Inv X pins σ H' { s with heap:=h',gens:=g',drawn:=d',toks:=t' }:=by
 obtain⟨m,⟨o,es,ep,ho,r⟩,_⟩:=id I.loc
 obtain⟨sl,hL⟩:=u.any ho I.free fun z=>(hch _ z).2.1 rfl
 exact I.step (ch:=ch) hch (fun b o hL hb hc e n=>u.keep b o e n (fun z=>(y09.mp (I.stkSub b z)).elim hL hb) hc) (fun b o _ _ hc e n=>u.any e n hc) (fun b o hc e n=>u.free b o e n hc) (fun b o hc e=>u.there b o e hc) u.tups u.frzs u.tbls (fun m' hm=>by
  obtain⟨o',es',ep',ho',r'⟩:=hm
  rw[ho] at ho';cases ho'
  exact⟨_,es',ep',hL,r'⟩) hok hg
theorem Inv.turned {t':Nat} {it:Addr} (I:Inv X pins σ H s) (k:∀b o,b≠it->s.heap.get? b=some o->h'.get? b=some o) (hn:H it=none) (hL:it≠X.env.locals)
  (h1:it∈X.ex\/X.s₀.heap.objs.size<=it) (h2:∀x c,X.env.cells.lookup x=some c->c≠it) (h3:∀p∈X.pn++pins,p.1≠it):Inv X pins σ H { s with heap:=h',toks:=t' }:=by
 have nit:∀b u,H b=some u->b≠it:=fun b u e z=>by rw[z,hn] at e;cases e
 refine I.step (g':=s.gens) (d':=s.drawn) (ch:=[it]) (fun b hb=>?_) (fun b o _ _ hc e _=>k b o (fun z=>hc (by simp[z])) e) (fun b o _ _ hc e _=>⟨o.slots,k b o (fun z=>hc (by simp[z])) e⟩) (fun _ _ _ _ n=>n)
  (fun b o hc e=>⟨o,k b o (fun z=>hc (by simp[z])) e⟩) (fun _ _ e=>e) (fun _ _ _ e=>e) (fun b ps e=>⟨#[],by rw[e];simp⟩) (fun m hm=>?_) (fun b u e=>?_) I.bare
 ·have e:b=it:=by simpa using hb
  subst e
  exact⟨h1,hL,h2,h3⟩
 ·obtain⟨o,es,ep,ho,r⟩:=hm
  exact⟨o,es,ep,k _ o (Ne.symm hL) ho,r⟩
 ·refine (I.hok b u e).stay (fun c v hc q=>k c v ?_ q) (fun _ q=>q) fun _ _ q=>q
  rcases hc with z|z
  ·rw[z];exact nit b u e
  ·exact nit c _ z
theorem Inv.tok (I:Inv X pins σ H s) (t:Nat):Inv X pins σ H { s with toks:=t }:=I.un (h':=s.heap) (t':=t) Un.refl I.hok
theorem Inv.kept {t':Nat} (I:Inv X pins σ H s) (k:∀b u,s.heap.get? b=some u->h'.get? b=some u):Inv X pins σ H { s with heap:=h',toks:=t' }:=I.un (Un.kept k) (I.hok.kept k)
theorem Inv.laid {a:Addr} {o:HO} {t':Nat} (I:Inv X pins σ H s) (k:∀b u,s.heap.get? b=some u->h'.get? b=some u) (hp:s.heap.objs.size<=a) (new:z2n X.prog X.w (upd H a o) h' a o) :
  Inv X pins σ (upd H a o) { s with heap:=h',toks:=t' }:=I.un (Un.laid k hp (I.hok.fresh hp)) (I.hok.laid k hp new)
theorem Inv.write {x e:Addr} {o:HO} {t':Nat} (I:Inv X pins σ H s) (mu:Mut (H x)) (he:e=x\/H e=some (.own x)) (k:∀b u,b≠e->s.heap.get? b=some u->h'.get? b=some u) (heo:∃u,h'.get? e=some u)
  (new:z2n X.prog X.w (upd H x o) h' x o):Inv X pins σ (upd H x o) { s with heap:=h',toks:=t' }:=I.un (Un.write mu he k heo) (I.hok.write mu he k heo new)
theorem Inv.pins_of {pins':List (Addr×Obj)} (I:Inv X pins σ H s) (h:∀p∈pins',s.heap.get? p.1=some p.2/\H p.1=none/\p.1≠X.env.locals/\p.1∉X.fs/\∀v,p.2.data≠.cell v):Inv X pins' σ H s :=
 ⟨I.ok,I.os,I.bare,I.base,I.loc,I.cell,I.free,I.freeC,fun p hp=>(y10.mp hp).elim (fun z=>I.pin p (List.mem_append_left _ z)) (h p),I.hok,I.len⟩
theorem zde {N:List Str} (hN:N.Nodup) {i j:Nat} {x:Str} (a:N[i]?=some x) (b:N[j]?=some x):i=j:=by
 obtain⟨h1,e1⟩:=y0k.mp a
 obtain⟨h2,e2⟩:=y0k.mp b
 exact (List.getElem_inj hN).mp (e1.trans e2.symm)
theorem za3 {M:Model} {A:Around} {E:Value->y04->Prop} {i:Nat} {x:Str} {v:V} {u:Value} {Q:Unit->y04->Prop} (I:Inv X pins σ H s) (hN:X.N.Nodup) (hi:X.N[i]?=some x) (hx:Loc X.env.scope x) (r:RelV v u)
  (h:∀s',Inv X pins (σ.set i (some v)) H s'->(∃a,Heap.SameBut a s.heap s'.heap/\(a=X.env.locals\/X.env.cells.lookup x=some a))->Q () s') (hf:X.fn x=true\/X.env.scope.names.lookup x=some .local:=by first|exact .inl rfl|exact .inr rfl|assumption):y0u M A (storeName X.env x u) Q E s:=by
 obtain⟨m,hn,hl⟩:=id I.loc
 have hcls:(X.env.scope.kind == .class || (X.env.scope.kind == .module && X.env.locals != X.env.globals))=false:=by rw[I.ok.kind];rfl
 have hiσ:i<σ.length:=by rw[I.len];exact (y0k.mp hi).1
 have cne:=I.cne
 have tracked:∀{a:Addr} {h':Heap},(∃o,s.heap.get? a=some o/\H a=none)->Heap.SameBut a s.heap h'->HOk X.prog X.w H h':=fun {a h'} ha hs b ob e=>by
  obtain⟨_,_,hfree⟩:=ha
  refine (I.hok b ob e).stay (fun c w' hc q=>(hs.2 c ?_).trans q) (fun _ q=>q) fun _ _ q=>q
  rintro rfl
  rcases hc with rfl|hc
  ·rw[hfree] at e;cases e
  ·rw[hfree] at hc;cases hc
 rcases hx with hk|hk
 ·refine wpAny_storeName_local hk hn (fun h' hn' hs=>?_) hcls
  obtain⟨oL,_,_,hoL,_⟩:=id hn
  refine h _ ⟨I.ok,I.os,I.bare,⟨fun b o e n hb hx=>?_,fun b o e n hb hx=>?_,I.base.free,fun b o e hx=>?_,I.base.tups,I.base.frzs,I.base.tbls⟩,⟨_,hn',fun j y v' e1 e2 e3=>?_⟩,fun y c e=>?_,I.free,I.freeC,fun p hp=>?_,tracked ⟨oL,hoL,I.free⟩ hs,by simpa using I.len⟩ ⟨_,hs,.inl rfl⟩
  ·exact (hs.2 b (y0y (y0x (y0c e) I.ok.above))).trans (I.base.keep b o e n hb hx)
  ·obtain⟨sl,e1⟩:=I.base.slot b o e n hb hx
   exact⟨sl,(hs.2 b (y0y (y0x (y0c e) I.ok.above))).trans e1⟩
  ·obtain⟨o',e1⟩:=I.base.there b o e hx
   exact⟨o',(hs.2 b (y0y (y0x (y0c e) I.ok.above))).trans e1⟩
  ·by_cases hj:j=i
   ·subst hj
    rw[hi] at e1;cases e1
    rw[List.getElem?_set_self hiσ] at e2
    cases e2
    exact⟨u,r,.inl ⟨hk,by simp⟩⟩
   ·rw[List.getElem?_set_ne (Ne.symm hj)] at e2
    obtain⟨u',r',q⟩:=hl j y v' e1 e2 e3
    refine⟨u',r',?_⟩
    rcases q with ⟨k,e⟩|⟨k,c,e,z⟩
    ·refine .inl ⟨k,?_⟩
     have:y≠x:=fun e=>hj (zde hN e1 (e▸hi))
     simp[this,e]
    ·exact .inr ⟨k,c,e,z.sameBut hs (cne y c e)⟩
  ·obtain⟨w',z⟩:=I.cell y c e
   exact⟨w',z.sameBut hs (cne y c e)⟩
  ·obtain⟨e,n,ne,nf,d⟩:=I.pin p hp
   exact⟨(hs.2 p.1 ne).trans e,n,ne,nf,d⟩
 ·have hfn:X.fn x=true:=by
   rcases hf with z|z
   ·exact z
   ·rw[z] at hk;cases hk
  obtain⟨c,hc⟩:=I.ok.has x (.inl hk)
  obtain⟨w',z⟩:=I.cell x c hc
  refine wpAny_storeName_cell I.ok.kind hk hc z (fun h' hc' hs=>?_)
  obtain⟨oc,hoc,hocd⟩:=id z
  refine h { s with heap:=h' } ⟨I.ok,I.os,I.bare,⟨fun b o e n hb hx=>?_,fun b o e n hb hx=>?_,I.base.free,fun b o e hx=>?_,I.base.tups,I.base.frzs,I.base.tbls⟩,⟨m,hn.sameBut hs (Ne.symm (cne x c hc)),fun j y v' e1 e2 e3=>?_⟩,fun y c' e=>?_,I.free,I.freeC,fun p hp=>?_,tracked ⟨oc,hoc,I.freeC x c hc⟩ hs,by simpa using I.len⟩ ⟨c,hs,.inr hc⟩
  ·exact (hs.2 b (y0y (y0x (y0c e) (I.ok.cab x c hfn hc)))).trans (I.base.keep b o e n hb hx)
  ·obtain⟨sl,e1⟩:=I.base.slot b o e n hb hx
   exact⟨sl,(hs.2 b (y0y (y0x (y0c e) (I.ok.cab x c hfn hc)))).trans e1⟩
  ·obtain⟨o',e1⟩:=I.base.there b o e hx
   exact⟨o',(hs.2 b (y0y (y0x (y0c e) (I.ok.cab x c hfn hc)))).trans e1⟩
  ·by_cases hj:j=i
   ·subst hj
    rw[hi] at e1;cases e1
    rw[List.getElem?_set_self hiσ] at e2
    cases e2
    exact⟨u,r,.inr ⟨.inl hk,c,hc,hc'⟩⟩
   ·rw[List.getElem?_set_ne (Ne.symm hj)] at e2
    obtain⟨u',r',q⟩:=hl j y v' e1 e2 e3
    refine⟨u',r',?_⟩
    rcases q with q|⟨k,c',e,z'⟩
    ·exact .inl q
    ·refine .inr ⟨k,c',e,z'.sameBut hs ?_⟩
     rintro rfl
     exact hj (zde hN e1 (I.ok.inj _ _ _ e hc▸hi))
  ·by_cases hcc:c'=c
   ·subst hcc;exact⟨_,hc'⟩
   ·obtain⟨w2,z2⟩:=I.cell y c' e
    exact⟨w2,z2.sameBut hs hcc⟩
  ·obtain⟨e,n,ne,nf,d⟩:=I.pin p hp
   refine⟨(hs.2 p.1 ?_).trans e,n,ne,nf,d⟩
   intro q
   rw[q,hoc] at e
   have q':oc=p.2:=y2c e
   exact d w' (by rw[<- q'];exact hocd)
theorem zcu {M:Model} {A:Around} {E:Value->y04->Prop} {i:Nat} {x:Str} {v:V} {u:Value} {Q:Unit->y04->Prop} (I:Inv X pins σ H s) (hN:X.N.Nodup) (hi:X.N[i]?=some x) (hx:Loc X.env.scope x) (r:RelV v u)
  (h:∀s',Inv X pins (σ.set i (some v)) H s'->Q () s') (hf:X.fn x=true\/X.env.scope.names.lookup x=some .local:=by first|exact .inl rfl|exact .inr rfl|assumption):y0u M A (storeName X.env x u) Q E s :=
 za3 I hN hi hx r (fun s' I' _=>h s' I') hf
end
abbrev XK:=Value->Option Addr->Hp->Prop
abbrev St:=List (Option V)
abbrev VK:=V->Hp->Prop
abbrev TE:=St->Hp->VK->Prop
abbrev TT:=St->Hp->(Bool->Hp->Prop)->Prop
abbrev TA:=St->Hp->(List V->Hp->Prop)->Prop
structure Ends where
 nx:St->Hp->Prop
 rt:VK
 bk:St->Hp->Prop:=fun _ _=>False
 ct:St->Hp->Prop:=fun _ _=>False
abbrev TS:=Ends->St->Hp->Prop
def EP (X:Cx) (pins:List (Addr×Obj)) (σ:St) (Q:VK) (u:Value) (s':y04):Prop:=∃v H',Inv X pins σ H' s'/\RelV v u/\Q v H'
def TP (X:Cx) (pins:List (Addr×Obj)) (σ:St) (Q:Bool->Hp->Prop) (b:Bool) (s':y04):Prop:=∃H',Inv X pins σ H' s'/\Q b H'
def AP (X:Cx) (pins:List (Addr×Obj)) (σ:St) (Q:List V->Hp->Prop) (us:List Value) (s':y04):Prop:=∃vs H',Inv X pins σ H' s'/\Vals vs us/\Q vs H'
noncomputable def SP (X:Cx) (pins:List (Addr×Obj)) (D:Ends) (f:Flow) (s':y04):Prop :=
 match f with
 | .next=>∃σ' H',Inv X pins σ' H' s'/\D.nx σ' H'
 | .brk=>∃σ' H',Inv X pins σ' H' s'/\D.bk σ' H'
 | .cont=>∃σ' H',Inv X pins σ' H' s'/\D.ct σ' H'
 | .ret u=>∃v σ' H',Inv X pins σ' H' s'/\RelV v u/\D.rt v H'
noncomputable def PE (X:Cx) (e:Expr) (t:TE):Prop :=
 ∀(pins:List (Addr×Obj)) (s:y04) (σ:St) (H:Hp) (Q:VK),Inv X pins σ H s->t σ H Q->y0u (y37 X.prog X.w) X.A (eval e X.env) (EP X pins σ Q) X.xe s
noncomputable def PT (X:Cx) (e:Expr) (t:TT):Prop :=
 ∀(pins:List (Addr×Obj)) (s:y04) (σ:St) (H:Hp) (Q:Bool->Hp->Prop),Inv X pins σ H s->t σ H Q->y0u (y37 X.prog X.w) X.A (isTrue e X.env (eval e X.env)) (TP X pins σ Q) X.xe s
noncomputable def PW (X:Cx) (e:Expr) (t:TT):Prop :=
 ∀(whole:Sem Value) (pins:List (Addr×Obj)) (s:y04) (σ:St) (H:Hp) (Q:Bool->Hp->Prop),Inv X pins σ H s->t σ H Q->y0u (y37 X.prog X.w) X.A (isTrue e X.env whole) (TP X pins σ Q) X.xe s
theorem PW.pt {X:Cx} {e:Expr} {t:TT} (h:PW X e t):PT X e t:=h _
noncomputable def PA (X:Cx) (es:List Expr) (t:TA):Prop :=
 ∀(pos:Pos) (pins:List (Addr×Obj)) (s:y04) (σ:St) (H:Hp) (Q:List V->Hp->Prop),Inv X pins σ H s->t σ H Q->y0u (y37 X.prog X.w) X.A (spliced (y2l pos (y0a es X.env))) (AP X pins σ Q) X.xe s
noncomputable def PS (X:Cx) (st:Stmt) (t:TS):Prop :=
 ∀(pins:List (Addr×Obj)) (s:y04) (σ:St) (H:Hp) (D:Ends),Inv X pins σ H s->t D σ H->y0u (y37 X.prog X.w) X.A (exec st X.env) (SP X pins D) X.xe s
noncomputable def PSs (X:Cx) (st:List Stmt) (t:TS):Prop :=
 ∀(pins:List (Addr×Obj)) (s:y04) (σ:St) (H:Hp) (D:Ends),Inv X pins σ H s->t D σ H->y0u (y37 X.prog X.w) X.A (execs st X.env) (SP X pins D) X.xe s
theorem thn {α:Type} {t:Sem α} {Q Q':α->y04->Prop} {M:Model} {A:Around} {E:Value->y04->Prop} {s:y04} (h:y0u M A t Q E s) (hQ:∀a s,Q a s->Q' a s):y0u M A t Q' E s:=y1d h hQ fun _ _ x=>x
end L2
namespace L2
open PySem PySem.Spec PyProof.Rows
section
variable {X:Cx}
def tVar (i:Nat):TE:=fun σ H Q=>∃v,σ[i]?=some (some v)/\Q v H
def tC (v:V):TE:=fun _ H Q=>Q v H
theorem zof {i:Nat} {x:Str} {pos:Pos} (hN:X.N[i]?=some x) (hv:Vis X.env.scope x) (hd:(x == ("__debug__":Str))=false:=by decide) (hcd:(x == ("__classdict__":Str))=false:=by decide):PE X (.Name x pos) (tVar i):=by
 intro pins s σ H Q I h
 obtain⟨v,e,h⟩:=h
 obtain⟨m,hn,hl⟩:=I.loc
 obtain⟨u,r,l⟩:=hl i x v hN e hv
 have fin:EP X pins σ Q u s:=⟨v,H,I,r,h⟩
 rcases l with ⟨hk,hm⟩|⟨hk,c,hc,hcell⟩
 ·exact wpAny_Name (wpAny_loadName_local I.ok.kind hk hn hm fin) hd
 ·rcases hk with hk|hk
  ·exact wpAny_Name (wpAny_loadName_cell I.ok.kind hk hc hcell fin) hd
  ·exact wpAny_Name (wpAny_loadName_free I.ok.kind hk hc hcell fin hcd) hd
theorem zom {i j pos}:PE X (.Constant (.int i) j pos) (tC (.int i)):=fun _ _ _ H _ I h=>wpAny_Constant_int ⟨.int i,H,I.tok _,⟨_,rfl⟩,h⟩
theorem zqi {b j pos}:PE X (.Constant (.bool b) j pos) (tC (.bl b)):=fun _ _ _ H _ I h=>Constant_bool ⟨.bl b,H,I,rfl,h⟩
theorem zok {j pos}:PE X (.Constant .none j pos) (tC .non):=fun _ _ _ H _ I h=>Constant_none ⟨.non,H,I,rfl,h⟩
theorem zoh {x j pos}:PE X (.Constant (.str x) j pos) (tC (.str x)):=fun _ _ _ H _ I h=>Calls.Constant_str ⟨.str x,H,I.tok _,⟨_,rfl⟩,h⟩
def Gl (X:Cx) (x:Str):Prop:=X.env.kindOf x=some .globalImplicit
theorem zgw {E:Value->y04->Prop} {pins:List (Addr×Obj)} {s:y04} {σ:St} {H:Hp} {x:Str} {u:Value} {pos:Pos} {Q:Value->y04->Prop} (I:Inv X pins σ H s) (hg:Gl X x) (hm:X.mg x=some u) (h:Q u s)
  (hd:(x == ("__debug__":Str))=false:=by decide):y0u (y37 X.prog X.w) X.A (eval (.Name x pos) X.env) Q E s :=
 Calls.Name_function_global I.ok.kind hg (Calls.loadGlobal_global (by rw[I.ok.glob];exact I.mod.glob.keeps I.bk) hm h) hd
theorem z8l {E:Value->y04->Prop} {pins:List (Addr×Obj)} {s:y04} {σ:St} {H:Hp} {x:Str} {u:Value} {pos:Pos} {Q:Value->y04->Prop} (I:Inv X pins σ H s) (hg:Gl X x) (hm:X.mg x=none) (hv:bootBuiltins x=some u) (h:Q u s)
  (hn:x≠"__name__":=by decide) (hd:(x == ("__debug__":Str))=false:=by decide):y0u (y37 X.prog X.w) X.A (eval (.Name x pos) X.env) Q E s:=by
 obtain⟨mb,h1,h2⟩:=I.mod.blt
 exact Calls.Name_function_global I.ok.kind hg (Calls.loadGlobal_builtin (by rw[I.ok.glob];exact I.mod.glob.keeps I.bk) hm (by rw[I.ok.blt];exact h1.keeps I.bk) ((h2 x hn).trans hv) h) hd
theorem zmc {x:Str} {v:V} {u:Value} {pos:Pos} (hg:Gl X x) (hm:X.mg x=some u) (r:RelV v u) (hd:(x == ("__debug__":Str))=false:=by decide):PE X (.Name x pos) (tC v) :=
 fun _ _ _ H _ I h=>zgw I hg hm ⟨v,H,I,r,h⟩ hd
variable {a b:Expr} {ta tb:TE} {pos:Pos}
noncomputable def PC (X:Cx) (op:CmpOp) (a b:Expr) (t:TE):Prop :=
 ∀(pins:List (Addr×Obj)) (s:y04) (σ:St) (H:Hp) (Q:VK),Inv X pins σ H s->t σ H Q ->
  y0u (y37 X.prog X.w) X.A (eval a X.env) (fun v s₁=>y0u (y37 X.prog X.w) X.A (eval b X.env) (fun u s₂=>y0u (y37 X.prog X.w) X.A (y2s op v u) (EP X pins σ Q) X.xe s₂) X.xe s₁) X.xe s
theorem zjn (b:Expr) {op:CmpOp} (h:op≠.In) (h2:op≠.NotIn):y2z op b=false:=by
 have e1:(op == CmpOp.In)=false:=by cases op <;> first|rfl|exact absurd rfl h
 have e2:(op == CmpOp.NotIn)=false:=by cases op <;> first|rfl|exact absurd rfl h2
 cases b <;> simp[y2z,e1,e2]
def tIsN (ta:TE):TE:=fun σ H Q=>ta σ H fun x H1=>Q (.bl (decide (x=.non))) H1
def zpv (ta:TE):TE:=fun σ H Q=>ta σ H fun x H1=>Q (.bl (!decide (x=.non))) H1
theorem RelV.none_iff {x:V} {v:Value} (r:RelV x v):(v == Value.none)=decide (x=.non):=by
 cases x with
 | non=>cases r;rfl
 | bl _=>cases r;rfl
 | int _=>obtain⟨t,rfl⟩:=r;rfl
 | str _=>obtain⟨t,rfl⟩:=r;rfl
 | byt _=>obtain⟨t,rfl⟩:=r;rfl
 | flt _=>obtain⟨t,rfl⟩:=r;rfl
 | ref _=>cases r;rfl
 | ty _=>cases r;rfl
theorem zoq {j pos'} (ha:PE X a ta):PC X .Is a (.Constant .none j pos') (tIsN ta):=by
 intro pins s σ H Q I h
 refine thn (ha pins s σ H _ I h) fun v s1 ⟨x,H1,I1,r1,q1⟩=>?_
 exact Constant_none (is_none_gen ⟨.bl _,H1,I1,by rw[r1.none_iff];rfl,q1⟩)
theorem zmg {j pos'} (ha:PE X a ta):PC X .IsNot a (.Constant .none j pos') (zpv ta):=by
 intro pins s σ H Q I h
 refine thn (ha pins s σ H _ I h) fun v s1 ⟨x,H1,I1,r1,q1⟩=>?_
 exact Constant_none (isnot_none_gen ⟨.bl _,H1,I1,by rw[r1.none_iff];rfl,q1⟩)
def tB (t:TE):TT:=fun σ H Q=>t σ H fun x H1=>∃c,x=.bl c/\Q c H1
theorem zga {op:CmpOp} {t:TE} (h:PC X op a b t) (h1:y2z op b=false:=by first|exact zjn _ (by decide) (by decide)|rfl):PT X (.Compare a [op] [b] pos) (tB t):=by
 intro pins s σ H Q I hw
 refine wpAny_isTrue_Compare1 (thn (h pins s σ H _ I hw) fun v s1 h1=>thn h1 fun u s2 h2=>thn h2 fun c s3 ⟨x,H1,I1,r1,q1⟩=>?_) h1
 obtain⟨d,rfl,q⟩:=q1
 cases r1
 exact y30 ⟨H1,I1,q⟩
theorem zob {e:Expr} {t:TE} (h:PE X e t) (he:∀whole,isTrue e X.env whole=(do let v <- whole;standAt e.pos;holding [v] (truthy v)):=by intro _;rfl):PT X e (tB t):=by
 intro pins s σ H Q I hw
 refine isTrue_plain (thn (h pins s σ H _ I hw) fun v s1 ⟨x,H1,I1,r1,q1⟩=>?_) (he _)
 obtain⟨d,rfl,q⟩:=q1
 cases r1
 exact y30 ⟨H1,I1,q⟩
variable {tA tB':TT} {rest:List Expr}
def tAnd (t u:TT):TT:=fun σ H Q=>t σ H fun c H1=>if c=true then u σ H1 Q else Q false H1
def tOr (t u:TT):TT:=fun σ H Q=>t σ H fun c H1=>if c=true then Q true H1 else u σ H1 Q
def tNot (t:TT):TT:=fun σ H Q=>t σ H fun c H1=>Q (!c) H1
theorem zm0 (ha:PT X a tA):PW X (.BoolOp .And [a] pos) tA:=by
 intro wh pins s σ H Q I h
 refine isTrue_and (thn (ha pins s σ H Q I h) fun c s1 e=>?_)
 cases c with
 | true=>exact isTrue_and_nil e
 | false=>exact e
theorem zo8 (ha:PT X a tA):PW X (.BoolOp .Or [a] pos) tA:=by
 intro wh pins s σ H Q I h
 refine isTrue_or (thn (ha pins s σ H Q I h) fun c s1 e=>?_)
 cases c with
 | false=>exact isTrue_or_nil e
 | true=>exact e
theorem zo9 (ha:PT X a tA) (hb:PW X (.BoolOp .And (b::rest) pos) tB'):PW X (.BoolOp .And (a::b::rest) pos) (tAnd tA tB'):=by
 intro wh pins s σ H Q I h
 refine isTrue_and (thn (ha pins s σ H _ I h) fun c s1 ⟨H1,I1,q1⟩=>?_)
 cases c with
 | true=>exact hb wh pins s1 σ H1 Q I1 q1
 | false=>exact⟨H1,I1,q1⟩
theorem zqd (ha:PT X a tA) (hb:PW X (.BoolOp .Or (b::rest) pos) tB'):PW X (.BoolOp .Or (a::b::rest) pos) (tOr tA tB'):=by
 intro wh pins s σ H Q I h
 refine isTrue_or (thn (ha pins s σ H _ I h) fun c s1 ⟨H1,I1,q1⟩=>?_)
 cases c with
 | true=>exact⟨H1,I1,q1⟩
 | false=>exact hb wh pins s1 σ H1 Q I1 q1
theorem zoc (ha:PT X a tA):PT X (.UnaryOp .Not a pos) (tNot tA):=by
 intro pins s σ H Q I h
 exact isTrue_not (ha pins s σ H (fun c H1=>Q (!c) H1) I h)
def zq0 (ta tb:TE):TE:=fun σ H Q=>ta σ H fun x H1=>∃c,x=.bl c/\if c=true then tb σ H1 Q else Q (.bl false) H1
def zpu (ta:TE):TE:=fun σ H Q=>ta σ H fun x H1=>∃c,x=.bl c/\Q (.bl (!c)) H1
theorem zoi {op} {t:TE} (h:PE X a t):PE X (.BoolOp op [a] pos) t:=fun pins s σ H Q I hw=>BoolOp_one (h pins s σ H Q I hw)
theorem zop (ha:PE X a ta) (hb:PE X (.BoolOp .And (b::rest) pos) tb):PE X (.BoolOp .And (a::b::rest) pos) (zq0 ta tb):=by
 intro pins s σ H Q I h
 refine BoolOp_and (thn (ha pins s σ H _ I h) fun v s1 ⟨x,H1,I1,r1,q1⟩=>?_)
 obtain⟨c,rfl,q1⟩:=q1
 cases r1
 refine y30 ?_
 cases c with
 | true=>exact hb pins s1 σ H1 Q I1 q1
 | false=>exact⟨.bl false,H1,I1,rfl,q1⟩
theorem zoj (ha:PE X a ta):PE X (.UnaryOp .Not a pos) (zpu ta):=by
 intro pins s σ H Q I h
 refine UnaryOp_ (thn (ha pins s σ H _ I h) fun v s1 ⟨x,H1,I1,r1,q1⟩=>?_)
 obtain⟨c,rfl,q1⟩:=q1
 cases r1
 exact not_of (y30 ⟨.bl (!c),H1,I1,rfl,q1⟩)
end
end L2
namespace L2
open PySem PySem.Spec PyProof.Rows
noncomputable def SqL (K:y00) (H:Hp) (a:Addr) (xs:List V):Prop :=
 Rd H a (.lst xs) \/
  ∃(o:Obj) (its:Array Value) (n:Nat),K.lookup a=some o/\o.cls=.type "list"/\o.dict=none/\o.data=.seq its n/\its.size<=y0j/\Vals xs its.toList
noncomputable def SqT (K:y00) (H:Hp) (a:Addr) (xs:List V):Prop :=
 Rd H a (.tup xs) \/
  ∃(o:Obj) (its:Array Value) (n:Nat),K.lookup a=some o/\o.cls=.type "tuple"/\o.data=.seq its n/\its.size<=y0j/\Vals xs its.toList
noncomputable def absV:Value->Option V
 | .none=>some .non
 | .bool b=>some (.bl b)
 | .int i _=>some (.int i)
 | .str x _=>some (.str x)
 | .bytes b _=>some (.byt b)
 | .float b _=>some (.flt b)
 | .ref a=>some (.ref a)
 | .type n=>some (.ty n)
 | _=>none
theorem RelV.abs {x:V} {u:Value} (r:RelV x u):absV u=some x:=by
 cases x with
 | non=>cases r;rfl
 | bl _=>cases r;rfl
 | int _=>obtain⟨t,rfl⟩:=r;rfl
 | str _=>obtain⟨t,rfl⟩:=r;rfl
 | byt _=>obtain⟨t,rfl⟩:=r;rfl
 | flt _=>obtain⟨t,rfl⟩:=r;rfl
 | ref _=>cases r;rfl
 | ty _=>cases r;rfl
theorem RelV.inj {x y:V} {u:Value} (r:RelV x u) (q:RelV y u):x=y:=y2c (r.abs.symm.trans q.abs)
theorem Vals.inj:∀{xs ys:List V} {us:List Value},Vals xs us->Vals ys us->xs=ys
 | _,_,_,.nil,.nil=>rfl
 | _,_,_,.cons r t,.cons r' t'=>by rw[r.inj r',Vals.inj t t']
section
variable {X:Cx} {pins:List (Addr×Obj)} {σ:St} {H:Hp} {s:y04} {a:Addr} {xs ys:List V}
theorem SqL.of {K:y00} (h:H a=some (.lst xs)):SqL K H a xs:=.inl (.inl h)
theorem SqT.of {K:y00} (h:H a=some (.tup xs)):SqT K H a xs:=.inl (.inl h)
theorem Inv.list (I:Inv X pins σ H s) (h:SqL X.K H a xs):∃its:List Value,Vals xs its/\PlainL s.heap a its.toArray/\xs.length<=y0j:=by
 rcases h with h|⟨o,its,n,hk,hc,hd,hs,hz,r⟩
 ·obtain⟨z,its,n,r,e⟩:=h.ok I.hok
  exact⟨its,r,⟨_,n,e,rfl,rfl,rfl⟩,z⟩
 ·refine⟨its.toList,r,⟨o,n,I.kIn a o hk,hc,hd,by simpa using hs⟩,?_⟩
  have e:=r.length
  simp only[y1z] at e
  omega
theorem Inv.tuple (I:Inv X pins σ H s) (h:SqT X.K H a xs):∃its:List Value,Vals xs its/\IsTup s.heap a its.toArray/\xs.length<=y0j:=by
 rcases h with h|⟨o,its,n,hk,hc,hs,hz,r⟩
 ·obtain⟨z,its,r,p⟩:=h.ok I.hok
  exact⟨its,r,p,z⟩
 ·refine⟨its.toList,r,⟨o,I.kIn a o hk,hc,n,by simpa using hs⟩,?_⟩
  have e:=r.length
  simp only[y1z] at e
  omega
theorem Inv.list_inj (I:Inv X pins σ H s) (h:SqL X.K H a xs) (h':SqL X.K H a ys):xs=ys:=by
 obtain⟨its,r,⟨o,n,e,_,_,d⟩,_⟩:=I.list h
 obtain⟨its',r',⟨o',n',e',_,_,d'⟩,_⟩:=I.list h'
 rw[e] at e';cases e'
 rw[d] at d'
 injection d' with d1 _
 have:its=its':=by simpa using congrArg Array.toList d1
 subst this
 exact r.inj r'
theorem Inv.tuple_inj (I:Inv X pins σ H s) (h:SqT X.K H a xs) (h':SqT X.K H a ys):xs=ys:=by
 obtain⟨its,r,⟨o,e,_,n,d⟩,_⟩:=I.tuple h
 obtain⟨its',r',⟨o',e',_,n',d'⟩,_⟩:=I.tuple h'
 rw[e] at e';cases e'
 rw[d] at d'
 injection d' with d1 _
 have:its=its':=by simpa using congrArg Array.toList d1
 subst this
 exact r.inj r'
end
abbrev Cx.wish (X:Cx) (E:Value->y04->Prop):Cx:={ X with xe:=E }
abbrev Cx.nox (X:Cx):Cx:=X.wish fun _ _=>False
theorem Cx.Ok.wish {X:Cx} (ok:X.Ok) (E:Value->y04->Prop):(X.wish E).Ok :=
 ⟨ok.mod,ok.kind,ok.glob,ok.blt,ok.above,ok.inj,ok.has,ok.cab,ok.hd,ok.frames,ok.stk,ok.exf,ok.bs,ok.bsz,ok.noex,ok.exfs,ok.funs,ok.frf⟩
theorem Cx.Ok.unwish {X:Cx} {E:Value->y04->Prop} (ok:(X.wish E).Ok):X.Ok :=
 ⟨ok.mod,ok.kind,ok.glob,ok.blt,ok.above,ok.inj,ok.has,ok.cab,ok.hd,ok.frames,ok.stk,ok.exf,ok.bs,ok.bsz,ok.noex,ok.exfs,ok.funs,ok.frf⟩
section
variable {X:Cx} {pins:List (Addr×Obj)} {σ:St} {H:Hp} {s:y04} {E:Value->y04->Prop}
theorem Inv.wish (I:Inv X pins σ H s) (E:Value->y04->Prop):Inv (X.wish E) pins σ H s:=⟨I.ok.wish E,I.os,I.bare,I.base,I.loc,I.cell,I.free,I.freeC,I.pin,I.hok,I.len⟩
theorem Inv.unwish (I:Inv (X.wish E) pins σ H s):Inv X pins σ H s:=⟨I.ok.unwish,I.os,I.bare,I.base,I.loc,I.cell,I.free,I.freeC,I.pin,I.hok,I.len⟩
theorem SP.unwish {D:Ends} {f:Flow} {s':y04} (h:SP (X.wish E) pins D f s'):SP X pins D f s':=by
 cases f with
 | next=>obtain⟨σ',H',I,q⟩:=h;exact⟨σ',H',I.unwish,q⟩
 | brk=>obtain⟨σ',H',I,q⟩:=h;exact⟨σ',H',I.unwish,q⟩
 | cont=>obtain⟨σ',H',I,q⟩:=h;exact⟨σ',H',I.unwish,q⟩
 | ret u=>obtain⟨v,σ',H',I,r,q⟩:=h;exact⟨v,σ',H',I.unwish,r,q⟩
theorem PSs.nox {st:List Stmt} {t:TS} (h:PSs X.nox st t):PSs X st t:=fun pins s σ H D I hw =>
 y1d (h pins s σ H D (I.wish _) hw) (fun _ _ q=>q.unwish) fun _ _ z=>y1y z
end
section
variable {X:Cx} {st:Stmt} {rest:List Stmt} {t u:TS} {e:Expr} {te:TE} {pos:Pos}
def zpw:TS:=fun D σ H=>D.nx σ H
def tSeq (t u:TS):TS:=fun D σ H=>t { D with nx:=u D } σ H
theorem zm4:PSs X [] zpw:=fun _ _ σ H _ I h=>wpAny_execs_nil ⟨σ,H,I,h⟩
theorem zj6 (h1:PS X st t) (h2:PSs X rest u):PSs X (st::rest) (tSeq t u):=by
 intro pins s σ H D I h
 refine wpAny_execs_cons (thn (h1 pins s σ H { D with nx:=u D } I h) fun f s1 q=>?_)
 cases f with
 | next =>
  obtain⟨σ',H',I',q⟩:=q
  exact h2 pins s1 σ' H' D I' q
 | ret v=>exact q
 | brk=>exact q
 | cont=>exact q
theorem zm3 (h1:PS X st t):PSs X [st] t:=by
 intro pins s σ H D I h
 refine wpAny_execs_cons (thn (h1 pins s σ H D I h) fun f s1 q=>?_)
 cases f with
 | next=>exact wpAny_execs_nil q
 | ret v=>exact q
 | brk=>exact q
 | cont=>exact q
theorem Inv.quiet {pins:List (Addr×Obj)} {σ:St} {H:Hp} {s:y04} (I:Inv X pins σ H s):interactive X.env=false:=by simp[interactive,I.ok.kind]
def zpx (te:TE):TS:=fun D σ H=>te σ H fun _ H1=>D.nx σ H1
theorem zgb (he:PE X e te) (hs:y2y e none pos.line X.env=pure false:=by rfl):PS X (.Expr e pos) (zpx te):=by
 intro pins s σ H D I h
 exact wpAny_Expr_any (thn (he pins s σ H _ I h) fun v s1 ⟨x,H1,I1,r1,q1⟩=>⟨σ,H1,I1,q1⟩) I.quiet hs
def tRet (te:TE):TS:=fun D σ H=>te σ H D.rt
theorem zkt (he:PE X e te):PS X (.Return (some e) pos) (tRet te):=by
 intro pins s σ H D I h
 exact wpAny_Return_some (thn (he pins s σ H _ I h) fun v s1 ⟨x,H1,I1,r1,q1⟩=>⟨x,σ,H1,I1,r1,q1⟩)
def tIfS (c:TT) (t u:TS):TS:=fun D σ H=>c σ H fun b H1=>if b=true then t D σ H1 else u D σ H1
theorem zqe {c:Expr} {a b:List Stmt} {tc:TT} (hc:PT X c tc) (ha:PSs X a t) (hb:PSs X b u):PS X (.If c a b pos) (tIfS tc t u):=by
 intro pins s σ H D I h
 refine wpAny_If (thn (hc pins s σ H _ I h) fun d s1 ⟨H1,I1,q1⟩=>?_)
 cases d with
 | true=>exact ha pins s1 σ H1 D I1 q1
 | false=>exact hb pins s1 σ H1 D I1 q1
end
abbrev TG:=V->St->Hp->(St->Hp->Prop)->Prop
abbrev TGs:=List V->St->Hp->(St->Hp->Prop)->Prop
noncomputable def PG (X:Cx) (target:Expr) (t:TG):Prop :=
 ∀(pins:List (Addr×Obj)) (s:y04) (σ:St) (H:Hp) (v:V) (u:Value) (Q:St->Hp->Prop),Inv X pins σ H s->RelV v u->t v σ H Q ->
  y0u (y37 X.prog X.w) X.A (assign target X.env u) (fun _ s'=>∃σ' H',Inv X pins σ' H' s'/\Q σ' H') X.xe s
noncomputable def PGs (X:Cx) (ts:List Expr) (t:TGs):Prop :=
 ∀(pins:List (Addr×Obj)) (s:y04) (σ:St) (H:Hp) (vs:List V) (us:List Value) (Q:St->Hp->Prop),Inv X pins σ H s->Vals vs us->t vs σ H Q ->
  y0u (y37 X.prog X.w) X.A (assignInOrder ((y33 ts X.env).map (·.2)) us) (fun _ s'=>∃σ' H',Inv X pins σ' H' s'/\Q σ' H') X.xe s
section
variable {X:Cx} {pos:Pos}
def zpb (i:Nat):TG:=fun v σ H Q=>Q (σ.set i (some v)) H
theorem zmb {i:Nat} {x:Str} (hN:X.N.Nodup) (hi:X.N[i]?=some x) (hx:Loc X.env.scope x) (hf:X.fn x=true\/X.env.scope.names.lookup x=some .local:=by first|exact .inl rfl|exact .inr rfl|assumption):PG X (.Name x pos) (zpb i):=by
 intro pins s σ H v u Q I r h
 exact wpAny_assign_Name (zcu I hN hi hx r (fun s' I'=>⟨_,H,I',h⟩) hf)
def gNil:TGs:=fun vs σ H Q=>vs=[]/\Q σ H
def zql (t:TG) (u:TGs):TGs:=fun vs σ H Q=>∃v r,vs=v::r/\t v σ H fun σ' H'=>u r σ' H' Q
theorem zma:PGs X [] gNil:=by
 intro pins s σ H vs us Q I r h
 obtain⟨e,h⟩:=h
 subst e
 cases r
 exact assignInOrder_nil ⟨σ,H,I,h⟩
theorem zjb {e:Expr} {es:List Expr} {t:TG} {u:TGs} (h1:PG X e t) (h2:PGs X es u)
  (hs:(y33 (e::es) X.env).map (·.2)=assign e X.env::(y33 es X.env).map (·.2):=by rfl):PGs X (e::es) (zql t u):=by
 intro pins s σ H vs us Q I r h
 obtain⟨v,vr,e1,h⟩:=h
 subst e1
 cases r with
 | cons r rr =>
  rw[hs]
  refine assignInOrder_cons (thn (h1 pins s σ H _ _ _ I r h) fun _ s1 ⟨σ1,H1,I1,q1⟩=>?_)
  exact h2 pins s1 σ1 H1 _ _ Q I1 rr q1
def gTup (K:y00) (n:Nat) (t:TGs):TG:=fun v σ H Q=>∃a xs,v=.ref a/\SqT K H a xs/\xs.length=n/\t xs σ H Q
theorem zoe {es:List Expr} {k:Nat} {t:TGs} {n:Nat} (hc:X.calm=true) (h:PGs X es t)
  (hn:(y33 es X.env).length=n:=by rfl) (hst:(y33 es X.env).findIdx? (·.1)=none:=by rfl):PG X (.Tuple es k pos) (gTup X.K n t):=by
 intro pins s σ H v u Q I r hw
 obtain⟨a,xs,e1,hq,hl,hw⟩:=hw
 subst e1
 cases r
 obtain⟨its,rv,ht,hz⟩:=I.tuple hq
 refine assign_Tuple_tuple (I.ok.hd hc) ht (by simp[hn,<- hl,rv.length]) hst fun h' hx=>?_
 have I1:Inv X pins σ H { s with heap:=h' }:=I.kept (t':=s.toks) fun b o e=>hx b o (y0y (y0c e)) e
 exact h pins _ σ H xs _ Q I1 (by simpa using rv) hw
def tAsg (te:TE) (g:TG):TS:=fun D σ H=>te σ H fun x H1=>g x σ H1 D.nx
theorem zd6 {i:Nat} {x:Str} {e:Expr} {te:TE} {pos':Pos} (hN:X.N.Nodup) (hi:X.N[i]?=some x) (hx:Loc X.env.scope x) (he:PE X e te) (hs:y2y e (some (.Name x pos')) pos.line X.env=pure false:=by rfl) (hf:X.fn x=true\/X.env.scope.names.lookup x=some .local:=by first|exact .inl rfl|exact .inr rfl|assumption) :
  PS X (.Assign [.Name x pos'] e pos) (tAsg te (zpb i)):=by
 intro pins s σ H D I h
 refine wpAny_Assign_Name (thn (he pins s σ H _ I h) fun v s1 ⟨y,H1,I1,r1,q1⟩=>?_) hs
 exact zcu I1 hN hi hx r1 (fun s2 I2=>⟨_,H1,I2,q1⟩) hf
end
section
variable {X:Cx} {pos:Pos}
noncomputable def zno (c:TT) (tb:TS):TS:=fun D σ H=>∃W:Nat->St->Hp->Prop,(∃m,W m σ H)/\∀m σ H,W m σ H ->
 c σ H fun b H1=>if b=true then ∃N:St->Hp->Prop,(∀σ' H',N σ' H'->∃m',m'<m/\W m' σ' H')/\tb { D with nx:=N,ct:=N,bk:=D.nx } σ H1 else D.nx σ H1
theorem zj7 {c:Expr} {body:List Stmt} {tc:TT} {tb:TS} (hp:PassesOwn (y37 X.prog X.w) X.A X.env X.xe) (hc:PT X c tc) (hb:PSs X body tb):PS X (.While c body [] pos) (zno tc tb):=by
 intro pins s σ H D I h
 obtain⟨W,⟨m0,w0⟩,turn⟩:=h
 refine wpAny_While (codeAny_whileLoop (fun n s'=>∃σ' H',Inv X pins σ' H' s'/\W n σ' H') ?_ m0 ⟨σ,H,I,w0⟩)
 rintro n s1 ⟨σ1,H1,I1,w1⟩
 refine wpAny_passesOwn hp (thn (hc pins s1 σ1 H1 _ I1 (turn n σ1 H1 w1)) fun b s2 ⟨H2,I2,q2⟩=>?_)
 cases b with
 | true =>
  obtain⟨N,hN,q2⟩:=q2
  rw[if_pos rfl]
  refine wpAny_passesOwn hp (thn (hb pins s2 σ1 H2 _ I2 q2) fun f s3 q3=>?_)
  cases f with
  | next =>
   obtain⟨σ3,H3,I3,n3⟩:=q3
   obtain⟨m',hm,w3⟩:=hN σ3 H3 n3
   exact⟨m',hm,σ3,H3,I3,w3⟩
  | cont =>
   obtain⟨σ3,H3,I3,n3⟩:=q3
   obtain⟨m',hm,w3⟩:=hN σ3 H3 n3
   exact⟨m',hm,σ3,H3,I3,w3⟩
  | brk=>exact q3
  | ret v=>exact q3
 | false =>
  rw[if_neg y22]
  exact wpAny_execs_nil ⟨σ1,H2,I2,q2⟩
end
structure It where
 go:Nat->Hp->Prop
 yld:Nat->Hp->V->Hp->Prop
 stop:Nat->Hp->Prop
noncomputable def FpOk (X:Cx) (pins:List (Addr×Obj)) (H:Hp) (b:Addr):Prop :=
 H b=none/\b≠X.env.locals/\b∉X.fs/\(b∈X.ex\/X.s₀.heap.objs.size<=b)/\(∀x c,X.env.cells.lookup x=some c->c≠b)/\∀p∈X.pn++pins,p.1≠b
theorem Inv.fpOk {X:Cx} {pins:List (Addr×Obj)} {σ:St} {H H':Hp} {s:y04} {b:Addr} (I:Inv X pins σ H s) (hb:s.heap.objs.size<=b) (hn:H' b=none):FpOk X pins H' b:=by
 refine⟨hn,y15 (y0x I.lt hb),I.nofs hb,.inr (y1p I.sz hb),fun x c e z=>?_,fun p hp z=>?_⟩
 ·obtain⟨v,q⟩:=I.cell x c e
  exact absurd (y0x q.lt (by rw[z];exact hb)) (Nat.lt_irrefl _)
 ·exact absurd (y0x (y0c (I.pin p hp).1) (by rw[z];exact hb)) (Nat.lt_irrefl _)
structure Turn (P:y0q) (w:World) (K:y00) (tg:Expr) (J:It) (fp:List Addr) (it:Addr) (tn:Nat->Heap->Prop):Prop where
 mem:it∈fp
 obj:∀i h,tn i h->∀b∈fp,∃o,h.get? b=some o/\∀v,o.data≠.cell v
 keep:∀i h h',tn i h->(∀b∈fp,∀o,h.get? b=some o->h'.get? b=some o)->tn i h'
 item:∀(X:Cx),X.prog=P->X.w=w->X.K=K->X.calm=true->∀(i:Nat) (pins:List (Addr×Obj)) (s:y04) (σ:St) (H:Hp) (E:Value->y04->Prop),Inv X pins σ H s->(∀b∈fp,FpOk X pins H b)->tn i s.heap->J.go i H ->
  y0u (y37 P w) X.A (pyNext (.ref it)) (fun r s1=>∃u,r=some u /\
   y0u (y37 P w) X.A (letOwnedTupleGo tg (.ref it) u) (fun _ s2=>∃x H',Inv X pins σ H' s2/\RelV x u/\J.yld i H x H'/\tn (i+1) s2.heap/\∀b∈fp,H' b=none) E s1) E s
 done:∀(X:Cx),X.prog=P->X.w=w->X.K=K->X.calm=true->∀(i:Nat) (pins:List (Addr×Obj)) (s:y04) (σ:St) (H:Hp) (E:Value->y04->Prop),Inv X pins σ H s->(∀b∈fp,FpOk X pins H b)->tn i s.heap->J.stop i H ->
  y0u (y37 P w) X.A (pyNext (.ref it)) (fun r s1=>r=none/\Inv X pins σ H s1) E s
 self:∀(A:Around) (i:Nat) (s:y04) (Q:Value->y04->Prop) (E:Value->y04->Prop),tn i s.heap->Q (.ref it) s->y0u (y37 P w) A (pyIter (.ref it)) Q E s
abbrev TI:=St->Hp->(It->Hp->Prop)->Prop
noncomputable def PIE (X:Cx) (pins:List (Addr×Obj)) (σ:St) (tg:Expr) (R:It->Hp->Prop) (itv:Value) (s2:y04):Prop :=
 ∃(it:Addr) (fp:List Addr) (tn:Nat->Heap->Prop) (J:It) (H':Hp),itv=.ref it/\Inv X pins σ H' s2/\Turn X.prog X.w X.K tg J fp it tn/\tn 0 s2.heap/\(∀b∈fp,FpOk X pins H' b)/\R J H'
noncomputable def PI (X:Cx) (tg iter:Expr) (wi:TI):Prop :=
 ∀(pins:List (Addr×Obj)) (s:y04) (σ:St) (H:Hp) (R:It->Hp->Prop),Inv X pins σ H s->wi σ H R ->
  y0u (y37 X.prog X.w) X.A (eval iter X.env) (fun v s1=>y0u (y37 X.prog X.w) X.A (pyIter v) (PIE X pins σ tg R) X.xe s1) X.xe s
theorem zn1 {M:Model} {A:Around} {E:Value->y04->Prop} {s:y04} {tg:Expr} {it:Addr} {u:Value} {o:Obj} {n:String} {vs:Array Value} {Q:Unit->y04->Prop} (ho:s.heap.get? it=some o) (hc:o.cls=.type n) (hd:o.data=.fields vs)
    (hn:["enumerate","zip","dict_itemiterator","dict_reverseitemiterator","odict_iterator","itertools.zip_longest","itertools.pairwise"].contains n=false) (hQ:Q () s):y0u M A (letOwnedTupleGo tg (.ref it) u) Q E s:=by
  unfold letOwnedTupleGo
  cases tg <;> first
    | exact y06 hQ
    | (cases u <;> first
        | exact y06 hQ
        | (refine y02 (wpAny_load ho ?_)
           rw[hc,hd]
           show y0u M A (if (["enumerate","zip","dict_itemiterator","dict_reverseitemiterator","odict_iterator","itertools.zip_longest","itertools.pairwise"].contains n && vs[0]? == some (y39 _))=true then _ else _) Q E s
           rw[if_neg (by intro h;rw[hn,Bool.false_and] at h;cases h)]
           exact y06 hQ))
noncomputable def Itl (K:y00) (a:Addr):It :=
 ⟨fun i H=>∃xs x,SqL K H a xs/\xs[i]?=some x,fun i H x H'=>H'=H/\∀xs,SqL K H a xs->xs[i]?=some x,fun i H=>∃xs,SqL K H a xs/\xs.length<=i⟩
noncomputable def Itt (K:y00) (a:Addr):It :=
 ⟨fun i H=>∃xs x,SqT K H a xs/\xs[i]?=some x,fun i H x H'=>H'=H/\∀xs,SqT K H a xs->xs[i]?=some x,fun i H=>∃xs,SqT K H a xs/\xs.length<=i⟩
def Itr (lo:Int) (n:Nat):It:=⟨fun i _=>i<n,fun i H x H'=>H'=H/\x=.int (lo+i),fun i _=>n<=i⟩
theorem zfg {P:y0q} {w:World} {K:y00} {tg:Expr} (a it:Addr):Turn P w K tg (Itl K a) [it] it (fun i h=>h.IsListIter it a i) where
 mem:=by simp
 obj:=fun i h st b hb=>by
  have e:b=it:=by simpa using hb
  subst e
  obtain⟨o,e,c,d⟩:=st
  exact⟨o,e,fun v z=>by rw[d] at z;cases z⟩
 keep:=fun i h h' st k=>st.at fun o e=>k it (by simp) o e
 item:=by
  intro X hP hw hK hc i pins s σ H E I hf st hg
  subst hP hw hK
  obtain⟨xs,x,hq,hx⟩:=hg
  obtain⟨its,rv,p,hz⟩:=I.list hq
  obtain⟨u,hu,ru⟩:=rv.get hx
  obtain⟨f0,f1,f2,f3,f4,f5⟩:=hf it (by simp)
  refine wpAny_pyNext_list_item st p.isList (x:=u) (by simpa using hu) fun h' st' sb=>?_
  have I1:Inv X pins σ H { s with heap:=h' }:=I.turned (t':=s.toks) (fun b o hb e=>(sb.2 b hb).trans e) f0 f1 f3 f4 f5
  obtain⟨o,e,c,d⟩:=id st'
  exact⟨u,rfl,zn1 (s:={ s with heap:=h' }) e c d (by decide) ⟨x,H,I1,ru,⟨rfl,fun ys hy=>by rw[I.list_inj hy hq];exact hx⟩,st',fun b hb=>(hf b hb).1⟩⟩
 done:=by
  intro X hP hw hK hc i pins s σ H E I hf st hg
  subst hP hw hK
  obtain⟨xs,hq,hx⟩:=hg
  obtain⟨its,rv,p,hz⟩:=I.list hq
  obtain⟨f0,f1,f2,f3,f4,f5⟩:=hf it (by simp)
  have hl:=rv.length
  exact wpAny_pyNext_list_end (I.ok.hd hc) st p.isList (by simp;omega) fun h' eb=>⟨rfl,I.turned (t':=s.toks) (fun b o hb e=>eb b o hb e) f0 f1 f3 f4 f5⟩
 self:=fun _ _ _ _ _ st h=>wpAny_pyIter_listiter st h
theorem zee {P:y0q} {w:World} {K:y00} {tg:Expr} (a it:Addr):Turn P w K tg (Itt K a) [it] it (fun i h=>h.IsTupleIter it a i) where
 mem:=by simp
 obj:=fun i h st b hb=>by
  have e:b=it:=by simpa using hb
  subst e
  obtain⟨o,e,c,d⟩:=st
  exact⟨o,e,fun v z=>by rw[d] at z;cases z⟩
 keep:=fun i h h' st k=>st.at fun o e=>k it (by simp) o e
 item:=by
  intro X hP hw hK hc i pins s σ H E I hf st hg
  subst hP hw hK
  obtain⟨xs,x,hq,hx⟩:=hg
  obtain⟨its,rv,p,hz⟩:=I.tuple hq
  obtain⟨u,hu,ru⟩:=rv.get hx
  obtain⟨f0,f1,f2,f3,f4,f5⟩:=hf it (by simp)
  refine wpAny_pyNext_tuple_item st (show s.heap.IsTuple a its.toArray from p) (x:=u) (by simpa using hu) fun h' st' sb=>?_
  have I1:Inv X pins σ H { s with heap:=h' }:=I.turned (t':=s.toks) (fun b o hb e=>(sb.2 b hb).trans e) f0 f1 f3 f4 f5
  obtain⟨o,e,c,d⟩:=id st'
  exact⟨u,rfl,zn1 (s:={ s with heap:=h' }) e c d (by decide) ⟨x,H,I1,ru,⟨rfl,fun ys hy=>by rw[I.tuple_inj hy hq];exact hx⟩,st',fun b hb=>(hf b hb).1⟩⟩
 done:=by
  intro X hP hw hK hc i pins s σ H E I hf st hg
  subst hP hw hK
  obtain⟨xs,hq,hx⟩:=hg
  obtain⟨its,rv,p,hz⟩:=I.tuple hq
  obtain⟨f0,f1,f2,f3,f4,f5⟩:=hf it (by simp)
  have hl:=rv.length
  exact wpAny_pyNext_tuple_end (I.ok.hd hc) st (show s.heap.IsTuple a its.toArray from p) (by simp;omega) fun h' eb=>⟨rfl,I.turned (t':=s.toks) (fun b o hb e=>eb b o hb e) f0 f1 f3 f4 f5⟩
 self:=fun _ _ _ _ _ st h=>wpAny_pyIter_tupleiter st h
theorem zef {P:y0q} {w:World} {K:y00} {tg:Expr} (it:Addr) (lo:Int) (n:Nat):Turn P w K tg (Itr lo n) [it] it (fun i h=>IsRangeIter h it (lo+(i:Nat)*1) ((n:Int) - (i:Nat)) 1) where
 mem:=by simp
 obj:=fun i h st b hb=>by
  have e:b=it:=by simpa using hb
  subst e
  exact⟨_,st,fun v z=>by
   have z':Data.fields _=Data.cell v:=z
   cases z'⟩
 keep:=fun i h h' st k=>k it (by simp) _ st
 item:=by
  intro X hP hw hK hc i pins s σ H E I hf st hg
  subst hP hw hK
  obtain⟨f0,f1,f2,f3,f4,f5⟩:=hf it (by simp)
  have W:=Walks.range (prog:=X.prog) (w:=X.w) (I.ok.hd hc) it lo 1 n
  refine W.item i s _ _ hg st fun v h' tk hv st' kk=>?_
  obtain⟨t,rfl⟩:=hv
  have I1:Inv X pins σ H { s with heap:=h',toks:=tk }:=I.turned (fun b o hb e=>kk b o (by simpa using hb) e) f0 f1 f3 f4 f5
  refine⟨_,rfl,zn1 (s:={ s with heap:=h',toks:=tk }) (n:="range_iterator") st' rfl rfl (by decide) ⟨.int (lo+i),H,I1,⟨t,?_⟩,⟨rfl,rfl⟩,st',fun b hb=>(hf b hb).1⟩⟩
  rw[Int.mul_one]
 done:=by
  intro X hP hw hK hc i pins s σ H E I hf st hg
  subst hP hw hK
  obtain⟨f0,f1,f2,f3,f4,f5⟩:=hf it (by simp)
  exact wpAny_pyNext_range_end (I.ok.hd hc) st (by have:n<=i:=hg;omega) fun h' eb=>⟨rfl,I.turned (t':=s.toks) (fun b o hb e=>eb b o hb e) f0 f1 f3 f4 f5⟩
 self:=fun _ _ _ _ _ st h=>wpAny_pyIter_rangeiter st h
end L2
namespace L2
open PySem PySem.Spec PyProof.Rows
section
variable {X:Cx} {tg:Expr}
theorem ziy {pins:List (Addr×Obj)} {σ:St} {H:Hp} {s:y04} {R:It->Hp->Prop} {E:Value->y04->Prop} {lo hi:Int} {t u v:Tok} {tk:Nat} (I:Inv X pins σ H s) (h1:-(2 ^ 62)<=lo) (h2:lo<2 ^ 62) (h3:-(2 ^ 62)<=hi) (h4:hi<2 ^ 62)
  (q:R (Itr lo (hi - lo).toNat) H):y0u (y37 X.prog X.w) X.A (pyIter (.ref s.heap.objs.size)) (PIE X pins σ tg R) E { s with heap:=s.heap.push { cls:=.type "range",data:=.fields #[.int lo t,.int hi u,.int 1 v] },toks:=tk }:=by
 refine wpAny_pyIter_range (IsRange.new ..) (small_one h1 h2 h3 h4) ?_
 have I1:Inv X pins σ H { s with heap:=s.heap.push { cls:=.type "range",data:=.fields #[.int lo t,.int hi u,.int 1 v] },toks:=tk }:=I.kept fun b o e=>y03 _ e
 refine⟨(s.heap.push { cls:=.type "range",data:=.fields #[.int lo t,.int hi u,.int 1 v] }).objs.size,[(s.heap.push { cls:=.type "range",data:=.fields #[.int lo t,.int hi u,.int 1 v] }).objs.size],_,_,H,rfl,
  I1.kept (t':=tk) fun b o e=>y03 _ e,zef _ lo (hi - lo).toNat,?_,fun b hb=>?_,q⟩
 ·have e1:lo+((0:Nat):Int)*1=lo:=by simp
  have e2:(((hi - lo).toNat:Nat):Int) - ((0:Nat):Int)=Builtin.Range.rangeSize lo hi 1:=by rw[rangeSize_one];split <;> omega
  show IsRangeIter _ _ (lo+((0:Nat):Int)*1) ((((hi - lo).toNat:Nat):Int) - ((0:Nat):Int)) 1
  rw[e1,e2]
  exact y0l _ rfl
 ·have e:b=(s.heap.push { cls:=.type "range",data:=.fields #[.int lo t,.int hi u,.int 1 v] }).objs.size:=by simpa using hb
  subst e
  exact I1.fpOk (y0o _) (I1.hok.fresh (y0o _))
def zqk (ta:TA):TI:=fun σ H R=>ta σ H fun vs H1=>∃j:Int,vs=[.int j]/\-(2 ^ 62)<=j/\j<2 ^ 62/\R (Itr 0 j.toNat) H1
theorem zgf {a:Expr} {ta:TA} {p pos:Pos} (hg:Gl X "range") (hm:X.mg "range"=none) (ha:PA X [a] ta) (hs:y0a [a] X.env=[(false,eval a X.env)]:=by rfl):PI X tg (.Call (.Name "range" p) [a] [] pos) (zqk ta):=by
 intro pins s σ H R I h
 refine Call_ (z8l I hg hm boot_range (y1t (thn (ha pos pins s σ H _ I h) fun us s1 ⟨vs,H1,I1,r1,q1⟩=>?_) hs rfl))
 obtain⟨j,e,q1,q2,q⟩:=q1
 subst e
 cases r1 with
 | cons r rr =>
  cases rr
  obtain⟨t,rfl⟩:=r
  exact call_range_1 (ziy I1 (by omega) (by omega) q1 q2 (by simpa using q))
noncomputable def tFor (wi:TI) (g:TG) (tb:TS):TS:=fun D σ H=>wi σ H fun J H1=>∃W:Nat->Nat->St->Hp->Prop,(∃m,W 0 m σ H1)/\∀i m σ H,W i m σ H ->
 (J.stop i H/\D.nx σ H)\/(J.go i H/\∃N:St->Hp->Prop,(∀σ' H',N σ' H'->∃m',m'<m/\W (i+1) m' σ' H')/\∀x H',J.yld i H x H'->g x σ H' fun σ2 H2=>tb { D with nx:=N,ct:=N,bk:=D.nx } σ2 H2)
def zak (fp:List Addr) (h:Heap):List (Addr×Obj):=fp.filterMap fun b=>(h.get? b).map fun o=>(b,o)
theorem z45 {fp:List Addr} {h:Heap} {b:Addr} {o:Obj} (hb:b∈fp) (e:h.get? b=some o):(b,o)∈zak fp h:=List.mem_filterMap.mpr ⟨b,hb,by rw[e];rfl⟩
theorem zgo {fp:List Addr} {h:Heap} {p:Addr×Obj} (hp:p∈zak fp h):p.1∈fp/\h.get? p.1=some p.2:=by
 obtain⟨b,hb,e⟩:=List.mem_filterMap.mp hp
 cases q:h.get? b with
 | none=>rw[q] at e;cases e
 | some o =>
  rw[q] at e
  have e':(b,o)=p:=y2c e
  subst e'
  exact⟨hb,q⟩
theorem Inv.pinned {pins:List (Addr×Obj)} {σ:St} {H:Hp} {s:y04} {fp:List Addr} (I:Inv X pins σ H s) (hf:∀b∈fp,FpOk X pins H b) (ho:∀b∈fp,∃o,s.heap.get? b=some o/\∀v,o.data≠.cell v):Inv X (pins++zak fp s.heap) σ H s :=
 I.pins_of fun p hp=>(y10.mp hp).elim (fun z=>I.pin p (y1a _ z)) fun z=>by
  obtain⟨hb,e⟩:=zgo z
  obtain⟨f0,f1,f2,_⟩:=hf p.1 hb
  obtain⟨o,e',d⟩:=ho p.1 hb
  rw[e] at e';cases e'
  exact⟨e,f0,f1,f2,d⟩
theorem Inv.unpinned {pins pl:List (Addr×Obj)} {σ:St} {H:Hp} {s:y04} (I:Inv X (pins++pl) σ H s):Inv X pins σ H s:=I.pins_of fun p hp=>I.pin p (y1a _ (List.mem_append_left _ hp))
theorem zod {iter:Expr} {body:List Stmt} {wi:TI} {g:TG} {tb:TS} {pos:Pos} (hp:PassesOwn (y37 X.prog X.w) X.A X.env X.xe) (hc:X.calm=true) (hi:PI X tg iter wi) (hg:PG X tg g) (hb:PSs X body tb)
  (hs:∀x,y38 iter X.env x=pure x:=by intro _;rfl):PS X (.For tg iter body [] pos) (tFor wi g tb):=by
 intro pins s σ H D I h
 refine wpAny_For (thn (hi pins s σ H _ I h) fun v s1 h1=>thn h1 fun itv s2 h2=>?_) hs
 obtain⟨it,fp,tn,J,H2,e,I2,T,st2,f2,W,⟨m0,w0⟩,turn⟩:=h2
 subst e
 have stat:∀{H':Hp},(∀b∈fp,H' b=none)->∀b∈fp,FpOk X pins H' b:=fun hn b hb=>⟨hn b hb,(f2 b hb).2⟩
 refine codeAny_forLoop_any (fun n s'=>∃i σ' H',Inv X pins σ' H' s'/\tn i s'.heap/\(∀b∈fp,H' b=none)/\W i n σ' H') ?_ m0 ⟨0,σ,H2,I2,st2,fun b hb=>(f2 b hb).1,w0⟩
 rintro n s3 ⟨i,σ3,H3,I3,st3,fr3,w3⟩
 rcases turn i n σ3 H3 w3 with ⟨stop,qn⟩|⟨go,N,hN,step⟩
 ·refine wpAny_passesOwn hp (thn (T.done X rfl rfl rfl hc i pins s3 σ3 H3 X.xe I3 (stat fr3) st3 stop) fun r s4 ⟨hr,I4⟩=>?_)
  subst hr
  exact wpAny_execs_nil ⟨σ3,H3,I4,qn⟩
 ·refine wpAny_passesOwn hp (thn (T.item X rfl rfl rfl hc i pins s3 σ3 H3 X.xe I3 (stat fr3) st3 go) fun r s4 ⟨u,hr,h4⟩=>?_)
  subst hr
  refine wpAny_passesOwn hp (thn h4 fun _ s5 ⟨x,H5,I5,r5,y5,st5,fr5⟩=>?_)
  have I5':=I5.pinned (stat fr5) (T.obj _ _ st5)
  refine wpAny_passesOwn hp (thn (hg _ s5 σ3 H5 x u _ I5' r5 (step x H5 y5)) fun _ s6 ⟨σ6,H6,I6,q6⟩=>?_)
  refine wpAny_passesOwn hp (thn (hb _ s6 σ6 H6 _ I6 q6) fun f s7 q7=>?_)
  have again:∀{σ7:St} {H7:Hp},Inv X (pins++zak fp s5.heap) σ7 H7 s7->N σ7 H7->∃m,m<n/\∃i σ' H',Inv X pins σ' H' s7/\tn i s7.heap/\(∀b∈fp,H' b=none)/\W i m σ' H':=fun {σ7 H7} I7 n7=>by
   obtain⟨m',hm,w7⟩:=hN σ7 H7 n7
   refine⟨m',hm,i+1,σ7,H7,I7.unpinned,T.keep _ _ _ st5 fun b hb o e=>(I7.pin (b,o) (y1a _ (y1a _ (z45 hb e)))).1,fun b hb=>?_,w7⟩
   obtain⟨o,e,d⟩:=T.obj _ _ st5 b hb
   exact (I7.pin (b,o) (y1a _ (y1a _ (z45 hb e)))).2.1
  cases f with
  | next=>obtain⟨σ7,H7,I7,n7⟩:=q7;exact again I7 n7
  | cont=>obtain⟨σ7,H7,I7,n7⟩:=q7;exact again I7 n7
  | brk=>obtain⟨σ7,H7,I7,q7⟩:=q7;exact⟨σ7,H7,I7.unpinned,q7⟩
  | ret v=>obtain⟨x7,σ7,H7,I7,r7,q7⟩:=q7;exact⟨x7,σ7,H7,I7.unpinned,r7,q7⟩
end
end L2
namespace L2
open PySem PySem.Spec PyProof.Rows
abbrev R2:=V->V->Hp->VK->Prop
noncomputable def OpR (X:Cx) (f:Value->Value->Sem Value) (r:R2):Prop :=
 ∀(pins:List (Addr×Obj)) (s:y04) (σ:St) (H:Hp) (x y:V) (v u:Value) (Q:VK),Inv X pins σ H s->RelV x v->RelV y u->r x y H Q ->
  y0u (y37 X.prog X.w) X.A (f v u) (EP X pins σ Q) X.xe s
noncomputable def UnR (X:Cx) (f:Value->Sem Value) (r:V->Hp->VK->Prop):Prop :=
 ∀(pins:List (Addr×Obj)) (s:y04) (σ:St) (H:Hp) (x:V) (v:Value) (Q:VK),Inv X pins σ H s->RelV x v->r x H Q ->
  y0u (y37 X.prog X.w) X.A (f v) (EP X pins σ Q) X.xe s
noncomputable def z23 (X:Cx) (f:Value) (r:List V->Hp->VK->Prop):Prop :=
 ∀(pins:List (Addr×Obj)) (s:y04) (σ:St) (H:Hp) (xs:List V) (us:List Value) (Q:VK),Inv X pins σ H s->Vals xs us->r xs H Q ->
  y0u (y37 X.prog X.w) X.A (call f us) (EP X pins σ Q) X.xe s
noncomputable def TruR (X:Cx) (r:V->Hp->(Bool->Hp->Prop)->Prop):Prop :=
 ∀(pins:List (Addr×Obj)) (s:y04) (σ:St) (H:Hp) (x:V) (v:Value) (Q:Bool->Hp->Prop),Inv X pins σ H s->RelV x v->r x H Q ->
  y0u (y37 X.prog X.w) X.A (truthy v) (TP X pins σ Q) X.xe s
def tOp (r:R2) (ta tb:TE):TE:=fun σ H Q=>ta σ H fun x H1=>tb σ H1 fun y H2=>r x y H2 Q
def tUn (r:V->Hp->VK->Prop) (ta:TE):TE:=fun σ H Q=>ta σ H fun x H1=>r x H1 Q
def rI (C:Int->Int->Prop) (g:Int->Int->V):R2:=fun x y H Q=>∃i j,x=.int i/\y=.int j/\C i j/\Q (g i j) H
def rI0 (g:Int->Int->V):R2:=fun x y H Q=>∃i j,x=.int i/\y=.int j/\Q (g i j) H
def rU (g:Int->V):V->Hp->VK->Prop:=fun x H Q=>∃i,x=.int i/\Q (g i) H
section
variable {X:Cx} {a b c:Expr} {ta tb tc:TE} {pos:Pos}
theorem binT (ha:PE X a ta) (hb:PE X b tb) {pins:List (Addr×Obj)} {s:y04} {σ:St} {H:Hp} {R:V->V->Hp->Prop} (I:Inv X pins σ H s)
  (h:ta σ H fun x H1=>tb σ H1 fun y H2=>R x y H2) {Q:Value->y04->Prop} {f:Value->Value->Sem Value}
  (hf:∀v u s2 x y H2,Inv X pins σ H2 s2->RelV x v->RelV y u->R x y H2->y0u (y37 X.prog X.w) X.A (f v u) Q X.xe s2) :
  y0u (y37 X.prog X.w) X.A (eval a X.env) (fun v s₁=>y0u (y37 X.prog X.w) X.A (eval b X.env) (fun u s₂=>y0u (y37 X.prog X.w) X.A (f v u) Q X.xe s₂) X.xe s₁) X.xe s:=by
 refine thn (ha pins s σ H _ I h) fun v s1 ⟨x,H1,I1,r1,q1⟩=>?_
 refine thn (hb pins s1 σ H1 _ I1 q1) fun u s2 ⟨y,H2,I2,r2,q2⟩=>?_
 exact hf v u s2 x y H2 I2 r1 r2 q2
theorem zgg {op:Operator} {r:R2} (ho:OpR X (y35 op) r) (ha:PE X a ta) (hb:PE X b tb):PE X (.BinOp a op b pos) (tOp r ta tb):=by
 intro pins s σ H Q I h
 exact wpAny_BinOp (binT ha hb I h fun v u s2 x y H2 I2 rx ry q=>ho pins s2 σ H2 x y v u Q I2 rx ry q)
theorem zqg {op:UnaryOp} {r:V->Hp->VK->Prop} (ho:UnR X (unaryOp op) r) (ha:PE X a ta):PE X (.UnaryOp op a pos) (tUn r ta):=by
 intro pins s σ H Q I h
 exact UnaryOp_ (thn (ha pins s σ H _ I h) fun v s1 ⟨x,H1,I1,r1,q1⟩=>ho pins s1 σ H1 x v Q I1 r1 q1)
theorem opI {f:Value->Value->Sem Value} {C:Int->Int->Prop} {g:Int->Int->Int}
  (rule:∀(i j:Int) (t u:Tok) (s:y04) (Q:Value->y04->Prop) (E:Value->y04->Prop),C i j->Q (.int (g i j) s.toks) { s with toks:=s.toks+1 }->y0u (y37 X.prog X.w) X.A (f (.int i t) (.int j u)) Q E s) :
  OpR X f (rI C fun i j=>.int (g i j)):=by
 intro pins s σ H x y v u Q I rx ry h
 obtain⟨i,j,rfl,rfl,hc,q⟩:=h
 obtain⟨t,rfl⟩:=rx
 obtain⟨t',rfl⟩:=ry
 exact rule i j t t' s _ _ hc ⟨.int (g i j),H,I.tok _,⟨_,rfl⟩,q⟩
theorem opI0 {f:Value->Value->Sem Value} {g:Int->Int->Int}
  (rule:∀(i j:Int) (t u:Tok) (s:y04) (Q:Value->y04->Prop) (E:Value->y04->Prop),Q (.int (g i j) s.toks) { s with toks:=s.toks+1 }->y0u (y37 X.prog X.w) X.A (f (.int i t) (.int j u)) Q E s) :
  OpR X f (rI0 fun i j=>.int (g i j)):=by
 intro pins s σ H x y v u Q I rx ry h
 obtain⟨i,j,rfl,rfl,q⟩:=h
 obtain⟨t,rfl⟩:=rx
 obtain⟨t',rfl⟩:=ry
 exact rule i j t t' s _ _ ⟨.int (g i j),H,I.tok _,⟨_,rfl⟩,q⟩
theorem opB0 {f:Value->Value->Sem Value} {g:Int->Int->Bool}
  (rule:∀(i j:Int) (t u:Tok) (s:y04) (Q:Value->y04->Prop) (E:Value->y04->Prop),Q (.bool (g i j)) s->y0u (y37 X.prog X.w) X.A (f (.int i t) (.int j u)) Q E s) :
  OpR X f (rI0 fun i j=>.bl (g i j)):=by
 intro pins s σ H x y v u Q I rx ry h
 obtain⟨i,j,rfl,rfl,q⟩:=h
 obtain⟨t,rfl⟩:=rx
 obtain⟨t',rfl⟩:=ry
 exact rule i j t t' s _ _ ⟨.bl (g i j),H,I,rfl,q⟩
def CDiv (i j:Int):Prop:=0<j/\j<1073741824
def CMul (i j:Int):Prop:=(-(2 ^ 64)<i/\i<2 ^ 64)\/(-(2 ^ 64)<j/\j<2 ^ 64)
theorem CMul.ok {i j:Int} (h:CMul i j):IntMulOk i j:=by
 rcases h with ⟨h1,h2⟩|⟨h1,h2⟩
 ·exact .of_left (intBits_le_64 h1 h2)
 ·exact .of_right (intBits_le_64 h1 h2)
theorem zou:OpR X (y35 .Add) (rI0 fun i j=>.int (i+j)):=opI0 fun _ _ _ _ _ _ _ q=>add_int q
theorem zor:OpR X (y35 .Sub) (rI0 fun i j=>.int (i - j)):=opI0 fun _ _ _ _ _ _ _ q=>sub_int q
theorem zos:OpR X (y35 .Mult) (rI CMul fun i j=>.int (i*j)):=opI fun _ _ _ _ _ _ _ hc q=>mul_int q hc.ok
theorem zmi:OpR X (y35 .FloorDiv) (rI CDiv fun i j=>.int (i / j)):=opI fun i j _ _ _ _ _ hc q=>by
 have h1:(0:Int)<j:=hc.1
 have h2:j<1073741824:=hc.2
 exact floordiv_int (by omega) (by rw[Int.fdiv_eq_ediv_of_nonneg i (by omega)];exact q) (.inl (PyProof.noPylong_small (by omega)))
theorem zot:OpR X (y35 .Mod) (rI (fun _ j=>0<j) fun i j=>.int (i % j)):=opI fun i j _ _ _ _ _ hc q=>by
 have h1:(0:Int)<j:=hc
 exact mod_int' (by omega) (by rw[Int.fmod_eq_emod_of_nonneg i (by omega)];exact q)
theorem unI {f:Value->Sem Value} {g:Int->Int}
  (rule:∀(i:Int) (t:Tok) (s:y04) (Q:Value->y04->Prop) (E:Value->y04->Prop),Q (.int (g i) s.toks) { s with toks:=s.toks+1 }->y0u (y37 X.prog X.w) X.A (f (.int i t)) Q E s) :
  UnR X f (rU fun i=>.int (g i)):=by
 intro pins s σ H x v Q I rx h
 obtain⟨i,rfl,q⟩:=h
 obtain⟨t,rfl⟩:=rx
 exact rule i t s _ _ ⟨.int (g i),H,I.tok _,⟨_,rfl⟩,q⟩
theorem znj:UnR X (unaryOp .USub) (rU fun i=>.int (-i)):=unI fun _ _ _ _ _ q=>neg_int q
end
section
variable {X:Cx} {a b c:Expr} {ta tb tc:TE} {pos:Pos}
theorem zpe {pins:List (Addr×Obj)} {σ:St} {H:Hp} {s:y04} {Q:VK} {k k':Bool} (I:Inv X pins σ H s) (q:Q (.bl k) H) (e:k=k'):EP X pins σ Q (.bool k') s:=by
 subst e
 exact⟨.bl k,H,I,rfl,q⟩
theorem zmh:OpR X (y2s .Lt) (rI0 fun i j=>.bl (decide (i<j))):=opB0 fun _ _ _ _ _ _ _ q=>lt_int q
theorem z71:OpR X (y2s .Lt) (fun x y H Q=>∃i j,x=.str i/\y=.str j/\Q (.bl (decide (i.cps.toList<j.cps.toList))) H):=by
 intro pins s σ H x y v u Q I rx ry h
 obtain⟨i,j,rfl,rfl,q⟩:=h
 obtain⟨t,rfl⟩:=rx
 obtain⟨t',rfl⟩:=ry
 exact lt_str (zpe I q rfl)
theorem OpR.or {f:Value->Value->Sem Value} {r r':R2} (h:OpR X f r) (h':OpR X f r'):OpR X f (fun x y H Q=>r x y H Q\/r' x y H Q):=by
 intro pins s σ H x y v u Q I rx ry q
 rcases q with q|q
 ·exact h pins s σ H x y v u Q I rx ry q
 ·exact h' pins s σ H x y v u Q I rx ry q
theorem zkz (b:Expr) {op:CmpOp} (h:op≠.In:=by decide) (h2:op≠.NotIn:=by decide):y2z op b=false:=by
 have e1:(op == CmpOp.In)=false:=by cases op <;> first|rfl|exact absurd rfl h
 have e2:(op == CmpOp.NotIn)=false:=by cases op <;> first|rfl|exact absurd rfl h2
 cases b <;> simp[y2z,e1,e2]
theorem zme {op:CmpOp} {r:R2} (ho:OpR X (y2s op) r) (ha:PE X a ta) (hb:PE X b tb) (hm:y2z op b=false):PE X (.Compare a [op] [b] pos) (tOp r ta tb):=by
 intro pins s σ H Q I h
 exact wpAny_Compare1 (binT ha hb I h fun v u s2 x y H2 I2 rx ry q=>ho pins s2 σ H2 x y v u Q I2 rx ry q) hm
def zpr (t:TE):TT:=fun σ H Q=>t σ H fun x H'=>∃k,x=.bl k/\Q k H'
theorem zm2 {op:CmpOp} {r:R2} (ho:OpR X (y2s op) r) (ha:PE X a ta) (hb:PE X b tb) (hm:y2z op b=false):PT X (.Compare a [op] [b] pos) (zpr (tOp r ta tb)):=by
 intro pins s σ H Q I h
 refine wpAny_isTrue_Compare1 (thn (ha pins s σ H _ I h) fun v s1 ⟨x,H1,I1,r1,q1⟩=>thn (hb pins s1 σ H1 _ I1 q1) fun u s2 ⟨y,H2,I2,r2,q2⟩ =>
  thn (ho pins s2 σ H2 x y v u _ I2 r1 r2 q2) fun c s3 ⟨z,H3,I3,r3,k,e,q3⟩=>?_) hm
 subst e
 cases r3
 exact y30 ⟨H3,I3,q3⟩
noncomputable def TruV (K:y00) (x:V) (H:Hp) (k:Bool):Prop :=
 match x with
 | .non=>k=false
 | .bl b=>k=b
 | .int i=>k=(i != 0)
 | .str y=>y.length<=y0j/\k=((y.length:Int) != 0)
 | .byt y=>y.size<=y0j/\k=((y.size:Int) != 0)
 | .ref p=>(∃xs,SqL K H p xs/\k=!xs.isEmpty)\/(∃xs,SqT K H p xs/\k=!xs.isEmpty)\/∃kvs,H p=some (.dK kvs)/\k=!kvs.isEmpty
 | _=>False
theorem zet {κ:Type} {kvs:List (κ×V)} {vs:List (κ×Value)} (r:KV kvs vs):(!vs.isEmpty)=!kvs.isEmpty:=by
 cases r <;> rfl
theorem z8m {xs:List V} {its:List Value} (r:Vals xs its):(!its.toArray.isEmpty)=!xs.isEmpty:=by
 cases r <;> simp
theorem z7a:(y0j:Nat)<2 ^ 63:=by rw[y2p];decide
theorem znk:TruR X (fun x H Q=>∃k,TruV X.K x H k/\Q k H):=by
 intro pins s σ H x v Q I rx h
 obtain⟨k,e,q⟩:=h
 have hl:=z7a
 have hs:y0j=16777216:=y2p
 cases x with
 | non =>
  cases rx
  have e':k=false:=e
  subst e'
  exact truthy_none ⟨H,I,q⟩
 | bl b =>
  cases rx
  have e':k=b:=e
  subst e'
  exact y30 ⟨H,I,q⟩
 | int i =>
  obtain⟨t,rfl⟩:=rx
  have e':k=(i != 0):=e
  subst e'
  exact PySem.P.truthy_int ⟨H,I,q⟩
 | str y =>
  obtain⟨t,rfl⟩:=rx
  obtain⟨hy,e'⟩:y.length<=y0j/\k=((y.length:Int) != 0):=e
  subst e'
  exact PySem.P.truthy_str (by omega) ⟨H,I.tok _,q⟩
 | byt y =>
  obtain⟨t,rfl⟩:=rx
  obtain⟨hy,e'⟩:y.size<=y0j/\k=((y.size:Int) != 0):=e
  subst e'
  exact PySem.W.truthy_bytes (by omega) ⟨H,I.tok _,q⟩
 | ref p =>
  cases rx
  have e':(∃xs,SqL X.K H p xs/\k=!xs.isEmpty)\/(∃xs,SqT X.K H p xs/\k=!xs.isEmpty)\/∃kvs,H p=some (.dK kvs)/\k=!kvs.isEmpty:=e
  rcases e' with ⟨xs,hx,e'⟩|⟨xs,hx,e'⟩|⟨kvs,hx,e'⟩
  ·subst e'
   obtain⟨its,r,pl,hz⟩:=I.list hx
   have hlen:=r.length
   exact wpAny_truthy_list pl.isList (by simp only[y0h];omega) ⟨H,I.tok _,by rw[z8m r];exact q⟩
  ·subst e'
   obtain⟨its,r,pl,hz⟩:=I.tuple hx
   have hlen:=r.length
   exact truthy_tuple pl (by simp only[y0h];omega) ⟨H,I.tok _,by rw[z8m r];exact q⟩
  ·subst e'
   obtain⟨hz,hS,vs,r,m⟩:kvs.length<=y0j/\(p == sysModules)=false/\∃vs,KV kvs vs/\s.heap.DictOf (z0f X.prog X.w) p vs:=I.hok p _ hx
   have hlen:kvs.length=vs.length:=Paired.length r
   exact wpAny_truthy_dict hS m (by omega) ⟨H,I.tok _,by rw[zet r];exact q⟩
 | _=>exact (show False from e).elim
theorem zj5 (ha:PE X a ta) (he:∀whole,isTrue a X.env whole=(do let v <- whole;standAt a.pos;holding [v] (truthy v))) :
  PT X a (fun σ H Q=>ta σ H fun x H'=>∃k,TruV X.K x H' k/\Q k H'):=by
 intro pins s σ H Q I h
 exact isTrue_plain (thn (ha pins s σ H _ I h) fun v s1 ⟨x,H1,I1,r1,q1⟩=>znk pins s1 σ H1 x v Q I1 r1 q1) (he _)
theorem zen:OpR X (y35 .Add) (fun x y H Q=>∃i j,x=.str i/\y=.str j/\i.length+j.length<=y0j/\Q (.str (i++j)) H):=by
 intro pins s σ H x y v u Q I rx ry h
 obtain⟨i,j,rfl,rfl,hz,q⟩:=h
 obtain⟨t,rfl⟩:=rx
 obtain⟨t',rfl⟩:=ry
 exact add_str (fun t' tk=>⟨.str (i++j),H,I.tok _,⟨_,rfl⟩,q⟩) hz
theorem vals1 {x:V} {us:List Value} (r:Vals [x] us):∃u,us=[u]/\RelV x u:=by
 cases r with
 | cons r1 r2=>cases r2;exact⟨_,rfl,r1⟩
theorem vals2 {x y:V} {us:List Value} (r:Vals [x,y] us):∃u w',us=[u,w']/\RelV x u/\RelV y w':=by
 cases r with
 | cons r1 r2 =>
  cases r2 with
  | cons r3 r4=>cases r4;exact⟨_,_,rfl,r1,r3⟩
theorem zi0 (hc:X.calm=true):z23 X (.builtin "max") (fun xs H Q=>∃i j,xs=[.int i,.int j]/\Q (.int (if j > i then j else i)) H):=by
 intro pins s σ H xs us Q I r h
 obtain⟨i,j,rfl,q⟩:=h
 obtain⟨u,w',rfl,⟨t,rfl⟩,⟨t',rfl⟩⟩:=vals2 r
 refine max_two_ints (I.ok.hd hc) fun h' tk k=>⟨_,H,I.kept k,?_,q⟩
 by_cases hj:j > i
 ·rw[if_pos hj,if_pos hj];exact⟨_,rfl⟩
 ·rw[if_neg hj,if_neg hj];exact⟨_,rfl⟩
theorem zhz (hc:X.calm=true):z23 X (.builtin "min") (fun xs H Q=>∃i j,xs=[.int i,.int j]/\Q (.int (if j<i then j else i)) H):=by
 intro pins s σ H xs us Q I r h
 obtain⟨i,j,rfl,q⟩:=h
 obtain⟨u,w',rfl,⟨t,rfl⟩,⟨t',rfl⟩⟩:=vals2 r
 refine min_two_ints (I.ok.hd hc) fun h' tk k=>⟨_,H,I.kept k,?_,q⟩
 by_cases hj:j<i
 ·rw[if_pos hj,if_pos hj];exact⟨_,rfl⟩
 ·rw[if_neg hj,if_neg hj];exact⟨_,rfl⟩
theorem zi1:z23 X (.type "int") (fun xs H Q=>(∃i,xs=[.int i]/\Q (.int i) H)\/∃k,xs=[.bl k]/\Q (.int (if k then 1 else 0)) H):=by
 intro pins s σ H xs us Q I r h
 rcases h with ⟨i,rfl,q⟩|⟨k,rfl,q⟩
 ·obtain⟨u,rfl,t,rfl⟩:=vals1 r
  exact call_int_int ⟨.int i,H,I,⟨_,rfl⟩,q⟩
 ·obtain⟨u,rfl,r1⟩:=vals1 r
  cases r1
  exact call_int_bool ⟨.int (if k then 1 else 0),H,I.tok _,⟨_,rfl⟩,q⟩
end
end L2
namespace L2
open PySem PySem.Spec PyProof.Rows
section
variable {prog:y0q} {w:World} {A:Around} {E:Value->y04->Prop} {s:y04} {K:y00} {x dx C f:Addr} {mA:Str->Option Value} {name:Str} {v:Value}
end
section
variable {P:y0q} {w:World} {H H':Hp} {h h':Heap} {a C dx:Addr} {fs fs':List (Str×V)}
end
section
variable {X:Cx} {pins:List (Addr×Obj)} {σ:St} {H:Hp} {s:y04} {a C dx:Addr} {fs:List (Str×V)} {f:Str} {v:V} {A:Around} {E:Value->y04->Prop}
end
section
variable {X:Cx} {o e value:Expr} {f:Str} {pos pos' tpos:Pos} {ta tv:TE}
end
section
variable {X:Cx} {pins:List (Addr×Obj)} {σ:St} {H:Hp} {s:y04} {A:Around} {E:Value->y04->Prop} {Q:Value->y04->Prop} {c:Value} {b:Bool}
end
end L2
namespace L2
open PySem PySem.Spec PyProof.Rows
structure Room (k:Nat) (A:Around):Prop where
 hd:A.handled=none
 dp:A.depth+3*k+5<recursionLimit
 un:A.units+16*k+200<cLine
 gd:A.guards=some []
theorem Room.mono {j k:Nat} {A:Around} (r:Room k A) (h:j<=k):Room j A:=⟨r.hd,by have:=r.dp;omega,by have:=r.un;omega,r.gd⟩
theorem Room.deeper {k:Nat} {A:Around} (r:Room (k+1) A) (env:Env):Room k (A.deeper env) :=
 ⟨r.hd,by have:=r.dp;show A.depth+1+3*k+5<_;omega,by have:=r.un;show A.units+3+16*k+200<_;omega,r.gd⟩
theorem Room.in1 {k:Nat} {A:Around} (r:Room (k+1) A):Room k A.in1 :=
 ⟨r.hd,by have:=r.dp;show A.depth+3*k+5<_;omega,by have:=r.un;show A.units+1+16*k+200<_;omega,r.gd⟩
theorem Room.depth {k:Nat} {A:Around} (r:Room k A):A.depth<recursionLimit:=by have:=r.dp;omega
theorem Room.units {k:Nat} {A:Around} (r:Room k A):A.units+64<cLine:=by have:=r.un;omega
def tNil:TA:=fun _ H Q=>Q [] H
def znp (ta:TE) (tr:TA):TA:=fun σ H Q=>ta σ H fun x H1=>tr σ H1 fun xs H2=>Q (x::xs) H2
section
variable {X:Cx} {e:Expr} {es:List Expr} {te:TE} {t:TA} {pos:Pos}
theorem z2y:PA X [] tNil:=fun _ _ _ _ H Q I h=>Calls.spliced_nil ⟨[],H,I,.nil,h⟩
theorem z1w (ha:PE X e te) (hr:PA X es t) (hs:y0a (e::es) X.env=(false,eval e X.env)::y0a es X.env:=by rfl):PA X (e::es) (znp te t):=by
 intro pos pins s σ H Q I h
 rw[hs]
 show y0u _ _ (spliced ((false,eval e X.env)::y2l pos (y0a es X.env))) _ _ s
 refine Calls.spliced_cons (thn (ha pins s σ H _ I h) fun u s1 ⟨x,H1,I1,r1,q1⟩=>?_)
 exact thn (hr pos pins s1 σ H1 _ I1 q1) fun us s2 ⟨xs,H2,I2,r2,q2⟩=>⟨x::xs,H2,I2,.cons r1 r2,q2⟩
def tTup (t:TA):TE:=fun σ H Q=>t σ H fun xs H1=>xs.length<=y0j/\∀p,H1 p=none->Q (.ref p) (upd H1 p (.tup xs))
def tLst (t:TA):TE:=fun σ H Q=>t σ H fun xs H1=>xs.length<=y0j/\∀p,H1 p=none->Q (.ref p) (upd H1 p (.lst xs))
theorem zog {x1} (h:PA X es t):PE X (.Tuple es x1 pos) (tTup t):=by
 intro pins s σ H Q I hq
 refine wpAny_Tuple_spliced (thn (h pos pins s σ H _ I hq) fun us s1 ⟨xs,H1,I1,r,z,q⟩=>⟨by rw[<- r.length];exact z,?_⟩)
 have hf:H1 s1.heap.objs.size=none:=I1.hok.fresh (y0o _)
 refine⟨.ref s1.heap.objs.size,upd H1 s1.heap.objs.size (.tup xs),I1.laid (t':=s1.toks) (fun b u e=>y03 _ e) (y0o _) ?_,rfl,q _ hf⟩
 exact⟨z,us,r,⟨_,y0l _ rfl,rfl,_,rfl⟩⟩
theorem zol (h:PA X es t):PE X (.List es pos) (tLst t):=by
 intro pins s σ H Q I hq
 refine wpAny_List_spliced (thn (h pos pins s σ H _ I hq) fun us s1 ⟨xs,H1,I1,r,z,q⟩=>⟨by rw[<- r.length];exact z,?_⟩)
 have hf:H1 s1.heap.objs.size=none:=I1.hok.fresh (y0o _)
 refine⟨.ref s1.heap.objs.size,upd H1 s1.heap.objs.size (.lst xs),I1.laid (t':=s1.toks) (fun b u e=>y03 _ e) (y0o _) ?_,rfl,q _ hf⟩
 exact⟨z,us,0,r,y0l _ rfl⟩
end
abbrev Sp:=List V->Hp->VK->XK->Prop
abbrev CXT:=List Env->Hp->y04->XK->Value->y04->Prop
structure Env0 (P:y0q) (w:World) (K:y00) (mg:Str->Option Value) (base:Heap) (A:Around) (outer:List Env) (s:y04) (H:Hp):Prop where
 frames:A.frames=some outer
 mod:Mod K mg base
 bs:∀b o,base.get? b=some o->s.heap.get? b=some o/\H b=none
 bsz:base.objs.size<=s.heap.objs.size
 funs:s.heap.FunFrames base outer
 frf:∀b∈frs outer,H b=none
 hok:HOk P w H s.heap
 bare:AllBare s.gens
noncomputable def CE (outer:List Env) (P:y0q) (w:World) (H:Hp) (s:y04) (Q:VK) (u:Value) (s':y04):Prop :=
 ∃v H',s'.os=s.os/\AllBare s'.gens/\Un (frs outer) [] H H' s.heap s'.heap/\HOk P w H' s'.heap/\RelV v u/\Q v H'
noncomputable def CR (CX:CXT) (outer:List Env) (P:y0q) (w:World) (H:Hp) (s:y04) (Q:VK) (E:XK) (r:Result) (s':y04):Prop :=
 match r with
 | .ok (.ret u)=>CE outer P w H s Q u s'
 | .ok _=>False
 | .error e=>CX outer H s E e s'
structure FnOk (P:y0q) (w:World) (K:y00) (mg:Str->Option Value) (base:Heap) (CX:CXT) (k:Nat) (f:Addr) (fd:y0b) (ps:List Str) (sp:Sp):Prop where
 len:∀vs H Q E,sp vs H Q E->vs.length=ps.length
 run:∀(A:Around) (outer:List Env) (s:y04) (H:Hp) (args:Args) (us:List Value) (vs:List V) (Q:VK) (E:XK),Room k A->Env0 P w K mg base A outer s H->BindsTo s fd args (ps.zip us)->Vals vs us->sp vs H Q E ->
  y31 (y37 P w) A (.call (.ref f) args) (CR CX outer P w H s Q E) s
theorem FnOk.mono {P:y0q} {w:World} {K:y00} {mg:Str->Option Value} {base:Heap} {CX:CXT} {j k:Nat} {f:Addr} {fd:y0b} {ps:List Str} {sp:Sp} (F:FnOk P w K mg base CX j f fd ps sp) (h:j<=k) :
  FnOk P w K mg base CX k f fd ps sp:=⟨F.len,fun A outer s H args us vs Q E hr=>F.run A outer s H args us vs Q E (hr.mono h)⟩
theorem FnOk.imp {P:y0q} {w:World} {K:y00} {mg:Str->Option Value} {base:Heap} {CX:CXT} {k:Nat} {f:Addr} {fd:y0b} {ps:List Str} {sp sp':Sp} (F:FnOk P w K mg base CX k f fd ps sp)
  (h:∀vs H Q E,sp' vs H Q E->sp vs H Q E):FnOk P w K mg base CX k f fd ps sp' :=
 ⟨fun vs H Q E q=>F.len vs H Q E (h _ _ _ _ q),fun A outer s H args us vs Q E hr he hb hv hs=>F.run A outer s H args us vs Q E hr he hb hv (h _ _ _ _ hs)⟩
theorem Env0.in1 {P:y0q} {w:World} {K:y00} {mg:Str->Option Value} {base:Heap} {A:Around} {outer:List Env} {s:y04} {H:Hp} (e:Env0 P w K mg base A outer s H) :
  Env0 P w K mg base A.in1 outer s H:=⟨e.frames,e.mod,e.bs,e.bsz,e.funs,e.frf,e.hok,e.bare⟩
section
variable {X:Cx} {pins:List (Addr×Obj)} {σ:St} {H:Hp} {s s':y04}
theorem Inv.env0 (I:Inv X pins σ H s):Env0 X.prog X.w X.K X.mg X.base X.A X.stack s H :=
 ⟨I.ok.frames,I.ok.mod,I.bs,y1p I.ok.bsz I.sz,I.stack,I.stkFree,I.hok,I.bare⟩
theorem Inv.after {Q:VK} {u:Value} (I:Inv X pins σ H s) (h:CE X.stack X.prog X.w H s Q u s'):EP X pins σ Q u s':=by
 obtain⟨v,H',os,bare,un,hok,r,q⟩:=h
 obtain⟨hh,g,d,t,os'⟩:=s'
 obtain rfl:os'=s.os:=os
 exact⟨v,H',I.call (h':=hh) (g':=g) (d':=d) (t':=t) (ch:=[]) un hok bare (fun b z=>absurd z (by simp)),r,q⟩
end
def zpz (sp:Sp) (dvs:List V) (E:XK) (t:TA):TE:=fun σ H Q=>t σ H fun vs H1=>sp (vs++dvs) H1 Q E
def Binds (K:y00) (fd:y0b) (ps:List Str) (ds:List Value):Prop :=
 ∀(s:y04) (us:List Value),K.In s.heap->(us++ds).length=ps.length->BindsTo s fd ⟨us,[]⟩ (ps.zip (us++ds))
theorem Binds.all {K:y00} {fd:y0b} {ps:List Str} (h:∀us:List Value,us.length=ps.length->bindArgs fd ⟨us,[]⟩=pure (ps.zip us)):Binds K fd ps []:=fun s us _ hl=>by
 rw[List.append_nil] at hl ⊢
 exact .of_eq (h us hl)
def Passes (CX:CXT) (X:Cx) (E:XK):Prop:=∀(pins:List (Addr×Obj)) (σ:St) (H:Hp) (s:y04) (e:Value) (s':y04),Inv X pins σ H s->CX X.stack H s E e s'->X.xe e s'
section
variable {X:Cx} {CX:CXT} {k:Nat} {f C:Addr} {fd:y0b} {ps:List Str} {sp:Sp} {dvs:List V} {ds:List Value} {E:XK} {x m:Str} {p pos apos:Pos} {e o:Expr} {es:List Expr} {ta:TE} {t:TA}
theorem znx {pins:List (Addr×Obj)} {σ:St} {H:Hp} {s:y04} {Q:VK} {us:List Value} {vs:List V} (F:FnOk X.prog X.w X.K X.mg X.base CX k f fd ps sp) (hr:Room k X.A) (hb:Binds X.K fd ps ds) (hd:Vals dvs ds) (hx:Passes CX X E)
  (I:Inv X pins σ H s) (r:Vals vs us) (h:sp (vs++dvs) H Q E):y0u (y37 X.prog X.w) X.A (call (.ref f) us) (EP X pins σ Q) X.xe s:=by
 have r2:Vals (vs++dvs) (us++ds):=r.append hd
 have hl:(us++ds).length=ps.length:=by rw[<- r2.length];exact F.len _ _ _ _ h
 refine wpAny_call (y2v (F.run X.A X.stack s H ⟨us,[]⟩ (us++ds) (vs++dvs) Q E hr I.env0 (hb s us I.kIn hl) r2 h) fun r s' hq=>?_)
 cases r with
 | error e=>exact hx pins σ H s e s' I hq
 | ok fl =>
  cases fl with
  | ret u=>exact I.after hq
  | next=>exact y1y hq
  | brk=>exact y1y hq
  | cont=>exact y1y hq
theorem zmf (F:FnOk X.prog X.w X.K X.mg X.base CX k f fd ps sp) (hr:Room k X.A) (hg:Gl X x) (hm:X.mg x=some (.ref f)) (hk:y08 X.K (.ref f)=true) (hb:Binds X.K fd ps ds) (hd:Vals dvs ds) (hx:Passes CX X E)
  (ha:PA X (e::es) t) (hdb:(x == ("__debug__":Str))=false:=by decide) (he:y0a (e::es) X.env=(false,eval e X.env)::y0a es X.env:=by rfl) (hpl:(y2l pos (y0a es X.env)).any (·.1)=false:=by rfl) :
  PE X (.Call (.Name x p) (e::es) [] pos) (zpz sp dvs E t):=by
 intro pins s σ H Q I h
 refine wpAny_Call_Name_kw (zgw I hg hm ?_ hdb)
 refine PySem.W.callWith_K (h₀:=X.base) I.ok.mod.kin hk (thn (ha pos pins s σ H _ I h) fun us s1 ⟨vs,H1,I1,r,q⟩=>⟨I1.kIn,?_⟩) he hpl
 exact znx F hr hb hd hx I1 r q
end
section
variable {X:Cx} {CX:CXT} {k:Nat} {f C:Addr} {fd:y0b} {ps ks:List Str} {sp:Sp} {E:XK} {x m:Str} {p pos apos kpos:Pos} {e o:Expr} {es:List Expr} {kws:List Keyword} {te ta:TE} {t tk:TA} {nm:Option Str}
variable {g:List Value->List Value->List Value} {gV:List V->List V->List V}
end
structure FnScope (N P:List Str) (sc:Scope):Prop where
 kind:sc.kind=.function
 co:sc.isCoroutine=false
 gen:sc.isGenerator=false
 nd:N.Nodup
 pre:N.take P.length=P
 par:∀x∈P,sc.names.lookup x=some .local\/sc.names.lookup x=some .cell
 nofree:∀y∈sc.names,y.2≠.free
theorem zbc {kindOf:Str->Option y36} {x:Str}:∀{binds:List (Str×Value)} {m:Str->Option Value},(∀v,(x,v)∉binds)->bindL kindOf binds m x=m x
  | [],_,_=>rfl
  | (n,v)::r,m,h=>by
    unfold bindL
    rw[zbc fun w hw=>h w (y05 _ hw)]
    split
    · have:x≠n:=by rintro rfl;exact h v y0e
      simp[this]
    · rfl
theorem zbe {kindOf:Str->Option y36} {x:Str}:∀{binds:List (Str×Value)} {m:Str->Option Value},(∀v,(x,v)∉binds)->bindC kindOf binds m x=m x
  | [],_,_=>rfl
  | (n,v)::r,m,h=>by
    unfold bindC
    rw[zbe fun w hw=>h w (y05 _ hw)]
    split
    · rfl
    · have:x≠n:=by rintro rfl;exact h v y0e
      simp[this]
theorem zbd {kindOf:Str->Option y36} {x:Str} {v:Value}:∀{P:List Str} {vs:List Value} {i:Nat} {m:Str->Option Value},P.Nodup->P[i]?=some x->vs[i]?=some v->kindOf x=some .local ->
  bindL kindOf (P.zip vs) m x=some v
 | [],_,_,_,_,h,_,_=>by simp at h
 | _::_,[],_,_,_,_,h,_=>by simp at h
 | p::P,w::vs,0,m,nd,h1,h2,hk=>by
  simp at h1 h2;subst h1;subst h2
  show bindL kindOf ((p,w)::P.zip vs) m p=_
  unfold bindL
  rw[zbc fun v hv=>(y0r.mp nd).1 (List.of_mem_zip hv).1,if_pos hk]
  simp
 | p::P,w::vs,i+1,m,nd,h1,h2,hk=>by
  show bindL kindOf ((p,w)::P.zip vs) m x=_
  unfold bindL
  exact zbd (i:=i) (y0r.mp nd).2 (by simpa using h1) (by simpa using h2) hk
theorem zbf {kindOf:Str->Option y36} {x:Str} {v:Value}:∀{P:List Str} {vs:List Value} {i:Nat} {m:Str->Option Value},P.Nodup->P[i]?=some x->vs[i]?=some v->kindOf x≠some .local ->
  bindC kindOf (P.zip vs) m x=some v
 | [],_,_,_,_,h,_,_=>by simp at h
 | _::_,[],_,_,_,_,h,_=>by simp at h
 | p::P,w::vs,0,m,nd,h1,h2,hk=>by
  simp at h1 h2;subst h1;subst h2
  show bindC kindOf ((p,w)::P.zip vs) m p=_
  unfold bindC
  rw[zbe fun v hv=>(y0r.mp nd).1 (List.of_mem_zip hv).1,if_neg hk]
  simp
 | p::P,w::vs,i+1,m,nd,h1,h2,hk=>by
  show bindC kindOf ((p,w)::P.zip vs) m x=_
  unfold bindC
  exact zbf (i:=i) (y0r.mp nd).2 (by simpa using h1) (by simpa using h2) hk
def start (N:List Str) (vs:List V):St:=vs.map some++y0g (N.length - vs.length) none
noncomputable def cxOf (CX:CXT) (P:y0q) (w:World) (K:y00) (mg:Str->Option Value) (base:Heap) (N:List Str) (qual:Str) (scope:Scope) (f:Addr) (cd:Value) (A:Around) (outer:List Env) (s:y04) (H:Hp) (E:XK):Cx where
 prog:=P
 w:=w
 K:=K
 mg:=mg
 base:=base
 A:=A.deeper (envOfC qual scope s.heap.objs.size f cd)
 N:=N
 s₀:=s
 H₀:=H
 env:=envOfC qual scope s.heap.objs.size f cd
 outer:=outer
 stack:=envOfC qual scope s.heap.objs.size f cd::outer
 ex:=[]
 calm:=true
 fn:=fun _=>true
 pn:=[]
 xe:=fun e s'=>y0u (y37 P w) (A.deeper (envOfC qual scope s.heap.objs.size f cd)) (leaving (envOfC qual scope s.heap.objs.size f cd) e) (fun _ s''=>CX outer H s E e s'') (fun e' s''=>CX outer H s E e' s'') s'
theorem ze6 {sc:Scope} {n:Nat} {x:Str} (h:sc.names.lookup x=some .cell):∃c,(cellsFrom n sc.names []).lookup x=some c:=by
 have q:=PySem.W.cellsFrom_some sc.names n [] (.inl h)
 exact Option.isSome_iff_exists.mp q
theorem zh9 {CX:CXT} {P:y0q} {w:World} {K:y00} {mg:Str->Option Value} {base:Heap} {N ps:List Str} {qual:Str} {scope:Scope} {f:Addr} {cd:Value} {A:Around} {outer:List Env} {s s1:y04} {H:Hp} {E:XK} {us:List Value} {vs:List V}
  (S:FnScope N ps scope) (hd:A.handled=none) (e0:Env0 P w K mg base A outer s H) (hl:vs.length=ps.length) (r:Vals vs us)
  (x:InCallC s s.heap.objs.size (bindL (envOfC qual scope s.heap.objs.size f cd).kindOf (ps.zip us) fun _=>none) (cellsFrom (s.heap.objs.size+1) scope.names []) (bindC (envOfC qual scope s.heap.objs.size f cd).kindOf (ps.zip us) fun _=>none) s1) :
  Inv (cxOf CX P w K mg base N qual scope f cd A outer s H E) [] (start N vs) H s1:=by
 have hpl:ps.length<=N.length:=by have:=congrArg List.length S.pre;rw[List.length_take] at this;omega
 obtain⟨h1,tk,rfl,hk⟩:=x.done
 have noA:∀b:Addr,b∉(cxOf CX P w K mg base N qual scope f cd A outer s H E).ex:=fun b z=>absurd (show b∈([]:List Addr) from z) (by simp)
 refine⟨⟨e0.mod,S.kind,rfl,rfl,y0o _,fun y z c h1 h2=>?_,fun y hy=>?_,fun y c _ h=>?_,fun _=>hd,Around.frames_deeper e0.frames,.inr ⟨rfl,rfl⟩,fun b z=>absurd z (noA b),e0.bs,e0.bsz,fun b _ _=>noA b,fun b z=>absurd z (noA b),e0.funs,e0.frf⟩,
  rfl,e0.bare,Un.kept hk,⟨_,x.toInCall.ns,fun i y v h1 h2 h3=>?_⟩,fun y c h=>⟨_,x.cell y c h⟩,e0.hok.fresh (y0o _),fun y c h=>?_,fun p hp=>absurd (show p∈([]:List (Addr×Obj)) from hp) (by simp),e0.hok.kept hk,?_⟩
 ·exact name_of_addr x.apart (y29 h1) (y29 h2)
 ·have hy:scope.names.lookup y=some .cell\/scope.names.lookup y=some .free:=hy
  rcases hy with hy|hy
  ·exact ze6 hy
  ·exact absurd rfl (S.nofree _ (y29 hy))
 ·exact Nat.le_of_lt (x.above y c (y29 h))
 ·have hi:i<vs.length:=by
   unfold start at h2
   by_cases hi:i<vs.length
   ·exact hi
   ·rw[y1l (by simpa using hi)] at h2
    rw[List.getElem?_replicate] at h2
    split at h2 <;> cases h2
  have ha:vs[i]?=some v:=by
   unfold start at h2
   rw[y1n (by simpa using hi),y14] at h2
   cases e:vs[i]? with
   | none=>rw[e] at h2;cases h2
   | some a=>rw[e] at h2;cases h2;rfl
  obtain⟨u,hu,rv⟩:=r.get ha
  have hp:ps[i]?=some y:=by
   rw[<- S.pre,List.getElem?_take_of_lt (by omega)];exact h1
  have ndP:ps.Nodup:=by rw[<- S.pre];exact S.nd.sublist (List.take_sublist _ _)
  refine⟨u,rv,?_⟩
  rcases S.par y (y1v hp) with k|k
  ·exact .inl ⟨k,zbd ndP hp hu k⟩
  ·obtain⟨c,e⟩:=ze6 (n:=s.heap.objs.size+1) k
   refine .inr ⟨.inl k,c,e,?_⟩
   have q:=x.cell y c e
   rw[zbf ndP hp hu (by show scope.names.lookup y≠_;rw[k];decide)] at q
   exact q
 ·exact e0.hok.fresh (Nat.le_of_lt (x.above y c (y29 h)))
 ·unfold start
  show _=N.length
  rw[y21,y13,List.length_replicate]
  omega
theorem zpd {CX:CXT} {P:y0q} {w:World} {K:y00} {mg:Str->Option Value} {base:Heap} {k:Nat} {f:Addr} {name qual:Str} {params:Arguments} {body:List Stmt} {scope:Scope} {dV kV doc pm cdv ct oc:Value} {an od:Option Addr}
  {osl:Array (Option Value)} {N ps:List Str} {sp:Sp} (lk:K.lookup f=some ⟨oc,od,.func (y0i name qual params body scope dV kV doc pm an cdv ct),osl⟩) (hcd:y0f K cdv qual=true) (S:FnScope N ps scope)
  (len:∀vs H Q E,sp vs H Q E->vs.length=ps.length)
  (hbody:∀(A:Around) (outer:List Env) (s:y04) (H:Hp) (vs:List V) (Q:VK) (E:XK),Room k (A.deeper (envOfC qual scope s.heap.objs.size f cdv))->sp vs H Q E ->
   ∃t,PSs (cxOf CX P w K mg base N qual scope f cdv A outer s H E) body t/\t { nx:=fun _ H'=>Q .non H',rt:=Q } (start N vs) H) :
  FnOk P w K mg base CX (k+1) f (y0i name qual params body scope dV kV doc pm an cdv ct) ps sp:=by
 refine⟨len,fun A outer s H args us vs Q E hr e0 hb r hsp=>?_⟩
 have hl:=len _ _ _ _ hsp
 have KX:K.In s.heap:=e0.mod.kin.keeps fun b o e=>(e0.bs b o e).1
 have lim:s.heap.NoLimit:=e0.mod.nolimit.keeps fun b o e=>(e0.bs b o e).1
 have hkind:∀y∈ps.zip us,scope.names.lookup y.1=some .local\/(scope.names.lookup y.1=some .cell/\((cellsFrom (s.heap.objs.size+1) scope.names []).lookup y.1).isSome=true):=fun⟨n,v⟩ hy=>by
  rcases S.par n (List.of_mem_zip hy).1 with q|q
  ·exact .inl q
  ·exact .inr ⟨q,PySem.W.cellsFrom_some _ _ _ (.inl q)⟩
 refine codeAny_call_function hr.depth (KX _ _ lk) rfl S.co S.gen rfl (PySem.W.codeRec_of KX hcd) (hb _ _ _ _ ?_)
 refine wpAny_newFunctionEnv_cells S.kind hkind fun env he s1 x=>?_
 subst he
 refine⟨lim.keeps x.toInCall.keep,codeAny_func ?_⟩
 obtain⟨t,ht,hq⟩:=hbody A outer s H vs Q E (hr.deeper _) hsp
 have I:Inv (cxOf CX P w K mg base N qual scope f cdv A outer s H E) [] (start N vs) H s1:=zh9 S hr.hd e0 hl r x
 refine y1d (ht [] s1 (start N vs) H _ I hq) (fun fl s' hs=>?_) fun e s' hs=>hs
 have fin:∀{σ':St} {H':Hp} {v:V} {u:Value},Inv (cxOf CX P w K mg base N qual scope f cdv A outer s H E) [] σ' H' s'->RelV v u->Q v H'->CE outer P w H s Q u s' :=
  fun {σ' H' v u} J rv q=>⟨v,H',J.os,J.bare,J.base,J.hok,rv,q⟩
 cases fl with
 | ret u =>
  obtain⟨v,σ',H',J,rv,q⟩:=hs
  exact fin J rv q
 | next =>
  obtain⟨σ',H',J,q⟩:=hs
  exact fin (v:=V.non) (u:=Value.none) J rfl q
 | brk =>
  obtain⟨_,_,_,q⟩:=hs
  exact y1y q
 | cont =>
  obtain⟨_,_,_,q⟩:=hs
  exact y1y q
end L2
namespace L2
open PySem PySem.Spec PyProof.Rows
section
variable {X:Cx} {x:Str} {p pos:Pos} {e:Expr} {es:List Expr} {t:TA} {id T:String} {r:List V->Hp->VK->Prop}
def tCB (r:List V->Hp->VK->Prop) (t:TA):TE:=fun σ H Q=>t σ H fun vs H1=>r vs H1 Q
theorem z2r (hc:z23 X (.builtin id) r) (hg:Gl X x) (hm:X.mg x=none) (hv:bootBuiltins x=some (.builtin id)) (ha:PA X (e::es) t) (hn:x≠"__name__":=by decide) (hdb:(x == ("__debug__":Str))=false:=by decide)
  (he:y0a (e::es) X.env=(false,eval e X.env)::y0a es X.env:=by rfl) (hpl:(y2l pos (y0a es X.env)).any (·.1)=false:=by rfl):PE X (.Call (.Name x p) (e::es) [] pos) (tCB r t):=by
 intro pins s σ H Q I h
 refine wpAny_Call_Name_kw (z8l I hg hm hv ?_ hn hdb)
 exact PyProof.Rows.callWith_builtin1 (thn (ha pos pins s σ H _ I h) fun us s1 ⟨vs,H1,I1,r1,q1⟩=>hc pins s1 σ H1 vs us Q I1 r1 q1) he hpl
theorem z2g (hc:z23 X (.type T) r) (hg:Gl X x) (hm:X.mg x=none) (hv:bootBuiltins x=some (.type T)) (ha:PA X (e::es) t) (hn:x≠"__name__":=by decide) (hdb:(x == ("__debug__":Str))=false:=by decide)
  (he:y0a (e::es) X.env=(false,eval e X.env)::y0a es X.env:=by rfl) (hpl:(y2l pos (y0a es X.env)).any (·.1)=false:=by rfl):PE X (.Call (.Name x p) (e::es) [] pos) (tCB r t):=by
 intro pins s σ H Q I h
 refine wpAny_Call_Name_kw (z8l I hg hm hv ?_ hn hdb)
 exact y1t (thn (ha pos pins s σ H _ I h) fun us s1 ⟨vs,H1,I1,r1,q1⟩=>hc pins s1 σ H1 vs us Q I1 r1 q1) he hpl
end
end L2
namespace HT
open PySem PyProof.Rows
section
open PySem.SeqAt
open PySem.AutoSeq1 (wpAny_loadPart')
open PySem.MeetsSeq PySem.MeetsSeq2 PySem.MeetsSeq3
end
section
variable {prog:y0q} {w:World} {A:Around} {E:Value->y04->Prop} {s:y04}
theorem cat_tup {t b:Addr} {vs ws:List Value} {Q:Value->y04->Prop} (ht:IsTup s.heap t vs.toArray) (hb:IsTup s.heap b ws.toArray) (hv:vs≠[])
  (h1:ws=[]->Q (.ref t) s) (h2:ws≠[]->Q (.ref s.heap.objs.size) { s with heap:=s.heap.push { cls:=.type "tuple",data:=.seq (vs++ws).toArray } })
  (hsz:vs.length+ws.length<=y0j):y0u (y37 prog w) A (y35 .Add (.ref t) (.ref b)) Q E s:=by
 obtain⟨⟨cls,dd,data,sl⟩,ho,hc,n,hd⟩:=id ht
 obtain⟨⟨cls2,dd2,data2,sl2⟩,ho2,hc2,n2,hd2⟩:=id hb
 simp only at hc hd hc2 hd2
 subst hc hd hc2 hd2
 have e:vs.toArray++ws.toArray=(vs++ws).toArray:=by simp
 by_cases hw:ws=[]
 ·exact concat_meets ⟨_,ho,rfl⟩ ⟨_,ho2,rfl⟩ noFill_tuple_add seq_tuple_add PySem.F.slot_tuple_add PySem.F.entry_tuple_add (PySem.F.args_tuple_add_2 _ _)
   (tuple_addW1 t b vs.toArray ws.toArray n n2 dd dd2 sl sl2 (by simpa using hv) (by simp[hw])) ⟨ho,ho2,h1 hw⟩
 ·refine concat_meets ⟨_,ho,rfl⟩ ⟨_,ho2,rfl⟩ noFill_tuple_add seq_tuple_add PySem.F.slot_tuple_add PySem.F.entry_tuple_add (PySem.F.args_tuple_add_2 _ _)
   (tuple_addW2 t b vs.toArray ws.toArray n n2 dd dd2 sl sl2 (by simpa using hv) (by simpa using hw) (by rw[y0h,y0h];exact hsz)) ⟨ho,ho2,?_⟩
  rw[e]
  exact h2 hw
def sIx (n d:Nat):Option Int->Nat
 | none=>d
 | some v=>if v<0 then (v+(n:Int)).toNat else min v.toNat n
theorem znv (n d:Nat) (hd:d<=n) (o:Option Int):sIx n d o<=n:=by
 cases o with
 | none=>exact hd
 | some v =>
  show (if v<0 then (v+(n:Int)).toNat else min v.toNat n)<=n
  by_cases hv:v<0
  ·rw[if_pos hv];omega
  ·rw[if_neg hv];exact Nat.min_le_right _ _
theorem zhv (v:Int) (n d:Nat):(if v<0 then max (v+(n:Int)) 0 else min v (n:Int))=((sIx n d (some v):Nat):Int):=by
 show (if v<0 then max (v+(n:Int)) 0 else min v (n:Int))=(((if v<0 then (v+(n:Int)).toNat else min v.toNat n):Nat):Int)
 by_cases hv:v<0
 ·simp only[if_pos hv];omega
 ·simp only[if_neg hv];omega
theorem zfa (lo hi:Option Int) (n:Nat):Builtin.Slice.sliceAdjust lo hi 1 (n:Int)=(((sIx n 0 lo:Nat):Int),((sIx n n hi:Nat):Int)):=by
 have h1:¬((1:Int)<0):=by omega
 unfold Builtin.Slice.sliceAdjust
 simp only[h1,if_false]
 refine Prod.ext ?_ ?_
 ·cases lo with
  | none=>rfl
  | some v=>exact zhv v n 0
 ·cases hi with
  | none=>rfl
  | some v=>exact zhv v n n
theorem zem (i j:Nat):y1j (i:Int) (j:Int) 1=j - i:=by
 unfold y1j
 have h1:(1:Int) > 0:=by omega
 simp only[h1,if_true,Int.ediv_one]
 split <;> omega
theorem z8a {v:Value} {o:Option Int} {Q:Option Int->y04->Prop} (p:IsPart v o) (h:Q o s):y0u (y37 prog w) A (Builtin.Slice.slicePartIndex v) Q E s:=by
 cases p with
 | none=>exact slicePart_none h
 | int i t=>exact slicePart_int h
theorem sliceApplied_gen {sl:Addr} {vl vu:Value} {lo hi:Option Int} {n:Nat} {Q:Int×Int×Nat->y04->Prop} (hs:s.heap.IsSliceOf sl vl vu .none) (pl:IsPart vl lo) (pu:IsPart vu hi)
  (h:Q (((sIx n 0 lo:Nat):Int),1,sIx n n hi - sIx n 0 lo) s):y0u (y37 prog w) A (Builtin.Slice.sliceApplied (.ref sl) (pure (n:Int))) Q E s:=by
 obtain⟨os,hos,hcs,hds⟩:=id hs
 unfold Builtin.Slice.sliceApplied Builtin.Slice.sliceFields
 refine y02 (y02 (y2m hos hds (x:=vl) rfl (y02 (y2m hos hds (x:=vu) rfl (y02 (y2m hos hds (x:=.none) rfl (y06 ?_)))))))
 refine y02 (slicePart_none ?_)
 show y0u _ _ (if ((1:Int) == 0)=true then _ else _) _ _ s
 rw[if_neg (by decide)]
 refine y02 (z8a pl (y02 (z8a pu (y02 (y06 ?_)))))
 show y0u _ _ (match Builtin.Slice.sliceAdjust lo hi 1 (n:Int) with|(lo,hi)=>pure (lo,(1:Int),y1j lo hi 1)) _ _ s
 rw[zfa lo hi n]
 show y0u _ _ (pure (((sIx n 0 lo:Nat):Int),(1:Int),y1j ((sIx n 0 lo:Nat):Int) ((sIx n n hi:Nat):Int) 1)) _ _ s
 rw[zem]
 exact y06 h
theorem zj9 (xs:Array Value) (i k:Nat):((List.range k).filterMap fun (m:Nat)=>xs[((i:Int)+(m:Int)*1).toNat]?).toArray=((xs.toList.drop i).take k).toArray:=by
 have e:(fun (m:Nat)=>xs[((i:Int)+(m:Int)*1).toNat]?)=fun m=>xs[i+m]?:=by
  funext m
  have:((i:Int)+(m:Int)*1).toNat=i+m:=by omega
  rw[this]
 rw[e]
 have:=pick_run xs i k
 rw[List.filterMap_map] at this
 have e2:((fun x=>xs[x]?) ∘ fun x=>i+x)=fun m=>xs[i+m]?:=rfl
 rw[e2] at this
 rw[this]
theorem getItem_tuple_cut {t sl:Addr} {items:Array Value} {vl vu:Value} {lo hi:Option Int} {Q:Value->y04->Prop} (ht:IsTup s.heap t items) (hs:s.heap.IsSliceOf sl vl vu .none) (pl:IsPart vl lo) (pu:IsPart vu hi)
  (hw:¬(sIx items.size 0 lo=0/\sIx items.size items.size hi=items.size))
  (h:Q (.ref s.heap.objs.size) { s with heap:=s.heap.push { cls:=.type "tuple",data:=.seq ((items.toList.drop (sIx items.size 0 lo)).take (sIx items.size items.size hi - sIx items.size 0 lo)).toArray } })
  (hsz:items.size<=y0j):y0u (y37 prog w) A (getItem (.ref t) (.ref sl)) Q E s:=by
 have htake:sizeOk (.seq ((items.toList.drop (sIx items.size 0 lo)).take (sIx items.size items.size hi - sIx items.size 0 lo)).toArray):=by
  show ((items.toList.drop (sIx items.size 0 lo)).take (sIx items.size items.size hi - sIx items.size 0 lo)).toArray.size<=y0j
  rw[y0h,List.length_take,List.length_drop,y1z]
  omega
 have hj:sIx items.size items.size hi<=items.size:=znv _ _ (y0o _) hi
 obtain⟨os,hos,hcs,hds⟩:=id hs
 have hTs:s.TypeIs (.ref sl) "slice":=⟨os,hos,hcs⟩
 unfold getItem
 try with_reducible refine y2k ?_
 first|refine y02 (y06 ?_)|skip
 refine y02 (wpAny_sequenceKey ht.typeIs (by decide) ?_)
 refine y02 (y2n (name:=Str.ofString "__getitem__") ht.typeIs y1h
  (y2w y1h ht.typeIs entry_tuple_getitem ?_ (args_tuple_getitem _ _)))
 show y0u _ _ (Builtin.Tuple.tupleItemsOf (.ref t) >>= _) _ _ s
 refine y02 (tupleItemsOf_ ht ?_)
 refine y02 (wpAny_typeOf hTs ?_)
 rw[if_pos (by decide)]
 refine y02 (sliceApplied_gen hs pl pu ?_)
 have hno:¬((((sIx items.size 0 lo:Nat):Int) == 0 && (1:Int) == 1 && (sIx items.size items.size hi - sIx items.size 0 lo) == items.size)=true):=by
  intro q
  rw[y1b,y1b] at q
  have q1:((sIx items.size 0 lo:Nat):Int)=0:=eq_of_beq q.1.1
  have q2:sIx items.size items.size hi - sIx items.size 0 lo=items.size:=eq_of_beq q.2
  exact hw ⟨by omega,by omega⟩
 show y0u _ _ (if (((sIx items.size 0 lo:Nat):Int) == 0 && (1:Int) == 1 && (sIx items.size items.size hi - sIx items.size 0 lo) == items.size)=true then _ else _) _ _ s
 rw[if_neg hno,zj9]
 first
  | exact y02 (m:=y12 _) (y2u (y06 ⟨_,rfl,y06 h⟩) htake)
  | exact y02 (m:=y12 _) (y2u (y02 (y06 (y06 ⟨_,rfl,y06 h⟩))) htake)
  | exact y02 (y02 (m:=y12 _) (y2u (y06 (y06 ⟨_,rfl,y06 h⟩)) htake))
  | exact y02 (y02 (m:=y12 _) (y2u (y06 ⟨_,rfl,y06 h⟩) htake))
end
end HT
namespace L2
open PySem PySem.Spec PyProof.Rows
abbrev TO:=St->Hp->(Option Int->Hp->Prop)->Prop
noncomputable def PO (X:Cx) (e:Option Expr) (t:TO):Prop :=
 ∀(pins:List (Addr×Obj)) (s:y04) (σ:St) (H:Hp) (Q:Option Int->Hp->Prop),Inv X pins σ H s->t σ H Q ->
  y0u (y37 X.prog X.w) X.A (evalPart e X.env) (fun u s'=>∃o H',Inv X pins σ H' s'/\IsPart u o/\Q o H') X.xe s
def zln:TO:=fun _ H Q=>Q none H
def zpt (t:TE):TO:=fun σ H Q=>t σ H fun x H1=>∃i,x=.int i/\Q (some i) H1
theorem intsAre_of {ns:List Int}:∀{us:List Value},Vals (ns.map V.int) us->IntsAre us ns:=by
 induction ns with
 | nil=>intro us r;rw[y19] at r;cases r;exact .nil
 | cons n ns ih =>
  intro us r
  rw[y0d] at r
  cases r with
  | cons r1 r2 =>
   obtain⟨t,e⟩:=r1
   subst e
   exact .cons n t (ih r2)
section
variable {X:Cx} {e:Expr} {te:TE} {lo hi:Option Expr} {tl th:TO} {pos p2:Pos}
theorem zm8:PO X none zln:=by
 intro pins s σ H Q I h
 rw[evalPart_none]
 exact y06 ⟨none,H,I,.none,h⟩
theorem zm7 (h:PE X e te):PO X (some e) (zpt te):=by
 intro pins s σ H Q I hw
 rw[evalPart_some]
 refine thn (h pins s σ H _ I hw) fun u s1 ⟨x,H1,I1,r1,q1⟩=>?_
 obtain⟨i,rfl,q⟩:=q1
 obtain⟨t,rfl⟩:=r1
 exact⟨some i,H1,I1,.int i t,q⟩
noncomputable def SlR (X:Cx) (r:V->Option Int->Option Int->Hp->VK->Prop):Prop :=
 ∀(pins:List (Addr×Obj)) (s:y04) (σ:St) (H:Hp) (x:V) (v vl vu:Value) (lo hi:Option Int) (sl:Addr) (Q:VK),Inv X pins σ H s->RelV x v->s.heap.IsSliceOf sl vl vu .none->IsPart vl lo->IsPart vu hi->r x lo hi H Q ->
  ∃T id,typeLookup (.type T) "__getitem__"=pure (some (.builtin id))/\s.TypeIs v T/\y0u (y37 X.prog X.w) X.A (getItem v (.ref sl)) (EP X pins σ Q) X.xe s
theorem SlR.or {r r':V->Option Int->Option Int->Hp->VK->Prop} (h:SlR X r) (h':SlR X r'):SlR X (fun x lo hi H Q=>r x lo hi H Q\/r' x lo hi H Q):=by
 intro pins s σ H x v vl vu lo hi sl Q I rx hs pl pu q
 rcases q with q|q
 ·exact h pins s σ H x v vl vu lo hi sl Q I rx hs pl pu q
 ·exact h' pins s σ H x v vl vu lo hi sl Q I rx hs pl pu q
def tSl (r:V->Option Int->Option Int->Hp->VK->Prop) (te:TE) (tl th:TO):TE:=fun σ H Q=>te σ H fun x H1=>tl σ H1 fun l H2=>th σ H2 fun u H3=>r x l u H3 Q
theorem zjc {r:V->Option Int->Option Int->Hp->VK->Prop} (hr:SlR X r) (he:PE X e te) (hl:PO X lo tl) (hu:PO X hi th):PE X (.Subscript e (.Slice lo hi none p2) pos) (tSl r te tl th):=by
 intro pins s σ H Q I h
 refine Subscript_ (thn (he pins s σ H _ I h) fun v s1 ⟨x,H1,I1,r1,q1⟩=>?_)
 refine wpAny_Slice (thn (hl pins s1 σ H1 _ I1 q1) fun vl s2 ⟨l,H2,I2,pl,q2⟩=>thn (hu pins s2 σ H2 _ I2 q2) fun vu s3 ⟨u,H3,I3,pu,q3⟩=>?_)
 rw[evalPart_none]
 refine y06 ?_
 have I4:Inv X pins σ H3 { s3 with heap:=s3.heap.push { cls:=.type "slice",data:=.fields #[vl,vu,.none] } }:=I3.kept (t':=s3.toks) fun b ob q=>y03 _ q
 obtain⟨T,id,hT,ht,hg⟩:=hr pins { s3 with heap:=s3.heap.push { cls:=.type "slice",data:=.fields #[vl,vu,.none] } } σ H3 x v vl vu l u s3.heap.objs.size Q I4 r1 (Heap.IsSliceOf.new ..) pl pu q3
 show y0u (y37 X.prog X.w) X.A (subscriptTail e (.Slice lo hi none p2) v (.ref s3.heap.objs.size)) (EP X pins σ Q) X.xe { s3 with heap:=s3.heap.push { cls:=.type "slice",data:=.fields #[vl,vu,.none] } }
 exact tail_any (ops:=[.ref s3.heap.objs.size,v]) ht hT hg (by with_unfolding_all rfl)
def cutV (xs:List V) (lo hi:Option Int):List V:=(xs.drop (HT.sIx xs.length 0 lo)).take (HT.sIx xs.length xs.length hi - HT.sIx xs.length 0 lo)
theorem z7p (xs:List V) (lo hi:Option Int):(cutV xs lo hi).length<=xs.length:=by
 unfold cutV
 rw[List.length_take,List.length_drop]
 omega
noncomputable def rSlT (K:y00):V->Option Int->Option Int->Hp->VK->Prop:=fun x lo hi H Q=>∃a xs,x=.ref a/\SqT K H a xs /\
 ¬(HT.sIx xs.length 0 lo=0/\HT.sIx xs.length xs.length hi=xs.length)/\∀p,H p=none->Q (.ref p) (upd H p (.tup (cutV xs lo hi)))
theorem znr:SlR X (rSlT X.K):=by
 intro pins s σ H x v vl vu lo hi sl Q I rx hs pl pu h
 obtain⟨a,xs,rfl,hx,hw,q⟩:=h
 cases rx
 obtain⟨its,r,ht,hz⟩:=I.tuple hx
 have hlen:its.toArray.size=xs.length:=by rw[y0h];exact r.length.symm
 refine⟨"tuple",_,PyProof.Rows.slot_tuple_getitem.lookup,ht.typeIs,?_⟩
 refine HT.getItem_tuple_cut ht hs pl pu (by rw[hlen];exact hw) ?_ (by rw[hlen];exact hz)
 rw[hlen]
 refine⟨.ref s.heap.objs.size,_,I.laid (t':=s.toks) (o:=.tup (cutV xs lo hi)) (fun b ob q=>y03 _ q) (y0o _) ?_,rfl,q _ (I.hok.fresh (y0o _))⟩
 exact⟨y1p (z7p xs lo hi) hz,_,(r.drop (HT.sIx xs.length 0 lo)).take (HT.sIx xs.length xs.length hi - HT.sIx xs.length 0 lo),IsTup.new _ _⟩
noncomputable def zq7 (K:y00):R2:=fun x y H Q=>∃a b xs ys,x=.ref a/\y=.ref b/\SqT K H a xs/\SqT K H b ys/\xs≠[]/\xs.length+ys.length<=y0j /\
 (ys=[]->Q (.ref a) H)/\(ys≠[]->∀p,H p=none->Q (.ref p) (upd H p (.tup (xs++ys))))
theorem Vals.nil_iff {xs:List V} {us:List Value} (r:Vals xs us):us=[] <-> xs=[]:=by
 cases r with
 | nil=>simp
 | cons _ _=>simp
theorem zmj:OpR X (y35 .Add) (zq7 X.K):=by
 intro pins s σ H x y v u Q I rx ry h
 obtain⟨a,b,xs,ys,rfl,rfl,ha,hb,hx,hz,q1,q2⟩:=h
 cases rx
 cases ry
 obtain⟨its,r1,p1,_⟩:=I.tuple ha
 obtain⟨its2,r2,p2,_⟩:=I.tuple hb
 refine HT.cat_tup p1 p2 (fun z=>hx (r1.nil_iff.mp z)) (fun z=>⟨.ref a,H,I,rfl,q1 (r2.nil_iff.mp z)⟩) (fun z=>?_) (by rw[<- r1.length,<- r2.length];exact hz)
 refine⟨.ref s.heap.objs.size,_,I.laid (t':=s.toks) (o:=.tup (xs++ys)) (fun b ob q=>y03 _ q) (y0o _) ?_,rfl,q2 (fun w=>z (r2.nil_iff.mpr w)) _ (I.hok.fresh (y0o _))⟩
 exact⟨by rw[y21];exact hz,_,r1.append r2,IsTup.new _ _⟩
end
end L2
namespace L2
open PySem PySem.Spec PyProof.Rows
def ixN (n:Nat) (i:Int):Option Nat:=if 0<=i then (if i<n then some i.toNat else none) else if -(n:Int)<=i then some (i+n).toNat else none
def atI {α:Type} (xs:List α) (i:Int):Option α:=(ixN xs.length i).bind fun j=>xs[j]?
theorem zmw {n:Nat} {i:Int} {j:Nat} (h:ixN n i=some j):seqIndex? i n=some j/\j<n/\-(n:Int)<=i/\i<n:=by
 unfold ixN at h
 by_cases h0:0<=i
 ·rw[if_pos h0] at h
  by_cases h1:i<n
  ·rw[if_pos h1] at h
   have e:i.toNat=j:=y2c h
   exact⟨by rw[seqIndex_of h0 h1,e],by omega,by omega,h1⟩
  ·rw[if_neg h1] at h;cases h
 ·rw[if_neg h0] at h
  by_cases h1:-(n:Int)<=i
  ·rw[if_pos h1] at h
   have e:(i+n).toNat=j:=y2c h
   exact⟨by rw[seqIndex_neg (by omega) h1,e],by omega,h1,by omega⟩
  ·rw[if_neg h1] at h;cases h
theorem zcl {α:Type} {xs:List α} {i:Int} {v:α} (h:atI xs i=some v):∃j,seqIndex? i xs.length=some j/\xs[j]?=some v/\j<xs.length/\-(xs.length:Int)<=i/\i<xs.length:=by
 unfold atI at h
 cases e:ixN xs.length i with
 | none=>rw[e] at h;cases h
 | some j =>
  rw[e] at h
  obtain⟨h1,h2,h3,h4⟩:=zmw e
  exact⟨j,h1,h,h2,h3,h4⟩
def zic (b:Expr):Prop:=∀o i,subscripted b false o i=operate [o,i] (getItem o i)
noncomputable def IxR (X:Cx) (r:R2):Prop :=
 ∀(value slice:Expr) (pins:List (Addr×Obj)) (s:y04) (σ:St) (H:Hp) (x y:V) (v u:Value) (Q:VK),Inv X pins σ H s->RelV x v->RelV y u->r x y H Q ->
  subscripted slice false v u=operate [v,u] (getItem v u)->y0u (y37 X.prog X.w) X.A (subscriptTail value slice v u) (EP X pins σ Q) X.xe s
noncomputable def MtR (X:Cx) (id:String) (r:V->List V->Hp->VK->Prop):Prop :=
 ∀(pins:List (Addr×Obj)) (s:y04) (σ:St) (H:Hp) (x:V) (xs:List V) (v:Value) (us:List Value) (Q:VK),Inv X pins σ H s->RelV x v->Vals xs us->r x xs H Q ->
  y0u (y37 X.prog X.w) X.A (call (.builtin id) (v::us)) (EP X pins σ Q) X.xe s
section
variable {X:Cx} {a b:Expr} {ta tb:TE} {pos:Pos}
theorem IxR.or {r r':R2} (h:IxR X r) (h':IxR X r'):IxR X (fun x y H Q=>r x y H Q\/r' x y H Q):=by
 intro value slice pins s σ H x y v u Q I rx ry q hs
 rcases q with q|q
 ·exact h value slice pins s σ H x y v u Q I rx ry q hs
 ·exact h' value slice pins s σ H x y v u Q I rx ry q hs
theorem zqh {r:R2} (hr:IxR X r) (ha:PE X a ta) (hb:PE X b tb) (hs:zic b):PE X (.Subscript a b pos) (tOp r ta tb):=by
 intro pins s σ H Q I h
 exact Subscript_ (binT ha hb I h fun v u s2 x y H2 I2 rx ry q=>hr a b pins s2 σ H2 x y v u Q I2 rx ry q (hs _ _))
def rIxL (K:y00):R2:=fun x y H Q=>∃p xs i v,x=.ref p/\y=.int i/\SqL K H p xs/\atI xs i=some v/\Q v H
def rIxT (K:y00):R2:=fun x y H Q=>∃p xs i v,x=.ref p/\y=.int i/\SqT K H p xs/\atI xs i=some v/\Q v H
def rIxS:R2:=fun x y H Q=>∃z i c,x=.str z/\y=.int i/\z.length<=y0j/\atI z.cps.toList i=some c/\Q (.str ⟨#[c]⟩) H
theorem zmv:IxR X (rIxL X.K):=by
 intro value slice pins s σ H x y v u Q I rx ry h hs
 obtain⟨p,xs,i,z,rfl,rfl,hq,he,q⟩:=h
 cases rx
 obtain⟨t,rfl⟩:=ry
 obtain⟨its,r,pl,hz⟩:=I.list hq
 obtain⟨j,h1,h2,h3,h4,h5⟩:=zcl he
 obtain⟨w,ew,rw'⟩:=r.get h2
 have hl:=r.length
 have hn:=z7a
 have fin:EP X pins σ Q w s:=⟨z,H,I,rw',q⟩
 by_cases h0:0<=i
 ·have hj:i.toNat=j:=by
   rw[seqIndex_of h0 h5] at h1
   exact y2c h1
  exact item_listR pl.isList h0 (by omega) (by rw[hj];simpa using ew) fin hs
 ·have hj:(i+(its.toArray.size:Int)).toNat=j:=by
   rw[seqIndex_neg (by omega) h4] at h1
   rw[y0h,<- hl]
   exact y2c h1
  exact subscriptTail_builtinR (x:=w) pl.isList.typeIs slot_list_getitem.lookup
   (wpAny_getItem_list_neg (Q:=fun r s'=>r=w/\EP X pins σ Q r s') pl.isList (by omega) (by rw[y0h] <;> omega) (by omega) (by rw[hj];simpa using ew) ⟨rfl,fin⟩) hs
theorem zp4:IxR X (rIxT X.K):=by
 intro value slice pins s σ H x y v u Q I rx ry h hs
 obtain⟨p,xs,i,z,rfl,rfl,hq,he,q⟩:=h
 cases rx
 obtain⟨t,rfl⟩:=ry
 obtain⟨its,r,pl,hz⟩:=I.tuple hq
 obtain⟨j,h1,h2,h3,h4,h5⟩:=zcl he
 obtain⟨w,ew,rw'⟩:=r.get h2
 have hl:=r.length
 have hn:=z7a
 have fin:EP X pins σ Q w s:=⟨z,H,I,rw',q⟩
 exact subscriptTail_builtinR (x:=w) pl.typeIs slot_tuple_getitem.lookup
  (getItem_tuple (j:=j) (Q:=fun r s'=>r=w/\EP X pins σ Q r s') pl (by omega) (by omega) (by rw[y0h,<- hl];exact h1) (by simpa using ew) ⟨rfl,fin⟩) hs
theorem zp5:IxR X rIxS:=by
 intro value slice pins s σ H x y v u Q I rx ry h hs
 obtain⟨z,i,c,rfl,rfl,hz,he,q⟩:=h
 obtain⟨t,rfl⟩:=rx
 obtain⟨t',rfl⟩:=ry
 obtain⟨j,h1,h2,h3,h4,h5⟩:=zcl he
 have hl:z.cps.toList.length=z.length:=by simp[Str.length]
 rw[hl] at h1 h4 h5
 have hn:=z7a
 exact tail_any (typeIs_str s z t) slot_str_getitem.lookup (getItem_str (c:=c) (by
  have e1:decide (i < -(2 ^ 63:Int))=false:=decide_eq_false (by omega)
  have e2:decide (i >= 2 ^ 63)=false:=decide_eq_false (by omega)
  rw[e1,e2,Bool.or_false]) (by rw[h1];simpa using h2) ⟨.str ⟨#[c]⟩,H,I.tok _,⟨_,rfl⟩,q⟩) hs
def rIx (K:y00):R2:=fun x y H Q=>rIxL K x y H Q\/rIxT K x y H Q\/rIxS x y H Q
theorem zp6:IxR X (rIx X.K):=zmv.or (zp4.or zp5)
theorem za6 (lo hi:Option Int) (n:Nat):(sliceBounds lo hi none n).1=((HT.sIx n 0 lo:Nat):Int)/\(sliceBounds lo hi none n).2.1=((HT.sIx n n hi:Nat):Int)/\(sliceBounds lo hi none n).2.2=1:=by
 refine⟨?_,?_,rfl⟩
 ·cases lo with
  | none=>simp[sliceBounds,HT.sIx]
  | some i =>
   simp only[sliceBounds,HT.sIx,Option.getD_none,show (1:Int) > 0 by decide,if_true]
   by_cases h:i<0
   ·simp only[h,if_true] <;> omega
   ·simp only[h,if_false] <;> omega
 ·cases hi with
  | none=>simp[sliceBounds,HT.sIx]
  | some i =>
   simp only[sliceBounds,HT.sIx,Option.getD_none,show (1:Int) > 0 by decide,if_true]
   by_cases h:i<0
   ·simp only[h,if_true] <;> omega
   ·simp only[h,if_false] <;> omega
theorem z98 (its:List Value) (lo hi:Option Int):slicePick its.toArray lo hi none=((its.drop (HT.sIx its.length 0 lo)).take (HT.sIx its.length its.length hi - HT.sIx its.length 0 lo)).toArray:=by
 obtain⟨h1,h2,h3⟩:=za6 lo hi its.toArray.size
 unfold slicePick
 rw[h1,h2,h3]
 simp only[sliceRange_one,pick_run,y0h] <;> rfl
def rSlL (K:y00):V->Option Int->Option Int->Hp->VK->Prop:=fun x lo hi H Q=>∃a xs,x=.ref a/\SqL K H a xs/\∀p,H p=none->Q (.ref p) (upd H p (.lst (cutV xs lo hi)))
theorem zlq:SlR X (rSlL X.K):=by
 intro pins s σ H x v vl vu lo hi sl Q I rx hs pl pu h
 obtain⟨a,xs,rfl,hx,q⟩:=h
 cases rx
 obtain⟨its,r,ht,hz⟩:=I.list hx
 have hlen:=r.length
 refine⟨"list",_,slot_list_getitem.lookup,ht.isList.typeIs,?_⟩
 refine wpAny_getItem_list_slice ht.isList hs pl pu .none (by simp) ?_ (by rw[y0h] <;> omega)
 rw[z98,<- hlen]
 refine⟨.ref s.heap.objs.size,_,I.laid (t':=s.toks) (o:=.lst (cutV xs lo hi)) (fun b ob q=>y03 _ q) (y0o _) ?_,rfl,q _ (I.hok.fresh (y0o _))⟩
 exact⟨y1p (z7p xs lo hi) hz,_,0,(r.drop (HT.sIx xs.length 0 lo)).take (HT.sIx xs.length xs.length hi - HT.sIx xs.length 0 lo),y0l _ rfl⟩
theorem zbb:z23 X (.builtin "len") (fun xs H Q=>∃p ys,xs=[.ref p]/\(SqL X.K H p ys\/SqT X.K H p ys)/\Q (.int ys.length) H):=by
 intro pins s σ H xs us Q I r h
 obtain⟨p,ys,rfl,hq,q⟩:=h
 obtain⟨u,rfl,rx⟩:=vals1 r
 cases rx
 have hn:=z7a
 rcases hq with hq|hq
 ·obtain⟨its,r',pl,hz⟩:=I.list hq
  have hlen:=r'.length
  exact Calls.call_len_list pl.isList (by simp only[y0h] <;> omega) ⟨.int ys.length,H,I.tok _,⟨s.toks+1,by rw[y0h,hlen]⟩,q⟩
 ·obtain⟨its,r',pl,hz⟩:=I.tuple hq
  have hlen:=r'.length
  exact len_tuple pl (by simp only[y0h] <;> omega) ⟨.int ys.length,H,I.tok _,⟨s.toks+1,by rw[y0h,hlen]⟩,q⟩
theorem zba:z23 X (.builtin "len") (fun xs H Q=>∃z,xs=[.str z]/\z.length<=y0j/\Q (.int z.length) H):=by
 intro pins s σ H xs us Q I r h
 obtain⟨z,rfl,hz,q⟩:=h
 obtain⟨u,rfl,t,rfl⟩:=vals1 r
 have hn:=z7a
 exact len_str (by omega) ⟨.int z.length,H,I.tok _,⟨_,rfl⟩,q⟩
theorem z23.or {f:Value} {r r':List V->Hp->VK->Prop} (h:z23 X f r) (h':z23 X f r'):z23 X f (fun xs H Q=>r xs H Q\/r' xs H Q):=by
 intro pins s σ H xs us Q I rs q
 rcases q with q|q
 ·exact h pins s σ H xs us Q I rs q
 ·exact h' pins s σ H xs us Q I rs q
theorem zb9:z23 X (.type "list") (fun xs H Q=>∃p ys,xs=[.ref p]/\(SqL X.K H p ys\/SqT X.K H p ys)/\∀l,H l=none->Q (.ref l) (upd H l (.lst ys))):=by
 intro pins s σ H xs us Q I r h
 obtain⟨p,ys,rfl,hq,q⟩:=h
 obtain⟨u,rfl,rx⟩:=vals1 r
 cases rx
 have fin:∀(its:List Value),Vals ys its->ys.length<=y0j->∀(h':Heap) (c':Nat),(∀b o',s.heap.get? b=some o'->h'.get? b=some o') ->
   h'.get? s.heap.objs.size=some { cls:=.type "list",dict:=none,data:=.seq its.toArray c',slots:=#[] }->EP X pins σ Q (.ref s.heap.objs.size) { s with heap:=h' }:=fun its r' hz h' c' kp e =>
  ⟨.ref s.heap.objs.size,_,I.laid (t':=s.toks) kp (y0o _) (show z2n X.prog X.w _ h' _ (.lst ys) from ⟨hz,its,c',r',e⟩),rfl,q _ (I.hok.fresh (y0o _))⟩
 rcases hq with hq|hq
 ·obtain⟨its,r',pl,hz⟩:=I.list hq
  have hlen:=r'.length
  obtain⟨o,ho,hc,n,hd⟩:=pl.isList
  exact call_list_seq p (.inl rfl) ho hc hd (fun h' c' kp e=>fin its r' hz h' c' kp e) (by simp only[y0h] <;> omega)
 ·obtain⟨its,r',pl,hz⟩:=I.tuple hq
  have hlen:=r'.length
  obtain⟨o,ho,hc,n,hd⟩:=pl
  exact call_list_seq p (.inr rfl) ho hc hd (fun h' c' kp e=>fin its r' hz h' c' kp e) (by simp only[y0h] <;> omega)
theorem z9q:z23 X (.type "tuple") (fun xs H Q=>∃p ys,xs=[.ref p]/\((SqL X.K H p ys/\∀l,H l=none->Q (.ref l) (upd H l (.tup ys)))\/(SqT X.K H p ys/\Q (.ref p) H))):=by
 intro pins s σ H xs us Q I r h
 obtain⟨p,ys,rfl,h⟩:=h
 obtain⟨u,rfl,rx⟩:=vals1 r
 cases rx
 rcases h with ⟨hq,q⟩|⟨hq,q⟩
 ·obtain⟨its,r',pl,hz⟩:=I.list hq
  have hlen:=r'.length
  refine call_tuple_list pl.isList (fun h' kp=>?_) (by simp only[y0h] <;> omega)
  have I1:Inv X pins σ H { s with heap:=h' }:=I.kept (t':=s.toks) kp
  have I2:Inv X pins σ (upd H h'.objs.size (.tup ys)) { s with heap:=h'.push { cls:=.type "tuple",data:=.seq its.toArray } } :=
   I1.laid (t':=s.toks) (fun b o e=>y03 _ e) (y0o _) (show z2n X.prog X.w _ _ _ (.tup ys) from ⟨hz,its,r',IsTup.new _ _⟩)
  exact⟨.ref h'.objs.size,_,I2,rfl,q _ (I1.hok.fresh (y0o _))⟩
 ·obtain⟨its,r',pl,hz⟩:=I.tuple hq
  exact call_tuple_same pl ⟨.ref p,H,I,rfl,q⟩
noncomputable def tyV (K:y00) (T:String) (x:V) (H:Hp):Prop:=match x with
 | .str _=>T="str"
 | .int _=>T="int"
 | .ref p=>(T="list"/\∃xs,SqL K H p xs)\/(T="tuple"/\∃o,K.lookup p=some o/\o.cls=.type "tuple"/\o.dict=none) \/
   (T="dict"/\((∃kvs,H p=some (.dK kvs))\/∃kvs,H p=some (.dT kvs)))\/(T="set"/\∃S n,H p=some (.set S n))
 | _=>False
theorem zkl {pins:List (Addr×Obj)} {σ:St} {H:Hp} {s:y04} {T:String} {x:V} {v:Value} (I:Inv X pins σ H s) (r:RelV x v) (ty:tyV X.K T x H) :
  s.TypeIs v T/\∀a,v=.ref a->∃ob,s.heap.get? a=some ob/\ob.dict=none:=by
 cases x with
 | str z =>
  obtain⟨t,rfl⟩:=r
  cases (show T="str" from ty)
  exact⟨typeIs_str s z t,fun _ e=>nomatch e⟩
 | int i =>
  obtain⟨t,rfl⟩:=r
  cases (show T="int" from ty)
  exact⟨typeIs_int s i t,fun _ e=>nomatch e⟩
 | ref p =>
  cases r
  rcases ty with ⟨rfl,xs,hq⟩|⟨rfl,o,hk,hc,hd⟩|⟨rfl,hk⟩|⟨rfl,S,n,hk⟩
  ·obtain⟨its,_,pl,_⟩:=I.list hq
   refine⟨pl.isList.typeIs,fun a e=>?_⟩
   cases e
   obtain⟨o,n,e,c,hd,_⟩:=pl
   exact⟨o,e,hd⟩
  ·refine⟨⟨o,I.kIn p o hk,hc⟩,fun a e=>?_⟩
   cases e
   exact⟨o,I.kIn _ o hk,hd⟩
  ·have z:∃o,s.heap.get? p=some o/\o.ExactDict:=by
    rcases hk with ⟨kvs,hk⟩|⟨kvs,hk⟩
    ·obtain⟨_,_,_,_,o,_,_,e,ex,_⟩:=I.hok p _ hk
     exact⟨o,e,ex⟩
    ·obtain⟨_,_,_,_,o,_,_,e,ex,_⟩:=I.hok p _ hk
     exact⟨o,e,ex⟩
   obtain⟨o,e,ex⟩:=z
   refine⟨⟨o,e,ex.1⟩,fun a e2=>?_⟩
   cases e2
   exact⟨o,e,ex.2.1⟩
  ·obtain⟨o,_,_,_,e,ex,_⟩:=I.hok p _ hk
   refine⟨⟨o,e,ex.1⟩,fun a e2=>?_⟩
   cases e2
   exact⟨o,e,ex.2.1⟩
 | _=>exact y1y ty
def tBM0 (K:y00) (T:String) (r:V->List V->Hp->VK->Prop) (to:TE):TE:=fun σ H Q=>to σ H fun x H1=>tyV K T x H1/\r x [] H1 Q
def tBM (K:y00) (T:String) (r:V->List V->Hp->VK->Prop) (to:TE) (t:TA):TE:=fun σ H Q=>to σ H fun x H1=>tyV K T x H1/\t σ H1 fun xs H2=>r x xs H2 Q
variable {o e:Expr} {es:List Expr} {to:TE} {t:TA} {name:Str} {apos cpos:Pos} {T id:String} {r:V->List V->Hp->VK->Prop}
theorem zon (pa:PlainAttrs T) (slot:Slot T name id) (hty:typeOf (.builtin id)=pure (.type "method_descriptor")) (hm:MtR X id r) (ho:PE X o to)
  (hbase:attributeBase o name X.env (eval o X.env)=eval o X.env:=by rfl) (hline:(apos.endLine == cpos.line)=true:=by rfl):PE X (.Call (.Attribute o name apos) [] [] cpos) (tBM0 X.K T r to):=by
 intro pins s σ H Q I h
 refine wpAny_Call_method0_late hbase hline (thn (ho pins s σ H _ I h) fun v s1 ⟨x,H1,I1,r1,ty,q1⟩=>?_)
 obtain⟨h1,h2⟩:=zkl I1 r1 ty
 exact⟨T,id,pa,slot,hty,h1,h2,Calls.callWith_builtin rfl (PySem.evalArgs_none (hm pins s1 σ H1 x [] v [] Q I1 r1 .nil q1))⟩
theorem zoo (pa:PlainAttrs T) (slot:Slot T name id) (hty:typeOf (.builtin id)=pure (.type "method_descriptor")) (hm:MtR X id r) (ho:PE X o to) (ha:PA X (e::es) t)
  (hbase:attributeBase o name X.env (eval o X.env)=eval o X.env:=by rfl)
  (hfew:((y2l cpos (y0a (e::es) X.env)).all (fun x=>!x.1) && (y2o cpos (y2j [] X.env)).all (fun x=>x.1.isSome)
   && decide ((e::es).length+([]:List Keyword).length+(if ([]:List Keyword).isEmpty then 0 else 1)<30))=true:=by rfl)
  (hline:(apos.endLine == cpos.line)=true:=by rfl) (hs:y0a (e::es) X.env=(false,eval e X.env)::y0a es X.env:=by rfl) (hplain:(y2l cpos (y0a es X.env)).any (·.1)=false:=by rfl) :
  PE X (.Call (.Attribute o name apos) (e::es) [] cpos) (tBM X.K T r to t):=by
 intro pins s σ H Q I h
 refine wpAny_Call_method_late hbase hfew hline rfl (thn (ho pins s σ H _ I h) fun v s1 ⟨x,H1,I1,r1,ty,q1⟩=>?_)
 obtain⟨h1,h2⟩:=zkl I1 r1 ty
 refine⟨T,id,pa,slot,hty,h1,h2,?_⟩
 have hA:=ha cpos pins s1 σ H1 _ I1 q1
 rw[hs] at hA ⊢
 refine Calls.callWith_builtin (by show (false || (y2l cpos (y0a es X.env)).any (·.1))=false;rw[hplain] <;> rfl) (Calls.evalArgs_plain ?_)
 exact thn hA fun us s2 ⟨vs,H2,I2,r2,q2⟩=>hm pins s2 σ H2 x vs v us Q I2 r1 r2 q2
end
end L2
namespace L2
open PySem PySem.Spec PyProof.Rows
noncomputable def MtM (X:Cx) (id:String) (r:V->List V->Hp->VK->Prop):Prop :=
 ∀(pins:List (Addr×Obj)) (s:y04) (σ:St) (H:Hp) (x:V) (xs:List V) (v:Value) (us:List Value) (Q:VK),Inv X pins σ H s->RelV x v->Vals xs us->r x xs H Q ->
  y0u (y37 X.prog X.w) X.A (call (.builtin id) (v::us)) (EP X pins σ Q) X.xe s
theorem Vals.one:∀{x:V} {us:List Value},Vals [x] us->∃u,us=[u]/\RelV x u
 | _,_,.cons r .nil=>⟨_,rfl,r⟩
theorem Vals.zero:∀{us:List Value},Vals [] us->us=[]
 | _,.nil=>rfl
theorem Vals.dropLast {xs:List V} {us:List Value} (h:Vals xs us):Vals xs.dropLast us.dropLast:=by
 induction h with
 | nil=>exact .nil
 | cons r t ih =>
  cases t with
  | nil=>exact .nil
  | cons q t'=>exact .cons r ih
theorem zez {α:Type} (l:List α):l.eraseIdx (l.length - 1)=l.dropLast:=by
 induction l with
 | nil=>rfl
 | cons a r ih =>
  cases r with
  | nil=>rfl
  | cons b r =>
   have e:(a::b::r).length - 1=((b::r).length - 1)+1:=by
    have h1:(a::b::r).length=r.length+2:=rfl
    have h2:(b::r).length=r.length+1:=rfl
    omega
   rw[e,List.eraseIdx_cons_succ,ih]
   all_goals rfl
section
variable {X:Cx} {pins:List (Addr×Obj)} {σ:St} {H:Hp} {s:y04} {l b:Addr} {xs ys zs:List V}
theorem Inv.lset {its its':List Value} {n:Nat} {f:Array Value->Array Value} {t':Nat} (I:Inv X pins σ H s) (hH:H l=some (.lst xs))
  (e:s.heap.get? l=some { cls:=.type "list",data:=.seq its.toArray n }) (hf:f its.toArray=its'.toArray) (hv:Vals ys its') (hz:ys.length<=y0j) :
  Inv X pins σ (upd H l (.lst ys)) { s with heap:=s.heap.update l (Obj.mapSeq f),toks:=t' }:=by
 have q:=PySem.IsL.update e f
 rw[hf] at q
 refine I.write (x:=l) (e:=l) (by rw[hH];exact trivial) (.inl rfl) (fun b' u hb hu=>(y3c s.heap (Obj.mapSeq f) (Ne.symm hb)).trans hu) ⟨_,q⟩ ?_
 exact⟨hz,its',_,hv,q⟩
theorem Inv.lnew {its:List Value} {t':Nat} (I:Inv X pins σ H s) (hv:Vals ys its) (hz:ys.length<=y0j) :
  Inv X pins σ (upd H s.heap.objs.size (.lst ys)) { s with heap:=s.heap.push { cls:=.type "list",data:=.seq its.toArray },toks:=t' } :=
 I.laid (fun _ _ q=>y03 _ q) (y0o _) ⟨hz,its,0,hv,y0l _ rfl⟩
theorem Inv.fresh (I:Inv X pins σ H s):H s.heap.objs.size=none:=I.hok.fresh (y0o _)
theorem Inv.lstM (I:Inv X pins σ H s) (hH:H l=some (.lst xs)):xs.length<=y0j/\∃(its:List Value) (n:Nat),Vals xs its/\xs.length=its.length/\s.heap.get? l=some { cls:=.type "list",data:=.seq its.toArray n }:=by
 obtain⟨z,its,n,r,e⟩:=I.hok l _ hH
 exact⟨z,its,n,r,r.length,e⟩
theorem zjm {n:Nat} (h:n<=y0j):Builtin.List.listTooLong n=false:=by
 unfold Builtin.List.listTooLong
 exact decide_eq_false (by omega)
end
section
variable {X:Cx}
def zly:V->List V->Hp->VK->Prop:=fun x vs H Q=>∃l xs y,x=.ref l/\vs=[y]/\H l=some (.lst xs)/\xs.length<y0j/\Q .non (upd H l (.lst (xs++[y])))
theorem zao:MtM X "list.append" zly:=by
 intro pins s σ H x vs v us Q I rx rv h
 obtain⟨l,xs,y,rfl,rfl,hH,hz,q⟩:=h
 cases rx
 obtain⟨u,rfl,ru⟩:=rv.one
 obtain⟨z,its,n,r,hl,e⟩:=I.lstM hH
 refine call_meets F.slot_list_append ⟨_,e,rfl⟩ F.entry_list_append (F.args_list_append_2 _ _) (PySem.list_append l its.toArray n u (by rw[y0h];omega)) ⟨e,?_⟩
 refine⟨.non,_,I.lset (its':=its++[u]) hH e (by simp) (r.append (.cons ru .nil)) ?_,rfl,q⟩
 rw[y21,List.length_singleton]
 omega
def rPop:V->List V->Hp->VK->Prop:=fun x vs H Q=>∃l xs y,x=.ref l/\vs=[]/\H l=some (.lst xs)/\xs[xs.length - 1]?=some y/\Q y (upd H l (.lst xs.dropLast))
theorem zox:MtM X "list.pop" rPop:=by
 intro pins s σ H x vs v us Q I rx rv h
 obtain⟨l,xs,y,rfl,rfl,hH,hy,q⟩:=h
 cases rx
 have hus:=rv.zero
 subst hus
 obtain⟨z,its,n,r,hl,e⟩:=I.lstM hH
 obtain⟨u,hu,ru⟩:=r.get hy
 have hy':its.toArray[its.toArray.size - 1]?=some u:=by
  show its.toArray[its.length - 1]?=some u
  rw[<- Array.getElem?_toList,<- hl]
  exact hu
 refine call_meets F.slot_list_pop ⟨_,e,rfl⟩ F.entry_list_pop (F.args_list_pop_1 _) (MeetsSeq.list_pop_last l its.toArray n u hy' (by rw[y0h];omega)) ⟨e,?_⟩
 refine⟨y,_,I.lset (its':=its.dropLast) hH e ?_ r.dropLast ?_,ru,q⟩
 ·show its.toArray.eraseIdxIfInBounds (its.toArray.size - 1)=its.dropLast.toArray
  rw[y0h,List.eraseIdxIfInBounds_toArray,zez]
 ·rw[List.length_dropLast]
  omega
end
section
variable {prog:y0q} {w:World} {A:Around} {E:Value->y04->Prop} {s:y04}
end
section
variable {X:Cx}
end
end L2
namespace Att
open PySem PySem.W PySem.Calls PyProof.Rows
theorem z7h {P:Params} {h:Heap}:∀(ns:List Int) (vs:List Value),WellAll P h vs (ns.map WData.int)->IntsAre vs ns:=by
 intro ns
 induction ns with
 | nil =>
  intro vs w
  rw[y19] at w
  cases w
  exact .nil
 | cons n ns ih =>
  intro vs w
  rw[y0d] at w
  cases w with
  | cons a b =>
   cases a
   exact .cons _ _ (ih _ b)
theorem zft {l:OpenLaw} {n:Nat} (hn:l.most=some n) {P:Params} {h:Heap} {args:List WData} {vals:List Value}
    (hpre:l.row.toRowW.claim.pre args=true) (hwl:WellAll P h vals args) :
    ∃a vs ns,vals=[Value.ref a]/\args=[WData.list (ns.map WData.int)]/\h.get? a=some { cls:=.type "list",data:=.seq vs.toArray }/\IntsAre vs ns/\ns.length<=n:=by
  have hsh:WShape.hasAll [] args [.list .int]=true:=(pre_splitW hpre).1
  have hc:l.pre.holds [] { args:=args }=true:=(pre_splitW hpre).2
  obtain⟨d,r,rfl,h1,h2⟩:=hasAllW_cons hsh
  obtain rfl:=hasAllW_nil h2
  obtain⟨xs,rfl,h3⟩:=hasW_list h1
  obtain⟨ns,rfl⟩:=items_int h3
  have hlen:ns.length<=n:=by
    unfold OpenLaw.pre at hc
    have h4:(WTm.not (.lt (.lit (.int (n:Int))) (.len (.arg 0)))).holds [] { args:=[.list (ns.map .int)] }=true:=by
      have h4:=(holds_andW hc).1
      rw[hn] at h4
      exact h4
    have h5:=condW_of h4 (w_not (w_lt w_lit (w_len_list (w_arg rfl))))
    rw[y13] at h5
    refine Nat.le_of_not_lt fun q=>?_
    have q':(n:Int)<((ns.length:Nat):Int):=by omega
    first
      | (rw[decide_eq_true q'] at h5;exact absurd h5 (by decide))
      | (simp at h5;omega)
  cases hwl with
  | cons w1 w2 =>
    cases w2
    cases w1 with
    | list ho hall=>exact⟨_,_,ns,rfl,rfl,ho,z7h ns _ hall,hlen⟩
theorem zgc (l:OpenLaw) (args:List WData):l.row.toRowW.claim.post args (.bool true) args=true :=
 postW_of (r:=l.row.toRowW) (X:=(true == true))
  (show WShape.has [] (.bool true) .bool=true by first|rfl|decide|simp[WShape.has,WShape.arms,WShape.armsAll])
  (show (WTm.eq .res (.lit (.bool true))).value [] { args:=args,res:=some (.bool true),after:=args }=some (.bool (true == true)) from w_eq_bool (w_res rfl) w_lit) rfl
theorem attach_call {l:OpenLaw} {n:Nat} {q:y0q} {loose:List Str} {XP:(Str->Option Value)->Heap->Prop} {YP:World->Heap->Prop} {d:DefRec}
  (hn:l.most=some n) (hdf:d.params.defaults=[])
  (call:∀(w:World) (s₀ s₁:y04) (mg mb:Str->Option Value) (fa:Addr) (o:Obj) (pm cd doc:Value) (a:Addr) (vs:List Value) (ns:List Int),
   Ground q loose [] XP w s₀ mg mb s₁.heap->YP w s₁.heap ->
   s₁.heap.get? fa=some o->o.data=.func (docDef d.name d.params d.body d.scope pm cd doc)->s₁.heap.CodeRec cd d.name->mg d.name=some (.ref fa) ->
   s₁.heap.get? a=some { cls:=.type "list",data:=.seq vs.toArray }->IntsAre vs ns->ns.length<=n->s₁.gens=#[] ->
   y31 (y37 l.prog w) callerA (.call (.ref fa) ⟨[.ref a],[]⟩) (fun r s'=>r=.ok (.ret (.bool true))/\OldK s₁.heap s'.heap/\s'.os=s₁.os/\AllBare s'.gens) s₁) :
  WalkO q loose XP YP l.row.toRowW d [] (fun f vs=>PySem.call f vs):=by
 intro w s₀ s₁ mg mb G Y fa o pm cd doc dV kV ho hd hcd hD hmg hg args vals as hpre hlay hrd hwl hlo
 obtain rfl:dV=.none:=Dflts.none hD hdf
 obtain rfl:kV=.none:=Dflts.noKw hD
 obtain⟨a,vs,ns,rfl,rfl,hobj,hints,hlen⟩:=zft hn hpre hwl
 refine enter_call (y2v (call w s₀ s₁ mg mb fa o pm cd doc a vs ns G Y ho (fd_plain hd) hcd hmg hobj hints hlen hg) fun r s' hq=>?_)
 obtain⟨rfl,h2,h3,h4⟩:=hq
 exact⟨.inl ⟨.bool true,.bool true,[],rfl,fun _=>rfl,.bool true,zgc l _,fun _=>⟨List.Pairwise.nil,fun _ hm=>(nomatch hm)⟩⟩,h2,h3,h4⟩
section
variable {prog:y0q} {w:World} {A:Around} {E:Value->y04->Prop} {s:y04} {K:Frag}
end
end Att
namespace L2
open PySem PySem.Spec PyProof.Rows
theorem z9z:∀{vs:List Value} {ns:List Int},IntsAre vs ns->Vals (ns.map V.int) vs
 | _,_,.nil=>.nil
 | _,_,.cons n t h=>.cons ⟨t,rfl⟩ (z9z h)
end L2
namespace L2
open PySem PySem.Spec PyProof.Rows
end L2
namespace L2
open PySem PySem.Spec PyProof.Rows
noncomputable def z0k (s:Stmt):Arguments:=match s with
 | .FunctionDef _ a _ _ _ _ _ _ _ _=>a
 | _=>{ posonlyargs:=[],args:=[],vararg:=none,kwonlyargs:=[],kw_defaults:=[],kwarg:=none,defaults:=[] }
def z0g (s:Stmt):List Stmt:=match s with
 | .FunctionDef _ _ b _ _ _ _ _ _ _=>b
 | _=>[]
def z01 (s:Stmt):Scope:=match s with
 | .FunctionDef _ _ _ _ _ _ sc _ _ _=>sc
 | _=>{ kind:=.function,names:=[],isGenerator:=false,isCoroutine:=false }
abbrev CX0:CXT:=fun _ _ _ _ _ _=>False
abbrev E0:XK:=fun _ _ _=>False
theorem zqj {X:Cx}:Passes CX0 X E0:=fun _ _ _ _ _ _ _ h=>h.elim
structure Fun (K:y00) (x qual:Str) (st:Stmt) (f:Addr) (fd:y0b):Prop where
 ex:∃(oc:Value) (od:Option Addr) (kV doc pm:Value) (an:Option Addr) (cdv ct:Value) (osl:Array (Option Value)),
  fd=y0i x qual (z0k st) (z0g st) (z01 st) .none kV doc pm an cdv ct/\K.lookup f=some ⟨oc,od,.func fd,osl⟩/\y0f K cdv qual=true
 kp:y08 K (.ref f)=true
section
variable {P:y0q} {w:World} {K:y00} {mg:Str->Option Value} {base:Heap}
theorem Fun.ok {x qual:Str} {st:Stmt} {f:Addr} {fd:y0b} {N ps:List Str} {k:Nat} {sp:Sp} (F:Fun K x qual st f fd) (S:FnScope N ps (z01 st)) (len:∀vs H Q E,sp vs H Q E->vs.length=ps.length)
  (hbody:∀(cdv:Value) (A:Around) (outer:List Env) (s:y04) (H:Hp) (vs:List V) (Q:VK) (E:XK),Room k (A.deeper (envOfC qual (z01 st) s.heap.objs.size f cdv))->sp vs H Q E ->
   ∃t,PSs (cxOf CX0 P w K mg base N qual (z01 st) f cdv A outer s H E).nox (z0g st) t/\t { nx:=fun _ H'=>Q .non H',rt:=Q } (start N vs) H):FnOk P w K mg base CX0 (k+1) f fd ps sp:=by
 obtain⟨oc,od,kV,doc,pm,an,cdv,ct,osl,rfl,lk,hcd⟩:=F.ex
 refine zpd lk hcd S len fun A outer s H vs Q E hr hsp=>?_
 obtain⟨t,h,q⟩:=hbody cdv A outer s H vs Q E hr hsp
 exact⟨t,h.nox,q⟩
theorem Fun.binds {x qual:Str} {st:Stmt} {f:Addr} {fd:y0b} {ps:List Str} (F:Fun K x qual st f fd)
  (h:∀(kV doc pm:Value) (an:Option Addr) (cdv ct:Value) (us:List Value),us.length=ps.length->bindArgs (y0i x qual (z0k st) (z0g st) (z01 st) .none kV doc pm an cdv ct) ⟨us,[]⟩=pure (ps.zip us)):Binds K fd ps []:=by
 obtain⟨oc,od,kV,doc,pm,an,cdv,ct,osl,rfl,lk,hcd⟩:=F.ex
 exact .all (h kV doc pm an cdv ct)
theorem z1v {x qual:Str} {st:Stmt} {f:Addr} {oc:Value} {od an:Option Addr} {osl:Array (Option Value)} {kV doc pm cdv ct:Value} (l:K.lookup f=some ⟨oc,od,.func (y0i x qual (z0k st) (z0g st) (z01 st) .none kV doc pm an cdv ct),osl⟩)
  (c:y0f K cdv qual=true) (k:y08 K (.ref f)=true):Fun K x qual st f (y0i x qual (z0k st) (z0g st) (z01 st) .none kV doc pm an cdv ct):=⟨⟨oc,od,kV,doc,pm,an,cdv,ct,osl,rfl,l,c⟩,k⟩
end
theorem zp8 {A:Around} {k:Nat} (hr:Room k A):A.units+1<cLine:=Nat.lt_of_le_of_lt (Nat.add_le_add_left (by decide:1<=64) _) hr.units
section
variable {X:Cx}
theorem pv (i:Nat) {x:Str} {pos:Pos} (hN:X.N[i]?=some x:=by rfl) (hv:Vis X.env.scope x:=by first|exact Or.inl rfl|exact Or.inr (Or.inl rfl)|exact Or.inr (Or.inr rfl)) (hd:(x == ("__debug__":Str))=false:=by decide)
  (hcd:(x == ("__classdict__":Str))=false:=by decide):PE X (.Name x pos) (tVar i):=zof hN hv hd hcd
end
theorem iteF {A B:Prop} (h:B):if false=true then A else B:=by
 rw[if_neg y22]
 exact h
theorem iteT {A B:Prop} (h:A):if true=true then A else B:=by
 rw[if_pos rfl]
 exact h
def Same (H H':Hp):Prop:=∀b o,H b=some o->H' b=some o
end L2
end
section
namespace D
open PySem
abbrev T:=PyData
def okT (a:T):Bool:=a.canLay0 && decide (a.depth<=60)
def okL (as:List T):Bool:=y1g as && decide (y1e as<=60)
abbrev Key:=Sum Int Str
inductive Md where
 | ro|own|lent
 deriving DecidableEq
inductive Sl where
 | imm (t:T)|own (ts:List T)|dic (kvs:List (Key×T))|obj (m:Md) (c:Nat) (fs:List Sl)
abbrev Ev:=List (Option Sl)
inductive Out where
 | nx (ε:Ev)|rt (t:T)|bk (ε:Ev)|ct (ε:Ev)|rtm (t:T) (ε:Ev)|rto (s:Sl)
abbrev Fe:=Ev->Option T
abbrev Ft:=Ev->Option Bool
abbrev Fs:=Ev->Option Out
abbrev Fi:=Ev->Option (List T)
abbrev Fg:=T->Ev->Option Ev
def big:Nat:=16777216
noncomputable def oAdd:T->T->Option T
 | .int i,.int j=>some (.int (i+j))
 | .str x,.str y=>if x.length+y.length<=big then some (.str (x++y)) else none
 | .tuple xs,.tuple ys=>if xs.length+ys.length<=big then some (.tuple (xs++ys)) else none
 | .list xs,.list ys=>if xs.length+ys.length<=big then some (.list (xs++ys)) else none
 | _,_=>none
def oSub:T->T->Option T
 | .int i,.int j=>some (.int (i - j))
 | _,_=>none
def zjo (i j:Int):Bool:=(decide (-(2 ^ 64)<i) && decide (i<2 ^ 64)) || (decide (-(2 ^ 64)<j) && decide (j<2 ^ 64))
def oMul:T->T->Option T
 | .int i,.int j=>if zjo i j then some (.int (i*j)) else none
 | _,_=>none
def oDiv:T->T->Option T
 | .int i,.int j=>if 0<j/\j<1073741824 then some (.int (i / j)) else none
 | _,_=>none
def oMod:T->T->Option T
 | .int i,.int j=>if 0<j then some (.int (i % j)) else none
 | _,_=>none
def oNeg:T->Option T
 | .int i=>some (.int (-i))
 | _=>none
def ixOf (n:Nat) (i:Int):Option Nat:=if 0<=i then (if i<n then some i.toNat else none) else if -(n:Int)<=i then some (i+n).toNat else none
def atZ {α:Type} (xs:List α) (i:Int):Option α:=(ixOf xs.length i).bind fun j=>xs[j]?
noncomputable def oIx:T->T->Option T
 | .tuple xs,.int i=>atZ xs i
 | .list xs,.int i=>atZ xs i
 | .str x,.int i=>if x.length<=big then (atZ x.cps.toList i).map fun c=>.str ⟨#[c]⟩ else none
 | _,_=>none
def oEq (a b:T):Option T:=if okT a && okT b then some (.bool (y20 a b)) else none
def oNe (a b:T):Option T:=if okT a && okT b then some (.bool (!PyData.eqv a b)) else none
def oIsN (a:T):Option T:=some (.bool (match a with|.none=>true|_=>false))
def z17 (a:T):Option T:=some (.bool (match a with|.none=>false|_=>true))
def strLt (x y:Str):Bool:=decide (x.cps.toList<y.cps.toList)
def oLt:T->T->Option T
 | .int i,.int j=>some (.bool (decide (i<j)))
 | .str x,.str y=>some (.bool (strLt x y))
 | _,_=>none
def oLe:T->T->Option T
 | .int i,.int j=>some (.bool (decide (i<=j)))
 | .str x,.str y=>some (.bool (!strLt y x))
 | _,_=>none
def oGt:T->T->Option T
 | .int i,.int j=>some (.bool (decide (j<i)))
 | .str x,.str y=>some (.bool (strLt y x))
 | _,_=>none
def oGe:T->T->Option T
 | .int i,.int j=>some (.bool (decide (j<=i)))
 | .str x,.str y=>some (.bool (!strLt x y))
 | _,_=>none
def hasT (x:T) (ts:List T):Bool:=ts.any fun y=>y20 y x
noncomputable def oIn (neg:Bool):T->T->Option T
 | x,.tuple ys=>if okT x && okL ys then some (.bool (if neg then !hasT x ys else hasT x ys)) else none
 | x,.list ys=>if okT x && okL ys then some (.bool (if neg then !hasT x ys else hasT x ys)) else none
 | _,_=>none
def oLen:List T->Option T
 | [.tuple xs]=>some (.int xs.length)
 | [.list xs]=>some (.int xs.length)
 | [.str x]=>if x.length<=big then some (.int x.length) else none
 | _=>none
def oMin:List T->Option T
 | [.int i,.int j]=>some (.int (if j<i then j else i))
 | _=>none
def oMax:List T->Option T
 | [.int i,.int j]=>some (.int (if j > i then j else i))
 | _=>none
def z57:List T->Option T
 | [.tuple xs]=>some (.tuple xs)
 | [.list xs]=>some (.tuple xs)
 | _=>none
def z80:List T->Option T
 | [.tuple xs]=>some (.list xs)
 | [.list xs]=>some (.list xs)
 | _=>none
def oInt:List T->Option T
 | [.int i]=>some (.int i)
 | [.bool b]=>some (.int (if b then 1 else 0))
 | _=>none
def sIx (n d:Nat):Option Int->Nat
 | none=>d
 | some v=>(if v<0 then max (v+n) 0 else min v n).toNat
def cutZ {α:Type} (xs:List α) (lo hi:Option Int):List α:=(xs.drop (sIx xs.length 0 lo)).take (sIx xs.length xs.length hi - sIx xs.length 0 lo)
def oSl (t:T) (lo hi:Option Int):Option T:=match t with
 | .tuple xs=>some (.tuple (cutZ xs lo hi))
 | .list xs=>some (.list (cutZ xs lo hi))
 | _=>none
def intsOf:List T->Option (List Int)
 | []=>some []
 | .int i::ts=>(intsOf ts).map fun r=>i::r
 | _::_=>none
def strsOf:List T->Option (List Str)
 | []=>some []
 | .str x::ts=>(strsOf ts).map fun r=>x::r
 | _::_=>none
def insI (x:Int):List Int->List Int
 | []=>[x]
 | y::ys=>if x<=y then x::y::ys else y::insI x ys
def sortI:List Int->List Int
 | []=>[]
 | x::xs=>insI x (sortI xs)
def insS (x:Str):List Str->List Str
 | []=>[x]
 | y::ys=>if !strLt y x then x::y::ys else y::insS x ys
def z63:List Str->List Str
 | []=>[]
 | x::xs=>insS x (z63 xs)
def dedup {α:Type} [DecidableEq α]:List α->List α
 | []=>[]
 | x::xs=>x::(dedup xs).filter fun y=>decide (y≠x)
def keyOf:T->Option Key
 | .int i=>some (.inl i)
 | .str x=>some (.inr x)
 | _=>none
def putD (kvs:List (Key×T)) (k:Key) (v:T):List (Key×T):=if kvs.any (fun p=>decide (p.1=k)) then kvs.map fun p=>if p.1=k then (k,v) else p else kvs++[(k,v)]
def hasD (kvs:List (Key×T)) (k:Key):Bool:=kvs.any fun p=>decide (p.1=k)
def keyT:Key->T
 | .inl i=>.int i
 | .inr x=>.str x
def dic? (i:Nat) (ε:Ev):Option (List (Key×T)):=match ε[i]? with
 | some (some (.dic kvs))=>some kvs
 | _=>none
def dIn (neg:Bool) (f:Fe) (i:Nat):Fe:=fun ε=>(f ε).bind fun t=>(keyOf t).bind fun k=>(dic? i ε).map fun kvs=>.bool (if neg then !hasD kvs k else hasD kvs k)
def z7o (i:Nat):Fe:=fun ε=>(dic? i ε).bind fun kvs=>if kvs.length<64 then (intsOf (kvs.map fun p=>keyT p.1)).map fun ns=>.list ((sortI ns).map .int) else none
def cst (t:T):Fe:=fun _=>some t
def nm (i:Nat):Fe:=fun ε=>match ε[i]? with
 | some (some (.imm t))=>some t
 | some (some (.own ts))=>some (.list ts)
 | _=>none
def nmV (i:Nat):Fe:=fun ε=>match ε[i]? with
 | some (some (.imm t))=>some t
 | _=>none
def op1 (o:T->Option T) (f:Fe):Fe:=fun ε=>(f ε).bind o
def op2 (o:T->T->Option T) (f g:Fe):Fe:=fun ε=>(f ε).bind fun x=>(g ε).bind fun y=>o x y
def args:List Fe->Ev->Option (List T)
 | [],_=>some []
 | f::fs,ε=>(f ε).bind fun t=>(args fs ε).map fun ts=>t::ts
def opN (o:List T->Option T) (fs:List Fe):Fe:=fun ε=>(args fs ε).bind o
def z06 (fs:List Fe):Fe:=fun ε=>(args fs ε).bind fun ts=>if ts.length<=big then some (.tuple ts) else none
def z12 (fs:List Fe):Fe:=fun ε=>(args fs ε).bind fun ts=>if ts.length<=big then some (.list ts) else none
def opt (f:Fe):Ev->Option (Option Int):=fun ε=>(f ε).bind fun t=>match t with|.int i=>some (some i)|_=>none
def optN:Ev->Option (Option Int):=fun _=>some none
def slice (f:Fe) (lo hi:Ev->Option (Option Int)):Fe:=fun ε=>(f ε).bind fun t=>(lo ε).bind fun l=>(hi ε).bind fun h=>oSl t l h
def andV (f g:Fe):Fe:=fun ε=>(f ε).bind fun t=>match t with|.bool true=>g ε|.bool false=>some (.bool false)|_=>none
def notV (f:Fe):Fe:=fun ε=>(f ε).bind fun t=>match t with|.bool b=>some (.bool (!b))|_=>none
def tstB (f:Fe):Ft:=fun ε=>(f ε).bind fun t=>match t with|.bool b=>some b|_=>none
def tstL (f:Fe):Ft:=fun ε=>(f ε).bind fun t=>match t with|.list ts=>some (!ts.isEmpty)|.tuple ts=>some (!ts.isEmpty)|_=>none
def andT (f g:Ft):Ft:=fun ε=>(f ε).bind fun b=>if b then g ε else some false
def orT (f g:Ft):Ft:=fun ε=>(f ε).bind fun b=>if b then some true else g ε
def notT (f:Ft):Ft:=fun ε=>(f ε).map fun b=>!b
def cstT (b:Bool):Ft:=fun _=>some b
def ofT (c:Ft):Fe:=fun ε=>(c ε).map .bool
def z0d (f:Fe):Fi:=fun ε=>(f ε).bind fun t=>match t with|.tuple ts=>some ts|.list ts=>some ts|_=>none
def z5o (f:Fe):Fi:=fun ε=>(f ε).bind fun t=>match t with|.tuple ts=>some ts|_=>none
def rng (lo hi:Int):List T:=(List.range (hi - lo).toNat).map fun (k:Nat)=>.int (lo+(k:Int))
def z4m (i:Int):Bool:=decide (-(2 ^ 62)<=i) && decide (i<2 ^ 62)
def z3f (f:Fe):Fi:=fun ε=>(f ε).bind fun t=>match t with|.int j=>if z4m j then some (rng 0 j) else none|_=>none
def enum (ts:List T):List T:=ts.zipIdx.map fun p=>.tuple [.int p.2,p.1]
def z1r (f:Fi):Fi:=fun ε=>(f ε).map enum
def gNm (i:Nat):Fg:=fun t ε=>some (ε.set i (some (.imm t)))
def gAll:List Fg->List T->Ev->Option Ev
 | [],[],ε=>some ε
 | g::gs,t::ts,ε=>(g t ε).bind fun ε'=>gAll gs ts ε'
 | _,_,_=>none
def gTu (gs:List Fg):Fg:=fun t ε=>match t with|.tuple ts=>gAll gs ts ε|_=>none
noncomputable def z1k (g:Fg) (c:Ft) (e:Fe):List T->Ev->Option (List T)
 | [],_=>some []
 | t::ts,ε=>(g t ε).bind fun ε1=>(c ε1).bind fun b=>if b then (e ε1).bind fun y=>(z1k g c e ts ε1).map fun ys=>y::ys else z1k g c e ts ε1
def z1m (own:Nat) (caps:List Nat) (ε:Ev):Ev:=y0g own none++caps.map fun i=>(ε[i]?).join
def comp (own:Nat) (caps:List Nat) (it:Fi) (g:Fg) (c:Ft) (e:Fe):Fe:=fun ε=>(it ε).bind fun ts=>if ts.length<=big then (z1k g c e ts (z1m own caps ε)).map .list else none
def skip:Fs:=fun ε=>some (.nx ε)
def seq (a b:Fs):Fs:=fun ε=>(a ε).bind fun o=>match o with|.nx ε'=>b ε'|o=>some o
def asg (i:Nat) (f:Fe):Fs:=fun ε=>(f ε).map fun t=>.nx (ε.set i (some (.imm t)))
def asgN (i:Nat) (f:Fe):Fs:=fun ε=>(f ε).bind fun t=>match t with|.list ts=>some (.nx (ε.set i (some (.own ts))))|_=>none
def asgT (g:Fg) (f:Fe):Fs:=fun ε=>(f ε).bind fun t=>(g t ε).map .nx
def rtn (f:Fe):Fs:=fun ε=>(f ε).map .rt
def iff (c:Ft) (a b:Fs):Fs:=fun ε=>(c ε).bind fun x=>if x then a ε else b ε
def brk:Fs:=fun ε=>some (.bk ε)
def cnt:Fs:=fun ε=>some (.ct ε)
noncomputable def forL (g:Fg) (b:Fs):List T->Ev->Option Out
 | [],ε=>some (.nx ε)
 | t::ts,ε=>(g t ε).bind fun ε1=>(b ε1).bind fun o=>match o with
  | .nx ε2=>forL g b ts ε2
  | .ct ε2=>forL g b ts ε2
  | .bk ε2=>some (.nx ε2)
  | .rt t=>some (.rt t)
  | .rtm t ε2=>some (.rtm t ε2)
  | .rto s=>some (.rto s)
def for_ (it:Fi) (g:Fg) (b:Fs):Fs:=fun ε=>(it ε).bind fun ts=>forL g b ts ε
noncomputable def whl (c:Ft) (b:Fs):Nat->Fs
 | 0,_=>none
 | n+1,ε=>(c ε).bind fun x=>if x then (b ε).bind fun o=>(match o with
   | .nx ε2=>whl c b n ε2
   | .ct ε2=>whl c b n ε2
   | .bk ε2=>some (.nx ε2)
   | .rt t=>some (.rt t)
   | .rtm t ε2=>some (.rtm t ε2)
   | .rto s=>some (.rto s)) else some (.nx ε)
noncomputable def app (i:Nat) (f:Fe):Fs:=fun ε=>match ε[i]? with
 | some (some (.own ts))=>(f ε).bind fun t=>if ts.length<big then some (.nx (ε.set i (some (.own (ts++[t]))))) else none
 | _=>none
noncomputable def ext (i:Nat) (f:Fe):Fs:=fun ε=>match ε[i]? with
 | some (some (.own ts))=>(f ε).bind fun t=>match t with
  | .list us=>if ts.length+us.length<=big then some (.nx (ε.set i (some (.own (ts++us))))) else none
  | _=>none
 | _=>none
noncomputable def pop (i j:Nat):Fs:=fun ε=>match ε[j]? with
 | some (some (.own ts))=>(ts.getLast?).bind fun t=>if i=j then none else some (.nx ((ε.set j (some (.own ts.dropLast))).set i (some (.imm t))))
 | _=>none
noncomputable def par (i j:Nat) (own:Bool) (f g:Fe):Fs:=fun ε=>(f ε).bind fun t=>(g ε).bind fun u=>if own then (match u with|.list us=>some (.nx ((ε.set i (some (.imm t))).set j (some (.own us))))|_=>none) else some (.nx ((ε.set i (some (.imm t))).set j (some (.imm u))))
def dNew (i:Nat) (k v:Fe):Fs:=fun ε=>(k ε).bind fun t=>(keyOf t).bind fun k=>(v ε).map fun v=>.nx (ε.set i (some (.dic [(k,v)])))
noncomputable def dPut (i:Nat) (k v:Fe):Fs:=fun ε=>(v ε).bind fun v=>(k ε).bind fun t=>(keyOf t).bind fun k=>(dic? i ε).bind fun kvs=>if kvs.length<big then some (.nx (ε.set i (some (.dic (putD kvs k v))))) else none
noncomputable def runF (b:Fs) (n:Nat) (as:List T):Option T:=(b ((as.map fun t=>some (.imm t))++y0g (n - as.length) none)).bind fun o=>match o with
 | .rt t=>some t
 | .nx _=>some .none
 | _=>none
end D
end
section
namespace D
open PySem PySem.Spec PyProof.Rows L2
section
mutual
noncomputable def Rep (K:y00) (F:Addr->Prop) (H:Hp):T->V->Prop
 | .none,v=>v=.non
 | .bool b,v=>v=.bl b
 | .int i,v=>v=.int i
 | .str x,v=>v=.str x
 | .dict _,_=>False
 | .tuple ts,v=>∃a vs,v=.ref a/\SqT K H a vs/\RepL K F H ts vs
 | .list ts,v=>∃a vs,v=.ref a/\F a/\Rd H a (.lst vs)/\RepL K F H ts vs
noncomputable def RepL (K:y00) (F:Addr->Prop) (H:Hp):List T->List V->Prop
 | [],vs=>vs=[]
 | t::ts,vs=>∃v r,vs=v::r/\Rep K F H t v/\RepL K F H ts r
end
section
variable {K:y00} {F F':Addr->Prop} {H H':Hp}
mutual
theorem Rep.keep (h1:∀b xs,SqT K H b xs->SqT K H' b xs) (h2:∀b xs,F b->Rd H b (.lst xs)->F' b/\Rd H' b (.lst xs)):∀{t:T} {v:V},Rep K F H t v->Rep K F' H' t v
 | .none,v,h=>by simpa [Rep] using h
 | .bool _,v,h=>by simpa [Rep] using h
 | .dict _,v,h=>by simp[Rep] at h
 | .int _,v,h=>by simpa [Rep] using h
 | .str _,v,h=>by simpa [Rep] using h
 | .tuple ts,v,h=>by
  simp only[Rep] at h ⊢
  obtain⟨a,vs,e,q,r⟩:=h
  exact⟨a,vs,e,h1 _ _ q,RepL.keep h1 h2 r⟩
 | .list ts,v,h=>by
  simp only[Rep] at h ⊢
  obtain⟨a,vs,e,f,q,r⟩:=h
  exact⟨a,vs,e,(h2 _ _ f q).1,(h2 _ _ f q).2,RepL.keep h1 h2 r⟩
theorem RepL.keep (h1:∀b xs,SqT K H b xs->SqT K H' b xs) (h2:∀b xs,F b->Rd H b (.lst xs)->F' b/\Rd H' b (.lst xs)):∀{ts:List T} {vs:List V},RepL K F H ts vs->RepL K F' H' ts vs
 | [],vs,h=>by simpa [RepL] using h
 | t::ts,vs,h=>by
  simp only[RepL] at h ⊢
  obtain⟨v,r,e,q,z⟩:=h
  exact⟨v,r,e,Rep.keep h1 h2 q,RepL.keep h1 h2 z⟩
end
theorem RepL.nil:RepL K F H [] []:=by simp[RepL]
theorem RepL.cons {t:T} {v:V} {ts:List T} {vs:List V} (h:Rep K F H t v) (r:RepL K F H ts vs):RepL K F H (t::ts) (v::vs):=by
 simp only[RepL]
 exact⟨v,vs,rfl,h,r⟩
theorem RepL.length:∀{ts:List T} {vs:List V},RepL K F H ts vs->ts.length=vs.length
 | [],vs,h=>by
  simp only[RepL] at h
  subst h
  rfl
 | t::ts,vs,h=>by
  simp only[RepL] at h
  obtain⟨v,r,e,q,z⟩:=h
  subst e
  simp[RepL.length z]
theorem RepL.get:∀{ts:List T} {vs:List V} {i:Nat} {t:T},RepL K F H ts vs->ts[i]?=some t->∃v,vs[i]?=some v/\Rep K F H t v
 | [],vs,i,t,h,e=>by simp at e
 | x::ts,vs,0,t,h,e=>by
  simp only[RepL] at h
  obtain⟨v,r,rfl,q,z⟩:=h
  simp at e
  subst e
  exact⟨v,rfl,q⟩
 | x::ts,vs,i+1,t,h,e=>by
  simp only[RepL] at h
  obtain⟨v,r,rfl,q,z⟩:=h
  obtain⟨u,h1,h2⟩:=RepL.get (i:=i) (t:=t) z (by simpa using e)
  exact⟨u,by simpa using h1,h2⟩
theorem RepL.append:∀{ts us:List T} {vs ws:List V},RepL K F H ts vs->RepL K F H us ws->RepL K F H (ts++us) (vs++ws)
 | [],us,vs,ws,h,r=>by
  simp only[RepL] at h
  subst h
  exact r
 | t::ts,us,vs,ws,h,r=>by
  simp only[RepL] at h
  obtain⟨v,z,rfl,q,y⟩:=h
  exact RepL.cons q (RepL.append y r)
theorem RepL.take:∀{ts:List T} {vs:List V} (n:Nat),RepL K F H ts vs->RepL K F H (ts.take n) (vs.take n)
 | [],vs,n,h=>by
  simp only[RepL] at h
  subst h
  simpa using RepL.nil
 | t::ts,vs,0,h=>by simpa using RepL.nil
 | t::ts,vs,n+1,h=>by
  simp only[RepL] at h
  obtain⟨v,z,rfl,q,y⟩:=h
  simpa using RepL.cons q (RepL.take n y)
theorem RepL.drop:∀{ts:List T} {vs:List V} (n:Nat),RepL K F H ts vs->RepL K F H (ts.drop n) (vs.drop n)
 | [],vs,n,h=>by
  simp only[RepL] at h
  subst h
  simpa using RepL.nil
 | t::ts,vs,0,h=>by simpa using h
 | t::ts,vs,n+1,h=>by
  simp only[RepL] at h
  obtain⟨v,z,rfl,q,y⟩:=h
  simpa using RepL.drop n y
end
class Tbl where
 tb:List (Addr×Str)
 cn:Nat->List Str
 ck:Nat->Option Addr
noncomputable def TbG (H:Hp) (b:Addr) (q:Str):Prop:=∃ps:Array Value,H b=some (.tbl ps)/\TriplesOk ps.toList/\∀pos cv,codeAmong pos ps.toList=some cv->∃c,cv=.ref c/\H c=some (.ext fun h=>h.CodeRec (.ref c) q)
def TbS [t:Tbl] (H:Hp):Prop:=∀p∈t.tb,TbG H p.1 p.2
theorem TbG.keep {H H':Hp} {b:Addr} {q:Str} (h:TbG H b q) (k1:∀a ps,H a=some (.tbl ps)->H' a=some (.tbl ps)) (k2:∀a φ,H a=some (.ext φ)->H' a=some (.ext φ)):TbG H' b q:=by
 obtain⟨ps,h1,h2,h3⟩:=h
 refine⟨ps,k1 _ _ h1,h2,fun pos cv e=>?_⟩
 obtain⟨c,e1,e2⟩:=h3 pos cv e
 exact⟨c,e1,k2 _ _ e2⟩
variable [Tbl]
def HoM (u:HO):Prop:=(∃xs,u=.lst xs)\/(∃xs,u=.dK xs)\/∃C dx fs,u=.ins C dx fs
theorem HoM.cases {P:Prop} {u:HO} (h:HoM u) (h1:∀xs,u=.lst xs->P) (h2:∀xs,u=.dK xs->P) (h3:∀C dx fs,u=.ins C dx fs->P):P:=by
 rcases h with ⟨xs,e⟩|⟨xs,e⟩|⟨C,dx,fs,e⟩
 ·exact h1 xs e
 ·exact h2 xs e
 ·exact h3 C dx fs e
theorem TbS.updM {H:Hp} (h:TbS H) {p:Addr} {o:HO} (hp:∀u,H p=some u->HoM u):TbS (upd H p o):=fun b hb =>
 (h b hb).keep (fun a ps e=>by
  have nb:a≠p:=by
   rintro rfl
   exact (hp _ e).cases (fun _ z=>by cases z) (fun _ z=>by cases z) (fun _ _ _ z=>by cases z)
  rw[z05 nb];exact e) fun a φ e=>by
  have nb:a≠p:=by
   rintro rfl
   exact (hp _ e).cases (fun _ z=>by cases z) (fun _ z=>by cases z) (fun _ _ _ z=>by cases z)
  rw[z05 nb];exact e
theorem TbS.upd {H:Hp} (h:TbS H) {p:Addr} {o:HO} (hp:∀u,H p=some u->(∃xs,u=.lst xs)\/∃xs,u=.dK xs):TbS (upd H p o):=h.updM fun u e=>by
 rcases hp u e with z|z
 ·exact .inl z
 ·exact .inr (.inl z)
theorem TbS.new {H:Hp} (h:TbS H) {p:Addr} {o:HO} (hp:H p=none):TbS (L2.upd H p o):=h.upd fun u e=>by rw[hp] at e;cases e
structure Dom (F:Addr->Prop) (H:Hp):Prop where
 dm:∀a,F a->∃o,H a=some o
 tgs:TbS H
instance {F:Addr->Prop} {H:Hp}:CoeFun (Dom F H) fun _=>∀a,F a->∃o,H a=some o:=⟨Dom.dm⟩
def z3h (H H':Hp):Prop:=∀b o,H b=some o->H' b=some o\/∃ps ps',o=.tbl ps/\H' b=some (.tbl ps')
theorem z3h.refl (H:Hp):z3h H H:=fun _ _ h=>.inl h
theorem z3h.ne {H H':Hp} (s:z3h H H') {b:Addr} {o:HO} (e:H b=some o):∃u,H' b=some u:=by
 rcases s b o e with h|⟨_,_,_,h⟩
 ·exact⟨_,h⟩
 ·exact⟨_,h⟩
theorem z3h.none {H H':Hp} (s:z3h H H') {b:Addr} (e:H' b=none):H b=none:=by
 cases z:H b with
 | none=>rfl
 | some o =>
  obtain⟨u,q⟩:=s.ne z
  rw[e] at q
  cases q
theorem z3h.get {H H':Hp} (s:z3h H H') {b:Addr} {o:HO} (e:H b=some o) (n:∀ps,o≠.tbl ps:=by intro _ z;cases z):H' b=some o:=by
 rcases s b o e with h|⟨_,_,z,_⟩
 ·exact h
 ·exact absurd z (n _)
theorem z3h.trans {H H1 H2:Hp} (a:z3h H H1) (b:z3h H1 H2):z3h H H2:=fun c o h=>by
 rcases a c o h with q|⟨ps,ps1,z,q⟩
 ·exact b c o q
 ·rcases b c _ q with q2|⟨_,ps2,z2,q2⟩
  ·exact .inr ⟨ps,ps1,z,q2⟩
  ·exact .inr ⟨ps,ps2,z,q2⟩
structure Ext (F:Addr->Prop) (H:Hp) (F':Addr->Prop) (H':Hp):Prop where
 same:z3h H H'
 sub:∀a,F a->F' a
 new:∀a,F' a->F a\/H a=none
 dom:Dom F' H'
section
variable {K:y00} {F F1 F2:Addr->Prop} {H H1 H2:Hp}
theorem Ext.refl (d:Dom F H):Ext F H F H:=⟨z3h.refl H,fun _ h=>h,fun _ h=>.inl h,d⟩
theorem Ext.trans (a:Ext F H F1 H1) (b:Ext F1 H1 F2 H2):Ext F H F2 H2 :=
 ⟨a.same.trans b.same,fun x h=>b.sub x (a.sub x h),fun x h=>(b.new x h).elim (fun z=>a.new x z) fun z=>.inr (a.same.none z),b.dom⟩
theorem Rd.same {a:Addr} {u:HO} (s:z3h H H1) (r:Rd H a u) (n:∀ps,u≠.tbl ps:=by intro _ z;cases z):Rd H1 a u:=by
 rcases r with r|⟨o,r⟩
 ·exact .inl (s.get r n)
 ·exact .inr ⟨o,s.get r⟩
theorem SqT.same {a:Addr} {xs:List V} (s:z3h H H1) (r:SqT K H a xs):SqT K H1 a xs:=by
 rcases r with r|r
 ·exact .inl (Rd.same s r)
 ·exact .inr r
theorem Rep.ext {t:T} {v:V} (r:Rep K F H t v) (x:Ext F H F1 H1):Rep K F1 H1 t v:=r.keep (fun _ _ q=>SqT.same x.same q) fun b _ f q=>⟨x.sub b f,Rd.same x.same q⟩
theorem RepL.ext {t:List T} {v:List V} (r:RepL K F H t v) (x:Ext F H F1 H1):RepL K F1 H1 t v:=r.keep (fun _ _ q=>SqT.same x.same q) fun b _ f q=>⟨x.sub b f,Rd.same x.same q⟩
theorem Ext.laid {p:Addr} {o:HO} (d:Dom F H) (hp:H p=none):Ext F H F (upd H p o) :=
 ⟨fun b u q=>.inl (same_new' hp o b u q),fun _ h=>h,fun _ h=>.inl h,⟨fun a h=>by
  obtain⟨u,e⟩:=d a h
  exact⟨u,same_new' hp o a u e⟩,d.tgs.new hp⟩⟩
where same_new' {H:Hp} {p:Addr} (h:H p=none) (o:HO):Same H (upd H p o):=fun b u q=>by rw[z05 (z0a q h)];exact q
theorem Ext.laidF {p:Addr} {o:HO} (d:Dom F H) (hp:H p=none):Ext F H (fun a=>F a\/a=p) (upd H p o) :=
 ⟨fun b u q=>.inl (Ext.laid.same_new' hp o b u q),fun _ h=>.inl h,fun a h=>by
  rcases h with h|rfl
  ·exact .inl h
  ·exact .inr hp,⟨fun a h=>by
  rcases h with h|rfl
  ·obtain⟨u,e⟩:=d a h
   exact⟨u,Ext.laid.same_new' hp o a u e⟩
  ·exact⟨o,z03⟩,d.tgs.new hp⟩⟩
end
structure Kp (K:y00) (F:Addr->Prop) (H:Hp) (F':Addr->Prop) (H':Hp):Prop where
 tup:∀b xs,SqT K H b xs->SqT K H' b xs
 lst:∀b xs,F b->Rd H b (.lst xs)->F' b/\Rd H' b (.lst xs)
section
variable {K:y00} {F F1 F2:Addr->Prop} {H H1 H2:Hp}
theorem Kp.refl:Kp K F H F H:=⟨fun _ _ h=>h,fun _ _ f h=>⟨f,h⟩⟩
theorem Kp.trans (a:Kp K F H F1 H1) (b:Kp K F1 H1 F2 H2):Kp K F H F2 H2:=⟨fun x xs h=>b.tup x xs (a.tup x xs h),fun x xs f h=>b.lst x xs (a.lst x xs f h).1 (a.lst x xs f h).2⟩
theorem Ext.kp (x:Ext F H F1 H1):Kp K F H F1 H1:=⟨fun _ _ q=>SqT.same x.same q,fun b _ f q=>⟨x.sub b f,Rd.same x.same q⟩⟩
theorem Rep.kp {t:T} {v:V} (r:Rep K F H t v) (x:Kp K F H F1 H1):Rep K F1 H1 t v:=r.keep x.tup x.lst
theorem RepL.kp {t:List T} {v:List V} (r:RepL K F H t v) (x:Kp K F H F1 H1):RepL K F1 H1 t v:=r.keep x.tup x.lst
end
def RepR (K:y00) (O F:Addr->Prop) (H:Hp) (t:T) (v:V):Prop :=
 Rep K F H t v\/∃ts a vs,t=.list ts/\v=.ref a/\H a=some (.lst vs)/\RepL K F H ts vs
section
variable {K:y00} {O F F1:Addr->Prop} {H H1:Hp} {v:V}
theorem RepR.ext {t:T} (r:RepR K O F H t v) (x:Ext F H F1 H1):RepR K O F1 H1 t v:=by
 rcases r with r|⟨ts,a,vs,e1,e2,e4,r⟩
 ·exact .inl (r.ext x)
 ·exact .inr ⟨ts,a,vs,e1,e2,x.same.get e4,r.ext x⟩
theorem RepR.non (r:RepR K O F H .none v):v=.non:=by
 rcases r with r|⟨ts,a,vs,e1,_⟩
 ·simpa [Rep] using r
 ·cases e1
theorem RepR.bl {b:Bool} (r:RepR K O F H (.bool b) v):v=.bl b:=by
 rcases r with r|⟨ts,a,vs,e1,_⟩
 ·simpa [Rep] using r
 ·cases e1
theorem RepR.int {i:Int} (r:RepR K O F H (.int i) v):v=.int i:=by
 rcases r with r|⟨ts,a,vs,e1,_⟩
 ·simpa [Rep] using r
 ·cases e1
theorem RepR.str {x:Str} (r:RepR K O F H (.str x) v):v=.str x:=by
 rcases r with r|⟨ts,a,vs,e1,_⟩
 ·simpa [Rep] using r
 ·cases e1
theorem RepR.tup {ts:List T} (r:RepR K O F H (.tuple ts) v):∃a vs,v=.ref a/\SqT K H a vs/\RepL K F H ts vs:=by
 rcases r with r|⟨ts,a,vs,e1,_⟩
 ·simpa [Rep] using r
 ·cases e1
theorem RepR.lst {ts:List T} (r:RepR K O F H (.list ts) v):∃a vs,v=.ref a/\Rd H a (.lst vs)/\RepL K F H ts vs:=by
 rcases r with r|⟨us,a,vs,e1,e2,e4,r⟩
 ·simp only[Rep] at r
  obtain⟨a,vs,e,_,q,z⟩:=r
  exact⟨a,vs,e,q,z⟩
 ·cases e1
  exact⟨a,vs,e2,.inl e4,r⟩
end
def RepD (K:y00) (F:Addr->Prop) (H:Hp):List (D.Key×T)->List (D.Key×V)->Prop
 | [],vs=>vs=[]
 | p::ts,vs=>∃v r,vs=(p.1,v)::r/\Rep K F H p.2 v/\RepD K F H ts r
theorem RepD.kp {K:y00} {F F':Addr->Prop} {H H':Hp} (x:Kp K F H F' H'):∀{ts:List (D.Key×T)} {vs:List (D.Key×V)},RepD K F H ts vs->RepD K F' H' ts vs
 | [],vs,h=>h
 | p::ts,vs,h=>by
  obtain⟨v,r,e,q,z⟩:=h
  exact⟨v,r,e,q.kp x,RepD.kp x z⟩
structure En where
 h:Hp
 la:Addr
def rf:V->List Addr
 | .ref a=>[a]
 | _=>[]
def fp0:Sl->V->List Addr
 | .imm _,_=>[]
 | _,v=>rf v
def fpF:List Sl->List V->List Addr
 | s::ss,v::vs=>fp0 s v++fpF ss vs
 | _,_=>[]
def zcs (H:Hp):V->List V
 | .ref a=>(match H a with
  | some (.ins _ _ kvs)=>kvs.map (·.2)
  | some (.dK kvs)=>kvs.map (·.2)
  | _=>[])
 | _=>[]
def fpS (H:Hp):Sl->V->List Addr
 | .imm _,_=>[]
 | .own _,v=>rf v
 | .dic _,v=>rf v
 | .obj _ _ fs,v=>rf v++fpF fs (zcs H v)
noncomputable def z84 (H:Hp) (a:Addr) (c:Nat) (vs:List V):Prop:=vs.length<=(Tbl.cn c).length/\match Tbl.ck c with
 | some C=>∃dx,H a=some (.ins C dx ((Tbl.cn c).zip vs))
 | none=>H a=some (.dK (((Tbl.cn c).zip vs).map fun p=>(.inr p.1,p.2)))
noncomputable def zfc (K:y00) (F:Addr->Prop) (H:Hp):Sl->V->Prop
 | .imm t,v=>Rep K F H t v
 | .own ts,v=>∃b us,v=.ref b/\H b=some (.lst us)/\RepL K F H ts us
 | .dic kvs,v=>∃b us,v=.ref b/\H b=some (.dK us)/\RepD K F H kvs us
 | .obj _ _ _,_=>False
def RelF (K:y00) (F:Addr->Prop) (H:Hp):List Sl->List V->Prop
 | [],vs=>vs=[]
 | s::ss,vs=>∃v r,vs=v::r/\zfc K F H s v/\RelF K F H ss r
def OwnM (E:En) (O F:Addr->Prop) (m:Md) (b:Addr):Prop:=¬F b/\match m with
 | .ro=>E.h b≠none
 | _=>O b
noncomputable def z28 (K:y00) (E:En) (O F:Addr->Prop) (H:Hp):Sl->V->Prop
 | .imm t,v=>Rep K F H t v
 | .own ts,v=>∃a vs,v=.ref a/\¬F a/\O a/\H a=some (.lst vs)/\RepL K F H ts vs
 | .dic kvs,v=>∃a vs,v=.ref a/\¬F a/\O a/\H a=some (.dK vs)/\RepD K F H kvs vs
 | .obj m c fs,v=>∃a vs,v=.ref a/\z84 H a c vs/\RelF K F H fs vs/\(a::fpF fs vs).Nodup/\(∀b∈a::fpF fs vs,OwnM E O F m b)/\(m=.lent->a=E.la)
def Sl.isOwn:Sl->Bool
 | .imm _=>false
 | .obj .ro _ _=>false
 | _=>true
section
variable {K:y00} {F F' O O':Addr->Prop} {H H':Hp} {E:En}
theorem zbl {α β:Type}:∀{xs:List α} {ys:List β},ys.length<=xs.length->(xs.zip ys).map (·.2)=ys
 | xs,[],_=>by simp
 | [],y::ys,h=>by simp at h
 | x::xs,y::ys,h=>by simp[zbl (xs:=xs) (ys:=ys) (by simpa using h)]
theorem z84.vals {a:Addr} {c:Nat} {vs:List V} (h:z84 H a c vs):zcs H (.ref a)=vs:=by
 obtain⟨hl,h⟩:=h
 unfold zcs
 split at h
 ·obtain⟨dx,e⟩:=h
  simp only[e]
  exact zbl hl
 ·simp only[h,y2i]
  exact zbl hl
theorem z84.mem {a:Addr} {c:Nat} {vs:List V} (h:z84 H a c vs):∃o,H a=some o/\HoM o:=by
 obtain⟨hl,h⟩:=h
 split at h
 ·obtain⟨dx,e⟩:=h
  exact⟨_,e,.inr (.inr ⟨_,_,_,rfl⟩)⟩
 ·exact⟨_,h,.inr (.inl ⟨_,rfl⟩)⟩
theorem z84.keep {a:Addr} {c:Nat} {vs:List V} (h:z84 H a c vs) (e:H' a=H a):z84 H' a c vs:=by
 obtain⟨hl,h⟩:=h
 refine⟨hl,?_⟩
 rw[e]
 exact h
theorem z8e {v:V} {b:Addr} (h:b∈rf v):v=.ref b:=by
 unfold rf at h
 split at h
 ·simp at h
  rw[h]
 ·simp at h
theorem zfc.at {s:Sl} {v:V} {b:Addr} (r:zfc K F H s v) (h:b∈fp0 s v):∃o,H b=some o/\HoM o:=by
 cases s with
 | imm t=>simp[fp0] at h
 | own ts =>
  obtain⟨b',us,e,eh,_⟩:=r
  have:=z8e h
  rw[e] at this
  cases this
  exact⟨_,eh,.inl ⟨_,rfl⟩⟩
 | dic ts =>
  obtain⟨b',us,e,eh,_⟩:=r
  have:=z8e h
  rw[e] at this
  cases this
  exact⟨_,eh,.inr (.inl ⟨_,rfl⟩)⟩
 | obj m c fs=>exact r.elim
theorem RelF.at:∀{fs:List Sl} {vs:List V} {b:Addr},RelF K F H fs vs->b∈fpF fs vs->∃o,H b=some o/\HoM o
 | [],vs,b,r,h=>by simp[fpF] at h
 | s::ss,vs,b,r,h=>by
  obtain⟨v,z,rfl,r1,r2⟩:=r
  rw[show fpF (s::ss) (v::z)=fp0 s v++fpF ss z from rfl] at h
  rcases y10.mp h with h|h
  ·exact r1.at h
  ·exact RelF.at r2 h
theorem z7k {m:Md} {c:Nat} {fs:List Sl} {a:Addr} {vs:List V} (h:z84 H a c vs):fpS H (.obj m c fs) (.ref a)=a::fpF fs vs:=by
 show rf (.ref a)++fpF fs (zcs H (.ref a))=_
 rw[h.vals]
 rfl
theorem z28.at {s:Sl} {v:V} {b:Addr} (r:z28 K E O F H s v) (h:b∈fpS H s v):∃o,H b=some o/\HoM o:=by
 cases s with
 | imm t=>simp[fpS] at h
 | own ts =>
  obtain⟨b',us,e,_,_,eh,_⟩:=r
  have:=z8e h
  rw[e] at this
  cases this
  exact⟨_,eh,.inl ⟨_,rfl⟩⟩
 | dic ts =>
  obtain⟨b',us,e,_,_,eh,_⟩:=r
  have:=z8e h
  rw[e] at this
  cases this
  exact⟨_,eh,.inr (.inl ⟨_,rfl⟩)⟩
 | obj m c fs =>
  obtain⟨a,vs,rfl,ha,hf,_⟩:=r
  rw[z7k ha] at h
  rcases y09.mp h with rfl|h
  ·exact ha.mem
  ·exact hf.at h
theorem z28.held {s:Sl} {v:V} {b:Addr} (r:z28 K E O F H s v) (h:b∈fpS H s v):¬F b/\(s.isOwn=true->O b)/\(s.isOwn=false->E.h b≠none):=by
 cases s with
 | imm t=>simp[fpS] at h
 | own ts =>
  obtain⟨b',us,e,n,o,eh,_⟩:=r
  have:=z8e h
  rw[e] at this
  cases this
  exact⟨n,fun _=>o,fun z=>by cases z⟩
 | dic ts =>
  obtain⟨b',us,e,n,o,eh,_⟩:=r
  have:=z8e h
  rw[e] at this
  cases this
  exact⟨n,fun _=>o,fun z=>by cases z⟩
 | obj m c fs =>
  obtain⟨a,vs,rfl,ha,hf,nd,ow,_⟩:=r
  rw[z7k ha] at h
  obtain⟨n,q⟩:=ow b h
  refine⟨n,fun z=>?_,fun z=>?_⟩
  ·cases m with
   | ro=>cases z
   | own=>exact q
   | lent=>exact q
  ·cases m with
   | ro=>exact q
   | own=>cases z
   | lent=>cases z
theorem zfc.keep {s:Sl} {v:V} (r:zfc K F H s v) (kp:Kp K F H F' H') (hh:∀b∈fp0 s v,H' b=H b):zfc K F' H' s v:=by
 cases s with
 | imm t=>exact Rep.kp r kp
 | own ts =>
  obtain⟨b,us,rfl,eh,z⟩:=r
  exact⟨b,us,rfl,by rw[hh b (by simp[fp0,rf])];exact eh,z.kp kp⟩
 | dic ts =>
  obtain⟨b,us,rfl,eh,z⟩:=r
  exact⟨b,us,rfl,by rw[hh b (by simp[fp0,rf])];exact eh,RepD.kp kp z⟩
 | obj m c fs=>exact r.elim
theorem RelF.keep:∀{fs:List Sl} {vs:List V},RelF K F H fs vs->Kp K F H F' H'->(∀b∈fpF fs vs,H' b=H b)->RelF K F' H' fs vs
 | [],vs,r,_,_=>r
 | s::ss,vs,r,kp,hh=>by
  obtain⟨v,z,rfl,r1,r2⟩:=r
  rw[show fpF (s::ss) (v::z)=fp0 s v++fpF ss z from rfl] at hh
  exact⟨v,z,rfl,r1.keep kp fun b h=>hh b (y10.mpr (.inl h)),RelF.keep r2 kp fun b h=>hh b (y10.mpr (.inr h))⟩
theorem z28.keep {s:Sl} {v:V} (r:z28 K E O F H s v) (kp:Kp K F H F' H') (hh:∀b∈fpS H s v,H' b=H b) (hf:∀b∈fpS H s v,F' b->F b) (ho:∀b∈fpS H s v,O b->O' b) :
  z28 K E O' F' H' s v/\fpS H' s v=fpS H s v:=by
 cases s with
 | imm t=>exact⟨Rep.kp r kp,rfl⟩
 | own ts =>
  obtain⟨a,vs,rfl,n,o,eh,z⟩:=r
  have m:a∈fpS H (.own ts) (.ref a):=by simp[fpS,rf]
  exact⟨⟨a,vs,rfl,fun f=>n (hf a m f),ho a m o,by rw[hh a m];exact eh,z.kp kp⟩,rfl⟩
 | dic ts =>
  obtain⟨a,vs,rfl,n,o,eh,z⟩:=r
  have m:a∈fpS H (.dic ts) (.ref a):=by simp[fpS,rf]
  exact⟨⟨a,vs,rfl,fun f=>n (hf a m f),ho a m o,by rw[hh a m];exact eh,RepD.kp kp z⟩,rfl⟩
 | obj m c fs =>
  obtain⟨a,vs,rfl,ha,hr,nd,ow,la⟩:=r
  rw[z7k ha] at hh hf ho
  have ha':z84 H' a c vs:=ha.keep (hh a (by simp))
  refine⟨⟨a,vs,rfl,ha',hr.keep kp fun b h=>hh b (y05 _ h),nd,fun b h=>?_,la⟩,by rw[z7k ha,z7k ha']⟩
  obtain⟨n,q⟩:=ow b h
  refine⟨fun f=>n (hf b h f),?_⟩
  cases m with
  | ro=>exact q
  | own=>exact ho b h q
  | lent=>exact ho b h q
theorem z28.extP {s:Sl} {v:V} (r:z28 K E O F H s v) (x:Ext F H F' H'):z28 K E O F' H' s v/\fpS H' s v=fpS H s v :=
 r.keep x.kp (fun b h=>by
  obtain⟨o,e,m⟩:=r.at h
  rw[e]
  exact x.same.get e fun ps z=>by subst z;exact m.cases (fun _ z=>by cases z) (fun _ z=>by cases z) (fun _ _ _ z=>by cases z)) (fun b h f=>by
  rcases x.new b f with z|z
  ·exact z
  ·obtain⟨o,e,_⟩:=r.at h
   rw[z] at e
   cases e) fun _ _ o=>o
theorem z28.ext {s:Sl} {v:V} (r:z28 K E O F H s v) (x:Ext F H F' H'):z28 K E O F' H' s v:=(r.extP x).1
end
structure RelE (K:y00) (F₀:Addr->Prop) (E:En) (O F:Addr->Prop) (H:Hp) (ε:Ev) (σ:L2.St):Prop where
 len:ε.length=σ.length
 val:∀(i:Nat) (s:Sl),ε[i]?=some (some s)->∃v,σ[i]?=some (some v)/\z28 K E O F H s v
 ne:∀(i j:Nat) (s u:Sl) (v w:V),i≠j->ε[i]?=some (some s)->ε[j]?=some (some u)->s.isOwn=true->u.isOwn=true->σ[i]?=some (some v)->σ[j]?=some (some w)->∀a∈fpS H s v,a∉fpS H u w
 ent:Ext F₀ E.h F H
 o0:∀a,O a->E.h a=none
 fr:∀a,H a=none->O a
section
variable {K:y00} {F₀ O F F1:Addr->Prop} {E:En} {H H1:Hp} {ε:Ev} {σ:L2.St}
theorem RelE.dom (r:RelE K F₀ E O F H ε σ):Dom F H:=r.ent.dom
theorem RelE.ext (r:RelE K F₀ E O F H ε σ) (x:Ext F H F1 H1):RelE K F₀ E O F1 H1 ε σ :=
 ⟨r.len,fun i s e=>by
  obtain⟨v,h1,h2⟩:=r.val i s e
  exact⟨v,h1,h2.ext x⟩,fun i j s u v w hij e1 e2 o1 o2 h1 h2=>by
  obtain⟨v',h1',r1⟩:=r.val i s e1
  obtain⟨w',h2',r2⟩:=r.val j u e2
  rw[h1] at h1'
  rw[h2] at h2'
  cases h1'
  cases h2'
  rw[(r1.extP x).2,(r2.extP x).2]
  exact r.ne i j s u v w hij e1 e2 o1 o2 h1 h2,r.ent.trans x,r.o0,fun a e=>r.fr a (x.same.none e)⟩
theorem get_set {α:Type} {l:List (Option α)} {i j:Nat} {x:Option α} {y:α} (h:(l.set i x)[j]?=some (some y)):(i=j/\x=some y/\j<l.length)\/(i≠j/\l[j]?=some (some y)):=by
 rw[List.getElem?_set] at h
 by_cases e:i=j
 ·subst e
  rw[if_pos rfl] at h
  split at h
  next hl=>exact .inl ⟨rfl,y2c h,hl⟩
  next=>cases h
 ·rw[if_neg e] at h
  exact .inr ⟨e,h⟩
theorem zbo {α:Type} {l:List (Option α)} {i:Nat} {x:Option α} (h:i<l.length):(l.set i x)[i]?=some x:=by
 rw[List.getElem?_set,if_pos rfl,if_pos h]
theorem z42 {α:Type} {l:List (Option α)} {i j:Nat} {x:Option α} (h:i≠j):(l.set i x)[j]?=l[j]?:=by
 rw[List.getElem?_set,if_neg h]
theorem RelE.setG {s:Sl} {v:V} (r:RelE K F₀ E O F H ε σ) (i:Nat) (h:z28 K E O F H s v) (fr:s.isOwn=true->∀(j:Nat) (u:Sl) (w:V),i≠j->ε[j]?=some (some u)->u.isOwn=true->σ[j]?=some (some w)->∀a∈fpS H s v,a∉fpS H u w) :
  RelE K F₀ E O F H (ε.set i (some s)) (σ.set i (some v)):=by
 refine⟨by simp[r.len],fun j u e=>?_,fun j k u w vu vw hjk e1 e2 o1 o2 h1 h2=>?_,r.ent,r.o0,r.fr⟩
 ·rcases get_set e with ⟨rfl,e',hl⟩|⟨ne,e'⟩
  ·cases e'
   exact⟨_,zbo (by rw[<- r.len];exact hl),h⟩
  ·obtain⟨w,h1,h2⟩:=r.val j u e'
   exact⟨w,by rw[z42 ne];exact h1,h2⟩
 ·rcases get_set e1 with ⟨rfl,e',hl⟩|⟨ne1,e1'⟩
  ·rcases get_set e2 with ⟨rfl,_,_⟩|⟨ne2,e2'⟩
   ·exact absurd rfl hjk
   ·rw[zbo (by rw[<- r.len];exact hl)] at h1
    rw[z42 ne2] at h2
    cases h1
    cases e'
    exact fr o1 k w vw ne2 e2' o2 h2
  ·rw[z42 ne1] at h1
   rcases get_set e2 with ⟨rfl,e',hl⟩|⟨ne2,e2'⟩
   ·rw[zbo (by rw[<- r.len];exact hl)] at h2
    cases h2
    cases e'
    intro a ha hb
    exact fr o2 j u vu ne1 e1' o1 h1 a hb ha
   ·rw[z42 ne2] at h2
    exact r.ne j k u w vu vw hjk e1' e2' o1 o2 h1 h2
theorem RelE.set {t:T} {v:V} (r:RelE K F₀ E O F H ε σ) (i:Nat) (h:Rep K F H t v):RelE K F₀ E O F H (ε.set i (some (.imm t))) (σ.set i (some v)):=r.setG (s:=.imm t) i h fun z=>by cases z
theorem RelE.setNew {s:Sl} {v:V} (r:RelE K F₀ E O F H ε σ) (i:Nat) (x:Ext F H F1 H1) (h:z28 K E O F1 H1 s v) (hn:∀a∈fpS H1 s v,H a=none):RelE K F₀ E O F1 H1 (ε.set i (some s)) (σ.set i (some v)) :=
 (r.ext x).setG i h fun _ j u w _ ej _ hj a ha hb=>by
  obtain⟨w',h1,h2⟩:=r.val j u ej
  rw[hj] at h1
  cases h1
  rw[(h2.extP x).2] at hb
  obtain⟨o,e,_⟩:=h2.at hb
  rw[hn a ha] at e
  cases e
theorem zh2 {x:Addr} {o o':HO} (hn:¬F x) (hx:H x=some o) (hm:HoM o):Kp K F H F (upd H x o'):=by
 refine⟨fun b xs q=>?_,fun b xs f q=>⟨f,?_⟩⟩
 ·rcases q with q|q
  ·refine .inl ?_
   have nb:b≠x:=by
    rintro rfl
    rcases q with q|⟨_,q⟩ <;> (rw[hx] at q;cases q;exact hm.cases (fun _ z=>by cases z) (fun _ z=>by cases z) (fun _ _ _ z=>by cases z))
   rcases q with q|⟨u,q⟩
   ·exact .inl (by rw[z05 nb];exact q)
   ·exact .inr ⟨u,by rw[z05 nb];exact q⟩
  ·exact .inr q
 ·have nb:b≠x:=by
   rintro rfl
   exact hn f
  rcases q with q|⟨u,q⟩
  ·exact .inl (by rw[z05 nb];exact q)
  ·exact .inr ⟨u,by rw[z05 nb];exact q⟩
theorem zdw {x:Addr} {o o':HO} {h0:Hp} (e:Ext F₀ h0 F H) (h0x:h0 x=none) (hn:¬F x) (hx:H x=some o) (hm:HoM o):Ext F₀ h0 F (upd H x o'):=by
 refine⟨fun b u q=>?_,e.sub,e.new,⟨fun b f=>?_,e.dom.tgs.updM fun u z=>by rw[hx] at z;cases z;exact hm⟩⟩
 ·have nb:b≠x:=by
   rintro rfl
   rw[h0x] at q
   cases q
  rw[z05 nb]
  exact e.same b u q
 ·have nb:b≠x:=by
   rintro rfl
   exact hn f
  rw[z05 nb]
  exact e.dom b f
theorem RelE.mutG {s s':Sl} {v:V} {x:Addr} {o':HO} (r:RelE K F₀ E O F H ε σ) {i:Nat} (e:ε[i]?=some (some s)) (ho:s.isOwn=true) (hv:σ[i]?=some (some v)) (hx:x∈fpS H s v)
  (h:Kp K F H F (upd H x o')->z28 K E O F (upd H x o') s' v)
  (hp:∀b∈fpS (upd H x o') s' v,b∈fpS H s v\/∀(j:Nat) (u:Sl) (w:V),i≠j->ε[j]?=some (some u)->u.isOwn=true->σ[j]?=some (some w)->b∉fpS H u w) :
  Kp K F H F (upd H x o')/\RelE K F₀ E O F (upd H x o') (ε.set i (some s')) σ:=by
 obtain⟨v',hv',rs⟩:=r.val i s e
 rw[hv] at hv'
 cases hv'
 obtain⟨o,eo,hm⟩:=rs.at hx
 obtain⟨nF,hO,_⟩:=rs.held hx
 have hOx:=hO ho
 have kp:Kp K F H F (upd H x o'):=zh2 nF eo hm
 have h0:=r.o0 x hOx
 have keep:∀(j:Nat) (u:Sl) (w:V),i≠j->ε[j]?=some (some u)->σ[j]?=some (some w)->z28 K E O F H u w->z28 K E O F (upd H x o') u w/\fpS (upd H x o') u w=fpS H u w:=by
  intro j u w hij ej hj ru
  refine ru.keep kp (fun b hb=>z05 ?_) (fun _ _ f=>f) fun _ _ o=>o
  rintro rfl
  cases ou:u.isOwn with
  | true=>exact r.ne i j s u v w hij e ej ho ou hv hj b hx hb
  | false=>exact (ru.held hb).2.2 ou h0
 refine⟨kp,⟨by simp[r.len],fun j u e'=>?_,fun j k u w vu vw hjk e1 e2 o1 o2 h1 h2=>?_,zdw r.ent h0 nF eo hm,r.o0,fun b e'=>r.fr b ?_⟩⟩
 ·rcases get_set e' with ⟨rfl,e'',hl⟩|⟨ne,e''⟩
  ·cases e''
   exact⟨_,hv,h kp⟩
  ·obtain⟨w,h1,h2⟩:=r.val j u e''
   exact⟨w,h1,(keep j u w ne e'' h1 h2).1⟩
 ·rcases get_set e1 with ⟨rfl,e',hl⟩|⟨ne1,e1'⟩
  ·rcases get_set e2 with ⟨rfl,_,_⟩|⟨ne2,e2'⟩
   ·exact absurd rfl hjk
   ·cases e'
    rw[hv] at h1
    cases h1
    obtain⟨w',h2',r2⟩:=r.val k w e2'
    rw[h2] at h2'
    cases h2'
    rw[(keep k w vw ne2 e2' h2 r2).2]
    intro a ha hb
    rcases hp a ha with z|z
    ·exact r.ne i k s w v vw ne2 e e2' ho o2 hv h2 a z hb
    ·exact z k w vw ne2 e2' o2 h2 hb
  ·obtain⟨v1,h1',r1⟩:=r.val j u e1'
   rw[h1] at h1'
   cases h1'
   rw[(keep j u vu ne1 e1' h1 r1).2]
   rcases get_set e2 with ⟨rfl,e',hl⟩|⟨ne2,e2'⟩
   ·cases e'
    rw[hv] at h2
    cases h2
    intro a ha hb
    rcases hp a hb with z|z
    ·exact r.ne i j s u v vu ne1 e e1' ho o1 hv h1 a z ha
    ·exact z j u vu ne1 e1' o1 h1 ha
   ·obtain⟨w',h2',r2⟩:=r.val k w e2'
    rw[h2] at h2'
    cases h2'
    rw[(keep k w vw ne2 e2' h2 r2).2]
    exact r.ne j k u w vu vw hjk e1' e2' o1 o2 h1 h2
 ·by_cases nb:b=x
  ·subst nb
   rw[z03] at e'
   cases e'
  ·rwa [z05 nb] at e'
theorem RelE.mut {s s':Sl} {a:Addr} {o o':HO} (r:RelE K F₀ E O F H ε σ) {i:Nat} (e:ε[i]?=some (some s)) (ho:s.isOwn=true) (hv:σ[i]?=some (some (.ref a))) (hn:¬F a) (ho':O a) (ha:H a=some o)
  (hk:(∃xs,o=.lst xs)\/∃xs,o=.dK xs) (h:Kp K F H F (upd H a o')->z28 K E O F (upd H a o') s' (.ref a)) (f1:∀H:Hp,fpS H s (.ref a)=[a]:=by intro _;rfl) (f2:∀H:Hp,fpS H s' (.ref a)=[a]:=by intro _;rfl) :
  Kp K F H F (upd H a o')/\RelE K F₀ E O F (upd H a o') (ε.set i (some s')) σ :=
 r.mutG e ho hv (by rw[f1];simp) h fun b hb=>by
  rw[f2] at hb
  rw[f1]
  exact .inl hb
end
def tR (K:y00) (f:Fe):TE:=fun σ H Q=>∃F₀ H₀ O F ε t,RelE K F₀ H₀ O F H ε σ/\f ε=some t/\∀v F' H',Ext F H F' H'->RepR K O F' H' t v->Q v H'
def tV (K:y00) (f:Fe):TE:=fun σ H Q=>∃F₀ H₀ O F ε t,RelE K F₀ H₀ O F H ε σ/\f ε=some t/\∀v F' H',Ext F H F' H'->Rep K F' H' t v->Q v H'
noncomputable def tN (K:y00) (f:Fe):TE:=fun σ H Q=>∃F₀ H₀ O F ε ts,RelE K F₀ H₀ O F H ε σ/\f ε=some (.list ts)/\∀a vs F' H',Ext F H F' H'->H a=none->¬F' a->H' a=some (.lst vs)->RepL K F' H' ts vs->Q (.ref a) H'
def tT (K:y00) (f:Ft):TT:=fun σ H Q=>∃F₀ H₀ O F ε b,RelE K F₀ H₀ O F H ε σ/\f ε=some b/\∀F' H',Ext F H F' H'->Q b H'
def tAR (K:y00) (fs:List Fe):TA:=fun σ H Q=>∃F₀ H₀ O F ε ts,RelE K F₀ H₀ O F H ε σ/\args fs ε=some ts/\∀vs F' H',Ext F H F' H'->Paired (RepR K O F' H') ts vs->Q vs H'
def tAV (K:y00) (fs:List Fe):TA:=fun σ H Q=>∃F₀ H₀ O F ε ts,RelE K F₀ H₀ O F H ε σ/\args fs ε=some ts/\∀vs F' H',Ext F H F' H'->RepL K F' H' ts vs->Q vs H'
abbrev PEr (X:Cx) (e:Expr) (f:Fe):Prop:=PE X e (tR X.K f)
abbrev PEv (X:Cx) (e:Expr) (f:Fe):Prop:=PE X e (tV X.K f)
abbrev PEn (X:Cx) (e:Expr) (f:Fe):Prop:=PE X e (tN X.K f)
abbrev PTt (X:Cx) (e:Expr) (f:Ft):Prop:=PT X e (tT X.K f)
abbrev PWt (X:Cx) (e:Expr) (f:Ft):Prop:=PW X e (tT X.K f)
abbrev PAr (X:Cx) (es:List Expr) (fs:List Fe):Prop:=PA X es (tAR X.K fs)
abbrev PAv (X:Cx) (es:List Expr) (fs:List Fe):Prop:=PA X es (tAV X.K fs)
theorem z0p {X:Cx} {e:Expr} {t t':TE} (h:PE X e t) (k:∀σ H Q,t' σ H Q->t σ H Q):PE X e t':=fun pins s σ H Q I q=>h pins s σ H Q I (k σ H Q q)
theorem z7y {X:Cx} {e:Expr} {t t':TT} (h:PT X e t) (k:∀σ H Q,t' σ H Q->t σ H Q):PT X e t':=fun pins s σ H Q I q=>h pins s σ H Q I (k σ H Q q)
theorem zle {X:Cx} {e:Expr} {t t':TT} (h:PW X e t) (k:∀σ H Q,t' σ H Q->t σ H Q):PW X e t':=fun w pins s σ H Q I q=>h w pins s σ H Q I (k σ H Q q)
theorem zeb {X:Cx} {e:List Expr} {t t':TA} (h:PA X e t) (k:∀σ H Q,t' σ H Q->t σ H Q):PA X e t':=fun pos pins s σ H Q I q=>h pos pins s σ H Q I (k σ H Q q)
theorem z3g {X:Cx} {e:Stmt} {t t':TS} (h:PS X e t) (k:∀D σ H,t' D σ H->t D σ H):PS X e t':=fun pins s σ H D I q=>h pins s σ H D I (k D σ H q)
theorem zid {X:Cx} {e:List Stmt} {t t':TS} (h:PSs X e t) (k:∀D σ H,t' D σ H->t D σ H):PSs X e t':=fun pins s σ H D I q=>h pins s σ H D I (k D σ H q)
section
variable {X:Cx} {e:Expr} {f:Fe}
theorem v2r (h:PEv X e f):PEr X e f:=z0p h fun σ H Q ⟨F₀,H₀,O,F,ε,t,r,e,k⟩=>⟨F₀,H₀,O,F,ε,t,r,e,fun v F' H' x q=>k v F' H' x (.inl q)⟩
theorem n2v (h:PEn X e f) (hf:∀ε t,f ε=some t->∃ts,t=.list ts):PEv X e f:=z0p h fun σ H Q ⟨F₀,H₀,O,F,ε,t,r,e,k⟩=>by
 obtain⟨ts,rfl⟩:=hf _ _ e
 refine⟨F₀,H₀,O,F,ε,ts,r,e,fun a vs F' H' x hn nf ha q=>?_⟩
 have y:Ext F H (fun b=>F' b\/b=a) H':=⟨x.same,fun b z=>.inl (x.sub b z),fun b z=>by
  rcases z with z|rfl
  ·exact x.new b z
  ·exact .inr hn,⟨fun b z=>by
  rcases z with z|rfl
  ·exact x.dom b z
  ·exact⟨_,ha⟩,x.dom.tgs⟩⟩
 refine k (.ref a) _ H' y ?_
 simp only[Rep]
 exact⟨a,vs,rfl,.inr rfl,.inl ha,q.keep (fun _ _ z=>z) fun b _ z w=>⟨.inl z,w⟩⟩
end
end
section
variable [Tbl]
section
variable {X:Cx} {a b c e:Expr} {f g h:Fe} {pos:Pos}
theorem zg8 {t:T} {v:V} (he:PE X e (tC v)) (hr:∀F H,Rep X.K F H t v):PEv X e (cst t):=z0p he fun σ H Q ⟨F₀,H₀,O,F,ε,t',r,e,k⟩=>by
 cases e
 exact k v F H (Ext.refl r.dom) (hr _ _)
theorem z0l {i j}:PEv X (.Constant (.int i) j pos) (cst (.int i)):=zg8 zom fun _ _=>by simp[Rep]
theorem q_bl {i j}:PEv X (.Constant (.bool i) j pos) (cst (.bool i)):=zg8 zqi fun _ _=>by simp[Rep]
theorem zbu {i j}:PEv X (.Constant (.str i) j pos) (cst (.str i)):=zg8 zoh fun _ _=>by simp[Rep]
theorem zbv {j}:PEv X (.Constant .none j pos) (cst .none):=zg8 zok fun _ _=>by simp[Rep]
theorem q_nm (i:Nat) {x:Str} (hN:X.N[i]?=some x:=by rfl) (hv:Vis X.env.scope x:=by first|exact Or.inl rfl|exact Or.inr (Or.inl rfl)|exact Or.inr (Or.inr rfl)) (hd:(x == ("__debug__":Str))=false:=by decide)
  (hcd:(x == ("__classdict__":Str))=false:=by decide):PEr X (.Name x pos) (nm i):=z0p (pv i hN hv hd hcd) fun σ H Q ⟨F₀,H₀,O,F,ε,t,r,e,k⟩=>by
 unfold nm at e
 split at e
 next t' he =>
  cases e
  obtain⟨v,h1,h2⟩:=r.val _ _ he
  exact⟨v,h1,k v F H (Ext.refl r.dom) (.inl h2)⟩
 next ts he =>
  cases e
  obtain⟨v,h1,a,vs,rfl,n,h0,hh,hr⟩:=r.val _ _ he
  exact⟨_,h1,k _ F H (Ext.refl r.dom) (.inr ⟨ts,a,vs,rfl,rfl,hh,hr⟩)⟩
 next=>cases e
theorem z09 (i:Nat) {x:Str} (hN:X.N[i]?=some x:=by rfl) (hv:Vis X.env.scope x:=by first|exact Or.inl rfl|exact Or.inr (Or.inl rfl)|exact Or.inr (Or.inr rfl)) (hd:(x == ("__debug__":Str))=false:=by decide)
  (hcd:(x == ("__classdict__":Str))=false:=by decide):PEv X (.Name x pos) (nmV i):=z0p (pv i hN hv hd hcd) fun σ H Q ⟨F₀,H₀,O,F,ε,t,r,e,k⟩=>by
 unfold nmV at e
 split at e
 next t' he =>
  cases e
  obtain⟨v,h1,h2⟩:=r.val _ _ he
  exact⟨v,h1,k v F H (Ext.refl r.dom) h2⟩
 next=>cases e
noncomputable def Op2 (K:y00) (o:T->T->Option T) (R:R2):Prop :=
 ∀(O F:Addr->Prop) (H:Hp) (x y t:T) (vx vy:V) (Q:VK),Dom F H->RepR K O F H x vx->RepR K O F H y vy->o x y=some t ->
  (∀v F' H',Ext F H F' H'->Rep K F' H' t v->Q v H')->R vx vy H Q
theorem z3q {o:T->T->Option T} {R:R2} (h:Op2 X.K o R):∀σ H Q,tV X.K (op2 o f g) σ H Q->tOp R (tR X.K f) (tR X.K g) σ H Q:=by
 rintro σ H Q ⟨F₀,H₀,O,F,ε,t,r,e,k⟩
 simp only[op2,y01] at e
 obtain⟨x,ex,y,ey,eo⟩:=e
 refine⟨F₀,H₀,O,F,ε,x,r,ex,fun vx F1 H1 x1 rx=>⟨F₀,H₀,O,F1,ε,y,r.ext x1,ey,fun vy F2 H2 x2 ry=>?_⟩⟩
 exact h O F2 H2 x y t vx vy Q x2.dom (rx.ext x2) ry eo fun v F' H' x3 q3=>k v F' H' ((x1.trans x2).trans x3) q3
theorem Inv.lstR {pins:List (Addr×Obj)} {σ:L2.St} {H:Hp} {s:y04} {l:Addr} {xs:List V} (I:Inv X pins σ H s) (hH:Rd H l (.lst xs)) :
  xs.length<=y0j/\∃(its:List Value) (n:Nat),Vals xs its/\xs.length=its.length/\s.heap.get? l=some { cls:=.type "list",data:=.seq its.toArray n }:=by
 obtain⟨z,its,n,r,e⟩:=hH.ok I.hok
 exact⟨z,its,n,r,r.length,e⟩
noncomputable def zq8:R2:=fun x y H Q=>∃l b xs zs,x=.ref l/\y=.ref b/\Rd H l (.lst xs)/\Rd H b (.lst zs)/\xs.length+zs.length<=y0j/\∀p,H p=none->Q (.ref p) (upd H p (.lst (xs++zs)))
theorem zmk:OpR X (y35 .Add) zq8:=by
 intro pins s σ H x y v u Q I rx ry h
 obtain⟨l,b,xs,zs,rfl,rfl,hH,hB,hz,q⟩:=h
 cases rx
 cases ry
 obtain⟨z,its,n,r,hl,e⟩:=Inv.lstR I hH
 obtain⟨z2,its2,n2,r2,hl2,e2⟩:=Inv.lstR I hB
 refine PySem.P.add_list e e2 ?_ (by rw[y0h,y0h];omega)
 have ea:its.toArray++its2.toArray=(its++its2).toArray:=by simp
 rw[ea]
 exact⟨.ref _,_,I.lnew (t':=s.toks) (r.append r2) (by rw[y21];omega),rfl,q _ I.fresh⟩
def zo0 (K:y00):R2:=fun x y H Q=>∃a b ys,x=.ref a/\y=.ref b/\SqT K H a []/\SqT K H b ys/\Q (.ref b) H
theorem zje:OpR X (y35 .Add) (zo0 X.K):=by
 intro pins s σ H x y v u Q I rx ry h
 obtain⟨a,b,ys,rfl,rfl,ha,hb,q⟩:=h
 cases rx
 cases ry
 obtain⟨its,r1,p1,_⟩:=I.tuple ha
 obtain⟨its2,r2,p2,_⟩:=I.tuple hb
 have ei:its=[]:=r1.nil_iff.mpr rfl
 subst ei
 obtain⟨⟨cls,dd,data,sl⟩,ho,hc,n,hd⟩:=id p1
 obtain⟨⟨cls2,dd2,data2,sl2⟩,ho2,hc2,n2,hd2⟩:=id p2
 simp only at hc hd hc2 hd2
 subst hc hd hc2 hd2
 exact concat_meets ⟨_,ho,rfl⟩ ⟨_,ho2,rfl⟩ noFill_tuple_add seq_tuple_add PySem.F.slot_tuple_add PySem.F.entry_tuple_add (PySem.F.args_tuple_add_2 _ _)
   (tuple_addW0 a b ([]:List Value).toArray its2.toArray n n2 dd dd2 sl sl2 (by simp)) ⟨ho,ho2,⟨.ref b,H,I,rfl,q⟩⟩
theorem z6p:y0j=big:=by rw[y2p];rfl
theorem z24 (ha:PEr X a f) (hb:PEr X b g):PEv X (.BinOp a .Add b pos) (op2 oAdd f g) :=
 z0p (zgg (zou.or (zen.or (zje.or (zmj.or zmk)))) ha hb) (z3q (by
  intro O F H x y t vx vy Q d rx ry e k
  unfold oAdd at e
  split at e
  ·cases e
   rw[rx.int,ry.int]
   exact .inl ⟨_,_,rfl,rfl,k _ F H (Ext.refl d) (by simp[Rep])⟩
  ·split at e
   next hz =>
    cases e
    rw[rx.str,ry.str]
    exact .inr (.inl ⟨_,_,rfl,rfl,by rw[z6p];exact hz,k _ F H (Ext.refl d) (by simp[Rep])⟩)
   next=>cases e
  ·split at e
   next xs ys hz =>
    cases e
    obtain⟨ax,vs,rfl,hs,hr⟩:=rx.tup
    obtain⟨ay,ws,rfl,hs',hr'⟩:=ry.tup
    cases xs with
    | nil =>
     simp only[RepL] at hr
     subst hr
     refine .inr (.inr (.inl ⟨_,_,_,rfl,rfl,hs,hs',k _ F H (Ext.refl d) ?_⟩))
     simp only[Rep]
     exact⟨_,_,rfl,hs',by simpa using hr'⟩
    | cons x0 xr =>
     refine .inr (.inr (.inr (.inl ⟨_,_,_,_,rfl,rfl,hs,hs',?_,?_,fun e0=>?_,fun e0 p hp=>?_⟩)))
     ·intro z
      subst z
      have:=hr.length
      simp at this
     ·rw[z6p,<- hr.length,<- hr'.length]
      exact hz
     ·refine k _ F H (Ext.refl d) ?_
      subst e0
      have e1:ys=[]:=List.eq_nil_of_length_eq_zero (by rw[hr'.length];rfl)
      subst e1
      simp only[Rep]
      exact⟨_,_,rfl,hs,by simpa using hr⟩
     ·have x1:=Ext.laid (o:=.tup (vs++ws)) d hp
      refine k _ F _ x1 ?_
      simp only[Rep]
      exact⟨p,_,rfl,SqT.of z03,(hr.append hr').ext x1⟩
   next=>cases e
  ·split at e
   next xs ys hz =>
    cases e
    obtain⟨ax,vs,rfl,hs,hr⟩:=rx.lst
    obtain⟨ay,ws,rfl,hs',hr'⟩:=ry.lst
    refine .inr (.inr (.inr (.inr ⟨_,_,_,_,rfl,rfl,hs,hs',by rw[z6p,<- hr.length,<- hr'.length];exact hz,fun p hp=>?_⟩)))
    have x1:=Ext.laidF (o:=.lst (vs++ws)) d hp
    refine k _ _ _ x1 ?_
    simp only[Rep]
    exact⟨p,_,rfl,.inr rfl,.inl z03,(hr.append hr').ext x1⟩
   next=>cases e
  ·cases e))
noncomputable def ziz:V->List V->Hp->VK->Prop:=fun x vs H Q=>∃l b xs zs,x=.ref l/\vs=[.ref b]/\H l=some (.lst xs)/\Rd H b (.lst zs)/\xs.length+zs.length<=y0j/\Q .non (upd H l (.lst (xs++zs)))
theorem zeo:MtM X "list.extend" ziz:=by
 intro pins s σ H x vs v us Q I rx rv h
 obtain⟨l,b,xs,zs,rfl,rfl,hH,hB,hz,q⟩:=h
 cases rx
 obtain⟨u,rfl,ru⟩:=rv.one
 cases ru
 obtain⟨z,its,n,r,hl,e⟩:=I.lstM hH
 obtain⟨z2,its2,n2,r2,hl2,e2⟩:=Inv.lstR I hB
 have hsz:its.toArray.size+its2.toArray.size<=y0j:=by rw[y0h,y0h];omega
 have hlong:¬(!its.toArray.isEmpty && Builtin.List.listTooLong (its.toArray.size+its2.toArray.size))=true:=by
  rw[zjm hsz,Bool.and_false]
  exact y22
 refine call_meets F.slot_list_extend ⟨_,e,rfl⟩ F.entry_list_extend (F.args_list_extend_2 _ _)
  (AutoSeq1.list_extend_list_list_0 l its.toArray n b its2.toArray n2 hlong (by rw[y0h];omega) (by omega)) ⟨e,e2,?_⟩
 refine⟨.non,_,I.lset (its':=its++its2) hH e (by simp) (r.append r2) ?_,rfl,q⟩
 rw[y21]
 omega
theorem zo1 (ha:PEr X a f) (hb:PEr X b g):PEv X (.BinOp a .Sub b pos) (op2 oSub f g) :=
 z0p (zgg zor ha hb) (z3q (by
  intro O F H x y t vx vy Q d rx ry e k
  unfold oSub at e
  split at e
  ·cases e
   rw[rx.int,ry.int]
   exact⟨_,_,rfl,rfl,k _ F H (Ext.refl d) (by simp[Rep])⟩
  ·cases e))
theorem zai (ha:PEr X a f) (hb:PEr X b g):PEv X (.BinOp a .Mult b pos) (op2 oMul f g) :=
 z0p (zgg zos ha hb) (z3q (by
  intro O F H x y t vx vy Q d rx ry e k
  unfold oMul at e
  split at e
  ·split at e
   next hm =>
    cases e
    rw[rx.int,ry.int]
    refine⟨_,_,rfl,rfl,?_,k _ F H (Ext.refl d) (by simp[Rep])⟩
    simpa [zjo,CMul] using hm
   next=>cases e
  ·cases e))
theorem zj2 (ha:PEr X a f) (hb:PEr X b g):PEv X (.BinOp a .FloorDiv b pos) (op2 oDiv f g) :=
 z0p (zgg zmi ha hb) (z3q (by
  intro O F H x y t vx vy Q d rx ry e k
  unfold oDiv at e
  split at e
  ·split at e
   next hm =>
    cases e
    rw[rx.int,ry.int]
    exact⟨_,_,rfl,rfl,hm,k _ F H (Ext.refl d) (by simp[Rep])⟩
   next=>cases e
  ·cases e))
theorem z6v (ha:PEr X a f) (hb:PEr X b g):PEv X (.BinOp a .Mod b pos) (op2 oMod f g) :=
 z0p (zgg zot ha hb) (z3q (by
  intro O F H x y t vx vy Q d rx ry e k
  unfold oMod at e
  split at e
  ·split at e
   next hm =>
    cases e
    rw[rx.int,ry.int]
    exact⟨_,_,rfl,rfl,hm,k _ F H (Ext.refl d) (by simp[Rep])⟩
   next=>cases e
  ·cases e))
theorem q_ix (ha:PEr X a f) (hb:PEr X b g) (hs:zic b:=by intro _ _;rfl):PEv X (.Subscript a b pos) (op2 oIx f g) :=
 z0p (zqh zp6 ha hb hs) (z3q (by
  intro O F H x y t vx vy Q d rx ry e k
  unfold oIx at e
  split at e
  ·obtain⟨ax,vs,rfl,hs,hr⟩:=rx.tup
   rw[ry.int]
   simp only[atZ,y01] at e
   obtain⟨j,hj,et⟩:=e
   obtain⟨v,hv,rv⟩:=hr.get et
   refine .inr (.inl ⟨_,_,_,v,rfl,rfl,hs,?_,k _ F H (Ext.refl d) rv⟩)
   rw[hr.length] at hj
   show (ixN _ _).bind _=_
   rw[show ixN vs.length _=some j from hj]
   exact hv
  ·obtain⟨ax,vs,rfl,hs,hr⟩:=rx.lst
   rw[ry.int]
   simp only[atZ,y01] at e
   obtain⟨j,hj,et⟩:=e
   obtain⟨v,hv,rv⟩:=hr.get et
   refine .inl ⟨_,_,_,v,rfl,rfl,.inl hs,?_,k _ F H (Ext.refl d) rv⟩
   rw[hr.length] at hj
   show (ixN _ _).bind _=_
   rw[show ixN vs.length _=some j from hj]
   exact hv
  ·split at e
   next hz =>
    rw[rx.str,ry.int]
    simp only[y07] at e
    obtain⟨c,hc,rfl⟩:=e
    exact .inr (.inr ⟨_,_,c,rfl,rfl,by rw[z6p];exact hz,hc,k _ F H (Ext.refl d) (by simp[Rep])⟩)
   next=>cases e
  ·cases e))
end
end
section
variable [Tbl]
noncomputable def DO (K:y00) (F₀:Addr->Prop) (H₀:En) (O F:Addr->Prop) (H:Hp) (D:Ends):Out->Prop
 | .nx ε'=>∀σ' F' H',Kp K F H F' H'->RelE K F₀ H₀ O F' H' ε' σ'->D.nx σ' H'
 | .rt t=>∀v F' H',Ext F₀ H₀.h F' H'->Rep K F' H' t v->D.rt v H'
 | .rtm t ε'=>∀v σ' F' H',RelE K F₀ H₀ O F' H' ε' σ'->Rep K F' H' t v->D.rt v H'
 | .rto s=>∀a F' H',Ext F₀ H₀.h F' H'->z28 K H₀ O F' H' s (.ref a)->D.rt (.ref a) H'
 | .bk ε'=>∀σ' F' H',Kp K F H F' H'->RelE K F₀ H₀ O F' H' ε' σ'->D.bk σ' H'
 | .ct ε'=>∀σ' F' H',Kp K F H F' H'->RelE K F₀ H₀ O F' H' ε' σ'->D.ct σ' H'
def tS (K:y00) (g:Fs):TS:=fun D σ H=>∃F₀ H₀ O F ε o,RelE K F₀ H₀ O F H ε σ/\g ε=some o/\DO K F₀ H₀ O F H D o
abbrev PSt (X:Cx) (s:Stmt) (g:Fs):Prop:=PS X s (tS X.K g)
abbrev PBt (X:Cx) (s:List Stmt) (g:Fs):Prop:=PSs X s (tS X.K g)
theorem DO.kp {K:y00} {F₀ O F F1:Addr->Prop} {H₀:En} {H H1:Hp} {D:Ends} {o:Out} (h:DO K F₀ H₀ O F H D o) (x:Kp K F H F1 H1):DO K F₀ H₀ O F1 H1 D o:=by
 cases o with
 | nx ε=>exact fun σ' F' H' k r=>h σ' F' H' (x.trans k) r
 | rt t=>exact h
 | bk ε=>exact fun σ' F' H' k r=>h σ' F' H' (x.trans k) r
 | ct ε=>exact fun σ' F' H' k r=>h σ' F' H' (x.trans k) r
 | rtm t ε=>exact h
 | rto s=>exact h
section
variable {X:Cx} {e a b c:Expr} {f:Fe} {g g':Fs} {ft:Ft} {st:Stmt} {rest:List Stmt} {pos:Pos}
theorem z2k:PBt X [] skip:=zid zm4 fun D σ H ⟨F₀,H₀,O,F,ε,o,r,e,k⟩=>by
 cases e
 exact k σ F H Kp.refl r
theorem z0o (h:PSt X st g):PBt X [st] g:=zm3 h
theorem z07 (h1:PSt X st g) (h2:PBt X rest g'):PBt X (st::rest) (seq g g'):=zid (zj6 h1 h2) fun D σ H ⟨F₀,H₀,O,F,ε,o,r,e,k⟩=>by
 simp only[seq,y01] at e
 obtain⟨o1,e1,e2⟩:=e
 refine⟨F₀,H₀,O,F,ε,o1,r,e1,?_⟩
 cases o1 with
 | nx ε'=>exact fun σ' F' H' x r'=>⟨F₀,H₀,O,F',ε',o,r',e2,k.kp x⟩
 | rt t =>
  cases e2
  exact k
 | bk ε' =>
  cases e2
  exact k
 | ct ε' =>
  cases e2
  exact k
 | rtm t ε' =>
  cases e2
  exact k
 | rto s =>
  cases e2
  exact k
theorem z1b (h:PEv X e f):PSt X (.Return (some e) pos) (rtn f):=z3g (zkt h) fun D σ H ⟨F₀,H₀,O,F,ε,o,r,e,k⟩=>by
 simp only[rtn,y07] at e
 obtain⟨t,et,rfl⟩:=e
 exact⟨F₀,H₀,O,F,ε,t,r,et,fun v F' H' x q=>k v F' H' (r.ent.trans x) q⟩
theorem zfv (i:Nat) {x:Str} {npos:Pos} (hN:X.N[i]?=some x:=by rfl) (hv:Vis X.env.scope x:=by first|exact Or.inl rfl|exact Or.inr (Or.inl rfl)|exact Or.inr (Or.inr rfl)) (hd:(x == ("__debug__":Str))=false:=by decide)
  (hcd:(x == ("__classdict__":Str))=false:=by decide):PSt X (.Return (some (.Name x npos)) pos) (rtn (nm i)):=z3g (zkt (pv i hN hv hd hcd)) fun D σ H ⟨F₀,H₀,O,F,ε,o,r,e,k⟩=>by
 simp only[rtn,y07] at e
 obtain⟨t,et,rfl⟩:=e
 unfold nm at et
 split at et
 next t' he =>
  cases et
  obtain⟨v,h1,h2⟩:=r.val _ _ he
  exact⟨v,h1,k v F H r.ent h2⟩
 next ts he =>
  cases et
  obtain⟨v,h1,a,vs,rfl,n,h0,ha,q⟩:=r.val _ _ he
  have x2:=r.ent
  have y:Ext F₀ H₀.h (fun b=>F b\/b=a) H:=⟨x2.same,fun b z=>.inl (x2.sub b z),fun b z=>by
   rcases z with z|rfl
   ·exact x2.new b z
   ·exact .inr (r.o0 _ h0),⟨fun b z=>by
   rcases z with z|rfl
   ·exact x2.dom b z
   ·exact⟨_,ha⟩,x2.dom.tgs⟩⟩
  refine⟨_,h1,k _ _ H y ?_⟩
  simp only[Rep]
  exact⟨a,vs,rfl,.inr rfl,.inl ha,q.keep (fun _ _ z=>z) fun b _ z w=>⟨.inl z,w⟩⟩
 next=>cases et
theorem s_if (hc:PTt X c ft) (ha:PBt X rest g) {els:List Stmt} (hb:PBt X els g'):PSt X (.If c rest els pos) (iff ft g g'):=z3g (zqe hc ha hb) fun D σ H ⟨F₀,H₀,O,F,ε,o,r,e,k⟩=>by
 simp only[iff,y01] at e
 obtain⟨b,eb,e⟩:=e
 refine⟨F₀,H₀,O,F,ε,b,r,eb,fun F' H' x=>?_⟩
 cases b with
 | true=>exact iteT ⟨F₀,H₀,O,F',ε,o,r.ext x,by simpa using e,k.kp x.kp⟩
 | false=>exact iteF ⟨F₀,H₀,O,F',ε,o,r.ext x,by simpa using e,k.kp x.kp⟩
theorem z1q (i:Nat) {x:Str} {pos':Pos} (hN:X.N.Nodup) (he:PEv X e f) (hi:X.N[i]?=some x:=by rfl) (hx:Loc X.env.scope x:=by first|exact Or.inl rfl|exact Or.inr rfl)
  (hs:y2y e (some (.Name x pos')) pos.line X.env=pure false:=by rfl) (hf:X.fn x=true\/X.env.scope.names.lookup x=some .local:=by first|exact .inl rfl|exact .inr rfl) :
  PSt X (.Assign [.Name x pos'] e pos) (asg i f):=z3g (zd6 hN hi hx he hs hf) fun D σ H ⟨F₀,H₀,O,F,ε,o,r,e,k⟩=>by
 simp only[asg,y07] at e
 obtain⟨t,et,rfl⟩:=e
 refine⟨F₀,H₀,O,F,ε,t,r,et,fun v F' H' x q=>?_⟩
 exact k _ F' H' x.kp ((r.ext x).set i q)
theorem zko (i:Nat) {x:Str} {pos':Pos} (hN:X.N.Nodup) (he:PEn X e f) (hi:X.N[i]?=some x:=by rfl) (hx:Loc X.env.scope x:=by first|exact Or.inl rfl|exact Or.inr rfl)
  (hs:y2y e (some (.Name x pos')) pos.line X.env=pure false:=by rfl) (hf:X.fn x=true\/X.env.scope.names.lookup x=some .local:=by first|exact .inl rfl|exact .inr rfl) :
  PSt X (.Assign [.Name x pos'] e pos) (asgN i f):=z3g (zd6 hN hi hx he hs hf) fun D σ H ⟨F₀,H₀,O,F,ε,o,r,e,k⟩=>by
 simp only[asgN,y01] at e
 obtain⟨t,et,e⟩:=e
 split at e
 next ts =>
  cases e
  refine⟨F₀,H₀,O,F,ε,ts,r,et,fun a vs F' H' x hn nf ha q=>?_⟩
  exact k _ F' H' x.kp (r.setNew (s:=.own ts) i x ⟨a,vs,rfl,nf,r.fr a hn,ha,q⟩ fun b hb=>by
   have:b=a:=by simpa [fpS,rf] using hb
   rw[this]
   exact hn)
 next=>cases e
def tG (K:y00) (g:Fg):TG:=fun v σ H Q=>∃F₀ H₀ O F ε t ε',RelE K F₀ H₀ O F H ε σ/\Rep K F H t v/\g t ε=some ε'/\∀σ',RelE K F₀ H₀ O F H ε' σ'->Q σ' H
def tGs (K:y00) (gs:List Fg):TGs:=fun vs σ H Q=>∃F₀ H₀ O F ε ts ε',RelE K F₀ H₀ O F H ε σ/\RepL K F H ts vs/\gAll gs ts ε=some ε'/\∀σ',RelE K F₀ H₀ O F H ε' σ'->Q σ' H
abbrev PGt (X:Cx) (e:Expr) (g:Fg):Prop:=PG X e (tG X.K g)
abbrev PGst (X:Cx) (es:List Expr) (gs:List Fg):Prop:=PGs X es (tGs X.K gs)
theorem zlg {X:Cx} {e:Expr} {t t':TG} (h:PG X e t) (k:∀v σ H Q,t' v σ H Q->t v σ H Q):PG X e t':=fun pins s σ H v u Q I r q=>h pins s σ H v u Q I r (k v σ H Q q)
theorem zie {X:Cx} {e:List Expr} {t t':TGs} (h:PGs X e t) (k:∀v σ H Q,t' v σ H Q->t v σ H Q):PGs X e t':=fun pins s σ H v u Q I r q=>h pins s σ H v u Q I r (k v σ H Q q)
theorem g_nm (i:Nat) {x:Str} (hN:X.N.Nodup) (hi:X.N[i]?=some x:=by rfl) (hx:Loc X.env.scope x:=by first|exact Or.inl rfl|exact Or.inr rfl)
  (hf:X.fn x=true\/X.env.scope.names.lookup x=some .local:=by first|exact .inl rfl|exact .inr rfl):PGt X (.Name x pos) (gNm i):=zlg (zmb hN hi hx hf) fun v σ H Q ⟨F₀,H₀,O,F,ε,t,ε',r,q,e,k⟩=>by
 cases e
 exact k _ (r.set i q)
theorem zhh:PGst X [] []:=zie zma fun vs σ H Q ⟨F₀,H₀,O,F,ε,ts,ε',r,q,e,k⟩=>by
 cases ts with
 | nil =>
  cases e
  simp only[RepL] at q
  exact⟨q,k σ r⟩
 | cons t ts=>cases e
theorem z3u {es:List Expr} {g:Fg} {gs:List Fg} (h1:PGt X e g) (h2:PGst X es gs) (hs:(y33 (e::es) X.env).map (·.2)=assign e X.env::(y33 es X.env).map (·.2):=by rfl):PGst X (e::es) (g::gs) :=
 zie (zjb h1 h2 hs) fun vs σ H Q ⟨F₀,H₀,O,F,ε,ts,ε',r,q,e,k⟩=>by
 cases ts with
 | nil=>cases e
 | cons t ts =>
  simp only[gAll,y01] at e
  obtain⟨ε1,e1,e2⟩:=e
  simp only[RepL] at q
  obtain⟨v,vr,rfl,q1,q2⟩:=q
  exact⟨v,vr,rfl,F₀,H₀,O,F,ε,t,ε1,r,q1,e1,fun σ1 r1=>⟨F₀,H₀,O,F,ε1,ts,ε',r1,q2,e2,k⟩⟩
theorem zdq:∀{gs:List Fg} {ts:List T} {ε ε':Ev},gAll gs ts ε=some ε'->ts.length=gs.length
 | [],[],_,_,_=>rfl
 | [],_::_,_,_,h=>by cases h
 | _::_,[],_,_,h=>by cases h
 | g::gs,t::ts,ε,ε',h=>by
  simp only[gAll,y01] at h
  obtain⟨ε1,_,h⟩:=h
  simp[zdq h]
theorem zhg {es:List Expr} {k:Nat} {gs:List Fg} (h:PGst X es gs) (hc:X.calm=true:=by rfl) (hn:(y33 es X.env).length=gs.length:=by rfl) (hst:(y33 es X.env).findIdx? (·.1)=none:=by rfl) :
  PGt X (.Tuple es k pos) (gTu gs):=zlg (zoe hc h hn hst) fun v σ H Q ⟨F₀,H₀,O,F,ε,t,ε',r,q,e,k⟩=>by
 unfold gTu at e
 split at e
 next ts =>
  simp only[Rep] at q
  obtain⟨a,vs,rfl,hs,hr⟩:=q
  exact⟨a,vs,rfl,hs,by rw[<- hr.length];exact zdq e,F₀,H₀,O,F,ε,ts,ε',r,hr,e,k⟩
 next=>cases e
structure ItOk (K:y00) (J:It) (F1:Addr->Prop) (H1:Hp) (ts:List T):Prop where
 go:∀i F H t,Kp K F1 H1 F H->Dom F H->ts[i]?=some t->J.go i H
 yld:∀i F H t x H',Kp K F1 H1 F H->Dom F H->ts[i]?=some t->J.yld i H x H'->∃F',Ext F H F' H'/\Rep K F' H' t x
 stop:∀i F H,Kp K F1 H1 F H->ts.length<=i->J.stop i H
def tI (K:y00) (f:Fi):TI:=fun σ H R=>∃F₀ H₀ O F ε ts,RelE K F₀ H₀ O F H ε σ/\f ε=some ts/\∀J F' H',Ext F H F' H'->ItOk K J F' H' ts->R J H'
abbrev PIt (X:Cx) (tg e:Expr) (f:Fi):Prop:=PI X tg e (tI X.K f)
theorem zea {X:Cx} {tg e:Expr} {t t':TI} (h:PI X tg e t) (k:∀σ H R,t' σ H R->t σ H R):PI X tg e t':=fun pins s σ H R I q=>h pins s σ H R I (k σ H R q)
theorem zh7 {K:y00} {a:Addr} {F1:Addr->Prop} {H1:Hp} {ts:List T} {vs:List V} (fa:F1 a) (hr:Rd H1 a (.lst vs)) (q:RepL K F1 H1 ts vs):ItOk K (Itl K a) F1 H1 ts where
 go:=fun i F H t kp d e=>by
  obtain⟨v,h1,_⟩:=q.get e
  exact⟨vs,v,.inl (kp.lst _ _ fa hr).2,h1⟩
 yld:=fun i F H t x H' kp d e y=>by
  obtain⟨rfl,y⟩:=y
  obtain⟨v,h1,h2⟩:=(q.kp kp).get e
  have:=y vs (.inl (kp.lst _ _ fa hr).2)
  rw[h1] at this
  cases this
  exact⟨F,Ext.refl d,h2⟩
 stop:=fun i F H kp hl=>⟨vs,.inl (kp.lst _ _ fa hr).2,by rw[<- q.length];exact hl⟩
theorem zjx {K:y00} {a:Addr} {F1:Addr->Prop} {H1:Hp} {ts:List T} {vs:List V} (hr:SqT K H1 a vs) (q:RepL K F1 H1 ts vs):ItOk K (Itt K a) F1 H1 ts where
 go:=fun i F H t kp d e=>by
  obtain⟨v,h1,_⟩:=q.get e
  exact⟨vs,v,kp.tup _ _ hr,h1⟩
 yld:=fun i F H t x H' kp d e y=>by
  obtain⟨rfl,y⟩:=y
  obtain⟨v,h1,h2⟩:=(q.kp kp).get e
  have:=y vs (kp.tup _ _ hr)
  rw[h1] at this
  cases this
  exact⟨F,Ext.refl d,h2⟩
 stop:=fun i F H kp hl=>⟨vs,kp.tup _ _ hr,by rw[<- q.length];exact hl⟩
theorem zbs (lo hi:Int):(rng lo hi).length=(hi - lo).toNat:=by simp[rng]
theorem zjy {K:y00} {F1:Addr->Prop} {H1:Hp} (lo hi:Int):ItOk K (Itr lo (hi - lo).toNat) F1 H1 (rng lo hi) where
 go:=fun i F H t kp d e=>by
  have h:=(y0k.mp e).1
  rw[zbs] at h
  exact h
 yld:=fun i F H t x H' kp d e y=>by
  obtain⟨rfl,rfl⟩:=y
  refine⟨F,Ext.refl d,?_⟩
  have h:=(y0k.mp e).1
  rw[zbs] at h
  unfold rng at e
  rw[y14,List.getElem?_range h] at e
  simp at e
  subst e
  simp[Rep]
 stop:=fun i F H kp hl=>by
  rw[zbs] at hl
  exact hl
def iSq (K:y00) (tl:TE):TI:=fun σ H R=>tl σ H fun x H1=>∃a,x=.ref a/\(((∃xs,SqL K H1 a xs)/\R (Itl K a) H1)\/((∃xs,SqT K H1 a xs)/\R (Itt K a) H1))
theorem zqf {tg l:Expr} {tl:TE} (hl:PE X l tl):PI X tg l (iSq X.K tl):=by
 intro pins s σ H R I h
 refine thn (hl pins s σ H _ I h) fun v s1 ⟨x,H1,I1,r1,a,e1,q⟩=>?_
 subst e1
 cases r1
 have fp:∀b∈[s1.heap.objs.size],FpOk X pins H1 b:=fun b hb=>by
  have e:b=s1.heap.objs.size:=by simpa using hb
  subst e
  exact I1.fpOk (y0o _) (I1.hok.fresh (y0o _))
 rcases q with ⟨⟨xs,hq⟩,q⟩|⟨⟨xs,hq⟩,q⟩
 ·obtain⟨its,rv,p,hz⟩:=I1.list hq
  refine wpAny_pyIter_list p.isList ?_
  exact⟨s1.heap.objs.size,[s1.heap.objs.size],_,_,H1,rfl,I1.kept (t':=s1.toks) fun b o e=>y03 _ e,zfg a _,⟨_,y0l _ rfl,rfl,rfl⟩,fp,q⟩
 ·obtain⟨its,rv,p,hz⟩:=I1.tuple hq
  refine y2r (show s1.heap.IsTuple a its.toArray from p) ?_
  exact⟨s1.heap.objs.size,[s1.heap.objs.size],_,_,H1,rfl,I1.kept (t':=s1.toks) fun b o e=>y03 _ e,zee a _,⟨_,y0l _ rfl,rfl,rfl⟩,fp,q⟩
theorem z5p {tg l:Expr} {f:Fe} (hl:PEv X l f):PIt X tg l (z0d f):=zea (zqf hl) fun σ H R ⟨F₀,H₀,O,F,ε,ts,r,e,k⟩=>by
 simp only[z0d,y01] at e
 obtain⟨t,et,e⟩:=e
 split at e
 ·cases e
  refine⟨F₀,H₀,O,F,ε,_,r,et,fun v F' H' x q=>?_⟩
  simp only[Rep] at q
  obtain⟨a,vs,rfl,hs,hr⟩:=q
  exact⟨a,rfl,.inr ⟨⟨vs,hs⟩,k _ F' H' x (zjx hs hr)⟩⟩
 ·cases e
  refine⟨F₀,H₀,O,F,ε,_,r,et,fun v F' H' x q=>?_⟩
  simp only[Rep] at q
  obtain⟨a,vs,rfl,fa,hs,hr⟩:=q
  exact⟨a,rfl,.inl ⟨⟨vs,.inl hs⟩,k _ F' H' x (zh7 fa hs hr)⟩⟩
 ·cases e
theorem zl6 {tg a:Expr} {f:Fe} {p pos:Pos} (hm:X.mg "range"=none) (ha:PEr X a f) (hg:Gl X "range":=by rfl) (hs:y0a [a] X.env=[(false,eval a X.env)]:=by rfl) (hs2:y0a [a] X.env=(false,eval a X.env)::y0a [] X.env:=by rfl) :
  PIt X tg (.Call (.Name "range" p) [a] [] pos) (z3f f):=zea (zgf hg hm (z1w ha z2y hs2) hs) fun σ H R ⟨F₀,H₀,O,F,ε,ts,r,e,k⟩=>by
 simp only[z3f,y01] at e
 obtain⟨t,et,e⟩:=e
 split at e
 next j =>
  split at e
  next hz =>
   cases e
   refine⟨F₀,H₀,O,F,ε,_,r,et,fun v F' H' x q=>⟨j,by rw[q.int],?_,?_,k _ F' H' x (by simpa using zjy 0 j)⟩⟩
   ·simp[z4m] at hz
    omega
   ·simp[z4m] at hz
    omega
  next=>cases e
 next=>cases e
theorem z99 {tg iter:Expr} {body:List Stmt} {it:Fi} {gg:Fg} {bb:Fs} (hp:PassesOwn (y37 X.prog X.w) X.A X.env X.xe) (hi:PIt X tg iter it) (hg:PGt X tg gg) (hb:PBt X body bb) (hc:X.calm=true:=by rfl)
  (hs:∀x,y38 iter X.env x=pure x:=by intro _;rfl):PSt X (.For tg iter body [] pos) (for_ it gg bb):=z3g (zod hp hc hi hg hb hs) fun D σ H ⟨F₀,H₀,O,F,ε,o,r,e,k⟩=>by
 simp only[for_,y01] at e
 obtain⟨ts,et,e⟩:=e
 refine⟨F₀,H₀,O,F,ε,ts,r,et,fun J F1 H1 x1 ok=>?_⟩
 refine⟨fun i m σ' H'=>m=ts.length - i/\i<=ts.length/\∃F' ε' ,Kp X.K F1 H1 F' H'/\RelE X.K F₀ H₀ O F' H' ε' σ'/\forL gg bb (ts.drop i) ε'=some o,⟨_,rfl,y23 _,F1,ε,Kp.refl,r.ext x1,by simpa using e⟩,?_⟩
 rintro i m σ' H' ⟨rfl,hi',F',ε',kp,r',e'⟩
 by_cases hlt:i<ts.length
 ·have hd:ts.drop i=ts[i]::ts.drop (i+1):=List.drop_eq_getElem_cons hlt
  have hg':ts[i]?=some ts[i]:=y0v hlt
  rw[hd] at e'
  simp only[forL,y01] at e'
  obtain⟨ε1,eg,o1,eb,e'⟩:=e'
  refine .inr ⟨ok.go i F' H' _ kp r'.dom hg',fun σ2 H2=>∃m',m'<ts.length - i/\(m'=ts.length - (i+1)/\i+1<=ts.length/\∃F2 ε2,Kp X.K F1 H1 F2 H2/\RelE X.K F₀ H₀ O F2 H2 ε2 σ2/\forL gg bb (ts.drop (i+1)) ε2=some o),fun _ _ z=>z,fun x H2 y=>?_⟩
  obtain⟨F2,x2,rx⟩:=ok.yld i F' H' _ x H2 kp r'.dom hg' y
  refine⟨F₀,H₀,O,F2,ε',_,ε1,r'.ext x2,rx,eg,fun σ3 r3=>⟨F₀,H₀,O,F2,ε1,o1,r3,eb,?_⟩⟩
  have kp2:Kp X.K F1 H1 F2 H2:=kp.trans x2.kp
  cases o1 with
  | nx ε2=>exact fun σ4 F4 H4 k4 r4=>⟨_,by omega,rfl,hlt,F4,ε2,kp2.trans k4,r4,e'⟩
  | ct ε2=>exact fun σ4 F4 H4 k4 r4=>⟨_,by omega,rfl,hlt,F4,ε2,kp2.trans k4,r4,e'⟩
  | bk ε2 =>
   cases e'
   exact fun σ4 F4 H4 k4 r4=>k σ4 F4 H4 ((x1.kp.trans kp2).trans k4) r4
  | rt t =>
   cases e'
   exact k
  | rtm t ε2 =>
   cases e'
   exact k
  | rto s =>
   cases e'
   exact k
 ·have hd:ts.drop i=[]:=List.drop_eq_nil_of_le (by omega)
  rw[hd] at e'
  cases e'
  exact .inl ⟨ok.stop i F' H' kp (by omega),k σ' F' H' (x1.kp.trans kp) r'⟩
theorem zlu {body:List Stmt} {bb:Fs} (n:Nat) (hp:PassesOwn (y37 X.prog X.w) X.A X.env X.xe) (hc:PTt X c ft) (hb:PBt X body bb):PSt X (.While c body [] pos) (whl ft bb n):=z3g (zj7 hp hc hb) fun D σ H ⟨F₀,H₀,O,F,ε,o,r,e,k⟩=>by
 refine⟨fun m σ' H'=>∃F' ε',Kp X.K F H F' H'/\RelE X.K F₀ H₀ O F' H' ε' σ'/\whl ft bb m ε'=some o,⟨n,F,ε,Kp.refl,r,e⟩,?_⟩
 rintro m σ' H' ⟨F',ε',kp,r',e'⟩
 cases m with
 | zero=>cases e'
 | succ m =>
  simp only[whl,y01] at e'
  obtain⟨x,ex,e'⟩:=e'
  refine⟨F₀,H₀,O,F',ε',x,r',ex,fun F1 H1 x1=>?_⟩
  cases x with
  | false =>
   simp only[y1u,if_false] at e'
   cases e'
   exact iteF (k σ' F1 H1 (kp.trans x1.kp) (r'.ext x1))
  | true =>
   simp only[if_true,y01] at e'
   obtain⟨o1,eb,e'⟩:=e'
   refine iteT ⟨fun σ2 H2=>∃m',m'<m+1/\∃F2 ε2,Kp X.K F H F2 H2/\RelE X.K F₀ H₀ O F2 H2 ε2 σ2/\whl ft bb m' ε2=some o,fun _ _ z=>z,F₀,H₀,O,F1,ε',o1,r'.ext x1,eb,?_⟩
   have kp2:=kp.trans (x1.kp (K:=X.K))
   cases o1 with
   | nx ε2=>exact fun σ4 F4 H4 k4 r4=>⟨m,by omega,F4,ε2,kp2.trans k4,r4,e'⟩
   | ct ε2=>exact fun σ4 F4 H4 k4 r4=>⟨m,by omega,F4,ε2,kp2.trans k4,r4,e'⟩
   | bk ε2 =>
    cases e'
    exact fun σ4 F4 H4 k4 r4=>k σ4 F4 H4 (kp2.trans k4) r4
   | rt t =>
    cases e'
    exact k
   | rtm t ε2 =>
    cases e'
    exact k
   | rto s =>
    cases e'
    exact k
theorem zq4 (i:Nat) {x:Str} {px apos cpos:Pos} (he:PEv X e f) (hN:X.N[i]?=some x:=by rfl) (hv:Vis X.env.scope x:=by first|exact Or.inl rfl|exact Or.inr (Or.inl rfl)|exact Or.inr (Or.inr rfl)) (hd:(x == ("__debug__":Str))=false:=by decide)
  (hcd:(x == ("__classdict__":Str))=false:=by decide) (hs1:y0a [e] X.env=(false,eval e X.env)::y0a [] X.env:=by rfl)
  (hbase:attributeBase (.Name x px) "append" X.env (eval (.Name x px) X.env)=eval (.Name x px) X.env:=by rfl)
  (hfew:((y2l cpos (y0a [e] X.env)).all (fun x=>!x.1) && (y2o cpos (y2j [] X.env)).all (fun x=>x.1.isSome)
   && decide (([e]:List Expr).length+([]:List Keyword).length+(if ([]:List Keyword).isEmpty then 0 else 1)<30))=true:=by rfl)
  (hline:(apos.endLine == cpos.line)=true:=by rfl) (hplain:(y2l cpos (y0a [] X.env)).any (·.1)=false:=by rfl)
  (hsw:y2y (.Call (.Attribute (.Name x px) "append" apos) [e] [] cpos) none pos.line X.env=pure false:=by rfl) :
  PSt X (.Expr (.Call (.Attribute (.Name x px) "append" apos) [e] [] cpos) pos) (app i f) :=
 z3g (zgb (zoo PySem.F.plainAttrs_list PySem.F.slot_list_append PySem.F.type_list_append zao (pv i hN hv hd hcd) (z1w he z2y hs1) hbase hfew hline hs1 hplain) hsw) fun D σ H ⟨F₀,H₀,O,F,ε,o,r,e,k⟩=>by
 unfold app at e
 split at e
 next ts he =>
  simp only[y01] at e
  obtain⟨t,et,e⟩:=e
  split at e
  next hz =>
   cases e
   obtain⟨v,h1,a,vs,rfl,n,h0,hh,hr⟩:=r.val _ _ he
   refine⟨_,h1,.inl ⟨rfl,_,SqL.of hh⟩,F₀,H₀,O,F,ε,t,r,et,fun v F' H' x q=>?_⟩
   have r1:=r.ext x
   obtain⟨v1,h1',a1,vs1,e1,n1,h01,hh1,hr1⟩:=r1.val _ _ he
   rw[h1] at h1'
   cases h1'
   cases e1
   refine⟨a,vs1,v,rfl,rfl,hh1,by rw[z6p,<- hr1.length];exact hz,?_⟩
   obtain⟨kp,r2⟩:=r1.mut (s':=.own (ts++[t])) (o':=.lst (vs1++[v])) he rfl h1 n1 h0 hh1 (.inl ⟨_,rfl⟩) fun kp=>⟨a,_,rfl,n1,h0,z03,(hr1.kp kp).append (RepL.cons (q.kp kp) RepL.nil)⟩
   exact k σ F' _ (x.kp.trans kp) r2
  next=>cases e
 next=>cases e
theorem zq3 (i:Nat) {x:Str} {px apos cpos:Pos} (he:PEr X e f) (hN:X.N[i]?=some x:=by rfl) (hv:Vis X.env.scope x:=by first|exact Or.inl rfl|exact Or.inr (Or.inl rfl)|exact Or.inr (Or.inr rfl)) (hd:(x == ("__debug__":Str))=false:=by decide)
  (hcd:(x == ("__classdict__":Str))=false:=by decide) (hs1:y0a [e] X.env=(false,eval e X.env)::y0a [] X.env:=by rfl)
  (hbase:attributeBase (.Name x px) "extend" X.env (eval (.Name x px) X.env)=eval (.Name x px) X.env:=by rfl)
  (hfew:((y2l cpos (y0a [e] X.env)).all (fun x=>!x.1) && (y2o cpos (y2j [] X.env)).all (fun x=>x.1.isSome)
   && decide (([e]:List Expr).length+([]:List Keyword).length+(if ([]:List Keyword).isEmpty then 0 else 1)<30))=true:=by rfl)
  (hline:(apos.endLine == cpos.line)=true:=by rfl) (hplain:(y2l cpos (y0a [] X.env)).any (·.1)=false:=by rfl)
  (hsw:y2y (.Call (.Attribute (.Name x px) "extend" apos) [e] [] cpos) none pos.line X.env=pure false:=by rfl) :
  PSt X (.Expr (.Call (.Attribute (.Name x px) "extend" apos) [e] [] cpos) pos) (ext i f) :=
 z3g (zgb (zoo PySem.F.plainAttrs_list PySem.F.slot_list_extend PySem.F.type_list_extend zeo (pv i hN hv hd hcd) (z1w he z2y hs1) hbase hfew hline hs1 hplain) hsw) fun D σ H ⟨F₀,H₀,O,F,ε,o,r,e,k⟩=>by
 unfold ext at e
 split at e
 next ts he =>
  simp only[y01] at e
  obtain⟨t,et,e⟩:=e
  split at e
  next us =>
   split at e
   next hz =>
    cases e
    obtain⟨v,h1,a,vs,rfl,n,h0,hh,hr⟩:=r.val _ _ he
    refine⟨_,h1,.inl ⟨rfl,_,SqL.of hh⟩,F₀,H₀,O,F,ε,_,r,et,fun v F' H' x q=>?_⟩
    obtain⟨b,ws,rfl,hb,hw⟩:=q.lst
    have r1:=r.ext x
    obtain⟨v1,h1',a1,vs1,e1,n1,h01,hh1,hr1⟩:=r1.val _ _ he
    rw[h1] at h1'
    cases h1'
    cases e1
    refine⟨a,b,vs1,ws,rfl,rfl,hh1,hb,by rw[z6p,<- hr1.length,<- hw.length];exact hz,?_⟩
    obtain⟨kp,r2⟩:=r1.mut (s':=.own (ts++us)) (o':=.lst (vs1++ws)) he rfl h1 n1 h0 hh1 (.inl ⟨_,rfl⟩) fun kp=>⟨a,_,rfl,n1,h0,z03,(hr1.kp kp).append (hw.kp kp)⟩
    exact k σ F' _ (x.kp.trans kp) r2
   next=>cases e
  next=>cases e
 next=>cases e
theorem s_pop (i j:Nat) {x y:Str} {px py apos cpos:Pos} (hN:X.N.Nodup) (hi:X.N[i]?=some x:=by rfl) (hx:Loc X.env.scope x:=by first|exact Or.inl rfl|exact Or.inr rfl) (hj:X.N[j]?=some y:=by rfl)
  (hv:Vis X.env.scope y:=by first|exact Or.inl rfl|exact Or.inr (Or.inl rfl)|exact Or.inr (Or.inr rfl)) (hd:(y == ("__debug__":Str))=false:=by decide) (hcd:(y == ("__classdict__":Str))=false:=by decide)
  (hbase:attributeBase (.Name y py) "pop" X.env (eval (.Name y py) X.env)=eval (.Name y py) X.env:=by rfl) (hline:(apos.endLine == cpos.line)=true:=by rfl)
  (hs:y2y (.Call (.Attribute (.Name y py) "pop" apos) [] [] cpos) (some (.Name x px)) pos.line X.env=pure false:=by rfl) (hf:X.fn x=true\/X.env.scope.names.lookup x=some .local:=by first|exact .inl rfl|exact .inr rfl) :
  PSt X (.Assign [.Name x px] (.Call (.Attribute (.Name y py) "pop" apos) [] [] cpos) pos) (pop i j) :=
 z3g (zd6 hN hi hx (zon PySem.F.plainAttrs_list PySem.F.slot_list_pop PySem.F.type_list_pop zox (pv j hj hv hd hcd) hbase hline) hs hf) fun D σ H ⟨F₀,H₀,O,F,ε,o,r,e,k⟩=>by
 unfold pop at e
 split at e
 next ts he =>
  simp only[y01] at e
  obtain⟨t,et,e⟩:=e
  split at e
  next=>cases e
  next hij =>
   cases e
   obtain⟨v,h1,a,vs,rfl,n,h0,hh,hr⟩:=r.val _ _ he
   rw[List.getLast?_eq_getElem?] at et
   obtain⟨w,hw,rw'⟩:=hr.get et
   refine⟨_,h1,.inl ⟨rfl,_,SqL.of hh⟩,a,vs,w,rfl,rfl,hh,by rw[<- hr.length];exact hw,?_⟩
   obtain⟨kp,r2⟩:=r.mut (s':=.own ts.dropLast) (o':=.lst vs.dropLast) he rfl h1 n h0 hh (.inl ⟨_,rfl⟩) fun kp=>⟨a,_,rfl,n,h0,z03,by
    have:=(hr.kp kp).take (ts.length - 1)
    rw[<- List.dropLast_eq_take,hr.length,<- List.dropLast_eq_take] at this
    exact this⟩
   exact k _ F _ kp (r2.set i (rw'.kp kp))
 next=>cases e
end
end
section
variable [Tbl]
section
variable {X:Cx} {a b c e:Expr} {es:List Expr} {f g h:Fe} {fs:List Fe} {ft gt:Ft} {pos p:Pos}
theorem z0x:PAr X [] []:=zeb z2y fun σ H Q ⟨F₀,H₀,O,F,ε,ts,r,e,k⟩=>by
 cases e
 exact k [] F H (Ext.refl r.dom) .nil
theorem z0j (ha:PEr X e f) (hr:PAr X es fs) (hs:y0a (e::es) X.env=(false,eval e X.env)::y0a es X.env:=by rfl):PAr X (e::es) (f::fs):=zeb (z1w ha hr hs) fun σ H Q ⟨F₀,H₀,O,F,ε,ts,r,e,k⟩=>by
 simp only[args,y01,y07] at e
 obtain⟨t,et,us,eu,rfl⟩:=e
 refine⟨F₀,H₀,O,F,ε,t,r,et,fun v F1 H1 x1 q1=>⟨F₀,H₀,O,F1,ε,us,r.ext x1,eu,fun vs F2 H2 x2 q2=>?_⟩⟩
 exact k _ F2 H2 (x1.trans x2) (.cons (q1.ext x2) q2)
theorem z04:PAv X [] []:=zeb z2y fun σ H Q ⟨F₀,H₀,O,F,ε,ts,r,e,k⟩=>by
 cases e
 exact k [] F H (Ext.refl r.dom) RepL.nil
theorem z00 (ha:PEv X e f) (hr:PAv X es fs) (hs:y0a (e::es) X.env=(false,eval e X.env)::y0a es X.env:=by rfl):PAv X (e::es) (f::fs):=zeb (z1w ha hr hs) fun σ H Q ⟨F₀,H₀,O,F,ε,ts,r,e,k⟩=>by
 simp only[args,y01,y07] at e
 obtain⟨t,et,us,eu,rfl⟩:=e
 refine⟨F₀,H₀,O,F,ε,t,r,et,fun v F1 H1 x1 q1=>⟨F₀,H₀,O,F1,ε,us,r.ext x1,eu,fun vs F2 H2 x2 q2=>?_⟩⟩
 exact k _ F2 H2 (x1.trans x2) (RepL.cons (q1.ext x2) q2)
theorem z1o {x1} (h:PAv X es fs):PEv X (.Tuple es x1 pos) (z06 fs):=z0p (zog h) fun σ H Q ⟨F₀,H₀,O,F,ε,t,r,e,k⟩=>by
 simp only[z06,y01] at e
 obtain⟨ts,et,e⟩:=e
 split at e
 next hz =>
  cases e
  refine⟨F₀,H₀,O,F,ε,ts,r,et,fun vs F1 H1 x1 q1=>⟨by rw[z6p,<- q1.length];exact hz,fun p hp=>?_⟩⟩
  have x2:=Ext.laid (o:=.tup vs) x1.dom hp
  refine k _ F1 _ (x1.trans x2) ?_
  simp only[Rep]
  exact⟨p,vs,rfl,SqT.of z03,q1.ext x2⟩
 next=>cases e
theorem zlz (h:PAv X es fs):PEn X (.List es pos) (z12 fs):=z0p (zol h) fun σ H Q ⟨F₀,H₀,O,F,ε,us,r,e,k⟩=>by
 simp only[z12,y01] at e
 obtain⟨ts,et,e⟩:=e
 split at e
 next hz =>
  cases e
  refine⟨F₀,H₀,O,F,ε,_,r,et,fun vs F1 H1 x1 q1=>⟨by rw[z6p,<- q1.length];exact hz,fun p hp=>?_⟩⟩
  have x2:=Ext.laid (o:=.lst vs) x1.dom hp
  refine k p vs F1 _ (x1.trans x2) ?_ ?_ z03 (q1.ext x2)
  ·exact x1.same.none hp
  ·intro fp
   obtain⟨o,eo⟩:=x1.dom p fp
   rw[hp] at eo
   cases eo
 next=>cases e
theorem z8i (h:PAv X es fs):PEv X (.List es pos) (z12 fs):=n2v (zlz h) fun ε t e=>by
 simp only[z12,y01] at e
 obtain⟨ts,et,e⟩:=e
 split at e
 ·cases e
  exact⟨_,rfl⟩
 ·cases e
mutual
theorem zd2 {F:Addr->Prop} {pins:List (Addr×Obj)} {σ:L2.St} {H:Hp} {s:y04} (I:Inv X pins σ H s):∀{t:T} {v:V} {u:Value},Rep X.K F H t v->RelV v u->∃as,Reads s.heap u t as
 | .none,v,u,h,r=>by
  simp only[Rep] at h
  subst h
  cases r
  exact⟨_,.none⟩
 | .bool b,v,u,h,r=>by
  simp only[Rep] at h
  subst h
  cases r
  exact⟨_,.bool b⟩
 | .int i,v,u,h,r=>by
  simp only[Rep] at h
  subst h
  obtain⟨t,rfl⟩:=r
  exact⟨_,.int i t⟩
 | .str x,v,u,h,r=>by
  simp only[Rep] at h
  subst h
  obtain⟨t,rfl⟩:=r
  exact⟨_,.str x t⟩
 | .dict _,v,u,h,r=>by simp[Rep] at h
 | .tuple ts,v,u,h,r=>by
  simp only[Rep] at h
  obtain⟨a,vs,rfl,hs,hr⟩:=h
  cases r
  obtain⟨its,rv,⟨o,h1,h2,n,h3⟩,hz⟩:=I.tuple hs
  obtain⟨as,ra⟩:=z55 I hr rv
  exact⟨_,.tuple h1 h2 h3 (by simpa using ra)⟩
 | .list ts,v,u,h,r=>by
  simp only[Rep] at h
  obtain⟨a,vs,rfl,fa,hs,hr⟩:=h
  cases r
  obtain⟨z,its,n,rv,hl,e⟩:=Inv.lstR I hs
  obtain⟨as,ra⟩:=z55 I hr rv
  exact⟨_,.list e rfl rfl (by simpa using ra)⟩
theorem z55 {F:Addr->Prop} {pins:List (Addr×Obj)} {σ:L2.St} {H:Hp} {s:y04} (I:Inv X pins σ H s):∀{ts:List T} {vs:List V} {us:List Value},RepL X.K F H ts vs->Vals vs us->∃as,ReadsAll s.heap us ts as
 | [],vs,us,h,r=>by
  simp only[RepL] at h
  subst h
  cases r
  exact⟨_,.nil⟩
 | t::ts,vs,us,h,r=>by
  simp only[RepL] at h
  obtain⟨v,vr,rfl,h1,h2⟩:=h
  cases r with
  | cons r1 r2 =>
   obtain⟨as,q1⟩:=zd2 I h1 r1
   obtain⟨bs,q2⟩:=z55 I h2 r2
   exact⟨_,.cons q1 q2⟩
end
theorem z11 {O F:Addr->Prop} {pins:List (Addr×Obj)} {σ:L2.St} {H:Hp} {s:y04} (I:Inv X pins σ H s) {t:T} {v:V} {u:Value} (h:RepR X.K O F H t v) (r:RelV v u):∃as,Reads s.heap u t as:=by
 rcases h with h|⟨ts,a,vs,rfl,rfl,ha,h⟩
 ·exact zd2 I h r
 ·cases r
  obtain⟨z,its,n,rv,hl,e⟩:=Inv.lstR I (.inl ha)
  obtain⟨as,ra⟩:=z55 I h rv
  exact⟨_,.list e rfl rfl (by simpa using ra)⟩
theorem z61 {t:T} (h:okT t=true):t.canLay0=true/\t.depth<=60:=by
 simp only[okT,y1b,decide_eq_true_eq] at h
 exact h
theorem zkv {t:List T} (h:okL t=true):y1g t=true/\y1e t<=60:=by
 simp only[okL,y1b,decide_eq_true_eq] at h
 exact h
noncomputable def zj0 (K:y00) (n:Bool):R2:=fun x y H Q=>∃(O F:Addr->Prop) (s t:T),RepR K O F H s x/\RepR K O F H t y/\okT s=true/\okT t=true/\Q (.bl (if n then !PyData.eqv s t else y20 s t)) H
theorem z4d (hu:X.A.units+64<cLine):OpR X (y2s .Eq) (zj0 X.K false):=by
 intro pins s σ H x y v u Q I rx ry ⟨O,F,d,t,h1,h2,o1,o2,q⟩
 obtain⟨as,ra⟩:=z11 I h1 rx
 obtain⟨bs,rb⟩:=z11 I h2 ry
 obtain⟨c1,l1⟩:=z61 o1
 obtain⟨c2,l2⟩:=z61 o2
 refine SeqAt.compareEq_reads ra rb c1 c2 (by have:=Nat.min_le_left d.depth t.depth;omega) ?_
 exact⟨.bl _,H,I,rfl,q⟩
theorem z4c (hu:X.A.units+64<cLine):OpR X (y2s .NotEq) (zj0 X.K true):=by
 intro pins s σ H x y v u Q I rx ry ⟨O,F,d,t,h1,h2,o1,o2,q⟩
 obtain⟨as,ra⟩:=z11 I h1 rx
 obtain⟨bs,rb⟩:=z11 I h2 ry
 obtain⟨c1,l1⟩:=z61 o1
 obtain⟨c2,l2⟩:=z61 o2
 refine SeqAt.compareNe_reads ra rb c1 c2 (by have:=Nat.min_le_left d.depth t.depth;omega) ?_
 exact⟨.bl _,H,I,rfl,q⟩
theorem zaj {op:CmpOp} {R:R2} {o:T->T->Option T} (ho:OpR X (y2s op) R) (h2:Op2 X.K o R) (ha:PEr X a f) (hb:PEr X b g) (hm:y2z op b=false:=by first|exact zkz _|rfl):PEv X (.Compare a [op] [b] pos) (op2 o f g):=z0p (zme ho ha hb hm) (z3q h2)
theorem z1u {op:CmpOp} {R:R2} {o:T->T->Option T} (ho:OpR X (y2s op) R) (h2:Op2 X.K o R) (ha:PEr X a f) (hb:PEr X b g) (hm:y2z op b=false:=by first|exact zkz _|rfl):PTt X (.Compare a [op] [b] pos) (tstB (op2 o f g)) :=
 z7y (zm2 ho ha hb hm) fun σ H Q ⟨F₀,H₀,O,F,ε,b,r,e,k⟩=>by
 simp only[tstB,y01] at e
 obtain⟨t,et,e⟩:=e
 split at e
 ·cases e
  refine z3q h2 σ H _ ⟨F₀,H₀,O,F,ε,_,r,et,fun v F' H' x q=>?_⟩
  simp only[Rep] at q
  exact⟨_,q,k F' H' x⟩
 ·cases e
theorem z4f:Op2 X.K oEq (zj0 X.K false):=by
  intro O F H x y t vx vy Q d rx ry e k
  unfold oEq at e
  split at e
  next hz =>
   cases e
   rw[y1b] at hz
   exact⟨O,F,x,y,rx,ry,hz.1,hz.2,k _ F H (Ext.refl d) (by simp[Rep])⟩
  next=>cases e
theorem z4e:Op2 X.K oNe (zj0 X.K true):=by
  intro O F H x y t vx vy Q d rx ry e k
  unfold oNe at e
  split at e
  next hz =>
   cases e
   rw[y1b] at hz
   exact⟨O,F,x,y,rx,ry,hz.1,hz.2,k _ F H (Ext.refl d) (by simp[Rep])⟩
  next=>cases e
noncomputable def rInT (K:y00) (n:Bool):R2:=fun x y H Q=>∃(O F:Addr->Prop) (s:T) (ts:List T),RepR K O F H s x/\(RepR K O F H (.tuple ts) y\/RepR K O F H (.list ts) y)/\okT s=true/\okL ts=true/\Q (.bl (if n then !hasT s ts else hasT s ts)) H
theorem z60 (hu:X.A.units+64<cLine):OpR X (y2s .In) (rInT X.K false):=by
 intro pins s σ H x y v u Q I rx ry ⟨O,F,d,ts,h1,h2,o1,o2,q⟩
 obtain⟨as,ra⟩:=z11 I h1 rx
 obtain⟨c1,l1⟩:=z61 o1
 obtain⟨c2,l2⟩:=zkv o2
 have hm:=Nat.min_le_left (y1e ts) d.depth
 rcases h2 with h2|h2
 ·obtain⟨bs,rb⟩:=z11 I h2 ry
  exact SeqAt.in_tuple_reads rb ra c2 c1 (by omega) ⟨.bl _,H,I,rfl,q⟩
 ·obtain⟨bs,rb⟩:=z11 I h2 ry
  exact SeqAt.in_list_reads rb ra c2 c1 (by omega) ⟨.bl _,H,I,rfl,q⟩
theorem z3p (hu:X.A.units+64<cLine):OpR X (y2s .NotIn) (rInT X.K true):=by
 intro pins s σ H x y v u Q I rx ry ⟨O,F,d,ts,h1,h2,o1,o2,q⟩
 obtain⟨as,ra⟩:=z11 I h1 rx
 obtain⟨c1,l1⟩:=z61 o1
 obtain⟨c2,l2⟩:=zkv o2
 have hm:=Nat.min_le_left (y1e ts) d.depth
 rcases h2 with h2|h2
 ·obtain⟨bs,rb⟩:=z11 I h2 ry
  exact SeqAt.notIn_tuple_reads rb ra c2 c1 (by omega) ⟨.bl _,H,I,rfl,q⟩
 ·obtain⟨bs,rb⟩:=z11 I h2 ry
  exact SeqAt.notIn_list_reads rb ra c2 c1 (by omega) ⟨.bl _,H,I,rfl,q⟩
theorem z2z {n:Bool}:Op2 X.K (oIn n) (rInT X.K n):=by
 intro O F H x y t vx vy Q d rx ry e k
 unfold oIn at e
 split at e
 ·split at e
  next hz =>
   cases e
   rw[y1b] at hz
   exact⟨O,F,x,_,rx,.inl ry,hz.1,hz.2,k _ F H (Ext.refl d) (by simp[Rep])⟩
  next=>cases e
 ·split at e
  next hz =>
   cases e
   rw[y1b] at hz
   exact⟨O,F,x,_,rx,.inr ry,hz.1,hz.2,k _ F H (Ext.refl d) (by simp[Rep])⟩
  next=>cases e
 ·cases e
theorem zgj:Op2 X.K oLt (fun x y H Q=>rI0 (fun i j=>.bl (decide (i<j))) x y H Q\/∃i j,x=.str i/\y=.str j/\Q (.bl (decide (i.cps.toList<j.cps.toList))) H):=by
  intro O F H x y t vx vy Q d rx ry e k
  unfold oLt at e
  split at e
  ·cases e
   rw[rx.int,ry.int]
   exact .inl ⟨_,_,rfl,rfl,k _ F H (Ext.refl d) (by simp[Rep])⟩
  ·cases e
   rw[rx.str,ry.str]
   exact .inr ⟨_,_,rfl,rfl,k _ F H (Ext.refl d) (by simp[Rep,strLt])⟩
  ·cases e
theorem zo2 (ha:PEr X a f):PEv X (.UnaryOp .USub a pos) (op1 oNeg f):=z0p (zqg znj ha) fun σ H Q ⟨F₀,H₀,O,F,ε,t,r,e,k⟩=>by
 simp only[op1,y01] at e
 obtain⟨x,ex,e⟩:=e
 unfold oNeg at e
 split at e
 ·cases e
  exact⟨F₀,H₀,O,F,ε,_,r,ex,fun v F1 H1 x1 rx=>⟨_,rx.int,k _ F1 H1 x1 (by simp[Rep])⟩⟩
 ·cases e
noncomputable def OpN (K:y00) (o:List T->Option T) (R:List V->Hp->VK->Prop):Prop :=
 ∀(O F:Addr->Prop) (H:Hp) (ts:List T) (t:T) (vs:List V) (Q:VK),Dom F H->Paired (RepR K O F H) ts vs->o ts=some t ->
  (∀v F' H',Ext F H F' H'->Rep K F' H' t v->Q v H')->R vs H Q
theorem z4o {o:List T->Option T} {R:List V->Hp->VK->Prop} (hR:OpN X.K o R):∀σ H Q,tV X.K (opN o fs) σ H Q->tCB R (tAR X.K fs) σ H Q:=by
 rintro σ H Q ⟨F₀,H₀,O,F,ε,t,r,e,k⟩
 simp only[opN,y01] at e
 obtain⟨ts,et,eo⟩:=e
 exact⟨F₀,H₀,O,F,ε,ts,r,et,fun vs F1 H1 x1 q=>hR O F1 H1 ts t vs Q x1.dom q eo fun v F' H' x3 q3=>k v F' H' (x1.trans x3) q3⟩
theorem zkj {u:Value} {r r':List V->Hp->VK->Prop} (h1:z23 X u r) (h2:z23 X u r'):z23 X u (fun xs H Q=>r xs H Q\/r' xs H Q):=h1.or h2
theorem z56 (hm:X.mg "len"=none) (ha:PAr X (e::es) fs) (hg:Gl X "len":=by rfl) (he:y0a (e::es) X.env=(false,eval e X.env)::y0a es X.env:=by rfl) (hpl:(y2l pos (y0a es X.env)).any (·.1)=false:=by rfl) :
  PEv X (.Call (.Name "len" p) (e::es) [] pos) (opN oLen fs):=z0p (z2r (zbb.or zba) hg hm PySem.boot_len ha (he:=he) (hpl:=hpl)) (z4o (by
 intro O F H ts t vs Q d q e k
 unfold oLen at e
 split at e
 ·cases e
  cases q with
  | cons q1 q2 =>
   cases q2
   obtain⟨a,ws,rfl,hs,hr⟩:=q1.tup
   exact .inl ⟨a,ws,rfl,.inr hs,k _ F H (Ext.refl d) (by simp[Rep,hr.length])⟩
 ·cases e
  cases q with
  | cons q1 q2 =>
   cases q2
   obtain⟨a,ws,rfl,hs,hr⟩:=q1.lst
   exact .inl ⟨a,ws,rfl,.inl (.inl hs),k _ F H (Ext.refl d) (by simp[Rep,hr.length])⟩
 ·split at e
  next hz =>
   cases e
   cases q with
   | cons q1 q2 =>
    cases q2
    exact .inr ⟨_,by rw[q1.str],by rw[z6p];exact hz,k _ F H (Ext.refl d) (by simp[Rep])⟩
  next=>cases e
 ·cases e))
theorem zqa (hm:X.mg "min"=none) (ha:PAr X (e::es) fs) (hc:X.calm=true:=by rfl) (hg:Gl X "min":=by rfl) (he:y0a (e::es) X.env=(false,eval e X.env)::y0a es X.env:=by rfl) (hpl:(y2l pos (y0a es X.env)).any (·.1)=false:=by rfl) :
  PEv X (.Call (.Name "min" p) (e::es) [] pos) (opN oMin fs):=z0p (z2r (zhz hc) hg hm (by decide +kernel) ha (he:=he) (hpl:=hpl)) (z4o (by
 intro O F H ts t vs Q d q e k
 unfold oMin at e
 split at e
 ·cases e
  cases q with
  | cons q1 q2 =>
   cases q2 with
   | cons q2 q3 =>
    cases q3
    exact⟨_,_,by rw[q1.int,q2.int],k _ F H (Ext.refl d) (by simp[Rep])⟩
 ·cases e))
theorem zqb (hm:X.mg "max"=none) (ha:PAr X (e::es) fs) (hc:X.calm=true:=by rfl) (hg:Gl X "max":=by rfl) (he:y0a (e::es) X.env=(false,eval e X.env)::y0a es X.env:=by rfl) (hpl:(y2l pos (y0a es X.env)).any (·.1)=false:=by rfl) :
  PEv X (.Call (.Name "max" p) (e::es) [] pos) (opN oMax fs):=z0p (z2r (zi0 hc) hg hm (by decide +kernel) ha (he:=he) (hpl:=hpl)) (z4o (by
 intro O F H ts t vs Q d q e k
 unfold oMax at e
 split at e
 ·cases e
  cases q with
  | cons q1 q2 =>
   cases q2 with
   | cons q2 q3 =>
    cases q3
    exact⟨_,_,by rw[q1.int,q2.int],k _ F H (Ext.refl d) (by simp[Rep])⟩
 ·cases e))
theorem zg3 (hm:X.mg "tuple"=none) (ha:PAr X (e::es) fs) (hg:Gl X "tuple":=by rfl) (he:y0a (e::es) X.env=(false,eval e X.env)::y0a es X.env:=by rfl) (hpl:(y2l pos (y0a es X.env)).any (·.1)=false:=by rfl) :
  PEv X (.Call (.Name "tuple" p) (e::es) [] pos) (opN z57 fs):=z0p (z2g z9q hg hm (by decide +kernel) ha (he:=he) (hpl:=hpl)) (z4o (by
 intro O F H ts t vs Q d q e k
 unfold z57 at e
 split at e
 ·cases e
  cases q with
  | cons q1 q2 =>
   cases q2
   obtain⟨a,ws,rfl,hs,hr⟩:=q1.tup
   refine⟨a,ws,rfl,.inr ⟨hs,k _ F H (Ext.refl d) ?_⟩⟩
   simp only[Rep]
   exact⟨a,ws,rfl,hs,hr⟩
 ·cases e
  cases q with
  | cons q1 q2 =>
   cases q2
   obtain⟨a,ws,rfl,hs,hr⟩:=q1.lst
   refine⟨a,ws,rfl,.inl ⟨.inl hs,fun l hl=>?_⟩⟩
   have x1:=Ext.laid (o:=.tup ws) d hl
   refine k _ F _ x1 ?_
   simp only[Rep]
   exact⟨l,ws,rfl,SqT.of z03,hr.ext x1⟩
 ·cases e))
theorem zo4 (hm:X.mg "int"=none) (ha:PAr X (e::es) fs) (hg:Gl X "int":=by rfl) (he:y0a (e::es) X.env=(false,eval e X.env)::y0a es X.env:=by rfl) (hpl:(y2l pos (y0a es X.env)).any (·.1)=false:=by rfl) :
  PEv X (.Call (.Name "int" p) (e::es) [] pos) (opN oInt fs):=z0p (z2g zi1 hg hm (by decide +kernel) ha (he:=he) (hpl:=hpl)) (z4o (by
 intro O F H ts t vs Q d q e k
 unfold oInt at e
 split at e
 ·cases e
  cases q with
  | cons q1 q2 =>
   cases q2
   exact .inl ⟨_,by rw[q1.int],k _ F H (Ext.refl d) (by simp[Rep])⟩
 ·cases e
  cases q with
  | cons q1 q2 =>
   cases q2
   exact .inr ⟨_,by rw[q1.bl],k _ F H (Ext.refl d) (by simp[Rep])⟩
 ·cases e))
theorem znn (h:PEr X e f) (he:∀whole,isTrue e X.env whole=(do let v <- whole;standAt e.pos;holding [v] (truthy v)):=by intro _;rfl):PTt X e (tstB f):=z7y (zob h he) fun σ H Q ⟨F₀,H₀,O,F,ε,b,r,e,k⟩=>by
 simp only[tstB,y01] at e
 obtain⟨t,et,e⟩:=e
 split at e
 ·cases e
  exact⟨F₀,H₀,O,F,ε,_,r,et,fun v F1 H1 x1 rx=>⟨_,rx.bl,k F1 H1 x1⟩⟩
 ·cases e
theorem zpq {j pos'} (ha:PEr X a f):PTt X (.Compare a [.Is] [.Constant .none j pos'] pos) (tstB (op1 oIsN f)):=z7y (zga (zoq ha)) fun σ H Q ⟨F₀,H₀,O,F,ε,t,r,e,k⟩=>by
 simp only[tstB,op1,oIsN,y01] at e
 obtain⟨_,⟨x,ex,e1⟩,e⟩:=e
 cases e1
 cases e
 refine⟨F₀,H₀,O,F,ε,x,r,ex,fun v F1 H1 x1 rx=>⟨_,?_,k F1 H1 x1⟩⟩
 cases x with
 | none=>rw[rx.non];simp
 | bool b=>rw[rx.bl];simp
 | int b=>rw[rx.int];simp
 | str b=>rw[rx.str];simp
 | tuple b=>obtain⟨_,_,e,_⟩:=rx.tup;rw[e];simp
 | list b=>obtain⟨_,_,e,_⟩:=rx.lst;rw[e];simp
 | dict b=>rcases rx with rx|⟨_,_,_,z,_⟩;simp[Rep] at rx;cases z
theorem za2 {j pos'} (ha:PEr X a f):PTt X (.Compare a [.IsNot] [.Constant .none j pos'] pos) (tstB (op1 z17 f)):=z7y (zga (zmg ha)) fun σ H Q ⟨F₀,H₀,O,F,ε,t,r,e,k⟩=>by
 simp only[tstB,op1,z17,y01] at e
 obtain⟨_,⟨x,ex,e1⟩,e⟩:=e
 cases e1
 cases e
 refine⟨F₀,H₀,O,F,ε,x,r,ex,fun v F1 H1 x1 rx=>⟨_,?_,k F1 H1 x1⟩⟩
 cases x with
 | none=>rw[rx.non];simp
 | bool b=>rw[rx.bl];simp
 | int b=>rw[rx.int];simp
 | str b=>rw[rx.str];simp
 | tuple b=>obtain⟨_,_,e,_⟩:=rx.tup;rw[e];simp
 | list b=>obtain⟨_,_,e,_⟩:=rx.lst;rw[e];simp
 | dict b=>rcases rx with rx|⟨_,_,_,z,_⟩;simp[Rep] at rx;cases z
theorem zfi (h:PEr X e f) (he:∀whole,isTrue e X.env whole=(do let v <- whole;standAt e.pos;holding [v] (truthy v)):=by intro _;rfl):PTt X e (tstL f):=z7y (zj5 h he) fun σ H Q ⟨F₀,H₀,O,F,ε,b,r,e,k⟩=>by
 simp only[tstL,y01] at e
 obtain⟨t,et,e⟩:=e
 have emp:∀{ts:List T} {vs:List V} {F1:Addr->Prop} {H1:Hp},RepL X.K F1 H1 ts vs->ts.isEmpty=vs.isEmpty:=fun {ts vs F1 H1} q=>by
  have:=q.length
  cases ts <;> cases vs <;> simp_all
 split at e
 ·cases e
  refine⟨F₀,H₀,O,F,ε,_,r,et,fun v F1 H1 x1 rx=>?_⟩
  obtain⟨a,vs,rfl,hs,hr⟩:=rx.lst
  exact⟨_,.inl ⟨vs,.inl hs,by rw[emp hr]⟩,k F1 H1 x1⟩
 ·cases e
  refine⟨F₀,H₀,O,F,ε,_,r,et,fun v F1 H1 x1 rx=>?_⟩
  obtain⟨a,vs,rfl,hs,hr⟩:=rx.tup
  exact⟨_,.inr (.inl ⟨vs,hs,by rw[emp hr]⟩),k F1 H1 x1⟩
 ·cases e
theorem znl (h:PTt X e ft):PTt X (.UnaryOp .Not e pos) (notT ft):=z7y (zoc h) fun σ H Q ⟨F₀,H₀,O,F,ε,b,r,e,k⟩=>by
 simp only[notT,y07] at e
 obtain⟨c,ec,rfl⟩:=e
 exact⟨F₀,H₀,O,F,ε,c,r,ec,fun F1 H1 x1=>k F1 H1 x1⟩
theorem zkk (h:PTt X e ft):PWt X (.BoolOp .And [e] pos) ft:=zm0 h
theorem zii (h:PTt X e ft):PWt X (.BoolOp .Or [e] pos) ft:=zo8 h
theorem w_and (h:PTt X a ft) (h2:PWt X (.BoolOp .And (b::es) pos) gt):PWt X (.BoolOp .And (a::b::es) pos) (andT ft gt):=zle (zo9 h h2) fun σ H Q ⟨F₀,H₀,O,F,ε,b,r,e,k⟩=>by
 simp only[andT,y01] at e
 obtain⟨c,ec,e⟩:=e
 refine⟨F₀,H₀,O,F,ε,c,r,ec,fun F1 H1 x1=>?_⟩
 cases c with
 | true=>exact iteT ⟨F₀,H₀,O,F1,ε,b,r.ext x1,by simpa using e,fun F2 H2 x2=>k F2 H2 (x1.trans x2)⟩
 | false =>
  have:b=false:=by simpa using e.symm
  subst this
  exact iteF (k F1 H1 x1)
theorem w_or (h:PTt X a ft) (h2:PWt X (.BoolOp .Or (b::es) pos) gt):PWt X (.BoolOp .Or (a::b::es) pos) (orT ft gt):=zle (zqd h h2) fun σ H Q ⟨F₀,H₀,O,F,ε,b,r,e,k⟩=>by
 simp only[orT,y01] at e
 obtain⟨c,ec,e⟩:=e
 refine⟨F₀,H₀,O,F,ε,c,r,ec,fun F1 H1 x1=>?_⟩
 cases c with
 | true =>
  have:b=true:=by simpa using e.symm
  subst this
  exact iteT (k F1 H1 x1)
 | false=>exact iteF ⟨F₀,H₀,O,F1,ε,b,r.ext x1,by simpa using e,fun F2 H2 x2=>k F2 H2 (x1.trans x2)⟩
theorem w_t (h:PWt X e ft):PTt X e ft:=h.pt
end
end
section
variable [Tbl]
noncomputable def spT (K:y00) (n:Nat) (d:List T->Option T):Sp:=fun vs H Q _=>vs.length=n/\∃F ts t,Dom F H/\RepL K F H ts vs/\d ts=some t/\∀v F' H',Ext F H F' H'->Rep K F' H' t v->Q v H'
section
variable {X:Cx} {k n:Nat} {fa:Addr} {fd:y0b} {ps:List Str} {d:List T->Option T} {x:Str} {p pos:Pos} {e:Expr} {es:List Expr} {fs:List Fe}
theorem zo6 (F:FnOk X.prog X.w X.K X.mg X.base CX0 k fa fd ps (spT X.K n d)) (hr:Room k X.A) (hg:Gl X x) (hm:X.mg x=some (.ref fa)) (hk:y08 X.K (.ref fa)=true) (hb:Binds X.K fd ps [])
  (ha:PAv X (e::es) fs) (hn:fs.length=n:=by rfl) (hdb:(x == ("__debug__":Str))=false:=by decide) (he:y0a (e::es) X.env=(false,eval e X.env)::y0a es X.env:=by rfl) (hpl:(y2l pos (y0a es X.env)).any (·.1)=false:=by rfl) :
  PEv X (.Call (.Name x p) (e::es) [] pos) (opN d fs):=z0p (zmf F hr hg hm hk hb .nil zqj ha hdb he hpl) fun σ H Q ⟨F₀,H₀,O,F,ε,t,r,e,k⟩=>by
 simp only[opN,y01] at e
 obtain⟨ts,et,ed⟩:=e
 have hl:∀(gs:List Fe) (us:List T),args gs ε=some us->us.length=gs.length:=by
  intro gs
  induction gs with
  | nil=>intro us e;cases e;rfl
  | cons g gs ih =>
   intro us e
   simp only[args,y01,y07] at e
   obtain⟨t,_,vs,ev,rfl⟩:=e
   simp[ih vs ev]
 refine⟨F₀,H₀,O,F,ε,ts,r,et,fun vs F1 H1 x1 q=>⟨?_,F1,ts,t,x1.dom,by simpa using q,ed,fun v F' H' x2 q2=>k v F' H' (x1.trans x2) q2⟩⟩
 rw[List.append_nil,<- q.length,hl fs ts et,hn]
end
section
variable {P:y0q} {w:World} {K:y00} {mg:Str->Option Value} {base:Heap}
theorem z8g {F:Addr->Prop} {H:Hp} {ts:List T} {vs:List V} {N:List Str} (dom:Dom F H) (q:RepL K F H ts vs) (n:Nat) :
  RelE K F ⟨H,0⟩ (fun a=>H a=none) F H ((ts.map fun t=>some (.imm t))++y0g n none) (vs.map some++y0g n none):=by
 have imm:∀(i:Nat) (s:Sl),((ts.map fun t=>some (Sl.imm t))++y0g n none)[i]?=some (some s)->∃t,s=.imm t/\ts[i]?=some t:=by
  intro i s e
  by_cases hi:i<ts.length
  ·rw[y1n (by simpa using hi),y14] at e
   rw[y0v hi] at e ⊢
   simp at e
   exact⟨_,e.symm,rfl⟩
  ·rw[y1l (by simpa using hi),List.getElem?_replicate] at e
   split at e <;> cases e
 refine⟨by simp[q.length],fun i s e=>?_,fun i j s u v w hij e1 e2 o1=>?_,Ext.refl dom,fun _ h=>h,fun _ h=>h⟩
 ·obtain⟨t,rfl,ht⟩:=imm i s e
  obtain⟨v,hv,rv⟩:=q.get ht
  refine⟨v,?_,rv⟩
  rw[y1n (by have:=(y0k.mp hv).1;simpa using this),y14,hv]
  rfl
 ·obtain⟨t,rfl,_⟩:=imm i s e1
  cases o1
theorem zl7 {x qual:Str} {st:Stmt} {f:Addr} {fd:y0b} {N ps:List Str} {k:Nat} {b:Fs} (F:Fun K x qual st f fd) (S:FnScope N ps (z01 st))
  (hb:∀(cdv:Value) (A:Around) (outer:List Env) (s:y04) (H:Hp) (E:XK),Room k (A.deeper (envOfC qual (z01 st) s.heap.objs.size f cdv)) ->
   PBt (cxOf CX0 P w K mg base N qual (z01 st) f cdv A outer s H E).nox (z0g st) b) :
  FnOk P w K mg base CX0 (k+1) f fd ps (spT K ps.length (runF b N.length)):=by
 refine F.ok S (fun vs H Q E h=>h.1) fun cdv A outer s H vs Q E hr h=>⟨_,hb cdv A outer s H E hr,?_⟩
 obtain⟨hl,F,ts,t,dom,q,e,kq⟩:=h
 simp only[runF,y01] at e
 obtain⟨o,eo,e⟩:=e
 refine⟨F,⟨H,0⟩,fun a=>H a=none,F,_,o,?_,eo,?_⟩
 ·have:=z8g (N:=N) dom q (N.length - ts.length)
  unfold L2.start
  rw[q.length] at this ⊢
  exact this
 ·cases o with
  | rt t' =>
   cases e
   exact fun v F' H' x q=>kq v F' H' x q
  | nx ε' =>
   cases e
   exact fun σ' F' H' _ r=>kq _ F' H' r.ent (by simp[Rep])
  | bk _=>cases e
  | ct _=>cases e
  | rtm _ _=>cases e
  | rto _=>cases e
theorem z7l {f:Addr} {fd:y0b} {ps:List Str} {k n:Nat}:FnOk P w K mg base CX0 k f fd ps (spT K n fun _=>none):=by
 have no:∀vs H Q E,¬spT K n (fun _=>none) vs H Q E:=fun vs H Q E h=>by
  obtain⟨_,_,_,_,_,_,e,_⟩:=h
  cases e
 exact⟨fun vs H Q E h=>absurd h (no vs H Q E),fun A outer s H args us vs Q E _ _ _ _ h=>absurd h (no vs H Q E)⟩
end
end
section
variable [Tbl]
noncomputable def clos (env:Env):List (Str×y36)->List (Str×Addr)->List (Str×Addr)
 | [],cs=>cs
 | x::r,cs=>if x.2 == .free then clos env r ((x.1,(env.cells.lookup x.1).getD 0)::cs) else clos env r cs
theorem z5b {scope:Scope} {env:Env} (h:∀x∈scope.names,x.2=.free->∃c,env.cells.lookup x.1=some c):closureFor scope env=pure (clos env scope.names []):=by
 have go:∀(l:List (Str×y36)) (cs:List (Str×Addr)),(∀x∈l,x.2=.free->∃c,env.cells.lookup x.1=some c) ->
   (forIn l cs (fun x r=>(if (x.2 == NameKind.free)=true then do let a <- cellOf env x.1;pure (ForInStep.yield ((x.1,a)::r)) else pure (ForInStep.yield r)):_->_->Sem (ForInStep (List (Str×Addr)))):Sem (List (Str×Addr)))=pure (clos env l cs):=by
  intro l
  induction l with
  | nil=>intro cs _;rfl
  | cons x r ih =>
   intro cs hl
   rw[List.forIn_cons]
   have hr:=fun y hy=>hl y (y05 _ hy)
   by_cases k:x.2=.free
   ·obtain⟨c,hc⟩:=hl x y0e k
    have e1:(x.2 == NameKind.free)=true:=by simp[k]
    simp only[e1,if_true,cellOf,hc,clos,Option.getD_some]
    exact ih _ hr
   ·have e1:(x.2 == NameKind.free)=false:=by simpa using k
    simp only[e1,y1u,if_false,clos]
    exact ih _ hr
 have:=go scope.names [] h
 simp only[closureFor]
 exact congrArg (fun m=>m >>= fun cs=>pure cs) this
theorem z3x {env:Env}:∀{l:List (Str×y36)} {cs:List (Str×Addr)},(∀x∈l,x.2=.free->∃c,env.cells.lookup x.1=some c)->(∀x c,cs.lookup x=some c->env.cells.lookup x=some c)->∀x c,(clos env l cs).lookup x=some c->env.cells.lookup x=some c
 | [],cs,_,h,x,c,e=>h x c e
 | y::r,cs,hl,h,x,c,e=>by
  unfold clos at e
  have hr:=fun z hz=>hl z (y05 _ hz)
  split at e
  next k =>
   refine z3x hr (fun x c e=>?_) x c e
   rw[y1f] at e
   split at e
   next hb =>
    obtain⟨c',hc⟩:=hl y y0e (by simpa using k)
    have:x=y.1:=by simpa using hb
    subst this
    rw[hc] at e ⊢
    simpa using e
   next=>exact h x c e
  next=>exact z3x hr h x c e
theorem z47 {env:Env}:∀{l:List (Str×y36)} {cs:List (Str×Addr)} {x:Str},((∃y∈l,y.2=.free/\y.1=x)\/∃c,cs.lookup x=some c)->∃c,(clos env l cs).lookup x=some c
 | [],cs,x,h=>by
  rcases h with ⟨y,hy,_⟩|h
  ·cases hy
  ·exact h
 | y::r,cs,x,h=>by
  unfold clos
  split
  next k =>
   refine z47 ?_
   rcases h with ⟨z,hz,k',e⟩|⟨c,h⟩
   ·rcases y09.mp hz with rfl|hz
    ·refine .inr ?_
     subst e
     rw[y1f]
     simp
    ·exact .inl ⟨z,hz,k',e⟩
   ·refine .inr ?_
    rw[y1f]
    split
    ·exact⟨_,rfl⟩
    ·exact⟨c,h⟩
  next k =>
   refine z47 ?_
   rcases h with ⟨z,hz,k',e⟩|h
   ·rcases y09.mp hz with rfl|hz
    ·exact absurd (by simpa using k') k
    ·exact .inl ⟨z,hz,k',e⟩
   ·exact .inr h
noncomputable def z1a (X:Cx) (N':List Str) (scope:Scope) (cl:List (Str×Addr)) (C:Addr) (s₀:y04) (H₀:Hp) (fp:List Addr) (pn:List (Addr×Obj)):Cx where
 prog:=X.prog
 w:=X.w
 K:=X.K
 mg:=X.mg
 base:=X.base
 A:=X.A
 N:=N'
 s₀:=s₀
 H₀:=H₀
 env:=compEnvC scope cl C X.env
 outer:=X.stack
 stack:=X.stack
 ex:=fp
 fn:=fun _=>false
 calm:=X.calm
 pn:=pn
 xe:=fun _ _=>False
noncomputable def PTs (X:Cx) (ifs:List Expr) (cc:Ft):Prop:=∀(pins:List (Addr×Obj)) (s:y04) (σ:L2.St) (H:Hp) (Q:Bool->Hp->Prop),L2.Inv X pins σ H s->tT X.K cc σ H Q ->
 y0u (y37 X.prog X.w) X.A (forIn ifs true fun c r=>if r=true then do let ok <- isTrue c X.env (eval c X.env);pure (ForInStep.yield ok) else pure (ForInStep.yield r)) (TP X pins σ Q) X.xe s
theorem zkm {X:Cx}:PTs X [] (cstT true):=fun pins s σ H Q I ⟨F₀,H₀,O,F,ε,b,r,e,k⟩=>by
 cases e
 exact wpAny_tests_nil ⟨H,I,k F H (Ext.refl r.dom)⟩
theorem z5z {X:Cx} {c:Expr} {cc:Ft} (h:PTt X c cc):PTs X [c] cc:=fun pins s σ H Q I q=>wpAny_tests_one (h pins s σ H Q I q)
section
variable {prog:y0q} {w:World} {A:Around} {R:Result->y04->Prop} {s:y04}
theorem zb5 {elt target iter:Expr} {ifs:List Expr} {scope:Scope} {pos:Pos} {it acc:Value} {env:Env} (I:Nat->y04->Prop)
  (turn:∀n s,I n s->y0u (y37 prog w) A (pyNext it) (fun r s₁=>match r with
   | none=>R (.ok .next) s₁
   | some v=>y0u (y37 prog w) A (letOwnedTupleGo target it v) (fun _ s₁'=>y0u (y37 prog w) A (assign target env v) (fun _ s₂ =>
     y0u (y37 prog w) A (forIn ifs true fun c r=>if r=true then do let ok <- isTrue c env (eval c env);pure (ForInStep.yield ok) else pure (ForInStep.yield r)) (fun ok s₃ =>
      if ok=true then y0u (y37 prog w) A (eval elt env) (fun x s₄ =>
       y0u (y37 prog w) A (call (.builtin "list.append") [acc,x]) (fun _ s₅=>∃m,m<n/\I m s₅) (fun _ _=>False) s₄) (fun _ _=>False) s₃
      else ∃m,m<n/\I m s₃) (fun _ _=>False) s₂) (fun _ _=>False) s₁') (fun _ _=>False) s₁) (fun _ _=>False) s)
  (n:Nat) (h:I n s):y31 (y37 prog w) A (.compLoop (.ListComp elt [⟨target,iter,ifs,0⟩] scope pos) 0 it acc env) R s:=by
 refine codeAny_loop rfl I (fun n s hI=>?_) n h
 show y0u _ A ((compTurn (.ListComp elt [⟨target,iter,ifs,0⟩] scope pos) 0 it acc env).onRaise (fun x=>do noteFrame x env;theTreesLotGoes x)) _ _ s
 refine wpAny_noted ?_
 rw[compTurn_list]
 refine y02 (wpAny_standAt (y02 (y1d (turn n s hI) (fun r s₁ h₁=>?_) fun _ _ h'=>h'.elim)))
 cases r with
 | none=>exact y06 h₁
 | some v =>
  refine y02 (y1d h₁ (fun _ s₁' h₁'=>?_) fun _ _ h'=>h'.elim)
  refine y02 (y1d h₁' (fun _ s₂ h₂=>y02 (y1d h₂ (fun ok s₃ h₃=>?_) fun _ _ h'=>h'.elim)) fun _ _ h'=>h'.elim)
  cases ok with
  | false=>exact y06 ⟨rfl,h₃⟩
  | true =>
   exact y02 (y02 (y1d h₃ (fun x s₄ h₄=>y02 (y1d h₄ (fun _ s₅ h₅=>y06 (y06 ⟨rfl,h₅⟩)) fun _ _ h'=>h'.elim)) fun _ _ h'=>h'.elim))
end
end
section
variable [Tbl]
theorem z4g {env:Env} {k:y36}:∀{names:List (Str×y36)} {x:Str},names.lookup x=some k->∃k',(names.map fun (n,k)=>if (k == NameKind.free && env.scope.kind == .function && env.kindOf n == some .cell) then (n,NameKind.cell) else (n,k)).lookup x=some k'/\(k'=k\/(k=.free/\k'=.cell))
  | [],x,h=>by simp at h
  | (n,j)::r,x,h=>by
    have ih:=@z4g env k r x
    show ∃k',List.lookup x ((if (j == NameKind.free && env.scope.kind == .function && env.kindOf n == some .cell)=true then (n,NameKind.cell) else (n,j))::_)=some k'/\_
    cases hx:x == n with
    | true =>
      simp only[y1f,hx] at h
      cases h
      by_cases hc:(k == NameKind.free && env.scope.kind == .function && env.kindOf n == some .cell)=true
      · rw[if_pos hc]
        refine⟨.cell,by simp[y1f,hx],.inr ⟨?_,rfl⟩⟩
        simp only[y1b] at hc
        simpa using hc.1.1
      · rw[if_neg hc]
        exact⟨k,by simp[y1f,hx],.inl rfl⟩
    | false =>
      simp only[y1f,hx] at h
      obtain⟨k',h1,h2⟩:=ih h
      refine⟨k',?_,h2⟩
      by_cases hc:(j == NameKind.free && env.scope.kind == .function && env.kindOf n == some .cell)=true
      · rw[if_pos hc];simp only[y1f,hx];exact h1
      · rw[if_neg hc];simp only[y1f,hx];exact h1
theorem mem_lookup {names:List (Str×y36)} {x:Str} {k:y36} (h:names.lookup x=some k):∃y∈names,y.2=k/\y.1=x:=by
 induction names with
 | nil=>simp at h
 | cons y r ih =>
  rw[y1f] at h
  split at h
  next hb =>
   cases h
   exact⟨y,y0e,rfl,by simpa using (beq_iff_eq.mp hb).symm⟩
  next =>
   obtain⟨z,hz,h1,h2⟩:=ih h
   exact⟨z,y05 _ hz,h1,h2⟩
theorem zaf {scope:Scope} {env:Env} (hcell:∀y∈scope.names,y.2≠.cell) {x:Str} (h:(relabel scope env).names.lookup x=some .cell\/(relabel scope env).names.lookup x=some .free):∃y∈scope.names,y.2=.free/\y.1=x:=by
 have go:∀{k:y36},(relabel scope env).names.lookup x=some k->(k=.cell\/k=.free)->∃y∈scope.names,y.2=.free/\y.1=x:=fun {k} e hk=>by
  obtain⟨y,hy,h1,h2⟩:=mem_lookup e
  obtain⟨⟨n,j⟩,hz,e2⟩:=y0m.mp (show y∈scope.names.map _ from hy)
  by_cases hc:(j == NameKind.free && env.scope.kind == .function && env.kindOf n == some .cell)=true
  ·have e3:(n,NameKind.cell)=y:=by
    have e4:(if (j == NameKind.free && env.scope.kind == .function && env.kindOf n == some .cell)=true then (n,NameKind.cell) else (n,j))=y:=e2
    rwa [if_pos hc] at e4
   subst e3
   simp only[y1b] at hc
   exact⟨(n,j),hz,by simpa using hc.1.1,h2⟩
  ·have e3:(n,j)=y:=by
    have e4:(if (j == NameKind.free && env.scope.kind == .function && env.kindOf n == some .cell)=true then (n,NameKind.cell) else (n,j))=y:=e2
    rwa [if_neg hc] at e4
   subst e3
   rcases hk with rfl|rfl
   ·exact absurd h1 (hcell _ hz)
   ·exact⟨(n,j),hz,h1,h2⟩
 rcases h with h|h
 ·exact go h (.inl rfl)
 ·exact go h (.inr rfl)
theorem RelE.other {K:y00} {F₀ O F:Addr->Prop} {E:En} {H:Hp} {ε:Ev} {σ:L2.St} {a:Addr} {xs ys:List V} (r:RelE K F₀ E O F H ε σ) (hn:¬F a) (ho:¬O a) (h0:E.h a=none) (ha:H a=some (.lst xs)) :
  Kp K F H F (upd H a (.lst ys))/\RelE K F₀ E O F (upd H a (.lst ys)) ε σ:=by
 have hm:HoM (.lst xs):=.inl ⟨_,rfl⟩
 have kp:Kp K F H F (upd H a (.lst ys)):=zh2 hn ha hm
 have keep:∀(u:Sl) (w:V),z28 K E O F H u w->z28 K E O F (upd H a (.lst ys)) u w/\fpS (upd H a (.lst ys)) u w=fpS H u w:=by
  intro u w ru
  refine ru.keep kp (fun b hb=>z05 ?_) (fun _ _ f=>f) fun _ _ o=>o
  rintro rfl
  cases ou:u.isOwn with
  | true=>exact ho ((ru.held hb).2.1 ou)
  | false=>exact (ru.held hb).2.2 ou h0
 refine⟨kp,⟨r.len,fun j u e=>?_,fun i j s u v w hij e1 e2 o1 o2 h1 h2=>?_,zdw r.ent h0 hn ha hm,r.o0,fun b e=>r.fr b ?_⟩⟩
 ·obtain⟨v,h1,h2⟩:=r.val j u e
  exact⟨v,h1,(keep u v h2).1⟩
 ·obtain⟨v',h1',r1⟩:=r.val i s e1
  obtain⟨w',h2',r2⟩:=r.val j u e2
  rw[h1] at h1'
  rw[h2] at h2'
  cases h1'
  cases h2'
  rw[(keep s v r1).2,(keep u w r2).2]
  exact r.ne i j s u v w hij e1 e2 o1 o2 h1 h2
 ·by_cases nb:b=a
  ·subst nb
   rw[z03] at e
   cases e
  ·rwa [z05 nb] at e
def zkc (n:Nat) (caps:List Nat) (σ:L2.St):L2.St:=y0g n none++caps.map fun i=>(σ[i]?).join
theorem join_some {α:Type} {o:Option (Option α)} {x:α} (h:o.join=some x):o=some (some x):=by
 cases o with
 | none=>cases h
 | some o=>exact congrArg some h
theorem z5s {α:Type} {n:Nat} {caps:List Nat} {l:List (Option α)} {i:Nat} {x:α} (h:(y0g n none++caps.map fun i=>(l[i]?).join)[i]?=some (some x)):∃j,n<=i/\caps[i - n]?=some j/\l[j]?=some (some x):=by
 by_cases hi:i<n
 ·rw[y1n (by simpa using hi),List.getElem?_replicate] at h
  rw[if_pos hi] at h
  cases h
 ·rw[y1l (by simpa using hi),List.length_replicate,y14] at h
  cases e:caps[i - n]? with
  | none =>
   rw[e] at h
   cases h
  | some j =>
   rw[e] at h
   exact⟨j,by omega,rfl,join_some (y2c h)⟩
theorem zn2 {α:Type} {n:Nat} {caps:List Nat} {l:List (Option α)} {i j:Nat} {x:α} (hi:n<=i) (hc:caps[i - n]?=some j) (h:l[j]?=some (some x)):(y0g n none++caps.map fun i=>(l[i]?).join)[i]?=some (some x):=by
 rw[y1l (by simpa using hi),List.length_replicate,y14,hc]
 simp[h]
theorem RelE.cap {K:y00} {F₀ O F:Addr->Prop} {E:En} {H:Hp} {ε:Ev} {σ:L2.St} {D:Addr} (r:RelE K F₀ E O F H ε σ) (n:Nat) {caps:List Nat} (nd:caps.Nodup) (hD:H D=none) :
  RelE K F₀ E (fun a=>O a/\a≠D) F (upd H D (.lst [])) (z1m n caps ε) (zkc n caps σ):=by
 have x:=Ext.laid (o:=.lst []) r.dom hD
 have keep:∀(u:Sl) (w:V),z28 K E O F H u w->z28 K E (fun a=>O a/\a≠D) F (upd H D (.lst [])) u w/\fpS (upd H D (.lst [])) u w=fpS H u w:=by
  intro u w ru
  have nb:∀b∈fpS H u w,b≠D:=fun b hb z=>by
   obtain⟨o,e,_⟩:=ru.at hb
   rw[z,hD] at e
   cases e
  exact ru.keep x.kp (fun b hb=>z05 (nb b hb)) (fun _ _ f=>f) fun b hb o=>⟨o,nb b hb⟩
 refine⟨by simp[z1m,zkc],fun i s e=>?_,fun i j s u v w hij e1 e2 o1 o2 h1 h2=>?_,r.ent.trans x,fun a h=>r.o0 a h.1,fun a h=>?_⟩
 ·obtain⟨j,hn,hc,e'⟩:=z5s e
  obtain⟨v,h1,h2⟩:=r.val j s e'
  exact⟨v,zn2 hn hc h1,(keep s v h2).1⟩
 ·obtain⟨i',hi,ci,e1'⟩:=z5s e1
  obtain⟨j',hj,cj,e2'⟩:=z5s e2
  obtain⟨i2,_,ci2,h1'⟩:=z5s (l:=σ) h1
  obtain⟨j2,_,cj2,h2'⟩:=z5s (l:=σ) h2
  rw[ci] at ci2
  rw[cj] at cj2
  cases ci2
  cases cj2
  obtain⟨v',q1,r1⟩:=r.val i' s e1'
  obtain⟨w',q2,r2⟩:=r.val j' u e2'
  rw[h1'] at q1
  rw[h2'] at q2
  cases q1
  cases q2
  rw[(keep s v r1).2,(keep u w r2).2]
  refine r.ne i' j' s u v w (fun z=>?_) e1' e2' o1 o2 h1' h2'
  subst z
  obtain⟨l1,m1⟩:=y0k.mp ci
  obtain⟨l2,m2⟩:=y0k.mp cj
  have ne:i - n≠j - n:=by omega
  rcases Nat.lt_or_gt_of_ne ne with q|q
  ·exact (List.pairwise_iff_getElem.mp nd _ _ l1 l2 q) (m1.trans m2.symm)
  ·exact (List.pairwise_iff_getElem.mp nd _ _ l2 l1 q) (m2.trans m1.symm)
 ·have nd:a≠D:=by
   rintro rfl
   rw[z03] at h
   cases h
  rw[z05 nd] at h
  exact⟨r.fr a h,nd⟩
end
section
variable [Tbl]
structure CompOk (X:Cx) (scope:Scope) (own:List Str) (caps:List (Nat×Str)):Prop where
 kind:scope.kind=.function
 names:∀y∈scope.names,y.2=.local->scope.names.lookup y.1=some .local
 cell:∀y∈scope.names,y.2≠.cell
 free:∀y∈scope.names,y.2=.free->X.env.kindOf y.1=some .cell\/X.env.kindOf y.1=some .free
 cap:∀p∈caps,X.N[p.1]?=some p.2/\scope.names.lookup p.2=some .free
 nd:(caps.map (·.1)).Nodup
 calm:X.calm=true
section
variable {X:Cx} {tg iter elt:Expr} {ifs:List Expr} {scope:Scope} {it:Fi} {gg:Fg} {cc:Ft} {ee:Fe} {pos:Pos} {own:List Str} {caps:List (Nat×Str)}
theorem zhs {pins:List (Addr×Obj)} {σ:L2.St} {H2:Hp} {s2:y04} {fp:List Addr} (S:CompOk X scope own caps) (I2:L2.Inv X pins σ H2 s2) (f2:∀b∈fp,FpOk X pins H2 b) (hfp:∀b∈fp,b<s2.heap.objs.size) (N':List Str) :
  (z1a X N' scope (clos X.env scope.names []) (s2.heap.push { cls:=.type "list",data:=.seq ([]:List Value).toArray }).objs.size { s2 with heap:=s2.heap.push { cls:=.type "list",data:=.seq ([]:List Value).toArray } } (upd H2 s2.heap.objs.size (.lst [])) fp (X.pn++pins)).Ok:=by
 have hcl:∀x∈scope.names,x.2=.free->∃c,X.env.cells.lookup x.1=some c:=fun x hx hk=>I2.ok.has x.1 (S.free x hx hk)
 have cf:∀x c,(clos X.env scope.names []).lookup x=some c->X.env.cells.lookup x=some c:=z3x hcl (fun x c e=>by simp at e)
 have I3:=I2.lnew (its:=[]) (ys:=[]) (t':=s2.toks) .nil (y23 _)
 have sz:(s2.heap.push { cls:=.type "list",data:=.seq ([]:List Value).toArray }).objs.size=s2.heap.objs.size+1:=y17 ..
 refine⟨I2.ok.mod,S.kind,I2.ok.glob,I2.ok.blt,y0o _,fun x y c e1 e2=>I2.ok.inj x y c (cf x c e1) (cf y c e2),fun x hx=>?_,fun x c h=>(by cases h),I2.ok.hd,I2.ok.frames,.inl rfl,fun b hb=>⟨?_,fun x c e=>(f2 b hb).2.2.2.2.1 x c (cf x c e)⟩,fun b o e=>?_,?_,fun b o e hb=>?_,fun b hb hf=>?_,I3.stack,I3.stkFree⟩
 ·exact z47 (.inl (zaf S.cell hx))
 ·show b≠(s2.heap.push { cls:=.type "list",data:=.seq ([]:List Value).toArray }).objs.size
  have h:=hfp b hb
  rw[sz]
  exact y0y (Nat.lt_succ_of_lt h)
 ·obtain⟨h1,h2⟩:=I3.bs b o e
  exact⟨h1,h2⟩
 ·have h1:=y1p I2.ok.bsz I2.sz
  show X.base.objs.size<=(s2.heap.push { cls:=.type "list",data:=.seq ([]:List Value).toArray }).objs.size
  omega
 ·rcases (f2 b hb).2.2.2.1 with q|q
  ·exact I2.ok.noex b o e q
  ·exact absurd (y0x (y0c (I2.ok.bs b o e).1) q) (Nat.lt_irrefl _)
 ·rcases y09.mp (I2.stkSub b hf) with q|q
  ·exact (f2 b hb).2.1 q
  ·exact (f2 b hb).2.2.1 q
theorem zk9 {pins:List (Addr×Obj)} {σ:L2.St} {H2:Hp} {s2:y04} {fp:List Addr} (S:CompOk X scope own caps) (I2:L2.Inv X pins σ H2 s2) (f2:∀b∈fp,FpOk X pins H2 b) (hfp:∀b∈fp,b<s2.heap.objs.size) {h₁:Heap} {m:Str->Option Value} {tk:Nat}
  (hns:h₁.Ns (s2.heap.push { cls:=.type "list",data:=.seq ([]:List Value).toArray }).objs.size m) (keep:∀b u,(s2.heap.push { cls:=.type "list",data:=.seq ([]:List Value).toArray }).get? b=some u->h₁.get? b=some u) :
  L2.Inv (z1a X (own++caps.map (·.2)) scope (clos X.env scope.names []) (s2.heap.push { cls:=.type "list",data:=.seq ([]:List Value).toArray }).objs.size { s2 with heap:=s2.heap.push { cls:=.type "list",data:=.seq ([]:List Value).toArray } } (upd H2 s2.heap.objs.size (.lst [])) fp (X.pn++pins)) []
   (zkc own.length (caps.map (·.1)) σ) (upd H2 s2.heap.objs.size (.lst [])) { s2 with heap:=h₁,toks:=tk }:=by
 have hcl:∀x∈scope.names,x.2=.free->∃c,X.env.cells.lookup x.1=some c:=fun x hx hk=>I2.ok.has x.1 (S.free x hx hk)
 have cf:∀x c,(clos X.env scope.names []).lookup x=some c->X.env.cells.lookup x=some c:=z3x hcl (fun x c e=>by simp at e)
 have I3:=I2.lnew (its:=[]) (ys:=[]) (t':=s2.toks) .nil (y23 _)
 refine⟨zhs S I2 f2 hfp _,rfl,I2.bare,Un.kept keep,⟨m,hns,fun i x v h1 h2 hv=>?_⟩,fun x c e=>?_,?_,fun x c e=>I3.freeC x c (cf x c e),fun p hp=>?_,I3.hok.kept keep,by simp[zkc,z1a]⟩
 ·obtain⟨j,hn,hc,hj⟩:=z5s (l:=σ) h2
  have hx:(caps.map (·.2))[i - own.length]?=some x:=by
   have:(own++caps.map (·.2))[i]?=some x:=h1
   rwa [y1l hn] at this
  rw[y14] at hc hx
  cases ep:caps[i - own.length]? with
  | none=>rw[ep] at hc;cases hc
  | some p =>
   rw[ep] at hc hx
   cases hc
   cases hx
   obtain⟨hN,hf⟩:=S.cap p (y1v ep)
   obtain⟨y,hy,k1,k2⟩:=mem_lookup hf
   have hk:=S.free y hy k1
   rw[k2] at hk
   obtain⟨m3,hn3,hl3⟩:=I3.loc
   have vis:Vis X.env.scope p.2:=by
    rcases hk with hk|hk
    ·exact .inr (.inl hk)
    ·exact .inr (.inr hk)
   obtain⟨u,ru,lu⟩:=hl3 p.1 p.2 v hN hj vis
   refine⟨u,ru,.inr ⟨?_,?_⟩⟩
   ·obtain⟨k',e1,e2⟩:=z4g (env:=X.env) hf
    rcases e2 with rfl|⟨_,rfl⟩
    ·exact .inr e1
    ·exact .inl e1
   ·rcases lu with ⟨q,_⟩|⟨_,c,hc,hcell⟩
    ·rcases hk with hk|hk
     ·rw[hk] at q;cases q
     ·rw[hk] at q;cases q
    ·obtain⟨c',hc'⟩:=z47 (env:=X.env) (l:=scope.names) (cs:=[]) (x:=p.2) (.inl ⟨y,hy,k1,k2⟩)
     have:=cf _ _ hc'
     rw[hc] at this
     cases this
     obtain⟨oc,ho,hd⟩:=hcell
     exact⟨c,hc',oc,keep _ _ ho,hd⟩
 ·obtain⟨v,oc,ho,hd⟩:=I3.cell x c (cf x c e)
  exact⟨v,oc,keep _ _ ho,hd⟩
 ·exact I3.hok.fresh (y0o _)
 ·have hp':p∈X.pn++pins:=by simpa [z1a] using hp
  obtain⟨h1,h2,h3,h4,h5⟩:=I3.pin p hp'
  refine⟨keep _ _ h1,h2,y0y (y0c h1),fun z=>?_,h5⟩
  rcases y09.mp (I2.stkSub p.1 z) with q|q
  ·exact h3 q
  ·exact h4 q
theorem zf1 {pins:List (Addr×Obj)} {σ σ':L2.St} {H2 H':Hp} {s2 s':y04} {fp:List Addr} {N':List Str} (I2:L2.Inv X pins σ H2 s2) (f2:∀b∈fp,FpOk X pins H2 b)
  (J:L2.Inv (z1a X N' scope (clos X.env scope.names []) (s2.heap.push { cls:=.type "list",data:=.seq ([]:List Value).toArray }).objs.size { s2 with heap:=s2.heap.push { cls:=.type "list",data:=.seq ([]:List Value).toArray } } (upd H2 s2.heap.objs.size (.lst [])) fp (X.pn++pins)) [] σ' H' s')
  {h':Heap} (sb:Heap.SameBut (s2.heap.push { cls:=.type "list",data:=.seq ([]:List Value).toArray }).objs.size s'.heap h'):L2.Inv X pins σ H' { s' with heap:=h' }:=by
 have I3:=I2.lnew (its:=[]) (ys:=[]) (t':=s2.toks) .nil (y23 _)
 have u:=J.base
 have free:H' (s2.heap.push { cls:=.type "list",data:=.seq ([]:List Value).toArray }).objs.size=none:=J.free
 have old:∀b o,(s2.heap.push { cls:=.type "list",data:=.seq ([]:List Value).toArray }).get? b=some o->b≠(s2.heap.push { cls:=.type "list",data:=.seq ([]:List Value).toArray }).objs.size:=fun b o e=>y0y (y0c e)
 have eqh:∀b,b≠(s2.heap.push { cls:=.type "list",data:=.seq ([]:List Value).toArray }).objs.size->∀o,s'.heap.get? b=some o->h'.get? b=some o:=fun b hb o e=>sb.extBut b o hb e
 have u2:Un (frs X.stack) fp (upd H2 s2.heap.objs.size (.lst [])) H' (s2.heap.push { cls:=.type "list",data:=.seq ([]:List Value).toArray }) h':=by
  refine⟨fun b o e n hf hx=>eqh b (old b o e) _ (u.keep b o e n hf hx),fun b o e n hf hx=>?_,u.free,fun b o e hx=>?_,u.tups,u.frzs,u.tbls⟩
  ·obtain⟨sl,q⟩:=u.slot b o e n hf hx
   exact⟨sl,eqh b (old b o e) _ q⟩
  ·obtain⟨o',q⟩:=u.there b o e hx
   exact⟨o',eqh b (old b o e) _ q⟩
 have hok:HOk X.prog X.w H' h':=fun b o e=>by
  refine (J.hok b o e).stay (fun c v hc q=>eqh c (fun z=>?_) v q) (fun _ q=>q) fun _ _ q=>q
  rcases hc with rfl|hc
  ·rw[z,free] at e
   cases e
  ·rw[z,free] at hc
   cases hc
 have hos:=J.os
 have hbare:=J.bare
 obtain⟨hh,g,d,t,os⟩:=s'
 obtain rfl:os=s2.os:=hos
 have fin:=I3.call (h':=h') (g':=g) (d':=d) (t':=t) (ch:=fp) u2 hok hbare fun b hb=>⟨(f2 b hb).2.2.2.1,(f2 b hb).2.1,(f2 b hb).2.2.2.2.1,(f2 b hb).2.2.2.2.2⟩
 exact fin
theorem zhu {X':Cx} {R:Result->y04->Prop} {J:It} {fp:List Addr} {it' D:Addr} {tn:Nat->Heap->Prop} {F₀ O F1:Addr->Prop} {H₀:En} {H2:Hp} {ts ys:List T} (hx:X'.xe=fun _ _=>False) (hc:X'.calm=true) (hg:PGt X' tg gg) (ht:PTs X' ifs cc) (he:PEv X' elt ee)
  (T:Turn X'.prog X'.w X'.K tg J fp it' tn) (stat:∀H':Hp,(∀b∈fp,H' b=none)->∀b∈fp,FpOk X' [] H' b) (ok:ItOk X'.K J F1 H2 ts) (hbig:ts.length<=big) (hD2:H2 D=none) (hO:¬O D) (hH0:H₀.h D=none)
  (fin:∀σ' H' F' s1 vs,L2.Inv X' [] σ' H' s1->Ext F1 H2 F' H'->H' D=some (.lst vs)->¬F' D->RepL X'.K F' H' ys vs->R (.ok .next) s1)
  {s:y04} {σ:L2.St} {H:Hp} {F:Addr->Prop} {ε:Ev} (I:L2.Inv X' [] σ H s) (st:tn 0 s.heap) (fr:∀b∈fp,H b=none) (x:Ext F1 H2 F H) (r:RelE X'.K F₀ H₀ O F H ε σ) (hD:H D=some (.lst [])) (nD:¬F D) (ey:z1k gg cc ee ts ε=some ys) :
  y31 (y37 X'.prog X'.w) X'.A (.compLoop (.ListComp elt [⟨tg,iter,ifs,0⟩] scope pos) 0 (.ref it') (.ref D) X'.env) R s:=by
 refine zb5 (fun n s'=>∃i σ' H' F' ε' dn vs,n=ts.length - i/\i<=ts.length/\L2.Inv X' [] σ' H' s'/\tn i s'.heap/\(∀b∈fp,H' b=none)/\Ext F1 H2 F' H'/\RelE X'.K F₀ H₀ O F' H' ε' σ'/\H' D=some (.lst vs)/\¬F' D/\RepL X'.K F' H' dn vs/\dn.length<=i /\
  ∃rest,z1k gg cc ee (ts.drop i) ε'=some rest/\ys=dn++rest) ?_ ts.length ⟨0,σ,H,F,ε,[],[],rfl,y23 _,I,st,fr,x,r,hD,nD,RepL.nil,y0o _,ys,by simpa using ey,by simp⟩
 rintro n s3 ⟨i,σ3,H3,F3,ε3,dn,vs,rfl,hi,I3,st3,fr3,x3,r3,hD3,nD3,q3,hl3,rest,er,es⟩
 have nf:∀{F4:Addr->Prop} {H4:Hp} {F5:Addr->Prop} {H5:Hp} {o:HO},Ext F4 H4 F5 H5->H4 D=some o->¬F4 D->¬F5 D:=fun y e n z=>by
  rcases y.new D z with q|q
  ·exact n q
  ·rw[e] at q
   cases q
 by_cases hlt:i<ts.length
 ·have hd:ts.drop i=ts[i]::ts.drop (i+1):=List.drop_eq_getElem_cons hlt
  have hg':ts[i]?=some ts[i]:=y0v hlt
  rw[hd] at er
  simp only[z1k,y01] at er
  obtain⟨ε4,eg,b,eb,er⟩:=er
  refine y1d (T.item X' rfl rfl rfl hc i [] s3 σ3 H3 (fun _ _=>False) I3 (stat H3 fr3) st3 (ok.go i F3 H3 _ x3.kp r3.dom hg')) (fun rv s4 ⟨u,hr,h4⟩=>?_) fun _ _ z=>z
  subst hr
  refine y1d h4 (fun _ s5 ⟨x',H5,I5,r5,y5,st5,fr5⟩=>?_) fun _ _ z=>z
  obtain⟨F5,x5,rx⟩:=ok.yld i F3 H3 _ x' H5 x3.kp r3.dom hg' y5
  have I5':=I5.pinned (stat H5 fr5) (T.obj _ _ st5)
  have hg2:=hg _ s5 σ3 H5 x' u (fun σ6 H6=>H6=H5/\RelE X'.K F₀ H₀ O F5 H5 ε4 σ6) I5' r5 ⟨F₀,H₀,O,F5,ε3,_,ε4,r3.ext x5,rx,eg,fun σ6 r6=>⟨rfl,r6⟩⟩
  rw[hx] at hg2
  refine y1d hg2 (fun _ s6 ⟨σ6,H6,I6,e6,r6⟩=>?_) fun _ _ z=>z
  subst e6
  have again:∀{σ7:L2.St} {H7:Hp} {s7:y04},L2.Inv X' ([]++zak fp s5.heap) σ7 H7 s7->tn (i+1) s7.heap/\(∀b∈fp,H7 b=none)/\L2.Inv X' [] σ7 H7 s7:=fun {σ7 H7 s7} I7=>by
   refine⟨T.keep _ _ _ st5 fun b hb o e=>(I7.pin (b,o) (y1a _ (y1a _ (z45 hb e)))).1,fun b hb=>?_,I7.unpinned⟩
   obtain⟨o,e,d⟩:=T.obj _ _ st5 b hb
   exact (I7.pin (b,o) (y1a _ (y1a _ (z45 hb e)))).2.1
  have ht2:=ht _ s6 σ6 H6 (fun b' H7=>b'=b/\∃F7,Ext F5 H6 F7 H7) I6 ⟨F₀,H₀,O,F5,ε4,b,r6,eb,fun F7 H7 x7=>⟨rfl,F7,x7⟩⟩
  rw[hx] at ht2
  refine y1d ht2 (fun ok' s7 ⟨H7,I7,e7,F7,x7⟩=>?_) fun _ _ z=>z
  subst e7
  have x37:=x5.trans x7
  have r7:=r6.ext x7
  cases ok' with
  | false =>
   simp only[y1u,if_false] at er ⊢
   obtain⟨a1,a2,a3⟩:=again I7
   exact⟨_,by omega,i+1,σ6,H7,F7,ε4,dn,vs,rfl,hlt,a3,a1,a2,x3.trans x37,r7,x37.same.get hD3,nf x37 hD3 nD3,q3.ext x37,by omega,rest,er,es⟩
  | true =>
   simp only[if_true,y01,y07] at er ⊢
   obtain⟨y,ey',rest',er',rfl⟩:=er
   have he2:=he _ s7 σ6 H7 (fun v H8=>∃F8,Ext F7 H7 F8 H8/\Rep X'.K F8 H8 y v) I7 ⟨F₀,H₀,O,F7,ε4,y,r7,ey',fun v F8 H8 x8 q8=>⟨F8,x8,q8⟩⟩
   rw[hx] at he2
   refine y1d he2 (fun u8 s8 ⟨v8,H8,I8,r8,F8,x8,q8⟩=>?_) fun _ _ z=>z
   have x38:=x37.trans x8
   have hD8:=x38.same.get hD3
   have nD8:=nf x38 hD3 nD3
   obtain⟨kp9,r9⟩:=(r7.ext x8).other (ys:=vs++[v8]) nD8 hO hH0 hD8
   have ha:=zao (X:=X') _ s8 σ6 H8 (.ref D) [v8] (.ref D) [u8] (fun _ H9=>H9=upd H8 D (.lst (vs++[v8]))) I8 rfl (.cons r8 .nil) ⟨D,vs,v8,rfl,rfl,hD8,by rw[z6p,<- q3.length];omega,rfl⟩
   rw[hx] at ha
   refine y1d ha (fun u9 s9 ⟨v9,H9,I9,r9',e9⟩=>?_) fun _ _ z=>z
   subst e9
   obtain⟨a1,a2,a3⟩:=again I9
   have x9:Ext F1 H2 F8 (upd H8 D (.lst (vs++[v8]))):=by
    have y:=x3.trans x38
    refine⟨fun b o e=>?_,y.sub,y.new,⟨fun b f=>?_,y.dom.tgs.upd fun u e=>.inl ⟨_,y2c (e.symm.trans hD8)⟩⟩⟩
    ·have nb:b≠D:=by
      rintro rfl
      rw[hD2] at e
      cases e
     rw[z05 nb]
     exact y.same b o e
    ·have nb:b≠D:=by
      rintro rfl
      exact nD8 f
     rw[z05 nb]
     exact y.dom b f
   refine⟨_,by omega,i+1,σ6,_,F8,ε4,dn++[y],vs++[v8],rfl,hlt,a3,a1,a2,x9,r9,z03,nD8,((q3.ext x38).append (RepL.cons q8 RepL.nil)).kp kp9,by simp;omega,rest',er',by rw[es];simp⟩
 ·have hd:ts.drop i=[]:=List.drop_eq_nil_of_le (by omega)
  rw[hd] at er
  cases er
  refine y1d (T.done X' rfl rfl rfl hc i [] s3 σ3 H3 (fun _ _=>False) I3 (stat H3 fr3) st3 (ok.stop i F3 H3 x3.kp (by omega))) (fun rv s4 ⟨hr,I4⟩=>?_) fun _ _ z=>z
  subst hr
  exact fin σ3 H3 F3 s4 vs I4 x3 hD3 nD3 (by rw[es,List.append_nil];exact q3)
structure After (X:Cx) (pins:List (Addr×Obj)) (σ:L2.St) (F:Addr->Prop) (H:Hp) (ys:List T) (D C:Addr) (H':Hp) (F':Addr->Prop) (s1:y04) (vs:List V):Prop where
 inv:∀h',Heap.SameBut C s1.heap h'->L2.Inv X pins σ H' { s1 with heap:=h' }
 ns:∃m,s1.heap.Ns C m
 free:H' C=none
 above:X.s₀.heap.objs.size<=C
 cells:∀x c,X.env.cells.lookup x=some c->c≠C
 pin:∀p∈X.pn++pins,p.1≠C
 loc:C≠X.env.locals
 new:H D=none
 ext:Ext F H F' H'
 nf:¬F' D
 lst:H' D=some (.lst vs)
 rep:RepL X.K F' H' ys vs
theorem ze1 {use:Option (Value->Sem Unit)} {Q:Value->y04->Prop} {p2:Pos} (S:CompOk X scope own caps) (hi:PIt X tg iter it)
  (hg:∀cl C s₀ H₀ fp pn,PGt (z1a X (own++caps.map (·.2)) scope cl C s₀ H₀ fp pn) tg gg)
  (ht:∀cl C s₀ H₀ fp pn,PTs (z1a X (own++caps.map (·.2)) scope cl C s₀ H₀ fp pn) ifs cc)
  (he:∀cl C s₀ H₀ fp pn,PEv (z1a X (own++caps.map (·.2)) scope cl C s₀ H₀ fp pn) elt ee)
  (hs:∀x,y38 iter X.env x=pure x) {pins:List (Addr×Obj)} {s:y04} {σ:L2.St} {H:Hp} {F₀ O F:Addr->Prop} {H₀:En} {ε:Ev} {ys:List T} (I:L2.Inv X pins σ H s) (r:RelE X.K F₀ H₀ O F H ε σ)
  (e:comp own.length (caps.map (·.1)) it gg cc ee ε=some (.list ys)) (fin:∀D C H' F' s1 vs,After X pins σ F H ys D C H' F' s1 vs->compPost (y37 X.prog X.w) X.A X.xe use Q (.ref D) C (.ok .next) s1) :
  y0u (y37 X.prog X.w) X.A (comprehension (.ListComp elt [⟨tg,iter,ifs,0⟩] scope pos) scope X.env p2 (newList []) false (eval iter X.env) use) Q X.xe s:=by
 simp only[comp,y01] at e
 obtain⟨ts,et,e⟩:=e
 split at e
 case isFalse=>cases e
 next hbig =>
 simp only[y07] at e
 obtain⟨ys',ey,e⟩:=e
 cases e
 have hcl:∀x∈scope.names,x.2=.free->∃c,X.env.cells.lookup x.1=some c:=fun x hx hk=>I.ok.has x.1 (S.free x hx hk)
 refine wpAny_comprehension_free rfl hs (z5b hcl) S.kind S.names (thn (hi pins s σ H (fun J H1=>∃F1,Ext F H F1 H1/\ItOk X.K J F1 H1 ts) I ⟨F₀,H₀,O,F,ε,ts,r,et,fun J F1 H1 x1 ok=>⟨F1,x1,ok⟩⟩) fun v s1 h1=>thn h1 fun itv s2 h2=>?_)
 obtain⟨it',fp,tn,J,H2,rfl,I2,T,st2,f2,F1,x1,ok⟩:=h2
 have hfp:∀b∈fp,b<s2.heap.objs.size:=fun b hb=>by
  obtain⟨o,ho,_⟩:=T.obj 0 _ st2 b hb
  exact y0c ho
 have hD2:H2 s2.heap.objs.size=none:=I2.fresh
 have hD:H s2.heap.objs.size=none:=x1.same.none hD2
 have sz:(s2.heap.push { cls:=.type "list",data:=.seq ([]:List Value).toArray }).objs.size=s2.heap.objs.size+1:=y17 ..
 refine wpAny_newList ?_ (y23 _)
 refine wpAny_newFunctionEnv S.cell (by intro y hy;simp at hy) (fun h₁ hns₁ hsb₁=>?_) S.kind
 have keep:∀b u,(s2.heap.push { cls:=.type "list",data:=.seq ([]:List Value).toArray }).get? b=some u->h₁.get? b=some u:=fun b u e=>hsb₁.extBut b u (y0y (y0c e)) (y03 _ e)
 have I4:=zk9 (tk:=s2.toks+0) S I2 f2 hfp hns₁ keep
 have r4:=(r.ext x1).cap (D:=s2.heap.objs.size) own.length S.nd hD2
 refine codeAny_compStart_list ?loop (T.self _ 0 _ _ _ (T.keep 0 _ _ st2 fun b hb o e=>keep b o (y03 _ e)) ?loop)
 refine zhu (X':=z1a X (own++caps.map (·.2)) scope (clos X.env scope.names []) (s2.heap.push { cls:=.type "list",data:=.seq ([]:List Value).toArray }).objs.size { s2 with heap:=s2.heap.push { cls:=.type "list",data:=.seq ([]:List Value).toArray } } (upd H2 s2.heap.objs.size (.lst [])) fp (X.pn++pins))
  rfl S.calm (hg _ _ _ _ _ _) (ht _ _ _ _ _ _) (he _ _ _ _ _ _) T (fun H' hn b hb=>?_) ok hbig hD2 (fun z=>z.2 rfl) (r.o0 _ (r.fr _ hD)) (fun σ' H' F' s1 vs J1 x' hD' nD' q'=>?_) I4 (T.keep 0 _ _ st2 fun b hb o e=>keep b o (y03 _ e)) (fun b hb=>?_) (Ext.laid x1.dom hD2) r4 z03 ?_ ey
 ·have okX:=zhs S I2 f2 hfp (own++caps.map (·.2))
  refine⟨hn b hb,(okX.exf b hb).1,okX.exfs b hb,.inl hb,fun x c e=>(okX.exf b hb).2 x c e,fun p hp=>?_⟩
  have hp':p∈X.pn++pins:=by simpa [z1a] using hp
  exact (f2 b hb).2.2.2.2.2 p hp'
 ·obtain⟨m,hn,_⟩:=id J1.loc
  refine fin s2.heap.objs.size _ H' F' s1 vs ⟨fun h' sb=>zf1 I2 f2 J1 sb,⟨m,hn⟩,J1.free,?_,fun x c e z=>?_,fun p hp z=>?_,?_,hD,x1.trans x',nD',hD',q'⟩
  ·rw[sz]
   exact Nat.le_succ_of_le I2.sz
  ·obtain⟨v,q⟩:=I2.cell x c e
   have:=q.lt
   rw[z,sz] at this
   exact absurd this (Nat.not_lt.mpr (y2e _))
  ·have:=y0c (I2.pin p hp).1
   rw[z,sz] at this
   exact absurd this (Nat.not_lt.mpr (y2e _))
  ·have:=I2.lt
   rw[sz]
   exact y15 (Nat.lt_succ_of_lt this)
 ·have:=(f2 b hb).1
  rw[z05 (y0y (hfp b hb))]
  exact this
 ·intro z
  obtain⟨o,e⟩:=x1.dom _ z
  rw[hD2] at e
  cases e
theorem zo5 (S:CompOk X scope own caps) (hi:PIt X tg iter it)
  (hg:∀cl C s₀ H₀ fp pn,PGt (z1a X (own++caps.map (·.2)) scope cl C s₀ H₀ fp pn) tg gg)
  (ht:∀cl C s₀ H₀ fp pn,PTs (z1a X (own++caps.map (·.2)) scope cl C s₀ H₀ fp pn) ifs cc)
  (he:∀cl C s₀ H₀ fp pn,PEv (z1a X (own++caps.map (·.2)) scope cl C s₀ H₀ fp pn) elt ee)
  (hs:∀x,y38 iter X.env x=pure x:=by intro _;rfl):PEn X (.ListComp elt [⟨tg,iter,ifs,0⟩] scope pos) (comp own.length (caps.map (·.1)) it gg cc ee):=by
 intro pins s σ H Q I ⟨F₀,H₀,O,F,ε,ys,r,e,k⟩
 rw[eval_ListComp]
 refine ze1 S hi hg ht he hs I r e fun D C H' F' s1 vs a=>?_
 obtain⟨m,hn⟩:=a.ns
 exact⟨m,hn,fun h' sb=>⟨.ref D,H',a.inv h' sb,rfl,k D vs F' H' a.ext a.new a.nf a.lst a.rep⟩⟩
theorem zb3 {ε:Ev} {n:Nat} {cs:List Nat} {t:T} (e:comp n cs it gg cc ee ε=some t):∃ts,t=.list ts:=by
 simp only[comp,y01] at e
 obtain⟨ts,_,e⟩:=e
 split at e
 ·simp only[y07] at e
  obtain⟨ys,_,e⟩:=e
  exact⟨ys,e.symm⟩
 ·cases e
theorem z5k (S:CompOk X scope own caps) (hi:PIt X tg iter it)
  (hg:∀cl C s₀ H₀ fp pn,PGt (z1a X (own++caps.map (·.2)) scope cl C s₀ H₀ fp pn) tg gg)
  (ht:∀cl C s₀ H₀ fp pn,PTs (z1a X (own++caps.map (·.2)) scope cl C s₀ H₀ fp pn) ifs cc)
  (he:∀cl C s₀ H₀ fp pn,PEv (z1a X (own++caps.map (·.2)) scope cl C s₀ H₀ fp pn) elt ee)
  (hs:∀x,y38 iter X.env x=pure x:=by intro _;rfl):PEv X (.ListComp elt [⟨tg,iter,ifs,0⟩] scope pos) (comp own.length (caps.map (·.1)) it gg cc ee) :=
 n2v (zo5 S hi hg ht he hs) fun ε t e=>zb3 e
theorem zcz (i:Nat) {x:Str} {px spos:Pos} (hN:X.N.Nodup) (S:CompOk X scope own caps) (hit:PIt X tg iter it)
  (hg:∀cl C s₀ H₀ fp pn,PGt (z1a X (own++caps.map (·.2)) scope cl C s₀ H₀ fp pn) tg gg)
  (ht:∀cl C s₀ H₀ fp pn,PTs (z1a X (own++caps.map (·.2)) scope cl C s₀ H₀ fp pn) ifs cc)
  (he:∀cl C s₀ H₀ fp pn,PEv (z1a X (own++caps.map (·.2)) scope cl C s₀ H₀ fp pn) elt ee)
  (hi:X.N[i]?=some x:=by rfl) (hx:Loc X.env.scope x:=by first|exact Or.inl rfl|exact Or.inr rfl)
  (hsw:y2y (.ListComp elt [⟨tg,iter,ifs,0⟩] scope pos) (some (.Name x px)) spos.line X.env=pure true:=by rfl)
  (hf:X.fn x=true\/X.env.scope.names.lookup x=some .local:=by first|exact .inl rfl|exact .inr rfl)
  (hs:∀x,y38 iter X.env x=pure x:=by intro _;rfl) :
  PSt X (.Assign [.Name x px] (.ListComp elt [⟨tg,iter,ifs,0⟩] scope pos) spos) (asg i (comp own.length (caps.map (·.1)) it gg cc ee)):=by
 intro pins s σ H D I ⟨F₀,H₀,O,F,ε,o,r,e,k⟩
 simp only[asg,y07] at e
 obtain⟨t,et,rfl⟩:=e
 obtain⟨ys,rfl⟩:=zb3 et
 rw[exec_Assign_Name_used _ _ _ _ hsw]
 refine y02 (wpAny_standAt (y02 ?_))
 show y0u _ X.A (do let _ <- comprehension (.ListComp elt [⟨tg,iter,ifs,0⟩] scope pos) scope X.env _ (newList []) false (eval iter X.env) (some (assign (.Name x px) X.env))) _ _ s
 refine y02 (thn (ze1 (use:=some (assign (.Name x px) X.env)) (Q:=fun _ s'=>SP X pins D .next s') S hit hg ht he hs I r et fun D' C H' F' s1 vs a=>?_) fun _ s' hq=>y06 (y06 hq))
 have IX:=a.inv s1.heap (Heap.SameBut.refl ..)
 have IX':L2.Inv X pins σ H' s1:=IX
 show y0u _ X.A (assign (.Name x px) X.env (.ref D')) _ _ _
 refine wpAny_assign_Name (za3 (v:=.ref D') IX' hN hi hx rfl (fun s2 I2 ⟨b,sb,hb⟩=>?_) hf)
 obtain⟨m,hn⟩:=a.ns
 have nb:C≠b:=by
  rcases hb with rfl|hb
  ·exact a.loc
  ·exact (a.cells x b hb).symm
 refine⟨m,hn.sameBut sb nb,fun h' sb'=>?_⟩
 have I3:L2.Inv X pins (σ.set i (some (.ref D'))) H' { s2 with heap:=h' }:=I2.turned (t':=s2.toks) (it:=C) (fun b o hb e=>sb'.extBut b o hb e) a.free a.loc (.inr a.above) a.cells a.pin
 refine⟨_,H',I3,?_⟩
 have y:Ext F H (fun b=>F' b\/b=D') H':=⟨a.ext.same,fun b z=>.inl (a.ext.sub b z),fun b z=>by
  rcases z with z|rfl
  ·exact a.ext.new b z
  ·exact .inr a.new,⟨fun b z=>by
  rcases z with z|rfl
  ·exact a.ext.dom b z
  ·exact⟨_,a.lst⟩,a.ext.dom.tgs⟩⟩
 refine k _ _ H' y.kp ((r.ext y).set i ?_)
 simp only[Rep]
 exact⟨D',vs,rfl,.inr rfl,.inl a.lst,a.rep.keep (fun _ _ z=>z) fun b _ z w=>⟨.inl z,w⟩⟩
end
end
section
variable [Tbl]
open AutoSeq1 (wpAny_loadPart')
theorem z4a (l:Addr) (items:Array Value) (n:Nat) (dct:Option Addr) (sl:Array (Option Value)) :
  Meets (Builtin.«enumerate.__new__» ⟨[.type "enumerate",.ref l],[]⟩) (fun _ R s=>s.heap.get? l=some { cls:=.type "tuple",dict:=dct,data:=.seq items n,slots:=sl } /\
   R (.ok (.ret (.ref (s.heap.push { cls:=.type "tuple_iterator",data:=.fields #[.ref l,.int 0 0] }).objs.size)))
    { s with heap:=(s.heap.push { cls:=.type "tuple_iterator",data:=.fields #[.ref l,.int 0 0] }).push { cls:=.type "enumerate",data:=.fields #[.none,.bool false,.ref s.heap.objs.size,y39 0,.none,.none] } }) :=
 .of_wp fun prog w A R s h=>by
  obtain⟨hp,g,d,tk,os⟩:=s;obtain⟨hl,h⟩:=h
  have hsub:=sub_enumerate
  have hL:Heap.IsTuple (Shared.heap ⟨hp,g,d,tk,os⟩) l items:=⟨_,hl,rfl,n,rfl⟩
  wp_walk using wpAny_loadPart' hl
  refine wpAny_stack_any fun st=>y06 ?_
  split
  ·rename_i c _ _ _ _ _
   cases (c == Value.type "enumerate")
   ·wp_walk using wpAny_loadPart' hl,y2r hL
    exact⟨_,rfl,h⟩
   ·wp_walk using wpAny_loadPart' hl,y2r hL
    exact⟨_,rfl,h⟩
  ·wp_walk using wpAny_loadPart' hl,y2r hL
   exact⟨_,rfl,h⟩
section
variable {prog:y0q} {w:World} {A:Around} {E:Value->y04->Prop} {s:y04}
theorem z29 {l:Addr} {items:Array Value} {Q:Value->y04->Prop} (hL:s.heap.IsTuple l items)
  (h:∀h',IsEnum h' (s.heap.objs.size+1) s.heap.objs.size 0 .none->h'.IsTupleIter s.heap.objs.size l 0->h'.objs.size=s.heap.objs.size+2 ->
   (∀b o,s.heap.get? b=some o->h'.get? b=some o)->Q (.ref (s.heap.objs.size+1)) { s with heap:=h' }) :
  y0u (y37 prog w) A (call (.type "enumerate") [.ref l]) Q E s:=by
 obtain⟨⟨c,dct,dt,sl⟩,hl,hc,n,hd⟩:=hL
 replace hc:c=.type "tuple":=hc
 replace hd:dt=.seq items n:=hd
 subst hc hd
 refine callType_new F.called_enumerate (by decide) (F.typeCall_enumerate_1 _) (F.newCall_enumerate_1 _) (fun obj=>F.args_object_init_2 obj _) F.entry_enumerate_new
  (z4a l items n dct sl) ⟨hl,?_⟩
 have hz:(s.heap.push { cls:=.type "tuple_iterator",data:=.fields #[.ref l,.int 0 0] }).objs.size=s.heap.objs.size+1:=y17 ..
 show _/\_
 rw[hz]
 have he:IsEnum ((s.heap.push { cls:=.type "tuple_iterator",data:=.fields #[.ref l,.int 0 0] }).push
   { cls:=.type "enumerate",data:=.fields #[.none,.bool false,.ref s.heap.objs.size,y39 0,.none,.none] }) (s.heap.objs.size+1) s.heap.objs.size 0 .none:=by
  have:=y0l (s.heap.push { cls:=.type "tuple_iterator",data:=.fields #[.ref l,.int 0 0] })
   (o:={ cls:=.type "enumerate",data:=.fields #[.none,.bool false,.ref s.heap.objs.size,y39 0,.none,.none] }) rfl
  rw[hz] at this;exact this
 refine⟨⟨_,he,rfl⟩,h _ he ⟨_,y03 _ (y0l _ rfl),rfl,rfl⟩ (by rw[y17,hz]) fun b o x=>y03 _ (y03 _ x)⟩
theorem z5n {it l:Addr} {i:Nat} {items} {x:Value} {Q:Value->y04->Prop} (hit:s.heap.IsTupleIter it l i)
  (hl:s.heap.IsTuple l items) (hx:items[i]?=some x)
  (hQ:∀h',h'.IsTupleIter it l (i+1)->Heap.SameBut it s.heap h'->Q x { s with heap:=h' }) :
  y0u (y37 prog w) A (y0t (.ref it)) Q E s:=by
 obtain⟨o,ho,hc,hd⟩:=id hit
 obtain⟨ol,hol,_,nl,hdl⟩:=hl
 unfold y0t
 refine y02 (y2n (name:=Str.ofString "__next__") hit.typeIs y27
  (y2w y27 hit.typeIs F.entry_tuple_iterator_next ?_ (F.args_tuple_iterator_next_1 _)))
 show y0u _ _ (field (.ref it) 0 >>= _) _ _ s
 refine y02 (y2m ho hd (x:=.ref l) rfl ?_)
 show y0u _ _ (if (Value.ref l == Value.none)=true then _ else _) _ _ s
 rw[if_neg (show ¬((Value.ref l == Value.none)=true) from y22)]
 show y0u _ _ (field (.ref it) 1 >>= _) _ _ s
 refine y02 (y2m ho hd (x:=.int i 0) rfl ?_)
 show y0u _ _ (seqItems? (.ref l) >>= _) _ _ s
 refine y02 (y2q hol hdl ?_)
 simp only[Int.toNat_natCast,hx]
 refine y02 (wpAny_setField ho hd (by simp) (y06 ⟨x,rfl,y06 (hQ _ ?_ (Heap.SameBut.update ..))⟩))
 exact⟨_,Heap.get?_update_self _ ho (Obj.isFreed_of_fields (Obj.data_mapFields hd _)),(Obj.cls_mapFields ..).trans hc,by
  rw[Obj.data_mapFields hd];simp[y39]⟩
theorem z3e {it l:Addr} {i:Nat} {items} {Q:Value->y04->Prop} (hh:A.handled=none)
  (hit:s.heap.IsTupleIter it l i) (hl:s.heap.IsTuple l items) (hx:items[i]?=none)
  (hE:∀h' e,Heap.ExtBut it s.heap h'->(∃o,h'.get? e=some o/\o.cls=.type "StopIteration")->E (.ref e) { s with heap:=h' }) :
  y0u (y37 prog w) A (y0t (.ref it)) Q E s:=by
 obtain⟨o,ho,hc,hd⟩:=id hit
 obtain⟨ol,hol,_,nl,hdl⟩:=hl
 unfold y0t
 refine y02 (y2n (name:=Str.ofString "__next__") hit.typeIs y27
  (y2w y27 hit.typeIs F.entry_tuple_iterator_next ?_ (F.args_tuple_iterator_next_1 _)))
 show y0u _ _ (field (.ref it) 0 >>= _) _ _ s
 refine y02 (y2m ho hd (x:=.ref l) rfl ?_)
 show y0u _ _ (if (Value.ref l == Value.none)=true then _ else _) _ _ s
 rw[if_neg (show ¬((Value.ref l == Value.none)=true) from y22)]
 show y0u _ _ (field (.ref it) 1 >>= _) _ _ s
 refine y02 (y2m ho hd (x:=.int i 0) rfl ?_)
 show y0u _ _ (seqItems? (.ref l) >>= _) _ _ s
 refine y02 (y2q hol hdl ?_)
 simp only[Int.toNat_natCast,hx]
 refine y02 (wpAny_rule (y02 (wpAny_setField ho hd (by simp) ?_)))
 show y0u _ _ (newExc (.type "StopIteration") [] >>= _) _ _ _
 refine y02 ?_
 simp only[newExc,newTuple]
 refine y02 (y2u ?_ (by size_fits))
 refine y02 (m:=firstArgMember _ _) (wpAny_of_eq (a:=Value.none) (by first|rfl|(simp only[firstArgMember];rfl)) ?_)
 refine y2u ?_ (by size_fits)
 simp only[raiseNew]
 refine y02 (wpAny_handled ?_)
 first|rw[show A.in1.handled=none from hh]|rw[hh]
 refine y02 (y06 (wpAny_throw ?_))
 exact hE _ _ (((Heap.SameBut.update ..).extBut.push _).push _) ⟨_,y0l _ rfl,rfl⟩
end
theorem zc9 {prog:y0q} {w:World} {A:Around} (hh:A.handled=none) (it l:Addr) (hne:l≠it) (items:Array Value) :
  Draws prog w A it [it,l] items.size (fun i v=>items[i]?=some v) (fun i h=>h.IsTupleIter it l i/\h.IsTuple l items) where
 live:=fun _ _ st=>let ⟨o,ho,_⟩:=st.1;⟨o,ho⟩
 frame:=fun _ _ _ st hk=>⟨st.1.at fun o e=>hk it (by simp) o e,let ⟨o,ho,r⟩:=st.2;⟨o,hk l (by simp) o ho,r⟩⟩
 item:=fun i s Q E hi st hQ=>by
  refine z5n st.1 st.2 (x:=items[i]) (by simp[hi]) fun h' hit' hs'=>?_
  exact hQ _ h' s.toks (by simp[hi]) ⟨hit',st.2.extBut hs'.extBut hne⟩ hs'
 done:=fun s Q E st hE=>z3e hh st.1 st.2 (by simp) hE
noncomputable def Ite (K:y00) (a:Addr):It :=
 ⟨fun i H=>∃xs x,SqT K H a xs/\xs[i]?=some x,fun i H x H'=>∃p v,H p=none/\x=.ref p/\H'=upd H p (.tup [.int i,v])/\∀xs,SqT K H a xs->xs[i]?=some v,fun i H=>∃xs,SqT K H a xs/\xs.length<=i⟩
theorem za0 {P:y0q} {w:World} {K:y00} {es:List Expr} {k:Nat} {pos:Pos} (a it e:Addr) (hne:e≠it) (hai:a≠it) (hae:a≠e):Turn P w K (.Tuple es k pos) (Ite K a) [e,it] e (fun i h=>(∃old,IsEnum h e it i old)/\h.IsTupleIter it a i) where
 mem:=by simp
 obj:=fun i h st b hb=>by
  obtain⟨⟨old,he⟩,o,ho,hc,hd⟩:=st
  rcases y09.mp hb with rfl|hb
  ·exact⟨_,he,fun v z=>by
    have z':Data.fields _=Data.cell v:=z
    cases z'⟩
  ·have e1:b=it:=by simpa using hb
   subst e1
   exact⟨o,ho,fun v z=>by rw[hd] at z;cases z⟩
 keep:=fun i h h' st kk=>by
  obtain⟨⟨old,he⟩,st2⟩:=st
  exact⟨⟨old,kk e (by simp) _ he⟩,st2.at fun o q=>kk it (by simp) o q⟩
 item:=by
  intro X hP hw hK hc i pins s σ H E I hf st hg
  subst hP hw hK
  obtain⟨xs,x,hq,hx⟩:=hg
  obtain⟨its,rv,p,hz⟩:=I.tuple hq
  obtain⟨u,hu,ru⟩:=rv.get hx
  obtain⟨⟨old,he⟩,hit⟩:=st
  obtain⟨f0,f1,f2,f3,f4,f5⟩:=hf e (by simp)
  obtain⟨g0,g1,g2,g3,g4,g5⟩:=hf it (by simp)
  have hi:i<its.toArray.size:=by
   rw[y0h]
   exact (y0k.mp hu).1
  have hnf:e∉[it,a]:=by
   intro z
   rcases y09.mp z with z|z
   ·exact hne z
   ·have z':e=a:=by simpa using z
    exact hae z'.symm
  refine wpAny_pyNext_enum_itemD (zc9 (A:=X.A.in1) (I.ok.hd hc) it a hai its.toArray) he ⟨hit,p⟩ hi hne hnf fun x' h' tk hP' ho hs' hT hsz hk=>?_
  have ex:x'=u:=by
   have:=hP'
   rw[<- Array.getElem?_toList] at this
   rw[show (its.toArray).toList=its from rfl,hu] at this
   exact (y2c this).symm
  subst ex
  refine⟨_,rfl,wpAny_letOwnedTupleGo_enum ho fun h2 he2 hs2=>?_⟩
  have helt:e<s.heap.objs.size:=y0c he
  have hilt:it<s.heap.objs.size:=by obtain⟨o,ho',_⟩:=hit;exact y0c ho'
  have k2:∀b o,b≠e->b≠it->s.heap.get? b=some o->h2.get? b=some o:=fun b o h1 h3 q=>hs2.extBut b o h1 (hk b o h1 h3 q)
  have fr:H s.heap.objs.size=none:=I.hok.fresh (y0o _)
  have hT2:h2.get? s.heap.objs.size=some { cls:=.type "tuple",data:=.seq #[.int i tk,x'] }:=hs2.extBut _ _ (y15 helt) hT
  have nH:∀b o,H b=some o->b≠e/\b≠it:=fun b o q=>⟨fun z=>(by rw[z,f0] at q;cases q),fun z=>(by rw[z,g0] at q;cases q)⟩
  have hok2:HOk X.prog X.w (upd H s.heap.objs.size (.tup [.int i,x])) h2:=by
   intro b o q
   by_cases hb:b=s.heap.objs.size
   ·subst hb
    rw[z03] at q
    cases q
    exact⟨by show 2<=y0j;decide,[.int i tk,x'],.cons ⟨tk,rfl⟩ (.cons ru .nil),⟨_,hT2,rfl,_,rfl⟩⟩
   ·rw[z05 hb] at q
    refine (I.hok b o q).stay (fun c v hc' q'=>k2 c v ?_ ?_ q') (fun c q'=>?_) fun c ys q'=>?_
    ·rcases hc' with rfl|hc'
     ·exact (nH _ _ q).1
     ·exact (nH _ _ hc').1
    ·rcases hc' with rfl|hc'
     ·exact (nH _ _ q).2
     ·exact (nH _ _ hc').2
    ·rw[z05 (z0a q' fr)]
     exact q'
    ·rw[z05 (z0a q' fr)]
     exact q'
  have I2:L2.Inv X pins σ (upd H s.heap.objs.size (.tup [.int i,x])) { s with heap:=h2,toks:=tk+1 }:=by
   refine I.step (g':=s.gens) (d':=s.drawn) (ch:=[e,it]) (fun b hb=>?_) (fun b o _ _ hc' q _=>k2 b o (fun z=>hc' (by simp[z])) (fun z=>hc' (by simp[z])) q) (fun b o _ _ hc' q _=>⟨o.slots,k2 b o (fun z=>hc' (by simp[z])) (fun z=>hc' (by simp[z])) q⟩) (fun b o _ q n=>?_)
    (fun b o hc' q=>⟨o,k2 b o (fun z=>hc' (by simp[z])) (fun z=>hc' (by simp[z])) q⟩) (fun b ys q=>by rw[z05 (z0a q fr)];exact q) (fun b o u q=>by rw[z05 (z0a q fr)];exact q) (fun b ps q=>⟨#[],by rw[z05 (z0a q fr),q];simp⟩) (fun m hm=>?_) hok2 I.bare
   ·rcases y09.mp hb with rfl|hb
    ·exact⟨f3,f1,f4,f5⟩
    ·have:b=it:=by simpa using hb
     subst this
     exact⟨g3,g1,g4,g5⟩
   ·rw[z05 (y0y (y0c q))]
    exact n
   ·obtain⟨o,es',ep,ho',r⟩:=hm
    exact⟨o,es',ep,k2 _ o (Ne.symm f1) (Ne.symm g1) ho',r⟩
  refine⟨.ref s.heap.objs.size,_,I2,rfl,⟨s.heap.objs.size,x,fr,rfl,rfl,fun ys hy=>by rw[I.tuple_inj hy hq];exact hx⟩,⟨⟨_,by simpa using he2⟩,hs'.1.at fun o q=>(hs2.2 it hne.symm).trans q⟩,fun b hb=>?_⟩
  rcases y09.mp hb with rfl|hb
  ·rw[z05 (y0y helt)]
   exact f0
  ·have:b=it:=by simpa using hb
   subst this
   rw[z05 (y0y hilt)]
   exact g0
 done:=by
  intro X hP hw hK hc i pins s σ H E I hf st hg
  subst hP hw hK
  obtain⟨xs,hq,hx⟩:=hg
  obtain⟨its,rv,p,hz⟩:=I.tuple hq
  obtain⟨⟨old,he⟩,hit⟩:=st
  obtain⟨g0,g1,g2,g3,g4,g5⟩:=hf it (by simp)
  have hT:s.TypeIs (.ref e) "enumerate":=⟨_,he,rfl⟩
  have hl:=rv.length
  unfold pyNext
  refine y02 (wpAny_attempt (y2n (name:=Str.ofString "__next__") hT F.slot_enumerate_next
   (y2w F.slot_enumerate_next hT F.entry_enumerate_next ?_ (F.args_enumerate_next_1 _))))
  show y0u _ _ (field (.ref e) 2 >>= _) _ _ _
  refine y02 (y2m he rfl (x:=.ref it) rfl ?_)
  refine y02 (z3e (I.ok.hd hc) hit (show s.heap.IsTuple a its.toArray from p) (by simp;omega) fun h' x he' hx'=>?_)
  obtain⟨o,ho,hc'⟩:=hx'
  refine y02 (wpAny_isInstance (T:="StopIteration") (b:=true) ⟨o,ho,hc'⟩ isSubtype_stop ?_)
  exact y06 ⟨rfl,I.turned (t':=s.toks) (fun b o hb q=>he' b o hb q) g0 g1 g3 g4 g5⟩
 self:=fun _ _ _ _ _ st h=>by
  obtain⟨⟨old,he⟩,_⟩:=st
  exact wpAny_pyIter_enum he h
def iEn (K:y00) (ta:TA):TI:=fun σ H R=>ta σ H fun vs H1=>∃a xs,vs=[.ref a]/\SqT K H1 a xs/\R (Ite K a) H1
section
variable {X:Cx} {es:List Expr} {k:Nat} {p pos p2:Pos} {a:Expr} {f:Fe}
theorem zm9 {ta:TA} (hg:Gl X "enumerate") (hm:X.mg "enumerate"=none) (ha:PA X [a] ta) (hs:y0a [a] X.env=[(false,eval a X.env)]:=by rfl):PI X (.Tuple es k p2) (.Call (.Name "enumerate" p) [a] [] pos) (iEn X.K ta):=by
 intro pins s σ H R I h
 refine Call_ (z8l I hg hm PyProof.Rows.boot_enumerate (y1t (thn (ha pos pins s σ H _ I h) fun us s1 ⟨vs,H1,I1,r1,q1⟩=>?_) hs rfl))
 obtain⟨a,xs,rfl,hq,q⟩:=q1
 cases r1 with
 | cons r rr =>
  cases rr
  cases r
  obtain⟨its,rv,pl,hz⟩:=I1.tuple hq
  have hal:a<s1.heap.objs.size:=by obtain⟨o,ho,_⟩:=pl;exact y0c ho
  refine z29 (show s1.heap.IsTuple a its.toArray from pl) fun h' he hit hsz hk=>wpAny_pyIter_enum he ?_
  refine⟨s1.heap.objs.size+1,[s1.heap.objs.size+1,s1.heap.objs.size],_,_,H1,rfl,I1.kept (t':=s1.toks) hk,za0 a s1.heap.objs.size (s1.heap.objs.size+1) (Nat.succ_ne_self _) (y0y hal) (y0y (Nat.lt_succ_of_lt hal)),⟨⟨_,he⟩,hit⟩,fun b hb=>?_,q⟩
  have hb':s1.heap.objs.size<=b:=by
   rcases y09.mp hb with rfl|hb
   ·exact y2e _
   ·have:b=s1.heap.objs.size:=by simpa using hb
    rw[this]
    exact y0o _
  exact I1.fpOk hb' (I1.hok.fresh hb')
theorem zav {K:y00} {a:Addr} {F1:Addr->Prop} {H1:Hp} {ts:List T} {vs:List V} (hr:SqT K H1 a vs) (q:RepL K F1 H1 ts vs):ItOk K (Ite K a) F1 H1 (enum ts) where
 go:=fun i F H t kp d e=>by
  have hi:=(y0k.mp e).1
  simp only[enum,y13,List.length_zipIdx] at hi
  obtain⟨v,h1,_⟩:=q.get (y0v hi)
  exact⟨vs,v,kp.tup _ _ hr,h1⟩
 yld:=fun i F H t x H' kp d e y=>by
  obtain⟨p,v,hp,rfl,rfl,y⟩:=y
  have hi:=(y0k.mp e).1
  simp only[enum,y13,List.length_zipIdx] at hi
  obtain⟨v',h1,h2⟩:=(q.kp kp).get (y0v hi)
  have h3:=y vs (kp.tup _ _ hr)
  rw[h1] at h3
  cases h3
  have x1:=Ext.laid (o:=.tup [.int i,v]) d hp
  refine⟨F,x1,?_⟩
  have et:t=.tuple [.int i,ts[i]]:=by
   simp only[enum,y14,List.getElem?_zipIdx,y0v hi] at e
   simpa using e.symm
  subst et
  simp only[Rep]
  exact⟨p,_,rfl,SqT.of z03,RepL.cons (by simp[Rep]) (RepL.cons (h2.ext x1) RepL.nil)⟩
 stop:=fun i F H kp hl=>⟨vs,kp.tup _ _ hr,by
  simp only[enum,y13,List.length_zipIdx] at hl
  rw[<- q.length]
  exact hl⟩
theorem zhe (hm:X.mg "enumerate"=none) (ha:PEv X a f) (hg:Gl X "enumerate":=by rfl) (hs:y0a [a] X.env=[(false,eval a X.env)]:=by rfl) (hs2:y0a [a] X.env=(false,eval a X.env)::y0a [] X.env:=by rfl) :
  PIt X (.Tuple es k p2) (.Call (.Name "enumerate" p) [a] [] pos) (z1r (z5o f)):=zea (zm9 hg hm (z1w ha z2y hs2) hs) fun σ H R ⟨F₀,H₀,O,F,ε,ts,r,e,k⟩=>by
 simp only[z1r,z5o,y07,y01] at e
 obtain⟨us,⟨t,et,e⟩,rfl⟩:=e
 split at e
 ·cases e
  refine⟨F₀,H₀,O,F,ε,_,r,et,fun v F' H' x q=>?_⟩
  simp only[Rep] at q
  obtain⟨a,vs,rfl,hs,hr⟩:=q
  exact⟨a,vs,rfl,hs,k _ F' H' x (zav hs hr)⟩
 ·cases e
end
end
section
variable [Tbl]
structure Cl (P:y0q) (w:World) (K:y00) (mg:Str->Option Value) (base:Heap) (x:Str) (k n:Nat) (d:List T->Option T):Prop where
 ex:∃fa fd ps,FnOk P w K mg base CX0 k fa fd ps (spT K n d)/\mg x=some (.ref fa)/\y08 K (.ref fa)=true/\Binds K fd ps []
section
variable {P:y0q} {w:World} {K:y00} {mg:Str->Option Value} {base:Heap} {x:Str} {k n:Nat} {d:List T->Option T}
theorem Cl.mono {j:Nat} (c:Cl P w K mg base x j n d) (h:j<=k):Cl P w K mg base x k n d:=by
 obtain⟨fa,fd,ps,F,r⟩:=c.ex
 exact⟨fa,fd,ps,F.mono h,r⟩
theorem Cl.mk' {fa:Addr} {fd:y0b} {ps:List Str} (F:FnOk P w K mg base CX0 k fa fd ps (spT K n d)) (m:mg x=some (.ref fa)) (kp:y08 K (.ref fa)=true) (b:Binds K fd ps []):Cl P w K mg base x k n d:=⟨fa,fd,ps,F,m,kp,b⟩
end
section
variable {X:Cx} {k n:Nat} {d:List T->Option T} {x:Str} {p pos:Pos} {e:Expr} {es:List Expr} {fs:List Fe}
theorem z0c (C:Cl X.prog X.w X.K X.mg X.base x k n d) (hr:Room k X.A) (ha:PAv X (e::es) fs) (hg:Gl X x:=by rfl) (hn:fs.length=n:=by rfl) (hdb:(x == ("__debug__":Str))=false:=by decide)
  (he:y0a (e::es) X.env=(false,eval e X.env)::y0a es X.env:=by rfl) (hpl:(y2l pos (y0a es X.env)).any (·.1)=false:=by rfl):PEv X (.Call (.Name x p) (e::es) [] pos) (opN d fs):=by
 obtain⟨fa,fd,ps,F,m,kp,b⟩:=C.ex
 exact zo6 F hr hg m kp b ha hn hdb he hpl
theorem q_gI {i:Int} {t:Tok} (hm:X.mg x=some (.int i t)) (hg:Gl X x:=by rfl) (hd:(x == ("__debug__":Str))=false:=by decide):PEv X (.Name x pos) (cst (.int i)):=zg8 (v:=.int i) (zmc (v:=.int i) hg hm ⟨t,rfl⟩ hd) fun _ _=>by simp[Rep]
noncomputable def zpm (scope sc:Scope) (N:List Str) (caps:List (Nat×Str)):Bool :=
 decide (scope.kind=.function) && scope.names.all (fun y=>(decide (y.2≠.local) || decide (scope.names.lookup y.1=some .local)) && decide (y.2≠.cell) && (decide (y.2≠.free) || decide (sc.names.lookup y.1=some .cell) || decide (sc.names.lookup y.1=some .free)))
  && caps.all (fun q=>decide (N[q.1]?=some q.2) && decide (scope.names.lookup q.2=some .free)) && decide ((caps.map (·.1)).Nodup)
theorem z5a {scope sc:Scope} {own:List Str} {caps:List (Nat×Str)} (N:List Str) (hsc:X.env.scope=sc) (hN:X.N=N) (hc:X.calm=true) (h:zpm scope sc N caps=true):CompOk X scope own caps:=by
 simp only[zpm,y1b,List.all_eq_true,decide_eq_true_eq,Bool.or_eq_true] at h
 obtain⟨⟨⟨h1,h2⟩,h3⟩,h4⟩:=h
 refine⟨h1,fun y hy hl=>?_,fun y hy=>(h2 y hy).1.2,fun y hy hf=>?_,fun q hq=>by rw[hN];exact h3 q hq,h4,hc⟩
 ·rcases (h2 y hy).1.1 with z|z
  ·exact absurd hl z
  ·exact z
 ·have hk:X.env.kindOf y.1=sc.names.lookup y.1:=by rw[<- hsc];rfl
  rw[hk]
  rcases (h2 y hy).2 with (z|z)|z
  ·exact absurd hf z
  ·exact .inl z
  ·exact .inr z
end
theorem z4u {P:y0q} {w:World} {K:y00} {mg:Str->Option Value} {base:Heap} {x:Str} {st:Stmt} {f:Addr} {fd:y0b} {N ps:List Str} {k:Nat} {b:Fs} (F:Fun K x x st f fd) (S:FnScope N ps (z01 st)) (bd:Binds K fd ps []) (m:mg x=some (.ref f))
  (hb:∀(cdv:Value) (A:Around) (outer:List Env) (s:y04) (H:Hp) (E:XK),Room k (A.deeper (envOfC x (z01 st) s.heap.objs.size f cdv)) ->
   PBt (cxOf CX0 P w K mg base N x (z01 st) f cdv A outer s H E).nox (z0g st) b):Cl P w K mg base x (k+1) ps.length (runF b N.length):=.mk' (zl7 F S hb) m F.kp bd
end
end D
end
section
namespace L2
open PySem PySem.Spec PyProof.Rows
section
variable {κ:Type} [DecidableEq κ]
def valV (kvs:List (κ×V)) (k:κ):Option V:=(kvs.find? fun kv=>decide (kv.1=k)).map (·.2)
def putK (kvs:List (κ×V)) (k:κ) (v:V):List (κ×V) :=
 if (kvs.any fun kv=>decide (kv.1=k))=true then kvs.map (fun kv=>if kv.1=k then (kv.1,v) else kv) else kvs++[(k,v)]
theorem z8x {p:κ×V} {r:List (κ×V)} {k:κ} (e:p.1=k):valV (p::r) k=some p.2:=by simp[valV,y1s,e]
theorem z8y {p:κ×V} {r:List (κ×V)} {k:κ} (e:¬p.1=k):valV (p::r) k=valV r k:=by simp[valV,y1s,e]
theorem zct (k:κ):∀kvs:List (κ×V),(kvs.any fun kv=>decide (kv.1=k))=(valV kvs k).isSome
 | []=>rfl
 | p::r=>by
  rw[List.any_cons]
  by_cases e:p.1=k
  ·simp only[z8x e,decide_eq_true e,Bool.true_or,Option.isSome_some]
  ·rw[z8y e,decide_eq_false e,Bool.false_or];exact zct k r
theorem z4q (kvs:List (κ×V)) (k:κ) (v:V):(putK kvs k v).length<=kvs.length+1:=by
 unfold putK
 split
 ·rw[y13];omega
 ·rw[y21,y0w,y2d];omega
theorem RelO.isSome_eq {o:Option V} {u:Option Value} (r:RelO o u):o.isSome=u.isSome:=by
 cases o with
 | none=>cases u with
  | none=>rfl
  | some _=>exact (show False from r).elim
 | some _=>cases u with
  | none=>exact (show False from r).elim
  | some _=>rfl
theorem KV.val {kvs:List (κ×V)} {vs:List (κ×Value)} (r:KV kvs vs) (k:κ):RelO (valV kvs k) (valueAt vs k):=by
 unfold KV at r
 induction r with
 | nil=>exact True.intro
 | @cons p q ps qs h t ih =>
  obtain⟨h1,h2⟩:=h
  by_cases e:p.1=k
  ·have e':q.1=k:=h1.symm.trans e
   have b:valueAt (q::qs) k=some q.2:=by simp[valueAt,y1s,e']
   rw[z8x e,b];exact h2
  ·have e':¬q.1=k:=fun z=>e (h1.trans z)
   have b:valueAt (q::qs) k=valueAt qs k:=by simp[valueAt,y1s,e']
   rw[z8y e,b];exact ih
theorem KV.any {kvs:List (κ×V)} {vs:List (κ×Value)} (r:KV kvs vs) (k:κ):(kvs.any fun kv=>decide (kv.1=k))=vs.any fun kv=>decide (kv.1=k):=by
 unfold KV at r
 induction r with
 | nil=>rfl
 | cons h t ih=>rw[List.any_cons,List.any_cons,ih,h.1]
theorem KV.repl {kvs:List (κ×V)} {vs:List (κ×Value)} (r:KV kvs vs) (k:κ) {y:V} {u:Value} (ry:RelV y u) :
  KV (kvs.map fun kv=>if kv.1=k then (kv.1,y) else kv) (vs.map fun kv=>if kv.1=k then (kv.1,u) else kv):=by
 unfold KV at r ⊢
 induction r with
 | nil=>exact .nil
 | @cons p q ps qs h t ih =>
  rw[y0d,y0d]
  refine .cons ?_ ih
  obtain⟨h1,h2⟩:=h
  by_cases e:p.1=k
  ·rw[if_pos e,if_pos (h1.symm.trans e)];exact⟨h1,ry⟩
  ·rw[if_neg e,if_neg (fun z=>e (h1.trans z))];exact⟨h1,h2⟩
theorem KV.put {kvs:List (κ×V)} {vs:List (κ×Value)} (r:KV kvs vs) (k:κ) {y:V} {u:Value} (ry:RelV y u):KV (putK kvs k y) (stored vs k u):=by
 unfold putK stored
 rw[r.any k]
 by_cases e:(vs.any fun kv=>decide (kv.1=k))=true
 ·rw[if_pos e,if_pos e];exact r.repl k ry
 ·rw[if_neg e,if_neg e];exact Paired.snoc r ⟨rfl,ry⟩
theorem KV.length {kvs:List (κ×V)} {vs:List (κ×Value)} (r:KV kvs vs):kvs.length=vs.length:=Paired.length r
end
theorem zjw {P:y0q} {w:World} {k:Key} {u:Value} (r:RelV (kV k) u):(z0f P w).is k u=true:=by
 cases k with
 | inl i=>obtain⟨t,e⟩:=(show ∃t,u=Value.int i t from r);subst e;exact z75 P w i t
 | inr x=>obtain⟨t,e⟩:=(show ∃t,u=Value.str x t from r);subst e;exact z74 P w x t
theorem zau {P:y0q} {w:World}:∀{ks:List Key} {us:List Value},Vals (ks.map kV) us->ItemsAre (z0f P w) ks us
 | [],_,r=>by rw[y19] at r;cases r;exact .nil
 | k::ks,_,r=>by
  rw[y0d] at r
  cases r with
  | cons h t=>exact .cons (zjw h) (zau t)
abbrev KT (H:Hp):List (List Key×V)->List (List Key×Addr×Value)->Prop:=Paired fun p q=>p.1=q.1/\H q.2.1=some (.tup (p.1.map kV))/\RelV p.2 q.2.2
theorem KT.val {H:Hp} {kvs:List (List Key×V)} {xs:List (List Key×Addr×Value)} (r:KT H kvs xs) (k:List Key):RelO (valV kvs k) ((atKey xs k).map (·.2)):=by
 induction r with
 | nil=>exact True.intro
 | @cons p q ps qs h t ih =>
  obtain⟨h1,_,h2⟩:=h
  by_cases e:p.1=k
  ·have e':q.1=k:=h1.symm.trans e
   have b:atKey (q::qs) k=some q.2:=by simp[atKey,y1s,e']
   rw[z8x e,b];exact h2
  ·have e':¬q.1=k:=fun z=>e (h1.trans z)
   have b:atKey (q::qs) k=atKey qs k:=by simp[atKey,y1s,e']
   rw[z8y e,b];exact ih
theorem KT.repl {H:Hp} {kvs:List (List Key×V)} {xs:List (List Key×Addr×Value)} (r:KT H kvs xs) (k:List Key) {y:V} {u:Value} (ry:RelV y u) :
  KT H (kvs.map fun kv=>if kv.1=k then (kv.1,y) else kv) (xs.map (putAt k u)):=by
 induction r with
 | nil=>exact .nil
 | @cons p q ps qs h t ih =>
  rw[y0d,y0d]
  refine .cons ?_ ih
  obtain⟨h1,h2,h3⟩:=h
  unfold putAt
  by_cases e:p.1=k
  ·rw[if_pos e,if_pos (h1.symm.trans e)];exact⟨h1,h2,ry⟩
  ·rw[if_neg e,if_neg (fun z=>e (h1.trans z))];exact⟨h1,h2,h3⟩
theorem KT.put {H:Hp} {kvs:List (List Key×V)} {xs:List (List Key×Addr×Value)} (r:KT H kvs xs) (k:List Key) {b:Addr} {y:V} {u:Value} (hb:H b=some (.tup (k.map kV))) (ry:RelV y u) :
  KT H (putK kvs k y) (storedH xs k b u):=by
 have e:(kvs.any fun kv=>decide (kv.1=k))=(atKey xs k).isSome:=by
  rw[zct,(r.val k).isSome_eq,Option.isSome_map]
 unfold putK storedH
 rw[e]
 by_cases q:(atKey xs k).isSome=true
 ·rw[if_pos q,if_pos q];exact r.repl k ry
 ·rw[if_neg q,if_neg q];exact Paired.snoc r ⟨rfl,hb,ry⟩
theorem KT.keeps {H H':Hp} {kvs:List (List Key×V)} {xs:List (List Key×Addr×Value)} (r:KT H kvs xs) (ht:∀b ys,H b=some (.tup ys)->H' b=some (.tup ys)):KT H' kvs xs :=
 Paired.mapP r fun _ _ z=>⟨z.1,ht _ _ z.2.1,z.2.2⟩
section
variable {P:y0q} {w:World} {H:Hp} {h:Heap} {a:Addr}
theorem znz {u:HO} (ok:HOk P w H h) (e:Rd H a u):z2n P w H h a u:=e.ok ok
theorem zpj {kvs:List (Key×V)} (ok:HOk P w H h) (e:Rd H a (.dK kvs)):kvs.length<=y0j/\(a == sysModules)=false/\∃vs,KV kvs vs/\h.DictOf (z0f P w) a vs :=
 show z2n P w H h a (.dK kvs) from znz ok e
theorem zpk {kvs:List (Key×V)} (ok:HOk P w H h) (e:H a=some (.dK kvs)):kvs.length<=y0j/\(a == sysModules)=false/\∃vs,KV kvs vs/\h.DictOf (z0f P w) a vs:=zpj ok (.inl e)
theorem zh3 {ks:List Key} (ok:HOk P w H h) (e:H a=some (.tup (ks.map kV))):(tupleKind (z0f P w)).is h ks a:=by
 obtain⟨_,its,r,o,h1,h2,n,h3⟩:=(show z2n P w H h a (.tup (ks.map kV)) from ok a _ e)
 exact⟨o,its.toArray,n,h1,h2,h3,by simpa using zau r⟩
theorem zpi {kvs:List (List Key×V)} (ok:HOk P w H h) (e:Rd H a (.dT kvs)):kvs.length<=y0j/\(a == sysModules)=false /\
  ∃xs,KT H kvs xs/\h.DictOfH (tupleKind (z0f P w)) a xs:=by
 obtain⟨z,y,xs,r,o,es,ep,h1,h2,h3,h4,h5⟩:=(show z2n P w H h a (.dT kvs) from znz ok e)
 refine⟨z,y,xs,r,o,es,ep,h1,h2,h3,h4,fun x hx=>?_,h5⟩
 have all:∀{l:List (List Key×V)} {m:List (List Key×Addr×Value)},KT H l m->∀x∈m,(tupleKind (z0f P w)).is h x.1 x.2.1:=by
  intro l m q
  induction q with
  | nil=>intro x hx;exact nomatch hx
  | @cons p q ps qs hq t ih =>
   intro x hx
   rcases y09.mp hx with e|hx
   ·subst e
    exact zh3 ok (by rw[<- hq.1];exact hq.2.1)
   ·exact ih x hx
 exact all r x hx
theorem zqo {kvs:List (List Key×V)} (ok:HOk P w H h) (e:H a=some (.dT kvs)):kvs.length<=y0j/\(a == sysModules)=false /\
  ∃xs,KT H kvs xs/\h.DictOfH (tupleKind (z0f P w)) a xs:=zpi ok (.inl e)
end
noncomputable def DGet (H:Hp) (a:Addr) (y:V) (r:Option V):Prop :=
 (∃kvs k,Rd H a (.dK kvs)/\y=kV k/\r=valV kvs k)\/∃kvs k b,Rd H a (.dT kvs)/\y=.ref b/\H b=some (.tup (k.map kV))/\r=valV kvs k
noncomputable def DPut (H:Hp) (a:Addr) (y v:V) (H':Hp):Prop :=
 (∃kvs k,H a=some (.dK kvs)/\y=kV k/\kvs.length<y0j/\H'=upd H a (.dK (putK kvs k v))) \/
 ∃kvs k b,H a=some (.dT kvs)/\y=.ref b/\H b=some (.tup (k.map kV))/\kvs.length<y0j/\H'=upd H a (.dT (putK kvs k v))
theorem DGet.k {H:Hp} {a:Addr} {kvs:List (Key×V)} {k:Key} (e:H a=some (.dK kvs)):DGet H a (kV k) (valV kvs k):=.inl ⟨kvs,k,.inl e,rfl,rfl⟩
theorem DPut.k {H:Hp} {a:Addr} {kvs:List (Key×V)} {k:Key} {v:V} (e:H a=some (.dK kvs)) (hl:kvs.length<y0j):DPut H a (kV k) v (upd H a (.dK (putK kvs k v))):=.inl ⟨kvs,k,e,rfl,hl,rfl⟩
section
variable {X:Cx} {pins:List (Addr×Obj)} {σ:St} {H:Hp} {s:y04} {a:Addr} {y v:V} {u r:Value} {o:Option V} {A:Around} {E:Value->y04->Prop}
theorem Inv.big (I:Inv X pins σ H s):sysModules<s.heap.objs.size:=by
 have h:y0n<s.heap.objs.size:=(I.mod.glob.keeps I.bk).lt
 exact Nat.lt_trans (by decide) h
theorem zn6 {Q:Value->y04->Prop} (hu:A.units+1<cLine) (I:Inv X pins σ H s) (g:DGet H a y o) (ry:RelV y u) (h:∀s',Inv X pins σ H s'->Q (.bool (!o.isSome)) s') :
  y0u (y37 X.prog X.w) A (y2s .NotIn u (.ref a)) Q E s:=by
 rcases g with ⟨kvs,k,e,ey,l⟩|⟨kvs,k,b,e,ey,eb,l⟩
 ·subst ey
  obtain⟨z,hd,vs,rel,dd⟩:=zpj I.hok e
  refine wpAny_notIn_of (zjw ry) hd dd.mapOf ?_
  rw[<- (rel.val k).isSome_eq,<- l]
  exact h _ (I.tok _)
 ·subst ey
  cases (show u=Value.ref b from ry)
  obtain⟨z,hd,xs,rel,dd⟩:=zpi I.hok e
  refine wpAny_notIn_heap (tupleKind_room_in1 hu) (zh3 I.hok eb) hd dd ?_
  have q:=(rel.val k).isSome_eq
  rw[Option.isSome_map] at q
  rw[<- q,<- l]
  exact h _ (I.tok _)
theorem zca {h':Heap} {t':Nat} {ob:HO} (I:Inv X pins σ H s) (mu:Mut (H a)) (hs:Heap.SameBut a s.heap h') (he:∃q,h'.get? a=some q) (new:z2n X.prog X.w (upd H a ob) h' a ob) :
  Inv X pins σ (upd H a ob) { s with heap:=h',toks:=t' } :=
 I.write (x:=a) (e:=a) mu (.inl rfl) (fun b q hb z=>(hs.2 b hb).trans z) he new
theorem zlb {P:y0q} {w:World} {H':Hp} {h':Heap} {kvs:List (Key×V)} {vs:List (Key×Value)} (z:kvs.length<=y0j) (hd:(a == sysModules)=false) (rel:KV kvs vs) (dd:h'.DictOf (z0f P w) a vs) :
  z2n P w H' h' a (.dK kvs):=⟨z,hd,vs,rel,dd⟩
theorem zhp {H':Hp} {Q:Unit->y04->Prop} (hu:A.units+1<cLine) (I:Inv X pins σ H s) (g:DPut H a y v H') (ry:RelV y u) (rv:RelV v r) (h:∀s',Inv X pins σ H' s'->Q () s') :
  y0u (y37 X.prog X.w) A (setItem (.ref a) u r) Q E s:=by
 rcases g with ⟨kvs,k,e,ey,l,eH⟩|⟨kvs,k,b,e,ey,eb,l,eH⟩
 ·subst ey eH
  obtain⟨z,hd,vs,rel,dd⟩:=zpk I.hok e
  have hz:vs.length<=y0j:=by rw[<- rel.length];exact z
  have hl:(putK kvs k v).length<=y0j:=by have:=z4q kvs k v;omega
  refine wpAny_setItem_pairs (hsz:=hz) (zjw ry) dd fun h' dd' hs=>h _ ?_
  have he:∃q,h'.get? a=some q:=let ⟨q,_,_,hq,_⟩:=dd';⟨q,hq⟩
  exact zca I (by rw[e];exact True.intro) hs he (zlb hl hd (rel.put k rv) dd')
 ·subst ey eH
  cases (show u=Value.ref b from ry)
  obtain⟨z,hd,xs,rel,dd⟩:=zqo I.hok e
  have hz:xs.length<=y0j:=by rw[<- Paired.length rel];exact z
  have hl:(putK kvs k v).length<=y0j:=by have:=z4q kvs k v;omega
  refine wpAny_setItem_heap (hsz:=hz) (tupleKind_room_in1 hu) (zh3 I.hok eb) dd fun h' dd' hs=>h _ ?_
  obtain⟨q,es,ep,hq,h2,h3,h4,_,h5⟩:=dd'
  refine zca I (by rw[e];exact True.intro) hs ⟨q,hq⟩ ⟨hl,hd,_,(rel.put k eb rv).keeps fun c ys ec=>?_,q,es,ep,hq,h2,h3,h4,h5⟩
  rw[z05 (ne_of ec e (fun z=>nomatch z))]
  exact ec
end
section
variable {X:Cx} {pins:List (Addr×Obj)} {σ:St} {H:Hp} {s:y04} {a:Addr} {kvs:List (Key×V)} {k:Key} {u:Value} {A:Around} {E:Value->y04->Prop}
end
def zfk (ty td:TE):TE:=fun σ H Q=>ty σ H fun y H1=>td σ H1 fun x H2=>∃a o,x=.ref a/\DGet H2 a y o/\Q (.bl (!o.isSome)) H2
def zq5 (td ty tv:TE):TS:=fun D σ H=>tv σ H fun v H1=>td σ H1 fun x H2=>ty σ H2 fun y H3=>∃a H4,x=.ref a/\DPut H3 a y v H4/\D.nx σ H4
section
variable {X:Cx} {o i e value:Expr} {pos pos' tpos:Pos} {td ty tv:TE}
theorem zgh (hu:X.A.units+1<cLine) (hi:PE X i ty) (ho:PE X o td):PC X .NotIn i o (zfk ty td):=by
 intro pins s σ H Q I h
 refine thn (hi pins s σ H _ I h) fun iv s1 ⟨y,H1,I1,ry,q1⟩=>thn (ho pins s1 σ H1 _ I1 q1) fun u s2 ⟨x,H2,I2,rx,a,ov,ex,g,q2⟩=>?_
 subst ex
 obtain rfl:u=Value.ref a:=rx
 exact zn6 hu I2 g ry fun s3 I3=>⟨.bl (!ov.isSome),H2,I3,rfl,q2⟩
theorem zm5 (hu:X.A.units+1<cLine) (ho:PE X o td) (hi:PE X i ty) (hv:PE X value tv) (hs:y2y value (some (.Subscript o i pos')) pos.line X.env=pure false) :
  PS X (.Assign [.Subscript o i pos'] value pos) (zq5 td ty tv):=by
 intro pins s σ H D I h
 refine wpAny_Assign_Subscript (thn (hv pins s σ H _ I h) fun r s1 ⟨v,H1,I1,rv,q1⟩=>thn (ho pins s1 σ H1 _ I1 q1) fun u s2 ⟨x,H2,I2,rx,q2⟩=>thn (hi pins s2 σ H2 _ I2 q2) fun iv s3 ⟨y,H3,I3,ry,a,H4,ex,g,q3⟩=>?_) hs
 subst ex
 obtain rfl:u=Value.ref a:=rx
 exact zhp hu I3 g ry rv fun s4 I4=>⟨σ,H4,I4,q3⟩
end
theorem zk8 {P:y0q} {w:World} {H:Hp} (h:Heap) (hb:sysModules<h.objs.size):z2n P w H (h.push { cls:=.type "dict",data:=.dict #[] }) h.objs.size (.dK []) :=
 ⟨y23 _,beq_eq_false_iff_ne.mpr (Ne.symm (y0y hb)),[],.nil,Heap.DictOf.new h⟩
section
variable {X:Cx} {pos:Pos}
end
noncomputable def zfj:List (TE×TE)->St->Hp->(List (V×V)->Hp->Prop)->Prop
  | [],_,H,Q=>Q [] H
  | (tk,tv)::r,σ,H,Q=>tk σ H fun x H1=>tv σ H1 fun y H2=>zfj r σ H2 fun ps H3=>Q ((x,y)::ps) H3
abbrev VV:List (V×V)->List (Value×Value)->Prop:=Paired fun p q=>RelV p.1 q.1/\RelV p.2 q.2
noncomputable def PPs (X:Cx) (pos:Pos) (keys:List (Option Expr)) (values:List Expr) (trs:List (TE×TE)):Prop :=
 ∀(pins:List (Addr×Obj)) (s:y04) (σ:St) (H:Hp) (Q:List (V×V)->Hp->Prop),Inv X pins σ H s->zfj trs σ H Q ->
  y0u (y37 X.prog X.w) X.A (evalPairs (pairTrees keys values X.env pos)) (fun vs s'=>∃ps H',Inv X pins σ H' s'/\VV ps vs/\Q ps H') X.xe s
theorem zm6 {X:Cx} {pos:Pos}:PPs X pos [] [] []:=fun pins s σ H Q I h=>pairTrees_nil_walk ⟨[],H,I,.nil,h⟩
theorem zj8 {X:Cx} {pos:Pos} {k v:Expr} {ks:List (Option Expr)} {vs:List Expr} {tk tv:TE} {trs:List (TE×TE)} (hk:PE X k tk) (hv:PE X v tv) (hr:PPs X pos ks vs trs) :
  PPs X pos (some k::ks) (v::vs) ((tk,tv)::trs):=fun pins s σ H Q I h =>
 pairTrees_cons_walk (thn (hk pins s σ H _ I h) fun u s1 ⟨x,H1,I1,rx,q1⟩=>thn (hv pins s1 σ H1 _ I1 q1) fun w2 s2 ⟨y,H2,I2,ry,q2⟩ =>
  thn (hr pins s2 σ H2 _ I2 q2) fun ws s3 ⟨ps,H3,I3,rel,q3⟩=>⟨(x,y)::ps,H3,I3,.cons ⟨rx,ry⟩ rel,q3⟩)
def z77 (kvs more:List (Key×V)):List (Key×V):=more.foldl (fun acc kv=>putK acc kv.1 kv.2) kvs
theorem KV.merge:∀{more:List (Key×V)} {rs:List (Key×Value)} {kvs:List (Key×V)} {vs:List (Key×Value)},KV more rs->KV kvs vs->KV (z77 kvs more) (merged vs rs):=by
 intro more rs kvs vs r
 unfold KV at r
 induction r generalizing kvs vs with
 | nil=>intro q;exact q
 | @cons p q ps qs h t ih =>
  intro r0
  have e:KV (putK kvs p.1 p.2) (stored vs q.1 q.2):=by
   have:=r0.put p.1 h.2
   rw[<- h.1];exact this
  exact ih e
theorem z58:∀(more kvs:List (Key×V)),(z77 kvs more).length<=kvs.length+more.length
 | [],kvs=>by show kvs.length<=kvs.length+0;omega
 | p::r,kvs=>by
  have h1:=z58 r (putK kvs p.1 p.2)
  have h2:=z4q kvs p.1 p.2
  show (z77 (putK kvs p.1 p.2) r).length<=_
  rw[y0w];omega
theorem z8s {P:y0q} {w:World}:∀{kvs:List (Key×V)} {ws:List (Value×Value)},VV (kvs.map fun kv=>(kV kv.1,kv.2)) ws->∃rs,Carries (z0f P w) ws rs/\KV kvs rs
 | [],_,r=>by rw[y19] at r;cases r;exact⟨[],True.intro,.nil⟩
 | p::kvs,_,r=>by
  rw[y0d] at r
  cases r with
  | @cons a b as bs h t =>
   obtain⟨rs,c,q⟩:=z8s (P:=P) (w:=w) t
   obtain⟨b1,b2⟩:=b
   exact⟨(p.1,b2)::rs,⟨zjw h.1,rfl,c⟩,.cons ⟨rfl,h.2⟩ q⟩
noncomputable def zpy (trs:List (TE×TE)):TE:=fun σ H Q=>∀p,H p=none->zfj trs σ (upd H p (.dK [])) fun ps H2=>H2 p=some (.dK [])/\∃kvs:List (Key×V),ps=kvs.map (fun kv=>(kV kv.1,kv.2))/\kvs.length<=15/\Q (.ref p) (upd H2 p (.dK (z77 [] kvs)))
theorem zmd {X:Cx} {pos:Pos} {keys:List (Option Expr)} {values:List Expr} {trs:List (TE×TE)} (h:PPs X pos keys values trs) (hall:keys.all (·.isSome)=true) (hl:keys.length=values.length) (h0:keys≠[])
  (h15:keys.length<=15):PE X (.Dict keys values pos) (zpy trs):=by
 intro pins s σ H Q I q
 have hn:=I.hok.fresh (y0o s.heap.objs.size)
 have I1:=I.laid (a:=s.heap.objs.size) (o:=.dK []) (h':=s.heap.push { cls:=.type "dict",data:=.dict #[] }) (t':=s.toks) (fun _ _ q=>y03 _ q) (y0o _) (zk8 s.heap I.big)
 refine wpAny_Dict_walk (knd:=z0f X.prog X.w) hall hl h0 h15 (thn (h pins _ σ _ _ I1 (q _ hn)) fun ws s2 ⟨ps,H2,I2,rel,e,kvs,ep,lk,q2⟩=>?_)
 subst ep
 obtain⟨rs,c,rk⟩:=z8s (P:=X.prog) (w:=X.w) rel
 obtain⟨z,hd,vs0,r0,dd⟩:=zpk I2.hok e
 cases r0
 refine⟨rs,c,dd,fun h' dd' hs=>⟨.ref s.heap.objs.size,_,?_,rfl,q2⟩⟩
 have hz:(z77 [] kvs).length<=y0j:=by
  have h1:=z58 kvs []
  rw[y2d] at h1
  rw[y2p];omega
 have he:∃q,h'.get? s.heap.objs.size=some q:=let ⟨q,_,_,hq,_⟩:=dd';⟨q,hq⟩
 exact zca I2 (by rw[e];exact True.intro) hs he (zlb hz hd (rk.merge .nil) dd')
section
variable {X:Cx} {pins:List (Addr×Obj)} {σ:St} {H:Hp} {s:y04} {a:Addr} {y d:V} {u r:Value} {o:Option V} {A:Around} {E:Value->y04->Prop}
end
section
variable {X:Cx} {o e f:Expr} {apos cpos:Pos} {td ty tx:TE}
end
section
variable {X:Cx} {pins:List (Addr×Obj)} {σ:St} {H:Hp} {s:y04} {a:Addr} {kvs:List (Key×V)} {A:Around} {E:Value->y04->Prop}
end
section
variable {X:Cx} {pins:List (Addr×Obj)} {σ:St} {H:Hp} {s:y04} {a:Addr} {y:V} {u:Value} {A:Around} {E:Value->y04->Prop}
end
end L2
end
section
namespace D
open PySem PySem.Spec PyProof.Rows L2
variable [Tbl]
theorem zoz {K:y00} {F:Addr->Prop} {H:Hp} {a:Addr} {o o':HO} (hn:¬F a) (ha:H a=some o) (hk:(∃xs,o=.lst xs)\/∃xs,o=.dK xs):Kp K F H F (upd H a o'):=by
 refine⟨fun b xs q=>?_,fun b xs f q=>⟨f,?_⟩⟩
 ·rcases q with q|q
  ·refine .inl ?_
   have nb:b≠a:=by
    rintro rfl
    rcases q with q|⟨_,q⟩
    ·rw[ha] at q
     cases q
     rcases hk with ⟨_,z⟩|⟨_,z⟩ <;> cases z
    ·rw[ha] at q
     cases q
     rcases hk with ⟨_,z⟩|⟨_,z⟩ <;> cases z
   rcases q with q|⟨u,q⟩
   ·exact .inl (by rw[z05 nb];exact q)
   ·exact .inr ⟨u,by rw[z05 nb];exact q⟩
  ·exact .inr q
 ·have nb:b≠a:=by
   rintro rfl
   exact hn f
  rcases q with q|⟨u,q⟩
  ·exact .inl (by rw[z05 nb];exact q)
  ·exact .inr ⟨u,by rw[z05 nb];exact q⟩
section
variable {K:y00} {F:Addr->Prop} {H:Hp}
theorem RepD.any {k:D.Key}:∀{kvs:List (D.Key×T)} {vs:List (D.Key×V)},RepD K F H kvs vs->hasD kvs k=(valV vs k).isSome
 | [],vs,h=>by
  have:vs=[]:=h
  subst this
  rfl
 | p::r,vs,h=>by
  obtain⟨v,w,rfl,q,z⟩:=h
  have ih:=RepD.any (k:=k) z
  simp only[hasD,List.any_cons,valV,y1s] at ih ⊢
  by_cases e:p.1=k
  ·simp[e]
  ·simp[e,ih]
theorem RepD.length:∀{kvs:List (D.Key×T)} {vs:List (D.Key×V)},RepD K F H kvs vs->kvs.length=vs.length
 | [],vs,h=>by
  have:vs=[]:=h
  subst this
  rfl
 | p::r,vs,h=>by
  obtain⟨v,w,rfl,q,z⟩:=h
  simp[RepD.length z]
theorem RepD.append:∀{kvs us:List (D.Key×T)} {vs ws:List (D.Key×V)},RepD K F H kvs vs->RepD K F H us ws->RepD K F H (kvs++us) (vs++ws)
 | [],us,vs,ws,h,r=>by
  have:vs=[]:=h
  subst this
  exact r
 | p::q,us,vs,ws,h,r=>by
  obtain⟨v,w,rfl,q',z⟩:=h
  exact⟨v,w++ws,rfl,q',RepD.append z r⟩
theorem RepD.mapPut {k:D.Key} {t:T} {v:V}:∀{kvs:List (D.Key×T)} {vs:List (D.Key×V)},RepD K F H kvs vs->Rep K F H t v->RepD K F H (kvs.map fun p=>if p.1=k then (k,t) else p) (vs.map fun kv=>if kv.1=k then (kv.1,v) else kv)
 | [],vs,h,q=>by
  have:vs=[]:=h
  subst this
  rfl
 | p::r,vs,h,q=>by
  obtain⟨v',w,rfl,q',z⟩:=h
  simp only[y0d]
  by_cases e:p.1=k
  ·rw[if_pos e,if_pos e]
   exact⟨v,_,by rw[e],q,RepD.mapPut z q⟩
  ·rw[if_neg e,if_neg e]
   exact⟨v',_,rfl,q',RepD.mapPut z q⟩
theorem RepD.put {k:D.Key} {t:T} {v:V} {kvs:List (D.Key×T)} {vs:List (D.Key×V)} (h:RepD K F H kvs vs) (q:Rep K F H t v):RepD K F H (putD kvs k t) (putK vs k v):=by
 have ha:(kvs.any fun p=>decide (p.1=k))=(vs.any fun kv=>decide (kv.1=k)):=by
  clear q
  induction kvs generalizing vs with
  | nil =>
   have:vs=[]:=h
   subst this
   rfl
  | cons p r ih =>
   obtain⟨v,w,rfl,q',z⟩:=h
   simp only[List.any_cons,ih z]
 unfold putD putK
 rw[ha]
 split
 ·exact RepD.mapPut h q
 ·exact h.append ⟨v,[],rfl,q,rfl⟩
theorem zc0 {t:T} {k:D.Key} {v:V} {O:Addr->Prop} (e:keyOf t=some k) (r:RepR K O F H t v):v=kV k:=by
 unfold keyOf at e
 split at e
 ·cases e
  exact r.int
 ·cases e
  exact r.str
 ·cases e
theorem zdz {i:Nat} {ε:Ev} {kvs:List (D.Key×T)} (h:dic? i ε=some kvs):ε[i]?=some (some (.dic kvs)):=by
 unfold dic? at h
 split at h
 ·cases h
  assumption
 ·cases h
end
section
variable {X:Cx} {a b e:Expr} {f g:Fe} {pos:Pos}
theorem z9o {F₀ O F:Addr->Prop} {H₀:En} {H:Hp} {ε:Ev} {σ:L2.St} {i:Nat} {kvs:List (D.Key×T)} (r:RelE X.K F₀ H₀ O F H ε σ) (h:dic? i ε=some kvs) :
  ∃p vs,σ[i]?=some (some (.ref p))/\¬F p/\O p/\H p=some (.dK vs)/\RepD X.K F H kvs vs:=by
 obtain⟨v,h1,p,vs,rfl,n,o,hh,hr⟩:=r.val _ _ (zdz h)
 exact⟨p,vs,h1,n,o,hh,hr⟩
theorem zn7 {neg:Bool} {i:Nat} {R:TE} (hR:∀σ H Q,(∃F₀ H₀ O F ε t k kvs,RelE X.K F₀ H₀ O F H ε σ/\f ε=some t/\keyOf t=some k/\dic? i ε=some kvs/\∀F' H',Ext F H F' H'->Q (.bl (if neg then !hasD kvs k else hasD kvs k)) H')->R σ H Q) :
  ∀σ H Q,tV X.K (dIn neg f i) σ H Q->R σ H Q:=fun σ H Q ⟨F₀,H₀,O,F,ε,t,r,e,k⟩=>by
 simp only[dIn,y01,y07] at e
 obtain⟨t',et,key,ek,kvs,ed,rfl⟩:=e
 exact hR σ H Q ⟨F₀,H₀,O,F,ε,t',key,kvs,r,et,ek,ed,fun F' H' x=>k _ F' H' x (by simp[Rep])⟩
theorem zhq (i:Nat):∀σ H (Q:VK),(∃F₀ H₀ O F ε t k kvs,RelE X.K F₀ H₀ O F H ε σ/\f ε=some t/\keyOf t=some k/\dic? i ε=some kvs/\∀F' H',Ext F H F' H'->Q (.bl (if true then !hasD kvs k else hasD kvs k)) H')->zfk (tR X.K f) (tVar i) σ H Q :=
 fun σ H Q ⟨F₀,H₀,O,F,ε,t,k,kvs,r,et,ek,ed,kk⟩=>⟨F₀,H₀,O,F,ε,t,r,et,fun v F1 H1 x1 q1=>by
  obtain⟨p,vs,h1,n,o,hh,hr⟩:=z9o (r.ext x1) ed
  refine⟨_,h1,p,valV vs k,rfl,?_,?_⟩
  ·rw[zc0 ek q1]
   exact DGet.k hh
  ·rw[<- hr.any]
   exact kk F1 H1 x1⟩
variable {x:Str} {px:Pos}
theorem zps {R:TE} {h:Fe} (k:∀σ H Q,tV X.K h σ H Q->R σ H Q):∀σ H Q,tT X.K (tstB h) σ H Q->L2.tB R σ H Q:=fun σ H Q ⟨F₀,H₀,O,F,ε,b,r,e,kk⟩=>by
 simp only[tstB,y01] at e
 obtain⟨t,et,e⟩:=e
 split at e
 ·cases e
  refine k σ H _ ⟨F₀,H₀,O,F,ε,_,r,et,fun v F' H' x q=>?_⟩
  simp only[Rep] at q
  exact⟨_,q,kk F' H' x⟩
 ·cases e
theorem znm (i:Nat) (hu:X.A.units+1<cLine) (ha:PEr X a f) (hN:X.N[i]?=some x:=by rfl) (hv:Vis X.env.scope x:=by first|exact Or.inl rfl|exact Or.inr (Or.inl rfl)|exact Or.inr (Or.inr rfl)) (hd:(x == ("__debug__":Str))=false:=by decide)
  (hcd:(x == ("__classdict__":Str))=false:=by decide) (h1:y2z .NotIn (.Name x px)=false:=by rfl):PTt X (.Compare a [.NotIn] [.Name x px] pos) (tstB (dIn true f i)):=z7y (zga (zgh hu ha (pv i hN hv hd hcd)) h1) (zps (zn7 (zhq i)))
theorem znt (i:Nat) (hu:X.A.units+1<cLine) {spos:Pos} (ha:PEr X a f) (he:PEv X e g) (hN:X.N[i]?=some x:=by rfl) (hv:Vis X.env.scope x:=by first|exact Or.inl rfl|exact Or.inr (Or.inl rfl)|exact Or.inr (Or.inr rfl)) (hd:(x == ("__debug__":Str))=false:=by decide)
  (hcd:(x == ("__classdict__":Str))=false:=by decide) (hs:y2y e (some (.Subscript (.Name x px) a spos)) pos.line X.env=pure false:=by rfl) :
  PSt X (.Assign [.Subscript (.Name x px) a spos] e pos) (dPut i f g):=z3g (zm5 hu (pv i hN hv hd hcd) ha he hs) fun D σ H ⟨F₀,H₀,O,F,ε,o,r,e,k⟩=>by
 simp only[dPut,y01] at e
 obtain⟨v,ev,t,et,key,ek,kvs,ed,e⟩:=e
 split at e
 next hz =>
  cases e
  refine⟨F₀,H₀,O,F,ε,v,r,ev,fun vv F1 H1 x1 q1=>?_⟩
  obtain⟨p,vs,h1,n,oo,hh,hr⟩:=z9o (r.ext x1) ed
  refine⟨_,h1,F₀,H₀,O,F1,ε,t,r.ext x1,et,fun vt F2 H2 x2 q2=>?_⟩
  have r2:=(r.ext x1).ext x2
  obtain⟨p',vs',h1',n',o',hh',hr'⟩:=z9o r2 ed
  rw[h1] at h1'
  cases h1'
  obtain⟨kp,r3⟩:=r2.mut (s':=.dic (putD kvs key v)) (o':=.dK (putK vs' key vv)) (zdz ed) rfl h1 n' o' hh' (.inr ⟨_,rfl⟩) fun kp=>⟨p,_,rfl,n',o',z03,RepD.put (RepD.kp kp hr') ((q1.ext x2).kp kp)⟩
  refine⟨p,_,rfl,?_,k σ F2 _ ((x1.trans x2).kp.trans kp) r3⟩
  rw[zc0 ek q2]
  exact DPut.k hh' (by rw[z6p,<- hr'.length];exact hz)
 next=>cases e
theorem znu (i:Nat) {kx vx:Expr} {dpos:Pos} (hN:X.N.Nodup) (hk:PEv X kx f) (he:PEv X vx g) (hi:X.N[i]?=some x:=by rfl) (hx:Loc X.env.scope x:=by first|exact Or.inl rfl|exact Or.inr rfl)
  (hs:y2y (.Dict [some kx] [vx] dpos) (some (.Name x px)) pos.line X.env=pure false:=by rfl) (hf:X.fn x=true\/X.env.scope.names.lookup x=some .local:=by first|exact .inl rfl|exact .inr rfl) :
  PSt X (.Assign [.Name x px] (.Dict [some kx] [vx] dpos) pos) (dNew i f g):=z3g (zd6 hN hi hx (zmd (zj8 hk he zm6) rfl rfl (by simp) (by simp)) hs hf) fun D σ H ⟨F₀,H₀,O,F,ε,o,r,e,k⟩=>by
 simp only[dNew,y01,y07] at e
 obtain⟨t,et,key,ek,v,ev,rfl⟩:=e
 intro p hp
 have x0:=Ext.laid (o:=.dK []) r.dom hp
 refine⟨F₀,H₀,O,F,ε,t,r.ext x0,et,fun vk F1 H1 x1 q1=>⟨F₀,H₀,O,F1,ε,v,(r.ext x0).ext x1,ev,fun vv F2 H2 x2 q2=>?_⟩⟩
 have x02:=(x0.trans x1).trans x2
 have hp2:H2 p=some (.dK []):=(x1.trans x2).same.get z03
 have nf:¬F2 p:=fun z=>by
  rcases (x1.trans x2).new p z with q|q
  ·obtain⟨o,e⟩:=r.dom p q
   rw[hp] at e
   cases e
  ·rw[z03] at q
   cases q
 refine⟨hp2,[(key,vv)],?_,by simp,?_⟩
 ·have hk:=zc0 (O:=O) ek (.inl q1)
  simp[hk]
 ·have kp:Kp X.K F2 H2 F2 (upd H2 p (.dK (z77 [] [(key,vv)]))):=zoz nf hp2 (.inr ⟨_,rfl⟩)
  have x3:Ext F H F2 (upd H2 p (.dK (z77 [] [(key,vv)]))):=by
   refine⟨fun b o e=>?_,x02.sub,x02.new,⟨fun b z=>?_,x02.dom.tgs.upd fun u e=>.inr ⟨_,y2c (e.symm.trans hp2)⟩⟩⟩
   ·rw[z05 (z0a e hp)]
    exact x02.same b o e
   ·have nb:b≠p:=by
     rintro rfl
     exact nf z
    rw[z05 nb]
    exact x02.dom b z
  exact k _ F2 _ x3.kp (r.setNew (s:=.dic _) i x3 ⟨p,_,rfl,nf,r.fr p hp,z03,⟨vv,[],rfl,q2.kp kp,rfl⟩⟩ fun b hb=>by
   have:b=p:=by simpa [fpS,rf] using hb
   rw[this]
   exact hp)
end
end D
end
section
namespace D
open PySem
variable [Tbl]
def Rs (xs:Array Nat):Prop:=xs.toList.Pairwise (·<·)
def Cuts (xs:Array Nat) (j p:Nat):Prop:=p<=xs.size/\(∀i,i<p->∀y,xs.toList[i]?=some y->y<j)/\∀i,p<=i->∀y,xs.toList[i]?=some y->j<=y
theorem z9a {xs:Array Nat} (h:Rs xs) {i k a b:Nat} (hik:i<=k) (ha:xs.toList[i]?=some a) (hb:xs.toList[k]?=some b):a<=b:=by
 obtain⟨hi,rfl⟩:=y0k.mp ha
 obtain⟨hk,rfl⟩:=y0k.mp hb
 rcases Nat.lt_or_eq_of_le hik with q|q
 ·exact Nat.le_of_lt (List.pairwise_iff_getElem.mp h i k hi hk q)
 ·subst q
  exact y0o _
theorem z9s {xs:Array Nat} (j:Nat) (h:Rs xs):∀fuel lo hi,hi - lo<=fuel->lo<=hi->hi<=xs.size->(∀i,i<lo->∀y,xs.toList[i]?=some y->y<j)->(∀i,hi<=i->∀y,xs.toList[i]?=some y->j<=y) ->
  Cuts xs j (SetTable.below.go xs j fuel lo hi)
 | 0,lo,hi,h1,h2,h3,ha,hb=>by
  have:lo=hi:=by omega
  subst this
  exact⟨h3,ha,hb⟩
 | fuel+1,lo,hi,h1,h2,h3,ha,hb=>by
  unfold SetTable.below.go
  by_cases c:lo<hi
  ·rw[if_pos c]
   have hm:(lo+hi) / 2<xs.size:=by omega
   have hg:xs.toList[(lo+hi) / 2]?=some (xs.getD ((lo+hi) / 2) j):=by
    rw[y0v (by simpa using hm)]
    simp[Array.getD,hm]
   show Cuts xs j (if xs.getD ((lo+hi) / 2) j<j then SetTable.below.go xs j fuel ((lo+hi) / 2+1) hi else SetTable.below.go xs j fuel lo ((lo+hi) / 2))
   by_cases q:xs.getD ((lo+hi) / 2) j<j
   ·rw[if_pos q]
    exact z9s j h fuel _ hi (by omega) (by omega) h3 (fun i hi' y hy=>Nat.lt_of_le_of_lt (z9a h (Nat.le_of_lt_succ hi') hy hg) q) hb
   ·rw[if_neg q]
    exact z9s j h fuel lo _ (by omega) (by omega) (by omega) ha fun i hi' y hy=>y1p (Nat.le_of_not_lt q) (z9a h hi' hg hy)
  ·rw[if_neg c]
   have:lo=hi:=by omega
   subst this
   exact⟨h3,ha,hb⟩
theorem z48 {xs:Array Nat} (j:Nat) (h:Rs xs):Cuts xs j (SetTable.below xs j) :=
 z9s j h xs.size 0 xs.size (by omega) (y23 _) (y0o _) (fun i z=>absurd z (Nat.not_lt_zero i)) fun i z y e=>by
  rw[List.getElem?_eq_none (by simpa using z)] at e
  cases e
theorem zab {xs:Array Nat} {j:Nat} (h:Rs xs) (n:xs[SetTable.below xs j]?≠some j):Rs (SetTable.insertAt xs (SetTable.below xs j) j):=by
 obtain⟨h1,h2,h3⟩:=z48 j h
 unfold Rs
 rw[SetTable.toList_insertAt]
 generalize SetTable.below xs j=p at *
 refine List.pairwise_append.mpr ⟨h.sublist (List.take_sublist _ _),y18.mpr ⟨fun y hy=>?_,h.sublist (List.drop_sublist _ _)⟩,fun a ha b hb=>?_⟩
 ·obtain⟨i,hi⟩:=List.getElem?_of_mem hy
  rw[List.getElem?_drop] at hi
  have hle:j<=y:=h3 _ (y3b p i) y hi
  refine Nat.lt_of_le_of_ne hle fun e=>n ?_
  subst e
  rw[<- Array.getElem?_toList]
  have h0:p<xs.toList.length:=by
   have:=(y0k.mp hi).1
   omega
  have hp:xs.toList[p]?=some xs.toList[p]:=y0v h0
  have q1:=h3 p (y0o _) _ hp
  have q2:=z9a h (y3b p i) hp hi
  rw[hp,Nat.le_antisymm q2 q1]
 ·obtain⟨i,hi⟩:=List.getElem?_of_mem ha
  have hlt:i<p:=by
   have:=(y0k.mp hi).1
   rw[List.length_take] at this
   omega
  rw[List.getElem?_take_of_lt hlt] at hi
  have haj:=h2 i hlt a hi
  rcases y09.mp hb with e|hb
  ·omega
  ·obtain⟨k,hk⟩:=List.getElem?_of_mem hb
   rw[List.getElem?_drop] at hk
   have:=h3 _ (y3b p k) b hk
   omega
theorem z6o {t:SetTable} {j:Nat} (h:∀i,t.slot j≠.live i):t.place[SetTable.below t.place j]?≠some j:=fun e=>by
 unfold SetTable.slot at h
 dsimp only at h
 rw[e] at h
 simp at h
theorem z9d {t:SetTable} {f:Nat->Int} {h:Int}:∀(n:Nat) (p:SetTable.Probe),(∀d,p.dummy=some d->t.slot d=.dummy)->∀j dm,SetTable.probe.go t f h n p=some (.empty j dm)->t.slot j=.empty/\∀d,dm=some d->t.slot d=.dummy
 | 0,p,hp,j,dm,e=>by cases e
 | n+1,p,hp,j,dm,e=>by
  unfold SetTable.probe.go at e
  have adv:∀q:SetTable.Probe,(t.advance q).dummy=q.dummy:=fun q=>by
   unfold SetTable.advance
   split <;> rfl
  split at e
  next q =>
   cases e
   exact⟨q,hp⟩
  next q=>exact z9d n _ (fun d z=>by rw[adv] at z;cases z;exact q) j dm e
  next i q =>
   split at e
   ·cases e
   ·exact z9d n _ (fun d z=>by rw[adv] at z;exact hp d z) j dm e
theorem zc5 {t:SetTable} {h:Int} {j:Nat} {b:Bool} (e:t.freeSlot h=some (j,b)):t.place[SetTable.below t.place j]?≠some j:=by
 unfold SetTable.freeSlot at e
 split at e
 next j' dm q =>
  cases e
  obtain⟨h1,h2⟩:=z9d _ _ (fun d z=>by cases z) _ _ q
  cases dm with
  | none=>exact z6o fun i z=>by rw[Option.getD_none,h1] at z;cases z
  | some d=>exact z6o fun i z=>by rw[Option.getD_some,h2 d rfl] at z;cases z
 next=>cases e
theorem ziw (n:Nat):Rs (Array.range n):=by
 unfold Rs
 simp only[Array.toList_range]
 exact List.pairwise_lt_range
theorem z40 (t:SetTable) (n:Nat):Rs (t.standIn n).place/\(t.standIn n).led=t.led:=⟨ziw n,rfl⟩
theorem zam {t:SetTable} (h:Rs t.place) (n:Nat):Rs (t.orStandIn n).place/\(t.orStandIn n).led=t.led:=by
 unfold SetTable.orStandIn
 split
 ·exact⟨h,rfl⟩
 ·exact z40 t n
theorem zgx {t:SetTable} (h:Rs t.place) (es:Array (Int×Value)) (k:Int) (x:Value):Rs (layNew t es k x).2.1.place/\(layNew t es k x).2.1.led=t.led:=by
 unfold layNew
 split
 next slot wd e =>
  have:=zam (t:=(t.put slot).1) (zab h (zc5 e)) (SetTable.insertAt es (t.put slot).2 (k,x)).size
  exact this
 next=>exact z40 t _
theorem zbt {t:SetTable} (es:Array (Int×Value)) (n:Nat):Rs (relayAll t es n).2.1.place/\(relayAll t es n).2.1.led=t.led:=by
 unfold relayAll
 split
 next t' order e =>
  dsimp only
  split
  ·unfold SetTable.relaid SetTable.laid at e
   simp only[Option.bind_eq_bind,y01,pure,Option.some.injEq,Prod.mk.injEq] at e
   obtain⟨owner,_,rfl,_⟩:=e
   refine⟨?_,rfl⟩
   unfold Rs
   dsimp only
   rw[List.map_filterMap]
   refine List.Pairwise.sublist (l₂:=List.range (SetTable.sizeAbove n - 1+1)) ?_ List.pairwise_lt_range
   generalize List.range (SetTable.sizeAbove n - 1+1)=l
   induction l with
   | nil=>exact .slnil
   | cons a r ih =>
    rw[List.filterMap_cons]
    cases q:owner.getD a none with
    | none=>simpa [q] using ih.cons a
    | some z=>simpa [q] using ih.cons₂ a
  ·exact z40 t _
 next=>exact z40 t _
end D
end
section
namespace D
open PySem PySem.Spec PyProof.Rows L2
section
variable [Tbl]
theorem z6y {α β:Type} {R:α->β->Prop} {l l':List α} (p:l'.Perm l):∀{ks:List β},Paired R l ks->∃ks',Paired R l' ks'/\ks'.Perm ks:=by
 have key:∀{l l':List α},l.Perm l'->∀{ks:List β},Paired R l ks->∃ks',Paired R l' ks'/\ks'.Perm ks:=by
  intro l l' p
  induction p with
  | nil=>exact fun h=>⟨_,h,.rfl⟩
  | cons x _ ih =>
   intro ks h
   cases h with
   | cons a b =>
    obtain⟨ks',h1,h2⟩:=ih b
    exact⟨_,.cons a h1,h2.cons _⟩
  | swap x y l =>
   intro ks h
   cases h with
   | cons a b =>
    cases b with
    | cons c d=>exact⟨_,.cons c (.cons a d),.swap _ _ _⟩
  | trans _ _ i1 i2 =>
   intro ks h
   obtain⟨k1,h1,p1⟩:=i1 h
   obtain⟨k2,h2,p2⟩:=i2 h1
   exact⟨k2,h2,p2.trans p1⟩
 exact fun {ks} h=>key p.symm h
theorem z6z {α β:Type} {R:α->β->Prop}:∀{l l':List α} {ks ks':List β},Paired R l ks->Paired R l' ks'->Paired R (l++l') (ks++ks')
 | _,_,_,_,.nil,h=>h
 | _,_,_,_,.cons a b,h=>.cons a (z6z b h)
theorem z3o {α β:Type} {R:α->β->Prop}:∀{l:List α} {ks:List β},Paired R l ks->l.length=ks.length
 | _,_,.nil=>rfl
 | _,_,.cons a b=>by simp[z3o b]
theorem zd8 {α β:Type} {R:α->β->Prop}:∀{l:List α} {ks:List β},Paired R l ks->∀{i:Nat} {x:α},l[i]?=some x->∃k,ks[i]?=some k/\R x k
 | _,_,.nil,i,x,e=>by simp at e
 | _,_,.cons a b,0,x,e=>by
  simp at e
  subst e
  exact⟨_,rfl,a⟩
 | _,_,.cons a b,i+1,x,e=>by
  simp only[y2b] at e ⊢
  exact zd8 b e
def z0u (w:World):Bool:=w.params.followText "set-order"
section
variable {prog:y0q} {w:World} {K:Type} [DecidableEq K] (knd:PySem.KeyKind prog w K)
def IsK (e:Int×Value) (k:K):Prop:=knd.is k e.2=true
noncomputable def SetK (h:Heap) (a:Addr) (ks:List K):Prop:=∃(es:Array (Int×Value)) (ep:Nat) (t:SetTable) (ks':List K),
 h.get? a=some { cls:=.type "set",dict:=none,data:=.set es ep t,slots:=#[] }/\ElemsOf knd es.toList/\Paired (IsK knd) es.toList ks'/\ks'.Perm ks/\es.size<scanBound/\t.fits es.size=true/\t.led=!z0u w/\Rs t.place
def addK (ks:List K) (k:K):List K:=if k∈ks then ks else ks++[k]
variable {knd} {A:Around} {E:Value->y04->Prop} {s:y04}
theorem SetK.at' {h h':Heap} {a:Addr} {ks:List K} (x:SetK knd h a ks) (k:∀o,h.get? a=some o->h'.get? a=some o):SetK knd h' a ks:=by
 obtain⟨es,ep,t,ks',h1,h2⟩:=x
 exact⟨es,ep,t,ks',k _ h1,h2⟩
theorem zh8 {l:List (Int×Value)} {ks:List K} (p:Paired (IsK knd) l ks) (k:K):(∃e∈l,knd.is k e.2=true) <-> k∈ks:=by
 induction p with
 | nil=>simp
 | @cons e k' l ks a b ih =>
  simp only[y09,exists_eq_or_imp,ih]
  have:knd.is k e.2=true <-> k=k':=by
   rw[KeyKind.is_eq_decide a k]
   simp
  rw[this]
theorem zd5 {h:Heap} {a:Addr} {es es':Array (Int×Value)} {ep:Nat} {t t':SetTable} (ho:h.get? a=some { cls:=.type "set",dict:=none,data:=.set es ep t,slots:=#[] }) :
  (h.update a (Obj.putSet es' t')).get? a=some { cls:=.type "set",dict:=none,data:=.set es' (ep+1) t',slots:=#[] }:=by
 have:=Heap.get?_update_self (Obj.putSet es' t') ho (by rw[putSet_of es' t' rfl];rfl)
 rw[putSet_of es' t' rfl] at this
 exact this
theorem zir {a:Addr} {ks:List K} {k:K} {x:Value} {Q:Bool->y04->Prop} (hkey:knd.is k x=true) (hsc:x.scannable=true) (hS:SetK knd s.heap a ks) (hroom:ks.length+1<scanBound)
  (h:∀h' b,Heap.SameBut a s.heap h'->SetK knd h' a (addK ks k)->Q b { s with heap:=h' }):y0u (y37 prog w) A (setAddHashed a x (knd.hash k)) Q E s:=by
 obtain⟨es,ep,t,ks',ho,hel,hpd,hpm,hb,hf,hled,hrs⟩:=id hS
 have hlen:es.size=ks.length:=by rw[<- hpm.length_eq,<- z3o hpd,y1z]
 unfold setAddHashed setAddHashedIn
 refine y2k (y02 (wpAny_setState_of ho rfl hf ?_))
 dsimp only
 rw[byScan_of hsc hb hel]
 simp only[↓reduceIte]
 unfold setAddByScan
 refine y02 ?_
 refine y02 (wpAny_rule ?_)
 refine y02 (wpAny_setScan_of hkey ho rfl hf hel ?_)
 cases hr:List.findIdx? (fun e=>knd.is k e.2) es.toList with
 | some j =>
  dsimp only
  obtain⟨hj,hpj,_⟩:=List.findIdx?_eq_some_iff_getElem.mp hr
  have hk:k∈ks:=hpm.mem_iff.mp ((zh8 hpd k).mp ⟨_,List.getElem_mem hj,hpj⟩)
  refine y06 (y06 ?_)
  refine h s.heap _ (Heap.SameBut.refl a s.heap) ?_
  rw[addK,if_pos hk]
  exact hS
 | none =>
  dsimp only
  have hk:k∉ks:=fun z=>by
   obtain⟨e,he,q⟩:=(zh8 hpd k).mpr (hpm.mem_iff.mpr z)
   have:=List.findIdx?_eq_none_iff.mp hr e he
   rw[q] at this
   cases this
  have e0:addK ks k=ks++[k]:=if_neg hk
  rw[e0] at h
  have hgw:∀(b:Bool) {s₁:y04} {Q':Unit->y04->Prop},Q' () s₁->y0u (y37 prog w) A (match b with|true=>rule "set.scan.the-table-gave-way" | false=>pure ()) Q' E s₁ :=
   fun b s₁ Q' hq=>by cases b <;> first|exact y06 hq|exact wpAny_rule hq
  have l1:=layNew_perm t es (knd.hash k) x
  have l2:=layNew_fits t es (knd.hash k) x
  have l3:=zgx hrs es (knd.hash k) x
  generalize hL:layNew t es (knd.hash k) x=L at l1 l2 l3 ⊢
  obtain⟨es1,t1,wd,gave⟩:=L
  dsimp only at l1 l2 l3 ⊢
  rw[Array.toList_push] at l1
  have hel1:ElemsOf knd es1.toList:=(hel.push hkey hsc).perm l1
  obtain⟨ks1,hp1,hm1⟩:=z6y l1 (z6z hpd (.cons (show IsK knd (knd.hash k,x) k from hkey) .nil))
  have hm2:ks1.Perm (ks++[k]):=hm1.trans (hpm.append_right _)
  have hz1:es1.size<scanBound:=by
   rw[<- y1z,l1.length_eq,y21,y1z,hlen]
   simpa using hroom
  refine y02 (hgw _ ?_)
  have tail:∀(t2:SetTable) (g:Bool->Sem Unit),(∀(b:Bool) (s₁:y04) (Q':Unit->y04->Prop),Q' () s₁->y0u (y37 prog w) A (g b) Q' E s₁)->t2.fits es1.size=true->t2.led=!z0u w->Rs t2.place ->
    y0u (y37 prog w) A (do
     storeSet a es1 t2
     if (!wd && t2.tooFull)=true then do
       g (relayAll t2 es1 (SetTable.grown es1.size)).2.2
       storeSet a (relayAll t2 es1 (SetTable.grown es1.size)).1 (relayAll t2 es1 (SetTable.grown es1.size)).2.1
       pure (some true)
      else pure (some true)) (fun r s'=>y0u (y37 prog w) A (match r with|some added=>pure added|none=>setAddHashedIn a x (knd.hash k) 99999) Q E s') E s:=by
   intro t2 g hg f2 d2 r2
   refine y02 (wpAny_storeSet_of ho rfl ?_ (fits_of_scanBound hz1))
   have ho1:=zd5 (es':=es1) (t':=t2) ho
   have sb1:=Heap.SameBut.update s.heap a (Obj.putSet es1 t2)
   split
   ·have r1:=relayAll_perm t2 es1 (SetTable.grown es1.size)
    have rf:=relayAll_fits t2 es1 (SetTable.grown es1.size)
    have rr:=zbt (t:=t2) es1 (SetTable.grown es1.size)
    generalize relayAll t2 es1 (SetTable.grown es1.size)=Rl at r1 rf rr ⊢
    obtain⟨es2,t3,g2⟩:=Rl
    dsimp only at r1 rf rr ⊢
    obtain⟨ks2,hp2,hm3⟩:=z6y r1 hp1
    have hz2:es2.size<scanBound:=by
     rw[<- y1z,r1.length_eq,y1z]
     exact hz1
    refine y02 (hg _ _ _ ?_)
    refine y02 (wpAny_storeSet_of ho1 rfl ?_ (fits_of_scanBound hz2))
    exact y06 (y06 (h _ _ (sb1.trans (Heap.SameBut.update _ a _)) ⟨es2,_,t3,ks2,zd5 ho1,hel1.perm r1,hp2,hm3.trans hm2,hz2,rf,rr.2.trans d2,rr.1⟩))
   ·exact y06 (y06 (h _ _ sb1 ⟨es1,_,t2,ks1,ho1,hel1,hp1,hm2,hz1,f2,d2,r2⟩))
  split
  ·refine y02 ?_
   rw[hashByValue_scannable 8 hsc]
   refine y06 ?_
   refine tail _ _ ?_ ?_ ?_ ?_
   ·intro b s₁ Q' hq
    cases b <;> first|exact y06 hq|exact wpAny_rule hq
   ·split
    ·exact l2
    ·exact SetTable.fits_plain_off l2
   ·split
    ·exact l3.2.trans hled
    ·exact l3.2.trans hled
   ·split
    ·exact l3.1
    ·exact l3.1
  ·refine y02 (y06 ?_)
   simp only[↓reduceIte]
   refine tail _ _ ?_ l2 (l3.2.trans hled) l3.1
   intro b s₁ Q' hq
   cases b <;> first|exact y06 hq|exact wpAny_rule hq
theorem zkh (ks:List K) (k:K):(addK ks k).length<=ks.length+1:=by
 unfold addK
 split <;> simp
def z0w (ks:List K):List K:=ks.foldl addK []
theorem z2u:∀(ks acc:List K),(ks.foldl addK acc).length<=acc.length+ks.length
 | [],acc=>by simp
 | k::ks,acc=>by
  rw[List.foldl_cons]
  have h1:=z2u ks (addK acc k)
  have h2:=zkh acc k
  simp only[y0w]
  omega
theorem z66 {ks:List K} {i:Nat} {k:K} (e:ks[i]?=some k):z0w (ks.take (i+1))=addK (z0w (ks.take i)) k:=by
 obtain⟨h,rfl⟩:=y0k.mp e
 unfold z0w
 rw[List.take_succ_eq_append_getElem h,List.foldl_append]
 rfl
def IsV (knd:PySem.KeyKind prog w K) (v:Value) (k:K):Prop:=knd.is k v=true/\v.scannable=true
section
variable {R:Result->y04->Prop} {I:Addr} {fp wr:List Addr} {G:Array GenState->Array GenState->Prop} {St:Nat->y04->Prop} {items:Array Value}
theorem za7 (W:WalksS prog w A.in1 I fp wr G items.size (fun i v=>items[i]?=some v) St) (S:Addr) (hSf:S∉fp) {ks:List K} (hv:Paired (IsV knd) items.toList ks) (hb:items.size+1<scanBound) :
  ∀(k i:Nat) (s:y04),items.size - i=k->i<=items.size->St i s->SetK knd s.heap S (z0w (ks.take i)) ->
   (∀s',Moved (S::wr) G s s'->SetK knd s'.heap S (z0w ks)->R (.ok (.ret .none)) s') ->
   y31 (y37 prog w) A (.builtin "set.update.loop" ⟨[.ref S,.ref I],[]⟩) R s:=by
 have hSw:S∉wr:=fun h=>hSf (W.sub _ h)
 have hsub:∀b∈wr,b∈S::wr:=fun b hb=>y05 _ hb
 have hlen:items.size=ks.length:=by rw[<- z3o hv,y1z]
 intro k
 induction k with
 | zero =>
  intro i s hk hi hst hS hR
  have hin:i=items.size:=by omega
  subst hin
  refine y2t F.entry_set_update_loop ?_
  rw[y1w F.plain_set_update_loop _]
  show y0u _ A.in1 (pyNext (.ref I) >>= _) _ _ s
  refine y02 (W.done s _ _ hst fun s' hm=>?_)
  show y0u _ A.in1 (ret Value.none) _ _ s'
  rw[List.take_of_length_le (by omega)] at hS
  exact y06 (hR s' (hm.mono hsub) (hS.at' fun o e=>hm.heap S _ hSw e))
 | succ k ih =>
  intro i s hk hi hst hS hR
  have hlt:i<items.size:=by omega
  refine y2t F.entry_set_update_loop ?_
  rw[y1w F.plain_set_update_loop _]
  show y0u _ A.in1 (pyNext (.ref I) >>= _) _ _ s
  refine y02 (W.item i s _ _ hlt hst fun v s' hP hst' hm=>?_)
  obtain⟨key,hke,hki,hks⟩:=zd8 hv (by rw[Array.getElem?_toList];exact hP)
  have hS1:SetK knd s'.heap S (z0w (ks.take i)):=hS.at' fun o e=>hm.heap S _ hSw e
  show y0u _ A.in1 (holding [v] (setAdd S v) >>= _) _ _ s'
  refine y02 (y2k ?_)
  unfold setAdd
  refine y2k ?_
  refine y02 (knd.pyHash (k:=key) hki ?_)
  have hroom:(z0w (ks.take i)).length+1<scanBound:=by
   have h1:=z2u (ks.take i) []
   rw[List.length_take] at h1
   unfold z0w
   simp only[y2d] at h1
   omega
  refine zir (s:={ s' with toks:=s'.toks+1 }) hki hks hS1 hroom fun h' b hsb hS2=>?_
  rw[<- z66 hke] at hS2
  refine y06 ⟨y32 F.plain_set_update_loop _,ih (i+1) _ (by omega) hlt (W.frame _ s' _ _ hst' (y2e _) fun b hb o e=>?_) hS2 fun s'' hm'' hS''=>?_⟩
  ·rw[hsb.2 b (fun h:b=S=>hSf (by rw[<- h];exact hb))]
   exact e
  ·refine hR s'' (Moved.trans W.gtrans ((hm.mono hsub).then_heap (y2e _) fun b o hb e=>?_) hm'') hS''
   rw[hsb.2 b (fun h:b=S=>hb (by rw[h];exact y0e))]
   exact e
end
theorem z4t (a:Value) {Q₁:Value->y04->Prop}
  (h:Q₁ (.ref s.heap.objs.size) { s with heap:=s.heap.push { cls:=.type "set",dict:=none,data:=.set #[] 0 (.fresh 0 0 (!z0u w)) } }) :
  y31 (y37 prog w) A (.call (.builtin "set.__new__") ⟨[.type "set",a],[]⟩) (wants Q₁ E) s:=by
 refine codeAny_of_tree ?_
 show y0u _ A.in1 (do checkBuiltinCall "set.__new__" ⟨[.type "set",a],[]⟩;again (.builtin "set.__new__" ⟨[.type "set",a],[]⟩)) _ _ s
 refine y02 (wpAny_of_eq (PySem.F.newCall_set_1 a) (y06 ⟨y32 PySem.F.plain_set_new _,y2t PySem.F.entry_set_new ?_⟩))
 rw[y1w PySem.F.plain_set_new _]
 unfold Builtin.«set.__new__» Builtin.Frozenset.newClass
 have hsub:=sub_set_self
 obtain⟨hp,g,d,tk,os⟩:=s
 dsimp only
 wp_walk
 refine wpAny_askSetting (y06 ?_)
 dsimp only
 simp only[newObj]
 refine y02 (wpAny_alloc (y06 ?_))
 exact y06 h
theorem zhi {h:Heap}:SetK knd (h.push { cls:=.type "set",dict:=none,data:=.set #[] 0 (.fresh 0 0 (!z0u w)) }) h.objs.size [] :=
 ⟨#[],0,_,[],y0l _ rfl,fun e he=>by simp at he,.nil,.rfl,by decide,by rfl,rfl,List.Pairwise.nil⟩
set_option maxHeartbeats 3200000 in
theorem zf3 {l:Addr} {items:Array Value} {ks:List K} {Q:Value->y04->Prop}
  (hh:A.handled=none) (hl:s.heap.IsList l items) (hi:Paired (IsV knd) items.toList ks) (hb:items.size+1<scanBound)
  (h:∀(h':Heap) (tk:Nat),SetK knd h' s.heap.objs.size (z0w ks)->(∀b o,b<s.heap.objs.size->s.heap.get? b=some o->h'.get? b=some o)->Q (.ref s.heap.objs.size) { s with heap:=h',toks:=tk }) :
  y0u (y37 prog w) A (call (.type "set") [.ref l]) Q E s:=by
 obtain⟨c,tl,hmro⟩:=PySem.F.called_set.mro
 have hmade:=PySem.F.called_set.made
 have hsub:=PySem.F.called_set.sub
 refine wpAny_call (codeAny_of_tree ?_)
 show y0u _ _ (callAny (.type "set") _) _ _ _
 refine y06 ⟨Code.quiet_builtin _ (by decide +kernel),y2t PySem.F.entry_type_call ?_⟩
 rw[Around.under_plain (weight_type_call_type "set" [.ref l] []) rfl]
 have h1:=PySem.F.called_set.notType
 have h2:=PySem.F.called_set.canCreate
 have hct:=PySem.F.typeCall_set_1 (.ref l)
 repeat (any_goals (first|assumption|wp_step))
 refine y2v (z4t (.ref l) (E:=E) (Q₁:=fun obj s₁=>obj=.ref s.heap.objs.size/\s₁={ s with heap:=s.heap.push { cls:=.type "set",dict:=none,data:=.set #[] 0 (.fresh 0 0 (!z0u w)) } }) ⟨rfl,rfl⟩) fun r s₁ hr=>?_
 cases r with
 | error e=>exact hr
 | ok fl =>
  cases fl with
  | ret obj =>
   obtain⟨rfl,rfl⟩:=hr
   have hS:(s.heap.push { cls:=.type "set",dict:=none,data:=.set #[] 0 (.fresh 0 0 (!z0u w)) }).get? s.heap.objs.size=some { cls:=.type "set",dict:=none,data:=.set #[] 0 (.fresh 0 0 (!z0u w)) }:=y0l _ rfl
   have hT:Shared.TypeIs { s with heap:=s.heap.push { cls:=.type "set",dict:=none,data:=.set #[] 0 (.fresh 0 0 (!z0u w)) } } (.ref s.heap.objs.size) "set":=⟨_,hS,rfl⟩
   have hli:=PySem.F.called_set.init.lookup
   have hbi:=PySem.F.called_set.init.bind (.ref s.heap.objs.size)
   repeat (any_goals (first|assumption|wp_step))
   refine y2v (codeAny_call_builtin (R:=wants (fun r s₂=>r=.none/\∃h' tk,s₂={ s with heap:=h',toks:=tk }/\SetK knd h' s.heap.objs.size (z0w ks) /\
     (∀b o,b<s.heap.objs.size->s.heap.get? b=some o->h'.get? b=some o)) E) PySem.F.called_set.init.plain PySem.F.entry_set_init (check_set_init_1 hT ?_)) fun r₂ s₂ hr₂=>?_
   ·obtain⟨ol,hol,hcl,nl,hdl⟩:=hl
    obtain⟨ocls,odict,odata,oslots⟩:=ol
    simp only at hcl hdl
    subst hcl
    subst hdl
    have hol':(s.heap.push { cls:=.type "set",dict:=none,data:=.set #[] 0 (.fresh 0 0 (!z0u w)) }).get? l=some { cls:=.type "list",dict:=odict,data:=.seq items nl,slots:=oslots }:=y03 _ hol
    have hsls:=PySem.F.sub_list_set
    have hslf:=PySem.F.sub_list_frozenset
    have hne:(Value.type "list" == Value.type "dict")=false:=by decide
    have hl1:(s.heap.push { cls:=.type "set",dict:=none,data:=.set #[] 0 (.fresh 0 0 (!z0u w)) }).IsList l items:=⟨_,hol',rfl,nl,rfl⟩
    unfold Builtin.«set.__init__» noKeywords Builtin.Frozenset.updateFrom
    generalize hPI:pyIter=PI
    wp_walk
    subst hPI
    refine wpAny_pyIter_list hl1 ?_
    refine y02 (wpAny_runValue ?_)
    have hlS:l<s.heap.objs.size:=y0c hol
    have hh3:A.in1.in1.in1.handled=none:=by simp[hh]
    have hneI:l≠(s.heap.push { cls:=.type "set",dict:=none,data:=.set #[] 0 (.fresh 0 0 (!z0u w)) }).objs.size:=by
     rw[y17]
     exact y0y (Nat.lt_succ_of_lt hlS)
    have hSf:s.heap.objs.size∉[(s.heap.push { cls:=.type "set",dict:=none,data:=.set #[] 0 (.fresh 0 0 (!z0u w)) }).objs.size,l]:=by
     rw[y17]
     simp only[y09,y0z,y28,or_false,not_or]
     exact⟨y0y (Nat.lt_succ_self _),y15 hlS⟩
    refine za7 (knd:=knd) ((Walks.list hh3 _ l hneI items).toS) s.heap.objs.size hSf hi hb (items.size - 0) 0 _ (by omega) (y23 _)
     ⟨⟨_,y0l _ rfl,rfl,rfl⟩,(hl1.push _)⟩ ?hS0 ?hR
    case hS0 =>
     refine SetK.at' (zhi (knd:=knd) (h:=s.heap)) fun o e=>y03 _ e
    case hR =>
     intro s' hm hS'
     obtain⟨h',g',d',tk',os'⟩:=s'
     have eg:g'=s.gens:=hm.gens
     have ed:d'=s.drawn:=hm.drawn
     have eo:os'=s.os:=hm.os
     subst eg
     subst ed
     subst eo
     show y0u _ _ _ _ _ _
     refine y06 ?_
     show y0u _ _ (ret Value.none) _ _ _
     refine y06 ⟨rfl,h',tk',rfl,hS',fun b o hb e=>?_⟩
     have hb1:b≠s.heap.objs.size:=y0y hb
     have hb2:b≠(s.heap.push { cls:=.type "set",dict:=none,data:=.set #[] 0 (.fresh 0 0 (!z0u w)) }).objs.size:=by
      rw[y17]
      exact y0y (Nat.lt_succ_of_lt hb)
     exact hm.heap b o (by simp only[y09,y0z,y28,or_false,not_or];exact⟨hb1,hb2⟩) (y03 _ (y03 _ e))
   ·cases r₂ with
    | error e=>exact hr₂
    | ok fl₂ =>
     cases fl₂ with
     | ret r =>
      obtain⟨rfl,h',tk,rfl,hS',hk'⟩:=hr₂
      repeat (any_goals (first|assumption|wp_step))
      exact h _ _ hS' hk'
     | _=>exact hr₂.elim
  | _=>exact hr.elim
end
end
section
variable [Tbl]
theorem z0h:Slot "set_iterator" "__next__" "set_iterator.__next__" :=
 .of (owner:="set_iterator") (n:="__next__") (by rw[typeLookup_type,builtinLookup_eq_fast];kernel_rfl) (by decide +kernel) (by decide +kernel) (by decide +kernel)
  (by first|exact .inl (by decide +kernel)|exact .inr (by decide +kernel)) (by rw[isSubtype_type];kernel_rfl)
theorem z3j:Slot "set_iterator" "__iter__" "set_iterator.__iter__" :=
 .of (owner:="set_iterator") (n:="__iter__") (by rw[typeLookup_type,builtinLookup_eq_fast];kernel_rfl) (by decide +kernel) (by decide +kernel) (by decide +kernel)
  (by first|exact .inl (by decide +kernel)|exact .inr (by decide +kernel)) (by rw[isSubtype_type];kernel_rfl)
theorem z26:entryFor table "set_iterator.__next__"=some Builtin.«set_iterator.__next__»:=entryFor_of_tree (by kernel_rfl)
theorem z70:Manifest.owners.lookup (String.ofList ['r','o','t','a','r','e','t','i','_','t','e','s'].reverse)=some Manifest.sig_set_iterator:=by kernel_rfl
theorem z2l (a:Value):argsOk "set_iterator.__next__" ⟨[a],[]⟩:=by
 unfold argsOk
 rw[signature?_of (id:="set_iterator.__next__") (n:=['_','_','t','x','e','n','_','_']) (o:=['r','o','t','a','r','e','t','i','_','t','e','s']) (by kernel_rfl) z70]
 kernel_rfl
theorem z4j:entryFor table "set.__iter__"=some Builtin.«frozenset.__iter__» :=
 entryFor_alias (id':="frozenset.__iter__") (by kernel_rfl) (by decide +kernel) (by decide +kernel) (by kernel_rfl)
theorem z39 {α:Type}:∀{l:List α} {i:Nat} {x:α},l[i]?=some x->(x::l.eraseIdx i).Perm l
 | [],i,x,e=>by simp at e
 | a::r,0,x,e=>by
  simp at e
  subst e
  exact .rfl
 | a::r,i+1,x,e=>by
  simp only[y2b] at e
  rw[List.eraseIdx_cons_succ]
  exact (List.Perm.swap _ _ _).trans ((z39 e).cons _)
theorem zge {α:Type} (f:Nat->Nat):∀(n k:Nat) (l:List α) (out:Array α),l.length=n->(pickOrder.go f n k l out).toList.Perm (out.toList++l)
 | 0,k,l,out,e=>by
  rw[List.length_eq_zero_iff.mp e,List.append_nil]
  exact .rfl
 | n+1,k,l,out,e=>by
  unfold pickOrder.go
  have hlt:f k % l.length<l.length:=Nat.mod_lt _ (by omega)
  rw[y0v hlt]
  dsimp only
  have hp:=z39 (y0v hlt)
  refine (zge f n (k+1) _ _ ?_).trans ?_
  ·rw[List.length_eraseIdx]
   rw[if_pos hlt,e]
   rfl
  ·rw[Array.toList_push,List.append_assoc]
   exact hp.append_left _
theorem z3n {α:Type} (f:Nat->Nat) (xs:Array α):(pickOrder f xs).toList.Perm xs.toList:=by
 have:=zge f xs.size 0 xs.toList #[] (by simp)
 rw[show (#[]:Array α).toList++xs.toList=xs.toList from rfl] at this
 exact this
section
variable {prog:y0q} {w:World} {A:Around} {E:Value->y04->Prop} {s:y04}
theorem zec {src:Source} {n:Nat} {Q:Nat->y04->Prop} (hn:n≠0) (h:∀i,i<n->Q i { s with drawn:=s.drawn.bump src }):y0u (y37 prog w) A (choose src n) Q E s:=fun Γ p hΓ=>by
 unfold choose
 rw[Sem.wp_choose]
 exact⟨hn,h _ (Nat.mod_lt _ (Nat.pos_of_ne_zero hn))⟩
theorem z3i {α:Type}:∀(n:Nat) (xs:List α) (s:y04) (Q:List α->y04->Prop),xs.length=n->(∀ys d,ys.Perm xs->Q ys { s with drawn:=d })->y0u (y37 prog w) A (drawOrder n xs) Q E s
 | 0,xs,s,Q,e,h=>by
  rw[List.length_eq_zero_iff.mp e] at h ⊢
  exact y06 (h [] s.drawn .rfl)
 | n+1,[],s,Q,e,h=>by simp at e
 | n+1,x::xs,s,Q,e,h=>by
  unfold drawOrder
  refine y02 (zec (by simp) fun i hi=>?_)
  rw[y0v hi]
  dsimp only
  have hp:=z39 (y0v hi)
  refine y02 (z3i n _ _ _ ?_ fun ys d p=>?_)
  ·rw[List.length_eraseIdx]
   simp only[hi,if_true]
   simp at e ⊢
   omega
  ·exact y06 (h _ d ((p.cons _).trans hp))
end
theorem z8u {xs:Array Nat} (h:Rs xs) {i:Nat} (hi:i<=xs.size) (sl:Nat) (h0:i=0->sl=0) (h1:∀k,i=k+1->∃y,xs.toList[k]?=some y/\sl=y+1):SetTable.below xs sl=i:=by
 obtain⟨a,b,c⟩:=z48 sl h
 generalize SetTable.below xs sl=p at *
 rcases Nat.lt_trichotomy p i with q|q|q
 ·obtain⟨k,rfl⟩:∃k,i=k+1:=⟨i - 1,by omega⟩
  obtain⟨y,e1,e2⟩:=h1 k rfl
  have:=c k (by omega) y e1
  omega
 ·exact q
 ·have hlt:i<xs.toList.length:=by simp;omega
  have hx:xs.toList[i]?=some xs.toList[i]:=y0v hlt
  have h2:=b i q _ hx
  rcases Nat.eq_zero_or_pos i with z|z
  ·have:=h0 z
   omega
  ·obtain⟨k,rfl⟩:∃k,i=k+1:=⟨i - 1,by omega⟩
   obtain⟨y,e1,e2⟩:=h1 k rfl
   have:=List.pairwise_iff_getElem.mp h k (k+1) (y0k.mp e1).1 hlt (by omega)
   obtain⟨_,rfl⟩:=y0k.mp e1
   omega
section
variable {prog:y0q} {w:World} {A:Around} {E:Value->y04->Prop} {s:y04}
def z2m (h:Heap) (a:Addr) (es:Array (Int×Value)) (ep:Nat) (t:SetTable):Prop:=h.get? a=some { cls:=.type "set",dict:=none,data:=.set es ep t,slots:=#[] }
def z3d (h:Heap) (I:Addr) (fs:Array Value):Prop:=h.get? I=some { cls:=.type "set_iterator",dict:=none,data:=.fields fs,slots:=#[] }
theorem z3d.typeIs {I:Addr} {fs:Array Value} (h:z3d s.heap I fs):s.TypeIs (.ref I) "set_iterator":=⟨_,h,rfl⟩
variable {a I:Addr} {es:Array (Int×Value)} {ep:Nat} {t:SetTable}
theorem z6q {sl i:Nat} {Q:Option (Value×Nat)->y04->Prop} (hS:z2m s.heap a es ep t) (hf:t.fits es.size=true) (hb:z0u w=true)
  (h:Q (((pickOrder (w.params.setOrder a ep) es)[i]?).map fun e=>(e.2,sl)) s):y0u (y37 prog w) A (setNext a sl i ep) Q E s:=by
 unfold setNext setWalk setsByText
 refine y02 (wpAny_setState_of hS rfl hf ?_)
 dsimp only
 refine y02 (y02 (wpAny_askSetting (y06 ?_)))
 rw[show (y37 prog w).w.params.followText "set-order"=true from hb]
 simp only[if_true]
 rw[if_neg (by simp)]
 refine y02 (y02 (wpAny_setState_of hS rfl hf ?_))
 dsimp only
 refine y02 (y02 (wpAny_askSetting (y06 ?_)))
 rw[show (y37 prog w).w.params.followText "set-order"=true from hb]
 simp only[if_true]
 refine y02 (wpAny_askSetting (y06 (y06 ?_)))
 exact h
theorem z6r {sl i:Nat} {Q:Option (Value×Nat)->y04->Prop} (hS:z2m s.heap a es ep t) (hf:t.fits es.size=true) (hb:z0u w=false) (hl:t.led=true) (hd:(!t.plain && decide (es.size > 1))=false)
  (h:Q (match es[SetTable.below t.place sl]?,t.place[SetTable.below t.place sl]? with|some (_,x),some j=>some (x,j+1)|_,_=>none) s):y0u (y37 prog w) A (setNext a sl i ep) Q E s:=by
 unfold setNext setsByText
 refine y02 (wpAny_setState_of hS rfl hf ?_)
 dsimp only
 refine y02 (y02 (wpAny_askSetting (y06 ?_)))
 rw[show (y37 prog w).w.params.followText "set-order"=false from hb]
 simp only[y1u,if_false]
 show y0u _ _ (if (!t.plain && decide (es.size > 1))=true then _ else _) _ _ _
 rw[hd]
 simp only[y1u,if_false]
 show y0u _ _ ((if (!t.led && !es.isEmpty)=true then unsupported "set:maker-not-led" else pure ()) >>= _) _ _ _
 rw[hl]
 simp only[Bool.not_true,Bool.false_and,y1u,if_false]
 exact y02 (y06 (y06 h))
theorem z6w {sl i:Nat} {Q:Option Value->y04->Prop} (hit:z3d s.heap I #[.int sl 0,.int i 0,.ref a,.int es.size 0,.int ep 0]) (hS:z2m s.heap a es ep t) (hf:t.fits es.size=true) {x:Value} {nx:Nat}
  (hn:∀(A:Around) (E:Value->y04->Prop) (Q:Option (Value×Nat)->y04->Prop),Q (some (x,nx)) s->y0u (y37 prog w) A (setNext a sl i ep) Q E s)
  (hQ:∀h',z3d h' I #[.int nx 0,.int ((i+1:Nat):Int) 0,.ref a,.int es.size 0,.int ep 0]->Heap.SameBut I s.heap h'->Q (some x) { s with heap:=h' }):y0u (y37 prog w) A (pyNext (.ref I)) Q E s:=by
 unfold pyNext
 refine y02 (wpAny_attempt (y2n (name:=Str.ofString "__next__") hit.typeIs z0h (y2w z0h hit.typeIs z26 ?_ (z2l _))))
 unfold Builtin.«set_iterator.__next__»
 refine y02 (y06 ?_)
 refine y02 (wpAny_fieldsOf hit rfl ?_)
 dsimp only
 refine y02 (wpAny_setEntries_of hS rfl hf ?_)
 rw[if_neg (by simp)]
 simp only[Int.toNat_natCast]
 refine y02 (hn _ _ _ ?_)
 dsimp only
 refine y02 (y2x hit (by simp) fun h1 e1 b1=>?_)
 refine y02 (y2x e1 (by simp) fun h2 e2 b2=>?_)
 refine y06 ⟨_,rfl,y06 (hQ h2 ?_ (b1.trans b2))⟩
 exact e2
theorem zek {Q:Option Value->y04->Prop} {s:y04} (hh:A.handled=none) (hQ:∀h',(∀b o,s.heap.get? b=some o->h'.get? b=some o)->Q none { s with heap:=h' }) {B:Type} {Q':B->y04->Prop} :
  y0u (y37 prog w) A.in1 (newExc (.type "StopIteration") [] >>= fun e=>raiseNew e) Q' (fun e s'=>y0u (y37 prog w) A (isInstance e (.type "StopIteration") >>= fun b=>if b=true then pure none else throw e) Q E s') s:=by
 refine y02 ?_
 simp only[newExc,newTuple]
 refine y02 (y2u ?_ (by size_fits))
 refine y02 (m:=firstArgMember _ _) (wpAny_of_eq (a:=Value.none) (by first|rfl|(simp only[firstArgMember];rfl)) ?_)
 refine y2u ?_ (by size_fits)
 simp only[raiseNew]
 refine y02 (wpAny_handled ?_)
 rw[show A.in1.handled=none from hh]
 refine y02 (y06 (wpAny_throw ?_))
 refine y02 (wpAny_isInstance (T:="StopIteration") (b:=true) ⟨_,y0l _ rfl,rfl⟩ isSubtype_stop ?_)
 exact y06 (hQ _ fun b o e=>y03 _ (y03 _ e))
theorem zan {Q:Option Value->y04->Prop} (hh:A.handled=none) (hT:s.TypeIs (.ref I) "set_iterator")
  (hm:∀{Q':Fin->y04->Prop} {E':Value->y04->Prop},(∀h',Heap.SameBut I s.heap h'->y0u (y37 prog w) A.in1 (newExc (.type "StopIteration") [] >>= fun e=>raiseNew e) Q' E' { s with heap:=h' })->y0u (y37 prog w) A.in1 (Builtin.«set_iterator.__next__» ⟨[.ref I],[]⟩) Q' E' s)
  (hQ:∀h',Heap.ExtBut I s.heap h'->Q none { s with heap:=h' }):y0u (y37 prog w) A (pyNext (.ref I)) Q E s:=by
 unfold pyNext
 refine y02 (wpAny_attempt (y2n (name:=Str.ofString "__next__") hT z0h (y2w z0h hT z26 ?_ (z2l _))))
 refine hm fun h' hb=>?_
 exact zek (s:={ s with heap:=h' }) hh fun h2 k2=>hQ h2 fun b o hb' e=>k2 b o (hb.extBut b o hb' e)
end
end
section
variable [Tbl]
theorem z65:entryFor table "set_iterator.__iter__"=some Builtin.«dict_keyiterator.__iter__» :=
 entryFor_alias (id':="dict_keyiterator.__iter__") (by kernel_rfl) (by decide +kernel) (by decide +kernel) (by kernel_rfl)
theorem z7x (a:Value):argsOk "set_iterator.__iter__" ⟨[a],[]⟩:=by
 unfold argsOk
 rw[signature?_of (id:="set_iterator.__iter__") (n:=['_','_','r','e','t','i','_','_']) (o:=['r','o','t','a','r','e','t','i','_','t','e','s']) (by kernel_rfl) z70]
 kernel_rfl
section
variable {prog:y0q} {w:World} {A:Around} {E:Value->y04->Prop} {s:y04}
variable {a I:Addr} {es:Array (Int×Value)} {ep:Nat} {t:SetTable}
theorem z3m {Q:Value->y04->Prop} (hT:s.TypeIs (.ref I) "set_iterator") (h:Q (.ref I) s):y0u (y37 prog w) A (pyIter (.ref I)) Q E s:=by
 refine wpAny_pyIter_slot hT z3j (y2w z3j hT z65 ?_ (z7x _))
 show y0u _ _ (ret (.ref I)) _ _ s
 exact y06 ⟨_,rfl,"set_iterator",_,hT,z0h.lookup,h⟩
theorem zdx {sl i:Nat} {Q:Option Value->y04->Prop} (hh:A.handled=none) (hit:z3d s.heap I #[.int sl 0,.int i 0,.ref a,.int es.size 0,.int ep 0]) (hS:z2m s.heap a es ep t) (hf:t.fits es.size=true)
  (hn:∀(A:Around) (E:Value->y04->Prop) (Q:Option (Value×Nat)->y04->Prop),Q none s->y0u (y37 prog w) A (setNext a sl i ep) Q E s)
  (hQ:∀h',Heap.ExtBut I s.heap h'->Q none { s with heap:=h' }):y0u (y37 prog w) A (pyNext (.ref I)) Q E s:=by
 refine zan hh hit.typeIs (fun {Q' E'} hk=>?_) hQ
 unfold Builtin.«set_iterator.__next__»
 refine y02 (y06 ?_)
 refine y02 (wpAny_fieldsOf hit rfl ?_)
 dsimp only
 refine y02 (wpAny_setEntries_of hS rfl hf ?_)
 rw[if_neg (by simp)]
 simp only[Int.toNat_natCast]
 refine y02 (hn _ _ _ ?_)
 dsimp only
 refine y02 (y2x hit (by simp) fun h1 e1 b1=>?_)
 exact hk h1 b1
def Places (h:Heap) (tp:Addr) (ps:List Nat):Prop:=h.get? tp=some { cls:=.type "tuple",dict:=none,data:=.seq (ps.map fun (i:Nat)=>y39 i).toArray,slots:=#[] }
theorem zer {tp:Addr} {i:Nat} {ps:List Nat} {p:Nat} {x:Int×Value} {Q:Option Value->y04->Prop} (hit:z3d s.heap I #[.ref tp,.int i 0,.ref a,.int es.size 0,.int ep 0]) (hS:z2m s.heap a es ep t) (hf:t.fits es.size=true)
  (hp:Places s.heap tp ps) (h1:ps[i]?=some p) (h2:es[p]?=some x)
  (hQ:∀h',z3d h' I #[.ref tp,.int ((i+1:Nat):Int) 0,.ref a,.int es.size 0,.int ep 0]->Heap.SameBut I s.heap h'->Q (some x.2) { s with heap:=h' }):y0u (y37 prog w) A (pyNext (.ref I)) Q E s:=by
 unfold pyNext
 refine y02 (wpAny_attempt (y2n (name:=Str.ofString "__next__") hit.typeIs z0h (y2w z0h hit.typeIs z26 ?_ (z2l _))))
 unfold Builtin.«set_iterator.__next__»
 refine y02 (y06 ?_)
 refine y02 (wpAny_fieldsOf hit rfl ?_)
 dsimp only
 refine y02 (wpAny_setEntries_of hS rfl hf ?_)
 rw[if_neg (by simp)]
 unfold seqItems?
 refine y02 (y02 (wpAny_load hp (y06 ?_)))
 dsimp only
 have hg:((ps.map fun (i:Nat)=>y39 i).toArray)[i]?=some (.int p 0):=by
  simp[h1,y39]
 simp only[Int.toNat_natCast]
 rw[hg]
 dsimp only
 unfold setNextDrawn
 refine y02 (y02 (wpAny_setState_of hS rfl hf ?_))
 dsimp only
 simp only[Int.toNat_natCast,bne_self_eq_false,y1u,if_false,h2]
 refine y06 ?_
 refine y02 (y2x hit (by simp) fun h1 e1 b1=>?_)
 exact y06 ⟨_,rfl,y06 (hQ h1 e1 b1)⟩
theorem zho {tp:Addr} {i:Nat} {ps:List Nat} {Q:Option Value->y04->Prop} (hh:A.handled=none) (hit:z3d s.heap I #[.ref tp,.int i 0,.ref a,.int es.size 0,.int ep 0]) (hS:z2m s.heap a es ep t) (hf:t.fits es.size=true)
  (hp:Places s.heap tp ps) (h1:ps[i]?=none)
  (hQ:∀h',Heap.ExtBut I s.heap h'->Q none { s with heap:=h' }):y0u (y37 prog w) A (pyNext (.ref I)) Q E s:=by
 refine zan hh hit.typeIs (fun {Q' E'} hk=>?_) hQ
 unfold Builtin.«set_iterator.__next__»
 refine y02 (y06 ?_)
 refine y02 (wpAny_fieldsOf hit rfl ?_)
 dsimp only
 refine y02 (wpAny_setEntries_of hS rfl hf ?_)
 rw[if_neg (by simp)]
 unfold seqItems?
 refine y02 (y02 (wpAny_load hp (y06 ?_)))
 dsimp only
 have hg:((ps.map fun (i:Nat)=>y39 i).toArray)[i]?=none:=by
  have:=List.getElem?_eq_none_iff.mp h1
  simp[h1]
 simp only[Int.toNat_natCast]
 rw[hg]
 dsimp only
 refine y02 (y2x hit (by simp) fun h1 e1 b1=>?_)
 refine y02 (y2x e1 (by simp) fun h2 e2 b2=>?_)
 exact hk h2 (b1.trans b2)
def ltx (f:Nat->Nat) (es:Array (Int×Value)):List Value:=(pickOrder f es).toList.map (·.2)
theorem zcq (hh:A.handled=none) (hne:a≠I) (hf:t.fits es.size=true) (hb:z0u w=true) :
  Walks prog w A I [I,a] [I] es.size (fun i v=>(ltx (w.params.setOrder a ep) es)[i]?=some v) (fun i h=>(∃sl:Nat,z3d h I #[.int sl 0,.int i 0,.ref a,.int es.size 0,.int ep 0])/\z2m h a es ep t):=by
 have hsz:(pickOrder (w.params.setOrder a ep) es).size=es.size:=by
  rw[<- y1z,(z3n _ es).length_eq,y1z]
 refine⟨fun b hb=>by simp at hb;simp[hb],?_,?_,?_,?_⟩
 ·rintro i h h' ⟨⟨sl,x⟩,y⟩ hk
  exact⟨⟨sl,hk I (by simp) _ x⟩,hk a (by simp) _ y⟩
 ·rintro i s Q E hi ⟨⟨sl,x⟩,y⟩ hQ
  have hi':i<(pickOrder (w.params.setOrder a ep) es).size:=by rw[hsz];exact hi
  refine z6w (x:=((pickOrder (w.params.setOrder a ep) es)[i]).2) (nx:=sl) x y hf (fun A' E' Q' q=>z6q y hf hb (by rw[y1o hi'];exact q)) fun h' x' b'=>?_
  refine hQ _ h' s.toks ?_ ⟨⟨sl,x'⟩,b'.extBut a _ hne y⟩ fun b o hb e=>b'.extBut b o (fun h=>hb (by simp[h])) e
  unfold ltx
  rw[y14,Array.getElem?_toList,y1o hi']
  rfl
 ·rintro s Q E ⟨⟨sl,x⟩,y⟩ hQ
  refine zdx hh x y hf (fun A' E' Q' q=>z6q y hf hb (by rw[Array.getElem?_eq_none (by rw[hsz];exact y0o _)];exact q)) fun h' he'=>hQ h' s.toks fun b o hb e=>he' b o (fun h=>hb (by simp[h])) e
 ·rintro i s Q E ⟨⟨sl,x⟩,y⟩ hQ
  exact z3m x.typeIs hQ
def zib (xs:Array Nat) (i sl:Nat):Prop:=(i=0->sl=0)/\∀k,i=k+1->∃y,xs.toList[k]?=some y/\sl=y+1
theorem zcr (hh:A.handled=none) (hne:a≠I) (hf:t.fits es.size=true) (hb:z0u w=false) (hl:t.led=true) (hr:Rs t.place) (hd:(!t.plain && decide (es.size > 1))=false) :
  Walks prog w A I [I,a] [I] es.size (fun i v=>(es.toList.map (·.2))[i]?=some v) (fun i h=>(∃sl:Nat,zib t.place i sl/\z3d h I #[.int sl 0,.int i 0,.ref a,.int es.size 0,.int ep 0])/\z2m h a es ep t):=by
 have hsz:t.place.size=es.size:=by
  simp only[SetTable.fits,y1b,beq_iff_eq] at hf
  exact hf.1
 refine⟨fun b hb=>by simp at hb;simp[hb],?_,?_,?_,?_⟩
 ·rintro i h h' ⟨⟨sl,o,x⟩,y⟩ hk
  exact⟨⟨sl,o,hk I (by simp) _ x⟩,hk a (by simp) _ y⟩
 ·rintro i s Q E hi ⟨⟨sl,o,x⟩,y⟩ hQ
  have hbel:=z8u hr (i:=i) (by omega) sl o.1 o.2
  have hi2:i<t.place.size:=by omega
  refine z6w (x:=(es[i]).2) (nx:=t.place[i]+1) x y hf (fun A' E' Q' q=>z6r y hf hb hl hd (by rw[hbel,y1o hi,y1o hi2];exact q)) fun h' x' b'=>?_
  refine hQ _ h' s.toks (by simp[hi]) ⟨⟨_,⟨fun z=>by omega,fun k z=>?_⟩,x'⟩,b'.extBut a _ hne y⟩ fun b o hb e=>b'.extBut b o (fun h=>hb (by simp[h])) e
  have:k=i:=by omega
  subst this
  exact⟨t.place[k],by rw[Array.getElem?_toList,y1o hi2],rfl⟩
 ·rintro s Q E ⟨⟨sl,o,x⟩,y⟩ hQ
  have hbel:=z8u hr (i:=es.size) (by omega) sl o.1 o.2
  refine zdx hh x y hf (fun A' E' Q' q=>z6r y hf hb hl hd (by rw[hbel,Array.getElem?_eq_none (y0o _)];exact q)) fun h' he'=>hQ h' s.toks fun b o hb e=>he' b o (fun h=>hb (by simp[h])) e
 ·rintro i s Q E ⟨⟨sl,o,x⟩,y⟩ hQ
  exact z3m x.typeIs hQ
theorem z88 {tp:Addr} {ps:List Nat} (hh:A.handled=none) (hne:a≠I) (hne2:tp≠I) (hf:t.fits es.size=true) (hps:ps.Perm (List.range es.size)) :
  Walks prog w A I [I,a,tp] [I] es.size (fun i v=>(ps.map fun p=>(es.getD p (0,.none)).2)[i]?=some v) (fun i h=>z3d h I #[.ref tp,.int i 0,.ref a,.int es.size 0,.int ep 0]/\z2m h a es ep t/\Places h tp ps):=by
 have hln:ps.length=es.size:=by rw[hps.length_eq,List.length_range]
 refine⟨fun b hb=>by simp at hb;simp[hb],?_,?_,?_,?_⟩
 ·rintro i h h' ⟨x,y,z⟩ hk
  exact⟨hk I (by simp) _ x,hk a (by simp) _ y,hk tp (by simp) _ z⟩
 ·rintro i s Q E hi ⟨x,y,z⟩ hQ
  have hi2:i<ps.length:=by omega
  have hlt:ps[i]<es.size:=List.mem_range.mp (hps.mem_iff.mp (List.getElem_mem hi2))
  refine zer x y hf z (y0v hi2) (y1o hlt) fun h' x' b'=>?_
  refine hQ _ h' s.toks ?_ ⟨x',b'.extBut a _ hne y,b'.extBut tp _ hne2 z⟩ fun b o hb e=>b'.extBut b o (fun h=>hb (by simp[h])) e
  rw[y14,y0v hi2]
  simp[Array.getD,hlt]
 ·rintro s Q E ⟨x,y,z⟩ hQ
  exact zho hh x y hf z (List.getElem?_eq_none (by omega)) fun h' he'=>hQ h' s.toks fun b o hb e=>he' b o (fun h=>hb (by simp[h])) e
 ·rintro i s Q E ⟨x,y,z⟩ hQ
  exact z3m x.typeIs hQ
end
end
section
variable [Tbl]
section
variable {prog:y0q} {w:World} {K:Type} [DecidableEq K] {knd:PySem.KeyKind prog w K} {A:Around} {E:Value->y04->Prop} {s:y04} {a:Addr} {ks:List K}
theorem zbx {es:List (Int×Value)} {l:List (Int×Value)} {ks:List K} (hel:ElemsOf knd es) (hp:Paired (IsK knd) es ks) (hl:l.Perm es):∃ks',Paired (IsV knd) (l.map (·.2)) ks'/\ks'.Perm ks:=by
 obtain⟨ks',h1,h2⟩:=z6y hl hp
 refine⟨ks',?_,h2⟩
 have hel':ElemsOf knd l:=hel.perm hl
 clear h2 hl hp hel
 induction h1 with
 | nil=>exact .nil
 | cons x y ih=>exact .cons ⟨x,hel'.head.2⟩ (ih hel'.tail)
theorem range_getD {α:Type} (d:α):∀(l:List α),(List.range l.length).map (fun i=>l.getD i d)=l
 | []=>rfl
 | x::r=>by
  rw[y0w,List.range_succ_eq_map,y0d,y2i]
  congr 1
  exact range_getD d r
theorem SetK.typeIs (h:SetK knd s.heap a ks):s.TypeIs (.ref a) "set":=let ⟨_,_,_,_,h,_⟩:=h;⟨_,h,rfl⟩
theorem SetK.lt {h:Heap} (x:SetK knd h a ks):a<h.objs.size:=let ⟨_,_,_,_,h,_⟩:=x;y0c h
theorem zel {Q:Value->y04->Prop} (hS:SetK knd s.heap a ks)
  (h:∀(I:Addr) (h':Heap) (d':Drawn) (vs:List Value) (ks':List K) (fp:List Addr) (St:Nat->Heap->Prop),Paired (IsV knd) vs ks'->ks'.Perm ks->(∀b o,s.heap.get? b=some o->h'.get? b=some o)->s.heap.objs.size<=I ->
   (∀b∈fp,b=a\/s.heap.objs.size<=b)->(∀A:Around,A.handled=none->Walks prog w A I fp [I] vs.length (fun i v=>vs[i]?=some v) St)->St 0 h'->Q (.ref I) { s with heap:=h',drawn:=d' }) :
  y0u (y37 prog w) A (pyIter (.ref a)) Q E s:=by
 obtain⟨es,ep,t,ks',ho,hel,hpd,hpm,hb,hf,hled,hrs⟩:=id hS
 have hlt:=hS.lt
 refine wpAny_pyIter_slot hS.typeIs PySem.F.slot_set_iter (y2w PySem.F.slot_set_iter hS.typeIs z4j ?_ (PySem.F.args_set_iter_1 _))
 unfold Builtin.«frozenset.__iter__»
 refine y02 (y06 ?_)
 refine y02 ?_
 unfold Builtin.Frozenset.sizeOf
 refine y02 (wpAny_setEntries_of ho rfl hf (y06 ?_))
 refine y02 ?_
 unfold setDrawn
 refine y02 (wpAny_setState_of ho rfl hf ?_)
 dsimp only
 unfold setsByText
 refine y02 (y02 (wpAny_askSetting (y06 ?_)))
 refine y06 ?_
 show y0u _ _ (if (!(z0u w) && (!t.plain && decide (es.size > 1)))=true then _ else _) _ _ _
 have fin:∀(s1:y04) (first:Value) (d1:Drawn) (vs:List Value) (fp:List Addr) (St:Nat->Heap->Prop),s1.heap.get? a=some { cls:=.type "set",dict:=none,data:=.set es ep t,slots:=#[] }->(∀b o,s.heap.get? b=some o->s1.heap.get? b=some o)->s1={ s with heap:=s1.heap,drawn:=d1 } ->
   (∃ks',Paired (IsV knd) vs ks'/\ks'.Perm ks)->(∀b∈fp,b=a\/s.heap.objs.size<=b)->(∀A:Around,A.handled=none->Walks prog w A s1.heap.objs.size fp [s1.heap.objs.size] vs.length (fun i v=>vs[i]?=some v) St) ->
   (∀h2,z3d h2 s1.heap.objs.size #[first,.int 0 0,.ref a,.int es.size 0,.int ep 0]->(∀b o,s1.heap.get? b=some o->h2.get? b=some o)->St 0 h2)->s.heap.objs.size<=s1.heap.objs.size ->
   y0u (y37 prog w) A.in1 (do
    let e <- setEpoch a
    let v <- newFields "set_iterator" [first,y39 0,.ref a,y39 es.size,y39 e]
    ret v) (fun fin s'=>∃v,fin=.done (.ret v)/\∃T' r,s'.TypeIs v T'/\typeLookup (.type T') (Str.ofString "__next__")=pure (some r)/\Q v s') E s1:=by
  intro s1 first d1 vs fp St h1 h2 h3 h4 h5 h6 h7 h8
  refine y02 (wpAny_setEpoch_of h1 rfl hf ?_)
  refine y02 ?_
  unfold newFields
  refine y2u ?_
  obtain⟨ks2,h9,h10⟩:=h4
  refine y06 ⟨_,rfl,"set_iterator",_,⟨_,y0l _ rfl,rfl⟩,z0h.lookup,?_⟩
  have:=h s1.heap.objs.size (s1.heap.push { cls:=.type "set_iterator",data:=.fields #[first,.int 0 0,.ref a,.int es.size 0,.int ep 0] }) d1 vs ks2 fp St h9 h10 (fun b o e=>y03 _ (h2 b o e)) h8 h5 h6
   (h7 _ (y0l _ rfl) fun b o e=>y03 _ e)
  rw[h3]
  exact this
 have e1:s={ s with heap:=s.heap,drawn:=s.drawn }:=rfl
 have vlen:∀{vs:List Value} {l:List (Int×Value)},vs=l.map (·.2)->l.Perm es.toList->vs.length=es.size:=fun e p=>by
  rw[e,y13,p.length_eq,y1z]
 by_cases hd:(!(z0u w) && (!t.plain && decide (es.size > 1)))=true
 ·rw[if_pos hd]
  refine y02 (z3i _ _ _ _ (by simp) fun ps d hps=>?_)
  refine y02 ?_
  unfold newTuple
  have hln:ps.length=es.size:=by rw[hps.length_eq,List.length_range]
  have hz:=fits_of_scanBound hb
  refine y2u ?_ (by show (List.map (fun (i:Nat)=>y39 i) ps).toArray.size<=y0j;simp[hln];exact hz)
  have hpe:(ps.map fun p=>es.getD p (0,Value.none)).Perm es.toList:=by
   have:=(hps.map fun p=>es.getD p (0,Value.none))
   refine this.trans (.of_eq ?_)
   have h2:=range_getD ((0:Int),Value.none) es.toList
   rw[y1z] at h2
   rw[<- h2]
   simp[Array.getD_eq_getD_getElem?,List.getD_eq_getElem?_getD]
  refine fin { s with heap:=s.heap.push { cls:=.type "tuple",data:=.seq (List.map (fun (i:Nat)=>y39 i) ps).toArray },drawn:=d } (.ref s.heap.objs.size) d (ps.map fun p=>(es.getD p (0,.none)).2)
   [(s.heap.push { cls:=.type "tuple",data:=.seq (List.map (fun (i:Nat)=>y39 i) ps).toArray }).objs.size,a,s.heap.objs.size] (fun i h=>z3d h (s.heap.push { cls:=.type "tuple",data:=.seq (List.map (fun (i:Nat)=>y39 i) ps).toArray }).objs.size #[.ref s.heap.objs.size,.int i 0,.ref a,.int es.size 0,.int ep 0]/\z2m h a es ep t/\Places h s.heap.objs.size ps)
   (y03 _ ho) (fun b o e=>y03 _ e) rfl ?_ ?_ (fun A' hh'=>?_) (fun h2 x k=>⟨x,k a _ (y03 _ ho),k _ _ (y0l _ rfl)⟩) (by rw[y17];exact y2e _)
  ·have:=zbx hel hpd hpe
   rw[y2i] at this
   obtain⟨k2,q1,q2⟩:=this
   exact⟨k2,q1,q2.trans hpm⟩
  ·intro b hb'
   simp only[y09,y28,or_false] at hb'
   rcases hb' with rfl|rfl|rfl
   ·right
    rw[y17]
    exact y2e _
   ·exact .inl rfl
   ·exact .inr (y0o _)
  ·have W:=z88 (prog:=prog) (w:=w) (A:=A') (a:=a) (I:=(s.heap.push { cls:=.type "tuple",data:=.seq (List.map (fun (i:Nat)=>y39 i) ps).toArray }).objs.size) (ep:=ep) (tp:=s.heap.objs.size) hh'
    (by rw[y17];exact y0y (Nat.lt_succ_of_lt hlt)) (by rw[y17];exact y0y (Nat.lt_succ_self _)) hf hps
   rw[y13,hln]
   exact W
 ·rw[if_neg hd]
  refine y02 (y06 ?_)
  have hfp:∀b∈[s.heap.objs.size,a],b=a\/s.heap.objs.size<=b:=fun b hb'=>by
   simp only[y09,y28,or_false] at hb'
   rcases hb' with rfl|rfl
   ·exact .inr (y0o _)
   ·exact .inl rfl
  cases hb':z0u w with
  | true =>
   refine fin s (y39 0) s.drawn (ltx (w.params.setOrder a ep) es) [s.heap.objs.size,a] (fun i h=>(∃sl:Nat,z3d h s.heap.objs.size #[.int sl 0,.int i 0,.ref a,.int es.size 0,.int ep 0])/\z2m h a es ep t)
    ho (fun b o e=>e) rfl ?_ hfp (fun A' hh'=>?_) (fun h2 x k=>⟨⟨0,x⟩,k a _ ho⟩) (y0o _)
   ·obtain⟨k2,q1,q2⟩:=zbx hel hpd (z3n (w.params.setOrder a ep) es)
    exact⟨k2,q1,q2.trans hpm⟩
   ·rw[show (ltx (w.params.setOrder a ep) es).length=es.size from vlen rfl (z3n (w.params.setOrder a ep) es)]
    exact zcq hh' (y0y hlt) hf hb'
  | false =>
   rw[hb'] at hd hled
   have hd':(!t.plain && decide (es.size > 1))=false:=by simpa using hd
   refine fin s (y39 0) s.drawn (es.toList.map (·.2)) [s.heap.objs.size,a] (fun i h=>(∃sl:Nat,zib t.place i sl/\z3d h s.heap.objs.size #[.int sl 0,.int i 0,.ref a,.int es.size 0,.int ep 0])/\z2m h a es ep t)
    ho (fun b o e=>e) rfl ?_ hfp (fun A' hh'=>?_) (fun h2 x k=>⟨⟨0,⟨fun _=>rfl,fun k z=>by omega⟩,x⟩,k a _ ho⟩) (y0o _)
   ·obtain⟨k2,q1,q2⟩:=zbx hel hpd .rfl
    exact⟨k2,q1,q2.trans hpm⟩
   ·rw[vlen rfl .rfl]
    exact zcr hh' (y0y hlt) hf hb' hled hrs hd'
theorem zdn {r:Addr} {Q:Bool->y04->Prop} (hT:s.TypeIs (.ref r) "set") (h:Q false s):y0u (y37 prog w) A (Builtin.List.listLengthHint (.ref r)) Q E s:=by
 unfold Builtin.List.listLengthHint
 refine y02 (wpAny_specialOf hT PySem.F.slot_set_len.lookup ?_)
 generalize hid:("set.__len__":String)=id0
 wp_delta
 rw[show splitId id0=some ("set","__len__") from by subst hid;decide +kernel]
 subst hid
 refine y02 (wpAny_isInstance (T:="set") (b:=true) hT (by rw[isSubtype_type];kernel_rfl) ?_)
 refine wpAny_ite_split (fun hab=>absurd hab (by decide)) (fun _=>?_)
 refine wpAny_ite_split (fun _=>?_) (fun hab=>absurd (by decide +kernel) hab)
 refine y02 (wpAny_typeOf hT ?_)
 exact y06 h
theorem zey {R:Result->y04->Prop} (hh:A.handled=none) (hS0:SetK knd s.heap a ks) (S:Addr) (hSr:S≠a) (res:Value) (c₀:Nat) (hS:s.heap.get? S=some { cls:=.type "list",data:=.seq #[] c₀ })
  (hR:∀h' tk d acc' c' ks',(∀b o,b≠S->s.heap.get? b=some o->h'.get? b=some o)->h'.get? S=some { cls:=.type "list",dict:=none,data:=.seq acc' c',slots:=#[] }->Paired (IsV knd) acc'.toList ks'->ks'.Perm ks->R (.ok (.ret res)) { s with heap:=h',toks:=tk,drawn:=d }) :
  y0u (y37 prog w) A.in1 (Builtin.List.listExtendWith (.ref S) (.ref a) res)
   (fun fin s'=>match fin with|.done f=>R (.ok f) s'|.again c'=>c'.quiet=true/\y31 (y37 prog w) A c' R s') (fun e s'=>R (.error e) s') s:=by
 have hlen:ks.length<=y0j:=by
  obtain⟨es,ep,t,ks',ho,hel,hpd,hpm,hb,_⟩:=hS0
  rw[<- hpm.length_eq,<- z3o hpd,y1z]
  exact fits_of_scanBound hb
 unfold Builtin.List.listExtendWith
 refine y02 (wpAny_typeOf (T:="set") hS0.typeIs ?_)
 have h1:Builtin.List.listSameRef (.ref S) (.ref a)=false:=by simp[Builtin.List.listSameRef,hSr]
 have h2:(Value.type "set" == Value.type "list")=false:=by decide
 have h3:(Value.type "set" == Value.type "tuple")=false:=by decide
 simp only[h1,h2,h3,Bool.or_false,y1u,if_false]
 refine y02 (zel hS0 fun I h' d' vs ks' fp St hv hp kp hI hfp W st=>?_)
 have hSI:S≠I:=y0y (y0x (y0c hS) hI)
 have hSf:S∉fp:=fun z=>by
  rcases hfp S z with q|q
  ·exact hSr q
  ·exact Nat.lt_irrefl _ (y0x (y0c hS) q)
 have hvl:vs.length=ks.length:=by rw[z3o hv,hp.length_eq]
 have key:∀(h:Heap) (c₁ tk:Nat),St 0 h->(∀b o,b≠S->s.heap.get? b=some o->h.get? b=some o) ->
   h.get? S=some { cls:=.type "list",data:=.seq #[] c₁ }->y31 (y37 prog w) A (.builtin "list.extend.loop" ⟨[.ref S,.ref I,res],[]⟩) R { s with heap:=h,toks:=tk,drawn:=d' }:=by
  intro h c₁ tk hst hk hS₁
  refine codeAny_extend_loopS (W A.in1 hh).toS (by omega) S hSf res vs.length 0 _ #[] c₁ rfl (y23 _) hst hS₁ (ItemsOf.nil _) fun s' acc' c' hm hS' hacc=>?_
  rw[Moved.eq_with hm]
  have hacc':acc'.toList=vs:=by
   refine List.ext_getElem? fun i=>?_
   rw[Array.getElem?_toList]
   rcases Nat.lt_or_ge i acc'.size with q|q
   ·rw[y1o q,hacc.2 i _ (y1o q)]
   ·rw[Array.getElem?_eq_none q,List.getElem?_eq_none (by rw[<- hacc.1];exact q)]
  refine hR s'.heap s'.toks d' acc' c' ks' (fun b o hb e=>hm.heap b o (fun hmem=>?_) (hk b o hb e)) hS' (hacc'▸hv) hp
  rcases y09.mp hmem with e'|hmem
  ·exact hb e'
  ·exact absurd (y0c e) (by rw[y0z.mp hmem];exact Nat.not_lt.mpr hI)
 have hS₁:=kp S _ hS
 refine y02 (y2k (zdn (SetK.typeIs (s:={ s with heap:=h',drawn:=d' }) (hS0.at' fun o e=>kp _ o e)) ?_))
 refine wpAny_ite_split (fun _=>?_) (fun _=>y06 ⟨y32 PySem.F.plain_extend_loop _,key _ c₀ _ st (fun b o _ e=>kp b o e) hS₁⟩)
 refine y02 (wpAny_rule ?_)
 refine y02 ?_
 show y0u _ _ (updateSeq S (·.push .none) >>= fun _=>updateSeq S (·.pop)) _ _ _
 refine y02 (wpAny_updateSeq hS₁ rfl ?_)
 have hS₂:=Heap.get?_update_self (Obj.mapSeq (·.push Value.none)) hS₁ rfl
 refine wpAny_updateSeq (hz:=by seq_fits) hS₂ rfl ?_
 have hS₃:=Heap.get?_update_self (Obj.mapSeq (·.pop)) hS₂ rfl
 refine y06 ⟨y32 PySem.F.plain_extend_loop _,key _ _ _ ?_ (fun b o hb e=>?_) hS₃⟩
 ·refine (W A.in1 hh).frame 0 _ _ st fun b hb o e=>?_
  have hbS:b≠S:=fun h=>hSf (h▸hb)
  exact (y3c _ _ (Ne.symm hbS)).trans ((y3c _ _ (Ne.symm hbS)).trans e)
 ·exact (y3c _ _ (Ne.symm hb)).trans ((y3c _ _ (Ne.symm hb)).trans (kp b o e))
theorem zcd {R:List Value->y04->Prop} (hh:A.handled=none) (hS:SetK knd s.heap a ks)
  (h:∀(h':Heap) (tk:Nat) (d:Drawn) (vs:List Value) (ks':List K),(∀b o,s.heap.get? b=some o->h'.get? b=some o)->s.heap.objs.size<=h'.objs.size->Paired (IsV knd) vs ks'->ks'.Perm ks->R vs { s with heap:=h',toks:=tk,drawn:=d }) :
  y0u (y37 prog w) A (collect (.ref a)) R E s:=by
 have hlt:=hS.lt
 unfold collect
 refine y02 (wpAny_runValue (y2t entry_proto_collect' ?_))
 rw[y1w PySem.F.plain_proto_collect _]
 show y0u _ A.in1 (newList [] >>= fun l=>again (.builtin "list.__iadd__" ⟨[l,.ref a],[]⟩)) _ _ s
 refine y02 (y2u ?_)
 refine y06 ⟨y32 PySem.F.plain_list_iadd _,y2t entry_list_iadd' ?_⟩
 rw[y1w PySem.F.plain_list_iadd _]
 have hS₁:(s.heap.push { cls:=.type "list",data:=.seq ([]:List Value).toArray }).get? s.heap.objs.size=some { cls:=.type "list",data:=.seq #[] }:=y0l _ rfl
 show y0u _ A.in1 (Builtin.List.listExtendWith (.ref s.heap.objs.size) (.ref a) (.ref s.heap.objs.size)) _ _ _
 have key:=zey (knd:=knd) (A:=A) (s:={ s with heap:=s.heap.push { cls:=.type "list",data:=.seq ([]:List Value).toArray } }) (ks:=ks)
  (R:=fun (q:Result) (s':y04)=>∃(h':Heap) (tk:Nat) (d:Drawn) (acc':Array Value) (c':Nat) (ks':List K),q=.ok (.ret (.ref s.heap.objs.size))/\s'={ s with heap:=h',toks:=tk,drawn:=d } /\
   (∀b o,s.heap.get? b=some o->h'.get? b=some o)/\h'.get? s.heap.objs.size=some { cls:=.type "list",dict:=none,data:=.seq acc' c',slots:=#[] }/\Paired (IsV knd) acc'.toList ks'/\ks'.Perm ks)
  hh (hS.at' fun o e=>y03 _ e) s.heap.objs.size (y15 hlt) (.ref s.heap.objs.size) 0 hS₁
  (fun h' tk d acc' c' ks' hk hS' hv hp=>⟨h',tk,d,acc',c',ks',rfl,rfl,fun b o e=>hk b o (y0y (y0c e)) (y03 _ e),hS',hv,hp⟩)
 refine y1d key (fun fin s' x=>?_) fun e s' x=>?_
 ·cases fin with
  | done f =>
   obtain⟨h',tk,d,acc',c',ks',e,rfl,hk,hS',hv,hp⟩:=x
   cases e
   show y0u _ A (load s.heap.objs.size >>= _) _ _ _
   refine y02 (wpAny_load hS' ?_)
   exact y06 (h h' tk d _ ks' hk (Nat.le_of_lt (y0c hS')) hv hp)
  | again c₁ =>
   refine⟨x.1,y2v x.2 fun q s₂ y=>?_⟩
   obtain⟨h',tk,d,acc',c',ks',rfl,rfl,hk,hS',hv,hp⟩:=y
   show y0u _ A (load s.heap.objs.size >>= _) _ _ _
   refine y02 (wpAny_load hS' ?_)
   exact y06 (h h' tk d _ ks' hk (Nat.le_of_lt (y0c hS')) hv hp)
 ·obtain⟨_,_,_,_,_,_,e',_⟩:=x
  cases e'
theorem zcc {R:List Value->y04->Prop} {T:String} {r d:Addr} {n:Nat} {P:Nat->Value->Prop} {OK:Heap->Prop} (W:PySem.W.KdlSrc prog w T r d n P OK) (hh:A.handled=none) (hok:OK s.heap) (hn:n<=y0j)
  (h:∀(h':Heap) (tk:Nat) (acc:Array Value),(∀b o,s.heap.get? b=some o->h'.get? b=some o)->s.heap.objs.size<=h'.objs.size->ItemsOf P acc n->R acc.toList { s with heap:=h',toks:=tk }) :
  y0u (y37 prog w) A (collect (.ref r)) R E s:=by
 have hlt:=W.there _ hok
 unfold collect
 refine y02 (wpAny_runValue (y2t entry_proto_collect' ?_))
 rw[y1w PySem.F.plain_proto_collect _]
 show y0u _ A.in1 (newList [] >>= fun l=>again (.builtin "list.__iadd__" ⟨[l,.ref r],[]⟩)) _ _ s
 refine y02 (y2u ?_)
 refine y06 ⟨y32 PySem.F.plain_list_iadd _,y2t entry_list_iadd' ?_⟩
 rw[y1w PySem.F.plain_list_iadd _]
 have hS₁:(s.heap.push { cls:=.type "list",data:=.seq ([]:List Value).toArray }).get? s.heap.objs.size=some { cls:=.type "list",data:=.seq #[] }:=y0l _ rfl
 show y0u _ A.in1 (Builtin.List.listExtendWith (.ref s.heap.objs.size) (.ref r) (.ref s.heap.objs.size)) _ _ _
 have key:=PySem.W.kdl_extend (A:=A) (s:={ s with heap:=s.heap.push { cls:=.type "list",data:=.seq ([]:List Value).toArray } })
  (R:=fun (q:Result) (s':y04)=>∃(h':Heap) (tk:Nat) (acc':Array Value) (c':Nat),q=.ok (.ret (.ref s.heap.objs.size))/\s'={ s with heap:=h',toks:=tk } /\
   (∀b o,s.heap.get? b=some o->h'.get? b=some o)/\h'.get? s.heap.objs.size=some { cls:=.type "list",dict:=none,data:=.seq acc' c',slots:=#[] }/\ItemsOf P acc' n)
  W hh (W.keep _ _ hok fun b _ o e=>y03 _ e) s.heap.objs.size (y15 hlt.1) (y15 hlt.2) (.ref s.heap.objs.size) 0 hS₁
  (fun h' tk acc' c' hk hS' hacc=>⟨h',tk,acc',c',rfl,rfl,fun b o e=>hk b o (y0y (y0c e)) (y03 _ e),hS',hacc⟩) hn
 refine y1d key (fun fin s' x=>?_) fun e s' x=>?_
 ·cases fin with
  | done f =>
   obtain⟨h',tk,acc',c',e,rfl,hk,hS',hacc⟩:=x
   cases e
   show y0u _ A (load s.heap.objs.size >>= _) _ _ _
   refine y02 (wpAny_load hS' ?_)
   exact y06 (h h' tk acc' hk (Nat.le_of_lt (y0c hS')) hacc)
  | again c₁ =>
   refine⟨x.1,y2v x.2 fun q s₂ y=>?_⟩
   obtain⟨h',tk,acc',c',rfl,rfl,hk,hS',hacc⟩:=y
   show y0u _ A (load s.heap.objs.size >>= _) _ _ _
   refine y02 (wpAny_load hS' ?_)
   exact y06 (h h' tk acc' hk (Nat.le_of_lt (y0c hS')) hacc)
 ·obtain⟨_,_,_,_,e',_⟩:=x
  cases e'
end
end
end D
end
section
namespace D
open PySem
variable [Tbl]
structure TOk (t:SetTable):Prop where
 rs:Rs t.place
 le:∀x∈t.place.toList,x<=t.mask
 dm:t.dummies=#[]
 ms:t.mask=7\/t.mask=31
 sz:t.place.size<=t.mask
theorem z89 {t:SetTable} (h:TOk t) (j:Nat):(∃i,t.slot j=.live i/\t.place[i]?=some j)\/(t.slot j=.empty/\j∉t.place.toList):=by
 unfold SetTable.slot
 dsimp only
 by_cases e:t.place[SetTable.below t.place j]?=some j
 ·left
  refine⟨SetTable.below t.place j,?_,e⟩
  rw[e]
  simp
 ·right
  have hd:SetTable.has t.dummies j=false:=by
   rw[h.dm]
   unfold SetTable.has
   rfl
  have hb:(t.place[SetTable.below t.place j]? == some j)=false:=beq_eq_false_iff_ne.mpr e
  rw[hb,hd]
  refine⟨by simp,fun hm=>e ?_⟩
  obtain⟨i,hi⟩:=List.getElem?_of_mem hm
  obtain⟨c1,c2,c3⟩:=z48 j h.rs
  have hbi:SetTable.below t.place j<=i:=by
   refine Nat.le_of_not_lt fun z=>?_
   exact Nat.lt_irrefl _ (c2 i z j hi)
  have hlt:SetTable.below t.place j<t.place.toList.length:=Nat.lt_of_le_of_lt hbi (y0k.mp hi).1
  have hg:=y0v hlt
  have q1:=c3 _ (y0o _) _ hg
  have q2:=z9a h.rs hbi hg hi
  rw[<- Array.getElem?_toList,hg,Nat.le_antisymm q2 q1]
theorem zfp {t:SetTable} (h:TOk t):∃j,j<=t.mask/\j∉t.place.toList:=by
 refine Classical.byContradiction fun hn=>?_
 have hall:∀j,j<=t.mask->j∈t.place.toList:=fun j hj=>Classical.byContradiction fun z=>hn ⟨j,hj,z⟩
 have h1:=(List.nodup_range (n:=t.mask+1)).length_le_of_subset (l₂:=t.place.toList) fun x hx=>hall x (by have:=List.mem_range.mp hx;omega)
 rw[List.length_range,y1z] at h1
 have:=h.sz
 omega
def lp (m:Nat):Nat->Nat×Nat->Nat×Nat
 | 0,q=>q
 | n+1,q=>lp m n (SetTable.leap m q.1 q.2)
theorem zl2 (m:Nat):∀(a b:Nat) (q:Nat×Nat),lp m (a+b) q=lp m b (lp m a q)
 | 0,b,q=>by rw[Nat.zero_add];rfl
 | a+1,b,q=>by
  rw[Nat.add_right_comm]
  show lp m (a+b) _=_
  rw[zl2 m a b]
  rfl
theorem zl1 (m:Nat):∀(n:Nat) (q:Nat×Nat),(lp m n q).2=q.2 / 32 ^ n
 | 0,q=>by simp[lp]
 | n+1,q=>by
  show (lp m n (SetTable.leap m q.1 q.2)).2=_
  rw[zl1 m n]
  show q.2 / 32 / 32 ^ n=_
  rw[Nat.div_div_eq_div_mul,Nat.pow_succ,Nat.mul_comm]
theorem zaq (m:Nat):∀(n:Nat) (q:Nat×Nat),q.1<=m->(lp m n q).1<=m
 | 0,q,h=>h
 | n+1,q,h=>zaq m n _ (by
  show (q.1*5+1+q.2 / 32) % (m+1)<=m
  have:=Nat.mod_lt (q.1*5+1+q.2 / 32) (show 0<m+1 by omega)
  omega)
def zq1 (m i:Nat):Nat:=(i*5+1) % (m+1)
def it0 (m:Nat):Nat->Nat->Nat
 | 0,i=>i
 | n+1,i=>it0 m n (zq1 m i)
theorem zgu (m:Nat):∀(n i:Nat),lp m n (i,0)=(it0 m n i,0)
 | 0,i=>rfl
 | n+1,i=>by
  show lp m n ((i*5+1+0 / 32) % (m+1),0 / 32)=_
  rw[Nat.zero_div,Nat.add_zero]
  exact zgu m n _
theorem zqm:∀i,i<8->∀j,j<8->∃n,n<8/\it0 7 n i=j:=by decide +kernel
theorem zpc:∀i,i<32->∀j,j<32->∃n,n<32/\it0 31 n i=j:=by decide +kernel
theorem full {m:Nat} (hm:m=7\/m=31) {i j:Nat} (hi:i<=m) (hj:j<=m):∃n,n<=m/\it0 m n i=j:=by
 rcases hm with rfl|rfl
 ·obtain⟨n,h1,h2⟩:=zqm i (by omega) j (by omega)
  exact⟨n,by omega,h2⟩
 ·obtain⟨n,h1,h2⟩:=zpc i (by omega) j (by omega)
  exact⟨n,by omega,h2⟩
theorem zas {m:Nat} (hm:m=7\/m=31) {i pt j:Nat} (hi:i<=m) (hp:pt<2 ^ 64) (hj:j<=m):∃n,n<=m+13/\(lp m n (i,pt)).1=j:=by
 have h13:lp m 13 (i,pt)=((lp m 13 (i,pt)).1,0):=by
  have:=zl1 m 13 (i,pt)
  have h0:pt / 32 ^ 13=0:=Nat.div_eq_of_lt (y0x hp (by decide))
  rw[h0] at this
  exact Prod.ext rfl this
 obtain⟨n,h1,h2⟩:=full hm (zaq m 13 (i,pt) hi) hj
 refine⟨13+n,by omega,?_⟩
 rw[zl2,h13,zgu]
 exact h2
structure Pv (t:SetTable) (p:SetTable.Probe):Prop where
 i:p.i<=t.mask
 j:p.j+p.more<=t.mask
 d:p.dummy=none
 pt:p.perturb<2 ^ 64
 m:p.more<=9
theorem zkp (m i:Nat) (hi:i<=m):i+(SetTable.runEnd m i - i)<=m/\SetTable.runEnd m i - i<=9:=by
 unfold SetTable.runEnd
 split <;> omega
theorem zia {t:SetTable} {p:SetTable.Probe} (h:Pv t p):Pv t (t.advance p):=by
 unfold SetTable.advance
 split
 next hm=>exact⟨h.i,by have:=h.j;show p.j+1+(p.more - 1)<=_;omega,h.d,h.pt,by have:=h.m;show p.more - 1<=9;omega⟩
 next hm =>
  have hl:(p.i*5+1+p.perturb / 32) % (t.mask+1)<=t.mask:=by
   have:=Nat.mod_lt (p.i*5+1+p.perturb / 32) (show 0<t.mask+1 by omega)
   omega
  have hr:=zkp t.mask _ hl
  exact⟨hl,hr.1,h.d,Nat.lt_of_le_of_lt (Nat.div_le_self _ _) h.pt,hr.2⟩
theorem zcw (t:SetTable) (h:Int):Pv t (t.probeStart h):=by
 have hl:SetTable.bits h % (t.mask+1)<=t.mask:=by
  have:=Nat.mod_lt (SetTable.bits h) (show 0<t.mask+1 by omega)
  omega
 have hr:=zkp t.mask _ hl
 refine⟨hl,hr.1,rfl,?_,hr.2⟩
 show (h % 2 ^ 64).toNat<2 ^ 64
 have h1:=y2g h (show (0:Int)<2 ^ 64 by decide)
 have h2:=y2f h (show (2 ^ 64:Int)≠0 by decide)
 omega
def adv (t:SetTable):Nat->SetTable.Probe->SetTable.Probe
 | 0,p=>p
 | n+1,p=>adv t n (t.advance p)
theorem z9u (t:SetTable):∀(a b:Nat) (p:SetTable.Probe),adv t (a+b) p=adv t b (adv t a p)
 | 0,b,p=>by rw[Nat.zero_add];rfl
 | a+1,b,p=>by
  rw[Nat.add_right_comm]
  show adv t (a+b) _=_
  rw[z9u t a b]
  rfl
theorem zfy (t:SetTable):∀(n:Nat) (p:SetTable.Probe),p.more=n->t.advance (adv t n p)={ j:=(SetTable.leap t.mask p.i p.perturb).1,more:=SetTable.runEnd t.mask (SetTable.leap t.mask p.i p.perturb).1 - (SetTable.leap t.mask p.i p.perturb).1,i:=(SetTable.leap t.mask p.i p.perturb).1,perturb:=(SetTable.leap t.mask p.i p.perturb).2,dummy:=p.dummy }
 | 0,p,h=>by
  show t.advance p=_
  unfold SetTable.advance
  rw[if_neg (by omega)]
 | n+1,p,h=>by
  have e:t.advance p={ j:=p.j+1,more:=p.more - 1,i:=p.i,perturb:=p.perturb,dummy:=p.dummy }:=by
   unfold SetTable.advance
   rw[if_pos (by omega)]
  show t.advance (adv t n (t.advance p))=_
  rw[zfy t n (t.advance p) (by rw[e];show p.more - 1=n;omega),e]
theorem zgv {t:SetTable}:∀(k:Nat) (p:SetTable.Probe),Pv t p->0<k->∃n,n<=10*k/\(adv t n p).i=(lp t.mask k (p.i,p.perturb)).1/\(adv t n p).perturb=(lp t.mask k (p.i,p.perturb)).2/\(adv t n p).j=(lp t.mask k (p.i,p.perturb)).1
 | 0,p,_,h0=>absurd h0 (Nat.lt_irrefl 0)
 | k+1,p,hp,_=>by
  have ro:=zfy t p.more p rfl
  have hm:=hp.m
  have hadv:adv t (p.more+1) p=t.advance (adv t p.more p):=by
   rw[z9u]
   rfl
  have pv:∀(n:Nat) (p:SetTable.Probe),Pv t p->Pv t (adv t n p):=fun n=>by
   induction n with
   | zero=>exact fun p h=>h
   | succ n ih=>exact fun p h=>ih _ (zia h)
  cases k with
  | zero =>
   refine⟨p.more+1,by omega,?_⟩
   rw[hadv,ro]
   exact⟨rfl,rfl,rfl⟩
  | succ k =>
   obtain⟨n,h1,h2,h3,h4⟩:=zgv (t:=t) (k+1) (adv t (p.more+1) p) (pv _ p hp) (by omega)
   refine⟨p.more+1+n,by omega,?_⟩
   rw[z9u]
   rw[h2,h3,h4,hadv,ro]
   exact⟨rfl,rfl,rfl⟩
end D
end
section
namespace D
open PySem
variable [Tbl]
section
variable {mask:Nat} {owner:Array (Option Nat)}
theorem zaw:∀(n i pt:Nat),SetTable.layClean.free mask owner n i pt=none->∀k,k<n->(owner.getD (lp mask k (i,pt)).1 (some 0)).isNone=false
 | 0,_,_,_,k,hk=>absurd hk (Nat.not_lt_zero k)
 | n+1,i,pt,e,k,hk=>by
  unfold SetTable.layClean.free at e
  split at e
  ·cases e
  next hf =>
   cases k with
   | zero =>
    have h0:0∈List.range (SetTable.runEnd mask i+1 - i):=by
     rw[List.mem_range]
     unfold SetTable.runEnd
     split <;> omega
    have:=List.find?_eq_none.mp hf 0 h0
    show (owner.getD (i+0) (some 0)).isNone=false
    exact Bool.eq_false_iff.mpr this
   | succ k=>exact zaw n _ _ e k (by omega)
theorem zhk:∀(n i pt j:Nat),SetTable.layClean.free mask owner n i pt=some j->owner.getD j (some 0)=none
 | 0,_,_,_,e=>by cases e
 | n+1,i,pt,j,e=>by
  unfold SetTable.layClean.free at e
  split at e
  next k hf =>
   cases e
   have:=List.find?_some hf
   simpa using this
  next hf=>exact zhk n _ _ j e
theorem zhj (hm:mask=7\/mask=31) {j0:Nat} (hj:j0<=mask) (ho:owner.getD j0 (some 0)=none) {i pt:Nat} (hi:i<=mask) (hp:pt<2 ^ 64):∃j,SetTable.layClean.free mask owner (SetTable.turns mask) i pt=some j/\owner.getD j (some 0)=none:=by
 cases e:SetTable.layClean.free mask owner (SetTable.turns mask) i pt with
 | some j=>exact⟨j,rfl,zhk _ _ _ _ e⟩
 | none =>
  obtain⟨n,h1,h2⟩:=zas hm hi hp hj
  have:=zaw _ _ _ e n (by show n<mask+15;omega)
  rw[h2,ho] at this
  cases this
end
theorem zds {g g':Nat->Option Nat}:∀{l:List Nat},(∀y∈l,g' y=g y)->l.filterMap g'=l.filterMap g
 | [],_=>rfl
 | x::l,h=>by
  rw[List.filterMap_cons,List.filterMap_cons,h x (by simp),zds (l:=l) fun y hy=>h y (y05 _ hy)]
theorem zl9 {g g':Nat->Option Nat} {j k:Nat} (h1:g j=none) (h2:g' j=some k) (h3:∀i,i≠j->g' i=g i):∀(l:List Nat),l.Nodup->j∈l->(l.filterMap g').Perm (k::l.filterMap g)
 | [],_,hj=>by cases hj
 | x::l,nd,hj=>by
  obtain⟨n1,n2⟩:=y0r.mp nd
  by_cases e:x=j
  ·subst e
   have hl:l.filterMap g'=l.filterMap g:=zds fun y hy=>h3 y fun z=>n1 (z▸hy)
   rw[List.filterMap_cons,h2,List.filterMap_cons,h1,hl]
  ·have hj':j∈l:=by
    rcases y09.mp hj with q|q
    ·exact absurd q.symm e
    ·exact q
   have ih:=zl9 h1 h2 h3 l n2 hj'
   rw[List.filterMap_cons,List.filterMap_cons,h3 x e]
   cases g x with
   | none=>exact ih
   | some y=>exact (ih.cons y).trans (List.Perm.swap k y _)
def own (o:Array (Option Nat)) (j:Nat):Option Nat:=o.getD j none
structure Cl1 (mask:Nat) (o:Array (Option Nat)) (k:Nat):Prop where
 sz:o.size=mask+1
 pm:((List.range (mask+1)).filterMap (own o)).Perm (List.range k)
theorem zk1 {mask:Nat} {o:Array (Option Nat)} (hs:o.size=mask+1) {j:Nat} (h:o.getD j (some 0)=none):j<=mask/\own o j=none:=by
 unfold own
 by_cases hj:j<o.size
 ·simp only[Array.getD,hj,dif_pos] at h ⊢
  exact⟨by omega,h⟩
 ·simp[Array.getD,hj] at h
theorem zjd {mask:Nat} {o:Array (Option Nat)} {k:Nat} (h:Cl1 mask o k) (hk:k<=mask):∃j,j<=mask/\o.getD j (some 0)=none:=by
 refine Classical.byContradiction fun hn=>?_
 have hall:∀j,j∈List.range (mask+1)->∃x,own o j=some x:=fun j hj=>by
  have hj':=List.mem_range.mp hj
  have hlt:j<o.size:=by rw[h.sz];exact hj'
  cases q:own o j with
  | some x=>exact⟨x,rfl⟩
  | none =>
   refine absurd ⟨j,by omega,?_⟩ hn
   unfold own at q
   simp only[Array.getD,hlt,dif_pos] at q ⊢
   exact q
 have len:∀l:List Nat,(∀j∈l,∃x,own o j=some x)->(l.filterMap (own o)).length=l.length:=by
  intro l
  induction l with
  | nil=>intro _;rfl
  | cons x l ih =>
   intro hl
   obtain⟨y,hy⟩:=hl x (by simp)
   rw[List.filterMap_cons,hy]
   simp[ih fun j hj=>hl j (y05 _ hj)]
 have h1:=len _ hall
 have h2:=h.pm.length_eq
 rw[h1,List.length_range,List.length_range] at h2
 omega
noncomputable def layF (mask:Nat) (acc:Option (Array (Option Nat)×Nat)) (h:Int):Option (Array (Option Nat)×Nat):=do
 let (owner,k) <- acc
 let j <- SetTable.layClean.free mask owner (SetTable.turns mask) (SetTable.bits h % (mask+1)) (SetTable.bits h)
 pure (owner.setIfInBounds j (some k),k+1)
theorem zna (h:Int):SetTable.bits h<2 ^ 64:=by
 show (h % 2 ^ 64).toNat<2 ^ 64
 have h1:=y2g h (show (0:Int)<2 ^ 64 by decide)
 have h2:=y2f h (show (2 ^ 64:Int)≠0 by decide)
 omega
theorem zdj {mask:Nat} (hm:mask=7\/mask=31):∀(hs:List Int) (o:Array (Option Nat)) (k:Nat),Cl1 mask o k->k+hs.length<=mask->∃o',hs.foldl (layF mask) (some (o,k))=some (o',k+hs.length)/\Cl1 mask o' (k+hs.length)
 | [],o,k,h,_=>⟨o,rfl,h⟩
 | x::hs,o,k,h,hl=>by
  simp only[y0w] at hl
  obtain⟨j0,hj0,ho⟩:=zjd h (by omega)
  obtain⟨j,e,hj⟩:=zhj hm hj0 ho (i:=SetTable.bits x % (mask+1)) (pt:=SetTable.bits x) (by
   have:=Nat.mod_lt (SetTable.bits x) (show 0<mask+1 by omega)
   omega) (zna x)
  obtain⟨hjm,hjo⟩:=zk1 h.sz hj
  have hjs:j<o.size:=by rw[h.sz];omega
  have h2:own (o.setIfInBounds j (some k)) j=some k:=by
   unfold own
   simp[Array.getD,hjs]
  have h3:∀i,i≠j->own (o.setIfInBounds j (some k)) i=own o i:=fun i hi=>by
   unfold own
   rw[Array.getD_eq_getD_getElem?,Array.getD_eq_getD_getElem?,Array.getElem?_setIfInBounds_ne (Ne.symm hi)]
  have c1:Cl1 mask (o.setIfInBounds j (some k)) (k+1):=by
   refine⟨by rw[Array.size_setIfInBounds];exact h.sz,?_⟩
   refine (zl9 hjo h2 h3 _ List.nodup_range (List.mem_range.mpr (by omega))).trans ?_
   have hr:List.range (k+1)=List.range k++[k]:=List.range_succ
   rw[hr]
   exact (h.pm.cons k).trans (List.perm_append_comm (l₁:=[k]) (l₂:=List.range k))
  obtain⟨o',e2,c2⟩:=zdj hm hs _ (k+1) c1 (by omega)
  refine⟨o',?_,?_⟩
  ·rw[List.foldl_cons]
   have:layF mask (some (o,k)) x=some (o.setIfInBounds j (some k),k+1):=by
    show Option.bind (SetTable.layClean.free mask o (SetTable.turns mask) (SetTable.bits x % (mask+1)) (SetTable.bits x)) _=_
    rw[e]
    rfl
   rw[this,e2]
   congr 2
   simp only[y0w]
   omega
  ·have:k+1+hs.length=k+(x::hs).length:=by simp;omega
   rw[<- this]
   exact c2
theorem zka {mask:Nat} (hm:mask=7\/mask=31) (hs:Array Int) (hl:hs.size<=mask):∃o,SetTable.layClean mask hs=some o/\Cl1 mask o hs.size:=by
 have c0:Cl1 mask (Array.replicate (mask+1) none) 0:=by
  refine⟨by simp,?_⟩
  have:((List.range (mask+1)).filterMap (own (Array.replicate (mask+1) none)))=[]:=by
   rw[List.filterMap_eq_nil_iff]
   intro j hj
   unfold own
   simp[Array.getD]
  rw[this]
  exact List.Perm.refl _
 obtain⟨o,e,c⟩:=zdj hm hs.toList _ 0 c0 (by simpa using hl)
 rw[Nat.zero_add,y1z] at e c
 refine⟨o,?_,c⟩
 unfold SetTable.layClean
 rw[<- Array.foldl_toList]
 show Option.map _ (hs.toList.foldl (layF mask) (some (Array.replicate (mask+1) none,0)))=_
 rw[e]
 rfl
theorem zmu {mask finger moves:Nat} {led plain:Bool} (hm:mask=7\/mask=31) (hs:Array Int) (hl:hs.size<=mask):∃t order,SetTable.laid mask finger moves led plain hs=some (t,order)/\TOk t/\t.mask=mask/\t.led=led/\t.plain=plain/\t.place.size=hs.size/\order.toList.Perm (List.range hs.size):=by
 obtain⟨o,e,c⟩:=zka hm hs hl
 unfold SetTable.laid
 rw[e]
 have hlive:∀l:List Nat,(l.filterMap fun j=>(o.getD j none).map fun x=>(j,x)).map (·.2)=l.filterMap (own o)/\(l.filterMap fun j=>(o.getD j none).map fun x=>(j,x)).map (·.1)=l.filter fun j=>(own o j).isSome:=by
  intro l
  induction l with
  | nil=>exact⟨rfl,rfl⟩
  | cons x l ih =>
   cases q:o.getD x none with
   | none =>
    have q':own o x=none:=q
    rw[List.filterMap_cons,List.filterMap_cons,List.filter_cons,q,q']
    exact ih
   | some y =>
    have q':own o x=some y:=q
    rw[List.filterMap_cons,List.filterMap_cons,List.filter_cons,q,q']
    exact⟨congrArg (y::·) ih.1,congrArg (x::·) ih.2⟩
 have h1:=(hlive (List.range (mask+1))).1
 have h2:=(hlive (List.range (mask+1))).2
 have hsz:((List.range (mask+1)).filterMap fun j=>(o.getD j none).map fun x=>(j,x)).length=hs.size:=by
  have:=c.pm.length_eq
  rw[<- h1,y13,List.length_range] at this
  exact this
 refine⟨_,_,rfl,⟨?_,?_,rfl,hm,?_⟩,rfl,rfl,rfl,?_,?_⟩
 ·show List.Pairwise _ _
  simp only[]
  rw[h2]
  exact (List.pairwise_lt_range (n:=mask+1)).sublist List.filter_sublist
 ·intro x hx
  simp only[] at hx
  rw[h2] at hx
  have:=List.mem_range.mp (List.mem_filter.mp hx).1
  show x<=mask
  omega
 ·show (List.toArray _).size<=mask
  rw[y0h,y13,hsz]
  exact hl
 ·show (List.toArray _).size=_
  rw[y0h,y13,hsz]
 ·simp only[]
  rw[h1]
  exact c.pm
end D
end
section
namespace D
open PySem PySem.Spec PyProof.Rows L2
section
variable [Tbl]
section
variable {prog:y0q} {w:World} {A:Around} {E:Value->y04->Prop} {s:y04} {p:Addr} {ns:List Int}
abbrev TK (prog:y0q) (w:World) (h:Heap) (ns:List Int) (p:Addr):Prop:=IsTupleKey (intKind prog w) h ns p
theorem z8z {h h':Heap} (k:TK prog w h ns p) (e:∀o,h.get? p=some o->h'.get? p=some o):TK prog w h' ns p:=by
 obtain⟨o,its,n,h1,r⟩:=k
 exact⟨o,its,n,e o h1,r⟩
theorem items_int:∀{ns:List Int} {vs:List Value},ItemsAre (intKind prog w) ns vs->∀v∈vs,∃i t,v=.int i t
 | _,_,.nil,v,hv=>by cases hv
 | _,_,.cons h r,v,hv=>by
  rcases y09.mp hv with rfl|hv
  ·cases v <;> first|exact⟨_,_,rfl⟩|cases h
  ·exact items_int r v hv
theorem zfh (k:TK prog w s.heap ns p):s.TypeIs (.ref p) "tuple":=by
 obtain⟨o,its,n,h1,h2,_⟩:=k
 exact⟨o,h1,h2⟩
theorem zp9 {Q:Bool->y04->Prop} (k:TK prog w s.heap ns p) (h:Q true s):y0u (y37 prog w) A (hashByValue 8 (.ref p)) Q E s:=by
 have hT:=zfh k
 obtain⟨o,its,n,h1,h2,h3,h4⟩:=k
 show y0u _ _ (hashByValue (Nat.succ 7) (.ref p)) _ _ _
 rw[hashByValue.eq_12]
 refine y02 (wpAny_specialOf hT F.slot_tuple_hash.lookup ?_)
 dsimp only
 refine y02 (y2q h1 h3 ?_)
 refine y02 (wpAny_forIn_array' _ (fun rest b s'=>s'=s/\b=(none,())/\∀v∈rest,∃i t,v=Value.int i t) _ (fun x rest b s' hI=>?_) (fun b s' hI=>?_) _ _ ⟨rfl,rfl,items_int h4⟩)
 ·obtain⟨rfl,rfl,hv⟩:=hI
  obtain⟨i,t,rfl⟩:=hv x (by simp)
  rw[hashByValue.eq_3]
  exact y02 (y06 (y06 ⟨rfl,rfl,fun v hm=>hv v (y05 _ hm)⟩))
 ·obtain⟨rfl,rfl,_⟩:=hI
  exact y06 h
theorem zkw {Q:Bool->y04->Prop} (k:TK prog w s.heap ns p) (h:Q false s):y0u (y37 prog w) A (ofAClassStatement 8 (.ref p)) Q E s:=by
 have hT:=zfh k
 obtain⟨o,its,n,h1,h2,h3,h4⟩:=k
 show y0u _ _ (ofAClassStatement (Nat.succ 7) (.ref p)) _ _ _
 rw[ofAClassStatement.eq_2]
 refine y02 (wpAny_typeOf hT ?_)
 dsimp only
 rw[if_pos (by decide)]
 refine y02 (y06 ?_)
 rw[if_neg (by decide)]
 refine y02 (y2q h1 h3 ?_)
 dsimp only
 refine y02 (wpAny_forIn_array' _ (fun rest b s'=>s'=s/\b=(none,())/\∀v∈rest,∃i t,v=Value.int i t) _ (fun x rest b s' hI=>?_) (fun b s' hI=>?_) _ _ ⟨rfl,rfl,items_int h4⟩)
 ·obtain⟨rfl,rfl,hv⟩:=hI
  obtain⟨i,t,rfl⟩:=hv x (by simp)
  have:ofAClassStatement 7 (.int i t)=pure false:=by rw[ofAClassStatement.eq_def]
  rw[this]
  exact y02 (y06 (y06 ⟨rfl,rfl,fun v hm=>hv v (y05 _ hm)⟩))
 ·obtain⟨rfl,rfl,_⟩:=hI
  exact y06 h
theorem zls {Q:Bool->y04->Prop} (k:TK prog w s.heap ns p) {ys:List Value} (hy:∀y∈ys,∃q ms,y=.ref q/\TK prog w s.heap ms q) (h:Q false s):y0u (y37 prog w) A (searchCouldBeSeen (.ref p) ys) Q E s:=by
 unfold searchCouldBeSeen
 refine y02 (wpAny_forIn_list _ (fun rest b s'=>s'=s/\b=(none,())/\∀y∈rest,∃q ms,y=Value.ref q/\TK prog w s.heap ms q) _ (fun x rest b s' hI=>?_) (fun b s' hI=>?_) _ _ ⟨rfl,rfl,hy⟩)
 ·obtain⟨rfl,rfl,hv⟩:=hI
  obtain⟨q,ms,rfl,hq⟩:=hv x (by simp)
  have tl:∀y∈rest,∃q ms,y=Value.ref q/\TK prog w s'.heap ms q:=fun y hm=>hv y (y05 _ hm)
  dsimp only
  split
  ·exact y06 ⟨rfl,rfl,tl⟩
  ·refine y02 (wpAny_eqIsQuiet_tuple k ?_)
   rw[if_neg (by decide)]
   refine y02 (wpAny_eqIsQuiet_tuple hq ?_)
   rw[if_neg (by decide)]
   refine y02 (zkw k ?_)
   rw[if_neg (by decide)]
   refine y02 (zkw hq ?_)
   rw[if_neg (by decide)]
   exact y06 ⟨rfl,rfl,tl⟩
 ·obtain⟨rfl,rfl,_⟩:=hI
  exact y06 h
end
theorem zpa {t:SetTable} {f:Nat->Int} {h:Int} (ok:TOk t):∀(n d:Nat) (p:SetTable.Probe),Pv t p->t.slot (adv t d p).j=.empty->d<n ->
  (∃j,SetTable.probe.go t f h n p=some (.empty j none)/\t.slot j=.empty/\j<=t.mask/\j∉t.place.toList)\/∃k j i,k<d/\SetTable.probe.go t f h n p=some (.candidate j i (adv t (k+1) p))/\t.slot j=.live i/\t.place[i]?=some j/\f i=h
 | 0,d,p,_,_,hd=>absurd hd (Nat.not_lt_zero d)
 | n+1,d,p,hp,he,hd=>by
  unfold SetTable.probe.go
  rcases z89 ok p.j with ⟨i,q,hi⟩|⟨q,hj⟩
  ·rw[q]
   dsimp only
   cases d with
   | zero =>
    rw[show (adv t 0 p).j=p.j from rfl,q] at he
    cases he
   | succ d =>
    by_cases hf:(f i == h)=true
    ·rw[if_pos hf]
     exact .inr ⟨0,p.j,i,by omega,rfl,q,hi,by simpa using hf⟩
    ·rw[if_neg hf]
     rcases zpa ok n d (t.advance p) (zia hp) he (by omega) with ⟨j,e,r⟩|⟨k,j,i',hk,e,r⟩
     ·exact .inl ⟨j,e,r⟩
     ·exact .inr ⟨k+1,j,i',by omega,e,r⟩
  ·rw[q]
   exact .inl ⟨p.j,by rw[hp.d],q,by have:=hp.j;omega,hj⟩
theorem reach {t:SetTable} (ok:TOk t) {p:SetTable.Probe} (hp:Pv t p):∃d,d<10*(t.mask+15)/\t.slot (adv t d p).j=.empty:=by
 obtain⟨j,hj,hfree⟩:=zfp ok
 obtain⟨n,h1,h2⟩:=zas ok.ms (i:=(SetTable.leap t.mask p.i p.perturb).1) (pt:=(SetTable.leap t.mask p.i p.perturb).2) (by
  show (p.i*5+1+p.perturb / 32) % (t.mask+1)<=t.mask
  have:=Nat.mod_lt (p.i*5+1+p.perturb / 32) (show 0<t.mask+1 by omega)
  omega) (Nat.lt_of_le_of_lt (Nat.div_le_self _ _) hp.pt) hj
 obtain⟨k,k1,_,_,k4⟩:=zgv (n+1) p hp (by omega)
 have e2:(lp t.mask (n+1) (p.i,p.perturb)).1=j:=h2
 rw[e2] at k4
 refine⟨k,by omega,?_⟩
 rw[k4]
 rcases z89 ok j with ⟨i',_,q⟩|⟨q,_⟩
 ·exact absurd (y1v (by rw[Array.getElem?_toList];exact q)) hfree
 ·exact q
theorem zks {t:SetTable}:∀(n:Nat) {p:SetTable.Probe},Pv t p->Pv t (adv t n p)
 | 0,_,h=>h
 | n+1,_,h=>zks n (zia h)
theorem z67 {t:SetTable} (ok:TOk t) {n:Nat} (h:t.place.size=n):t.fits n=true:=by
 unfold SetTable.fits SetTable.fill
 rw[ok.dm,h]
 have:=ok.sz
 simp
 omega
theorem zlm {t:SetTable} (ok:TOk t):t.gaveWay=false:=by
 unfold SetTable.gaveWay
 rcases ok.ms with e|e <;> rw[e] <;> rfl
section
variable {prog:y0q} {w:World} {A:Around} {E:Value->y04->Prop} {s:y04} {a p:Addr} {ns:List Int} {es:Array (Int×Value)} {ep:Nat} {t:SetTable}
def ElT (prog:y0q) (w:World) (h:Heap) (a:Addr) (e:Int×Value) (m:List Int×Addr):Prop:=e.2=.ref m.2/\m.2<a/\TK prog w h m.1 m.2/\e.1=(tupleKind (intKind prog w)).hash m.1
theorem zit {h:Int} {Q:SetFound->y04->Prop} (ho:s.heap.get? a=some { cls:=.type "set",dict:=none,data:=.set es ep t,slots:=#[] }) (ok:TOk t) (hsz:t.place.size=es.size) (hel:∀e∈es.toList,∃m,m.1≠ns/\ElT prog w s.heap a e m) (hp:TK prog w s.heap ns p) (hA:A.units<cLine)
    (hQ:∀j,t.slot j=.empty->j<=t.mask->j∉t.place.toList->Q (.free j false) s):∀(d fuel:Nat) (st:Option SetTable.Probe),Pv t (st.getD (t.probeStart h))->t.slot (adv t d (st.getD (t.probeStart h))).j=.empty->d<10*(t.mask+15)->d<fuel ->
      y0u (y37 prog w) A (setSearchFrom a (.ref p) h true fuel st) Q E s:=by
  intro d
  induction d using Nat.strongRecOn with
  | ind d ih =>
    intro fuel st hpv he hd hfu
    obtain⟨fuel,rfl⟩:∃m,fuel=Nat.succ m:=⟨fuel - 1,by omega⟩
    rw[setSearchFrom.eq_2]
    have hf:=z67 ok hsz
    refine y02 (wpAny_setState_of ho rfl hf ?_)
    dsimp only
    rw[zlm ok,if_neg y22]
    rcases zpa (f:=fun i=>(Option.map (fun x=>x.fst) es[i]?).getD 0) (h:=h) ok _ d _ hpv he hd with ⟨j,e,h1,h2,h3⟩|⟨k,j,i,hk,e,h1,h2,h3⟩
    · have e':t.probe (fun i=>(Option.map (fun x=>x.fst) es[i]?).getD 0) h (st.getD (t.probeStart h))=some (.empty j none):=e
      show y0u _ _ (match t.probe (fun i=>(Option.map (fun x=>x.fst) es[i]?).getD 0) h (st.getD (t.probeStart h)) with|some met=>_|x=>_) _ _ _
      rw[e']
      exact y06 (hQ j h1 h2 h3)
    · have e':t.probe (fun i=>(Option.map (fun x=>x.fst) es[i]?).getD 0) h (st.getD (t.probeStart h))=some (.candidate j i (adv t (k+1) (st.getD (t.probeStart h)))):=e
      show y0u _ _ (match t.probe (fun i=>(Option.map (fun x=>x.fst) es[i]?).getD 0) h (st.getD (t.probeStart h)) with|some met=>_|x=>_) _ _ _
      rw[e']
      dsimp only
      have hil:i<es.size:=by
        rw[<- hsz]
        exact (Array.getElem?_eq_some_iff.mp h2).1
      have hei:es[i]?=some es[i]:=y1o hil
      have hmem:es[i]∈es.toList:=by simp
      obtain⟨⟨ms,q⟩,hne,hq1,hq2,hq3,hq4⟩:=hel es[i] hmem
      have fin:y0u (y37 prog w) A (match es[i]? with
          | some (fst,y)=>do
            let equal <- holding [y] (eqBool y (.ref p))
            let __x <- setState a
            match __x with
              | (es',fst,t') =>
                if (true && equal)=true then pure (SetFound.there none)
                else
                  match t'.sameMemory t.moves t.mask with
                  | some same =>
                    have __do_jp:=fun still =>
                      match still with
                      | none=>do
                        rule "set.search.anew"
                        setSearchFrom a (.ref p) h true fuel none
                      | some i' =>
                        if equal=true then pure (SetFound.there (some i'))
                        else setSearchFrom a (.ref p) h true fuel (some (adv t (k+1) (st.getD (t.probeStart h))))
                    match if same=true then t'.slot j else SetTable.Slot.empty with
                    | SetTable.Slot.live i' =>
                      match es'[i']? with
                      | some (fst,y')=>do
                        let __do_lift <- isSame y' y
                        let still <- pure (if __do_lift=true then some i' else none)
                        __do_jp still
                      | none=>do
                        let still <- pure none
                        __do_jp still
                    | x=>do
                      let still <- pure none
                      __do_jp still
                  | x=>unsupported "set.changed-during-lookup:is-the-new-block-at-the-old-address"
          | x=>unsupported "internal:set-entry") Q E s:=by
        rw[hei]
        rcases hee:es[i] with ⟨hh,y⟩
        rw[hee] at hq1
        dsimp only at hq1
        subst hq1
        dsimp only
        refine y02 (y2k ((tupleKind (intKind prog w)).eqBool hA hq3 hp ?_))
        rw[decide_eq_false hne]
        refine y02 (wpAny_setState_of ho rfl hf ?_)
        dsimp only
        rw[if_neg (by decide)]
        have hsm:t.sameMemory t.moves t.mask=some true:=by
          unfold SetTable.sameMemory
          rw[if_pos (by simp)]
        rw[hsm]
        dsimp only
        rw[if_pos rfl,h1]
        dsimp only
        rw[hei,hee]
        dsimp only
        have same:isSame (.ref q) (.ref q)=pure true:=by
          unfold isSame
          simp
        rw[same]
        refine y02 (y06 (y02 (y06 ?_)))
        rw[if_pos rfl]
        dsimp only
        rw[if_neg (by decide)]
        have hadd:adv t (d - (k+1)) (adv t (k+1) (st.getD (t.probeStart h)))=adv t d (st.getD (t.probeStart h)):=by
          rw[<- z9u]
          congr 1
          omega
        exact ih (d - (k+1)) (by omega) fuel (some _) (zks _ hpv) (by show t.slot (adv t _ (adv t (k+1) _)).j=_;rw[hadd];exact he) (by omega) (by omega)
      by_cases hled:(!t.led)=true
      · rw[if_pos hled]
        refine y02 (zls hp (fun y hy=>?_) ?_)
        · obtain⟨e0,he0,rfl⟩:=y0m.mp hy
          have he1:e0∈es.toList:=by
            rw[Array.toList_filter] at he0
            exact (List.mem_filter.mp he0).1
          obtain⟨⟨ms',q'⟩,_,r1,_,r3,_⟩:=hel e0 he1
          exact⟨q',ms',r1,r3⟩
        · rw[if_neg (by decide)]
          exact fin
      · rw[if_neg hled]
        exact fin
end
end
section
variable [Tbl]
section
variable {prog:y0q} {w:World} {A:Around} {E:Value->y04->Prop} {s:y04} {a p:Addr} {ns:List Int}
noncomputable def SetT (prog:y0q) (w:World) (h:Heap) (a:Addr) (ks:List (List Int×Addr)):Prop:=∃(es:Array (Int×Value)) (ep:Nat) (t:SetTable) (ks':List (List Int×Addr)),
 h.get? a=some { cls:=.type "set",dict:=none,data:=.set es ep t,slots:=#[] }/\Paired (ElT prog w h a) es.toList ks'/\ks'.Perm ks/\TOk t/\t.place.size=es.size/\t.led=!z0u w/\t.plain=true/\(t.mask=7->es.size<=4)
theorem zk6 {h h':Heap} {e:Int×Value} {ms:List Int×Addr} (x:ElT prog w h a e ms) (k:∀b o,b≠a->h.get? b=some o->h'.get? b=some o):ElT prog w h' a e ms:=by
 obtain⟨h1,h2,h3,h4⟩:=x
 exact⟨h1,h2,z8z h3 fun o e=>k _ o (y0y h2) e,h4⟩
theorem zd9 {h h':Heap} (k:∀b o,b≠a->h.get? b=some o->h'.get? b=some o):∀{es:List (Int×Value)} {ks:List (List Int×Addr)},Paired (ElT prog w h a) es ks->Paired (ElT prog w h' a) es ks
 | _,_,.nil=>.nil
 | _,_,.cons x r=>.cons (zk6 x k) (zd9 k r)
theorem zoa {t:SetTable} {j n:Nat} (ok:TOk t) (hj:j<=t.mask) (hn:j∉t.place.toList) (he:t.slot j=.empty) (hs:t.place.size=n) (hl:n+1<=t.mask):TOk (t.put j).1/\(t.put j).1.place.size=n+1/\(t.put j).1.mask=t.mask/\(t.put j).1.led=t.led/\(t.put j).1.plain=t.plain/\(t.put j).1.moves=t.moves/\(t.put j).1.finger=t.finger:=by
 have hd:SetTable.has t.dummies j=false:=by
  rw[ok.dm]
  unfold SetTable.has
  rfl
 have hl2:(SetTable.insertAt t.place (SetTable.below t.place j) j).toList=t.place.toList.take (SetTable.below t.place j)++j::t.place.toList.drop (SetTable.below t.place j):=SetTable.toList_insertAt ..
 have hsz:(SetTable.insertAt t.place (SetTable.below t.place j) j).size=n+1:=by
  rw[<- y1z,hl2,y21,y0w,List.length_take,List.length_drop,y1z,hs]
  have:=(z48 j ok.rs).1
  omega
 refine⟨⟨?_,?_,?_,ok.ms,?_⟩,hsz,rfl,rfl,rfl,rfl,rfl⟩
 ·exact zab ok.rs (z6o fun i z=>by rw[he] at z;cases z)
 ·intro x hx
  have hx':x∈(SetTable.insertAt t.place (SetTable.below t.place j) j).toList:=hx
  rw[hl2] at hx'
  rcases y10.mp hx' with q|q
  ·exact ok.le x (List.mem_of_mem_take q)
  ·rcases y09.mp q with rfl|q
   ·exact hj
   ·exact ok.le x (List.mem_of_mem_drop q)
 ·show (if SetTable.has t.dummies j=true then _ else t.dummies)=#[]
  rw[hd,if_neg y22]
  exact ok.dm
 ·show (SetTable.insertAt t.place (SetTable.below t.place j) j).size<=t.mask
  rw[hsz]
  exact hl
theorem zix {es:Array (Int×Value)} {ep:Nat} {t:SetTable} {Q:Unit->y04->Prop} (ho:s.heap.get? a=some { cls:=.type "set",dict:=none,data:=.set es ep t,slots:=#[] }) (ok:TOk t) (hsz:t.place.size=es.size) (h5:es.size<=18)
    (h:∀es' t',es'.toList.Perm es.toList->TOk t'->t'.mask=31->t'.place.size=es'.size->t'.led=t.led->t'.plain=t.plain->Q () { s with heap:=s.heap.update a (Obj.putSet es' t') }) :
    y0u (y37 prog w) A (setRelay a 20) Q E s:=by
  unfold setRelay
  refine y02 (wpAny_setState_of ho rfl (z67 ok hsz) ?_)
  dsimp only
  have e32:SetTable.sizeAbove 20=32:=by decide +kernel
  rw[if_neg (by rw[e32,y2p];decide)]
  obtain⟨t',order,el,ok',hm,hled,hpl,hps,hor⟩:=zmu (mask:=31) (finger:=t.finger) (moves:=t.movedTo 31) (led:=t.led) (plain:=t.plain) (.inr rfl) (Array.map (fun x=>x.fst) es) (by rw[Array.size_map];omega)
  rw[Array.size_map] at hps hor
  have er:t.relaid (Array.map (fun x=>x.fst) es) 20=some (t',order):=by
    unfold SetTable.relaid
    rw[e32]
    exact el
  have hpe:(Array.filterMap (fun x=>es[x]?) order).toList.Perm es.toList:=by
    rw[Array.toList_filterMap]
    have h1:=hor.filterMap fun x=>es[x]?
    refine h1.trans (.of_eq ?_)
    have gen:∀l:List (Int×Value),(List.range l.length).filterMap (fun x=>l[x]?)=l:=by
      intro l
      induction l with
      | nil=>rfl
      | cons x l ih =>
        rw[y0w,List.range_succ_eq_map,List.filterMap_cons]
        simp only[y2a,List.filterMap_map]
        congr 1
    have:=gen es.toList
    rw[y1z] at this
    simpa using this
  have hz2:(Array.filterMap (fun x=>es[x]?) order).size=es.size:=by
    have:=hpe.length_eq
    rw[y1z,y1z] at this
    exact this
  rw[er]
  show y0u _ _ (do
    let __x <- (if ((Array.filterMap (fun x=>es[x]?) order).size != es.size)=true then do
        let __r <- unsupported "internal:set-table-lost-an-element"
        pure (Array.filterMap (fun x=>es[x]?) order,t')
      else pure (Array.filterMap (fun x=>es[x]?) order,t'))
    match __x with
      | (es,t)=>storeSet a es t) _ _ _
  rw[if_neg (by rw[hz2];simp)]
  refine y02 (y06 ?_)
  dsimp only
  refine wpAny_storeSet_of ho rfl (h _ _ hpe ok' hm (by rw[hps,hz2]) hled hpl) ?_
  rw[hz2,y2p]
  omega
theorem ziq {ks:List (List Int×Addr)} {Q:Bool->y04->Prop} (hS:SetT prog w s.heap a ks) (hp:TK prog w s.heap ns p) (hpa:p<a) (hn:ns∉ks.map (·.1)) (hl:ks.length<=16) (hA:A.units<cLine)
  (h:∀h',Heap.SameBut a s.heap h'->SetT prog w h' a (ks++[(ns,p)])->Q true { s with heap:=h' }):y0u (y37 prog w) A (setAddHashed a (.ref p) ((tupleKind (intKind prog w)).hash ns)) Q E s:=by
 obtain⟨es,ep,t,ks',ho,hpd,hpm,ok,hsz,hled,hpl,h4⟩:=id hS
 have hlen:es.size=ks.length:=by rw[<- hpm.length_eq,<- z3o hpd,y1z]
 have hf:=z67 ok hsz
 have hel:∀e∈es.toList,∃m,m.1≠ns/\ElT prog w s.heap a e m:=fun e he=>by
  obtain⟨i,hi⟩:=List.getElem?_of_mem he
  obtain⟨ms,h1,h2⟩:=zd8 hpd hi
  exact⟨ms,fun z=>hn (y0m.mpr ⟨ms,hpm.mem_iff.mp (y1v h1),z⟩),h2⟩
 unfold setAddHashed
 refine y2k ?_
 show y0u _ _ (setAddHashedIn a (.ref p) _ (Nat.succ 99999)) _ _ _
 rw[setAddHashedIn.eq_2]
 refine y02 (wpAny_setState_of ho rfl hf ?_)
 dsimp only
 rw[if_neg (show ¬byScan (.ref p) es=true from by unfold byScan;simp[Value.scannable])]
 obtain⟨d,hd1,hd2⟩:=reach ok (zcw t ((tupleKind (intKind prog w)).hash ns))
 have hmask:=ok.ms
 refine y02 (zit ho ok hsz hel hp hA (fun j h1 h2 h3=>?_) d 100000 none (zcw t _) hd2 hd1 (by omega))
 dsimp only
 refine y02 (wpAny_setState_of ho rfl hf ?_)
 dsimp only
 have hroom:es.size+1<=t.mask:=by
  rcases ok.ms with e|e
  ·have:=h4 e
   omega
  ·omega
 obtain⟨ok1,sz1,m1,l1,p1,mv1,f1⟩:=zoa ok h2 h3 h1 hsz hroom
 have epl:(t.put j).1.plain=true:=p1.trans hpl
 have hins:(SetTable.insertAt es (t.put j).2 ((tupleKind (intKind prog w)).hash ns,.ref p)).toList.Perm (es.toList++[((tupleKind (intKind prog w)).hash ns,.ref p)]):=by
  have:=SetTable.insertAt_perm es (t.put j).2 ((tupleKind (intKind prog w)).hash ns,Value.ref p)
  simpa using this
 have hisz:(SetTable.insertAt es (t.put j).2 ((tupleKind (intKind prog w)).hash ns,.ref p)).size=es.size+1:=by
  have:=hins.length_eq
  simpa using this
 rcases hput:t.put j with ⟨t1,pl⟩
 rw[hput] at ok1 sz1 m1 l1 p1 epl hins hisz
 dsimp only at ok1 sz1 m1 l1 p1 epl hins hisz ⊢
 rw[if_pos epl]
 refine y02 (zp9 hp ?_)
 simp only[if_true]
 have hz18:es.size+1<=y0j:=by rw[y2p];omega
 have pd1:∀{h':Heap},(∀b o,b≠a->s.heap.get? b=some o->h'.get? b=some o)->Paired (ElT prog w h' a) (es.toList++[((tupleKind (intKind prog w)).hash ns,Value.ref p)]) (ks'++[(ns,p)]):=fun {h'} k=>z6z (zd9 k hpd) (.cons ⟨rfl,hpa,z8z hp fun o e=>k p o (y0y hpa) e,rfl⟩ .nil)
 refine y02 (wpAny_storeSet_of ho rfl ?_ (by rw[hisz];exact hz18))
 have ho1:=zd5 (es':=SetTable.insertAt es pl ((tupleKind (intKind prog w)).hash ns,.ref p)) (t':=t1) ho
 have sb1:=Heap.SameBut.update s.heap a (Obj.putSet (SetTable.insertAt es pl ((tupleKind (intKind prog w)).hash ns,.ref p)) t1)
 have k1:∀b o,b≠a->s.heap.get? b=some o->(s.heap.update a (Obj.putSet (SetTable.insertAt es pl ((tupleKind (intKind prog w)).hash ns,.ref p)) t1)).get? b=some o:=fun b o hb e=>(sb1.2 b hb).trans e
 by_cases hfull:(!false && t1.tooFull)=true
 ·rw[if_pos hfull]
  have hfull':t1.place.size*5 >= t1.mask*3:=by
   have:t1.tooFull=true:=by simpa using hfull
   unfold SetTable.tooFull SetTable.fill at this
   rw[ok1.dm] at this
   simpa using this
  have h44:es.size=4:=by
   rw[sz1,m1] at hfull'
   rcases ok.ms with e|e
   ·have:=h4 e
    rw[e] at hfull'
    omega
   ·rw[e] at hfull'
    omega
  have eg:SetTable.grown (es.size+1)=20:=by
   rw[h44]
   rfl
  rw[eg]
  refine y02 (zix (s:={ s with heap:=s.heap.update a (Obj.putSet (SetTable.insertAt es pl ((tupleKind (intKind prog w)).hash ns,.ref p)) t1) }) ho1 ok1 (by rw[sz1,hisz]) (by rw[hisz];omega) fun es2 t2 hp2 ok2 m2 s2 l2 p2=>?_)
  refine y06 ?_
  have ho2:=zd5 (es':=es2) (t':=t2) ho1
  have sb2:=Heap.SameBut.update (s.heap.update a (Obj.putSet (SetTable.insertAt es pl ((tupleKind (intKind prog w)).hash ns,.ref p)) t1)) a (Obj.putSet es2 t2)
  obtain⟨k2,q1,q2⟩:=z6y (hp2.trans hins) (pd1 fun b o hb e=>(sb2.2 b hb).trans (k1 b o hb e))
  exact h _ (sb1.trans sb2) ⟨es2,_,t2,k2,ho2,q1,q2.trans (hpm.append_right _),ok2,s2,by rw[l2,l1];exact hled,by rw[p2];exact epl,fun e=>by rw[m2] at e;cases e⟩
 ·rw[if_neg hfull]
  refine y06 ?_
  obtain⟨k2,q1,q2⟩:=z6y hins (pd1 k1)
  refine h _ sb1 ⟨_,_,t1,k2,ho1,q1,q2.trans (hpm.append_right _),ok1,by rw[sz1,hisz],by rw[l1];exact hled,epl,fun e=>?_⟩
  rw[hisz]
  have hnf:¬t1.place.size*5 >= t1.mask*3:=fun z=>hfull (by
   unfold SetTable.tooFull SetTable.fill
   rw[ok1.dm]
   simpa using z)
  rw[sz1,e] at hnf
  omega
end
end
section
variable [Tbl]
theorem z2a {α:Type} {r:α->α->Prop} (anti:∀a b,r a b->r b a->a=b):∀{l m:List α},l.Perm m->l.Pairwise r->m.Pairwise r->l=m
 | [],m,p,_,_=>(List.Perm.nil_eq p)
 | a::l,m,p,h1,h2=>by
  cases m with
  | nil=>exact absurd p.length_eq (by simp)
  | cons b m =>
   have hab:a=b:=by
    have ha:a∈b::m:=p.mem_iff.mp (by simp)
    have hb:b∈a::l:=p.mem_iff.mpr (by simp)
    rcases y09.mp ha with q|q
    ·exact q
    ·rcases y09.mp hb with z|z
     ·exact z.symm
     ·exact anti a b ((y18.mp h1).1 b z) ((y18.mp h2).1 a q)
   subst hab
   rw[z2a anti (List.perm_cons a |>.mp p) (y18.mp h1).2 (y18.mp h2).2]
theorem insI_perm (x:Int):∀l:List Int,(insI x l).Perm (x::l)
 | []=>.rfl
 | y::ys=>by
  unfold insI
  split
  ·exact .rfl
  ·exact ((insI_perm x ys).cons y).trans (.swap _ _ _)
theorem sortI_perm:∀l:List Int,(sortI l).Perm l
 | []=>.rfl
 | x::xs=>(insI_perm x _).trans ((sortI_perm xs).cons x)
theorem zhd (x:Int):∀{l:List Int},l.Pairwise (·<=·)->(insI x l).Pairwise (·<=·)
 | [],_=>by simp[insI]
 | y::ys,h=>by
  unfold insI
  have h':=y18.mp h
  split
  next q=>exact y18.mpr ⟨fun z hz=>by
   rcases y09.mp hz with rfl|hz
   ·exact q
   ·exact Int.le_trans q (h'.1 z hz),h⟩
  next q=>exact y18.mpr ⟨fun z hz=>by
   rcases y09.mp ((insI_perm x ys).mem_iff.mp hz) with rfl|hz
   ·omega
   ·exact h'.1 z hz,zhd x h'.2⟩
theorem z68:∀l:List Int,(sortI l).Pairwise (·<=·)
 | []=>.nil
 | x::xs=>zhd x (z68 xs)
theorem z97 {l m:List Int} (p:l.Perm m) (h:l.Pairwise (·<=·)):l=sortI m:=z2a (fun a b h1 h2=>Int.le_antisymm h1 h2) (p.trans (sortI_perm m).symm) h (z68 m)
theorem z6n {l m:List Int} (p:l.Perm m):sortI l=sortI m:=z97 ((sortI_perm l).trans p) (z68 l)
abbrev sLe (x y:Str):Prop:=strLt y x=false
theorem zil (x y:Str):strLt x y=ltCps x.cps.toList y.cps.toList:=(ltCps_eq _ _).symm
theorem zfx {x y:Str} (h:strLt x y=true):sLe x y:=by
 unfold sLe strLt at *
 simp only[decide_eq_true_eq,decide_eq_false_iff_not] at *
 exact List.lt_asymm h
theorem zaa {x y z:Str} (h1:sLe x y) (h2:sLe y z):sLe x z:=by
 unfold sLe strLt at *
 simp only[decide_eq_false_iff_not] at *
 exact List.not_lt.mpr (List.le_trans (List.not_lt.mp h1) (List.not_lt.mp h2))
theorem ziv {x y:Str} (h1:sLe x y) (h2:sLe y x):x=y:=by
 unfold sLe strLt at *
 simp only[decide_eq_false_iff_not] at *
 have e:x.cps.toList=y.cps.toList:=List.le_antisymm (List.not_lt.mp h1) (List.not_lt.mp h2)
 cases x
 cases y
 simp only[Array.toList_inj] at e
 exact congrArg _ e
theorem z7i (x:Str):∀l:List Str,(insS x l).Perm (x::l)
 | []=>.rfl
 | y::ys=>by
  unfold insS
  split
  ·exact .rfl
  ·exact ((z7i x ys).cons y).trans (.swap _ _ _)
theorem z41:∀l:List Str,(z63 l).Perm l
 | []=>.rfl
 | x::xs=>(z7i x _).trans ((z41 xs).cons x)
theorem zhb (x:Str):∀{l:List Str},l.Pairwise sLe->(insS x l).Pairwise sLe
 | [],_=>by simp[insS]
 | y::ys,h=>by
  unfold insS
  have h':=y18.mp h
  split
  next q =>
   have q':sLe x y:=by simpa [sLe] using q
   exact y18.mpr ⟨fun z hz=>by
    rcases y09.mp hz with rfl|hz
    ·exact q'
    ·exact zaa q' (h'.1 z hz),h⟩
  next q =>
   have q':strLt y x=true:=by simpa using q
   exact y18.mpr ⟨fun z hz=>by
    rcases y09.mp ((z7i x ys).mem_iff.mp hz) with rfl|hz
    ·exact zfx q'
    ·exact h'.1 z hz,zhb x h'.2⟩
theorem z94:∀l:List Str,(z63 l).Pairwise sLe
 | []=>.nil
 | x::xs=>zhb x (z94 xs)
theorem zcy {l m:List Str} (p:l.Perm m) (h:l.Pairwise sLe):l=z63 m:=z2a (fun a b h1 h2=>ziv h1 h2) (p.trans (z41 m).symm) h (z94 m)
theorem z6m {l m:List Str} (p:l.Perm m):z63 l=z63 m:=zcy ((z41 l).trans p) (z94 l)
theorem z8d:∀(l:List Str) (p:Str),risingS p l=true->(p::l).Pairwise sLe
 | [],p,_=>by simp
 | x::r,p,h=>by
  simp only[risingS,y1b,Bool.not_eq_true'] at h
  have ih:=z8d r x h.2
  have hpx:sLe p x:=by
   unfold sLe
   rw[zil]
   exact h.1
  refine y18.mpr ⟨fun z hz=>?_,ih⟩
  rcases y09.mp hz with rfl|hz
  ·exact hpx
  ·exact zaa hpx ((y18.mp ih).1 z hz)
theorem zei {l:List Str} (h:sortedS l=true):l.Pairwise sLe:=by
 cases l with
 | nil=>exact .nil
 | cons x r=>exact z8d r x h
section
variable {K:Type} [DecidableEq K]
theorem zkg {ks:List K} {k x:K}:x∈addK ks k <-> x∈ks\/x=k:=by
 unfold addK
 split
 next h =>
  constructor
  ·exact .inl
  ·rintro (q|rfl)
   ·exact q
   ·exact h
 next=>simp
theorem zfb {ks:List K} {k:K} (h:ks.Nodup):(addK ks k).Nodup:=by
 unfold addK
 split
 ·exact h
 next q=>exact y1m.mpr ⟨h,by simp,fun a ha b hb=>by simp at hb;subst hb;rintro rfl;exact q ha⟩
theorem foldl_addK:∀(ks acc:List K),acc.Nodup->(ks.foldl addK acc).Nodup/\∀x,x∈ks.foldl addK acc <-> x∈acc\/x∈ks
 | [],acc,h=>⟨h,by simp⟩
 | k::ks,acc,h=>by
  obtain⟨h1,h2⟩:=foldl_addK ks (addK acc k) (zfb h)
  refine⟨h1,fun x=>?_⟩
  rw[List.foldl_cons,h2,zkg,y09,or_assoc]
theorem zb2 {x:K}:∀{l:List K},x∈dedup l <-> x∈l
 | []=>by simp[dedup]
 | y::ys=>by
  unfold dedup
  simp only[y09,List.mem_filter,zb2 (l:=ys),decide_eq_true_eq,ne_eq]
  by_cases e:x=y <;> simp[e]
theorem z7n:∀(l:List K),(dedup l).Nodup
 | []=>by simp[dedup]
 | y::ys=>by
  unfold dedup
  refine y0r.mpr ⟨by simp,(z7n ys).sublist List.filter_sublist⟩
theorem z9e {l m:List K} (h1:l.Nodup) (h2:m.Nodup) (h:∀x,x∈l <-> x∈m):l.Perm m:=(List.perm_ext_iff_of_nodup h1 h2).mpr h
theorem z3y (ks:List K):(z0w ks).Perm (dedup ks):=by
 obtain⟨h1,h2⟩:=foldl_addK ks [] .nil
 exact z9e h1 (z7n ks) fun x=>by
  unfold z0w
  rw[h2,zb2]
  simp
theorem z5w {J:Type} [DecidableEq J] (f:J->K) (hf:∀a b,f a=f b->a=b) (l:List J):z0w (l.map f)=(z0w l).map f:=by
 have key:∀(l acc:List J),(l.map f).foldl addK (acc.map f)=(l.foldl addK acc).map f:=by
  intro l
  induction l with
  | nil=>intro acc;rfl
  | cons x r ih =>
   intro acc
   rw[y0d,List.foldl_cons,List.foldl_cons,<- ih]
   congr 1
   unfold addK
   have:f x∈acc.map f <-> x∈acc:=by
    rw[y0m]
    exact⟨fun⟨a,ha,e⟩=>hf a x e▸ha,fun h=>⟨x,h,rfl⟩⟩
   by_cases q:x∈acc
   ·rw[if_pos q,if_pos (this.mpr q)]
   ·rw[if_neg q,if_neg (fun z=>q (this.mp z)),List.map_append]
    rfl
 exact key l []
end
end
section
variable [Tbl]
section
variable {prog:y0q} {w:World} {A:Around} {E:Value->y04->Prop} {s:y04}
inductive Srt:List Value->List Value->Prop where
 | ofI {vs out:List Value} {ns:List Int}:IntsAre vs ns->IntsAre out (sortI ns)->Srt vs out
 | ofS {vs out:List Value} {ss:List Str}:StrsAre vs ss->StrsAre out (z63 ss)->Srt vs out
def z6g (vs:List Value):Prop:=vs.length<64/\((∃ns,IntsAre vs ns)\/∃ss,StrsAre vs ss)
theorem sortedHeap_at {h:Heap} {a:Addr} {vs:List Value} {n:Nat} {out:Array Value} (ho:h.get? a=some (seqObj "list" vs.toArray n)) :
  (∃e,(sortedHeap h a vs out).get? a=some (seqObj "list" out e))/\∀b o,b≠a->h.get? b=some o->(sortedHeap h a vs out).get? b=some o:=by
 have hlt:=y0c ho
 unfold sortedHeap
 refine⟨?_,fun b o hb e=>?_⟩
 ·have h1:=get?_update_seq ho (fun _=>(#[]:Array Value))
  have h2:=y03 (seqObj "tuple" vs.toArray 0) h1
  have h3:=y03 (seqObj "list" #[] 0) h2
  exact⟨_,get?_update_seq h3 (fun _=>out)⟩
 ·rw[y3c _ _ (Ne.symm hb)]
  exact y03 _ (y03 _ ((y3c _ _ (Ne.symm hb)).trans e))
theorem zfn {a:Addr} {vs:List Value} {n:Nat} {P:Fin->y04->Prop} (ho:s.heap.get? a=some (seqObj "list" vs.toArray n)) (hs:z6g vs)
  (h:∀out:Array Value,Srt vs out.toList->P (.done (.ret .none)) { s with heap:=sortedHeap s.heap a vs out }):y0u (y37 prog w) A (Builtin.«list.sort» ⟨[.ref a],[]⟩) P E s:=by
 obtain⟨h64,⟨ns,hI⟩|⟨ss,hS⟩⟩:=hs
 ·refine list_sort_tree ho hI h64 fun out ns' a1 a2 a3=>h out (.ofI hI ?_)
  rw[<- z97 a2 a3]
  exact a1
 ·refine list_sort_treeK strKind_oneLt ho hS.keysOf (fun v₁ v₂ rest e=>keyKind_strs (by rw[<- e];exact hS)) h64 fun st' hp hs=>?_
  obtain⟨ss',h1,h2,h3⟩:=sorted_out_str hS hp hs
  refine h _ (.ofS hS ?_)
  rw[<- zcy h2 (zei h3)]
  exact h1
theorem z6l {r:Addr} {C:List Value->Prop} {Q:Value->y04->Prop}
  (hcol:∀(E':Value->y04->Prop) (R:List Value->y04->Prop),(∀h' tk d vs,(∀b o,s.heap.get? b=some o->h'.get? b=some o)->s.heap.objs.size<=h'.objs.size->C vs->R vs { s with heap:=h',toks:=tk,drawn:=d })->y0u (y37 prog w) A.in1 (collect (.ref r)) R E' s)
  (hC:∀vs,C vs->z6g vs)
  (h:∀h' tk d D e vs out,C vs->Srt vs out->(∀b o,s.heap.get? b=some o->h'.get? b=some o)->s.heap.objs.size<=D->h'.get? D=some (seqObj "list" out.toArray e)->Q (.ref D) { s with heap:=h',toks:=tk,drawn:=d }) :
  y0u (y37 prog w) A (call (.builtin "sorted") [.ref r]) Q E s:=by
 refine Calls.call_function_entry kind_sorted plain_sorted entry_sorted (args_sorted1 _) ?_
 unfold Builtin.«sorted»
 refine y02 (m:=checkCount "sorted" 1 1 _) (y06 ?_)
 refine y02 (hcol _ _ fun h' tk d vs kp hsz c=>?_)
 have hs:=hC vs c
 have hz:vs.length<=y0j:=by
  have:=hs.1
  rw[y2p]
  omega
 refine y02 (wpAny_newList ?_ hz)
 have hoL:(h'.push (seqObj "list" vs.toArray 0)).get? h'.objs.size=some (seqObj "list" vs.toArray 0):=y0l _ rfl
 refine y02 (y2k (y2w slot_list_sort ⟨_,hoL,rfl⟩ entry_list_sort (zfn hoL hs fun out so=>⟨_,rfl,?_⟩) (args_list_sort _)))
 obtain⟨⟨e,he⟩,hk⟩:=sortedHeap_at (out:=out) hoL
 refine y06 ⟨_,rfl,?_⟩
 exact h _ tk d h'.objs.size e vs out.toList c so (fun b o q=>hk b o (y0y (y0c (kp b o q))) (y03 _ (kp b o q))) hsz he
theorem zeh {K:Type} [DecidableEq K] {knd:PySem.KeyKind prog w K} {a:Addr} {ks:List K} {Q:Value->y04->Prop} (hh:A.handled=none) (hS:SetK knd s.heap a ks)
  (hC:∀vs ks',Paired (IsV knd) vs ks'->ks'.Perm ks->z6g vs)
  (h:∀h' tk d D e vs out ks',Paired (IsV knd) vs ks'->ks'.Perm ks->Srt vs out->(∀b o,s.heap.get? b=some o->h'.get? b=some o)->s.heap.objs.size<=D->h'.get? D=some (seqObj "list" out.toArray e)->Q (.ref D) { s with heap:=h',toks:=tk,drawn:=d }) :
  y0u (y37 prog w) A (call (.builtin "sorted") [.ref a]) Q E s:=by
 refine z6l (C:=fun vs=>∃ks',Paired (IsV knd) vs ks'/\ks'.Perm ks) (fun E' R hR=>zcd hh hS fun h' tk d vs ks' kp hz hv hp=>hR h' tk d vs kp hz ⟨ks',hv,hp⟩) (fun vs ⟨ks',hv,hp⟩=>hC vs ks' hv hp) fun h' tk d D e vs out ⟨ks',hv,hp⟩ so kp hD he=>h h' tk d D e vs out ks' hv hp so kp hD he
end
section
variable {X:Cx} {pins:List (Addr×Obj)} {σ:L2.St} {H:Hp} {s:y04}
theorem z7f {a:Addr} {o:HO} {t':Nat} {d':Drawn} {h':Heap} (I:Inv X pins σ H s) (k:∀b u,s.heap.get? b=some u->h'.get? b=some u) (hp:s.heap.objs.size<=a) (new:z2n X.prog X.w (upd H a o) h' a o) :
  Inv X pins σ (upd H a o) { s with heap:=h',toks:=t',drawn:=d' } :=
 I.call (ch:=[]) (g':=s.gens) (Un.laid k hp (I.hok.fresh hp)) (I.hok.laid k hp new) I.bare fun _ z=>nomatch z
theorem z7g:∀{us:List Value} {ns:List Int},IntsAre us ns->Vals (ns.map V.int) us
 | _,_,.nil=>.nil
 | _,_,.cons n t r=>.cons ⟨t,rfl⟩ (z7g r)
theorem z6k:∀{us:List Value} {ss:List Str},StrsAre us ss->Vals (ss.map V.str) us
 | _,_,.nil=>.nil
 | _,_,.cons n t r=>.cons ⟨t,rfl⟩ (z6k r)
theorem z51:∀{us:List Value} {ks:List L2.Key},Vals (ks.map kV) us->Paired (IsV (z0f X.prog X.w)) us ks
 | [],[],_=>.nil
 | _,.inl i::ks,.cons r rs=>by
  obtain⟨t,rfl⟩:=r
  exact .cons ⟨z75 _ _ i t,rfl⟩ (z51 rs)
 | _,.inr x::ks,.cons r rs=>by
  obtain⟨t,rfl⟩:=r
  exact .cons ⟨z74 _ _ x t,rfl⟩ (z51 rs)
theorem z7d:∀{us:List Value} {ks:List L2.Key} {ns:List Int},Paired (IsV (z0f X.prog X.w)) us ks->ks=ns.map Sum.inl->IntsAre us ns
 | _,_,[],.nil,_=>.nil
 | _,_,n::ns,.cons a b,e=>by
  cases e
  have a1:=a.1
  rw[z8j] at a1
  rcases z0m a1 with ⟨i,t,e1,rfl⟩|⟨x,t,e1,rfl⟩
  ·cases e1
   exact .cons _ t (z7d b rfl)
  ·cases e1
theorem z7c:∀{us:List Value} {ks:List L2.Key} {ss:List Str},Paired (IsV (z0f X.prog X.w)) us ks->ks=ss.map Sum.inr->StrsAre us ss
 | _,_,[],.nil,_=>.nil
 | _,_,n::ns,.cons a b,e=>by
  cases e
  have a1:=a.1
  rw[z8j] at a1
  rcases z0m a1 with ⟨i,t,e1,rfl⟩|⟨x,t,e1,rfl⟩
  ·cases e1
  ·cases e1
   exact .cons _ t (z7c b rfl)
theorem z21 {α β:Type} (f:α->β):∀{l:List α} {m:List β},m.Perm (l.map f)->∃l':List α,m=l'.map f/\l'.Perm l:=by
 intro l m p
 generalize hx:l.map f=lf at p
 induction p generalizing l with
 | nil =>
  rw[List.map_eq_nil_iff] at hx
  subst hx
  exact⟨[],rfl,.rfl⟩
 | cons x _ ih =>
  cases l with
  | nil=>cases hx
  | cons a r =>
   simp only[y0d,List.cons.injEq] at hx
   obtain⟨l',e,q⟩:=ih hx.2
   exact⟨a::l',by rw[y0d,hx.1,e],q.cons a⟩
 | swap x y r =>
  match l,hx with
  | a::b::r',hx =>
   simp only[y0d,List.cons.injEq] at hx
   exact⟨b::a::r',by rw[y0d,y0d,hx.1,hx.2.1,hx.2.2],.swap _ _ _⟩
 | trans _ _ i1 i2 =>
  obtain⟨l1,e1,q1⟩:=i2 hx
  obtain⟨l2,e2,q2⟩:=i1 e1.symm
  exact⟨l2,e2,q2.trans q1⟩
def setO (X:Cx) (l:Addr) (ks:List L2.Key):HO:=.ext fun h=>SetK (z0f X.prog X.w) h l ks
theorem zhx (hc:X.calm=true):z23 X (.type "set") (fun xs H Q=>∃p ks,xs=[.ref p]/\SqL X.K H p (ks.map kV)/\ks.length<64/\∀l,H l=none->Q (.ref l) (upd H l (setO X l (z0w ks)))):=by
 intro pins s σ H xs us Q I r h
 obtain⟨p,ks,rfl,hq,hz,q⟩:=h
 obtain⟨u,rfl,rx⟩:=vals1 r
 cases rx
 obtain⟨its,r',pl,hz'⟩:=I.list hq
 have hlen:=r'.length
 rw[y13] at hlen
 refine zf3 (knd:=z0f X.prog X.w) (ks:=ks) (I.ok.hd hc) pl.isList (z51 (by simpa using r')) (by simp only[y0h];unfold scanBound;omega) fun h' tk hS kp=>?_
 refine⟨.ref s.heap.objs.size,_,I.laid (t':=tk) (o:=setO X s.heap.objs.size (z0w ks)) (fun b o e=>kp b o (y0c e) e) (y0o _) ⟨hS,?_,fun h1 h2 x k=>x.at' k⟩,rfl,q _ (I.hok.fresh (y0o _))⟩
 obtain⟨es,ep,t,ks',ho,_⟩:=hS
 exact⟨_,ho⟩
def zbn (ks:List L2.Key) (ys:List V):Prop:=(∃ns:List Int,ks=ns.map Sum.inl/\ys=(sortI ns).map V.int)\/∃ss:List Str,ks=ss.map Sum.inr/\ys=(z63 ss).map V.str
theorem zcx {vs out:List Value} {ks ks':List L2.Key} {ys:List V} (hv:Paired (IsV (z0f X.prog X.w)) vs ks') (hp:ks'.Perm ks) (so:Srt vs out) (hk:zbn ks ys):Vals ys out:=by
 rcases hk with ⟨ns,rfl,rfl⟩|⟨ss,rfl,rfl⟩
 ·obtain⟨ns',rfl,hp'⟩:=z21 Sum.inl hp
  have hI:=z7d hv rfl
  cases so with
  | ofI a b =>
   rename_i ms
   rw[<- z6n hp',show ns'=ms from ?_]
   ·exact z7g b
   ·rw[<- IntsAre.numsOf hI,<- IntsAre.numsOf a]
  | ofS a b =>
   cases a with
   | nil =>
    cases hI
    have:ns=[]:=List.Perm.eq_nil hp'.symm
    subst this
    exact z6k b
   | cons x t _=>cases hI
 ·obtain⟨ss',rfl,hp'⟩:=z21 Sum.inr hp
  have hS:=z7c hv rfl
  cases so with
  | ofS a b =>
   rename_i ms
   rw[<- z6m hp',show ss'=ms from ?_]
   ·exact z6k b
   ·rw[<- StrsAre.strs hS,<- StrsAre.strs a]
  | ofI a b =>
   cases a with
   | nil =>
    cases hS
    have:ss=[]:=List.Perm.eq_nil hp'.symm
    subst this
    exact z7g b
   | cons x t _=>cases hS
theorem z59 {vs:List Value} {ks ks':List L2.Key} {ys:List V} (hz:ks.length<64) (hv:Paired (IsV (z0f X.prog X.w)) vs ks') (hp:ks'.Perm ks) (hk:zbn ks ys):z6g vs:=by
 refine⟨by rw[z3o hv,hp.length_eq];exact hz,?_⟩
 rcases hk with ⟨ns,rfl,_⟩|⟨ss,rfl,_⟩
 ·obtain⟨ns',rfl,_⟩:=z21 Sum.inl hp
  exact .inl ⟨_,z7d hv rfl⟩
 ·obtain⟨ss',rfl,_⟩:=z21 Sum.inr hp
  exact .inr ⟨_,z7c hv rfl⟩
theorem za5 {ks:List L2.Key} {ys:List V} (h:zbn ks ys):ys.length=ks.length:=by
 rcases h with ⟨ns,rfl,rfl⟩|⟨ss,rfl,rfl⟩
 ·simp[(sortI_perm ns).length_eq]
 ·simp[(z41 ss).length_eq]
theorem zb7 (hc:X.calm=true):z23 X (.builtin "sorted") (fun xs H Q=>∃p ks ys,xs=[.ref p]/\H p=some (setO X p ks)/\ks.length<64/\zbn ks ys/\∀l,H l=none->Q (.ref l) (upd H l (.lst ys))):=by
 intro pins s σ H xs us Q I r h
 obtain⟨p,ks,ys,rfl,hq,hz,hk,q⟩:=h
 obtain⟨u,rfl,rx⟩:=vals1 r
 cases rx
 have hS:SetK (z0f X.prog X.w) s.heap p ks:=(I.hok p _ hq).1
 refine zeh (I.ok.hd hc) hS (fun vs ks' hv hp=>z59 hz hv hp hk) fun h' tk d D e vs out ks' hv hp so kp hD he=>?_
 exact⟨.ref D,_,z7f I (o:=.lst ys) kp hD ⟨by rw[za5 hk,y2p];omega,out,e,zcx hv hp so hk,he⟩,rfl,q _ (I.hok.fresh hD)⟩
theorem zeq {kvs:List (L2.Key×Value)} {acc:Array Value} (h:ItemsOf (fun i v=>∃k x,kvs[i]?=some (k,x)/\(z0f X.prog X.w).is k v=true) acc kvs.length):Paired (IsV (z0f X.prog X.w)) acc.toList (kvs.map (·.1)):=by
 obtain⟨h1,h2⟩:=h
 have h2':∀(j:Nat) v,acc.toList[j]?=some v->∃k x,kvs[j]?=some (k,x)/\(z0f X.prog X.w).is k v=true:=fun j v e=>h2 j v (by rw[<- Array.getElem?_toList];exact e)
 rw[<- y1z] at h1
 generalize acc.toList=l at *
 clear h2
 induction l generalizing kvs with
 | nil =>
  cases kvs with
  | nil=>exact .nil
  | cons a r=>simp at h1
 | cons v l ih =>
  cases kvs with
  | nil=>simp at h1
  | cons a r =>
   obtain⟨k,x,e1,e2⟩:=h2' 0 v rfl
   simp at e1
   subst e1
   refine .cons ⟨e2,?_⟩ (ih (kvs:=r) (by simpa using h1) fun j v e=>h2' (j+1) v (by simpa using e))
   rcases z0m e2 with ⟨i,t,_,rfl⟩|⟨x,t,_,rfl⟩ <;> rfl
theorem zh1:∀{kvs:List (L2.Key×V)} {vs:List (L2.Key×Value)},KV kvs vs->kvs.map (·.1)=vs.map (·.1)
 | _,_,.nil=>rfl
 | _,_,.cons a b=>by simp[a.1,zh1 b]
theorem zb8 (hc:X.calm=true):z23 X (.builtin "sorted") (fun xs H Q=>∃p kvs ys,xs=[.ref p]/\H p=some (.dK kvs)/\kvs.length<64/\zbn (kvs.map (·.1)) ys/\∀l,H l=none->Q (.ref l) (upd H l (.lst ys))):=by
 intro pins s σ H xs us Q I r h
 obtain⟨p,kvs,ys,rfl,hq,hz,hk,q⟩:=h
 obtain⟨u,rfl,rx⟩:=vals1 r
 cases rx
 obtain⟨hz',hsm,vs,hkv,hd⟩:=I.hok p _ hq
 obtain⟨ep,hat⟩:=hd.dictAt
 have hl:vs.length=kvs.length:=(Paired.length hkv).symm
 have hke:=zh1 hkv
 refine z6l (C:=fun us=>Paired (IsV (z0f X.prog X.w)) us (kvs.map (·.1))) (fun E' R hR=>zcc (PySem.W.kdl_dict hsm) (I.ok.hd hc) hat (by rw[hl,y2p];omega) fun h' tk acc kp hz hacc=>hR h' tk s.drawn acc.toList kp hz (by rw[hke];exact zeq hacc))
  (fun us hu=>z59 (by rw[y13];exact hz) hu .rfl hk) fun h' tk d D e us out hu so kp hD he=>?_
 exact⟨.ref D,_,z7f I (o:=.lst ys) kp hD ⟨by rw[za5 hk,y13,y2p];omega,out,e,zcx hu .rfl so hk,he⟩,rfl,q _ (I.hok.fresh hD)⟩
end
end
section
variable [Tbl]
theorem z30:∀{ts:List T} {ns:List Int},intsOf ts=some ns->ts=ns.map .int
 | [],ns,e=>by
  cases e
  rfl
 | t::ts,ns,e=>by
  unfold intsOf at e
  split at e
  ·rename_i h
   cases h
  ·rename_i h
   cases h
   simp only[y07] at e
   obtain⟨r,e1,rfl⟩:=e
   rw[z30 e1]
   rfl
  ·cases e
theorem z52:∀{ts:List T} {ss:List Str},strsOf ts=some ss->ts=ss.map .str
 | [],ns,e=>by
  cases e
  rfl
 | t::ts,ns,e=>by
  unfold strsOf at e
  split at e
  ·rename_i h
   cases h
  ·rename_i h
   cases h
   simp only[y07] at e
   obtain⟨r,e1,rfl⟩:=e
   rw[z52 e1]
   rfl
  ·cases e
section
variable {K:y00} {F:Addr->Prop} {H:Hp}
theorem z3l:∀(ns:List Int),RepL K F H (ns.map .int) (ns.map V.int)
 | []=>RepL.nil
 | n::ns=>RepL.cons (by simp[Rep]) (z3l ns)
theorem zad:∀(ns:List Str),RepL K F H (ns.map .str) (ns.map V.str)
 | []=>RepL.nil
 | n::ns=>RepL.cons (by simp[Rep]) (zad ns)
theorem z43:∀{ns:List Int} {vs:List V},RepL K F H (ns.map .int) vs->vs=ns.map V.int
 | [],vs,h=>by simpa [RepL] using h
 | n::ns,vs,h=>by
  simp only[y0d,RepL,Rep] at h
  obtain⟨v,r,rfl,rfl,z⟩:=h
  rw[z43 z]
  rfl
theorem z5j:∀{ns:List Str} {vs:List V},RepL K F H (ns.map .str) vs->vs=ns.map V.str
 | [],vs,h=>by simpa [RepL] using h
 | n::ns,vs,h=>by
  simp only[y0d,RepL,Rep] at h
  obtain⟨v,r,rfl,rfl,z⟩:=h
  rw[z5j z]
  rfl
end
noncomputable def z2h:List T->Option T
 | [.list xs]=>if xs.length<64 then
   match intsOf xs with
   | some ns=>some (.list ((sortI (dedup ns)).map .int))
   | none=>(strsOf xs).map fun ss=>.list ((z63 (dedup ss)).map .str)
  else none
 | _=>none
section
variable {X:Cx} {a e:Expr} {es:List Expr} {f:Fe} {fs:List Fe} {p p2 pos pos2:Pos}
theorem zae {K:y00} {F:Addr->Prop} {H:Hp}:∀{kvs:List (D.Key×T)} {vs:List (D.Key×V)},RepD K F H kvs vs->kvs.map (·.1)=vs.map (·.1)
 | [],vs,h=>by
  have:vs=[]:=h
  subst this
  rfl
 | p::r,vs,h=>by
  obtain⟨v,w,rfl,_,z⟩:=h
  simp[zae z]
theorem zat:∀{ks:List D.Key} {ns:List Int},ks.map keyT=ns.map .int->ks=ns.map Sum.inl
 | [],[],_=>rfl
 | [],n::ns,e=>by cases e
 | k::ks,[],e=>by cases e
 | k::ks,n::ns,e=>by
  simp only[y0d,List.cons.injEq] at e ⊢
  refine⟨?_,zat e.2⟩
  cases k with
  | inl i =>
   have:=e.1
   simp only[keyT] at this
   cases this
   rfl
  | inr x =>
   have:=e.1
   simp only[keyT] at this
   cases this
theorem zg7 (i:Nat) {x:Str} {px:Pos} (hc:X.calm=true) (hs:X.mg "sorted"=none) (hN:X.N[i]?=some x:=by rfl) (hv:Vis X.env.scope x:=by first|exact Or.inl rfl|exact Or.inr (Or.inl rfl)|exact Or.inr (Or.inr rfl))
  (hd:(x == ("__debug__":Str))=false:=by decide) (hcd:(x == ("__classdict__":Str))=false:=by decide) (hg:Gl X "sorted":=by rfl)
  (he:y0a [.Name x px] X.env=(false,eval (.Name x px) X.env)::y0a [] X.env:=by rfl) (hpl:(y2l pos (y0a [] X.env)).any (·.1)=false:=by rfl) :
  PEv X (.Call (.Name "sorted" p) [.Name x px] [] pos) (z7o i) :=
 z0p (z2r (zb8 hc) hg hs (by decide +kernel) (z1w (pv i hN hv hd hcd) z2y he) (he:=he) (hpl:=hpl)) fun σ H Q ⟨F₀,H₀,O,F,ε,t,r,e,k⟩=>by
 simp only[z7o,y01] at e
 obtain⟨kvs,ed,e⟩:=e
 split at e
 next hz =>
  simp only[y07] at e
  obtain⟨ns,en,rfl⟩:=e
  obtain⟨q,vs,h1,n,o,hh,hr⟩:=z9o r ed
  refine⟨_,h1,q,vs,(sortI ns).map V.int,rfl,hh,by rw[<- hr.length];exact hz,.inl ⟨ns,?_,rfl⟩,fun l hl=>?_⟩
  ·rw[<- zae hr]
   have:=z30 en
   refine zat ?_
   rw[<- this,y2i]
   rfl
  ·have x1:=Ext.laidF (o:=.lst ((sortI ns).map V.int)) r.dom hl
   refine k _ _ _ x1 ?_
   simp only[Rep]
   exact⟨l,_,rfl,.inr rfl,.inl z03,z3l _⟩
 next=>cases e
end
section
variable {prog:y0q} {w:World} {A:Around} {E:Value->y04->Prop} {s:y04}
end
section
variable {X:Cx} {e st:Expr} {te:TE} {f:Fe} {pos p2:Pos}
end
end
section
variable [Tbl]
section
variable {prog:y0q} {w:World} {K:Type} [DecidableEq K] {knd:PySem.KeyKind prog w K} {A:Around} {E:Value->y04->Prop} {s:y04}
set_option maxHeartbeats 3200000 in
theorem zcf {l:Addr} {items:Array Value} {ks:List K} {Q:Value->y04->Prop}
  (hh:A.handled=none) (hl:s.heap.IsTuple l items) (hi:Paired (IsV knd) items.toList ks) (hb:items.size+1<scanBound)
  (h:∀(h':Heap) (tk:Nat),SetK knd h' s.heap.objs.size (z0w ks)->(∀b o,b<s.heap.objs.size->s.heap.get? b=some o->h'.get? b=some o)->Q (.ref s.heap.objs.size) { s with heap:=h',toks:=tk }) :
  y0u (y37 prog w) A (call (.type "set") [.ref l]) Q E s:=by
 obtain⟨c,tl,hmro⟩:=PySem.F.called_set.mro
 have hmade:=PySem.F.called_set.made
 have hsub:=PySem.F.called_set.sub
 refine wpAny_call (codeAny_of_tree ?_)
 show y0u _ _ (callAny (.type "set") _) _ _ _
 refine y06 ⟨Code.quiet_builtin _ (by decide +kernel),y2t PySem.F.entry_type_call ?_⟩
 rw[Around.under_plain (weight_type_call_type "set" [.ref l] []) rfl]
 have h1:=PySem.F.called_set.notType
 have h2:=PySem.F.called_set.canCreate
 have hct:=PySem.F.typeCall_set_1 (.ref l)
 repeat (any_goals (first|assumption|wp_step))
 refine y2v (z4t (.ref l) (E:=E) (Q₁:=fun obj s₁=>obj=.ref s.heap.objs.size/\s₁={ s with heap:=s.heap.push { cls:=.type "set",dict:=none,data:=.set #[] 0 (.fresh 0 0 (!z0u w)) } }) ⟨rfl,rfl⟩) fun r s₁ hr=>?_
 cases r with
 | error e=>exact hr
 | ok fl =>
  cases fl with
  | ret obj =>
   obtain⟨rfl,rfl⟩:=hr
   have hS:(s.heap.push { cls:=.type "set",dict:=none,data:=.set #[] 0 (.fresh 0 0 (!z0u w)) }).get? s.heap.objs.size=some { cls:=.type "set",dict:=none,data:=.set #[] 0 (.fresh 0 0 (!z0u w)) }:=y0l _ rfl
   have hT:Shared.TypeIs { s with heap:=s.heap.push { cls:=.type "set",dict:=none,data:=.set #[] 0 (.fresh 0 0 (!z0u w)) } } (.ref s.heap.objs.size) "set":=⟨_,hS,rfl⟩
   have hli:=PySem.F.called_set.init.lookup
   have hbi:=PySem.F.called_set.init.bind (.ref s.heap.objs.size)
   repeat (any_goals (first|assumption|wp_step))
   refine y2v (codeAny_call_builtin (R:=wants (fun r s₂=>r=.none/\∃h' tk,s₂={ s with heap:=h',toks:=tk }/\SetK knd h' s.heap.objs.size (z0w ks) /\
     (∀b o,b<s.heap.objs.size->s.heap.get? b=some o->h'.get? b=some o)) E) PySem.F.called_set.init.plain PySem.F.entry_set_init (check_set_init_1 hT ?_)) fun r₂ s₂ hr₂=>?_
   ·obtain⟨ol,hol,hcl,nl,hdl⟩:=hl
    obtain⟨ocls,odict,odata,oslots⟩:=ol
    simp only at hcl hdl
    subst hcl
    subst hdl
    have hol':(s.heap.push { cls:=.type "set",dict:=none,data:=.set #[] 0 (.fresh 0 0 (!z0u w)) }).get? l=some { cls:=.type "tuple",dict:=odict,data:=.seq items nl,slots:=oslots }:=y03 _ hol
    have hsls:=PySem.F.sub_tuple_set
    have hslf:=PySem.F.sub_tuple_frozenset
    have hne:(Value.type "tuple" == Value.type "dict")=false:=by decide
    have hl1:(s.heap.push { cls:=.type "set",dict:=none,data:=.set #[] 0 (.fresh 0 0 (!z0u w)) }).IsTuple l items:=⟨_,hol',rfl,nl,rfl⟩
    unfold Builtin.«set.__init__» noKeywords Builtin.Frozenset.updateFrom
    generalize hPI:pyIter=PI
    wp_walk
    subst hPI
    refine y2r hl1 ?_
    refine y02 (wpAny_runValue ?_)
    have hlS:l<s.heap.objs.size:=y0c hol
    have hh3:A.in1.in1.in1.handled=none:=by simp[hh]
    have hneI:l≠(s.heap.push { cls:=.type "set",dict:=none,data:=.set #[] 0 (.fresh 0 0 (!z0u w)) }).objs.size:=by
     rw[y17]
     exact y0y (Nat.lt_succ_of_lt hlS)
    have hSf:s.heap.objs.size∉[(s.heap.push { cls:=.type "set",dict:=none,data:=.set #[] 0 (.fresh 0 0 (!z0u w)) }).objs.size,l]:=by
     rw[y17]
     simp only[y09,y0z,y28,or_false,not_or]
     exact⟨y0y (Nat.lt_succ_self _),y15 hlS⟩
    refine za7 (knd:=knd) ((Walks.tuple hh3 _ l hneI items).toS) s.heap.objs.size hSf hi hb (items.size - 0) 0 _ (by omega) (y23 _)
     ⟨⟨_,y0l _ rfl,rfl,rfl⟩,(hl1.push _)⟩ ?hS0 ?hR
    case hS0 =>
     refine SetK.at' (zhi (knd:=knd) (h:=s.heap)) fun o e=>y03 _ e
    case hR =>
     intro s' hm hS'
     obtain⟨h',g',d',tk',os'⟩:=s'
     have eg:g'=s.gens:=hm.gens
     have ed:d'=s.drawn:=hm.drawn
     have eo:os'=s.os:=hm.os
     subst eg
     subst ed
     subst eo
     show y0u _ _ _ _ _ _
     refine y06 ?_
     show y0u _ _ (ret Value.none) _ _ _
     refine y06 ⟨rfl,h',tk',rfl,hS',fun b o hb e=>?_⟩
     have hb1:b≠s.heap.objs.size:=y0y hb
     have hb2:b≠(s.heap.push { cls:=.type "set",dict:=none,data:=.set #[] 0 (.fresh 0 0 (!z0u w)) }).objs.size:=by
      rw[y17]
      exact y0y (Nat.lt_succ_of_lt hb)
     exact hm.heap b o (by simp only[y09,y0z,y28,or_false,not_or];exact⟨hb1,hb2⟩) (y03 _ (y03 _ e))
   ·cases r₂ with
    | error e=>exact hr₂
    | ok fl₂ =>
     cases fl₂ with
     | ret r =>
      obtain⟨rfl,h',tk,rfl,hS',hk'⟩:=hr₂
      repeat (any_goals (first|assumption|wp_step))
      exact h _ _ hS' hk'
     | _=>exact hr₂.elim
  | _=>exact hr.elim
end
end
section
variable [Tbl]
section
variable {prog:y0q} {w:World} {A:Around} {E:Value->y04->Prop} {s:y04}
def IsR (prog:y0q) (w:World) (N:Nat) (h:Heap) (v:Value) (m:List Int×Addr):Prop:=v=.ref m.2/\m.2<N/\TK prog w h m.1 m.2
theorem z69 {N:Nat} {h h':Heap} (k:∀b o,b<N->h.get? b=some o->h'.get? b=some o):∀{es:List Value} {ks:List (List Int×Addr)},Paired (IsR prog w N h) es ks->Paired (IsR prog w N h') es ks
 | _,_,.nil=>.nil
 | _,_,.cons ⟨h1,h2,h3⟩ r=>.cons ⟨h1,h2,z8z h3 fun o e=>k _ o h2 e⟩ (z69 k r)
theorem SetT.at' {h h':Heap} {a:Addr} {ks:List (List Int×Addr)} (x:SetT prog w h a ks) (k:∀b o,b<=a->h.get? b=some o->h'.get? b=some o):SetT prog w h' a ks:=by
 obtain⟨es,ep,t,ks',h1,h2,h3⟩:=x
 refine⟨es,ep,t,ks',k _ _ (y0o _) h1,?_,h3⟩
 clear h1 h3
 generalize es.toList=el at h2 ⊢
 induction h2 with
 | nil=>exact .nil
 | cons x _ ih =>
  obtain⟨h1,h2,h3,h4⟩:=x
  exact .cons ⟨h1,h2,z8z h3 fun o e=>k _ o (Nat.le_of_lt h2) e,h4⟩ ih
section
variable {R:Result->y04->Prop} {I:Addr} {fp wr:List Addr} {G:Array GenState->Array GenState->Prop} {St:Nat->y04->Prop} {items:Array Value}
theorem zfs (W:WalksS prog w A.in1 I fp wr G items.size (fun i v=>items[i]?=some v) St) (S:Addr) (hSf:S∉fp) (hN:∀b∈wr,S<b) {ks:List (List Int×Addr)} (hb:items.size<=16) (hnd:(ks.map (·.1)).Nodup) (hA:A.units+1<cLine) :
  ∀(k i:Nat) (s:y04),items.size - i=k->i<=items.size->St i s->Paired (IsR prog w S s.heap) items.toList ks->SetT prog w s.heap S (ks.take i) ->
   (∀s',Moved (S::wr) G s s'->SetT prog w s'.heap S ks->R (.ok (.ret .none)) s') ->
   y31 (y37 prog w) A (.builtin "set.update.loop" ⟨[.ref S,.ref I],[]⟩) R s:=by
 have hSw:S∉wr:=fun h=>hSf (W.sub _ h)
 have hsub:∀b∈wr,b∈S::wr:=fun b hb=>y05 _ hb
 have hle:∀b,b<=S->b∉wr:=fun b h1 h2=>Nat.lt_irrefl _ (y0x (hN b h2) h1)
 intro k
 induction k with
 | zero =>
  intro i s hk hi hst hv hS hR
  have hlen:items.size=ks.length:=by rw[<- z3o hv,y1z]
  have hin:i=items.size:=by omega
  subst hin
  refine y2t F.entry_set_update_loop ?_
  rw[y1w F.plain_set_update_loop _]
  show y0u _ A.in1 (pyNext (.ref I) >>= _) _ _ s
  refine y02 (W.done s _ _ hst fun s' hm=>?_)
  show y0u _ A.in1 (ret Value.none) _ _ s'
  rw[List.take_of_length_le (by omega)] at hS
  exact y06 (hR s' (hm.mono hsub) (hS.at' fun b o hb e=>hm.heap b _ (hle b hb) e))
 | succ k ih =>
  intro i s hk hi hst hv hS hR
  have hlen:items.size=ks.length:=by rw[<- z3o hv,y1z]
  have hlt:i<items.size:=by omega
  refine y2t F.entry_set_update_loop ?_
  rw[y1w F.plain_set_update_loop _]
  show y0u _ A.in1 (pyNext (.ref I) >>= _) _ _ s
  refine y02 (W.item i s _ _ hlt hst fun v s' hP hst' hm=>?_)
  have hv1:Paired (IsR prog w S s'.heap) items.toList ks:=z69 (fun b o hb e=>hm.heap b o (hle b (Nat.le_of_lt hb)) e) hv
  obtain⟨⟨key,p⟩,hke,rfl,hpS,hpk⟩:=zd8 hv1 (by rw[Array.getElem?_toList];exact hP)
  have hS1:SetT prog w s'.heap S (ks.take i):=hS.at' fun b o hb e=>hm.heap b o (hle b hb) e
  show y0u _ A.in1 (holding [.ref p] (setAdd S (.ref p)) >>= _) _ _ s'
  refine y02 (y2k ?_)
  unfold setAdd
  refine y2k ?_
  refine y02 ((tupleKind (intKind prog w)).pyHash (k:=key) (show A.in1.units<cLine from hA) hpk ?_)
  have hke':(ks.map (·.1))[i]?=some key:=by rw[y14,hke];rfl
  have hnew:key∉(ks.take i).map (·.1):=fun z=>by
   rw[List.map_take] at z
   obtain⟨j,hj⟩:=List.getElem?_of_mem z
   rw[List.getElem?_take] at hj
   split at hj
   ·rename_i hji
    have:=(List.getElem?_inj (y0k.mp hj).1 hnd).mp (hj.trans hke'.symm)
    omega
   ·cases hj
  refine ziq (s:={ s' with toks:=s'.toks+(tupleKind (intKind prog w)).draws key }) hS1 hpk hpS hnew (by rw[List.length_take];omega) (show A.in1.units<cLine from hA) fun h' hsb hS2=>?_
  have ek:ks.take i++[(key,p)]=ks.take (i+1):=by
   obtain⟨hh,e⟩:=y0k.mp hke
   rw[<- e]
   exact (List.take_succ_eq_append_getElem hh).symm
  rw[ek] at hS2
  refine y06 ⟨y32 F.plain_set_update_loop _,ih (i+1) _ (by omega) hlt (W.frame _ s' _ _ hst' (y3b _ _) fun b hb o e=>?_) (z69 (fun b o hb e=>?_) hv1) hS2 fun s'' hm'' hS''=>?_⟩
  ·rw[hsb.2 b (fun h:b=S=>hSf (by rw[<- h];exact hb))]
   exact e
  ·rw[hsb.2 b (y0y hb)]
   exact e
  ·refine hR s'' (Moved.trans W.gtrans ((hm.mono hsub).then_heap (y3b _ _) fun b o hb e=>?_) hm'') hS''
   rw[hsb.2 b (fun h:b=S=>hb (by rw[h];exact y0e))]
   exact e
end
set_option maxHeartbeats 3200000 in
theorem zf2 {l:Addr} {items:Array Value} {ks:List (List Int×Addr)} {Q:Value->y04->Prop}
  (hh:A.handled=none) (hl:s.heap.IsTuple l items) (hi:Paired (IsR prog w s.heap.objs.size s.heap) items.toList ks) (hnd:(ks.map (·.1)).Nodup) (hb:items.size<=16) (hA:A.units+20<cLine)
  (h:∀(h':Heap) (tk:Nat),SetT prog w h' s.heap.objs.size ks->(∀b o,b<s.heap.objs.size->s.heap.get? b=some o->h'.get? b=some o)->Q (.ref s.heap.objs.size) { s with heap:=h',toks:=tk }) :
  y0u (y37 prog w) A (call (.type "set") [.ref l]) Q E s:=by
 obtain⟨c,tl,hmro⟩:=PySem.F.called_set.mro
 have hmade:=PySem.F.called_set.made
 have hsub:=PySem.F.called_set.sub
 refine wpAny_call (codeAny_of_tree ?_)
 show y0u _ _ (callAny (.type "set") _) _ _ _
 refine y06 ⟨Code.quiet_builtin _ (by decide +kernel),y2t PySem.F.entry_type_call ?_⟩
 rw[Around.under_plain (weight_type_call_type "set" [.ref l] []) rfl]
 have h1:=PySem.F.called_set.notType
 have h2:=PySem.F.called_set.canCreate
 have hct:=PySem.F.typeCall_set_1 (.ref l)
 repeat (any_goals (first|assumption|wp_step))
 refine y2v (z4t (.ref l) (E:=E) (Q₁:=fun obj s₁=>obj=.ref s.heap.objs.size/\s₁={ s with heap:=s.heap.push { cls:=.type "set",dict:=none,data:=.set #[] 0 (.fresh 0 0 (!z0u w)) } }) ⟨rfl,rfl⟩) fun r s₁ hr=>?_
 cases r with
 | error e=>exact hr
 | ok fl =>
  cases fl with
  | ret obj =>
   obtain⟨rfl,rfl⟩:=hr
   have hS:(s.heap.push { cls:=.type "set",dict:=none,data:=.set #[] 0 (.fresh 0 0 (!z0u w)) }).get? s.heap.objs.size=some { cls:=.type "set",dict:=none,data:=.set #[] 0 (.fresh 0 0 (!z0u w)) }:=y0l _ rfl
   have hT:Shared.TypeIs { s with heap:=s.heap.push { cls:=.type "set",dict:=none,data:=.set #[] 0 (.fresh 0 0 (!z0u w)) } } (.ref s.heap.objs.size) "set":=⟨_,hS,rfl⟩
   have hli:=PySem.F.called_set.init.lookup
   have hbi:=PySem.F.called_set.init.bind (.ref s.heap.objs.size)
   repeat (any_goals (first|assumption|wp_step))
   refine y2v (codeAny_call_builtin (R:=wants (fun r s₂=>r=.none/\∃h' tk,s₂={ s with heap:=h',toks:=tk }/\SetT prog w h' s.heap.objs.size ks /\
     (∀b o,b<s.heap.objs.size->s.heap.get? b=some o->h'.get? b=some o)) E) PySem.F.called_set.init.plain PySem.F.entry_set_init (check_set_init_1 hT ?_)) fun r₂ s₂ hr₂=>?_
   ·obtain⟨ol,hol,hcl,nl,hdl⟩:=hl
    obtain⟨ocls,odict,odata,oslots⟩:=ol
    simp only at hcl hdl
    subst hcl
    subst hdl
    have hol':(s.heap.push { cls:=.type "set",dict:=none,data:=.set #[] 0 (.fresh 0 0 (!z0u w)) }).get? l=some { cls:=.type "tuple",dict:=odict,data:=.seq items nl,slots:=oslots }:=y03 _ hol
    have hsls:=PySem.F.sub_tuple_set
    have hslf:=PySem.F.sub_tuple_frozenset
    have hne:(Value.type "tuple" == Value.type "dict")=false:=by decide
    have hl1:(s.heap.push { cls:=.type "set",dict:=none,data:=.set #[] 0 (.fresh 0 0 (!z0u w)) }).IsTuple l items:=⟨_,hol',rfl,nl,rfl⟩
    unfold Builtin.«set.__init__» noKeywords Builtin.Frozenset.updateFrom
    generalize hPI:pyIter=PI
    wp_walk
    subst hPI
    refine y2r hl1 ?_
    refine y02 (wpAny_runValue ?_)
    have hlS:l<s.heap.objs.size:=y0c hol
    have hh3:A.in1.in1.in1.handled=none:=by simp[hh]
    have hneI:l≠(s.heap.push { cls:=.type "set",dict:=none,data:=.set #[] 0 (.fresh 0 0 (!z0u w)) }).objs.size:=by
     rw[y17]
     exact y0y (Nat.lt_succ_of_lt hlS)
    have hSf:s.heap.objs.size∉[(s.heap.push { cls:=.type "set",dict:=none,data:=.set #[] 0 (.fresh 0 0 (!z0u w)) }).objs.size,l]:=by
     rw[y17]
     simp only[y09,y0z,y28,or_false,not_or]
     exact⟨y0y (Nat.lt_succ_self _),y15 hlS⟩
    refine zfs ((Walks.tuple hh3 _ l hneI items).toS) s.heap.objs.size hSf ?hN hb hnd ?hA (items.size - 0) 0 _ (by omega) (y23 _)
     ⟨⟨_,y0l _ rfl,rfl,rfl⟩,(hl1.push _)⟩ ?hP ?hS0 ?hR
    case hN =>
     intro b hb'
     rw[y17] at hb'
     simp only[y09,y0z,y28,or_false] at hb'
     subst hb'
     exact Nat.lt_succ_self _
    case hA =>
     simp only[Around.in1]
     omega
    case hP=>exact z69 (fun b o hb e=>y03 _ (y03 _ e)) hi
    case hS0 =>
     exact⟨#[],0,_,[],y03 _ (y0l _ rfl),.nil,.rfl,⟨List.Pairwise.nil,fun x hx=>(by cases hx),rfl,.inl rfl,y23 _⟩,rfl,rfl,rfl,fun _=>y23 _⟩
    case hR =>
     intro s' hm hS'
     obtain⟨h',g',d',tk',os'⟩:=s'
     have eg:g'=s.gens:=hm.gens
     have ed:d'=s.drawn:=hm.drawn
     have eo:os'=s.os:=hm.os
     subst eg
     subst ed
     subst eo
     show y0u _ _ _ _ _ _
     refine y06 ?_
     show y0u _ _ (ret Value.none) _ _ _
     refine y06 ⟨rfl,h',tk',rfl,hS',fun b o hb e=>?_⟩
     have hb1:b≠s.heap.objs.size:=y0y hb
     have hb2:b≠(s.heap.push { cls:=.type "set",dict:=none,data:=.set #[] 0 (.fresh 0 0 (!z0u w)) }).objs.size:=by
      rw[y17]
      exact y0y (Nat.lt_succ_of_lt hb)
     exact hm.heap b o (by simp only[y09,y0z,y28,or_false,not_or];exact⟨hb1,hb2⟩) (y03 _ (y03 _ e))
   ·cases r₂ with
    | error e=>exact hr₂
    | ok fl₂ =>
     cases fl₂ with
     | ret r =>
      obtain⟨rfl,h',tk,rfl,hS',hk'⟩:=hr₂
      repeat (any_goals (first|assumption|wp_step))
      exact h _ _ hS' hk'
     | _=>exact hr₂.elim
  | _=>exact hr.elim
end
end
section
variable [Tbl]
section
variable {prog:y0q} {w:World} {A:Around} {E:Value->y04->Prop} {s:y04} {a:Addr} {ps:List Addr}
noncomputable def SetR (w:World) (h:Heap) (a:Addr) (ps:List Addr):Prop:=∃(es:Array (Int×Value)) (ep:Nat) (t:SetTable),
 h.get? a=some { cls:=.type "set",dict:=none,data:=.set es ep t,slots:=#[] }/\(es.toList.map (·.2)).Perm (ps.map .ref)/\es.size<=64/\t.fits es.size=true/\t.led=!z0u w/\Rs t.place
theorem SetR.typeIs (h:SetR w s.heap a ps):s.TypeIs (.ref a) "set":=let ⟨_,_,_,h,_⟩:=h;⟨_,h,rfl⟩
theorem SetR.lt {h:Heap} (x:SetR w h a ps):a<h.objs.size:=let ⟨_,_,_,h,_⟩:=x;y0c h
theorem SetR.at' {h h':Heap} (x:SetR w h a ps) (k:∀o,h.get? a=some o->h'.get? a=some o):SetR w h' a ps:=by
 obtain⟨es,ep,t,h1,h2⟩:=x
 exact⟨es,ep,t,k _ h1,h2⟩
theorem SetT.raw {h:Heap} {ks:List (List Int×Addr)} (x:SetT prog w h a ks) (hl:ks.length<=64):SetR w h a (ks.map (·.2)):=by
 obtain⟨es,ep,t,ks',ho,hpd,hpm,ok,hsz,hled,hpl,_⟩:=x
 have e:es.toList.map (·.2)=ks'.map fun m=>Value.ref m.2:=by
  clear hsz ho
  generalize es.toList=el at hpd
  clear hpm
  induction hpd with
  | nil=>rfl
  | cons x _ ih=>rw[y0d,y0d,ih,x.1]
 refine⟨es,ep,t,ho,?_,?_,z67 ok hsz,hled,ok.rs⟩
 ·rw[e,y2i]
  exact hpm.map _
 ·have:=z3o hpd
  rw[y1z] at this
  rw[this,hpm.length_eq]
  exact hl
theorem zbw {Q:Value->y04->Prop} (hS:SetR w s.heap a ps)
  (h:∀(I:Addr) (h':Heap) (d':Drawn) (vs:List Value) (fp:List Addr) (St:Nat->Heap->Prop),vs.Perm (ps.map .ref)->(∀b o,s.heap.get? b=some o->h'.get? b=some o)->s.heap.objs.size<=I ->
   (∀b∈fp,b=a\/s.heap.objs.size<=b)->(∀A:Around,A.handled=none->Walks prog w A I fp [I] vs.length (fun i v=>vs[i]?=some v) St)->St 0 h'->Q (.ref I) { s with heap:=h',drawn:=d' }) :
  y0u (y37 prog w) A (pyIter (.ref a)) Q E s:=by
 obtain⟨es,ep,t,ho,hpm,hb,hf,hled,hrs⟩:=id hS
 have hlt:=hS.lt
 refine wpAny_pyIter_slot hS.typeIs PySem.F.slot_set_iter (y2w PySem.F.slot_set_iter hS.typeIs z4j ?_ (PySem.F.args_set_iter_1 _))
 unfold Builtin.«frozenset.__iter__»
 refine y02 (y06 ?_)
 refine y02 ?_
 unfold Builtin.Frozenset.sizeOf
 refine y02 (wpAny_setEntries_of ho rfl hf (y06 ?_))
 refine y02 ?_
 unfold setDrawn
 refine y02 (wpAny_setState_of ho rfl hf ?_)
 dsimp only
 unfold setsByText
 refine y02 (y02 (wpAny_askSetting (y06 ?_)))
 refine y06 ?_
 show y0u _ _ (if (!(z0u w) && (!t.plain && decide (es.size > 1)))=true then _ else _) _ _ _
 have fin:∀(s1:y04) (first:Value) (d1:Drawn) (vs:List Value) (fp:List Addr) (St:Nat->Heap->Prop),s1.heap.get? a=some { cls:=.type "set",dict:=none,data:=.set es ep t,slots:=#[] }->(∀b o,s.heap.get? b=some o->s1.heap.get? b=some o)->s1={ s with heap:=s1.heap,drawn:=d1 } ->
   vs.Perm (ps.map .ref)->(∀b∈fp,b=a\/s.heap.objs.size<=b)->(∀A:Around,A.handled=none->Walks prog w A s1.heap.objs.size fp [s1.heap.objs.size] vs.length (fun i v=>vs[i]?=some v) St) ->
   (∀h2,z3d h2 s1.heap.objs.size #[first,.int 0 0,.ref a,.int es.size 0,.int ep 0]->(∀b o,s1.heap.get? b=some o->h2.get? b=some o)->St 0 h2)->s.heap.objs.size<=s1.heap.objs.size ->
   y0u (y37 prog w) A.in1 (do
    let e <- setEpoch a
    let v <- newFields "set_iterator" [first,y39 0,.ref a,y39 es.size,y39 e]
    ret v) (fun fin s'=>∃v,fin=.done (.ret v)/\∃T' r,s'.TypeIs v T'/\typeLookup (.type T') (Str.ofString "__next__")=pure (some r)/\Q v s') E s1:=by
  intro s1 first d1 vs fp St h1 h2 h3 h4 h5 h6 h7 h8
  refine y02 (wpAny_setEpoch_of h1 rfl hf ?_)
  refine y02 ?_
  unfold newFields
  refine y2u ?_
  refine y06 ⟨_,rfl,"set_iterator",_,⟨_,y0l _ rfl,rfl⟩,z0h.lookup,?_⟩
  have:=h s1.heap.objs.size (s1.heap.push { cls:=.type "set_iterator",data:=.fields #[first,.int 0 0,.ref a,.int es.size 0,.int ep 0] }) d1 vs fp St h4 (fun b o e=>y03 _ (h2 b o e)) h8 h5 h6
   (h7 _ (y0l _ rfl) fun b o e=>y03 _ e)
  rw[h3]
  exact this
 have e1:s={ s with heap:=s.heap,drawn:=s.drawn }:=rfl
 have vlen:∀{vs:List Value} {l:List (Int×Value)},vs=l.map (·.2)->l.Perm es.toList->vs.length=es.size:=fun e p=>by
  rw[e,y13,p.length_eq,y1z]
 by_cases hd:(!(z0u w) && (!t.plain && decide (es.size > 1)))=true
 ·rw[if_pos hd]
  refine y02 (z3i _ _ _ _ (by simp) fun qs d hps=>?_)
  refine y02 ?_
  unfold newTuple
  have hln:qs.length=es.size:=by rw[hps.length_eq,List.length_range]
  have hz:es.size<=y0j:=by rw[y2p];omega
  refine y2u ?_ (by show (List.map (fun (i:Nat)=>y39 i) qs).toArray.size<=y0j;simp[hln];exact hz)
  have hpe:(qs.map fun p=>es.getD p (0,Value.none)).Perm es.toList:=by
   have:=(hps.map fun p=>es.getD p (0,Value.none))
   refine this.trans (.of_eq ?_)
   have h2:=range_getD ((0:Int),Value.none) es.toList
   rw[y1z] at h2
   rw[<- h2]
   simp[Array.getD_eq_getD_getElem?,List.getD_eq_getElem?_getD]
  refine fin { s with heap:=s.heap.push { cls:=.type "tuple",data:=.seq (List.map (fun (i:Nat)=>y39 i) qs).toArray },drawn:=d } (.ref s.heap.objs.size) d (qs.map fun p=>(es.getD p (0,.none)).2)
   [(s.heap.push { cls:=.type "tuple",data:=.seq (List.map (fun (i:Nat)=>y39 i) qs).toArray }).objs.size,a,s.heap.objs.size] (fun i h=>z3d h (s.heap.push { cls:=.type "tuple",data:=.seq (List.map (fun (i:Nat)=>y39 i) qs).toArray }).objs.size #[.ref s.heap.objs.size,.int i 0,.ref a,.int es.size 0,.int ep 0]/\z2m h a es ep t/\Places h s.heap.objs.size qs)
   (y03 _ ho) (fun b o e=>y03 _ e) rfl ?_ ?_ (fun A' hh'=>?_) (fun h2 x k=>⟨x,k a _ (y03 _ ho),k _ _ (y0l _ rfl)⟩) (by rw[y17];exact y2e _)
  ·have:=hpe.map (·.2)
   rw[y2i] at this
   exact this.trans hpm
  ·intro b hb'
   simp only[y09,y28,or_false] at hb'
   rcases hb' with rfl|rfl|rfl
   ·right
    rw[y17]
    exact y2e _
   ·exact .inl rfl
   ·exact .inr (y0o _)
  ·have W:=z88 (prog:=prog) (w:=w) (A:=A') (a:=a) (I:=(s.heap.push { cls:=.type "tuple",data:=.seq (List.map (fun (i:Nat)=>y39 i) qs).toArray }).objs.size) (ep:=ep) (tp:=s.heap.objs.size) hh'
    (by rw[y17];exact y0y (Nat.lt_succ_of_lt hlt)) (by rw[y17];exact y0y (Nat.lt_succ_self _)) hf hps
   rw[y13,hln]
   exact W
 ·rw[if_neg hd]
  refine y02 (y06 ?_)
  have hfp:∀b∈[s.heap.objs.size,a],b=a\/s.heap.objs.size<=b:=fun b hb'=>by
   simp only[y09,y28,or_false] at hb'
   rcases hb' with rfl|rfl
   ·exact .inr (y0o _)
   ·exact .inl rfl
  cases hb':z0u w with
  | true =>
   refine fin s (y39 0) s.drawn (ltx (w.params.setOrder a ep) es) [s.heap.objs.size,a] (fun i h=>(∃sl:Nat,z3d h s.heap.objs.size #[.int sl 0,.int i 0,.ref a,.int es.size 0,.int ep 0])/\z2m h a es ep t)
    ho (fun b o e=>e) rfl ?_ hfp (fun A' hh'=>?_) (fun h2 x k=>⟨⟨0,x⟩,k a _ ho⟩) (y0o _)
   ·exact ((z3n (w.params.setOrder a ep) es).map (·.2)).trans hpm
   ·rw[show (ltx (w.params.setOrder a ep) es).length=es.size from vlen rfl (z3n (w.params.setOrder a ep) es)]
    exact zcq hh' (y0y hlt) hf hb'
  | false =>
   rw[hb'] at hd hled
   have hd':(!t.plain && decide (es.size > 1))=false:=by simpa using hd
   refine fin s (y39 0) s.drawn (es.toList.map (·.2)) [s.heap.objs.size,a] (fun i h=>(∃sl:Nat,zib t.place i sl/\z3d h s.heap.objs.size #[.int sl 0,.int i 0,.ref a,.int es.size 0,.int ep 0])/\z2m h a es ep t)
    ho (fun b o e=>e) rfl ?_ hfp (fun A' hh'=>?_) (fun h2 x k=>⟨⟨0,⟨fun _=>rfl,fun k z=>by omega⟩,x⟩,k a _ ho⟩) (y0o _)
   ·exact hpm
   ·rw[vlen rfl .rfl]
    exact zcr hh' (y0y hlt) hf hb' hled hrs hd'
theorem zc8 {R:Result->y04->Prop} (hh:A.handled=none) (hS0:SetR w s.heap a ps) (S:Addr) (hSr:S≠a) (res:Value) (c₀:Nat) (hS:s.heap.get? S=some { cls:=.type "list",data:=.seq #[] c₀ })
  (hR:∀h' tk d acc' c',(∀b o,b≠S->s.heap.get? b=some o->h'.get? b=some o)->h'.get? S=some { cls:=.type "list",dict:=none,data:=.seq acc' c',slots:=#[] }->acc'.toList.Perm (ps.map .ref)->R (.ok (.ret res)) { s with heap:=h',toks:=tk,drawn:=d }) :
  y0u (y37 prog w) A.in1 (Builtin.List.listExtendWith (.ref S) (.ref a) res)
   (fun fin s'=>match fin with|.done f=>R (.ok f) s'|.again c'=>c'.quiet=true/\y31 (y37 prog w) A c' R s') (fun e s'=>R (.error e) s') s:=by
 have hlen:ps.length<=y0j:=by
  obtain⟨es,ep,t,ho,hpm,hb,_⟩:=hS0
  have:=hpm.length_eq
  simp only[y13,y1z] at this
  rw[<- this,y2p]
  omega
 unfold Builtin.List.listExtendWith
 refine y02 (wpAny_typeOf (T:="set") hS0.typeIs ?_)
 have h1:Builtin.List.listSameRef (.ref S) (.ref a)=false:=by simp[Builtin.List.listSameRef,hSr]
 have h2:(Value.type "set" == Value.type "list")=false:=by decide
 have h3:(Value.type "set" == Value.type "tuple")=false:=by decide
 simp only[h1,h2,h3,Bool.or_false,y1u,if_false]
 refine y02 (zbw hS0 fun I h' d' vs fp St hv kp hI hfp W st=>?_)
 have hSI:S≠I:=y0y (y0x (y0c hS) hI)
 have hSf:S∉fp:=fun z=>by
  rcases hfp S z with q|q
  ·exact hSr q
  ·exact Nat.lt_irrefl _ (y0x (y0c hS) q)
 have hvl:vs.length=ps.length:=by rw[hv.length_eq,y13]
 have key:∀(h:Heap) (c₁ tk:Nat),St 0 h->(∀b o,b≠S->s.heap.get? b=some o->h.get? b=some o) ->
   h.get? S=some { cls:=.type "list",data:=.seq #[] c₁ }->y31 (y37 prog w) A (.builtin "list.extend.loop" ⟨[.ref S,.ref I,res],[]⟩) R { s with heap:=h,toks:=tk,drawn:=d' }:=by
  intro h c₁ tk hst hk hS₁
  refine codeAny_extend_loopS (W A.in1 hh).toS (by omega) S hSf res vs.length 0 _ #[] c₁ rfl (y23 _) hst hS₁ (ItemsOf.nil _) fun s' acc' c' hm hS' hacc=>?_
  rw[Moved.eq_with hm]
  have hacc':acc'.toList=vs:=by
   refine List.ext_getElem? fun i=>?_
   rw[Array.getElem?_toList]
   rcases Nat.lt_or_ge i acc'.size with q|q
   ·rw[y1o q,hacc.2 i _ (y1o q)]
   ·rw[Array.getElem?_eq_none q,List.getElem?_eq_none (by rw[<- hacc.1];exact q)]
  refine hR s'.heap s'.toks d' acc' c' (fun b o hb e=>hm.heap b o (fun hmem=>?_) (hk b o hb e)) hS' (hacc'▸hv)
  rcases y09.mp hmem with e'|hmem
  ·exact hb e'
  ·exact absurd (y0c e) (by rw[y0z.mp hmem];exact Nat.not_lt.mpr hI)
 have hS₁:=kp S _ hS
 refine y02 (y2k (zdn (SetR.typeIs (s:={ s with heap:=h',drawn:=d' }) (hS0.at' fun o e=>kp _ o e)) ?_))
 refine wpAny_ite_split (fun _=>?_) (fun _=>y06 ⟨y32 PySem.F.plain_extend_loop _,key _ c₀ _ st (fun b o _ e=>kp b o e) hS₁⟩)
 refine y02 (wpAny_rule ?_)
 refine y02 ?_
 show y0u _ _ (updateSeq S (·.push .none) >>= fun _=>updateSeq S (·.pop)) _ _ _
 refine y02 (wpAny_updateSeq hS₁ rfl ?_)
 have hS₂:=Heap.get?_update_self (Obj.mapSeq (·.push Value.none)) hS₁ rfl
 refine wpAny_updateSeq (hz:=by seq_fits) hS₂ rfl ?_
 have hS₃:=Heap.get?_update_self (Obj.mapSeq (·.pop)) hS₂ rfl
 refine y06 ⟨y32 PySem.F.plain_extend_loop _,key _ _ _ ?_ (fun b o hb e=>?_) hS₃⟩
 ·refine (W A.in1 hh).frame 0 _ _ st fun b hb o e=>?_
  have hbS:b≠S:=fun h=>hSf (h▸hb)
  exact (y3c _ _ (Ne.symm hbS)).trans ((y3c _ _ (Ne.symm hbS)).trans e)
 ·exact (y3c _ _ (Ne.symm hb)).trans ((y3c _ _ (Ne.symm hb)).trans (kp b o e))
theorem zb6 {R:List Value->y04->Prop} (hh:A.handled=none) (hS:SetR w s.heap a ps)
  (h:∀(h':Heap) (tk:Nat) (d:Drawn) (vs:List Value),(∀b o,s.heap.get? b=some o->h'.get? b=some o)->s.heap.objs.size<=h'.objs.size->vs.Perm (ps.map .ref)->R vs { s with heap:=h',toks:=tk,drawn:=d }) :
  y0u (y37 prog w) A (collect (.ref a)) R E s:=by
 have hlt:=hS.lt
 unfold collect
 refine y02 (wpAny_runValue (y2t entry_proto_collect' ?_))
 rw[y1w PySem.F.plain_proto_collect _]
 show y0u _ A.in1 (newList [] >>= fun l=>again (.builtin "list.__iadd__" ⟨[l,.ref a],[]⟩)) _ _ s
 refine y02 (y2u ?_)
 refine y06 ⟨y32 PySem.F.plain_list_iadd _,y2t entry_list_iadd' ?_⟩
 rw[y1w PySem.F.plain_list_iadd _]
 have hS₁:(s.heap.push { cls:=.type "list",data:=.seq ([]:List Value).toArray }).get? s.heap.objs.size=some { cls:=.type "list",data:=.seq #[] }:=y0l _ rfl
 show y0u _ A.in1 (Builtin.List.listExtendWith (.ref s.heap.objs.size) (.ref a) (.ref s.heap.objs.size)) _ _ _
 have key:=zc8 (prog:=prog) (A:=A) (s:={ s with heap:=s.heap.push { cls:=.type "list",data:=.seq ([]:List Value).toArray } }) (ps:=ps)
  (R:=fun (q:Result) (s':y04)=>∃(h':Heap) (tk:Nat) (d:Drawn) (acc':Array Value) (c':Nat),q=.ok (.ret (.ref s.heap.objs.size))/\s'={ s with heap:=h',toks:=tk,drawn:=d } /\
   (∀b o,s.heap.get? b=some o->h'.get? b=some o)/\h'.get? s.heap.objs.size=some { cls:=.type "list",dict:=none,data:=.seq acc' c',slots:=#[] }/\acc'.toList.Perm (ps.map .ref))
  hh (hS.at' fun o e=>y03 _ e) s.heap.objs.size (y15 hlt) (.ref s.heap.objs.size) 0 hS₁
  (fun h' tk d acc' c' hk hS' hv=>⟨h',tk,d,acc',c',rfl,rfl,fun b o e=>hk b o (y0y (y0c e)) (y03 _ e),hS',hv⟩)
 refine y1d key (fun fin s' x=>?_) fun e s' x=>?_
 ·cases fin with
  | done f =>
   obtain⟨h',tk,d,acc',c',e,rfl,hk,hS',hv⟩:=x
   cases e
   show y0u _ A (load s.heap.objs.size >>= _) _ _ _
   refine y02 (wpAny_load hS' ?_)
   exact y06 (h h' tk d _ hk (Nat.le_of_lt (y0c hS')) hv)
  | again c₁ =>
   refine⟨x.1,y2v x.2 fun q s₂ y=>?_⟩
   obtain⟨h',tk,d,acc',c',rfl,rfl,hk,hS',hv⟩:=y
   show y0u _ A (load s.heap.objs.size >>= _) _ _ _
   refine y02 (wpAny_load hS' ?_)
   exact y06 (h h' tk d _ hk (Nat.le_of_lt (y0c hS')) hv)
 ·obtain⟨_,_,_,_,_,e',_⟩:=x
  cases e'
end
end
section
variable [Tbl]
section
variable {X:Cx} {a b e:Expr} {es rest:List Expr} {f g:Fe} {fs:List Fe} {p p2 pos pos2:Pos}
theorem zkr {op:BoolOp} (h:PEv X a f):PEv X (.BoolOp op [a] pos) f:=zoi h
theorem zo7 (ha:PEv X a f) (hb:PEv X (.BoolOp .And (b::rest) pos) g):PEv X (.BoolOp .And (a::b::rest) pos) (andV f g):=z0p (zop ha hb) fun σ H Q ⟨F₀,H₀,O,F,ε,t,r,e,k⟩=>by
 simp only[andV,y01] at e
 obtain⟨x,ex,e⟩:=e
 refine⟨F₀,H₀,O,F,ε,x,r,ex,fun v F1 H1 x1 rx=>?_⟩
 split at e
 ·simp only[Rep] at rx
  refine⟨true,rx,?_⟩
  rw[if_pos rfl]
  exact⟨F₀,H₀,O,F1,ε,t,r.ext x1,e,fun v F' H' x2 q=>k v F' H' (x1.trans x2) q⟩
 ·cases e
  simp only[Rep] at rx
  refine⟨false,rx,?_⟩
  rw[if_neg (by decide)]
  exact k _ F1 H1 x1 (by simp[Rep])
 ·cases e
theorem zq9 (ha:PEv X a f):PEv X (.UnaryOp .Not a pos) (notV f):=z0p (zoj ha) fun σ H Q ⟨F₀,H₀,O,F,ε,t,r,e,k⟩=>by
 simp only[notV,y01] at e
 obtain⟨x,ex,e⟩:=e
 refine⟨F₀,H₀,O,F,ε,x,r,ex,fun v F1 H1 x1 rx=>?_⟩
 split at e
 ·cases e
  simp only[Rep] at rx
  exact⟨_,rx,k _ F1 H1 x1 (by simp[Rep])⟩
 ·cases e
theorem zg5 (hm:X.mg "list"=none) (ha:PAr X (e::es) fs) (hg:Gl X "list":=by rfl) (he:y0a (e::es) X.env=(false,eval e X.env)::y0a es X.env:=by rfl) (hpl:(y2l pos (y0a es X.env)).any (·.1)=false:=by rfl) :
  PEv X (.Call (.Name "list" p) (e::es) [] pos) (opN z80 fs):=z0p (z2g zb9 hg hm (by decide +kernel) ha (he:=he) (hpl:=hpl)) (z4o (by
 intro O F H ts t vs Q d q e k
 unfold z80 at e
 split at e
 ·cases e
  cases q with
  | cons q1 q2 =>
   cases q2
   obtain⟨l0,ws,rfl,hl,hr⟩:=q1.tup
   refine⟨l0,ws,rfl,.inr hl,fun l hl1=>?_⟩
   have x1:=Ext.laidF (o:=.lst ws) d hl1
   refine k _ _ _ x1 ?_
   simp only[Rep]
   exact⟨l,ws,rfl,.inr rfl,.inl z03,hr.ext x1⟩
 ·cases e
  cases q with
  | cons q1 q2 =>
   cases q2
   obtain⟨l0,ws,rfl,hl,hr⟩:=q1.lst
   refine⟨l0,ws,rfl,.inl (.inl hl),fun l hl1=>?_⟩
   have x1:=Ext.laidF (o:=.lst ws) d hl1
   refine k _ _ _ x1 ?_
   simp only[Rep]
   exact⟨l,ws,rfl,.inr rfl,.inl z03,hr.ext x1⟩
 ·cases e))
def tOt (K:y00) (f:Ev->Option (Option Int)):TO:=fun σ H Q=>∃F₀ H₀ O F ε i,RelE K F₀ H₀ O F H ε σ/\f ε=some i/\∀F' H',Ext F H F' H'->Q i H'
theorem zlf {x:Option Expr} {t t':TO} (h:PO X x t) (k:∀σ H Q,t' σ H Q->t σ H Q):PO X x t':=fun pins s σ H Q I q=>h pins s σ H Q I (k σ H Q q)
theorem zky:PO X none (tOt X.K optN):=zlf zm8 fun σ H Q ⟨F₀,H₀,O,F,ε,i,r,e,k⟩=>by
 cases e
 exact k F H (Ext.refl r.dom)
theorem zkx (h:PEr X a f):PO X (some a) (tOt X.K (opt f)):=zlf (zm7 h) fun σ H Q ⟨F₀,H₀,O,F,ε,i,r,e,k⟩=>by
 simp only[opt,y01] at e
 obtain⟨x,ex,e⟩:=e
 refine⟨F₀,H₀,O,F,ε,x,r,ex,fun v F1 H1 x1 rx=>?_⟩
 split at e
 ·cases e
  exact⟨_,rx.int,k F1 H1 x1⟩
 ·cases e
noncomputable def rSlW (K:y00):V->Option Int->Option Int->Hp->VK->Prop:=fun x lo hi H Q=>∃a xs,x=.ref a/\SqT K H a xs/\(HT.sIx xs.length 0 lo=0/\HT.sIx xs.length xs.length hi=xs.length)/\Q (.ref a) H
theorem z4r {prog:y0q} {w:World} {A:Around} {E:Value->y04->Prop} {s:y04} {t sl:Addr} {items:Array Value} {vl vu:Value} {lo hi:Option Int} {Q:Value->y04->Prop} (ht:IsTup s.heap t items) (hs:s.heap.IsSliceOf sl vl vu .none) (pl:IsPart vl lo) (pu:IsPart vu hi)
  (hw:HT.sIx items.size 0 lo=0/\HT.sIx items.size items.size hi=items.size) (h:Q (.ref t) s):y0u (y37 prog w) A (getItem (.ref t) (.ref sl)) Q E s:=by
 obtain⟨os,hos,hcs,hds⟩:=id hs
 have hTs:s.TypeIs (.ref sl) "slice":=⟨os,hos,hcs⟩
 unfold getItem
 try with_reducible refine y2k ?_
 first|refine y02 (y06 ?_)|skip
 refine y02 (wpAny_sequenceKey ht.typeIs (by decide) ?_)
 refine y02 (y2n (name:=Str.ofString "__getitem__") ht.typeIs y1h
  (y2w y1h ht.typeIs entry_tuple_getitem ?_ (args_tuple_getitem _ _)))
 show y0u _ _ (Builtin.Tuple.tupleItemsOf (.ref t) >>= _) _ _ s
 refine y02 (tupleItemsOf_ ht ?_)
 refine y02 (wpAny_typeOf hTs ?_)
 rw[if_pos (by decide)]
 refine y02 (HT.sliceApplied_gen hs pl pu ?_)
 rw[hw.1,hw.2]
 show y0u _ _ (if (((0:Nat):Int) == 0 && (1:Int) == 1 && (items.size - 0) == items.size)=true then _ else _) _ _ s
 rw[if_pos (by simp)]
 unfold Builtin.Tuple.tupleIsExact
 refine y02 (y02 (wpAny_typeOf ht.typeIs (y06 ?_)))
 rw[if_pos (by decide)]
 refine y02 (wpAny_rule ?_)
 exact y06 ⟨_,rfl,y06 h⟩
theorem zio:SlR X (rSlW X.K):=by
 intro pins s σ H x v vl vu lo hi sl Q I rx hs pl pu h
 obtain⟨a,xs,rfl,hx,hw,q⟩:=h
 cases rx
 obtain⟨its,r,ht,hz⟩:=I.tuple hx
 have hlen:its.toArray.size=xs.length:=by rw[y0h];exact r.length.symm
 refine⟨"tuple",_,PyProof.Rows.slot_tuple_getitem.lookup,ht.typeIs,?_⟩
 exact z4r ht hs pl pu (by rw[hlen];exact hw) ⟨.ref a,H,I,rfl,q⟩
theorem znw (n d:Nat) (o:Option Int):D.sIx n d o=HT.sIx n d o:=by
 cases o with
 | none=>rfl
 | some v =>
  unfold D.sIx HT.sIx
  dsimp only
  split <;> omega
theorem z9c {K:y00} {F:Addr->Prop} {H:Hp} {ts:List T} {vs:List V} (h:RepL K F H ts vs) (lo hi:Option Int):RepL K F H (cutZ ts lo hi) (cutV vs lo hi):=by
 unfold cutZ cutV
 simp only[znw,h.length]
 exact (h.drop _).take _
theorem zg4 {lo hi:Option Expr} {fl fh:Ev->Option (Option Int)} (ha:PEr X e f) (hl:PO X lo (tOt X.K fl)) (hu:PO X hi (tOt X.K fh)):PEv X (.Subscript e (.Slice lo hi none p2) pos) (slice f fl fh):=z0p (zjc ((znr.or zio).or zlq) ha hl hu) fun σ H Q ⟨F₀,H₀,O,F,ε,t,r,e,k⟩=>by
 simp only[slice,y01] at e
 obtain⟨x,ex,l,el,h,eh,e⟩:=e
 refine⟨F₀,H₀,O,F,ε,x,r,ex,fun v F1 H1 x1 rx=>⟨F₀,H₀,O,F1,ε,l,r.ext x1,el,fun F2 H2 x2=>⟨F₀,H₀,O,F2,ε,h,(r.ext x1).ext x2,eh,fun F3 H3 x3=>?_⟩⟩⟩
 have x23:=x2.trans x3
 have x13:=x1.trans x23
 unfold oSl at e
 split at e
 ·cases e
  obtain⟨a,vs,rfl,hs,hr⟩:=(rx.ext x23).tup
  by_cases hw:HT.sIx vs.length 0 l=0/\HT.sIx vs.length vs.length h=vs.length
  ·refine .inl (.inr ⟨a,vs,rfl,hs,hw,k _ F3 H3 x13 ?_⟩)
   simp only[Rep]
   refine⟨a,vs,rfl,hs,?_⟩
   have:=z9c hr l h
   unfold cutV at this
   rw[hw.1,hw.2,List.drop_zero,Nat.sub_zero,List.take_length] at this
   exact this
  ·refine .inl (.inl ⟨a,vs,rfl,hs,hw,fun q hq=>?_⟩)
   have x4:=Ext.laid (o:=.tup (cutV vs l h)) x13.dom hq
   refine k _ F3 _ (x13.trans x4) ?_
   simp only[Rep]
   exact⟨q,_,rfl,SqT.of z03,(z9c hr l h).ext x4⟩
 ·cases e
  obtain⟨a,vs,rfl,hs,hr⟩:=(rx.ext x23).lst
  refine .inr ⟨a,vs,rfl,.inl hs,fun q hq=>?_⟩
  have x4:=Ext.laidF (o:=.lst (cutV vs l h)) x13.dom hq
  refine k _ _ _ (x13.trans x4) ?_
  simp only[Rep]
  exact⟨q,_,rfl,.inr rfl,.inl z03,(z9c hr l h).ext x4⟩
 ·cases e
end
def z1i:List T->Option T
 | [.list xs]=>z2h [.list xs]
 | [.tuple xs]=>z2h [.list xs]
 | _=>none
noncomputable def z44:List T->Option T
 | [.list xs]=>if xs.length<64 then (intsOf xs).map fun ns=>.int (dedup ns).length else none
 | [.tuple xs]=>if xs.length<64 then (intsOf xs).map fun ns=>.int (dedup ns).length else none
 | _=>none
section
variable {X:Cx} {a e:Expr} {f:Fe} {p p2 pos pos2:Pos}
theorem zhw (hc:X.calm=true):z23 X (.type "set") (fun xs H Q=>∃p ks,xs=[.ref p]/\SqT X.K H p (ks.map kV)/\ks.length<64/\∀l,H l=none->Q (.ref l) (upd H l (setO X l (z0w ks)))):=by
 intro pins s σ H xs us Q I r h
 obtain⟨p,ks,rfl,hq,hz,q⟩:=h
 obtain⟨u,rfl,rx⟩:=vals1 r
 cases rx
 obtain⟨its,r',pl,hz'⟩:=I.tuple hq
 have hlen:=r'.length
 rw[y13] at hlen
 refine zcf (knd:=z0f X.prog X.w) (ks:=ks) (I.ok.hd hc) pl (z51 (by simpa using r')) (by simp only[y0h];unfold scanBound;omega) fun h' tk hS kp=>?_
 refine⟨.ref s.heap.objs.size,_,I.laid (t':=tk) (o:=setO X s.heap.objs.size (z0w ks)) (fun b o e=>kp b o (y0c e) e) (y0o _) ⟨hS,?_,fun h1 h2 x k=>x.at' k⟩,rfl,q _ (I.hok.fresh (y0o _))⟩
 obtain⟨es,ep,t,ks',ho,_⟩:=hS
 exact⟨_,ho⟩
theorem zkn (hc:X.calm=true) (ht:X.mg "set"=none) (ha:PEr X a f) (hg2:Gl X "set") (he:y0a [a] X.env=(false,eval a X.env)::y0a [] X.env) (hpl2:(y2l pos2 (y0a [] X.env)).any (·.1)=false) :
  PE X (.Call (.Name "set" p2) [a] [] pos2) (fun σ H Q=>∃F₀ H₀ O F ε xs,RelE X.K F₀ H₀ O F H ε σ/\(f ε=some (.list xs)\/f ε=some (.tuple xs))/\xs.length<64 /\
   ((∃ns,intsOf xs=some ns/\∀l F' H',Ext F H F' H'->H' l=some (setO X l (z0w (ns.map .inl)))->Q (.ref l) H')\/∃ss,strsOf xs=some ss/\∀l F' H',Ext F H F' H'->H' l=some (setO X l (z0w (ss.map .inr)))->Q (.ref l) H')) :=
 z0p (z2g (zkj (zhx hc) (zhw hc)) hg2 ht (by decide +kernel) (z0j ha z0x he) (he:=he) (hpl:=hpl2)) fun σ H Q ⟨F₀,H₀,O,F,ε,xs,r,e,hz,h⟩=>by
 rcases e with e|e
 ·refine⟨F₀,H₀,O,F,ε,[.list xs],r,by simp[args,e],fun vs F1 H1 x1 q1=>.inl ?_⟩
  cases q1 with
  | cons q1 q2 =>
   cases q2
   obtain⟨l0,vs,rfl,hl,hr⟩:=q1.lst
   rcases h with ⟨ns,hn,h⟩|⟨ss,hn,h⟩
   ·have:=z30 hn
    subst this
    rw[z43 hr] at hl
    exact⟨l0,ns.map .inl,rfl,by simpa [kV,y16] using SqL.of' hl,by simpa using hz,fun l hl1=>h l F1 _ (x1.trans (Ext.laid x1.dom hl1)) z03⟩
   ·have:=z52 hn
    subst this
    rw[z5j hr] at hl
    exact⟨l0,ss.map .inr,rfl,by simpa [kV,y16] using SqL.of' hl,by simpa using hz,fun l hl1=>h l F1 _ (x1.trans (Ext.laid x1.dom hl1)) z03⟩
 ·refine⟨F₀,H₀,O,F,ε,[.tuple xs],r,by simp[args,e],fun vs F1 H1 x1 q1=>.inr ?_⟩
  cases q1 with
  | cons q1 q2 =>
   cases q2
   obtain⟨l0,vs,rfl,hl,hr⟩:=q1.tup
   rcases h with ⟨ns,hn,h⟩|⟨ss,hn,h⟩
   ·have:=z30 hn
    subst this
    rw[z43 hr] at hl
    exact⟨l0,ns.map .inl,rfl,by simpa [kV,y16] using hl,by simpa using hz,fun l hl1=>h l F1 _ (x1.trans (Ext.laid x1.dom hl1)) z03⟩
   ·have:=z52 hn
    subst this
    rw[z5j hr] at hl
    exact⟨l0,ss.map .inr,rfl,by simpa [kV,y16] using hl,by simpa using hz,fun l hl1=>h l F1 _ (x1.trans (Ext.laid x1.dom hl1)) z03⟩
where SqL.of' {K:y00} {H:Hp} {a:Addr} {xs:List V} (h:Rd H a (.lst xs)):SqL K H a xs:=.inl h
theorem ssA {ts:List T} {t:T} (e:z1i ts=some t):∃xs,(ts=[.list xs]\/ts=[.tuple xs])/\xs.length<64/\((∃ns,intsOf xs=some ns/\t=.list ((sortI (dedup ns)).map .int))\/∃ss,strsOf xs=some ss/\t=.list ((z63 (dedup ss)).map .str)):=by
 have key:∀xs,z2h [.list xs]=some t->xs.length<64/\((∃ns,intsOf xs=some ns/\t=.list ((sortI (dedup ns)).map .int))\/∃ss,strsOf xs=some ss/\t=.list ((z63 (dedup ss)).map .str)):=by
  intro xs e
  unfold z2h at e
  dsimp only at e
  split at e
  next hz =>
   split at e
   next ns hn =>
    cases e
    exact⟨hz,.inl ⟨ns,hn,rfl⟩⟩
   next =>
    simp only[y07] at e
    obtain⟨ss,hs,rfl⟩:=e
    exact⟨hz,.inr ⟨ss,hs,rfl⟩⟩
  next=>cases e
 unfold z1i at e
 split at e
 ·exact⟨_,.inl rfl,key _ e⟩
 ·exact⟨_,.inr rfl,key _ e⟩
 ·cases e
theorem zah (hc:X.calm=true) (hs:X.mg "sorted"=none) (ht:X.mg "set"=none) (ha:PEr X a f) (hg:Gl X "sorted":=by rfl) (hg2:Gl X "set":=by rfl)
  (he:y0a [a] X.env=(false,eval a X.env)::y0a [] X.env:=by rfl) (he2:y0a [.Call (.Name "set" p2) [a] [] pos2] X.env=(false,eval (.Call (.Name "set" p2) [a] [] pos2) X.env)::y0a [] X.env:=by rfl)
  (hpl:(y2l pos (y0a [] X.env)).any (·.1)=false:=by rfl) (hpl2:(y2l pos2 (y0a [] X.env)).any (·.1)=false:=by rfl) :
  PEv X (.Call (.Name "sorted" p) [.Call (.Name "set" p2) [a] [] pos2] [] pos) (opN z1i [f]) :=
 z0p (z2r (zb7 hc) hg hs (by decide +kernel) (z1w (zkn hc ht ha hg2 he hpl2) z2y he2) (he:=he2) (hpl:=hpl)) fun σ H Q ⟨F₀,H₀,O,F,ε,t,r,e,k⟩=>by
 simp only[opN,args,y01,y07] at e
 obtain⟨ts,⟨t0,e0,us,eu,rfl⟩,e⟩:=e
 cases eu
 obtain⟨xs,hx,hz,h⟩:=ssA e
 have fx:f ε=some (.list xs)\/f ε=some (.tuple xs):=by
  rcases hx with h|h
  ·cases h
   exact .inl e0
  ·cases h
   exact .inr e0
 have ln:∀{J:Type} (ns:List J) (g:J->L2.Key),ns.length<64->(z0w (ns.map g)).length<64:=fun ns g h=>by
  have:=z2u (ns.map g) []
  simp only[y2d,y13] at this
  unfold z0w
  omega
 have fin:∀(ks:List L2.Key) (ys:List V) (rs:List T),ks.length<64->zbn ks ys->(∀F' H',RepL X.K F' H' rs ys)->t=.list rs->∀l F' H',Ext F H F' H'->H' l=some (setO X l ks) ->
   tNil σ H' fun xs H2=>∃p ks ys,(V.ref l::xs)=[.ref p]/\H2 p=some (setO X p ks)/\ks.length<64/\zbn ks ys/\∀l,H2 l=none->Q (.ref l) (upd H2 l (.lst ys)):=by
  intro ks ys rs h1 h2 h3 h4 l F' H' x hl
  subst h4
  refine⟨l,ks,ys,rfl,hl,h1,h2,fun l2 hl2=>?_⟩
  have x3:=Ext.laidF (o:=.lst ys) x.dom hl2
  refine k _ _ _ (x.trans x3) ?_
  simp only[Rep]
  exact⟨l2,ys,rfl,.inr rfl,.inl z03,h3 _ _⟩
 refine⟨F₀,H₀,O,F,ε,xs,r,fx,hz,?_⟩
 rcases h with ⟨ns,hn,et⟩|⟨ss,hn,et⟩
 ·have hxs:=z30 hn
  refine .inl ⟨ns,hn,fin _ ((sortI (dedup ns)).map V.int) _ (ln ns _ (by rw[hxs] at hz;simpa using hz)) (.inl ⟨z0w ns,z5w Sum.inl (fun _ _ h=>Sum.inl.inj h) ns,by rw[z6n (z3y ns)]⟩) (fun _ _=>z3l _) et⟩
 ·have hxs:=z52 hn
  refine .inr ⟨ss,hn,fin _ ((z63 (dedup ss)).map V.str) _ (ln ss _ (by rw[hxs] at hz;simpa using hz)) (.inr ⟨z0w ss,z5w Sum.inr (fun _ _ h=>Sum.inr.inj h) ss,by rw[z6m (z3y ss)]⟩) (fun _ _=>zad _) et⟩
end
end
end D
end
section
namespace D
open PySem PySem.W PyProof.Rows
inductive RunK {α:Type} (ans:Nat->Nat->Bool) (n:Nat):KasT α->α->Prop
 | ret (a:α):RunK ans n (.ret a) a
 | ask {i j:Nat} {k:Bool->KasT α} {a:α}:i<n->j<n->RunK ans n (k (ans i j)) a->RunK ans n (.ask i j k) a
theorem z20 {α β:Type} {ans:Nat->Nat->Bool} {n:Nat} {t:KasT α} {f:α->KasT β} {a:α} {b:β} (h:RunK ans n t a) (g:RunK ans n (f a) b):RunK ans n (t.bind f) b:=by
 induction h with
 | ret a=>exact g
 | ask h1 h2 _ ih=>exact .ask h1 h2 (ih g)
theorem zlw {α:Type} {ans:Nat->Nat->Bool} {n:Nat} {t:KasT α} {a:α} (h:RunK ans n t a) {cmp:Nat->Nat->(Bool->y04->Prop)->y04->Prop} (s:y04) (hc:∀i j C,i<n->j<n->C (ans i j) s->cmp i j C s) {G:α->y04->Prop} (g:G a s):KasT.kasWp cmp t G s:=by
 induction h with
 | ret a=>exact g
 | ask h1 h2 _ ih=>exact hc _ _ _ h1 h2 (ih g)
structure OrdK (n:Nat) (lt:Nat->Nat->Bool):Prop where
 asym:∀i j,lt i j=true->lt j i=false
 trans:∀i j k,lt i j=true->lt j k=true->lt i k=true
 tot:∀i j,i<n->j<n->i≠j->lt i j=true\/lt j i=true
def Per (n:Nat) (p:Array Nat):Prop:=p.toList.Perm (List.range n)
theorem Per.size {n:Nat} {p:Array Nat} (h:Per n p):p.size=n:=by
 have:=h.length_eq
 simpa using this
theorem Per.lt {n:Nat} {p:Array Nat} (h:Per n p) {k:Nat} (hk:k<n):p.getD k 0<n:=by
 have hs:=h.size
 have:p.getD k 0=p[k]'(by omega):=by simp[Array.getD,hs,hk]
 rw[this]
 exact List.mem_range.mp (h.mem_iff.mp (by simp))
theorem Per.inj {n:Nat} {p:Array Nat} (h:Per n p) {i j:Nat} (hi:i<n) (hj:j<n) (e:p.getD i 0=p.getD j 0):i=j:=by
 have hs:=h.size
 have nd:p.toList.Nodup:=h.nodup_iff.mpr List.nodup_range
 have e1:p.getD i 0=p[i]'(by omega):=by simp[Array.getD,hs,hi]
 have e2:p.getD j 0=p[j]'(by omega):=by simp[Array.getD,hs,hj]
 rw[e1,e2] at e
 have pw:=List.pairwise_iff_getElem.mp nd
 rcases Nat.lt_trichotomy i j with q|q|q
 ·exact absurd (show p.toList[i]'(by simpa [hs] using hi)=p.toList[j]'(by simpa [hs] using hj) from e) (pw i j (by simpa [hs] using hi) (by simpa [hs] using hj) q)
 ·exact q
 ·exact absurd (show p.toList[j]'(by simpa [hs] using hj)=p.toList[i]'(by simpa [hs] using hi) from e.symm) (pw j i (by simpa [hs] using hj) (by simpa [hs] using hi) q)
def SP (lt:Nat->Nat->Bool) (p:Array Nat) (m:Nat):Prop:=∀i j,i<j->j<m->lt (p.getD i 0) (p.getD j 0)=true
def DP (lt:Nat->Nat->Bool) (p:Array Nat) (m:Nat):Prop:=∀i j,i<j->j<m->lt (p.getD j 0) (p.getD i 0)=true
section
variable {n:Nat} {lt:Nat->Nat->Bool} (O:OrdK n lt)
include O
theorem zq2 {p:Array Nat} {k:Nat} (h:SP lt p k) (h1:1<=k) (hl:lt (p.getD (k - 1) 0) (p.getD k 0)=true):SP lt p (k+1):=fun i j hij hj=>by
 by_cases e:j=k
 ·subst e
  by_cases e2:i=j - 1
  ·rw[e2]
   exact hl
  ·exact O.trans _ _ _ (h i (j - 1) (by omega) (by omega)) hl
 ·exact h i j hij (by omega)
theorem zqp {p:Array Nat} {k:Nat} (h:DP lt p k) (h1:1<=k) (hl:lt (p.getD k 0) (p.getD (k - 1) 0)=true):DP lt p (k+1):=fun i j hij hj=>by
 by_cases e:j=k
 ·subst e
  by_cases e2:i=j - 1
  ·rw[e2]
   exact hl
  ·exact O.trans _ _ _ hl (h i (j - 1) (by omega) (by omega))
 ·exact h i j hij (by omega)
theorem zcm {p:Array Nat} (P:Per n p):∀(f k:Nat),1<=k->k+f<=n->SP lt p k->∃m,RunK lt n (kas_asc p f k) m/\k<=m/\m<=k+f/\SP lt p m/\(m<k+f->lt (p.getD m 0) (p.getD (m - 1) 0)=true)
 | 0,k,h1,h2,h3=>⟨k,.ret k,y0o _,by omega,h3,fun q=>by omega⟩
 | f+1,k,h1,h2,h3=>by
  rw[kas_asc.eq_2]
  cases hc:lt (p.getD k 0) (p.getD (k - 1) 0) with
  | true =>
   refine⟨k,.ask (P.lt (by omega)) (P.lt (by omega)) ?_,y0o _,by omega,h3,fun _=>hc⟩
   rw[hc]
   exact .ret k
  | false =>
   have hne:p.getD (k - 1) 0≠p.getD k 0:=fun e=>by have:=P.inj (by omega) (by omega) e;omega
   have hl:lt (p.getD (k - 1) 0) (p.getD k 0)=true:=by
    rcases O.tot _ _ (P.lt (by omega)) (P.lt (by omega)) hne with q|q
    ·exact q
    ·rw[q] at hc;cases hc
   obtain⟨m,r1,r2,r3,r4,r5⟩:=zcm P f (k+1) (by omega) (by omega) (zq2 O h3 h1 hl)
   refine⟨m,.ask (P.lt (by omega)) (P.lt (by omega)) ?_,by omega,by omega,r4,fun q=>r5 (by omega)⟩
   rw[hc]
   exact r1
theorem ze0 {p:Array Nat} (P:Per n p):∀(f k:Nat),1<=k->k+f<=n->DP lt p k->∃m,RunK lt n (kas_desc f p k 0) (p,m,0)/\k<=m/\m<=k+f/\DP lt p m
 | 0,k,h1,h2,h3=>⟨k,.ret _,y0o _,by omega,h3⟩
 | f+1,k,h1,h2,h3=>by
  rw[kas_desc.eq_2]
  cases hc:lt (p.getD k 0) (p.getD (k - 1) 0) with
  | true =>
   obtain⟨m,r1,r2,r3,r4⟩:=ze0 P f (k+1) (by omega) (by omega) (zqp O h3 h1 hc)
   refine⟨m,.ask (P.lt (by omega)) (P.lt (by omega)) ?_,by omega,by omega,r4⟩
   rw[hc]
   simpa using r1
  | false =>
   have hne:p.getD (k - 1) 0≠p.getD k 0:=fun e=>by have:=P.inj (by omega) (by omega) e;omega
   have hl:lt (p.getD (k - 1) 0) (p.getD k 0)=true:=by
    rcases O.tot _ _ (P.lt (by omega)) (P.lt (by omega)) hne with q|q
    ·exact q
    ·rw[q] at hc;cases hc
   refine⟨k,.ask (P.lt (by omega)) (P.lt (by omega)) ?_,y0o _,by omega,h3⟩
   rw[hc]
   refine .ask (P.lt (by omega)) (P.lt (by omega)) ?_
   rw[hl]
   exact .ret _
omit O in
theorem zfz {p:Array Nat} (P:Per n p) (i j:Nat):Per n (kas_rev p i j):=(Array.perm_iff_toList_perm.mp (mirror_perm p i j _)).trans P
omit O in
theorem zg0 {p:Array Nat} (P:Per n p) {m:Nat} (hm:m<=n) (k:Nat):(kas_rev p 0 m).getD k 0=if k<m then p.getD (m - 1 - k) 0 else p.getD k 0:=by
 have hs:=P.size
 have:=getElem?_mirror_all (xs:=p) (i:=0) (j:=m) (by omega) k
 rw[Array.getD_eq_getD_getElem?,Array.getD_eq_getD_getElem?,Array.getD_eq_getD_getElem?,kas_rev,this]
 by_cases q:k<m
 ·simp[q]
 ·simp[q]
omit O in
theorem zny {p:Array Nat} (P:Per n p) {m:Nat} (hm:m<=n) (h:DP lt p m):SP lt (kas_rev p 0 m) m:=fun i j hij hj=>by
 rw[zg0 P hm i,zg0 P hm j,if_pos (by omega),if_pos hj]
 exact h _ _ (by omega) (by omega)
theorem zik {p:Array Nat} (P:Per n p) {m:Nat} (h1:1<=m) (hm:m<=n) (h:DP lt p m):∃k q,RunK lt n (kas_tail3 m n p) (k,q)/\1<=k/\k<=n/\Per n q/\SP lt q k:=by
 obtain⟨k,r1,r2,r3,r4,_⟩:=zcm O (zfz P 0 m) (n - m) m h1 (by omega) (zny P hm h)
 exact⟨k,_,z20 r1 (.ret _),by omega,by omega,zfz P 0 m,r4⟩
theorem zhr {p:Array Nat} (P:Per n p) (h2:2<=n):∃k q,RunK lt n (kas_count n p) (k,q)/\1<=k/\k<=n/\Per n q/\SP lt q k:=by
 obtain⟨m,r1,r2,r3,r4,r5⟩:=zcm O P (n - 1) 1 (y0o _) (by omega) (fun i j a b=>by omega)
 by_cases e:m=n
 ·subst e
  refine⟨m,p,z20 r1 ?_,by omega,by omega,P,r4⟩
  simp only[beq_self_eq_true,if_true]
  exact .ret _
 ·have e':(m == n)=false:=by simpa using e
  by_cases h1:1<m
  ·refine⟨m,p,z20 r1 ?_,by omega,by omega,P,r4⟩
   simp only[e',y1u,if_false]
   rw[if_pos h1]
   refine .ask (P.lt (by omega)) (P.lt (by omega)) ?_
   rw[r4 0 (m - 1) (by omega) (by omega)]
   exact .ret _
  ·have hm:m=1:=by omega
   subst hm
   have hd:DP lt p 2:=fun i j a b=>by
    have:i=0:=by omega
    have:j=1:=by omega
    subst i j
    exact r5 (by omega)
   obtain⟨k,d1,d2,d3,d4⟩:=ze0 O P (n - 2) 2 (by omega) (by omega) hd
   obtain⟨k',q,t1,t2,t3,t4,t5⟩:=zik O P (by omega) (by omega) d4
   refine⟨k',q,z20 r1 ?_,t2,t3,t4,t5⟩
   simp only[e',y1u,if_false]
   rw[if_neg h1]
   unfold kas_descPart
   refine z20 d1 ?_
   simpa using t1
theorem z6x {p:Array Nat} (P:Per n p) {k:Nat} (hk:k<n):∀(f l r:Nat),r - l<=f->l<=r->r<=k->(∀i,i<l->lt (p.getD i 0) (p.getD k 0)=true)->(∀i,r<=i->i<k->lt (p.getD k 0) (p.getD i 0)=true)->SP lt p k ->
  ∃l',RunK lt n (kas_place p k f l r) l'/\l'<=k/\(∀i,i<l'->lt (p.getD i 0) (p.getD k 0)=true)/\∀i,l'<=i->i<k->lt (p.getD k 0) (p.getD i 0)=true
 | 0,l,r,h1,h2,h3,h4,h5,_=>⟨l,.ret l,by omega,h4,fun i a b=>h5 i (by omega) b⟩
 | f+1,l,r,h1,h2,h3,h4,h5,hs=>by
  rw[kas_place.eq_2]
  by_cases e:l >= r
  ·rw[if_pos e]
   exact⟨l,.ret l,by omega,h4,fun i a b=>h5 i (by omega) b⟩
  ·rw[if_neg e]
   have hm1:l<=(l+r) / 2:=by omega
   have hm2:(l+r) / 2<r:=by omega
   cases hc:lt (p.getD k 0) (p.getD ((l+r) / 2) 0) with
   | true =>
    obtain⟨l',r1,r2,r3,r4⟩:=z6x P hk f l ((l+r) / 2) (by omega) (by omega) (by omega) h4 (fun i a b=>by
     by_cases q:i=(l+r) / 2
     ·rw[q];exact hc
     ·exact O.trans _ _ _ hc (hs _ i (by omega) b)) hs
    refine⟨l',.ask (P.lt hk) (P.lt (by omega)) ?_,r2,r3,r4⟩
    rw[hc]
    exact r1
   | false =>
    have hne:p.getD ((l+r) / 2) 0≠p.getD k 0:=fun e=>by have:=P.inj (by omega) hk e;omega
    have hl:lt (p.getD ((l+r) / 2) 0) (p.getD k 0)=true:=by
     rcases O.tot _ _ (P.lt (by omega)) (P.lt hk) hne with q|q
     ·exact q
     ·rw[q] at hc;cases hc
    obtain⟨l',r1,r2,r3,r4⟩:=z6x P hk f ((l+r) / 2+1) r (by omega) (by omega) h3 (fun i a=>by
     by_cases q:i=(l+r) / 2
     ·rw[q];exact hl
     ·exact O.trans _ _ _ (hs i _ (by omega) (by omega)) hl) h5 hs
    refine⟨l',.ask (P.lt hk) (P.lt (by omega)) ?_,r2,r3,r4⟩
    rw[hc]
    exact r1
theorem zi3:∀(f:Nat) {p:Array Nat} {k:Nat},Per n p->f+k=n->1<=k->SP lt p k->∃q,RunK lt n (kas_bin f p k) q/\Per n q/\SP lt q n
 | 0,p,k,P,h1,h2,h3=>⟨p,.ret p,P,(by have e:k=n:=(by omega);exact e▸h3)⟩
 | f+1,p,k,P,h1,h2,h3=>by
  rw[kas_bin.eq_2]
  have hs:=P.size
  obtain⟨l,r1,r2,r3,r4⟩:=z6x O P (k:=k) (by omega) k 0 k (by omega) (by omega) (y0o _) (fun i a=>by omega) (fun i a b=>by omega) h3
  have P':Per n (bubble p k (k - l)):=(Array.perm_iff_toList_perm.mp (bubble_perm p k (k - l))).trans P
  have hg:∀i,(bubble p k (k - l)).getD i 0=if i=l then p.getD k 0 else if l<i/\i<=k then p.getD (i - 1) 0 else p.getD i 0:=fun i=>by
   have:=getElem?_bubble (xs:=p) (src:=k) (by omega) (k - l) (by omega) i
   rw[show k - (k - l)=l from by omega] at this
   rw[Array.getD_eq_getD_getElem?,this]
   simp only[Array.getD_eq_getD_getElem?]
   split
   ·rfl
   ·split <;> rfl
  have hsp:SP lt (bubble p k (k - l)) (k+1):=fun i j a b=>by
   rw[hg i,hg j]
   by_cases i1:i=l
   ·rw[if_pos i1,if_neg (by omega),if_pos (by omega)]
    exact r4 _ (by omega) (by omega)
   ·rw[if_neg i1]
    by_cases j1:j=l
    ·rw[if_pos j1,if_neg (by omega)]
     exact r3 i (by omega)
    ·rw[if_neg j1]
     by_cases i2:l<i/\i<=k
     ·rw[if_pos i2,if_pos (by omega)]
      exact h3 _ _ (by omega) (by omega)
     ·rw[if_neg i2]
      by_cases j2:l<j/\j<=k
      ·rw[if_pos j2]
       by_cases q:i=j - 1
       ·omega
       ·exact h3 _ _ (by omega) (by omega)
      ·rw[if_neg j2]
       exact h3 _ _ a (by omega)
  obtain⟨q,q1,q2,q3⟩:=zi3 f P' (k:=k+1) (by omega) (by omega) hsp
  exact⟨q,z20 r1 q1,q2,q3⟩
theorem zim (h2:2<=n):∃q,RunK lt n (kas_sort n) q/\Per n q/\SP lt q n:=by
 have P:Per n (List.range n).toArray:=by
  unfold Per
  exact .rfl
 obtain⟨k,p,c1,c2,c3,c4,c5⟩:=zhr O P h2
 by_cases e:k<n
 ·obtain⟨q,b1,b2,b3⟩:=zi3 O (n - max k 1) (k:=max k 1) c4 (by omega) (by omega) (by rw[show max k 1=k from by omega];exact c5)
  refine⟨q,z20 c1 ?_,b2,b3⟩
  simp only
  rw[if_pos e]
  exact b1
 ·refine⟨p,z20 c1 ?_,c4,?_⟩
  ·simp only
   rw[if_neg e]
   exact .ret _
  ·have:k=n:=by omega
   exact this▸c5
end
end D
end
section
namespace D
open PySem
variable [Tbl]
def ltL:List Int->List Int->Bool
 | [],[]=>false
 | [],_::_=>true
 | _::_,[]=>false
 | a::x,b::y=>decide (a<b) || (decide (a=b) && ltL x y)
abbrev lLe (x y:List Int):Prop:=ltL y x=false
theorem zgt:∀x:List Int,ltL x x=false
 | []=>rfl
 | a::x=>by simp[ltL,zgt x]
theorem z46:∀{x y:List Int},ltL x y=true->ltL y x=false
 | [],[],h=>by cases h
 | [],_::_,_=>rfl
 | _::_,[],h=>by cases h
 | a::x,b::y,h=>by
  simp only[ltL,Bool.or_eq_true,y1b,decide_eq_true_eq] at h
  simp only[ltL,Bool.or_eq_false_iff,Bool.and_eq_false_iff,decide_eq_false_iff_not]
  rcases h with h|⟨h1,h2⟩
  ·exact⟨by omega,.inl (by omega)⟩
  ·exact⟨by omega,.inr (z46 h2)⟩
theorem z7b:∀{x y z:List Int},lLe x y->lLe y z->lLe x z
 | [],_,[],_,_=>rfl
 | [],_,_::_,_,_=>rfl
 | _::_,[],[],h1,_=>by cases h1
 | _::_,_::_,[],_,h2=>by cases h2
 | _::_,[],_::_,h1,_=>by cases h1
 | a::x,b::y,c::z,h1,h2=>by
  simp only[lLe,ltL,Bool.or_eq_false_iff,Bool.and_eq_false_iff,decide_eq_false_iff_not] at h1 h2 ⊢
  refine⟨by omega,?_⟩
  by_cases q:c=a
  ·have q1:b=a:=by omega
   have q2:c=b:=by omega
   rcases h1.2 with z1|z1
   ·exact absurd q1 z1
   ·rcases h2.2 with z2|z2
    ·exact absurd q2 z2
    ·exact .inr (z7b z1 z2)
  ·exact .inl q
theorem z9j:∀{x y:List Int},lLe x y->lLe y x->x=y
 | [],[],_,_=>rfl
 | [],_::_,_,h=>by cases h
 | _::_,[],h,_=>by cases h
 | a::x,b::y,h1,h2=>by
  simp only[lLe,ltL,Bool.or_eq_false_iff,Bool.and_eq_false_iff,decide_eq_false_iff_not] at h1 h2
  have q:a=b:=by omega
  rw[q,z9j (h1.2.resolve_left fun z=>z q.symm) (h2.2.resolve_left fun z=>z q)]
def insL (x:List Int):List (List Int)->List (List Int)
 | []=>[x]
 | y::ys=>if ltL y x=false then x::y::ys else y::insL x ys
def z7z:List (List Int)->List (List Int)
 | []=>[]
 | x::xs=>insL x (z7z xs)
theorem z7j (x:List Int):∀l,(insL x l).Perm (x::l)
 | []=>.rfl
 | y::ys=>by
  unfold insL
  split
  ·exact .rfl
  ·exact ((z7j x ys).cons y).trans (.swap x y ys)
theorem z5i:∀l,(z7z l).Perm l
 | []=>.rfl
 | x::xs=>(z7j x _).trans ((z5i xs).cons x)
theorem zhc (x:List Int):∀{l:List (List Int)},l.Pairwise lLe->(insL x l).Pairwise lLe
 | [],_=>by simp[insL]
 | y::ys,h=>by
  have h':=y18.mp h
  unfold insL
  split
  next q =>
   refine y18.mpr ⟨fun z hz=>?_,h⟩
   rcases y09.mp hz with rfl|hz
   ·exact q
   ·exact z7b q (h'.1 z hz)
  next q =>
   refine y18.mpr ⟨fun z hz=>?_,zhc x h'.2⟩
   rcases y09.mp ((z7j x ys).mem_iff.mp hz) with rfl|hz
   ·rw[Bool.not_eq_false] at q
    exact z46 q
   ·exact h'.1 z hz
theorem z95:∀l,(z7z l).Pairwise lLe
 | []=>.nil
 | x::xs=>zhc x (z95 xs)
theorem z96 {l m:List (List Int)} (p:l.Perm m) (h:l.Pairwise lLe):l=z7z m:=z2a (fun a b h1 h2=>z9j h1 h2) (p.trans (z5i m).symm) h (z95 m)
def rowsOf:List T->Option (List (List Int))
 | []=>some []
 | .tuple xs::ts=>(intsOf xs).bind fun r=>(rowsOf ts).map fun rs=>r::rs
 | _::_=>none
def rowT (r:List Int):T:=.tuple (r.map .int)
end D
end
section
namespace D
open PySem PySem.Spec PyProof.Rows L2
section
variable [Tbl]
open PySem.W (kas_ask kas_sort kat_run kat_snds kat_lt kat_kind KatTups KatLex KatGo kas_item KasT)
section
variable {prog:y0q} {w:World} {A:Around} {E:Value->y04->Prop} {s:y04}
theorem zg2 {us:List Value}:(List.range us.length).map (fun i=>us.getD i Value.none)=us:=by
 refine List.ext_getElem? fun i=>?_
 rw[y14]
 rcases Nat.lt_or_ge i us.length with q|q
 ·simp[List.getElem?_range q,q]
 ·simp[List.getElem?_eq_none,q]
theorem zfo {a:Addr} {us:List Value} {n:Nat} {P:Fin->y04->Prop} (hL:s.heap.get? a=some (seqObj "list" us.toArray n)) (hz:us.length<64) {ans:Nat->Nat->Bool} (O:OrdK us.length ans) (κ:SortKind)
  (hK:2<=us.length->∀h':Heap,(∀b o,b≠a->s.heap.get? b=some o->h'.get? b=some o)->∀G:SortKind->y04->Prop,G κ { s with heap:=h' }->y0u (y37 prog w) A (keyKind' us.toArray) G (fun _ _=>False) { s with heap:=h' })
  (hC:∀h':Heap,(∀b o,b≠a->s.heap.get? b=some o->h'.get? b=some o)->∀i j (C:Bool->y04->Prop),i<us.length->j<us.length->C (ans i j) { s with heap:=h' }->kas_ask prog w A κ us i j C { s with heap:=h' })
  (fin:∀q:Array Nat,Per us.length q->SP ans q us.length->P (.done (.ret .none)) { s with heap:=sortedHeap s.heap a us (q.toList.map fun i=>us.getD i Value.none).toArray }) :
  y0u (y37 prog w) A (Builtin.«list.sort» ⟨[.ref a],[]⟩) P E s:=by
 have hlt:a<s.heap.objs.size:=y0c hL
 obtain⟨c1,hL1⟩:∃c1,(s.heap.update a (Obj.mapSeq fun _=>(#[]:Array Value))).get? a=some (seqObj "list" #[] c1):=⟨_,get?_update_seq hL (fun _=>#[])⟩
 have up:∀{b:Addr} {o:Obj},(s.heap.update a (Obj.mapSeq fun _=>(#[]:Array Value))).get? b=some o->(((s.heap.update a (Obj.mapSeq fun _=>(#[]:Array Value))).push (seqObj "tuple" us.toArray 0)).push (seqObj "list" #[] 0)).get? b=some o:=fun e=>y03 _ (y03 _ e)
 have hL2:=up hL1
 have keep:∀b o,b≠a->s.heap.get? b=some o->(((s.heap.update a (Obj.mapSeq fun _=>(#[]:Array Value))).push (seqObj "tuple" us.toArray 0)).push (seqObj "list" #[] 0)).get? b=some o:=fun b o hb e=>up ((y3c _ _ (Ne.symm hb)).trans e)
 have hsize:us.toArray.size=us.length:=y0h
 have hline:us.length<=y0j:=by rw[y2p];omega
 rw[list_sort_plain]
 refine y02 (listItems_at hL rfl (y02 (listUpdate_at hL rfl ?_ (by rw[hsize];exact hline) (y23 _))))
 refine y02 (seqEpoch_at hL1 rfl (y02 (wpAny_newTuple ?_ (by show us.length<=_;exact hline))))
 refine y02 (wpAny_newList (y2k ?_) (y23 _))
 show y0u _ _ _ P E { s with heap:=((s.heap.update a (Obj.mapSeq fun _=>(#[]:Array Value))).push (seqObj "tuple" us.toArray 0)).push (seqObj "list" #[] 0) }
 dsimp only
 by_cases few:us.toArray.size<2
 ·rw[if_pos few,if_pos few]
  refine y02 (y06 ?_)
  rw[StateT.run_pure]
  refine y02 (y06 ?_)
  dsimp only
  have hout:(arrOf (SortSt.mk' general' (us.toArray.zip us.toArray) #[] 7 none)).map (·.2)=((List.range us.length).toArray.toList.map fun i=>us.getD i Value.none).toArray:=by
   rw[show (List.range us.length).toArray.toList=List.range us.length from rfl,zg2]
   refine Array.ext' ?_
   show ((us.toArray.zip us.toArray).map (·.2)).toList=us
   simp[Array.toList_map,List.map_snd_zip]
  rw[hout]
  refine y02 (seqEpoch_at hL2 rfl (y02 (listUpdate_at hL2 rfl ?_ (y23 _) (by simp only[y0h,y13,List.length_range];exact Nat.le_succ_of_le hline))))
  simp only[bne_self_eq_false,y1u,if_false]
  exact y06 (fin (List.range us.length).toArray (by unfold Per;exact .rfl) fun i j h1 h2=>by omega)
 ·rw[if_neg few,if_neg few]
  have h2:2<=us.length:=by omega
  obtain⟨q,q1,q2,q3⟩:=zim O h2
  refine y02 (y1d (hK h2 _ keep (fun κ' s'=>κ'=κ/\s'={ s with heap:=((s.heap.update a (Obj.mapSeq fun _=>(#[]:Array Value))).push (seqObj "tuple" us.toArray 0)).push (seqObj "list" #[] 0) }) ⟨rfl,rfl⟩) (fun κ' s' hk=>?_) fun _ _ x=>x.elim)
  obtain⟨rfl,rfl⟩:=hk
  refine y02 (y1d (kat_run (Q:=fun st' s'=>arrOf st'=q.map (kas_item (us.toArray.zip us.toArray))/\failedOf st'=none/\s'={ s with heap:=((s.heap.update a (Obj.mapSeq fun _=>(#[]:Array Value))).push (seqObj "tuple" us.toArray 0)).push (seqObj "list" #[] 0) }) (G:=fun p' s'=>p'=q/\s'={ s with heap:=((s.heap.update a (Obj.mapSeq fun _=>(#[]:Array Value))).push (seqObj "tuple" us.toArray 0)).push (seqObj "list" #[] 0) })
   rfl h2 hz (fun p' st' s' z1 z2 z3 z4=>⟨by rw[z2,z4.1],z3,z4.2⟩) (zlw q1 _ (hC _ keep) ⟨rfl,rfl⟩)) (fun r s' hr=>?_) fun _ _ x=>x)
  obtain⟨⟨⟩,st'⟩:=r
  obtain⟨r1,r2,rfl⟩:=hr
  dsimp only at r1 r2 ⊢
  rw[kat_snds rfl r1,r2]
  refine y02 (seqEpoch_at hL2 rfl (y02 (listUpdate_at hL2 rfl ?_ (y23 _) (by simp only[y0h,y13,y1z,q2.size];exact Nat.le_succ_of_le hline))))
  simp only[bne_self_eq_false,y1u,if_false]
  exact y06 (fin q q2 q3)
theorem zdi {b:Bool} {Q:Bool->y04->Prop}:∀{xs ys:List Value} {r t:List Int} {i:Nat},IntsAre xs r->IntsAre ys t->Q (ltL r t) s->KatLex prog w A b (decide (r.length<t.length)) Q (xs.zip ys) i s
 | _,_,_,_,_,.nil,.nil,h=>h
 | _,_,_,_,_,.nil,.cons n t _,h=>by
  simpa [KatLex,ltL] using h
 | _,_,_,_,_,.cons n t _,.nil,h=>by
  simpa [KatLex,ltL] using h
 | _,_,_,_,i,.cons m t h1,.cons n u h2,h=>by
  refine PySem.W.kat_cons (wpAny_eqBool_int ?_)
  by_cases e:m=n
  ·subst e
   rw[beq_self_eq_true]
   refine PySem.W.kat_yes ?_
   have z:=zdi (b:=b) (i:=i+1) (Q:=Q) h1 h2 (by simpa [ltL] using h)
   simp only[y0w,Nat.add_lt_add_iff_right]
   exact z
  ·rw[beq_eq_false_iff_ne.mpr e]
   have hq:Q (decide (m<n)) s:=by simpa [ltL,e] using h
   refine PySem.W.kat_no ?_
   cases b && i == 0 with
   | true=>exact oneLt_int hq
   | false=>exact PySem.W.kat_one _ _ (PyProof.Rows.lt_int hq)
end
theorem zgs {x y z:List Int} (h1:ltL x y=true) (h2:ltL y z=true):ltL x z=true:=by
 cases h:ltL x z with
 | true=>rfl
 | false =>
  have:lLe z y:=z7b (show lLe z x from h) (z46 h1)
  rw[show ltL y z=false from this] at h2
  cases h2
theorem zmr {x y:List Int} (h:x≠y):ltL x y=true\/ltL y x=true:=by
 cases h1:ltL x y with
 | true=>exact .inl rfl
 | false =>
  cases h2:ltL y x with
  | true=>exact .inr rfl
  | false=>exact absurd (z9j (show lLe x y from h2) (show lLe y x from h1)) h
inductive RowsAt (h:Heap):List Value->List (List Int)->Prop
 | nil:RowsAt h [] []
 | cons {a:Addr} {o:Obj} {xs:Array Value} {n:Nat} {r:List Int} {us:List Value} {rs:List (List Int)}:h.get? a=some o->o.cls=.type "tuple"->o.data=.seq xs n->IntsAre xs.toList r->RowsAt h us rs->RowsAt h (.ref a::us) (r::rs)
theorem RowsAt.len {h:Heap} {us:List Value} {rs:List (List Int)} (R:RowsAt h us rs):us.length=rs.length:=by
 induction R with
 | nil=>rfl
 | cons _ _ _ _ _ ih=>simp[ih]
theorem RowsAt.at_ {h:Heap} {us:List Value} {rs:List (List Int)} (R:RowsAt h us rs):∀{i:Nat},i<us.length->∃a o xs n,us.getD i Value.none=.ref a/\h.get? a=some o/\o.cls=.type "tuple"/\o.data=.seq xs n/\IntsAre xs.toList (rs.getD i []):=by
 induction R with
 | nil=>intro i hi;simp at hi
 | cons h1 h2 h3 h4 _ ih =>
  intro i hi
  cases i with
  | zero=>exact⟨_,_,_,_,rfl,h1,h2,h3,h4⟩
  | succ i=>simpa using ih (by simpa using hi)
theorem RowsAt.keep {h h':Heap} {us:List Value} {rs:List (List Int)} (R:RowsAt h us rs) (k:∀b o,h.get? b=some o->h'.get? b=some o):RowsAt h' us rs:=by
 induction R with
 | nil=>exact .nil
 | cons h1 h2 h3 h4 _ ih=>exact .cons (k _ _ h1) h2 h3 h4 ih
theorem RowsAt.tups {h:Heap} {us:List Value} {rs:List (List Int)} (R:RowsAt h us rs) (hne:∀r∈rs,r≠[]):∃fs,KatTups h us fs/\fs.length=us.length/\∀v∈fs,∃i t,v=.int i t:=by
 induction R with
 | nil=>exact⟨[],trivial,rfl,by simp⟩
 | @cons a o xs n r us rs h1 h2 h3 h4 _ ih =>
  obtain⟨fs,f1,f2,f3⟩:=ih fun r hr=>hne r (by simp[hr])
  have hr:=hne r (by simp)
  cases hx:xs.toList with
  | nil =>
   rw[hx] at h4
   cases h4
   exact absurd rfl hr
  | cons v vs =>
   rw[hx] at h4
   cases h4 with
   | cons m t h4 =>
    refine⟨.int m t::fs,⟨⟨a,o,xs,n,rfl,h1,h2,h3,?_⟩,f1⟩,by simp[f2],fun v hv=>?_⟩
    ·rw[<- Array.getElem?_toList,hx]
     rfl
    ·rcases y09.mp hv with rfl|hv
     ·exact⟨m,t,rfl⟩
     ·exact f3 v hv
section
variable {X:Cx}
theorem zbq {pins:List (Addr×Obj)} {σ:L2.St} {H:Hp} {s:y04} {F:Addr->Prop} (I:Inv X pins σ H s):∀{rs:List (List Int)} {vs:List V} {us:List Value},RepL X.K F H (rs.map rowT) vs->Vals vs us->RowsAt s.heap us rs
 | [],vs,us,h,r=>by
  have:vs=[]:=by simpa [RepL] using h
  subst this
  cases r
  exact .nil
 | q::rs,vs,us,h,r=>by
  simp only[y0d,RepL] at h
  obtain⟨v,vs',rfl,h1,h2⟩:=h
  simp only[rowT,Rep] at h1
  obtain⟨a,ws,rfl,h3,h4⟩:=h1
  rw[z43 h4] at h3
  cases r with
  | cons r1 r2 =>
   cases r1
   obtain⟨its,z1,⟨o,z2,z3,n,z4⟩,_⟩:=I.tuple h3
   exact .cons z2 z3 z4 (by simpa using intsAre_of z1) (zbq I h2 r2)
theorem zal {vs:List V} {us:List Value} (r:Vals vs us):∀{l:List Nat},(∀i∈l,i<us.length)->Vals (l.map fun i=>vs.getD i .non) (l.map fun i=>us.getD i Value.none)
 | [],_=>.nil
 | i::l,h=>by
  have hi:=h i (by simp)
  have hi':i<vs.length:=by rw[r.length];exact hi
  obtain⟨u,e1,e2⟩:=Vals.get r (i:=i) (x:=vs[i]) (by simp[hi'])
  refine .cons ?_ (zal r fun i h'=>h i (by simp[h']))
  show L2.RelV (vs.getD i .non) (us.getD i Value.none)
  rw[List.getD_eq_getElem?_getD,List.getD_eq_getElem?_getD,e1,y0v hi']
  exact e2
theorem zkq {K:y00} {F:Addr->Prop} {H:Hp}:∀{rs:List (List Int)} {vs:List V} {i:Nat},RepL K F H (rs.map rowT) vs->i<rs.length->Rep K F H (rowT (rs.getD i [])) (vs.getD i .non)
 | [],vs,i,h,hi=>by simp at hi
 | q::rs,vs,i,h,hi=>by
  simp only[y0d,RepL] at h
  obtain⟨v,vs',rfl,h1,h2⟩:=h
  cases i with
  | zero=>exact h1
  | succ i=>simpa using zkq h2 (by simpa using hi)
theorem zd7 {K:y00} {F:Addr->Prop} {H:Hp} {rs:List (List Int)} {vs:List V} (h:RepL K F H (rs.map rowT) vs):∀{l:List Nat},(∀i∈l,i<rs.length)->RepL K F H ((l.map fun i=>rs.getD i []).map rowT) (l.map fun i=>vs.getD i .non)
 | [],_=>RepL.nil
 | i::l,hl=>RepL.cons (zkq h (hl i (by simp))) (zd7 h fun i h'=>hl i (by simp[h']))
theorem zgd {rs:List (List Int)} {q:Array Nat} (P:Per rs.length q) (S:SP (fun i j=>ltL (rs.getD i []) (rs.getD j [])) q rs.length):q.toList.map (fun i=>rs.getD i [])=z7z rs:=by
 refine z96 ?_ ?_
 ·have e:(List.range rs.length).map (fun i=>rs.getD i [])=rs:=by
   refine List.ext_getElem? fun i=>?_
   rw[y14]
   rcases Nat.lt_or_ge i rs.length with z|z
   ·simp[List.getElem?_range z,z]
   ·simp[List.getElem?_eq_none,z]
  have:=List.Perm.map (fun i=>rs.getD i []) P
  rw[e] at this
  exact this
 ·rw[List.pairwise_map,List.pairwise_iff_getElem]
  intro i j hi hj hij
  have hs:=P.size
  have hj':j<rs.length:=by simpa [hs] using hj
  have:=S i j hij hj'
  have ei:q.getD i 0=q.toList[i]:=by
   have:i<q.size:=by omega
   simp[Array.getD,this]
  have ej:q.getD j 0=q.toList[j]:=by
   have:j<q.size:=by omega
   simp[Array.getD,this]
  rw[ei,ej] at this
  exact z46 this
theorem zac:∀{ts:List T} {rs:List (List Int)},rowsOf ts=some rs->ts=rs.map rowT
 | [],rs,e=>by
  cases e
  rfl
 | t::ts,rs,e=>by
  unfold rowsOf at e
  split at e
  ·rename_i h
   cases h
  ·rename_i h
   cases h
   simp only[y01,y07] at e
   obtain⟨r,e1,rs',e2,rfl⟩:=e
   rw[z30 e1,zac e2]
   rfl
  ·cases e
variable {e:Expr} {es:List Expr} {fs:List Fe} {p pos:Pos}
end
end
section
variable [Tbl]
open PySem.W (kas_ask kas_sort kat_run kat_snds kat_lt kat_kind KatTups KatLex KatGo kas_item KasT)
noncomputable def z1x:List T->Option T
 | [.tuple xs]=>if xs.length<=16 then (rowsOf xs).bind fun rs=>if rs.Nodup/\∀r∈rs,r≠[] then some (.list ((z7z rs).map rowT)) else none else none
 | _=>none
section
variable {prog:y0q} {w:World} {A:Around} {E:Value->y04->Prop} {s:y04}
theorem za4 {r:Addr} {C:List Value->Prop} {Out:List Value->List Value->Prop} {Q:Value->y04->Prop} (hz:∀us,C us->us.length<64)
  (hcol:∀(E':Value->y04->Prop) (R:List Value->y04->Prop),(∀h' tk d us,(∀b o,s.heap.get? b=some o->h'.get? b=some o)->s.heap.objs.size<=h'.objs.size->C us->R us { s with heap:=h',toks:=tk,drawn:=d })->y0u (y37 prog w) A.in1 (collect (.ref r)) R E' s)
  (hsort:∀(us:List Value) (A':Around) (h':Heap) (tk:Nat) (d:Drawn) (a:Addr) (P:Fin->y04->Prop) (E':Value->y04->Prop),C us->A'.units<=A.units+3->(∀b o,s.heap.get? b=some o->h'.get? b=some o)->s.heap.objs.size<=a->h'.get? a=some (seqObj "list" us.toArray 0) ->
   (∀out:List Value,Out us out->P (.done (.ret .none)) { s with heap:=sortedHeap h' a us out.toArray,toks:=tk,drawn:=d })->y0u (y37 prog w) A' (Builtin.«list.sort» ⟨[.ref a],[]⟩) P E' { s with heap:=h',toks:=tk,drawn:=d })
  (h:∀h' tk d D e us out,C us->Out us out->(∀b o,s.heap.get? b=some o->h'.get? b=some o)->s.heap.objs.size<=D->h'.get? D=some (seqObj "list" out.toArray e)->Q (.ref D) { s with heap:=h',toks:=tk,drawn:=d }) :
  y0u (y37 prog w) A (call (.builtin "sorted") [.ref r]) Q E s:=by
 refine Calls.call_function_entry kind_sorted plain_sorted entry_sorted (args_sorted1 _) ?_
 unfold Builtin.«sorted»
 refine y02 (m:=checkCount "sorted" 1 1 _) (y06 ?_)
 refine y02 (hcol _ _ fun h' tk d us kp hsz c=>?_)
 refine y02 (wpAny_newList ?_ (by have:=hz us c;rw[y2p];omega))
 have hN:(h'.push (seqObj "list" us.toArray 0)).get? h'.objs.size=some (seqObj "list" us.toArray 0):=y0l _ rfl
 refine y02 (y2k (y2w slot_list_sort ⟨_,hN,rfl⟩ entry_list_sort (hsort us _ _ tk d _ _ _ c ?_ (fun b o e=>y03 _ (kp b o e)) hsz hN fun out so=>⟨_,rfl,?_⟩) (args_list_sort _)))
 ·show A.units+1+1<=A.units+3
  omega
 obtain⟨⟨e,he⟩,hk⟩:=sortedHeap_at (out:=out.toArray) hN
 refine y06 ⟨_,rfl,?_⟩
 exact h _ tk d h'.objs.size e us out c so (fun b o q=>hk b o (y0y (y0c (kp b o q))) (y03 _ (kp b o q))) hsz he
theorem zdk:∀{us:List Value} {ns:List Int},IntsAre us ns->ItemsAre (intKind prog w) ns us
 | _,_,.nil=>.nil
 | _,_,.cons n t r=>.cons (show Value.isInt n (.int n t)=true by simp[Value.isInt]) (zdk r)
theorem zlx {h:Heap} {us:List Value} {rs:List (List Int)} (R:RowsAt h us rs):∀{ps:List Addr},us=ps.map Value.ref->Paired (IsR prog w h.objs.size h) us (rs.zip ps):=by
 induction R with
 | nil =>
  intro ps e
  cases ps with
  | nil=>exact .nil
  | cons p ps=>cases e
 | cons h1 h2 h3 h4 _ ih =>
  intro ps e
  cases ps with
  | nil=>cases e
  | cons p ps =>
   cases e
   exact .cons ⟨rfl,y0c h1,_,_,_,h1,h2,h3,zdk h4⟩ (ih rfl)
end
section
variable {X:Cx}
def zfr (X:Cx) (l:Addr) (ps:List Addr):HO:=.ext fun h=>SetR X.w h l ps
theorem z9b {K:y00} {F:Addr->Prop} {H:Hp}:∀{rs:List (List Int)} {vs:List V},RepL K F H (rs.map rowT) vs->∃ps:List Addr,vs=ps.map V.ref/\ps.length=rs.length
 | [],vs,h=>by
  have:vs=[]:=by simpa [RepL] using h
  exact⟨[],this,rfl⟩
 | q::rs,vs,h=>by
  simp only[y0d,RepL] at h
  obtain⟨v,vs',rfl,h1,h2⟩:=h
  simp only[rowT,Rep] at h1
  obtain⟨a,ws,rfl,h3,h4⟩:=h1
  obtain⟨ps,e,l⟩:=z9b h2
  exact⟨a::ps,by rw[e];rfl,by simp[l]⟩
theorem z9y:∀{ps:List Addr} {us:List Value},Vals (ps.map V.ref) us->us=ps.map Value.ref
 | [],_,h=>by
  cases h
  rfl
 | p::ps,_,h=>by
  cases h with
  | cons a b =>
   cases a
   rw[z9y b]
   rfl
theorem z6u:∀(ps:List Addr),Vals (ps.map V.ref) (ps.map Value.ref)
 | []=>.nil
 | p::ps=>.cons rfl (z6u ps)
theorem zej {K:y00} {F:Addr->Prop} {H:Hp} {ps ps':List Addr} (p:ps.Perm ps'):∀{rs:List (List Int)},RepL K F H (rs.map rowT) (ps.map V.ref)->∃rs':List (List Int),RepL K F H (rs'.map rowT) (ps'.map V.ref)/\rs'.Perm rs:=by
 induction p with
 | nil =>
  intro rs h
  exact⟨rs,h,.rfl⟩
 | cons x _ ih =>
  intro rs h
  cases rs with
  | nil=>simp[RepL] at h
  | cons r rs =>
   simp only[y0d,RepL,List.cons.injEq] at h
   obtain⟨v,vs',⟨rfl,rfl⟩,h1,h2⟩:=h
   obtain⟨rs',q1,q2⟩:=ih h2
   exact⟨r::rs',RepL.cons h1 q1,q2.cons r⟩
 | swap x y l =>
  intro rs h
  cases rs with
  | nil=>simp[RepL] at h
  | cons r rs =>
   cases rs with
   | nil=>simp[RepL] at h
   | cons r2 rs =>
    simp only[y0d,RepL,List.cons.injEq] at h
    obtain⟨v,vs',⟨rfl,rfl⟩,h1,v2,vs2,⟨rfl,rfl⟩,h2,h3⟩:=h
    exact⟨r2::r::rs,RepL.cons h2 (RepL.cons h1 h3),.swap _ _ _⟩
 | trans _ _ i1 i2 =>
  intro rs h
  obtain⟨r1,h1,p1⟩:=i1 h
  obtain⟨r2,h2,p2⟩:=i2 h1
  exact⟨r2,h2,p2.trans p1⟩
theorem zf4 (hc:X.calm=true) (hu:X.A.units+64<cLine):z23 X (.type "set") (fun xs H Q=>∃(p:Addr) (vs:List V) (F:Addr->Prop) (rs:List (List Int)),xs=[.ref p]/\SqT X.K H p vs/\RepL X.K F H (rs.map rowT) vs/\rs.length<=16/\rs.Nodup/\∀(l:Addr) (ps:List Addr),H l=none->vs=ps.map V.ref->Q (.ref l) (upd H l (zfr X l ps))):=by
 intro pins s σ H xs us Q I r h
 obtain⟨p,vs,F,rs,rfl,hq,hrep,hz,nd,q⟩:=h
 obtain⟨u,rfl,rx⟩:=vals1 r
 cases rx
 obtain⟨its,r',pl,hz'⟩:=I.tuple hq
 have RA:=zbq I hrep r'
 obtain⟨ps,rfl,hps⟩:=z9b hrep
 have hits:=z9y r'
 have hl:=RA.len
 have e1:(rs.zip ps).map (·.1)=rs:=by rw[List.map_fst_zip (by omega)]
 have e2:(rs.zip ps).map (·.2)=ps:=by rw[List.map_snd_zip (by omega)]
 refine zf2 (ks:=rs.zip ps) (I.ok.hd hc) pl (by simpa using zlx RA hits) (by rw[e1];exact nd) (by simp only[y0h];omega) (by omega) fun h' tk hS kp=>?_
 have hR:=hS.raw (by simp;omega)
 rw[e2] at hR
 refine⟨.ref s.heap.objs.size,_,I.laid (t':=tk) (o:=zfr X s.heap.objs.size ps) (fun b o e=>kp b o (y0c e) e) (y0o _) ⟨hR,?_,fun h1 h2 x k=>x.at' k⟩,rfl,q _ _ (I.hok.fresh (y0o _)) rfl⟩
 obtain⟨es,ep,t,ho,_⟩:=hR
 exact⟨_,ho⟩
theorem z9r (hc:X.calm=true):z23 X (.builtin "sorted") (fun xs H Q=>∃(p:Addr) (ps:List Addr) (F:Addr->Prop) (rs:List (List Int)),xs=[.ref p]/\H p=some (zfr X p ps)/\RepL X.K F H (rs.map rowT) (ps.map V.ref)/\rs.length<=16/\rs.Nodup/\(∀r∈rs,r≠[])/\∀l ys,H l=none->RepL X.K F H ((z7z rs).map rowT) ys->Q (.ref l) (upd H l (.lst ys))):=by
 intro pins s σ H xs us Q I r h
 obtain⟨p,ps,F,rs,rfl,hq,hrep,hz,nd,hne,q⟩:=h
 obtain⟨u,rfl,rx⟩:=vals1 r
 cases rx
 have hS:SetR X.w s.heap p ps:=(I.hok p _ hq).1
 have hpl:ps.length=rs.length:=by
  obtain⟨ps2,e,l⟩:=z9b hrep
  have:=congrArg List.length e
  simp only[y13] at this
  omega
 have key:∀us:List Value,us.Perm (ps.map Value.ref)->∃(ps':List Addr) (rs':List (List Int)),us=ps'.map Value.ref/\RepL X.K F H (rs'.map rowT) (ps'.map V.ref)/\rs'.Perm rs/\RowsAt s.heap us rs':=by
  intro us hp
  obtain⟨ps',rfl,hp'⟩:=z21 Value.ref hp
  obtain⟨rs',h1,h2⟩:=zej hp'.symm hrep
  exact⟨ps',rs',rfl,h1,h2,zbq I h1 (z6u ps')⟩
 refine za4 (C:=fun us=>us.Perm (ps.map Value.ref))
  (Out:=fun us out=>∃(ps':List Addr) (rs':List (List Int)) (q:Array Nat),us=ps'.map Value.ref/\RepL X.K F H (rs'.map rowT) (ps'.map V.ref)/\rs'.Perm rs/\us.length=rs'.length/\Per us.length q/\SP (fun i j=>ltL (rs'.getD i []) (rs'.getD j [])) q us.length/\out=q.toList.map fun i=>us.getD i Value.none)
  (fun us c=>by have:=c.length_eq;rw[y13] at this;omega)
  (fun E' R hR=>zb6 (A:=X.A.in1) (by simpa using I.ok.hd hc) hS fun h' tk d vs kp hsz hv=>hR h' tk d vs kp hsz hv)
  (fun us A' h' tk d a P E' c hA kp ha hL fin=>?_) fun h' tk d D e us out c ho kp hD he=>?_
 ·obtain⟨ps',rs',he,hrep',hpm,RA⟩:=key us c
  have hl:=RA.len
  have hlr:=hpm.length_eq
  have nd':rs'.Nodup:=hpm.nodup_iff.mpr nd
  have hne':∀r∈rs',r≠[]:=fun r hr=>hne r (hpm.mem_iff.mp hr)
  have O:OrdK us.length (fun i j=>ltL (rs'.getD i []) (rs'.getD j [])):=by
   refine⟨fun i j h=>z46 h,fun i j k h1 h2=>zgs h1 h2,fun i j hi hj hne'=>zmr fun e=>hne' ?_⟩
   rw[hl] at hi hj
   have e1:rs'.getD i []=rs'[i]:=by simp[hi]
   have e2:rs'.getD j []=rs'[j]:=by simp[hj]
   rw[e1,e2] at e
   have pw:=List.pairwise_iff_getElem.mp nd'
   rcases Nat.lt_trichotomy i j with z|z|z
   ·exact absurd e (pw i j hi hj z)
   ·exact z
   ·exact absurd e.symm (pw j i hj hi z)
  have ne_of:∀{b:Addr} {o:Obj},s.heap.get? b=some o->b≠a:=fun e=>y0y (y0x (y0c e) ha)
  refine zfo (s:={ s with heap:=h',toks:=tk,drawn:=d }) hL (by rw[hl];omega) O (tuples' true) (fun _ h2 k2 G hG=>?_) (fun h2 k2 i j C hi hj hC=>?_) fun q q1 q2=>fin _ ⟨ps',rs',q,he,hrep',hpm,hl,q1,q2,rfl⟩
  ·have R2:RowsAt h2 us rs':=RA.keep fun b o e=>k2 b o (ne_of e) (kp b o e)
   obtain⟨fs,f1,f2,f3⟩:=R2.tups hne'
   exact kat_kind (T:=.type "int") f1 (by omega) (fun v hv=>by
    obtain⟨i,t,rfl⟩:=f3 v hv
    exact .now) (by decide +kernel) hG
  ·have R2:RowsAt h2 us rs':=RA.keep fun b o e=>k2 b o (ne_of e) (kp b o e)
   obtain⟨a1,o1,x1,n1,e1,g1,_,d1,i1⟩:=R2.at_ hi
   obtain⟨a2,o2,x2,n2,e2,g2,_,d2,i2⟩:=R2.at_ hj
   unfold kas_ask
   rw[e1,e2]
   refine kat_lt g1 d1 g2 d2 ?_
   have z1:x1.size=(rs'.getD i []).length:=by rw[<- i1.length];simp
   have z2:x2.size=(rs'.getD j []).length:=by rw[<- i2.length];simp
   rw[z1,z2]
   exact zdi i1 i2 hC
 ·obtain⟨ps',rs',q',eu,hrep',hpm,hl,q1,q2,rfl⟩:=ho
  have hq':∀i∈q'.toList,i<us.length:=fun i hi=>List.mem_range.mp (q1.mem_iff.mp hi)
  have hv:=zal (vs:=ps'.map V.ref) (us:=us) (by rw[eu];exact z6u ps') hq'
  have hR:=zd7 hrep' (l:=q'.toList) fun i hi=>by rw[<- hl];exact hq' i hi
  rw[zgd (by rw[<- hl];exact q1) (by rw[<- hl];exact q2)] at hR
  have es:z7z rs'=z7z rs:=z96 ((z5i rs').trans hpm) (z95 rs')
  rw[es] at hR
  have hc2:=c.length_eq
  rw[y13] at hc2
  exact⟨.ref D,_,z7f I (o:=.lst (q'.toList.map fun i=>(ps'.map V.ref).getD i .non)) kp hD ⟨by rw[hv.length,y13,y1z,q1.size,y2p];omega,_,e,hv,he⟩,rfl,q _ _ (I.hok.fresh hD) hR⟩
variable {a e:Expr} {f:Fe} {p p2 pos pos2:Pos}
theorem zlr (hc:X.calm=true) (hu:X.A.units+64<cLine) (ht:X.mg "set"=none) (ha:PEr X a f) (hg2:Gl X "set") (he:y0a [a] X.env=(false,eval a X.env)::y0a [] X.env) (hpl2:(y2l pos2 (y0a [] X.env)).any (·.1)=false) :
  PE X (.Call (.Name "set" p2) [a] [] pos2) (fun σ H Q=>∃F₀ H₀ O F ε,∃rs:List (List Int),RelE X.K F₀ H₀ O F H ε σ/\f ε=some (.tuple (rs.map rowT))/\rs.length<=16/\rs.Nodup/\∀(l:Addr) (ps:List Addr) F' H',Ext F H F' H'->H' l=some (zfr X l ps)->RepL X.K F' H' (rs.map rowT) (ps.map V.ref)->Q (.ref l) H') :=
 z0p (z2g (zf4 hc hu) hg2 ht (by decide +kernel) (z0j ha z0x he) (he:=he) (hpl:=hpl2)) fun σ H Q ⟨F₀,H₀,O,F,ε,rs,r,e,hz,nd,h⟩=>by
 refine⟨F₀,H₀,O,F,ε,[.tuple (rs.map rowT)],r,by simp[args,e],fun vs F1 H1 x1 q1=>?_⟩
 cases q1 with
 | cons q1 q2 =>
  cases q2
  obtain⟨l0,vs,rfl,hl,hr⟩:=q1.tup
  refine⟨l0,vs,F1,rs,rfl,hl,hr,hz,nd,fun l ps hl1 ev=>?_⟩
  subst ev
  have x2:=Ext.laid (o:=zfr X l ps) x1.dom hl1
  exact h l ps F1 _ (x1.trans x2) z03 (hr.ext x2)
theorem zag (hc:X.calm=true) (hu:X.A.units+64<cLine) (hs:X.mg "sorted"=none) (ht:X.mg "set"=none) (ha:PEr X a f) (hg:Gl X "sorted":=by rfl) (hg2:Gl X "set":=by rfl)
  (he:y0a [a] X.env=(false,eval a X.env)::y0a [] X.env:=by rfl) (he2:y0a [.Call (.Name "set" p2) [a] [] pos2] X.env=(false,eval (.Call (.Name "set" p2) [a] [] pos2) X.env)::y0a [] X.env:=by rfl)
  (hpl:(y2l pos (y0a [] X.env)).any (·.1)=false:=by rfl) (hpl2:(y2l pos2 (y0a [] X.env)).any (·.1)=false:=by rfl) :
  PEv X (.Call (.Name "sorted" p) [.Call (.Name "set" p2) [a] [] pos2] [] pos) (opN z1x [f]) :=
 z0p (z2r (z9r hc) hg hs (by decide +kernel) (z1w (zlr hc hu ht ha hg2 he hpl2) z2y he2) (he:=he2) (hpl:=hpl)) fun σ H Q ⟨F₀,H₀,O,F,ε,t,r,e,k⟩=>by
 simp only[opN,args,y01,y07] at e
 obtain⟨ts,⟨t0,e0,us,eu,rfl⟩,e⟩:=e
 cases eu
 unfold z1x at e
 split at e
 ·rename_i hh
  cases hh
  split at e
  next hz =>
   simp only[y01] at e
   obtain⟨rs,e1,e2⟩:=e
   split at e2
   next hc2 =>
    cases e2
    have hxs:=zac e1
    subst hxs
    rw[y13] at hz
    refine⟨F₀,H₀,O,F,ε,rs,r,e0,hz,hc2.1,fun l ps F' H' x hl hrp=>?_⟩
    refine⟨l,ps,F',rs,rfl,hl,hrp,hz,hc2.1,hc2.2,fun l2 ys hl2 hy=>?_⟩
    have x3:=Ext.laidF (o:=.lst ys) x.dom hl2
    refine k _ _ _ (x.trans x3) ?_
    simp only[Rep]
    exact⟨l2,ys,rfl,.inr rfl,.inl z03,hy.ext x3⟩
   next=>cases e2
  next=>cases e
 ·cases e
end
end
section
variable [Tbl]
section
variable {prog:y0q} {w:World} {K:Type} [DecidableEq K] {knd:PySem.KeyKind prog w K} {A:Around}
variable {R:Result->y04->Prop} {I:Addr} {fp wr:List Addr} {G:Array GenState->Array GenState->Prop} {St:Nat->y04->Prop} {items:Array Value}
variable {E:Value->y04->Prop} {s:y04}
end
end
section
variable [Tbl]
section
variable {X:Cx}
variable {a b e:Expr} {f g:Fe} {x y:Str} {p px py pos pos2:Pos}
theorem zch:z23 X (.builtin "len") (fun xs H Q=>∃p ks,xs=[.ref p]/\H p=some (setO X p ks)/\Q (.int ks.length) H):=by
 intro pins s σ H xs us Q I r h
 obtain⟨p,ks,rfl,hq,q⟩:=h
 obtain⟨u,rfl,rx⟩:=vals1 r
 cases rx
 have hS:SetK (z0f X.prog X.w) s.heap p ks:=(I.hok p _ hq).1
 obtain⟨es,ep,t,ks',ho,_,hp,hperm,hsz,hfit,_⟩:=hS
 have hlen:es.size=ks.length:=by rw[<- hperm.length_eq,<- z3o hp,y1z]
 refine call_len_set ho ⟨rfl,rfl,rfl⟩ rfl hfit ?_ ⟨.int ks.length,H,I.tok _,⟨s.toks+1,by rw[hlen]⟩,q⟩
 have:=z7a
 unfold scanBound at hsz
 omega
theorem zg6 (hc:X.calm=true) (hs:X.mg "len"=none) (ht:X.mg "set"=none) (ha:PEr X a f) (hg:Gl X "len":=by rfl) (hg2:Gl X "set":=by rfl)
  (he:y0a [a] X.env=(false,eval a X.env)::y0a [] X.env:=by rfl) (he2:y0a [.Call (.Name "set" px) [a] [] pos2] X.env=(false,eval (.Call (.Name "set" px) [a] [] pos2) X.env)::y0a [] X.env:=by rfl)
  (hpl:(y2l pos (y0a [] X.env)).any (·.1)=false:=by rfl) (hpl2:(y2l pos2 (y0a [] X.env)).any (·.1)=false:=by rfl) :
  PEv X (.Call (.Name "len" p) [.Call (.Name "set" px) [a] [] pos2] [] pos) (opN z44 [f]) :=
 z0p (z2r zch hg hs (by decide +kernel) (z1w (zkn hc ht ha hg2 he hpl2) z2y he2) (he:=he2) (hpl:=hpl)) fun σ H Q ⟨F₀,H₀,O,F,ε,t,r,e,k⟩=>by
 simp only[opN,args,y01,y07] at e
 obtain⟨ts,⟨t0,e0,us,eu,rfl⟩,e⟩:=e
 cases eu
 have key:∃xs ns,(f ε=some (.list xs)\/f ε=some (.tuple xs))/\xs.length<64/\intsOf xs=some ns/\t=.int (dedup ns).length:=by
  unfold z44 at e
  split at e
  ·rename_i xs h
   cases h
   split at e
   next hz =>
    simp only[y07] at e
    obtain⟨ns,e1,rfl⟩:=e
    exact⟨xs,ns,.inl e0,hz,e1,rfl⟩
   next=>cases e
  ·rename_i xs h
   cases h
   split at e
   next hz =>
    simp only[y07] at e
    obtain⟨ns,e1,rfl⟩:=e
    exact⟨xs,ns,.inr e0,hz,e1,rfl⟩
   next=>cases e
  ·cases e
 obtain⟨xs,ns,fx,hz,e1,rfl⟩:=key
 refine⟨F₀,H₀,O,F,ε,xs,r,fx,hz,.inl ⟨ns,e1,fun l F' H' x hl=>⟨l,_,rfl,hl,?_⟩⟩⟩
 refine k _ _ _ x ?_
 simp only[Rep]
 rw[z5w Sum.inl (fun _ _ h=>Sum.inl.inj h) ns,y13,(z3y ns).length_eq]
end
end
section
variable [Tbl]
open AutoSeq1 (wpAny_loadPart')
noncomputable def IteL (K:y00) (a:Addr):It :=
 ⟨fun i H=>∃xs x,SqL K H a xs/\xs[i]?=some x,fun i H x H'=>∃p v,H p=none/\x=.ref p/\H'=upd H p (.tup [.int i,v])/\∀xs,SqL K H a xs->xs[i]?=some v,fun i H=>∃xs,SqL K H a xs/\xs.length<=i⟩
theorem zeg {P:y0q} {w:World} {K:y00} {es:List Expr} {k:Nat} {pos:Pos} (a it e:Addr) (hne:e≠it) (hai:a≠it) (hae:a≠e):Turn P w K (.Tuple es k pos) (IteL K a) [e,it] e (fun i h=>(∃old,IsEnum h e it i old)/\h.IsListIter it a i) where
 mem:=by simp
 obj:=fun i h st b hb=>by
  obtain⟨⟨old,he⟩,o,ho,hc,hd⟩:=st
  rcases y09.mp hb with rfl|hb
  ·exact⟨_,he,fun v z=>by
    have z':Data.fields _=Data.cell v:=z
    cases z'⟩
  ·have e1:b=it:=by simpa using hb
   subst e1
   exact⟨o,ho,fun v z=>by rw[hd] at z;cases z⟩
 keep:=fun i h h' st kk=>by
  obtain⟨⟨old,he⟩,st2⟩:=st
  exact⟨⟨old,kk e (by simp) _ he⟩,st2.at fun o q=>kk it (by simp) o q⟩
 item:=by
  intro X hP hw hK hc i pins s σ H E I hf st hg
  subst hP hw hK
  obtain⟨xs,x,hq,hx⟩:=hg
  obtain⟨its,rv,p,hz⟩:=I.list hq
  obtain⟨u,hu,ru⟩:=rv.get hx
  obtain⟨⟨old,he⟩,hit⟩:=st
  obtain⟨f0,f1,f2,f3,f4,f5⟩:=hf e (by simp)
  obtain⟨g0,g1,g2,g3,g4,g5⟩:=hf it (by simp)
  have hi:i<its.toArray.size:=by
   rw[y0h]
   exact (y0k.mp hu).1
  have hnf:e∉[it,a]:=by
   intro z
   rcases y09.mp z with z|z
   ·exact hne z
   ·have z':e=a:=by simpa using z
    exact hae z'.symm
  refine wpAny_pyNext_enum_itemD (Draws.list (A:=X.A.in1) (I.ok.hd hc) it a hai its.toArray) he ⟨hit,p.isList⟩ hi hne hnf fun x' h' tk hP' ho hs' hT hsz hk=>?_
  have ex:x'=u:=by
   have:=hP'
   rw[<- Array.getElem?_toList] at this
   rw[show (its.toArray).toList=its from rfl,hu] at this
   exact (y2c this).symm
  subst ex
  refine⟨_,rfl,wpAny_letOwnedTupleGo_enum ho fun h2 he2 hs2=>?_⟩
  have helt:e<s.heap.objs.size:=y0c he
  have hilt:it<s.heap.objs.size:=by obtain⟨o,ho',_⟩:=hit;exact y0c ho'
  have k2:∀b o,b≠e->b≠it->s.heap.get? b=some o->h2.get? b=some o:=fun b o h1 h3 q=>hs2.extBut b o h1 (hk b o h1 h3 q)
  have fr:H s.heap.objs.size=none:=I.hok.fresh (y0o _)
  have hT2:h2.get? s.heap.objs.size=some { cls:=.type "tuple",data:=.seq #[.int i tk,x'] }:=hs2.extBut _ _ (y15 helt) hT
  have nH:∀b o,H b=some o->b≠e/\b≠it:=fun b o q=>⟨fun z=>(by rw[z,f0] at q;cases q),fun z=>(by rw[z,g0] at q;cases q)⟩
  have hok2:HOk X.prog X.w (upd H s.heap.objs.size (.tup [.int i,x])) h2:=by
   intro b o q
   by_cases hb:b=s.heap.objs.size
   ·subst hb
    rw[z03] at q
    cases q
    exact⟨by show 2<=y0j;decide,[.int i tk,x'],.cons ⟨tk,rfl⟩ (.cons ru .nil),⟨_,hT2,rfl,_,rfl⟩⟩
   ·rw[z05 hb] at q
    refine (I.hok b o q).stay (fun c v hc' q'=>k2 c v ?_ ?_ q') (fun c q'=>?_) fun c ys q'=>?_
    ·rcases hc' with rfl|hc'
     ·exact (nH _ _ q).1
     ·exact (nH _ _ hc').1
    ·rcases hc' with rfl|hc'
     ·exact (nH _ _ q).2
     ·exact (nH _ _ hc').2
    ·rw[z05 (z0a q' fr)]
     exact q'
    ·rw[z05 (z0a q' fr)]
     exact q'
  have I2:L2.Inv X pins σ (upd H s.heap.objs.size (.tup [.int i,x])) { s with heap:=h2,toks:=tk+1 }:=by
   refine I.step (g':=s.gens) (d':=s.drawn) (ch:=[e,it]) (fun b hb=>?_) (fun b o _ _ hc' q _=>k2 b o (fun z=>hc' (by simp[z])) (fun z=>hc' (by simp[z])) q) (fun b o _ _ hc' q _=>⟨o.slots,k2 b o (fun z=>hc' (by simp[z])) (fun z=>hc' (by simp[z])) q⟩) (fun b o _ q n=>?_)
    (fun b o hc' q=>⟨o,k2 b o (fun z=>hc' (by simp[z])) (fun z=>hc' (by simp[z])) q⟩) (fun b ys q=>by rw[z05 (z0a q fr)];exact q) (fun b o u q=>by rw[z05 (z0a q fr)];exact q) (fun b ps q=>⟨#[],by rw[z05 (z0a q fr),q];simp⟩) (fun m hm=>?_) hok2 I.bare
   ·rcases y09.mp hb with rfl|hb
    ·exact⟨f3,f1,f4,f5⟩
    ·have:b=it:=by simpa using hb
     subst this
     exact⟨g3,g1,g4,g5⟩
   ·rw[z05 (y0y (y0c q))]
    exact n
   ·obtain⟨o,es',ep,ho',r⟩:=hm
    exact⟨o,es',ep,k2 _ o (Ne.symm f1) (Ne.symm g1) ho',r⟩
  refine⟨.ref s.heap.objs.size,_,I2,rfl,⟨s.heap.objs.size,x,fr,rfl,rfl,fun ys hy=>by rw[I.list_inj hy hq];exact hx⟩,⟨⟨_,by simpa using he2⟩,hs'.1.at fun o q=>(hs2.2 it hne.symm).trans q⟩,fun b hb=>?_⟩
  rcases y09.mp hb with rfl|hb
  ·rw[z05 (y0y helt)]
   exact f0
  ·have:b=it:=by simpa using hb
   subst this
   rw[z05 (y0y hilt)]
   exact g0
 done:=by
  intro X hP hw hK hc i pins s σ H E I hf st hg
  subst hP hw hK
  obtain⟨xs,hq,hx⟩:=hg
  obtain⟨its,rv,p,hz⟩:=I.list hq
  obtain⟨⟨old,he⟩,hit⟩:=st
  obtain⟨g0,g1,g2,g3,g4,g5⟩:=hf it (by simp)
  have hT:s.TypeIs (.ref e) "enumerate":=⟨_,he,rfl⟩
  have hl:=rv.length
  unfold pyNext
  refine y02 (wpAny_attempt (y2n (name:=Str.ofString "__next__") hT F.slot_enumerate_next
   (y2w F.slot_enumerate_next hT F.entry_enumerate_next ?_ (F.args_enumerate_next_1 _))))
  show y0u _ _ (field (.ref e) 2 >>= _) _ _ _
  refine y02 (y2m he rfl (x:=.ref it) rfl ?_)
  refine y02 (wpAny_nextOf_list_end (I.ok.hd hc) hit p.isList (by simp;omega) fun h' x he' hx'=>?_)
  obtain⟨o,ho,hc'⟩:=hx'
  refine y02 (wpAny_isInstance (T:="StopIteration") (b:=true) ⟨o,ho,hc'⟩ isSubtype_stop ?_)
  exact y06 ⟨rfl,I.turned (t':=s.toks) (fun b o hb q=>he' b o hb q) g0 g1 g3 g4 g5⟩
 self:=fun _ _ _ _ _ st h=>by
  obtain⟨⟨old,he⟩,_⟩:=st
  exact wpAny_pyIter_enum he h
def iEn2 (K:y00) (ta:TA):TI:=fun σ H R=>ta σ H fun vs H1=>∃a xs,vs=[.ref a]/\((SqT K H1 a xs/\R (Ite K a) H1)\/(SqL K H1 a xs/\R (IteL K a) H1))
section
variable {X:Cx} {es:List Expr} {k:Nat} {p pos p2:Pos} {a:Expr} {f:Fe}
theorem zja {ta:TA} (hg:Gl X "enumerate") (hm:X.mg "enumerate"=none) (ha:PA X [a] ta) (hs:y0a [a] X.env=[(false,eval a X.env)]:=by rfl):PI X (.Tuple es k p2) (.Call (.Name "enumerate" p) [a] [] pos) (iEn2 X.K ta):=by
 intro pins s σ H R I h
 refine Call_ (z8l I hg hm PyProof.Rows.boot_enumerate (y1t (thn (ha pos pins s σ H _ I h) fun us s1 ⟨vs,H1,I1,r1,q1⟩=>?_) hs rfl))
 obtain⟨a,xs,rfl,q1⟩:=q1
 cases r1 with
 | cons r rr =>
  cases rr
  cases r
  have fpo:∀b∈[s1.heap.objs.size+1,s1.heap.objs.size],s1.heap.objs.size<=b:=fun b hb=>by
   rcases y09.mp hb with rfl|hb
   ·exact y2e _
   ·have:b=s1.heap.objs.size:=by simpa using hb
    rw[this]
    exact y0o _
  rcases q1 with ⟨hq,q⟩|⟨hq,q⟩
  ·obtain⟨its,rv,pl,hz⟩:=I1.tuple hq
   have hal:a<s1.heap.objs.size:=by obtain⟨o,ho,_⟩:=pl;exact y0c ho
   refine z29 (show s1.heap.IsTuple a its.toArray from pl) fun h' he hit hsz hk=>wpAny_pyIter_enum he ?_
   exact⟨s1.heap.objs.size+1,[s1.heap.objs.size+1,s1.heap.objs.size],_,_,H1,rfl,I1.kept (t':=s1.toks) hk,za0 a s1.heap.objs.size (s1.heap.objs.size+1) (Nat.succ_ne_self _) (y0y hal) (y0y (Nat.lt_succ_of_lt hal)),⟨⟨_,he⟩,hit⟩,fun b hb=>I1.fpOk (fpo b hb) (I1.hok.fresh (fpo b hb)),q⟩
  ·obtain⟨its,rv,pl,hz⟩:=I1.list hq
   have hal:a<s1.heap.objs.size:=by obtain⟨o,n,ho,_⟩:=pl;exact y0c ho
   refine call_enumerate_list pl.isList fun h' he hit hsz hk=>wpAny_pyIter_enum he ?_
   exact⟨s1.heap.objs.size+1,[s1.heap.objs.size+1,s1.heap.objs.size],_,_,H1,rfl,I1.kept (t':=s1.toks) hk,zeg a s1.heap.objs.size (s1.heap.objs.size+1) (Nat.succ_ne_self _) (y0y hal) (y0y (Nat.lt_succ_of_lt hal)),⟨⟨_,he⟩,hit⟩,fun b hb=>I1.fpOk (fpo b hb) (I1.hok.fresh (fpo b hb)),q⟩
theorem zes {K:y00} {a:Addr} {F1:Addr->Prop} {H1:Hp} {ts:List T} {vs:List V} (hf:F1 a) (hr:Rd H1 a (.lst vs)) (q:RepL K F1 H1 ts vs):ItOk K (IteL K a) F1 H1 (enum ts) where
 go:=fun i F H t kp d e=>by
  have hi:=(y0k.mp e).1
  simp only[enum,y13,List.length_zipIdx] at hi
  obtain⟨v,h1,_⟩:=q.get (y0v hi)
  exact⟨vs,v,.inl (kp.lst _ _ hf hr).2,h1⟩
 yld:=fun i F H t x H' kp d e y=>by
  obtain⟨p,v,hp,rfl,rfl,y⟩:=y
  have hi:=(y0k.mp e).1
  simp only[enum,y13,List.length_zipIdx] at hi
  obtain⟨v',h1,h2⟩:=(q.kp kp).get (y0v hi)
  have h3:=y vs (.inl (kp.lst _ _ hf hr).2)
  rw[h1] at h3
  cases h3
  have x1:=Ext.laid (o:=.tup [.int i,v]) d hp
  refine⟨F,x1,?_⟩
  have et:t=.tuple [.int i,ts[i]]:=by
   simp only[enum,y14,List.getElem?_zipIdx,y0v hi] at e
   simpa using e.symm
  subst et
  simp only[Rep]
  exact⟨p,_,rfl,SqT.of z03,RepL.cons (by simp[Rep]) (RepL.cons (h2.ext x1) RepL.nil)⟩
 stop:=fun i F H kp hl=>⟨vs,.inl (kp.lst _ _ hf hr).2,by
  simp only[enum,y13,List.length_zipIdx] at hl
  rw[<- q.length]
  exact hl⟩
theorem zn0 (hm:X.mg "enumerate"=none) (ha:PEv X a f) (hg:Gl X "enumerate":=by rfl) (hs:y0a [a] X.env=[(false,eval a X.env)]:=by rfl) (hs2:y0a [a] X.env=(false,eval a X.env)::y0a [] X.env:=by rfl) :
  PIt X (.Tuple es k p2) (.Call (.Name "enumerate" p) [a] [] pos) (z1r (z0d f)):=zea (zja hg hm (z1w ha z2y hs2) hs) fun σ H R ⟨F₀,H₀,O,F,ε,ts,r,e,k⟩=>by
 simp only[z1r,z0d,y07,y01] at e
 obtain⟨us,⟨t,et,e⟩,rfl⟩:=e
 split at e
 ·cases e
  refine⟨F₀,H₀,O,F,ε,_,r,et,fun v F' H' x q=>?_⟩
  simp only[Rep] at q
  obtain⟨a,vs,rfl,hs,hr⟩:=q
  exact⟨a,vs,rfl,.inl ⟨hs,k _ F' H' x (zav hs hr)⟩⟩
 ·cases e
  refine⟨F₀,H₀,O,F,ε,_,r,et,fun v F' H' x q=>?_⟩
  simp only[Rep] at q
  obtain⟨a,vs,rfl,hf,hs,hr⟩:=q
  exact⟨a,vs,rfl,.inr ⟨.inl hs,k _ F' H' x (zes hf hs hr)⟩⟩
 ·cases e
end
end
section
variable [Tbl]
open AutoSeq1 (wpAny_loadPart')
section
variable {prog:y0q} {w:World} {A:Around} {E:Value->y04->Prop} {s:y04}
theorem z9p {Q:List Value->y04->Prop} {r:Addr} {a b c:Int} {t u v:Tok} {n:Nat} (hh:A.handled=none) (hr:IsRange s.heap r a b c t u v) (hsm:Builtin.Range.small a b c=true) (hn:Builtin.Range.rangeSize a b c=n) (hl:n<=2 ^ 24)
  (hQ:∀h' tk acc',(∀b o,s.heap.get? b=some o->h'.get? b=some o)->ItemsOf (fun i v=>∃t,v=.int (a+i*c) t) acc' n->Q acc'.toList { s with heap:=h',toks:=tk }) :
  y0u (y37 prog w) A (collect (.ref r)) Q E s:=by
 unfold collect
 refine y02 (wpAny_runValue (y2t F.entry_proto_collect ?_))
 rw[y1w F.plain_proto_collect _]
 show y0u _ A.in1 (newList [] >>= fun x=>again (.builtin "list.__iadd__" ⟨[x,.ref r],[]⟩)) _ _ s
 refine y02 (y2u (y06 ⟨y32 F.plain_list_iadd _,y2t F.entry_list_iadd ?_⟩))
 rw[y1w F.plain_list_iadd _]
 show y0u _ A.in1 (Builtin.List.listExtendWith (.ref s.heap.objs.size) (.ref r) (.ref s.heap.objs.size)) _ _ _
 have hS:(s.heap.push { cls:=.type "list",data:=.seq ([]:List Value).toArray }).get? s.heap.objs.size=some { cls:=.type "list",data:=.seq #[] 0 }:=y0l _ rfl
 have fin':∀h' tk acc' c',(∀b o,b≠s.heap.objs.size->(s.heap.push { cls:=.type "list",data:=.seq ([]:List Value).toArray }).get? b=some o->h'.get? b=some o)->h'.get? s.heap.objs.size=some { cls:=.type "list",dict:=none,data:=.seq acc' c',slots:=#[] }->ItemsOf (fun i v=>∃t,v=.int (a+i*c) t) acc' n ->
   y0u (y37 prog w) A (match Value.ref s.heap.objs.size with
    | Value.ref x=>do
     match (<- load x).data with
      | Data.seq xs _=>pure xs.toList
      | _=>unsupported "internal:collect"
    | _=>unsupported "internal:collect") Q E { s with heap:=h',toks:=tk }:=fun h' tk acc' c' hk hS' hacc=>by
  show y0u _ A (load s.heap.objs.size >>= _) _ _ _
  refine y02 (wpAny_load hS' (y06 ?_))
  exact hQ h' tk acc' (fun b o e=>hk b o (y0y (y0c e)) (y03 _ e)) hacc
 refine y1d (wpAny_extend_range (A:=A) (R:=fun x s'=>x=.ok (.ret (.ref s.heap.objs.size))/\∃h' tk acc' c',(∀b o,b≠s.heap.objs.size->(s.heap.push { cls:=.type "list",data:=.seq ([]:List Value).toArray }).get? b=some o->h'.get? b=some o)/\h'.get? s.heap.objs.size=some { cls:=.type "list",dict:=none,data:=.seq acc' c',slots:=#[] }/\ItemsOf (fun i v=>∃t,v=.int (a+i*c) t) acc' n/\s'={ s with heap:=h',toks:=tk })
  (s:={ s with heap:=s.heap.push { cls:=.type "list",data:=.seq ([]:List Value).toArray } }) hh (y03 _ hr) hsm hn hl s.heap.objs.size (.ref s.heap.objs.size) 0 hS fun h' tk acc' c' hk hS' hacc=>⟨rfl,h',tk,acc',c',hk,hS',hacc,rfl⟩) (fun f s' h=>?_) (fun e s' h=>?_)
 ·cases f with
  | done f =>
   obtain⟨e,h',tk,acc',c',k1,k2,k3,rfl⟩:=h
   cases e
   exact fin' h' tk acc' c' k1 k2 k3
  | again c'=>exact⟨h.1,y2v h.2 fun x s'' hx=>by obtain⟨rfl,h',tk,acc',c',k1,k2,k3,rfl⟩:=hx;exact fin' h' tk acc' c' k1 k2 k3⟩
 ·exact absurd h.1 (by simp)
theorem z78 (r:Addr) (a b c:Int) (t u v:Tok) (n:Nat) (hsm:Builtin.Range.small a b c=true) (hn:Builtin.Range.rangeSize a b c=n) (hl:n<=2 ^ 24) :
  Meets (Builtin.«tuple.__new__» ⟨[.type "tuple",.ref r],[]⟩)
   (fun A R s=>A.handled=none/\IsRange s.heap r a b c t u v/\∀(h':Heap) (tk:Nat) (acc:Array Value),(∀b o,s.heap.get? b=some o->h'.get? b=some o)->ItemsOf (fun i v=>∃t,v=.int (a+i*c) t) acc n->R (.ok (.ret (.ref h'.objs.size))) { s with heap:=h'.push { cls:=.type "tuple",data:=.seq acc },toks:=tk }) :=
 .of_wp fun prog w A R s h=>by
  obtain⟨hp,g,d,tk,os⟩:=s;obtain⟨hh,ht,h⟩:=h
  have hsub:=sub_tuple_self
  have hinit:=init_tuple_lookup
  have hmh:=madeHere_tuple
  have hT:Shared.TypeIs ⟨hp,g,d,tk,os⟩ (.ref r) "range":=⟨_,ht,rfl⟩
  wp_walk using wpAny_loadPart' ht,wpAny_typeOf hT,z9p (by simpa using hh) ht hsm hn hl
  intro h' tk' acc hk hacc
  show y0u _ _ (y12 acc.toList.toArray >>= fun v=>ret v) _ _ _
  unfold y12
  have hz:acc.size<=y0j:=by rw[hacc.1,y2p];omega
  refine y02 (y2u ?_ (by show acc.toList.toArray.size<=y0j;simpa using hz))
  refine y06 ⟨_,rfl,?_⟩
  have e:acc.toList.toArray=acc:=by simp
  rw[e]
  exact h h' tk' acc hk hacc
theorem z81 {r:Addr} {a b c:Int} {t u v:Tok} {n:Nat} {Q:Value->y04->Prop} (hh:A.handled=none) (hr:IsRange s.heap r a b c t u v) (hsm:Builtin.Range.small a b c=true) (hn:Builtin.Range.rangeSize a b c=n) (hl:n<=2 ^ 24)
  (h:∀(h':Heap) (tk:Nat) (acc:Array Value),(∀b o,s.heap.get? b=some o->h'.get? b=some o)->ItemsOf (fun i v=>∃t,v=.int (a+i*c) t) acc n->Q (.ref h'.objs.size) { s with heap:=h'.push { cls:=.type "tuple",data:=.seq acc },toks:=tk }) :
  y0u (y37 prog w) A (call (.type "tuple") [.ref r]) Q E s :=
 callType_new F.called_tuple (by decide) (F.typeCall_tuple_1 _) (F.newCall_tuple_1 _) (fun obj=>F.args_object_init_2 obj _) F.entry_tuple_new
  (z78 r a b c t u v n hsm hn hl) ⟨by simpa using hh,hr,fun h' tk acc hk hacc=>⟨⟨_,y0l _ rfl,rfl⟩,h h' tk acc hk hacc⟩⟩
end
end
section
variable [Tbl]
def z25:List T->Option T
 | [.int j]=>if 0<=j/\j<=100000 then some (.tuple (rng 0 j)) else none
 | _=>none
def boolsOf:List T->Option (List Bool)
 | []=>some []
 | .bool b::ts=>(boolsOf ts).map fun r=>b::r
 | _::_=>none
def oAny:List T->Option T
 | [.list xs]=>(boolsOf xs).map fun bs=>.bool (bs.any id)
 | _=>none
theorem z8t:∀{ts:List T} {bs:List Bool},boolsOf ts=some bs->ts=bs.map .bool
 | [],bs,e=>by
  cases e
  rfl
 | t::ts,bs,e=>by
  unfold boolsOf at e
  split at e
  ·rename_i h
   cases h
  ·rename_i h
   cases h
   simp only[y07] at e
   obtain⟨r,e1,rfl⟩:=e
   rw[z8t e1]
   rfl
  ·cases e
section
variable {K:y00} {F:Addr->Prop} {H:Hp}
theorem z8f:∀{bs:List Bool} {vs:List V},RepL K F H (bs.map .bool) vs->vs=bs.map V.bl
 | [],vs,h=>by simpa [RepL] using h
 | n::ns,vs,h=>by
  simp only[y0d,RepL,Rep] at h
  obtain⟨v,r,rfl,rfl,z⟩:=h
  rw[z8f z]
  rfl
end
section
variable {X:Cx} {a e:Expr} {es:List Expr} {f:Fe} {fs:List Fe} {p p2 pos pos2:Pos}
theorem zcg:z23 X (.type "range") (fun xs H Q=>∃j:Int,xs=[.int j]/\∀l,H l=none->Q (.ref l) (upd H l (.rng 0 j))):=by
 intro pins s σ H xs us Q I r h
 obtain⟨j,rfl,q⟩:=h
 obtain⟨u,rfl,rx⟩:=vals1 r
 obtain⟨t,rfl⟩:=rx
 exact call_range_1 ⟨.ref s.heap.objs.size,_,I.laid (o:=.rng 0 j) (fun b o e=>y03 _ e) (y0o _) ⟨_,_,_,y0l _ rfl⟩,rfl,q _ (I.hok.fresh (y0o _))⟩
theorem zep {n:Nat} {acc:Array Value} (h:ItemsOf (fun i v=>∃t,v=.int (0+i*1) t) acc n):Vals ((List.range n).map fun (k:Nat)=>V.int (k:Int)) acc.toList:=by
 obtain⟨h1,h2⟩:=h
 have h2':∀(j:Nat) v,acc.toList[j]?=some v->∃t,v=.int (j:Int) t:=fun j v e=>by
  obtain⟨t,rfl⟩:=h2 j v (by rw[<- Array.getElem?_toList];exact e)
  exact⟨t,by congr 1;omega⟩
 rw[<- y1z] at h1
 clear h2
 generalize acc.toList=l at *
 subst h1
 have key:∀(l:List Value) (c:Nat),(∀(j:Nat) v,l[j]?=some v->∃t,v=.int ((c+j:Nat):Int) t)->Vals ((List.range' c l.length).map fun (k:Nat)=>V.int (k:Int)) l:=by
  intro l
  induction l with
  | nil=>intro c _;exact .nil
  | cons v l ih =>
   intro c h
   rw[y0w,List.range'_succ,y0d]
   obtain⟨t,rfl⟩:=h 0 v rfl
   refine .cons ⟨t,rfl⟩ (ih (c+1) fun j v e=>?_)
   obtain⟨t,rfl⟩:=h (j+1) v (by simpa using e)
   exact⟨t,by congr 1;omega⟩
 rw[List.range_eq_range']
 exact key l 0 fun j v e=>by simpa using h2' j v e
theorem zce (hc:X.calm=true):z23 X (.type "tuple") (fun xs H Q=>∃(p:Addr) (n:Nat),xs=[.ref p]/\H p=some (.rng 0 n)/\n<=100000/\∀l,H l=none->Q (.ref l) (upd H l (.tup ((List.range n).map fun (k:Nat)=>V.int (k:Int))))):=by
 intro pins s σ H xs us Q I r h
 obtain⟨p,n,rfl,hq,hn,q⟩:=h
 obtain⟨u,rfl,rx⟩:=vals1 r
 cases rx
 obtain⟨t,u,v,ho⟩:=I.hok p _ hq
 refine z81 (n:=n) (I.ok.hd hc) ho (small_one (by omega) (by omega) (by omega) (by omega)) (by rw[rangeSize_one];split <;> omega) (by omega) fun h' tk acc kp hacc=>?_
 have hv:=zep hacc
 have I1:Inv X pins σ H { s with heap:=h',toks:=tk }:=I.kept (t':=tk) kp
 have I2:Inv X pins σ (upd H h'.objs.size (.tup ((List.range n).map fun (k:Nat)=>V.int (k:Int)))) { s with heap:=h'.push { cls:=.type "tuple",data:=.seq acc },toks:=tk } :=
  I1.laid (t':=tk) (fun b o e=>y03 _ e) (y0o _) (show z2n X.prog X.w _ _ _ (.tup _) from ⟨by rw[y13,List.length_range,y2p];omega,acc.toList,hv,by rw[show acc.toList.toArray=acc from by simp];exact IsTup.new _ _⟩)
 exact⟨.ref h'.objs.size,_,I2,rfl,q _ (I1.hok.fresh (y0o _))⟩
theorem zd4 (hc:X.calm=true) (hs:X.mg "tuple"=none) (ht:X.mg "range"=none) (ha:PEr X a f) (hg:Gl X "tuple":=by rfl) (hg2:Gl X "range":=by rfl)
  (he:y0a [a] X.env=(false,eval a X.env)::y0a [] X.env:=by rfl) (he2:y0a [.Call (.Name "range" p2) [a] [] pos2] X.env=(false,eval (.Call (.Name "range" p2) [a] [] pos2) X.env)::y0a [] X.env:=by rfl)
  (hpl:(y2l pos (y0a [] X.env)).any (·.1)=false:=by rfl) (hpl2:(y2l pos2 (y0a [] X.env)).any (·.1)=false:=by rfl) :
  PEv X (.Call (.Name "tuple" p) [.Call (.Name "range" p2) [a] [] pos2] [] pos) (opN z25 [f]) :=
 z0p (z2g (zce hc) hg hs (by decide +kernel) (z1w (z2g zcg hg2 ht (by decide +kernel) (z0j ha z0x he) (he:=he) (hpl:=hpl2)) z2y he2) (he:=he2) (hpl:=hpl)) fun σ H Q ⟨F₀,H₀,O,F,ε,t,r,e,k⟩=>by
 simp only[opN,args,y01,y07] at e
 obtain⟨ts,⟨t0,e0,us,eu,rfl⟩,e⟩:=e
 cases eu
 unfold z25 at e
 split at e
 next j hx =>
  cases hx
  split at e
  next hz =>
   cases e
   obtain⟨n,rfl⟩:∃n:Nat,j=n:=⟨j.toNat,by omega⟩
   refine⟨F₀,H₀,O,F,ε,[.int n],r,by simp[args,e0],fun vs F1 H1 x1 q1=>?_⟩
   cases q1 with
   | cons q1 q2 =>
    cases q2
    rw[q1.int]
    refine⟨_,rfl,fun l hl=>⟨l,n,rfl,z03,by omega,fun l2 hl2=>?_⟩⟩
    have x2:=Ext.laid (o:=.rng 0 (n:Int)) x1.dom hl
    have x3:=Ext.laid (o:=.tup ((List.range n).map fun (k:Nat)=>V.int (k:Int))) x2.dom hl2
    refine k _ _ _ ((x1.trans x2).trans x3) ?_
    simp only[Rep]
    refine⟨l2,_,rfl,SqT.of z03,?_⟩
    have:=z3l (K:=X.K) (F:=F1) (H:=upd (upd H1 l (.rng 0 (n:Int))) l2 (.tup ((List.range n).map fun (k:Nat)=>V.int (k:Int)))) ((List.range n).map fun (k:Nat)=>(k:Int))
    simp only[y2i,y16] at this
    simp only[rng,Int.sub_zero,Int.toNat_natCast,Int.zero_add]
    exact this
  next=>cases e
 next=>cases e
theorem zi2 (hc:X.calm=true):z23 X (.builtin "any") (fun xs H Q=>∃(p:Addr) (bs:List Bool),xs=[.ref p]/\SqL X.K H p (bs.map V.bl)/\Q (.bl (bs.any id)) H):=by
 intro pins s σ H xs us Q I r h
 obtain⟨p,bs,rfl,hq,q⟩:=h
 obtain⟨u,rfl,rx⟩:=vals1 r
 cases rx
 obtain⟨its,r',pl,hz⟩:=I.list hq
 have hlt:p<s.heap.objs.size:=by obtain⟨o,n,ho,_⟩:=pl;exact y0c ho
 have hlen:its.length=bs.length:=by have:=r'.length;simpa using this.symm
 refine PySem.call_any_walk (wpAny_pyIter_list (items:=its.toArray) pl.isList ?_)
 refine⟨_,[s.heap.objs.size,p],[s.heap.objs.size],_,_,_,(fun i=>bs.getD i false),rfl,Walks.list (A:=X.A.in1) (I.ok.hd hc) _ p (y0y hlt) its.toArray,⟨⟨_,y0l _ rfl,rfl,rfl⟩,pl.isList.push _⟩,fun i v s' Q' E' hP hQ'=>?_,fun h' tk hk=>?_⟩
 ·have hi:its[i]?=some v:=by simpa using hP
  have hlt':i<bs.length:=by rw[<- hlen];exact (y0k.mp hi).1
  obtain⟨u',e1,e2⟩:=r'.get (i:=i) (x:=V.bl bs[i]) (by simp[hlt'])
  rw[hi] at e1
  cases e1
  have e2':v=.bool bs[i]:=e2
  subst e2'
  refine y30 ?_
  have:bs.getD i false=bs[i]:=by simp[hlt']
  exact this▸hQ'
 ·have e:((List.range its.toArray.size).any fun i=>bs.getD i false)=bs.any id:=by
   rw[y0h,hlen,Bool.eq_iff_iff,List.any_eq_true,List.any_eq_true]
   constructor
   ·rintro⟨i,hi,hb⟩
    have hi':=List.mem_range.mp hi
    have:bs.getD i false=bs[i]:=by simp[hi']
    rw[this] at hb
    exact⟨bs[i],List.getElem_mem hi',hb⟩
   ·rintro⟨b,hb,e⟩
    obtain⟨i,hi,rfl⟩:=List.getElem_of_mem hb
    refine⟨i,List.mem_range.mpr hi,?_⟩
    have:bs.getD i false=bs[i]:=by simp[hi]
    rw[this]
    exact e
  rw[e]
  exact⟨.bl (bs.any id),H,I.kept (t':=tk) fun b o e=>hk b o (by simp only[y0z];exact y0y (y0c e)) (y03 _ e),rfl,q⟩
theorem zqc (hc:X.calm=true) (hm:X.mg "any"=none) (ha:PAr X (e::es) fs) (hg:Gl X "any":=by rfl) (he:y0a (e::es) X.env=(false,eval e X.env)::y0a es X.env:=by rfl) (hpl:(y2l pos (y0a es X.env)).any (·.1)=false:=by rfl) :
  PEv X (.Call (.Name "any" p) (e::es) [] pos) (opN oAny fs):=z0p (z2r (zi2 hc) hg hm (by decide +kernel) ha (he:=he) (hpl:=hpl)) (z4o (by
 intro O F H ts t vs Q d q e k
 unfold oAny at e
 split at e
 ·simp only[y07] at e
  obtain⟨bs,en,rfl⟩:=e
  have:=z8t en
  subst this
  cases q with
  | cons q1 q2 =>
   cases q2
   obtain⟨l0,ws,rfl,hl,hr⟩:=q1.lst
   have:=z8f hr
   subst this
   exact⟨l0,bs,rfl,.inl hl,k _ F H (Ext.refl d) (by simp[Rep])⟩
 ·cases e))
end
end
section
variable [Tbl]
mutual
noncomputable def ltD:T->T->Option Bool
 | .int a,.int b=>some (decide (a<b))
 | .tuple xs,.tuple ys=>lexD xs ys
 | _,_=>none
noncomputable def lexD:List T->List T->Option Bool
 | [],[]=>some false
 | [],_::_=>some true
 | _::_,[]=>some false
 | x::xs,y::ys=>if y20 x y then lexD xs ys else ltD x y
end
noncomputable def LtAt (A:Around) (s:y04) (y x:Value) (b:Bool):Prop :=
 ∀(prog:y0q) (w:World) (E:Value->y04->Prop) (Q:Value->y04->Prop),Q (.bool b) s->y0u (y37 prog w) A (richCompare .Lt y x) Q E s
inductive GoodP (A:Around) (s:y04) (fin:Bool):List (Value×Value)->Bool->Prop
 | nil:GoodP A s fin [] fin
 | eq {y x:Value} {r:List (Value×Value)} {b:Bool}:SeqAt.EqAt A s y x true->GoodP A s fin r b->GoodP A s fin ((y,x)::r) b
 | lt {y x:Value} {r:List (Value×Value)} {b:Bool}:SeqAt.EqAt A s y x false->LtAt A s y x b->GoodP A s fin ((y,x)::r) b
section
open PySem.SeqAt
open PySem.AutoSeq1 (wpAny_loadPart')
open PySem.MeetsSeq PySem.MeetsSeq2 PySem.MeetsSeq3
theorem za1 (l b:Addr) (items items2:Array Value) (n n2:Nat) (dd dd2:Option Addr) (sl sl2:Array (Option Value)) (z:Bool) :
  Meets (Builtin.«tuple.__lt__» ⟨[.ref l,.ref b],[]⟩)
   (fun A R s=>s.heap.get? l=some { cls:=.type "tuple",dict:=dd,data:=.seq items n,slots:=sl }/\s.heap.get? b=some { cls:=.type "tuple",dict:=dd2,data:=.seq items2 n2,slots:=sl2 } /\
    GoodP A.in1 s (decide (items.size<items2.size)) (items.toList.zip items2.toList) z/\R (.ok (.ret (.bool z))) s) :=
 .of_wp fun prog w A R s h=>by
  obtain⟨hp,g,d,tk,os⟩:=s;obtain⟨hl,hb,hg,h⟩:=h
  have f2:=AutoSeq1.sub_tuple_tuple
  wp_walk using wpAny_loadPart' hl,wpAny_loadPart' hb,wpAny_forIn_list _ (fun rest b s'=>b.1=none/\s'=⟨hp,g,d,tk,os⟩/\GoodP A.in1 ⟨hp,g,d,tk,os⟩ (decide (items.size<items2.size)) rest z) _
  case turn =>
   rintro⟨y,x⟩ rest b s' ⟨hb',rfl,hG⟩
   cases hG with
   | eq he hG =>
    refine y02 (he prog w _ _ ?_)
    wp_walk
    exact⟨rfl,rfl,hG⟩
   | lt he hlt =>
    refine y02 (he prog w _ _ ?_)
    have hri:=hlt prog w
    wp_walk using hri
    exact⟨_,rfl,h⟩
  case fin =>
   rintro⟨b1,b2⟩ s' ⟨hb',rfl,hG⟩
   simp only at hb'
   subst hb'
   cases hG
   wp_walk
   exact⟨_,rfl,by simpa [Builtin.Tuple.tupleCompareSizes] using h⟩
  case h =>
   exact⟨rfl,rfl,hg⟩
mutual
theorem zdh:∀(da db:T) (A:Around) (s:y04) (a b:Value) (as bs:List Addr) (r:Bool),Reads s.heap a da as->Reads s.heap b db bs->da.canLay0=true->db.canLay0=true->A.units+min da.depth db.depth<cLine->ltD da db=some r->LtAt A s a b r
 | .int i,.int j,A,s,_,_,_,_,r,.int _ t,.int _ u,_,_,_,e=>by
  unfold ltD at e
  cases e
  exact fun prog w E Q q=>(PyProof.Rows.lt_int q:y0u (y37 prog w) A (y2s .Lt (.int i t) (.int j u)) Q E s)
 | .tuple xs,.tuple ys,A,s,_,_,_,_,r,.tuple (a:=l) (o:=o) (vs:=vs) (n:=n) h1 h2 h3 h4,.tuple (a:=l') (o:=o') (vs:=vs') (n:=n') k1 k2 k3 k4,ha,hb,hu,e=>by
  unfold ltD at e
  simp only[PyData.canLay0] at ha hb
  simp only[y24] at hu
  have hG:=good_reads xs ys A.in1 s vs.toList vs'.toList _ _ r h4 k4 ha hb (room_in hu) e
  obtain⟨cls,dd,data,sl⟩:=o
  obtain⟨cls2,dd2,data2,sl2⟩:=o'
  simp only at h2 h3 k2 k3
  subst h2 h3 k2 k3
  rw[y1z,y1z] at hG
  exact fun prog w E Q q=>richCompare_meets_room (op:=.Lt) ⟨_,h1,rfl⟩ ⟨_,k1,rfl⟩ PySem.F.slot_tuple_lt PySem.F.entry_tuple_lt (PySem.F.args_tuple_lt_2 _ _) (za1 l l' vs vs' n n' dd dd2 sl sl2 r)
   ⟨h1,k1,hG,show Value.bool r≠Value.notImplemented/\Q (.bool r) s from ⟨(fun x=>nomatch x),q⟩⟩ (by omega)
 | .none,_,_,_,_,_,_,_,_,_,_,_,_,_,e=>by simp[ltD] at e
 | .bool _,_,_,_,_,_,_,_,_,_,_,_,_,_,e=>by simp[ltD] at e
 | .str _,_,_,_,_,_,_,_,_,_,_,_,_,_,e=>by simp[ltD] at e
 | .list _,_,_,_,_,_,_,_,_,_,_,_,_,_,e=>by simp[ltD] at e
 | .dict _,_,_,_,_,_,_,_,_,_,_,_,_,_,e=>by simp[ltD] at e
 | .int _,.none,_,_,_,_,_,_,_,_,_,_,_,_,e=>by simp[ltD] at e
 | .int _,.bool _,_,_,_,_,_,_,_,_,_,_,_,_,e=>by simp[ltD] at e
 | .int _,.str _,_,_,_,_,_,_,_,_,_,_,_,_,e=>by simp[ltD] at e
 | .int _,.list _,_,_,_,_,_,_,_,_,_,_,_,_,e=>by simp[ltD] at e
 | .int _,.dict _,_,_,_,_,_,_,_,_,_,_,_,_,e=>by simp[ltD] at e
 | .int _,.tuple _,_,_,_,_,_,_,_,_,_,_,_,_,e=>by simp[ltD] at e
 | .tuple _,.none,_,_,_,_,_,_,_,_,_,_,_,_,e=>by simp[ltD] at e
 | .tuple _,.bool _,_,_,_,_,_,_,_,_,_,_,_,_,e=>by simp[ltD] at e
 | .tuple _,.str _,_,_,_,_,_,_,_,_,_,_,_,_,e=>by simp[ltD] at e
 | .tuple _,.list _,_,_,_,_,_,_,_,_,_,_,_,_,e=>by simp[ltD] at e
 | .tuple _,.dict _,_,_,_,_,_,_,_,_,_,_,_,_,e=>by simp[ltD] at e
 | .tuple _,.int _,_,_,_,_,_,_,_,_,_,_,_,_,e=>by simp[ltD] at e
theorem good_reads:∀(xs ys:List T) (A:Around) (s:y04) (vs ws:List Value) (as bs:List Addr) (r:Bool),ReadsAll s.heap vs xs as->ReadsAll s.heap ws ys bs->y1g xs=true->y1g ys=true->A.units+min (y1e xs) (y1e ys)<cLine->lexD xs ys=some r->GoodP A s (decide (vs.length<ws.length)) (vs.zip ws) r
 | [],[],A,s,_,_,_,_,r,.nil,.nil,_,_,_,e=>by
  unfold lexD at e
  cases e
  exact .nil
 | [],_::_,A,s,_,_,_,_,r,.nil,.cons _ _,_,_,_,e=>by
  unfold lexD at e
  cases e
  exact GoodP.nil
 | _::_,[],A,s,_,_,_,_,r,.cons _ _,.nil,_,_,_,e=>by
  unfold lexD at e
  cases e
  exact GoodP.nil
 | x::xs,y::ys,A,s,_,_,_,_,r,.cons r1 r2,.cons q1 q2,ha,hb,hu,e=>by
  simp only[y1g,y1b] at ha hb
  simp only[y1e] at hu
  unfold lexD at e
  have he:=eqAt_reads x y A s _ _ _ _ r1 q1 ha.1 hb.1 (room_head hu)
  split at e
  next h =>
   rw[h] at he
   have ih:=good_reads xs ys A s _ _ _ _ r r2 q2 ha.2 hb.2 (room_tail hu) e
   rw[List.zip_cons_cons]
   simp only[y0w,Nat.add_lt_add_iff_right]
   exact .eq he ih
  next h =>
   rw[Bool.not_eq_true] at h
   rw[h] at he
   rw[List.zip_cons_cons]
   exact .lt he (zdh x y A s _ _ _ _ r r1 q1 ha.1 hb.1 (room_head hu) e)
end
end
section
variable {prog:y0q} {w:World} {A:Around} {R:Result->y04->Prop} {I:Addr} {fp wr:List Addr} {G:Array GenState->Array GenState->Prop} {St:Nat->y04->Prop} {items:Array Value}
variable {E:Value->y04->Prop} {s:y04}
end
section
variable {X:Cx} {e:Expr} {es:List Expr} {fs:List Fe} {p pos:Pos}
end
end
section
variable [Tbl]
def relN (scope1 sc0:Scope):List (Str×y36):=scope1.names.map fun (n,k)=>if (k == .free && sc0.kind == .function && sc0.names.lookup n == some .cell) then (n,.cell) else (n,k)
noncomputable def zlc (scope scope1 sc0:Scope) (N:List Str) (caps:List (Nat×Str)):Bool :=
 decide (scope.kind=.function) && scope.names.all (fun y=>(decide (y.2≠.local) || decide (scope.names.lookup y.1=some .local)) && decide (y.2≠.cell) && (decide (y.2≠.free) || decide ((relN scope1 sc0).lookup y.1=some .cell) || decide ((relN scope1 sc0).lookup y.1=some .free)))
  && caps.all (fun q=>decide (N[q.1]?=some q.2) && decide (scope.names.lookup q.2=some .free)) && decide ((caps.map (·.1)).Nodup)
theorem zn8 {X0:Cx} {scope scope1 sc0:Scope} {own N1:List Str} {caps:List (Nat×Str)} {cl:List (Str×Addr)} {C:Addr} {s₀:y04} {H₀:Hp} {fp:List Addr} {pn:List (Addr×Obj)} (N:List Str) (hsc:X0.env.scope=sc0) (hN:N1=N) (hc:X0.calm=true) (h:zlc scope scope1 sc0 N caps=true) :
  CompOk (z1a X0 N1 scope1 cl C s₀ H₀ fp pn) scope own caps:=by
 simp only[zlc,y1b,List.all_eq_true,decide_eq_true_eq,Bool.or_eq_true] at h
 obtain⟨⟨⟨h1,h2⟩,h3⟩,h4⟩:=h
 have hk:∀x,(z1a X0 N1 scope1 cl C s₀ H₀ fp pn).env.kindOf x=(relN scope1 sc0).lookup x:=fun x=>by
  have e:(z1a X0 N1 scope1 cl C s₀ H₀ fp pn).env.kindOf x=(relabel scope1 X0.env).names.lookup x:=rfl
  rw[e]
  have:(relabel scope1 X0.env).names=relN scope1 sc0:=by
   subst hsc
   rfl
  rw[this]
 refine⟨h1,fun y hy hl=>?_,fun y hy=>(h2 y hy).1.2,fun y hy hf=>?_,fun q hq=>by show N1[q.1]?=_/\_;rw[hN];exact h3 q hq,h4,hc⟩
 ·rcases (h2 y hy).1.1 with z|z
  ·exact absurd hl z
  ·exact z
 ·rw[hk]
  rcases (h2 y hy).2 with (z|z)|z
  ·exact absurd hf z
  ·exact .inl z
  ·exact .inr z
end
end D
end
section
namespace D
open PySem
inductive Ag where
 | v (f:Fe)|o (i:Nat)
abbrev Fx:=Ev->Option (T×Ev)
abbrev Fo:=Ev->Option Sl
def never:Fs:=fun _=>none
end D
end
section
namespace D
open PySem PySem.Spec PyProof.Rows L2
section
variable [Tbl]
section
variable {K:y00} {F F' O:Addr->Prop} {H H':Hp} {E:En}
end
section
variable {K:y00} {F₀ F F1 O:Addr->Prop} {H H1:Hp} {E:En} {ε ε':Ev} {σ:L2.St} {c C i j:Nat} {ns:List Str}
end
end
section
variable [Tbl]
section
variable {K:y00} {F₀ F O:Addr->Prop} {H:Hp} {E:En} {ε:Ev} {σ:L2.St} {c C i j:Nat} {ns:List Str} {f:Str}
end
section
variable {X:Cx} {c C i j:Nat} {ns:List Str} {f:Str} {o e a:Expr} {g h:Fe} {pos apos:Pos}
end
end
section
variable [Tbl]
section
variable {X:Cx} {e:Expr} {es:List Expr} {as:List Ag} {f:Fe} {i:Nat}
end
section
variable {K:y00} {F F' F₀ O:Addr->Prop} {H H':Hp} {E E':En}
end
section
variable {P:y0q} {w:World} {K:y00} {mg:Str->Option Value} {base:Heap}
end
section
variable {X:Cx} {k n c C i:Nat} {ns:List Str} {d:List Sl->Option T} {x m:Str} {p pos apos:Pos} {o e:Expr} {es:List Expr} {as:List Ag} {fs:List Fe}
end
end
section
variable [Tbl]
section
variable {K:y00} {F F' F₀ O:Addr->Prop} {H H':Hp} {E:En} {P:List Addr} {a b:Addr} {o:HO} {ε:Ev} {σ:L2.St} {c i:Nat} {m:Md} {fs fs':List Sl}
end
section
variable {P:y0q} {w:World} {K:y00} {mg:Str->Option Value} {base:Heap}
end
section
variable {X:Cx} {k n c C i:Nat} {ns:List Str} {d:List Sl->Option (T×List Sl)} {x m:Str} {p pos apos:Pos} {o e:Expr} {es:List Expr} {fs gs:List Fe} {fx:Fx}
theorem zlv {st:Stmt}:PSt X st never:=fun pins s σ H D I ⟨F₀,E,O,F,ε,o,r,e,k⟩=>by cases e
end
end
section
variable [Tbl]
section
variable {P:y0q} {w:World} {K:y00} {mg:Str->Option Value} {base:Heap}
end
section
variable {X:Cx} {k n c C i j:Nat} {ns:List Str} {x m f:Str} {p pos apos:Pos} {o e:Expr} {es:List Expr} {fs:List Fe} {fo:Fo}
end
end
section
variable [Tbl]
open AutoSeq1 (wpAny_loadPart')
section
variable {X:Cx} {a e o:Expr} {f g:Fe} {p pos apos:Pos}
end
section
variable {X:Cx} {c C i j:Nat} {ns:List Str} {f:Str} {o e:Expr} {g:Fe} {pos apos:Pos}
end
end
section
variable [Tbl]
open AutoSeq1 (wpAny_loadPart')
section
variable {prog:y0q} {w:World} {A:Around} {E:Value->y04->Prop} {s:y04} {T:String} {r d:Addr} {n:Nat} {P:Nat->Value->Prop} {OK:Heap->Prop}
end
section
variable {X:Cx}
variable {c C i j:Nat} {ns:List Str} {f:Str} {o:Expr} {p pos apos bpos cpos:Pos}
end
end
section
variable [Tbl]
open AutoSeq1 (wpAny_loadPart')
section
variable {prog:y0q} {w:World} {A:Around} {E:Value->y04->Prop} {s:y04} {z TI TO i1 i2 l1 l2:Addr} {k n1 n2:Nat} {P1 P2:Nat->Value->Prop} {S1 S2:Nat->Heap->Prop} {a b f1:Value}
end
end
section
variable [Tbl]
open AutoSeq1 (wpAny_loadPart')
section
variable {prog:y0q} {w:World} {A:Around} {E:Value->y04->Prop} {s:y04}
end
end
section
variable [Tbl]
section
variable {prog:y0q} {w:World} {K:Type} [DecidableEq K] {knd:PySem.KeyKind prog w K} {A:Around} {E:Value->y04->Prop} {s:y04} {R:Result->y04->Prop} {z TI TO i1 i2 l1 l2:Addr} {b1 b2:Bool} {xs ys:Array Value}
end
end
section
variable [Tbl]
section
variable {X:Cx} {a b:Expr} {f g:Fe} {p p2 pos pos2:Pos}
variable {c C i j:Nat} {ns:List Str} {fn:Str} {o:Expr} {apos:Pos}
end
end
section
variable [Tbl]
open AutoSeq1 (wpAny_loadPart')
section
variable {X:Cx} {a b:Expr} {f g:Fe} {pos:Pos}
end
end
section
variable [Tbl]
section
variable {X:Cx} {a b c:Expr} {f g h:Fe} {pos:Pos}
end
section
variable {X:Cx} {c C i j:Nat} {ns:List Str} {f:Str} {o:Expr} {pos apos:Pos}
end
end
section
abbrev t0:Tbl:=⟨[],fun _=>[],fun _=>none⟩
def scriptT (ns:List Int):T:=.list (ns.map .int)
def noL (K:y00):Bool:=K.all fun p=>match p.2.cls with
 | .type t=>t != "list"
 | _=>true
theorem z79 {α β:Type} [BEq α] [LawfulBEq α] {a:α} {b:β}:∀{l:List (α×β)},l.lookup a=some b->(a,b)∈l
  | [],h=>by cases h
  | (x,y)::l,h=>by
    rw[y1f] at h
    split at h
    next q =>
      cases h
      have:a=x:=by simpa using q
      subst this
      simp
    next=>exact y05 _ (z79 h)
end
section
section
variable [Tbl]
variable {X:Cx} {e:Expr} {es:List Expr} {fs:List Fe} {p pos:Pos}
end
end
section
variable [Tbl]
open AutoSeq1 (wpAny_loadPart')
section
variable {X:Cx} {a b:Expr} {f g:Fe} {pos:Pos}
end
end
section
variable [Tbl]
section
variable {X:Cx} {es:List Expr} {k:Nat} {p pos p2:Pos} {a b:Expr} {f g:Fe}
end
end
section
section
variable [Tbl]
variable {X:Cx} {a b:Expr} {f g:Fe} {pos:Pos}
end
end
section
section
variable [Tbl]
variable {X:Cx} {e:Expr} {f:Fe} {pos:Pos}
end
end
section
variable [Tbl]
section
variable {X:Cx} {a b c:Expr} {f g h:Fe} {pos:Pos}
end
section
variable {X:Cx} {pos:Pos}
end
section
variable {X:Cx} {a:Expr} {f:Fe} {p px pos pos2:Pos}
end
end
section
section
variable {X:Cx} {pins:List (Addr×Obj)} {σ:L2.St} {H:Hp} {s:y04} {a:Addr} {d:V} {r:Value} {A:Around} {E:Value->y04->Prop}
end
section
variable {X:Cx} {o e f:Expr} {apos cpos:Pos} {td ty tx:TE}
end
variable [Tbl]
section
variable {X:Cx} {a b:Expr} {f g:Fe} {x:Str} {px apos cpos pos:Pos}
end
section
variable {X:Cx} {a b:Expr} {f g:Fe} {p p2 pos pos2:Pos}
variable {x:Str} {px dpos:Pos}
end
end
section
variable [Tbl]
open PySem.W (kas_ask kas_sort kat_run kat_snds kat_lt kat_kind KatTups KatLex KatGo kas_item KasT)
def hT (x:Str×List T):T:=.tuple (.str x.1::x.2)
section
variable {prog:y0q} {w:World} {A:Around} {s:y04}
end
section
variable {X:Cx}
variable {e:Expr} {es:List Expr} {fs:List Fe} {p pos:Pos}
end
section
variable {X:Cx} {o e:Expr} {f g:Fe} {apos cpos:Pos}
end
section
variable {X:Cx} {a b:Expr} {f g:Fe} {pos:Pos}
end
end
section
section
variable {prog:y0q} {w:World} {A:Around} {E:Value->y04->Prop} {s:y04} {ar:Array Keyed}
end
variable [Tbl]
section
variable {X:Cx}
variable {e:Expr} {es:List Expr} {fs:List Fe} {p pos:Pos}
end
end
section
open AutoSeq1 (wpAny_loadPart')
section
variable {prog:y0q} {w:World} {A:Around} {E:Value->y04->Prop} {s:y04}
end
end
section
variable [Tbl]
section
variable {M:Model} {A:Around} {E:Value->y04->Prop} {s:y04} {env:Env}
end
section
variable {prog:y0q} {w:World} {A:Around} {E:Value->y04->Prop} {s:y04}
end
section
variable {X:Cx} {es:List Expr} {k kc:Nat} {p pos p2 pc pk:Pos} {a:Expr} {f:Fe}
end
section
variable {X:Cx} {e:Expr} {f:Fe} {pos:Pos}
end
end
section
variable [Tbl]
section
variable {X:Cx} {e:Expr} {f:Fe} {te:TE} {pos p p2 p3:Pos}
end
section
variable {X:Cx} {e st:Expr} {te:TE} {tl:TO} {f:Fe} {pos p2:Pos} {lo:Option Expr}
end
end
section
variable [Tbl]
section
variable {X:Cx} {k n c C i:Nat} {ns:List Str} {d:List Sl->Option (T×List Sl)} {x:Str} {p pos:Pos} {o e:Expr} {es:List Expr} {fs:List Fe} {f:Fe}
end
end
section
variable [Tbl]
end
section
theorem zf9 {pos:Pos} {c cv:Value} {a b:Int} (l:List Value) (h:TriplesOk l) (e:codeAmong pos (l++[y39 a,y39 b,c])=some cv):codeAmong pos l=some cv\/cv=c:=by
 fun_induction TriplesOk l with
 | case1 =>
  simp only[List.nil_append,codeAmong,y39] at e
  split at e
  ·exact .inr (y2c e).symm
  ·cases e
 | case2 a' t b' u x rest ih =>
  simp only[y2h,codeAmong] at e ⊢
  split at e
  next hc=>rw[if_pos hc];exact .inl e
  next hc=>rw[if_neg hc];exact ih h e
 | case3 _ _ _=>exact h.elim
noncomputable def BM (mg:Str->Option Value) (h:Heap):Prop:=∃bm ob,mg "__builtins__"=some (.ref bm)/\bm≠builtinsNs/\h.get? bm=some ob/\ob.cls=.type "module"/\ob.dict=some builtinsNs/\ob.data=.plain
def lamO (o:Obj) (q:Addr):HO:=.ext fun h=>h.get? q=some o
def codO (c:Addr) (q:Str):HO:=.ext fun h=>h.CodeRec (.ref c) q
variable [Tbl]
theorem zjv {X:Cx} {pins:List (Addr×Obj)} {σ:L2.St} {H:Hp} {s:y04} {params:Arguments} {body:Expr} {scope:Scope} {lpos:Pos} {c P:Addr} {clos:List (Str×Addr)} {Q:Value->y04->Prop} (I:Inv X pins σ H s)
  (hcode:X.env.code=.ref c) (C:PySem.W.CodeHd X.base c P) (hbm:BM X.mg X.base) (hdef:defaultsOf params X.env=([],[])) (hcl:closureFor scope X.env=pure clos)
  (d:TbS H) (tb:(P,X.env.qual++"<lambda>")∈Tbl.tb) (un:∀p∈Tbl.tb,p.1=P->p.2=X.env.qual++"<lambda>")
  (h:∀(q c':Addr) (ctv:Value) (H':Hp) (s':y04),Inv X pins σ H' s'->z3h H H'->TbS H'->H q=none->H' q=some (lamO (PySem.W.kla_obj "<lambda>" (X.env.qual++"<lambda>") params body scope clos ((X.mg "__name__").getD .none) c' ctv) q) ->
   H' c'=some (codO c' (X.env.qual++"<lambda>"))->Q (.ref q) s') :
  y0u (y37 X.prog X.w) X.A (eval (.Lambda params body scope lpos) X.env) Q X.xe s:=by
 obtain⟨ps,hH,ht,hg⟩:=d _ tb
 have hP:s.heap.get? P=some (PySem.W.tabObj ps):=I.hok P _ hH
 have ns:s.heap.Ns y0n X.mg:=I.ok.mod.glob.keeps I.bk
 obtain⟨bm,ob,b1,b2,b3,b4,b5,b6⟩:=hbm
 have b3':=I.bk _ _ b3
 have hgP:y0n≠P:=fun z=>by
  obtain⟨o,es,ep,e,hd,_⟩:=ns
  rw[z,hP] at e;cases e;cases hd
 have hbP:bm≠P:=fun z=>by
  rw[z,hP] at b3';cases b3';cases b4
 have hbG:bm≠y0n:=fun z=>by
  obtain⟨o,es,ep,e,hd,_⟩:=ns
  rw[z,e] at b3';cases b3';rw[hd] at b6;cases b6
 have hb:s.heap.BuiltinsAt X.mg P:=⟨bm,ob,b1,b2,hbG,hbP,b3',b4,b5,b6⟩
 have C':=C.keeps I.bk
 refine PySem.W.kla_eval hdef ?_
 cases hf:codeAmong lpos ps.toList with
 | some cv =>
  obtain⟨c',rfl,hc'⟩:=hg lpos cv hf
  refine PySem.W.kla_makeFunctionHit hcl I.ok.glob ns hcode C' hP ht hf hb fun ctv h' tk k hsz=>?_
  have fr:H h'.objs.size=none:=I.hok.fresh hsz
  refine h h'.objs.size c' ctv (upd H h'.objs.size (lamO _ h'.objs.size)) _ (I.laid (t':=tk) (fun b u e=>y03 _ (k b u e)) hsz ⟨y0l _ rfl,⟨_,y0l _ rfl⟩,fun h1 h2 e1 e2=>e2 _ e1⟩)
   (fun b o e=>.inl (by rw[z05 (z0a e fr)];exact e)) (d.new fr) fr z03 (by rw[z05 (z0a hc' fr)];exact hc')
 | none =>
  refine PySem.W.kla_makeFunction hcl I.ok.glob ns hcode C' hP ht hf hgP hb fun c' ctv h' tk hx hge hlt hrec htb=>?_
  have frq:H h'.objs.size=none:=I.hok.fresh (y1p hge (Nat.le_of_lt hlt))
  have frc:H c'=none:=I.hok.fresh hge
  have cq:c'≠h'.objs.size:=y0y hlt
  have neC:∀b o,H b=some o->b≠c':=fun b o e=>z0a e frc
  have neQ:∀b o,H b=some o->b≠h'.objs.size:=fun b o e=>z0a e frq
  have Pc:=neC P _ hH
  have Pq:=neQ P _ hH
  let H':Hp:=upd (upd (upd H P (.tbl (ps++#[y39 lpos.line,y39 lpos.col,.ref c']))) c' (codO c' (X.env.qual++"<lambda>"))) h'.objs.size (lamO (PySem.W.kla_obj "<lambda>" (X.env.qual++"<lambda>") params body scope clos ((X.mg "__name__").getD .none) c' ctv) h'.objs.size)
  have eq0:H' h'.objs.size=some (lamO (PySem.W.kla_obj "<lambda>" (X.env.qual++"<lambda>") params body scope clos ((X.mg "__name__").getD .none) c' ctv) h'.objs.size):=z03
  have ec0:H' c'=some (codO c' (X.env.qual++"<lambda>")):=by show upd _ _ _ _=_;rw[z05 cq,z03]
  have eP0:H' P=some (.tbl (ps++#[y39 lpos.line,y39 lpos.col,.ref c'])):=by show upd _ _ _ _=_;rw[z05 Pq,z05 Pc,z03]
  have eO:∀b,b≠P->b≠c'->b≠h'.objs.size->H' b=H b:=fun b n1 n2 n3=>by show upd _ _ _ _=_;rw[z05 n3,z05 n2,z05 n1]
  have eS:∀b o,H b=some o->b≠P->H' b=some o:=fun b o e n=>by rw[eO b n (neC b o e) (neQ b o e)];exact e
  have kp:∀b o,b≠P->s.heap.get? b=some o->(h'.push (PySem.W.kla_obj "<lambda>" (X.env.qual++"<lambda>") params body scope clos ((X.mg "__name__").getD .none) c' ctv)).get? b=some o:=fun b o n e=>y03 _ (hx b o n e)
  have nP:∀b,H b=none->b≠P:=fun b e z=>by rw[z,hH] at e;cases e
  have sm:z3h H H':=fun b o e=>by
   by_cases z:b=P
   ·subst z
    rw[hH] at e;cases e
    exact .inr ⟨_,_,rfl,eP0⟩
   ·exact .inl (eS b o e z)
  refine h h'.objs.size c' ctv H' _ (I.un (t':=tk) ⟨fun b o e n _ _=>kp b o (nP b n) e,fun b o e n _ _=>⟨o.slots,kp b o (nP b n) e⟩,fun b o e n _=>?_,fun b o e _=>?_,fun b xs e=>eS b _ e fun z=>by (rw[z,hH] at e;cases e),fun b o u e=>eS b _ e fun z=>by (rw[z,hH] at e;cases e),fun b qs e=>?_⟩ fun a o e=>?_) sm (fun p hp=>?_) frq eq0 ec0
  ·have lt:=y0c e
   rw[eO b (nP b n) (y0y (y0x lt hge)) (y0y (Nat.lt_trans (y0x lt hge) hlt))]
   exact n
  ·by_cases z:b=P
   ·subst z
    exact⟨_,y03 _ htb⟩
   ·exact⟨o,kp b o z e⟩
  ·by_cases z:b=P
   ·subst z
    rw[hH] at e;cases e
    exact⟨_,eP0⟩
   ·exact⟨#[],by rw[eS b _ e z];simp⟩
  ·by_cases z1:a=h'.objs.size
   ·subst z1
    rw[eq0] at e;cases e
    exact⟨y0l _ rfl,⟨_,y0l _ rfl⟩,fun h1 h2 e1 e2=>e2 _ e1⟩
   by_cases z2:a=c'
   ·subst z2
    rw[ec0] at e;cases e
    refine⟨hrec.at fun o e=>y03 _ e,?_,fun h1 h2 e1 e2=>e1.at e2⟩
    obtain⟨c2,o,vs,t,e2,ho,_⟩:=hrec
    cases e2
    exact⟨o,y03 _ ho⟩
   by_cases z3:a=P
   ·subst z3
    rw[eP0] at e;cases e
    exact y03 _ htb
   ·rw[eO a z3 z2 z1] at e
    refine (I.hok a o e).stay (fun b u hb q=>kp b u ?_ q) (fun b q=>eS b _ q fun z=>by (rw[z,hH] at q;cases q)) fun b xs q=>eS b _ q fun z=>by (rw[z,hH] at q;cases q)
    rcases hb with rfl|hb
    ·exact z3
    ·exact fun z=>by rw[z,hH] at hb;cases hb
  ·by_cases z:p.1=P
   ·have e2:=un p hp z
    obtain⟨p1,p2⟩:=p
    simp only at z e2
    subst z e2
    refine⟨_,eP0,by rw[Array.toList_append];exact TriplesOk_snoc _ _ _ _ ht,fun pos cv e=>?_⟩
    rw[Array.toList_append] at e
    rcases zf9 _ ht e with e|e
    ·obtain⟨c2,e1,e2⟩:=hg pos cv e
     exact⟨c2,e1,eS _ _ e2 fun z=>by (rw[z,hH] at e2;cases e2)⟩
    ·exact⟨c',e,ec0⟩
   ·obtain⟨qs,q1,q2,q3⟩:=d p hp
    refine⟨qs,eS _ _ q1 z,q2,fun pos cv e=>?_⟩
    obtain⟨c2,e1,e2⟩:=q3 pos cv e
    exact⟨c2,e1,eS _ _ e2 fun z=>by (rw[z,hH] at e2;cases e2)⟩
end
section
variable [Tbl]
end
section
variable [Tbl]
noncomputable def envL (qual:Str) (scope:Scope) (L q:Addr) (cd:Value) (cl:List (Str×Addr)):Env :=
 { scope:=scope,locals:=L,globals:=y0n,cells:=cl,qual:=qual++".<locals>.",func:=some q,code:=cd,frame:=some L,builtins:=builtinsNs }
noncomputable def cxL (P:y0q) (w:World) (K:y00) (mg:Str->Option Value) (base:Heap) (N:List Str) (qual:Str) (scope:Scope) (q:Addr) (cd:Value) (cl:List (Str×Addr)) (A:Around) (outer:List Env) (s:y04) (H:Hp):Cx where
 prog:=P
 w:=w
 K:=K
 mg:=mg
 base:=base
 A:=A.deeper (envL qual scope s.heap.objs.size q cd cl)
 N:=N
 s₀:=s
 H₀:=H
 env:=envL qual scope s.heap.objs.size q cd cl
 outer:=outer
 stack:=envL qual scope s.heap.objs.size q cd cl::outer
 ex:=[]
 calm:=true
 fn:=fun _=>false
 pn:=[]
 xe:=fun _ _=>False
structure Caps (N:List Str) (scope:Scope) (cl:List (Str×Addr)) (σ:L2.St) (H:Hp) (h:Heap):Prop where
 inj:∀x y c,cl.lookup x=some c->cl.lookup y=some c->x=y
 has:∀x,(scope.names.lookup x=some .cell\/scope.names.lookup x=some .free)->∃c,cl.lookup x=some c
 cel:∀x c,cl.lookup x=some c->(∃v,h.IsCell c v)/\H c=none
 len:σ.length=N.length
 val:∀(i:Nat) (x:Str) (v:V),N[i]?=some x->σ[i]?=some (some v)->Vis scope x->∃u c,RelV v u/\scope.names.lookup x=some .free/\cl.lookup x=some c/\h.IsCell c (some u)
theorem z7e {h h':Heap} {c:Addr} {v:Option Value} (x:h.IsCell c v) (k:∀b o,h.get? b=some o->h'.get? b=some o):h'.IsCell c v:=by
 obtain⟨o,ho,hd⟩:=x
 exact⟨o,k _ _ ho,hd⟩
section
variable {P:y0q} {w:World} {K:y00} {mg:Str->Option Value} {base:Heap} {k:Nat} {q c':Addr} {N:List Str} {qual:Str} {scope:Scope} {cd:Value} {cl:List (Str×Addr)} {A:Around} {outer:List Env} {s:y04} {H:Hp} {σ:L2.St}
end
end
section
variable [Tbl]
end
section
variable [Tbl]
end
section
def zki (ts:List Addr) (H:Hp):Prop:=(∀b,H b=none\/(∃o xs,H b=some (.frz o (.lst xs)))\/(b∈ts/\H b=some (.tbl #[])))/\∀b∈ts,H b=some (.tbl #[])
theorem zgy {P:y0q} {w:World} {K:y00} {mg mb:Str->Option Value} {CX:CXT} {k:Nat} {fa a:Addr} {fd:y0b} {x:Str} {sp:Sp} {s₁:y04} {vs:List Value} {ns:List Int} {ts:List Addr}
  (KX:K.In s₁.heap) (hts:∀b∈ts,s₁.heap.get? b=some (PySem.W.tabObj #[])) (hK0:∀b∈ts,K.lookup b=none) (hcd:∀b∈ts,∃c,y3a K c b=true)
  (hns:s₁.heap.Ns y0n mg) (hb:s₁.heap.Ns builtinsNs mb) (hbb:∀x:Str,x≠"__name__"->mb x=bootBuiltins x) (hlim:s₁.heap.NoLimit) (hg:s₁.gens=#[])
  (ha:s₁.heap.get? a=some { cls:=.type "list",data:=.seq vs.toArray }) (hi:IntsAre vs ns) (hl:ns.length<=y0j) (hr:Room k callerA)
  (hbm:BM mg s₁.heap) (F:∀base:Heap,K.In base->base.Ns y0n mg->BM mg base->FnOk P w K mg base CX k fa fd [x] sp) (hbind:∀(s:y04) (u:Value),BindsTo s fd ⟨[u],[]⟩ [(x,u)])
  (hsp:∀H:Hp,zki ts H->SqL K H a (ns.map V.int)->sp [.ref a] H (fun v _=>v=.bl true) fun _ _ _=>False)
  (hCX:∀H e s',CX [] H s₁ (fun _ _ _=>False) e s'->False) :
  y31 (y37 P w) callerA (.call (.ref fa) ⟨[.ref a],[]⟩) (fun r s'=>r=.ok (.ret (.bool true))/\OldK s₁.heap s'.heap/\s'.os=s₁.os/\AllBare s'.gens) s₁:=by
 have rv:=z9z hi
 have lenV:=hi.length
 have nat:a∉ts:=fun z=>by
  have:=hts a z
  rw[ha] at this
  cases this
 have core:∀H:Hp,zki ts H->SqL K H a (ns.map V.int)->HOk P w H s₁.heap->(∀b,H b≠none->b=a\/b∈ts)->(H a≠none->K.lookup a=none) ->
   y31 (y37 P w) callerA (.call (.ref fa) ⟨[.ref a],[]⟩) (fun r s'=>r=.ok (.ret (.bool true))/\OldK s₁.heap s'.heap/\s'.os=s₁.os/\AllBare s'.gens) s₁:=by
  intro H hO hS hok hA hK
  have base_of:∀{b:Addr} {o:Obj},s₁.heap.get? b=some o->H b=none->(hidT s₁.heap H).get? b=some o:=fun e n=>zk0 e n
  have noA:∀{b:Addr} {o:Obj} {es:Array DictEntry} {ep:Nat},s₁.heap.get? b=some o->o.data=.dict es ep->H b=none:=fun {b o es ep} e d=>by
   cases q:H b with
   | none=>rfl
   | some u =>
    rcases hA b (by rw[q];simp) with e'|e'
    ·subst e'
     rw[ha] at e;cases e
     have d':Data.seq vs.toArray _=Data.dict es ep:=d
     cases d'
    ·rw[hts b e'] at e;cases e
     have d':Data.fields _=Data.dict es ep:=d
     cases d'
  have nsK:∀{b:Addr} {m:Str->Option Value},s₁.heap.Ns b m->(hidT s₁.heap H).Ns b m:=fun {b m} ⟨o,es,ep,e,d,r⟩=>⟨o,es,ep,base_of e (noA e d),d,r⟩
  have hKb:K.In (hidT s₁.heap H):=fun b o e=>base_of (KX b o e) (by
   cases q:H b with
   | none=>rfl
   | some u =>
    rcases hA b (by rw[q];simp) with e'|e'
    ·subst e'
     rw[hK (by rw[q];simp)] at e;cases e
    ·rw[hK0 b e'] at e;cases e)
  have hbm':BM mg (hidT s₁.heap H):=by
   obtain⟨bm,ob,b1,b2,b3,b4,b5,b6⟩:=hbm
   refine⟨bm,ob,b1,b2,base_of b3 ?_,b4,b5,b6⟩
   cases q:H bm with
   | none=>rfl
   | some u =>
    rcases hA bm (by rw[q];simp) with e'|e'
    ·subst e'
     rw[ha] at b3
     cases b3
     cases b6
    ·rw[hts bm e'] at b3
     cases b3
     cases b6
  have hM:Mod K mg (hidT s₁.heap H):=⟨hKb,nsK hns,⟨mb,nsK hb,hbb⟩,let ⟨mc,h1,h2⟩:=hlim;⟨mc,nsK h1,h2⟩⟩
  have e0:Env0 P w K mg (hidT s₁.heap H) callerA [] s₁ H:=⟨rfl,hM,fun b o e=>zmo e,Nat.le_of_eq (zhf _ _),trivial,fun b hb=>absurd (show b∈([]:List Addr) from hb) (by simp),hok,.of_eq hg⟩
  refine y2v ((F _ hKb (nsK hns) hbm').run callerA [] s₁ H ⟨[.ref a],[]⟩ [.ref a] [.ref a] _ _ hr e0 (hbind s₁ (.ref a)) (.cons rfl .nil) (hsp H hO hS)) fun r s' h=>?_
  cases r with
  | error e=>exact (hCX H e s' h).elim
  | ok fl =>
   cases fl with
   | next=>exact y1y h
   | brk=>exact y1y h
   | cont=>exact y1y h
   | ret u =>
    obtain⟨v,H',os,bare,un,hok',r',q⟩:=h
    have q':v=.bl true:=q
    subst q'
    obtain rfl:u=Value.bool true:=r'
    refine⟨rfl,⟨fun b o e=>?_,fun b o e=>un.there b o e (by simp)⟩,os,bare⟩
    cases q:H b with
    | none=>exact .inl (un.keep b o e q (by intro z;exact absurd (show b∈([]:List Addr) from z) (by simp)) (by simp))
    | some u =>
     rcases hO.1 b with z|⟨ob,xs,z⟩|⟨hbt,z⟩
     ·rw[q] at z;cases z
     ·have z2:=un.frzs b ob _ z
      obtain⟨e1,_⟩:=hok b _ z
      obtain⟨e2,_⟩:=hok' b _ z2
      rw[e] at e1;cases e1
      exact .inl e2
     ·obtain⟨more,z2⟩:=un.tbls b _ z
      have e2:s'.heap.get? b=some (PySem.W.tabObj (#[]++more)):=hok' b _ z2
      have e1:=hts b hbt
      rw[e] at e1
      cases e1
      obtain⟨c,hc⟩:=hcd b hbt
      exact .inr (.inl ⟨((PySem.W.codeHd_of_K KX hc).tab e).isCodeTable,rfl,#[],more,rfl,e2⟩)
 cases hk:K.lookup a with
 | some o =>
  have e:=KX a o hk
  rw[ha] at e
  cases e
  refine core (fun b=>if b∈ts then some (.tbl #[]) else none) ⟨fun b=>?_,fun b hb=>if_pos hb⟩ (.inr ⟨_,vs.toArray,_,hk,rfl,rfl,rfl,by rw[y0h,lenV];exact hl,by simpa using rv⟩) (fun b u z=>?_) (fun b z=>?_) fun z=>?_
  ·by_cases hb:b∈ts
   ·exact .inr (.inr ⟨hb,if_pos hb⟩)
   ·exact .inl (if_neg hb)
  ·by_cases hb:b∈ts
   ·have z':=(if_pos hb).symm.trans z
    cases z'
    exact hts b hb
   ·have z':=(if_neg hb).symm.trans z
    cases z'
  ·by_cases hb:b∈ts
   ·exact .inr hb
   ·exact absurd (if_neg hb) z
  ·exact absurd (if_neg nat) z
 | none =>
  refine core (fun b=>if b=a then some (.frz { cls:=.type "list",data:=.seq vs.toArray } (.lst (ns.map V.int))) else if b∈ts then some (.tbl #[]) else none) ⟨fun b=>?_,fun b hb=>?_⟩ (.inl (.inr ⟨{ cls:=.type "list",data:=.seq vs.toArray },if_pos rfl⟩)) (fun b u z=>?_) (fun b z=>?_) fun _=>hk
  ·by_cases hb:b=a
   ·exact .inr (.inl ⟨_,_,if_pos hb⟩)
   ·by_cases hb2:b∈ts
    ·exact .inr (.inr ⟨hb2,(if_neg hb).trans (if_pos hb2)⟩)
    ·exact .inl ((if_neg hb).trans (if_neg hb2))
  ·have ne:b≠a:=fun z=>nat (z▸hb)
   exact (if_neg ne).trans (if_pos hb)
  ·by_cases hb:b=a
   ·have z':=(if_pos hb).symm.trans z
    cases z'
    subst hb
    exact⟨ha,by rw[y13];exact hl,vs,_,rv,ha⟩
   ·by_cases hb2:b∈ts
    ·have z':=((if_neg hb).trans (if_pos hb2)).symm.trans z
     cases z'
     exact hts b hb2
    ·have z':=((if_neg hb).trans (if_neg hb2)).symm.trans z
     cases z'
  ·by_cases hb:b=a
   ·exact .inl hb
   ·by_cases hb2:b∈ts
    ·exact .inr hb2
    ·exact absurd ((if_neg hb).trans (if_neg hb2)) z
theorem zig {l:PySem.W.OpenLaw} {n k:Nat} {q:y0q} {loose:List Str} {XP:(Str->Option Value)->Heap->Prop} {YP:World->Heap->Prop} {d:DefRec} {K:Params->y00} {CX:World->CXT} {sp:World->Sp} {x:Str} {ts:List Addr}
  (hn:l.most=some n) (hn2:n<=y0j) (hdf:d.params.defaults=[]) (hr:Room k callerA)
  (hY:∀(w:World) (h:Heap),YP w h->(K w.params).In h) (hT:∀(w:World) (h:Heap),YP w h->∀b∈ts,h.get? b=some (PySem.W.tabObj #[]))
  (hK0:∀(w:World),∀b∈ts,(K w.params).lookup b=none) (hcd:∀(w:World),∀b∈ts,∃c,y3a (K w.params) c b=true)
  (F:∀(w:World) (mg:Str->Option Value) (fa:Addr) (h:Heap),(K w.params).In h->h.Ns y0n mg->mg d.name=some (.ref fa) ->
   ∃fd:y0b,(∀(s:y04) (u:Value),BindsTo s fd ⟨[u],[]⟩ [(x,u)]) /\
    ∀base:Heap,(K w.params).In base->base.Ns y0n mg->BM mg base->FnOk l.prog w (K w.params) mg base (CX w) k fa fd [x] (sp w))
  (hsp:∀(w:World) (H:Hp) (a:Addr) (ns:List Int),ns.length<=n->zki ts H->SqL (K w.params) H a (ns.map V.int)->sp w [.ref a] H (fun v _=>v=.bl true) fun _ _ _=>False)
  (hCX:∀(w:World) (H:Hp) (s:y04) (e:Value) (s':y04),CX w [] H s (fun _ _ _=>False) e s'->False) :
  PySem.W.WalkO q loose XP YP l.row.toRowW d [] (fun f vs=>PySem.call f vs):=by
 refine Att.attach_call hn hdf fun w s₀ s₁ mg mb fa o pm cd doc a vs ns G Y ho hd hcd' hmg hobj hints hlen hg=>?_
 have KX:=hY w _ Y
 obtain⟨fd,hb,hF⟩:=F w mg fa _ KX G.T.g hmg
 exact zgy KX (hT w _ Y) (hK0 w) (hcd w) G.T.g G.T.b G.T.builtins G.T.nolimit hg hobj hints (y1p hlen hn2) hr G.T.bmain hF hb (fun H hO hS=>hsp w H a ns hlen hO hS) fun H e s'=>hCX w H s₁ e s'
theorem zfm {t:Tbl} {K:y00} {H:Hp} {a:Addr} {ns:List Int} {d:List T->Option T} {ts:List Addr} (hts:∀p∈t.tb,p.1∈ts) (hO:zki ts H) (hL:noL K=true) (hd:d [scriptT ns]=some (.bool true)) (hS:SqL K H a (ns.map V.int)):spT K 1 d [.ref a] H (fun v _=>v=.bl true) fun _ _ _=>False:=by
 rcases hS with hS|⟨o,its,n,hk,hc,_⟩
 ·refine⟨rfl,fun b=>b=a,[scriptT ns],.bool true,⟨?_,fun p hp=>⟨#[],hO.2 p.1 (hts p hp),trivial,fun pos cv e=>by cases e⟩⟩,RepL.cons ?_ RepL.nil,hd,fun v F' H' x r=>by simpa [Rep] using r⟩
  ·rintro b rfl
   rcases hS with q|⟨u,q⟩
   ·exact⟨_,q⟩
   ·exact⟨_,q⟩
  ·simp only[scriptT,Rep]
   exact⟨a,_,rfl,rfl,hS,z3l ns⟩
 ·have:=List.all_eq_true.mp hL _ (z79 hk)
  simp[hc] at this
end
section
variable [Tbl]
abbrev Ftx:=Ev->Option (Bool×Ev)
section
variable {X:Cx} {a b e:Expr} {es:List Expr} {f g:Fx} {fe:Fe} {ft:Ft} {c d:Ftx} {pos:Pos}
end
end
section
variable [Tbl]
section
variable {X:Cx} {a b:Expr} {f g:Fo} {pos:Pos}
end
end
section
variable [Tbl]
theorem zn3 {P:y0q} {w:World} {K:y00} {mg:Str->Option Value} {base:Heap} {x qual:Str} {st:Stmt} {f:Addr} {oc:Value} {od an:Option Addr} {osl:Array (Option Value)} {kV doc pm cdv ct:Value} {N ps:List Str} {k:Nat} {b:Fs}
  (l:K.lookup f=some ⟨oc,od,.func (y0i x qual (z0k st) (z0g st) (z01 st) .none kV doc pm an cdv ct),osl⟩) (hcd:y0f K cdv qual=true) (S:FnScope N ps (z01 st))
  (hb:∀(A:Around) (outer:List Env) (s:y04) (H:Hp) (E:XK),Room k (A.deeper (envOfC qual (z01 st) s.heap.objs.size f cdv)) ->
   PBt (cxOf CX0 P w K mg base N qual (z01 st) f cdv A outer s H E).nox (z0g st) b) :
  FnOk P w K mg base CX0 (k+1) f (y0i x qual (z0k st) (z0g st) (z01 st) .none kV doc pm an cdv ct) ps (spT K ps.length (runF b N.length)):=by
 refine zpd l hcd S (fun vs H Q E h=>h.1) fun A outer s H vs Q E hr h=>⟨_,(hb A outer s H E hr).nox,?_⟩
 obtain⟨hl,F,ts,t,dom,q,e,kq⟩:=h
 simp only[runF,y01] at e
 obtain⟨o,eo,e⟩:=e
 refine⟨F,⟨H,0⟩,fun a=>H a=none,F,_,o,?_,eo,?_⟩
 ·have:=z8g (N:=N) dom q (N.length - ts.length)
  unfold L2.start
  rw[q.length] at this ⊢
  exact this
 ·cases o with
  | rt t' =>
   cases e
   exact fun v F' H' x q=>kq v F' H' x q
  | nx ε' =>
   cases e
   exact fun σ' F' H' _ r=>kq _ F' H' r.ent (by simp[Rep])
  | bk _=>cases e
  | ct _=>cases e
  | rtm _ _=>cases e
  | rto _=>cases e
end
section
abbrev tOf (tb:List (Addr×Str)):Tbl:=⟨tb,fun _=>[],fun _=>none⟩
theorem zn4 {t:Tbl} {tb:List (Addr×Str)} (ht:t.tb=tb) {P:y0q} {w:World} {K:y00} {mg:Str->Option Value} {base:Heap} {k n:Nat} {f:Addr} {fd:y0b} {ps:List Str} {d:List T->Option T} (F:FnOk P w K mg base CX0 k f fd ps (@spT t K n d)):FnOk P w K mg base CX0 k f fd ps (@spT (tOf tb) K n d):=by
 subst ht
 have d1:∀{F:Addr->Prop} {H:Hp},@Dom (tOf t.tb) F H->@Dom t F H:=fun {F H} h=>@Dom.mk t F H (@Dom.dm (tOf t.tb) F H h) (@Dom.tgs (tOf t.tb) F H h)
 have d2:∀{F:Addr->Prop} {H:Hp},@Dom t F H->@Dom (tOf t.tb) F H:=fun {F H} h=>@Dom.mk (tOf t.tb) F H (@Dom.dm t F H h) (@Dom.tgs t F H h)
 refine F.imp fun vs H Q E h=>?_
 obtain⟨hl,F,ts,r,dom,q,e,kq⟩:=h
 exact⟨hl,F,ts,r,d1 dom,q,e,fun v F' H' x rv=>kq v F' H' (@Ext.mk (tOf t.tb) F H F' H' (@Ext.same t F H F' H' x) (@Ext.sub t F H F' H' x) (@Ext.new t F H F' H' x) (d2 (@Ext.dom t F H F' H' x))) rv⟩
end
end D
end
section
namespace D
open PySem PySem.Spec PySem.Calls PySem.W PyProof.Rows PySem.Builtin PySem.Builtin.ObjectAttr PySem.Builtin.Getset_descriptor
section
variable {prog:y0q} {w:World} {A:Around} {E:Value->y04->Prop} {s:y04} {K:Frag} {x C:Addr} {R:Result->y04->Prop}
end
end D
end
section
namespace D
open PySem PySem.Spec PyProof.Rows L2
section
section
variable {X:Cx} {pins:List (Addr×Obj)} {σ:L2.St} {H1 H':Hp} {s1 s2:y04} {C:Addr} {e:Value} {env:Env} {outer:List Env} {E:XK}
end
end
section
variable [Tbl]
abbrev Fz:=Ev->Bool
section
variable {X:Cx} {C:Addr} {e c:Expr} {st:Stmt} {rest els:List Stmt} {r r':Fz} {b:Fs} {ft:Ft} {pos:Pos}
end
section
variable {P:y0q} {w:World} {K:y00} {mg:Str->Option Value} {base:Heap}
end
section
variable {X:Cx} {k n c C CO i:Nat} {ns:List Str} {r:List Sl->Bool} {x m:Str} {p pos apos:Pos} {o e:Expr} {es:List Expr} {as:List Ag} {fs:List Fe}
end
end
section
section
variable {X:Cx} {pins:List (Addr×Obj)} {σ:L2.St} {H:Hp} {s:y04} {ea:Addr}
end
end
section

end
section
variable [Tbl]
section
variable {P:y0q} {w:World} {K:y00} {mg:Str->Option Value} {base:Heap} {k:Nat} {q c':Addr} {N:List Str} {qual:Str} {scope:Scope} {cl:List (Str×Addr)} {A:Around} {outer:List Env} {s:y04} {H:Hp} {σ:L2.St} {C:Addr}
end
end
section
variable [Tbl]
end
section
section
variable [Tbl] {X:Cx} {C CD cz cw cd ct:Addr} {j:Nat} {pos p p1:Pos}
end
end
section
def z37 (kf:T->Option T) (b kb:T):List T->Option T
 | []=>some b
 | d::ds=>(kf d).bind fun kd=>(ltD kd kb).bind fun z=>if z then z37 kf d kd ds else z37 kf b kb ds
def minK (kf:T->Option T):List T->Option T
 | []=>none
 | d::ds=>(kf d).bind fun kd=>z37 kf d kd ds
variable [Tbl]
theorem FpOk.at {X:Cx} {pins:List (Addr×Obj)} {H H':Hp} {b:Addr} (h:FpOk X pins H b) (e:H' b=none):FpOk X pins H' b:=⟨e,h.2⟩
theorem zjp {X:Cx} {kf:T->Option T} (hc:X.calm=true) (hu:X.A.units+70<cLine) {l q I S:Addr} {xs:List V} {ds:List T} {pins:List (Addr×Obj)} {σ:L2.St} {tc:(Addr->Prop)->Hp->Prop} {R:Result->y04->Prop} {dr:T} (hIS:I≠S)
  (tk:∀F H F' H',Ext F H F' H'->tc F H->tc F' H') (hok:∀d kd,kf d=some kd->okT kd=true)
  (hcall:∀(pins':List (Addr×Obj)) (H:Hp) (s:y04) (F:Addr->Prop) (d kd:T) (v:V) (u:Value),Inv X pins' σ H s->Dom F H->tc F H->Rep X.K F H d v->RelV v u->kf d=some kd ->
   y0u (y37 X.prog X.w) X.A.in1 (call (.ref q) [u]) (EP X pins' σ fun kv H'=>∃F',Ext F H F' H'/\Rep X.K F' H' kd kv) (fun _ _=>False) s) :
  ∀(r j:Nat) (s:y04) (H:Hp) (F:Addr->Prop) (db dk:T) (xb xk:V) (vb vk:Value) (c:Nat),ds.length - (j+1)=r->j+1<=ds.length->Inv X pins σ H s->Dom F H->tc F H->SqT X.K H l xs->RepL X.K F H ds xs->s.heap.IsTupleIter I l (j+1) ->
   s.heap.get? S=some (seqObj "list" #[vb,vk] c)->FpOk X pins H I->FpOk X pins H S->RelV xb vb->Rep X.K F H db xb->RelV xk vk->Rep X.K F H dk xk->okT dk=true->z37 kf db dk (ds.drop (j+1))=some dr ->
   (∀s' H' F' v x,Inv X pins σ H' s'->Ext F H F' H'->RelV x v->Rep X.K F' H' dr x->R (.ok (.ret v)) s') ->
   y31 (y37 X.prog X.w) X.A (.builtin "min.loop" ⟨[.ref I,.ref q,.ref S],[]⟩) R s:=by
 have nm:(toString "min"++toString ".loop":String)="min.loop":=by decide
 intro r
 induction r with
 | zero =>
  intro j s H F db dk xb xk vb vk c hr hj J dom htc hq hrep hit hS fI fS rb pb rk pk okk hmin hR
  obtain⟨its,rv,p,hz⟩:=J.tuple hq
  have hlen:its.length=ds.length:=by rw[hrep.length,rv.length]
  refine y2t (id:="min.loop") PySem.F.entry_min_loop ?_
  rw[y1w (PySem.F.plain_min_loop) _]
  show y0u _ X.A.in1 (seqItems? (.ref S) >>= _) _ _ _
  refine y02 (y2q (a:=S) hS rfl ?_)
  show y0u _ X.A.in1 (tryCatch (pyNext (.ref I)) _ >>= _) _ _ _
  refine y02 (y34 (wpAny_pyNext_tuple_end (J.ok.hd hc) hit (show s.heap.IsTuple l its.toArray from p) (by simp;omega) fun h' eb=>?_))
  have J1:Inv X pins σ H { s with heap:=h' }:=J.turned (t':=s.toks) (fun b o hb e=>eb b o hb e) fI.1 fI.2.1 fI.2.2.2.1 fI.2.2.2.2.1 fI.2.2.2.2.2
  have hS':=eb S _ (Ne.symm hIS) hS
  show y0u _ X.A.in1 (updateSeq S (fun _=>#[]) >>= _) _ _ _
  refine y02 (wpAny_updateSeq hS' rfl (y02 (wpAny_letGo (y06 ?_))))
  rw[List.drop_of_length_le (by omega)] at hmin
  cases hmin
  exact hR _ H F vb xb (J1.turned (t':=s.toks) (fun b o hb e=>(y3c _ _ (Ne.symm hb)).trans e) fS.1 fS.2.1 fS.2.2.2.1 fS.2.2.2.2.1 fS.2.2.2.2.2) (Ext.refl dom) rb pb
 | succ r ih =>
  intro j s H F db dk xb xk vb vk c hr hj J dom htc hq hrep hit hS fI fS rb pb rk pk okk hmin hR
  have hlt:j+1<ds.length:=by omega
  obtain⟨its,rv,p,hz⟩:=J.tuple hq
  have hd:ds[j+1]?=some ds[j+1]:=y0v hlt
  obtain⟨x,hx,px⟩:=hrep.get hd
  obtain⟨u,hu',ru⟩:=rv.get hx
  rw[List.drop_eq_getElem_cons hlt,z37] at hmin
  obtain⟨kd,ekd,hmin⟩:=y01.mp hmin
  obtain⟨z,ez,hmin⟩:=y01.mp hmin
  refine y2t (id:="min.loop") PySem.F.entry_min_loop ?_
  rw[y1w (PySem.F.plain_min_loop) _]
  show y0u _ X.A.in1 (seqItems? (.ref S) >>= _) _ _ _
  refine y02 (y2q (a:=S) hS rfl ?_)
  show y0u _ X.A.in1 (tryCatch (pyNext (.ref I)) _ >>= _) _ _ _
  refine y02 (y34 (wpAny_pyNext_tuple_item hit (show s.heap.IsTuple l its.toArray from p) (x:=u) (by simpa using hu') fun h' hit' sb=>?_))
  have J1:Inv X pins σ H { s with heap:=h' }:=J.turned (t':=s.toks) (fun b o hb e=>(sb.2 b hb).trans e) fI.1 fI.2.1 fI.2.2.2.1 fI.2.2.2.2.1 fI.2.2.2.2.2
  have hS':h'.get? S=some (seqObj "list" #[vb,vk] c):=(sb.2 S (Ne.symm hIS)).trans hS
  obtain⟨oI,hoI,cI,dI⟩:=id hit'
  have J2:Inv X ((S,seqObj "list" #[vb,vk] c)::(I,oI)::pins) σ H { s with heap:=h' }:=J1.pins_of fun p hp=>by
   rcases y09.mp hp with rfl|hp
   ·exact⟨hS',fS.1,fS.2.1,fS.2.2.1,fun v z=>by cases z⟩
   ·rcases y09.mp hp with rfl|hp
    ·exact⟨hoI,fI.1,fI.2.1,fI.2.2.1,fun v z=>by rw[dI] at z;cases z⟩
    ·exact J1.pin p (y1a _ hp)
  show y0u _ X.A.in1 (tryCatch (holding [u] (call (.ref q) [u])) _ >>= _) _ _ _
  refine y02 (y34 (y2k (y1d (hcall _ H _ F _ kd x u J2 dom htc px ru ekd) (fun ku s2 he=>?_) fun _ _ hF=>hF.elim)))
  obtain⟨kv,H2,J3,rkv,F2,x2,pkv⟩:=he
  have pS:=J3.pin (S,seqObj "list" #[vb,vk] c) (y1a _ (.head _))
  have pI:=J3.pin (I,oI) (y1a _ (.tail _ (.head _)))
  have J4:Inv X pins σ H2 s2:=J3.pins_of fun p hp=>J3.pin p (y1a _ (.tail _ (.tail _ hp)))
  have fI2:=FpOk.at fI pI.2.1
  have fS2:=FpOk.at fS pS.2.1
  have hit2:s2.heap.IsTupleIter I l (j+1+1):=⟨oI,pI.1,cI,dI⟩
  obtain⟨as,ra⟩:=z11 (O:=fun _=>False) J4 (.inl pkv) rkv
  obtain⟨bs,rbb⟩:=z11 (O:=fun _=>False) J4 (.inl (pk.ext x2)) rk
  have okd:=hok _ _ ekd
  obtain⟨c1,l1⟩:=z61 okd
  obtain⟨c2,l2⟩:=z61 okk
  have hcmp:=zdh _ _ X.A.in1 s2 ku vk as bs z ra rbb c1 c2 (by have:=Nat.min_le_left kd.depth dk.depth;show X.A.units+1+_<_;omega) ez
  show y0u _ X.A.in1 (tryCatch (holding [u,ku] (richCompare .Lt ku vk >>= _)) _ >>= _) _ _ _
  refine y02 (y34 (y2k (y02 (hcmp X.prog X.w _ _ ?_))))
  refine y02 (y2k (y30 (y02 (wpAny_letGo (y06 ?_)))))
  cases z with
  | true =>
   simp only[if_true] at hmin ⊢
   refine y02 (wpAny_updateSeq pS.1 rfl (y02 (wpAny_letGo ?_)))
   rw[nm]
   refine y06 ⟨y32 PySem.F.plain_min_loop _,ih (j+1) _ H2 F2 ds[j+1] kd x kv u ku _ (by omega) hlt (J4.turned (t':=s2.toks) (fun b o hb e=>(y3c _ _ (Ne.symm hb)).trans e) fS2.1 fS2.2.1 fS2.2.2.2.1 fS2.2.2.2.2.1 fS2.2.2.2.2.2) x2.dom (tk _ _ _ _ x2 htc) (SqT.same x2.same hq) (hrep.ext x2)
    ⟨oI,(y3c _ _ (Ne.symm hIS)).trans pI.1,cI,dI⟩ (get?_update_seq pS.1 fun _=>#[u,ku]) fI2 fS2 ru (px.ext x2) rkv pkv okd hmin fun s' H' F' v y a1 a2 a3 a4=>hR s' H' F' v y a1 (x2.trans a2) a3 a4⟩
  | false =>
   simp only[y1u,if_false] at hmin ⊢
   refine y02 (wpAny_letGo ?_)
   rw[nm]
   exact y06 ⟨y32 PySem.F.plain_min_loop _,ih (j+1) _ H2 F2 db dk xb xk vb vk c (by omega) hlt J4 x2.dom (tk _ _ _ _ x2 htc) (SqT.same x2.same hq) (hrep.ext x2) hit2 pS.1 fI2 fS2 rb (pb.ext x2) rk (pk.ext x2) okk hmin fun s' H' F' v y a1 a2 a3 a4=>hR s' H' F' v y a1 (x2.trans a2) a3 a4⟩
end
section
variable [Tbl]
theorem zhy {X:Cx} {kf:T->Option T} (hc:X.calm=true) (hu:X.A.units+70<cLine) {l q:Addr} {xs:List V} {ds:List T} {pins:List (Addr×Obj)} {σ:L2.St} {tc:(Addr->Prop)->Hp->Prop} {dr:T}
  (tk:∀F H F' H',Ext F H F' H'->tc F H->tc F' H') (hok:∀d kd,kf d=some kd->okT kd=true)
  (hcall:∀(pins':List (Addr×Obj)) (H:Hp) (s:y04) (F:Addr->Prop) (d kd:T) (v:V) (u:Value),Inv X pins' σ H s->Dom F H->tc F H->Rep X.K F H d v->RelV v u->kf d=some kd ->
   y0u (y37 X.prog X.w) X.A.in1 (call (.ref q) [u]) (EP X pins' σ fun kv H'=>∃F',Ext F H F' H'/\Rep X.K F' H' kd kv) (fun _ _=>False) s)
  {s:y04} {H:Hp} {F:Addr->Prop} {Q:VK} (J:Inv X pins σ H s) (dom:Dom F H) (htc:tc F H) (hq:SqT X.K H l xs) (hrep:RepL X.K F H ds xs) (hm:minK kf ds=some dr)
  (hQ:∀v F' H',Ext F H F' H'->Rep X.K F' H' dr v->Q v H') :
  y0u (y37 X.prog X.w) X.A (call (.builtin "min") [.ref l] [(Str.ofString "key",.ref q)]) (EP X pins σ Q) X.xe s:=by
 have hname:(toString "min"++toString ".loop":String)="min.loop":=by decide
 cases ds with
 | nil=>cases hm
 | cons d ds =>
  obtain⟨kd,ekd,hmin⟩:=y01.mp hm
  obtain⟨its,rv,p,hz⟩:=J.tuple hq
  refine PyProof.Rows.kmk_tree PySem.F.kind_min PySem.F.plain_min PySem.F.entry_min (PyProof.Rows.kmk_min_key _ _) ?_
  show y0u _ X.A.in1 (Builtin.Builtins.bindParams "min" ["key","default"] 0 ⟨[],[(Str.ofString "key",.ref q)]⟩ >>= _) _ _ s
  refine y02 (wpAny_of_eq (show Builtin.Builtins.bindParams "min" ["key","default"] 0 ⟨[],[(Str.ofString "key",.ref q)]⟩=pure [some (.ref q),none] from rfl) ?_)
  refine y02 (y06 ?_)
  refine y02 (y2r (show s.heap.IsTuple l its.toArray from p) ?_)
  refine y02 (wpAny_newList ?_ (y23 _))
  rw[hname]
  refine y06 ⟨y32 PySem.F.plain_min_loop _,?_⟩
  generalize eI:s.heap.objs.size=I
  generalize eS:(s.heap.push { cls:=.type "tuple_iterator",data:=.fields #[.ref l,.int 0 0] }).objs.size=S
  have hS1:S=I+1:=by rw[<- eS,<- eI];exact size_push' ..
  have hIS:I≠S:=by omega
  have gI:((s.heap.push { cls:=.type "tuple_iterator",data:=.fields #[.ref l,.int 0 0] }).push (seqObj "list" #[] 0)).get? I=some { cls:=.type "tuple_iterator",data:=.fields #[.ref l,.int 0 0] }:=by
   rw[<- eI]
   exact y03 _ (y0l _ rfl)
  have gS:((s.heap.push { cls:=.type "tuple_iterator",data:=.fields #[.ref l,.int 0 0] }).push (seqObj "list" #[] 0)).get? S=some (seqObj "list" #[] 0):=by
   rw[<- eS]
   exact y0l _ rfl
  have J0:Inv X pins σ H { s with heap:=(s.heap.push { cls:=.type "tuple_iterator",data:=.fields #[.ref l,.int 0 0] }).push (seqObj "list" #[] 0) }:=J.kept (t':=s.toks) fun b u e=>y03 _ (y03 _ e)
  have fI:FpOk X pins H I:=J.fpOk (by omega) (J.hok.fresh (by omega))
  have fS:FpOk X pins H S:=J.fpOk (by omega) (J.hok.fresh (by omega))
  obtain⟨x0,hx0,px0⟩:=hrep.get (i:=0) (t:=d) rfl
  obtain⟨u0,hu0,ru0⟩:=rv.get hx0
  have it0:((s.heap.push { cls:=.type "tuple_iterator",data:=.fields #[.ref l,.int 0 0] }).push (seqObj "list" #[] 0)).IsTupleIter I l 0:=⟨_,gI,rfl,rfl⟩
  have hT0:((s.heap.push { cls:=.type "tuple_iterator",data:=.fields #[.ref l,.int 0 0] }).push (seqObj "list" #[] 0)).IsTuple l its.toArray:=by
   obtain⟨o,ho,hr⟩:=(show s.heap.IsTuple l its.toArray from p)
   exact⟨o,y03 _ (y03 _ ho),hr⟩
  refine y2t (id:="min.loop") PySem.F.entry_min_loop ?_
  rw[y1w PySem.F.plain_min_loop _]
  show y0u _ X.A.in1 (seqItems? (.ref S) >>= _) _ _ _
  refine y02 (y2q (a:=S) gS rfl ?_)
  show y0u _ X.A.in1 (tryCatch (pyNext (.ref I)) _ >>= _) _ _ _
  refine y02 (y34 (wpAny_pyNext_tuple_item it0 hT0 (x:=u0) (by simpa using hu0) fun h' hit' sb=>?_))
  have J1:=J0.turned (h':=h') (t':=s.toks) (fun b o hb e=>(sb.2 b hb).trans e) fI.1 fI.2.1 fI.2.2.2.1 fI.2.2.2.2.1 fI.2.2.2.2.2
  have hS':h'.get? S=some (seqObj "list" #[] 0):=(sb.2 S (Ne.symm hIS)).trans gS
  obtain⟨oI,hoI,cI,dI⟩:=id hit'
  have J2:Inv X ((S,seqObj "list" #[] 0)::(I,oI)::pins) σ H { s with heap:=h' }:=J1.pins_of fun p hp=>by
   rcases y09.mp hp with rfl|hp
   ·exact⟨hS',fS.1,fS.2.1,fS.2.2.1,fun v z=>by cases z⟩
   ·rcases y09.mp hp with rfl|hp
    ·exact⟨hoI,fI.1,fI.2.1,fI.2.2.1,fun v z=>by rw[dI] at z;cases z⟩
    ·exact J1.pin p (y1a _ hp)
  show y0u _ X.A.in1 (tryCatch (holding [u0] (call (.ref q) [u0])) _ >>= _) _ _ _
  refine y02 (y34 (y2k (y1d (hcall _ H _ F _ kd x0 u0 J2 dom htc px0 ru0 ekd) (fun ku s2 he=>?_) fun _ _ hF=>hF.elim)))
  obtain⟨kv,H2,J3,rkv,F2,x2,pkv⟩:=he
  have pS:=J3.pin (S,seqObj "list" #[] 0) (y1a _ (.head _))
  have pI:=J3.pin (I,oI) (y1a _ (.tail _ (.head _)))
  have J4:Inv X pins σ H2 s2:=J3.pins_of fun p hp=>J3.pin p (y1a _ (.tail _ (.tail _ hp)))
  have fI2:=FpOk.at fI pI.2.1
  have fS2:=FpOk.at fS pS.2.1
  have okd:=hok _ _ ekd
  show y0u _ X.A.in1 (updateSeq S (fun _=>#[u0,ku]) >>= _) _ _ _
  refine y02 ?_
  refine wpAny_updateSeq pS.1 rfl ?_
  rw[hname]
  refine y06 ⟨y32 PySem.F.plain_min_loop _,zjp (ds:=d::ds) hc hu hIS tk hok hcall _ 0 _ H2 F2 d kd x0 kv u0 ku _ rfl (by simp) (J4.turned (t':=s2.toks) (fun b o hb e=>(y3c _ _ (Ne.symm hb)).trans e) fS2.1 fS2.2.1 fS2.2.2.2.1 fS2.2.2.2.2.1 fS2.2.2.2.2.2) x2.dom (tk _ _ _ _ x2 htc) (SqT.same x2.same hq) (hrep.ext x2)
   ⟨oI,(y3c _ _ (Ne.symm hIS)).trans pI.1,cI,dI⟩ (get?_update_seq pS.1 fun _=>#[u0,ku]) fI2 fS2 ru0 (px0.ext x2) rkv pkv okd (by simpa using hmin) fun s' H' F' v y a1 a2 a3 a4=>⟨y,H',a1,a3,hQ y F' H' (x2.trans a2) a4⟩⟩
end
section
variable [Tbl]
theorem zkb {X:Cx} {pins:List (Addr×Obj)} {σ:L2.St} {H:Hp} {s:y04} {scope:Scope} {y:Str} (I:Inv X pins σ H s) (hnc:∀x∈scope.names,x.2≠.cell) (hlo:∀x∈scope.names,x.2=.local->x.1=y) (hy:y∉X.N) (hfr:∀x∈scope.names,x.2=.free->X.env.scope.names.lookup x.1=some .cell) :
  Caps X.N scope (clos X.env scope.names []) σ H s.heap:=by
 have hl:∀x∈scope.names,x.2=.free->∃c,X.env.cells.lookup x.1=some c:=fun x hx hf=>I.ok.has x.1 (.inl (hfr x hx hf))
 have fr:∀x c,(clos X.env scope.names []).lookup x=some c->X.env.cells.lookup x=some c:=z3x hl fun x c e=>by cases e
 refine⟨fun x y c h1 h2=>I.ok.inj x y c (fr x c h1) (fr y c h2),fun x h=>?_,fun x c h=>⟨I.cell x c (fr x c h),I.freeC x c (fr x c h)⟩,I.len,fun i x v h1 h2 h3=>?_⟩
 ·rcases h with h|h
  ·obtain⟨y,hy,e1,e2⟩:=mem_lookup h
   exact absurd e1 (hnc y hy)
  ·obtain⟨y,hy,e1,e2⟩:=mem_lookup h
   exact z47 (.inl ⟨y,hy,e1,e2⟩)
 ·have hf:scope.names.lookup x=some .free:=by
   rcases h3 with h|h|h
   ·obtain⟨z,hz,e1,e2⟩:=mem_lookup h
    have:=hlo z hz e1
    rw[e2] at this
    exact absurd (this▸y1v h1) hy
   ·obtain⟨y,hy,e1,_⟩:=mem_lookup h
    exact absurd e1 (hnc y hy)
   ·exact h
  obtain⟨y,hy,e1,e2⟩:=mem_lookup hf
  have hk:X.env.scope.names.lookup x=some .cell:=by rw[<- e2];exact hfr y hy e1
  obtain⟨m,_,hv⟩:=I.loc
  obtain⟨u,ru,lk⟩:=hv i x v h1 h2 (.inr (.inl hk))
  obtain⟨c,hc⟩:=z47 (env:=X.env) (l:=scope.names) (cs:=[]) (x:=x) (.inl ⟨y,hy,e1,e2⟩)
  refine⟨u,c,ru,hf,hc,?_⟩
  rcases lk with ⟨hk2,_⟩|⟨_,c2,hc2,hx⟩
  ·have:X.env.scope.names.lookup x=some .local:=hk2
   rw[hk] at this
   cases this
  ·rw[fr x c hc] at hc2
   cases hc2
   exact hx
theorem RelE.consI {K:y00} {F₀ O F:Addr->Prop} {E:En} {H:Hp} {ε:Ev} {σ:L2.St} {d:T} {v:V} (r:RelE K F₀ E O F H ε σ) (rd:Rep K F H d v):RelE K F₀ E O F H (some (.imm d)::ε) (some v::σ):=by
 refine⟨by simp[r.len],fun i s e=>?_,fun i j s u v1 w1 hij e1 e2 o1 o2 h1 h2=>?_,r.ent,r.o0,r.fr⟩
 ·cases i with
  | zero =>
   simp at e
   subst e
   exact⟨v,rfl,rd⟩
  | succ i=>exact r.val i s (by simpa using e)
 ·cases i with
  | zero =>
   simp at e1
   subst e1
   cases o1
  | succ i =>
   cases j with
   | zero =>
    simp at e2
    subst e2
    cases o2
   | succ j=>exact r.ne i j s u v1 w1 (by omega) (by simpa using e1) (by simpa using e2) o1 o2 (by simpa using h1) (by simpa using h2)
section
variable {P:y0q} {w:World} {K:y00} {mg:Str->Option Value} {base:Heap} {k:Nat} {q c':Addr} {N:List Str} {qual:Str} {scope:Scope} {cd:Value} {cl:List (Str×Addr)} {A:Around} {outer:List Env} {s:y04} {H:Hp} {σ:L2.St} {y:Str}
theorem zeu {h1:Heap} {tk:Nat} {m:Str->Option Value} {v:V} {u:Value} (hk:scope.kind=.function) (hd:A.handled=none) (e0:Env0 P w K mg base A outer s H) (C:Caps N scope cl σ H s.heap) (hns:h1.Ns s.heap.objs.size m) (hy:scope.names.lookup y=some .local) (hm:m y=some u) (rv:RelV v u) (kp:∀b o,s.heap.get? b=some o->h1.get? b=some o) :
  Inv (cxL P w K mg base (y::N) qual scope q cd cl A outer s H) [] (some v::σ) H { s with heap:=h1,toks:=tk }:=by
 have noA:∀b:Addr,b∉(cxL P w K mg base (y::N) qual scope q cd cl A outer s H).ex:=fun b z=>absurd (show b∈([]:List Addr) from z) (by simp)
 refine⟨⟨e0.mod,hk,rfl,rfl,y0o _,C.inj,C.has,fun y c hf _=>(by cases hf),fun _=>hd,Around.frames_deeper e0.frames,.inr ⟨rfl,rfl⟩,fun b z=>absurd z (noA b),e0.bs,e0.bsz,fun b _ _=>noA b,fun b z=>absurd z (noA b),e0.funs,e0.frf⟩,
  rfl,e0.bare,Un.kept kp,⟨m,hns,fun i x v1 h1' h2 h3=>?_⟩,fun y c h=>?_,e0.hok.fresh (y0o _),fun y c h=>(C.cel y c h).2,fun p hp=>absurd (show p∈([]:List (Addr×Obj)) from hp) (by simp),e0.hok.kept kp,by
  show (some v::σ).length=(y::N).length
  simp[C.len]⟩
 ·replace h1':(y::N)[i]?=some x:=h1'
  cases i with
  | zero =>
   have e1:y=x:=by simpa using h1'
   have e2:v=v1:=by simpa using h2
   subst e1 e2
   exact⟨u,rv,.inl ⟨hy,hm⟩⟩
  | succ i =>
   obtain⟨u,c,ru,hf,hc,hx⟩:=C.val i x v1 (by simpa using h1') (by simpa using h2) h3
   exact⟨u,ru,.inr ⟨.inr hf,c,hc,z7e hx kp⟩⟩
 ·obtain⟨⟨v,hv⟩,_⟩:=C.cel y c h
  exact⟨v,z7e hv kp⟩
theorem zh0 {params:Arguments} {body:Expr} {pm ctv:Value} {g:Fe} {Q:VK} {Ex:XK} (hk:scope.kind=.function) (hco:scope.isCoroutine=false) (hgen:scope.isGenerator=false) (hnc:∀x∈scope.names,x.2≠.cell) (hy:scope.names.lookup y=some .local)
  (hb:∀(A:Around) (outer:List Env) (s:y04) (H:Hp),Room k (A.deeper (envL qual scope s.heap.objs.size q (.ref c') cl))->PEv (cxL P w K mg base (y::N) qual scope q (.ref c') cl A outer s H) body g)
  {u:Value} {v:V} (bd:bindArgs (PySem.W.kla_fn "<lambda>" qual params body scope cl pm (.ref c') ctv) ⟨[u],[]⟩=pure [(y,u)])
  (hr:Room (k+1) A) (e0:Env0 P w K mg base A outer s H) (hq:H q=some (lamO (PySem.W.kla_obj "<lambda>" qual params body scope cl pm c' ctv) q)) (hc:H c'=some (codO c' qual)) (C:Caps N scope cl σ H s.heap) (rv:RelV v u)
  {F₀ O F:Addr->Prop} {E:En} {ε:Ev} {d t:T} (r:RelE K F₀ E O F H ε σ) (rd:Rep K F H d v) (e:g (some (.imm d)::ε)=some t) (kq:∀v F' H',Ext F H F' H'->Rep K F' H' t v->Q v H') :
  y31 (y37 P w) A (.call (.ref q) ⟨[u],[]⟩) (CR CX0 outer P w H s Q Ex) s:=by
 have nolim:s.heap.NoLimit:=e0.mod.nolimit.keeps fun b o e=>(e0.bs b o e).1
 refine PySem.W.kla_callFunE hr.depth (e0.hok q _ hq).1 rfl hco hgen rfl (e0.hok c' _ hc).1 ?_
 rw[bd]
 refine y06 (wpAny_newFunctionEnv hnc (fun x hx=>by rw[y0z.mp hx];exact hy) (fun h₁ hns hsb=>⟨nolim.fresh _ hsb,?_⟩) hk)
 have kp:∀b o,s.heap.get? b=some o->h₁.get? b=some o:=fun b o e=>hsb.extBut b o (y0y (y0c e)) (y03 _ e)
 show y31 _ _ (.expr body (envL qual scope s.heap.objs.size q (.ref c') cl)) _ _
 refine PySem.W.kla_codeExpr ?_
 have I:Inv (cxL P w K mg base (y::N) qual scope q (.ref c') cl A outer s H) [] (some v::σ) H { s with heap:=h₁,toks:=s.toks+([(y,u)]:List (Str×Value)).length }:=zeu hk hr.hd e0 C hns hy (by simp) rv kp
 refine y1d (hb A outer s H (hr.deeper _) [] _ _ H (fun v H'=>Q v H') I ⟨F₀,E,O,F,_,t,r.consI rd,e,fun v F' H' x q=>kq v F' H' x q⟩) (fun u s' hs=>?_) fun e s' hs=>(show False from hs).elim
 obtain⟨v,H',J,rv,qv⟩:=hs
 exact⟨v,H',J.os,J.bare,J.base,J.hok,rv,qv⟩
end
section
variable {M:Model} {A:Around} {E:Value->y04->Prop} {s:y04} {env:Env}
theorem zqq {pos:Pos} {id:String} {e:Expr} {rest:List Expr} {kws:List Keyword} {Q:Value->y04->Prop}
  (h:y0u M A (spliced (y2l pos (y0a (e::rest) env))) (fun vs s1=>y0u M A (evalAll ((y2o pos (y2j kws env)).map (·.2))) (fun ks s2=>y0u M A (call (.builtin id) vs (((y2o pos (y2j kws env)).filterMap (·.1)).zip ks)) Q E s2) E s1) E s)
  (he:y2l pos (y0a (e::rest) env)=(false,eval e env)::y2l pos (y0a rest env)) (hp:(y2l pos (y0a (e::rest) env)).any (·.1)=false)
  (ha:(y2o pos (y2j kws env)).all (·.1.isSome)=true) (hk:(y2o pos (y2j kws env)).any (·.1.isNone)=false) :
  y0u M A (callWith pos (.builtin id) [] (y2l pos (y0a (e::rest) env)) (y2o pos (y2j kws env))) Q E s:=by
 have hev:y0u M A (evalArgs (.builtin id) true (y2l pos (y0a (e::rest) env)) (y2o pos (y2j kws env))) (fun a s1=>y0u M A (call (.builtin id) ([]++a.pos) a.kw) Q E s1) E s:=by
  rw[he] at h ⊢
  exact evalArgs_kwB ha h
 unfold callWith
 refine y02 (y2k (y1d hev (fun a s1 g1=>y02 (wpAny_standAt ?_)) fun _ _ x=>x))
 simp only[hp,hk,Bool.or_false]
 refine y02 (y06 (y02 (y1d g1 (fun r s2 hr=>?_) fun _ _ x=>x)))
 exact y02 (y2k (wpAny_point (y06 hr)))
end
def keyE (g:Fe) (ε:Ev):T->Option T:=fun d=>(g (some (.imm d)::ε)).bind fun kd=>if okT kd=true then some kd else none
def zjq (f g:Fe):Fe:=fun ε=>(f ε).bind fun t=>match t with
 | .tuple ds=>minK (keyE g ε) ds
 | _=>none
theorem zo3 {X:Cx} {k:Nat} {e:Expr} {f g:Fe} {params:Arguments} {body:Expr} {scope:Scope} {lpos kpos p pos:Pos} {c Pt:Addr} {qn y:Str}
  (he:PEv X e f) (hm:X.mg "min"=none) (hcode:X.env.code=.ref c) (hcd:y3a X.K c Pt=true) (hbm:BM X.mg X.base) (htb:(Pt,qn)∈Tbl.tb) (hun:∀p∈Tbl.tb,p.1=Pt->p.2=qn) (hr:Room (k+2) X.A)
  (hb:∀(q c':Addr) (cl:List (Str×Addr)) (A:Around) (outer:List Env) (s:y04) (H:Hp),Room k (A.deeper (envL (X.env.qual++"<lambda>") scope s.heap.objs.size q (.ref c') cl))->PEv (cxL X.prog X.w X.K X.mg X.base (y::X.N) (X.env.qual++"<lambda>") scope q (.ref c') cl A outer s H) body g)
  (hc:X.calm=true:=by rfl)
  (hsc:(decide (scope.kind=.function) && !scope.isCoroutine && !scope.isGenerator && decide (scope.names.lookup y=some .local) && decide (y∉X.N) && scope.names.all fun z=>decide (z.2≠.cell) && (decide (z.2≠.local) || decide (z.1=y)))=true:=by rfl)
  (hfr:(scope.names.all fun y=>decide (y.2≠.free) || decide (X.env.scope.names.lookup y.1=some .cell))=true:=by rfl)
  (bdl:∀(cl:List (Str×Addr)) (pm:Value) (c':Addr) (ctv u:Value),bindArgs (PySem.W.kla_fn "<lambda>" (X.env.qual++"<lambda>") params body scope cl pm (.ref c') ctv) ⟨[u],[]⟩=pure [(y,u)]:=by intros;rfl)
  (hg:Gl X "min":=by rfl) (hdef:defaultsOf params X.env=([],[]):=by rfl)
  (h1:y2l pos (y0a [e] X.env)=(false,eval e X.env)::y2l pos (y0a [] X.env):=by rfl) (h2:(y2l pos (y0a [e] X.env)).any (·.1)=false:=by rfl)
  (h3:(y2o pos (y2j [⟨some "key",.Lambda params body scope lpos,kpos⟩] X.env)).all (·.1.isSome)=true:=by rfl) (h4:(y2o pos (y2j [⟨some "key",.Lambda params body scope lpos,kpos⟩] X.env)).any (·.1.isNone)=false:=by rfl)
  (h5:y0a [e] X.env=(false,eval e X.env)::y0a [] X.env:=by rfl)
  (h6:(y2o pos (y2j [⟨some "key",.Lambda params body scope lpos,kpos⟩] X.env)).map (·.2)=[(do let v <- eval (.Lambda params body scope lpos) X.env;standAt pos;pure v)]:=by rfl)
  (h7:(y2o pos (y2j [⟨some "key",.Lambda params body scope lpos,kpos⟩] X.env)).filterMap (·.1)=[Str.ofString "key"]:=by rfl)
  (hqn:X.env.qual++"<lambda>"=qn:=by rfl) :
  PEv X (.Call (.Name "min" p) [e] [⟨some "key",.Lambda params body scope lpos,kpos⟩] pos) (zjq f g):=by
 subst hqn
 simp only[y1b,Bool.or_eq_true,Bool.not_eq_true',decide_eq_true_eq,List.all_eq_true] at hsc
 obtain⟨⟨⟨⟨⟨hk,hco⟩,hgen⟩,hyl⟩,hyN⟩,hnl⟩:=hsc
 have hnc:∀x∈scope.names,x.2≠.cell:=fun x hx=>(hnl x hx).1
 have hlo:∀x∈scope.names,x.2=.local->x.1=y:=fun x hx hl=>by
  rcases (hnl x hx).2 with z|z
  ·exact absurd hl z
  ·exact z
 simp only[List.all_eq_true,Bool.or_eq_true,decide_eq_true_eq] at hfr
 have hfr':∀y∈scope.names,y.2=.free->X.env.scope.names.lookup y.1=some .cell:=fun y hy hf=>by
  rcases hfr y hy with z|z
  ·exact absurd hf z
  ·exact z
 intro pins s σ H Q I ⟨F₀,E,O,F,ε,t,rl,e1,kk⟩
 simp only[zjq,y01] at e1
 obtain⟨t0,ef,e1⟩:=e1
 have Chd:=PySem.W.codeHd_of_K I.ok.mod.kin hcd
 refine wpAny_Call_Name_kw (z8l I hg hm (u:=.builtin "min") (by decide +kernel) ?_)
 refine zqq ?_ h1 h2 h3 h4
 have ha:PA X [e] (znp (tV X.K f) tNil):=z1w he z2y h5
 refine thn (ha pos pins s σ H (fun vs H1=>∃v F1,vs=[v]/\Ext F H F1 H1/\Rep X.K F1 H1 t0 v) I ⟨F₀,E,O,F,ε,t0,rl,ef,fun v F' H' x q=>⟨v,F',rfl,x,q⟩⟩) fun us s1 ⟨vs,H1,I1,r1,v,F1,ev,x1,rv⟩=>?_
 subst ev
 cases r1 with
 | cons ru rr =>
 cases rr
 rw[h6]
 refine wpAny_evalAll_cons (y02 ?_)
 have hl:∀x∈scope.names,x.2=.free->∃c,X.env.cells.lookup x.1=some c:=fun x hx hf=>I1.ok.has x.1 (.inl (hfr' x hx hf))
 have rl1:=rl.ext x1
 refine zjv I1 hcode Chd hbm hdef (z5b hl) rl1.dom.tgs htb hun fun q c' ctv H2 s2 I2 sm tb1 hqn hq hc'=>?_
 refine y02 (wpAny_standAt (y06 (wpAny_evalAll_nil ?_)))
 rw[h7]
 have x2:Ext F1 H1 F1 H2:=⟨sm,fun _ h=>h,fun _ h=>.inl h,⟨fun a ha=>by
  obtain⟨o,ho⟩:=rl1.dom.dm a ha
  exact sm.ne ho,tb1⟩⟩
 have rl2:=rl1.ext x2
 have rv2:=rv.ext x2
 split at e1
 next ds =>
  simp only[Rep] at rv2
  obtain⟨l,xs,ev,hsq,hrep⟩:=rv2
  subst ev
  cases ru
  have hu:=hr.un
  refine zhy (tc:=fun F H=>RelE X.K F₀ E O F H ε σ/\H q=some (lamO (PySem.W.kla_obj "<lambda>" (X.env.qual++"<lambda>") params body scope (clos X.env scope.names []) ((X.mg "__name__").getD .none) c' ctv) q)/\H c'=some (codO c' (X.env.qual++"<lambda>"))) (kf:=keyE g ε) hc (by omega)
   (fun F H F' H' x ⟨a1,a2,a3⟩=>⟨a1.ext x,x.same.get a2,x.same.get a3⟩) (fun d kd ek=>?_) (fun pins' H3 s3 F3 d kd v3 u3 I3 dom3 ht3 rd3 ru3 ek=>?_) I2 x2.dom ⟨rl2,hq,hc'⟩ hsq hrep e1 fun v F' H' x q=>kk v F' H' ((x1.trans x2).trans x) q
  ·obtain⟨k0,_,e2⟩:=y01.mp ek
   split at e2
   next hh=>cases e2;exact hh
   next=>cases e2
  ·obtain⟨k0,eg,e2⟩:=y01.mp ek
   split at e2
   next hh =>
    cases e2
    refine wpAny_call (y2v (zh0 (Q:=fun kv H'=>∃F',Ext F3 H3 F' H'/\Rep X.K F' H' kd kv) (Ex:=E0) hk hco hgen hnc hyl (hb q c' _) (bdl _ _ _ _ _) hr.in1 I3.env0.in1 ht3.2.1 ht3.2.2 (zkb I3 hnc hlo hyN hfr') ru3 ht3.1 rd3 eg fun v F' H' x q=>⟨F',x,q⟩) fun r s' hq=>?_)
    cases r with
    | error e=>exact y1y hq
    | ok fl =>
     cases fl with
     | ret u=>exact I3.after hq
     | next=>exact y1y hq
     | brk=>exact y1y hq
     | cont=>exact y1y hq
   next=>cases e2
 next=>cases e1
theorem zpn {P:y0q} {w:World} {K:y00} {mg:Str->Option Value} {base:Heap} {x:Str} {st:Stmt} {f:Addr} {oc:Value} {od an:Option Addr} {osl:Array (Option Value)} {kV doc pm cdv ct:Value} {N ps:List Str} {k:Nat} {b:Fs}
  (l:K.lookup f=some ⟨oc,od,.func (y0i x x (z0k st) (z0g st) (z01 st) .none kV doc pm an cdv ct),osl⟩) (hcd:y0f K cdv x=true) (S:FnScope N ps (z01 st))
  (bd:∀fd,Fun K x x st f fd->Binds K fd ps []) (m:mg x=some (.ref f)) (kp:y08 K (.ref f)=true)
  (hb:∀(A:Around) (outer:List Env) (s:y04) (H:Hp) (E:XK),Room k (A.deeper (envOfC x (z01 st) s.heap.objs.size f cdv)) ->
   PBt (cxOf CX0 P w K mg base N x (z01 st) f cdv A outer s H E).nox (z0g st) b):Cl P w K mg base x (k+1) ps.length (runF b N.length) :=
 .mk' (zn3 l hcd S hb) m kp (bd _ (z1v (st:=st) l hcd kp))
end
end D
end
section

end
section
namespace Ho
open D
noncomputable def z6f:Fs :=
  (seq (iff (tstB (op2 oEq (op2 oIx (nm 0) (cst (.int 0))) (nm 1))) (rtn (op2 oIx (nm 0) (cst (.int 1)))) skip)
  (seq (iff (tstB (op2 oEq (op2 oIx (nm 0) (cst (.int 1))) (nm 1))) (rtn (op2 oIx (nm 0) (cst (.int 0)))) skip)
  (rtn (cst .none))))
def z0z:List T->Option T:=runF z6f 2
noncomputable def z9t:Fs :=
  (seq (asg 2 (comp 1 [1] (z0d (op2 oIx (nm 0) (cst (.int 1)))) (gNm 0) (orT (tstB (op1 oIsN (op2 oIx (nm 0) (cst (.int 2))))) (tstB (op2 (oIn false) (op2 oIx (nm 0) (cst (.int 2))) (nm 1)))) (nmV 0)))
  (seq (dNew 3 (cst (.int 0)) (cst (.bool true)))
  (seq (asgN 4 (z12 [(cst (.int 0))]))
  (seq (whl (tstL (nm 4)) (seq (pop 5 4)
  (for_ (z0d (nmV 2)) (gNm 6)
  (seq (asg 7 (opN z0z [(nmV 6),(nmV 5)]))
  (iff (andT (tstB (op1 z17 (nm 7))) (tstB (dIn true (nm 7) 3))) (seq (dPut 3 (nm 7) (cst (.bool true)))
  (app 4 (nmV 7))) skip)))) 1000)
  (rtn (opN z57 [(z7o 3)]))))))
def z0v:List T->Option T:=runF z9t 8
noncomputable def z5g (rec:List T->Option T):Fs :=
  (seq (iff (tstB (op2 oEq (op2 oIx (nm 2) (op1 oNeg (cst (.int 1)))) (nm 1))) (rtn (z12 [(z06 [])])) skip)
  (seq (asgN 3 (z12 []))
  (seq (for_ (z1r (z5o (op2 oIx (nm 0) (cst (.int 1))))) (gTu [(gNm 4),(gNm 5)])
  (seq (asg 6 (opN z0z [(nmV 5),(op2 oIx (nm 2) (op1 oNeg (cst (.int 1))))]))
  (iff (andT (tstB (op1 z17 (nm 6))) (tstB (op2 (oIn true) (nm 6) (nm 2)))) (ext 3 (comp 1 [4] (z0d (opN rec [(nmV 0),(nmV 1),(op2 oAdd (nm 2) (z06 [(nmV 6)]))])) (gNm 0) (cstT true) (op2 oAdd (z06 [(nmV 1)]) (nm 0)))) skip)))
  (rtn (nm 3)))))
def z1d:Nat->List T->Option T
 | 0=>fun _=>none
 | n+1=>runF (z5g (z1d n)) 7
def zi9:Fs :=
  (rtn (opN z57 [(opN (z1d 20) [(nmV 0),(nmV 1),(z06 [(cst (.int 0))])])]))
def z1e:List T->Option T:=runF zi9 2
def z4x:Fs :=
  (seq (iff (tstB (op2 oLt (nm 1) (opN oLen [(nm 0)]))) (rtn (op2 oIx (nm 0) (nm 1))) skip)
  (rtn (cst (.int 0))))
def z1j:List T->Option T:=runF z4x 2
noncomputable def z7u:Fs :=
  (seq (asg 2 (op2 oMod (op2 oMul (op2 oAdd (op2 oAdd (opN z1j [(nmV 0),(nmV 1)]) (op2 oMul (cst (.int 7919)) (nm 1))) (cst (.int 1))) (cst (.int 48271))) (cst (.int 2147483647))))
  (rtn (op2 oMod (op2 oAdd (op2 oAdd (op2 oMul (nm 2) (nm 2)) (op2 oMul (cst (.int 7)) (nm 2))) (nm 1)) (cst (.int 2147483629)))))
def z22:List T->Option T:=runF z7u 3
noncomputable def z7w:Fs :=
  (seq (asg 2 (op2 oMod (op2 oMul (op2 oAdd (op2 oAdd (nm 0) (op2 oMul (cst (.int 104729)) (nm 1))) (cst (.int 17))) (cst (.int 69621))) (cst (.int 2147483647))))
  (rtn (op2 oMod (op2 oAdd (op2 oAdd (op2 oMul (nm 2) (nm 2)) (op2 oMul (cst (.int 3)) (nm 2))) (nm 1)) (cst (.int 2147483629)))))
def z2j:List T->Option T:=runF z7w 3
noncomputable def z7v:Fs :=
  (seq (asg 1 (op2 oAdd (cst (.int 1)) (op2 oMod (nm 0) (cst (.int 7)))))
  (seq (asg 2 (z06 []))
  (seq (for_ (z3f (op2 oMod (op2 oDiv (nm 0) (cst (.int 8))) (cst (.int 11)))) (gNm 3)
  (seq (asg 4 (op2 oDiv (opN z2j [(nmV 0),(op2 oAdd (cst (.int 50)) (nm 3))]) (cst (.int 4))))
  (seq (asg 5 (op2 oMod (nm 4) (op2 oAdd (nm 1) (cst (.int 1)))))
  (seq (asg 6 (op2 oMod (op2 oAdd (op2 oAdd (nm 5) (cst (.int 1))) (op2 oMod (op2 oDiv (nm 4) (cst (.int 8))) (nm 1))) (op2 oAdd (nm 1) (cst (.int 1)))))
  (seq (asg 7 (op2 oIx (z06 [(cst .none),(cst .none),(cst (.str "a")),(cst (.str "b")),(cst (.str "back")),(cst (.str "hall")),(cst (.str "win"))]) (op2 oMod (op2 oDiv (nm 4) (cst (.int 64))) (cst (.int 7)))))
  (asg 2 (op2 oAdd (nm 2) (z06 [(z06 [(opN oMin [(nm 5),(nm 6)]),(opN oMax [(nm 5),(nm 6)]),(nmV 7)])]))))))))
  (rtn (z06 [(nmV 1),(nmV 2)])))))
def z3w:List T->Option T:=runF z7v 8
end Ho
end
section
namespace Wo
open D Ho
noncomputable def z3c (rec:List T->Option T):Fs :=
  (seq (iff (notT (tstL (nm 0))) (rtn (z06 [])) skip)
  (seq (iff (tstB (op2 oEq (nm 2) (cst (.int 0)))) (rtn (cst .none)) skip)
  (seq (for_ (z1r (z5o (nmV 1))) (gTu [(gNm 3),(gNm 4)])
  (seq (asg 5 (comp 1 [4] (z0d (nmV 0)) (gNm 0) (tstB (op2 (oIn true) (nm 1) (nm 0))) (nmV 0)))
  (iff (tstB (op2 oLt (opN oLen [(nm 5)]) (opN oLen [(nm 0)]))) (seq (asg 6 (opN rec [(nmV 5),(slice (nm 1) (opt (op2 oAdd (nm 3) (cst (.int 1)))) optN),(op2 oSub (nm 2) (cst (.int 1)))]))
  (iff (tstB (op1 z17 (nm 6))) (rtn (op2 oAdd (z06 [(nmV 4)]) (nm 6))) skip)) skip)))
  (rtn (cst .none)))))
def z1s:Nat->List T->Option T
 | 0=>fun _=>none
 | n+1=>runF (z3c (z1s n)) 7
noncomputable def z6e:Fs :=
  (seq (asg 2 (opN z1e [(nmV 0),(nmV 1)]))
  (seq (asg 3 (opN z25 [(opN oLen [(op2 oIx (nm 0) (cst (.int 1)))])]))
  (seq (for_ (z3f (op2 oAdd (opN oLen [(nm 3)]) (cst (.int 1)))) (gNm 4)
  (seq (asg 5 (opN (z1s 20) [(nmV 2),(nmV 3),(nmV 4)]))
  (iff (tstB (op1 z17 (nm 5))) (rtn (nm 5)) skip)))
  (rtn (z06 [])))))
def z1t:List T->Option T:=runF z6e 6
def z4y:Fs :=
  (rtn (notV (opN oAny [(comp 1 [1] (z0d (nmV 0)) (gNm 0) (cstT true) (op2 (oIn false) (nm 0) (nm 1)))])))
def z0r:List T->Option T:=runF z4y 2
noncomputable def z10 (rec:List T->Option T):Fs :=
  (seq (iff (tstB (op2 oEq (nm 1) (cst (.int 0)))) (rtn (z06 [])) skip)
  (seq (for_ (z1r (z0d (nmV 0))) (gTu [(gNm 2),(gNm 3)])
  (seq (asg 4 (comp 1 [3] (z0d (slice (nm 0) (opt (op2 oAdd (nm 2) (cst (.int 1)))) optN)) (gNm 0) (tstB (opN z0r [(nmV 1),(nmV 0)])) (nmV 0)))
  (seq (asg 5 (opN rec [(nmV 4),(op2 oSub (nm 1) (cst (.int 1)))]))
  (iff (tstB (op1 z17 (nm 5))) (rtn (op2 oAdd (z06 [(nmV 3)]) (nm 5))) skip))))
  (rtn (cst .none))))
def z0e:Nat->List T->Option T
 | 0=>fun _=>none
 | n+1=>runF (z10 (z0e n)) 6
def zck:Fs :=
  (rtn (opN (z0e 20) [(opN z1e [(nmV 0),(nmV 1)]),(opN oLen [(opN z1t [(nmV 0),(nmV 1)])])]))
def z5r:List T->Option T:=runF zck 2
end Wo
end
section
namespace Qo
open D Ho Wo
def z2b:Fs :=
  (seq (asg 2 (opN z1e [(nmV 0),(nmV 1)]))
  (seq (iff (notT (tstL (nm 2))) never skip)
  (rtn (nm 2))))
def z18:List T->Option T:=runF z2b 3
def z49:Fs :=
  (rtn (zjq (opN z18 [(nmV 0),(nmV 1)]) (z06 [(opN oLen [(nm 0)]),(nmV 0)])))
def z31:List T->Option T:=runF z49 2
end Qo
end
section
namespace K22
open D Ho Wo Qo
noncomputable def z4w:Fs :=
  (seq (asg 2 (z06 []))
  (seq (for_ (z1r (z5o (op2 oIx (nm 0) (cst (.int 1))))) (gTu [(gNm 3),(gTu [(gNm 4),(gNm 5),(gNm 6)])])
  (asg 2 (op2 oAdd (nm 2) (z06 [(z06 [(nmV 4),(nmV 5),(op2 oIx (z12 [(cst .none),(cst (.str "z"))]) (opN oInt [(op2 (oIn false) (nm 3) (nm 1))]))])]))))
  (rtn (z06 [(op2 oIx (nm 0) (cst (.int 0))),(nmV 2)]))))
def z0n:List T->Option T:=runF z4w 7
noncomputable def znc:Fs :=
  (seq (asg 1 (opN z3w [(opN z22 [(nmV 0),(cst (.int 0))])]))
  (seq (asg 2 (op2 oAdd (cst (.int 1)) (op2 oMod (opN z22 [(nmV 0),(cst (.int 1))]) (op2 oIx (nm 1) (cst (.int 0))))))
  (seq (asg 3 (opN z1e [(nmV 1),(nmV 2)]))
  (seq (asg 4 (opN z1t [(nmV 1),(nmV 2)]))
  (seq (asg 5 (opN z5r [(nmV 1),(nmV 2)]))
  (seq (iff (orT (tstB (op2 oNe (opN oLen [(nm 4)]) (opN oLen [(nm 5)]))) (orT (tstB (op2 oNe (opN z80 [(nm 4)]) (opN z1i [(nm 4)]))) (tstB (op2 oNe (opN z80 [(nm 5)]) (opN z1x [(nm 5)]))))) (rtn (cst (.bool false))) skip)
  (seq (asg 6 (z12 []))
  (seq (for_ (z0d (nmV 5)) (gNm 7)
  (seq (iff (orT (tstB (op2 (oIn true) (nm 7) (nm 3))) (tstB (op2 oNe (opN oLen [(comp 1 [4] (z0d (nmV 7)) (gNm 0) (tstB (op2 (oIn false) (nm 0) (nm 1))) (nmV 0))]) (cst (.int 1))))) (rtn (cst (.bool false))) skip)
  (asg 6 (op2 oAdd (nm 6) (opN z80 [(nm 7)])))))
  (seq (iff (tstB (op2 oNe (opN z44 [(nm 6)]) (opN oLen [(nm 6)]))) (rtn (cst (.bool false))) skip)
  (seq (iff (tstB (op2 oNe (comp 1 [4] (z0d (nmV 3)) (gNm 0) (tstB (op2 oEq (comp 1 [1] (z0d (nmV 0)) (gNm 0) (tstB (op2 (oIn false) (nm 0) (nm 1))) (nmV 0)) (z12 []))) (nmV 0)) (z12 []))) (rtn (cst (.bool false))) skip)
  (seq (asg 8 (opN z0n [(nmV 1),(nmV 4)]))
  (seq (iff (orT (tstB (op2 (oIn false) (nm 2) (opN z0v [(nmV 8),(z06 [])]))) (tstB (op2 oNe (op2 (oIn false) (nm 2) (opN z0v [(nmV 8),(z06 [(cst (.str "z"))])])) (op2 oNe (nm 3) (z06 []))))) (rtn (cst (.bool false))) skip)
  (seq (for_ (z0d (nmV 4)) (gNm 9)
  (seq (asg 10 (comp 1 [9] (z0d (nmV 4)) (gNm 0) (tstB (op2 oNe (nm 0) (nm 1))) (nmV 0)))
  (iff (tstB (op2 (oIn true) (nm 2) (opN z0v [(opN z0n [(nmV 1),(nmV 10)]),(z06 [])]))) (rtn (cst (.bool false))) skip)))
  (seq (asg 11 (opN z25 [(opN oLen [(op2 oIx (nm 1) (cst (.int 1)))])]))
  (seq (iff (tstB (op2 oNe (opN z0v [(opN z0n [(nmV 1),(nmV 11)]),(z06 [])]) (z06 [(cst (.int 0))]))) (rtn (cst (.bool false))) skip)
  (seq (iff (tstB (op2 oEq (nm 3) (z06 []))) (rtn (andV (op2 oEq (nm 4) (z06 [])) (op2 oEq (nm 5) (z06 [])))) skip)
  (seq (asg 7 (opN z31 [(nmV 1),(nmV 2)]))
  (seq (iff (tstB (op2 (oIn true) (nm 2) (opN z0v [(opN z0n [(nmV 1),(z06 [])]),(z06 [])]))) (rtn (cst (.bool false))) skip)
  (rtn (andV (op2 (oIn false) (nm 7) (nm 3)) (op2 oEq (comp 1 [7] (z0d (nmV 3)) (gNm 0) (tstB (op2 oLt (opN oLen [(nm 0)]) (opN oLen [(nm 1)]))) (nmV 0)) (z12 []))))))))))))))))))))))
def zf0:List T->Option T:=runF znc 12
end K22
end
section
namespace K22
open PySem PySem.Spec PyProof.Rows L2 D Ho Wo Qo
variable [Tbl]
def top (i:Nat):Stmt:=PySem.Challenge.pw_doorwatch_k22_whole_few_openings.main.body.getD i (.Pass ⟨0,0,0,0⟩)
section
variable {P:y0q} {w:World} {K:y00} {mg:Str->Option Value} {base:Heap}
abbrev z2f:Stmt:=top 20
theorem z8c:FnScope ["_law_number","_law_k","_law_drawn_here"] ["_law_number","_law_k"] (z01 z2f):=⟨rfl,rfl,rfl,by decide +kernel,rfl,by decide +kernel,by decide +kernel⟩
theorem zf8 {K:y00} {f:Addr} {fd:y0b} (F:Fun K "_law_drawn" "_law_drawn" z2f f fd):Binds K fd ["_law_number","_law_k"] []:=F.binds (ps:=["_law_number","_law_k"]) fun _ _ _ _ _ _ us hl=>match us,hl with|[_,_],_=>rfl
theorem z7t {k:Nat} {f:Addr} {fd:y0b} (F:Fun K "_law_drawn" "_law_drawn" z2f f fd) (m:mg "_law_drawn"=some (.ref f)) :Cl P w K mg base "_law_drawn" (k+1) 2 z2j :=
 z4u F z8c (zf8 F) m fun cdv A outer s H E hr =>
  (z07 (z1q 2 z8c.nd (z6v (v2r (zai (v2r (z24 (v2r (z24 (q_nm 0) (v2r (zai (v2r z0l) (q_nm 1))))) (v2r z0l))) (v2r z0l))) (v2r z0l)))
  (z0o (z1b (z6v (v2r (z24 (v2r (z24 (v2r (zai (q_nm 2) (q_nm 2))) (v2r (zai (v2r z0l) (q_nm 2))))) (q_nm 1))) (v2r z0l)))))
abbrev z2e:Stmt:=top 21
theorem z15:FnScope ["_law_number","_law_rooms","_law_openings","_law_k","_law_drawn_here","_law_one","_law_other","_law_zone"] ["_law_number"] (z01 z2e):=⟨rfl,rfl,rfl,by decide +kernel,rfl,by decide +kernel,by decide +kernel⟩
theorem zf7 {K:y00} {f:Addr} {fd:y0b} (F:Fun K "_law_house" "_law_house" z2e f fd):Binds K fd ["_law_number"] []:=F.binds (ps:=["_law_number"]) fun _ _ _ _ _ _ us hl=>match us,hl with|[_],_=>rfl
theorem z7s {k:Nat} {f:Addr} {fd:y0b} (F:Fun K "_law_house" "_law_house" z2e f fd) (m:mg "_law_house"=some (.ref f)) (z_range:mg "range"=none) (z7t:Cl P w K mg base "_law_drawn" k 2 z2j) (z_min:mg "min"=none) (z_max:mg "max"=none):Cl P w K mg base "_law_house" (k+1) 1 z3w :=
 z4u F z15 (zf7 F) m fun cdv A outer s H E hr =>
  (z07 (z1q 1 z15.nd (z24 (v2r z0l) (v2r (z6v (q_nm 0) (v2r z0l)))))
  (z07 (z1q 2 z15.nd (z1o z04))
  (z07 (z99 y25 (zl6 z_range (v2r (z6v (v2r (zj2 (q_nm 0) (v2r z0l))) (v2r z0l)))) (g_nm 3 z15.nd)
  (z07 (z1q 4 z15.nd (zj2 (v2r (z0c z7t hr (z00 (z09 0) (z00 (z24 (v2r z0l) (q_nm 3)) z04)))) (v2r z0l)))
  (z07 (z1q 5 z15.nd (z6v (q_nm 4) (v2r (z24 (q_nm 1) (v2r z0l)))))
  (z07 (z1q 6 z15.nd (z6v (v2r (z24 (v2r (z24 (q_nm 5) (v2r z0l))) (v2r (z6v (v2r (zj2 (q_nm 4) (v2r z0l))) (q_nm 1))))) (v2r (z24 (q_nm 1) (v2r z0l)))))
  (z07 (z1q 7 z15.nd (q_ix (v2r (z1o (z00 zbv (z00 zbv (z00 zbu (z00 zbu (z00 zbu (z00 zbu (z00 zbu z04))))))))) (v2r (z6v (v2r (zj2 (q_nm 4) (v2r z0l))) (v2r z0l)))))
  (z0o (z1q 2 z15.nd (z24 (q_nm 2) (v2r (z1o (z00 (z1o (z00 (zqa z_min (z0j (q_nm 5) (z0j (q_nm 6) z0x))) (z00 (zqb z_max (z0j (q_nm 5) (z0j (q_nm 6) z0x))) (z00 (z09 7) z04)))) z04)))))))))))
  (z0o (z1b (z1o (z00 (z09 1) (z00 (z09 2) z04))))))))
abbrev z36:Stmt:=top 5
theorem zfu:FnScope ["opening","here"] ["opening","here"] (z01 z36):=⟨rfl,rfl,rfl,by decide +kernel,rfl,by decide +kernel,by decide +kernel⟩
theorem zi8 {K:y00} {f:Addr} {fd:y0b} (F:Fun K "beyond" "beyond" z36 f fd):Binds K fd ["opening","here"] []:=F.binds (ps:=["opening","here"]) fun _ _ _ _ _ _ us hl=>match us,hl with|[_,_],_=>rfl
theorem z2t {k:Nat} {f:Addr} {fd:y0b} (F:Fun K "beyond" "beyond" z36 f fd) (m:mg "beyond"=some (.ref f)) :Cl P w K mg base "beyond" (k+1) 2 z0z :=
 z4u F zfu (zi8 F) m fun cdv A outer s H E hr =>
  (z07 (s_if (z1u (z4d (by exact hr.units)) z4f (v2r (q_ix (q_nm 0) (v2r z0l))) (q_nm 1)) (z0o (z1b (q_ix (q_nm 0) (v2r z0l)))) z2k)
  (z07 (s_if (z1u (z4d (by exact hr.units)) z4f (v2r (q_ix (q_nm 0) (v2r z0l))) (q_nm 1)) (z0o (z1b (q_ix (q_nm 0) (v2r z0l)))) z2k)
  (z0o (z1b zbv))))
abbrev z1p:Stmt:=top 7
theorem z2x:FnScope ["house","room","places","found","number","opening","there"] ["house","room","places"] (z01 z1p):=⟨rfl,rfl,rfl,by decide +kernel,rfl,by decide +kernel,by decide +kernel⟩
theorem z8v {K:y00} {f:Addr} {fd:y0b} (F:Fun K "ways_on" "ways_on" z1p f fd):Binds K fd ["house","room","places"] []:=F.binds (ps:=["house","room","places"]) fun _ _ _ _ _ _ us hl=>match us,hl with|[_,_,_],_=>rfl
theorem zf5 {d:List T->Option T} {k:Nat} {f:Addr} {fd:y0b} (F:Fun K "ways_on" "ways_on" z1p f fd) (m:mg "ways_on"=some (.ref f)) (z32:Cl P w K mg base "ways_on" k 3 d) (z_enumerate:mg "enumerate"=none) (z2t:Cl P w K mg base "beyond" k 2 z0z):Cl P w K mg base "ways_on" (k+1) 3 (runF (z5g d) 7) :=
 z4u F z2x (z8v F) m fun cdv A outer s H E hr =>
  (z07 (s_if (z1u (z4d (by exact hr.units)) z4f (v2r (q_ix (q_nm 2) (v2r (zo2 (v2r z0l))))) (q_nm 1)) (z0o (z1b (z8i (z00 (z1o z04) z04)))) z2k)
  (z07 (zko 3 z2x.nd (zlz z04))
  (z07 (z99 y25 (zhe z_enumerate (q_ix (q_nm 0) (v2r z0l))) (zhg (z3u (g_nm 4 z2x.nd) (z3u (g_nm 5 z2x.nd) zhh)))
  (z07 (z1q 6 z2x.nd (z0c z2t hr (z00 (z09 5) (z00 (q_ix (q_nm 2) (v2r (zo2 (v2r z0l)))) z04))))
  (z0o (s_if (w_t (w_and (za2 (q_nm 6)) (zkk (z1u (z3p (by exact hr.units)) z2z (q_nm 6) (q_nm 2))))) (z0o (zq3 3 (v2r (z5k (own:=["rest"]) (caps:=[(4,"number")]) (z5a (sc:=z01 z1p) ["house","room","places","found","number","opening","there"] rfl rfl rfl (by decide +kernel)) (z5p (z0c z32 hr (z00 (z09 0) (z00 (z09 1) (z00 (z24 (q_nm 2) (v2r (z1o (z00 (z09 6) z04)))) z04))))) (fun _ _ _ _ _ _=>(g_nm 0 (show y1q (["rest","number"]:List Str) by decide +kernel))) (fun _ _ _ _ _ _=>zkm) (fun _ _ _ _ _ _=>(z24 (v2r (z1o (z00 (z09 1) z04))) (q_nm 0))))))) z2k))))
  (z0o (zfv 3)))))
theorem z32 {k:Nat} {f:Addr} {fd:y0b} (F:Fun K "ways_on" "ways_on" z1p f fd) (m:mg "ways_on"=some (.ref f)) (z_enumerate:mg "enumerate"=none) (z2t:Cl P w K mg base "beyond" k 2 z0z):∀n,Cl P w K mg base "ways_on" (k+n) 3 (z1d n)
 | 0=>.mk' z7l m F.kp (z8v F)
 | n+1=>zf5 F m (z32 F m z_enumerate z2t  n) z_enumerate (z2t.mono (y3b _ _))
abbrev z6s:Stmt:=top 8
theorem zlt:FnScope ["house","room"] ["house","room"] (z01 z6s):=⟨rfl,rfl,rfl,by decide +kernel,rfl,by decide +kernel,by decide +kernel⟩
theorem znb {K:y00} {f:Addr} {fd:y0b} (F:Fun K "ways" "ways" z6s f fd):Binds K fd ["house","room"] []:=F.binds (ps:=["house","room"]) fun _ _ _ _ _ _ us hl=>match us,hl with|[_,_],_=>rfl
theorem z5c {k:Nat} {f:Addr} {fd:y0b} (F:Fun K "ways" "ways" z6s f fd) (m:mg "ways"=some (.ref f)) (z_tuple:mg "tuple"=none) (z32:Cl P w K mg base "ways_on" k 3 (z1d 20)) {t_OUTSIDE:Tok} (g_OUTSIDE:mg "OUTSIDE"=some (.int 0 t_OUTSIDE)):Cl P w K mg base "ways" (k+1) 2 z1e :=
 z4u F zlt (znb F) m fun cdv A outer s H E hr =>
  (z0o (z1b (zg3 z_tuple (z0j (v2r (z0c z32 hr (z00 (z09 0) (z00 (z09 1) (z00 (z1o (z00 (q_gI g_OUTSIDE) z04)) z04))))) z0x))))
abbrev z34:Stmt:=top 10
theorem z53:FnScope ["through","numbers","many","place","number","others","behind"] ["through","numbers","many"] (z01 z34):=⟨rfl,rfl,rfl,by decide +kernel,rfl,by decide +kernel,by decide +kernel⟩
theorem ze7 {K:y00} {f:Addr} {fd:y0b} (F:Fun K "stops" "stops" z34 f fd):Binds K fd ["through","numbers","many"] []:=F.binds (ps:=["through","numbers","many"]) fun _ _ _ _ _ _ us hl=>match us,hl with|[_,_,_],_=>rfl
theorem zkd {d:List T->Option T} {k:Nat} {f:Addr} {fd:y0b} (F:Fun K "stops" "stops" z34 f fd) (m:mg "stops"=some (.ref f)) (z5t:Cl P w K mg base "stops" k 3 d) (z_enumerate:mg "enumerate"=none) (z_len:mg "len"=none):Cl P w K mg base "stops" (k+1) 3 (runF (z3c d) 7) :=
 z4u F z53 (ze7 F) m fun cdv A outer s H E hr =>
  (z07 (s_if (znl (zfi (q_nm 0))) (z0o (z1b (z1o z04))) z2k)
  (z07 (s_if (z1u (z4d (by exact hr.units)) z4f (q_nm 2) (v2r z0l)) (z0o (z1b zbv)) z2k)
  (z07 (z99 y25 (zhe z_enumerate (z09 1)) (zhg (z3u (g_nm 3 z53.nd) (z3u (g_nm 4 z53.nd) zhh)))
  (z07 (zcz 5 z53.nd (own:=["way"]) (caps:=[(4,"number")]) (z5a (sc:=z01 z34) ["through","numbers","many","place","number","others","behind"] rfl rfl rfl (by decide +kernel)) (z5p (z09 0)) (fun _ _ _ _ _ _=>(g_nm 0 (show y1q (["way","number"]:List Str) by decide +kernel))) (fun _ _ _ _ _ _=>(z5z (z1u (z3p (by exact hr.units)) z2z (q_nm 1) (q_nm 0)))) (fun _ _ _ _ _ _=>(z09 0)))
  (z0o (s_if (z1u (zmh.or z71) zgj (v2r (z56 (by exact z_len) (z0j (q_nm 5) z0x))) (v2r (z56 (by exact z_len) (z0j (q_nm 0) z0x)))) (z07 (z1q 6 z53.nd (z0c z5t hr (z00 (z09 5) (z00 (zg4 (q_nm 1) (zkx (v2r (z24 (q_nm 3) (v2r z0l)))) zky) (z00 (zo1 (q_nm 2) (v2r z0l)) z04)))))
  (z0o (s_if (za2 (q_nm 6)) (z0o (z1b (z24 (v2r (z1o (z00 (z09 4) z04))) (q_nm 6)))) z2k))) z2k))))
  (z0o (z1b zbv)))))
theorem z5t {k:Nat} {f:Addr} {fd:y0b} (F:Fun K "stops" "stops" z34 f fd) (m:mg "stops"=some (.ref f)) (z_enumerate:mg "enumerate"=none) (z_len:mg "len"=none):∀n,Cl P w K mg base "stops" (k+n) 3 (z1s n)
 | 0=>.mk' z7l m F.kp (ze7 F)
 | n+1=>zkd F m (z5t F m z_enumerate z_len  n) z_enumerate z_len
abbrev z35:Stmt:=top 11
theorem z3k:FnScope ["house","room","through","numbers","many","found"] ["house","room"] (z01 z35):=⟨rfl,rfl,rfl,by decide +kernel,rfl,by decide +kernel,by decide +kernel⟩
theorem zi7 {K:y00} {f:Addr} {fd:y0b} (F:Fun K "fewest" "fewest" z35 f fd):Binds K fd ["house","room"] []:=F.binds (ps:=["house","room"]) fun _ _ _ _ _ _ us hl=>match us,hl with|[_,_],_=>rfl
theorem z5e {k:Nat} {f:Addr} {fd:y0b} (F:Fun K "fewest" "fewest" z35 f fd) (m:mg "fewest"=some (.ref f)) (z5c:Cl P w K mg base "ways" k 2 z1e) (z_tuple:mg "tuple"=none) (z_range:mg "range"=none) (z5t:Cl P w K mg base "stops" k 3 (z1s 20)) (z_len:mg "len"=none):Cl P w K mg base "fewest" (k+1) 2 z1t :=
 z4u F z3k (zi7 F) m fun cdv A outer s H E hr =>
  (z07 (z1q 2 z3k.nd (z0c z5c hr (z00 (z09 0) (z00 (z09 1) z04))))
  (z07 (z1q 3 z3k.nd (zd4 rfl z_tuple z_range (v2r (z56 (by exact z_len) (z0j (v2r (q_ix (q_nm 0) (v2r z0l))) z0x)))))
  (z07 (z99 y25 (zl6 z_range (v2r (z24 (v2r (z56 (by exact z_len) (z0j (q_nm 3) z0x))) (v2r z0l)))) (g_nm 4 z3k.nd)
  (z07 (z1q 5 z3k.nd (z0c z5t hr (z00 (z09 2) (z00 (z09 3) (z00 (z09 4) z04)))))
  (z0o (s_if (za2 (q_nm 5)) (z0o (zfv 5)) z2k))))
  (z0o (z1b (z1o z04))))))
abbrev z14:Stmt:=top 12
theorem za9:FnScope ["way","other"] ["way","other"] (z01 z14):=⟨rfl,rfl,rfl,by decide +kernel,rfl,by decide +kernel,by decide +kernel⟩
theorem zbj {K:y00} {f:Addr} {fd:y0b} (F:Fun K "are_apart" "are_apart" z14 f fd):Binds K fd ["way","other"] []:=F.binds (ps:=["way","other"]) fun _ _ _ _ _ _ us hl=>match us,hl with|[_,_],_=>rfl
theorem z1z {k:Nat} {f:Addr} {fd:y0b} (F:Fun K "are_apart" "are_apart" z14 f fd) (m:mg "are_apart"=some (.ref f)) (z_any:mg "any"=none):Cl P w K mg base "are_apart" (k+1) 2 z0r :=
 z4u F za9 (zbj F) m fun cdv A outer s H E hr =>
  (z0o (z1b (zq9 (zqc rfl z_any (z0j (v2r (z5k (own:=["number"]) (caps:=[(1,"other")]) (z5a (sc:=z01 z14) ["way","other"] rfl rfl rfl (by decide +kernel)) (z5p (z09 0)) (fun _ _ _ _ _ _=>(g_nm 0 (show y1q (["number","other"]:List Str) by decide +kernel))) (fun _ _ _ _ _ _=>zkm) (fun _ _ _ _ _ _=>(zaj (z60 (by exact hr.units)) z2z (q_nm 0) (q_nm 1))))) z0x)))))
abbrev z0q:Stmt:=top 13
theorem z1c:FnScope ["through","many","place","way","others","behind"] ["through","many"] (z01 z0q):=⟨rfl,rfl,rfl,by decide +kernel,rfl,by decide +kernel,by decide +kernel⟩
theorem z4k {K:y00} {f:Addr} {fd:y0b} (F:Fun K "first_apart" "first_apart" z0q f fd):Binds K fd ["through","many"] []:=F.binds (ps:=["through","many"]) fun _ _ _ _ _ _ us hl=>match us,hl with|[_,_],_=>rfl
theorem z82 {d:List T->Option T} {k:Nat} {f:Addr} {fd:y0b} (F:Fun K "first_apart" "first_apart" z0q f fd) (m:mg "first_apart"=some (.ref f)) (z19:Cl P w K mg base "first_apart" k 2 d) (z_enumerate:mg "enumerate"=none) (z1z:Cl P w K mg base "are_apart" k 2 z0r):Cl P w K mg base "first_apart" (k+1) 2 (runF (z10 d) 6) :=
 z4u F z1c (z4k F) m fun cdv A outer s H E hr =>
  (z07 (s_if (z1u (z4d (by exact hr.units)) z4f (q_nm 1) (v2r z0l)) (z0o (z1b (z1o z04))) z2k)
  (z07 (z99 y25 (zn0 z_enumerate (z09 0)) (zhg (z3u (g_nm 2 z1c.nd) (z3u (g_nm 3 z1c.nd) zhh)))
  (z07 (zcz 4 z1c.nd (own:=["other"]) (caps:=[(3,"way")]) (z5a (sc:=z01 z0q) ["through","many","place","way","others","behind"] rfl rfl rfl (by decide +kernel)) (z5p (zg4 (q_nm 0) (zkx (v2r (z24 (q_nm 2) (v2r z0l)))) zky)) (fun _ _ _ _ _ _=>(g_nm 0 (show y1q (["other","way"]:List Str) by decide +kernel))) (fun _ _ _ _ _ _=>(z5z (znn (v2r (z0c (by exact z1z) (by exact hr) (z00 (z09 1) (z00 (z09 0) z04))))))) (fun _ _ _ _ _ _=>(z09 0)))
  (z07 (z1q 5 z1c.nd (z0c z19 hr (z00 (z09 4) (z00 (zo1 (q_nm 1) (v2r z0l)) z04))))
  (z0o (s_if (za2 (q_nm 5)) (z0o (z1b (z24 (v2r (z1o (z00 (z09 3) z04))) (q_nm 5)))) z2k)))))
  (z0o (z1b zbv))))
theorem z19 {k:Nat} {f:Addr} {fd:y0b} (F:Fun K "first_apart" "first_apart" z0q f fd) (m:mg "first_apart"=some (.ref f)) (z_enumerate:mg "enumerate"=none) (z1z:Cl P w K mg base "are_apart" k 2 z0r):∀n,Cl P w K mg base "first_apart" (k+n) 2 (z0e n)
 | 0=>.mk' z7l m F.kp (z4k F)
 | n+1=>z82 F m (z19 F m z_enumerate z1z  n) z_enumerate (z1z.mono (y3b _ _))
abbrev z4n:Stmt:=top 14
theorem ziu:FnScope ["house","room"] ["house","room"] (z01 z4n):=⟨rfl,rfl,rfl,by decide +kernel,rfl,by decide +kernel,by decide +kernel⟩
theorem zke {K:y00} {f:Addr} {fd:y0b} (F:Fun K "apart" "apart" z4n f fd):Binds K fd ["house","room"] []:=F.binds (ps:=["house","room"]) fun _ _ _ _ _ _ us hl=>match us,hl with|[_,_],_=>rfl
theorem zci {k:Nat} {f:Addr} {fd:y0b} (F:Fun K "apart" "apart" z4n f fd) (m:mg "apart"=some (.ref f)) (z19:Cl P w K mg base "first_apart" k 2 (z0e 20)) (z5c:Cl P w K mg base "ways" k 2 z1e) (z_len:mg "len"=none) (z5e:Cl P w K mg base "fewest" k 2 z1t):Cl P w K mg base "apart" (k+1) 2 z5r :=
 z4u F ziu (zke F) m fun cdv A outer s H E hr =>
  (z0o (z1b (z0c z19 hr (z00 (z0c z5c hr (z00 (z09 0) (z00 (z09 1) z04))) (z00 (z56 (by exact z_len) (z0j (v2r (z0c z5e hr (z00 (z09 0) (z00 (z09 1) z04)))) z0x)) z04)))))
abbrev z1g:Stmt:=top 22
theorem z13:FnScope ["_law_house_here","_law_some","_law_openings","_law_number","_law_one","_law_other","_law_zone"] ["_law_house_here","_law_some"] (z01 z1g):=⟨rfl,rfl,rfl,by decide +kernel,rfl,by decide +kernel,by decide +kernel⟩
theorem zbh {K:y00} {f:Addr} {fd:y0b} (F:Fun K "_law_watched" "_law_watched" z1g f fd):Binds K fd ["_law_house_here","_law_some"] []:=F.binds (ps:=["_law_house_here","_law_some"]) fun _ _ _ _ _ _ us hl=>match us,hl with|[_,_],_=>rfl
theorem z1y {k:Nat} {f:Addr} {fd:y0b} (F:Fun K "_law_watched" "_law_watched" z1g f fd) (m:mg "_law_watched"=some (.ref f)) (z_enumerate:mg "enumerate"=none) (z_int:mg "int"=none):Cl P w K mg base "_law_watched" (k+1) 2 z0n :=
 z4u F z13 (zbh F) m fun cdv A outer s H E hr =>
  (z07 (z1q 2 z13.nd (z1o z04))
  (z07 (z99 y25 (zhe z_enumerate (q_ix (q_nm 0) (v2r z0l))) (zhg (z3u (g_nm 3 z13.nd) (z3u (zhg (z3u (g_nm 4 z13.nd) (z3u (g_nm 5 z13.nd) (z3u (g_nm 6 z13.nd) zhh)))) zhh)))
  (z0o (z1q 2 z13.nd (z24 (q_nm 2) (v2r (z1o (z00 (z1o (z00 (z09 4) (z00 (z09 5) (z00 (q_ix (v2r (z8i (z00 zbv (z00 zbu z04)))) (v2r (zo4 z_int (z0j (v2r (zaj (z60 (by exact hr.units)) z2z (q_nm 3) (q_nm 1))) z0x)))) z04)))) z04)))))))
  (z0o (z1b (z1o (z00 (q_ix (q_nm 0) (v2r z0l)) (z00 (z09 2) z04)))))))
abbrev z0y:Stmt:=top 15
theorem z4b:FnScope ["house","room","through"] ["house","room"] (z01 z0y):=⟨rfl,rfl,rfl,by decide +kernel,rfl,by decide +kernel,by decide +kernel⟩
theorem z83 {K:y00} {f:Addr} {fd:y0b} (F:Fun K "ways_at_all" "ways_at_all" z0y f fd):Binds K fd ["house","room"] []:=F.binds (ps:=["house","room"]) fun _ _ _ _ _ _ us hl=>match us,hl with|[_,_],_=>rfl
theorem z3a {k:Nat} {f:Addr} {fd:y0b} (F:Fun K "ways_at_all" "ways_at_all" z0y f fd) (m:mg "ways_at_all"=some (.ref f)) (z5c:Cl P w K mg base "ways" k 2 z1e):Cl P w K mg base "ways_at_all" (k+1) 2 z18 :=
 z4u F z4b (z83 F) m fun cdv A outer s H E hr =>
  (z07 (z1q 2 z4b.nd (z0c z5c hr (z00 (z09 0) (z00 (z09 1) z04))))
  (z07 (s_if (znl (zfi (q_nm 2))) (z0o zlv) z2k)
  (z0o (zfv 2))))
abbrev z16:Stmt:=top 16
theorem zbp:FnScope ["house","room"] ["house","room"] (z01 z16):=⟨rfl,rfl,rfl,by decide +kernel,rfl,by decide +kernel,by decide +kernel⟩
theorem zcj {K:y00} {f:Addr} {fd:y0b} (F:Fun K "quickest" "quickest" z16 f fd):Binds K fd ["house","room"] []:=F.binds (ps:=["house","room"]) fun _ _ _ _ _ _ us hl=>match us,hl with|[_,_],_=>rfl
theorem z5u {k:Nat} {f cL Pt:Addr} {oc:Value} {od an:Option Addr} {osl:Array (Option Value)} {kV doc pm ct:Value} (l:K.lookup f=some ⟨oc,od,.func (y0i "quickest" "quickest" (z0k z16) (z0g z16) (z01 z16) .none kV doc pm an (.ref cL) ct),osl⟩) (hcd:y0f K (.ref cL) "quickest"=true) (kp:y08 K (.ref f)=true) (m:mg "quickest"=some (.ref f)) (hCH:y3a K cL Pt=true) (hbm:BM mg base) (htb:(Pt,(("quickest":Str)++".<locals>.")++"<lambda>")∈Tbl.tb) (hun:∀p∈Tbl.tb,p.1=Pt->p.2=(("quickest":Str)++".<locals>.")++"<lambda>") (z_min:mg "min"=none) (z3a:Cl P w K mg base "ways_at_all" k 2 z18) (z_len:mg "len"=none):Cl P w K mg base "quickest" (k+3) 2 z31 :=
 zpn l hcd zbp (fun _ F=>zcj F) m kp fun A outer s H E hr =>
  (z0o (z1b (zo3 (y:="way") (z0c z3a (hr.mono (y3b _ 2)) (z00 (z09 0) (z00 (z09 1) z04))) z_min rfl hCH hbm htb hun hr (fun q c2 cl A2 o2 s2 H2 hrL=>by exact (z1o (z00 (z56 (by exact z_len) (z0j (q_nm 0) z0x)) (z00 (z09 0) z04)))))))
abbrev z1h:Stmt:=top 18
theorem za8:FnScope ["_law_script","_law_k"] ["_law_script","_law_k"] (z01 z1h):=⟨rfl,rfl,rfl,by decide +kernel,rfl,by decide +kernel,by decide +kernel⟩
theorem zbi {K:y00} {f:Addr} {fd:y0b} (F:Fun K "_law_cell_at" "_law_cell_at" z1h f fd):Binds K fd ["_law_script","_law_k"] []:=F.binds (ps:=["_law_script","_law_k"]) fun _ _ _ _ _ _ us hl=>match us,hl with|[_,_],_=>rfl
theorem z4v {k:Nat} {f:Addr} {fd:y0b} (F:Fun K "_law_cell_at" "_law_cell_at" z1h f fd) (m:mg "_law_cell_at"=some (.ref f)) (z_len:mg "len"=none):Cl P w K mg base "_law_cell_at" (k+1) 2 z1j :=
 z4u F za8 (zbi F) m fun cdv A outer s H E hr =>
  (z07 (s_if (z1u (zmh.or z71) zgj (q_nm 1) (v2r (z56 (by exact z_len) (z0j (q_nm 0) z0x)))) (z0o (z1b (q_ix (q_nm 0) (q_nm 1)))) z2k)
  (z0o (z1b z0l)))
abbrev z2d:Stmt:=top 19
theorem z8b:FnScope ["_law_script","_law_k","_law_drawn_here"] ["_law_script","_law_k"] (z01 z2d):=⟨rfl,rfl,rfl,by decide +kernel,rfl,by decide +kernel,by decide +kernel⟩
theorem zf6 {K:y00} {f:Addr} {fd:y0b} (F:Fun K "_law_mixed" "_law_mixed" z2d f fd):Binds K fd ["_law_script","_law_k"] []:=F.binds (ps:=["_law_script","_law_k"]) fun _ _ _ _ _ _ us hl=>match us,hl with|[_,_],_=>rfl
theorem z5d {k:Nat} {f:Addr} {fd:y0b} (F:Fun K "_law_mixed" "_law_mixed" z2d f fd) (m:mg "_law_mixed"=some (.ref f)) (z4v:Cl P w K mg base "_law_cell_at" k 2 z1j):Cl P w K mg base "_law_mixed" (k+1) 2 z22 :=
 z4u F z8b (zf6 F) m fun cdv A outer s H E hr =>
  (z07 (z1q 2 z8b.nd (z6v (v2r (zai (v2r (z24 (v2r (z24 (v2r (z0c z4v hr (z00 (z09 0) (z00 (z09 1) z04)))) (v2r (zai (v2r z0l) (q_nm 1))))) (v2r z0l))) (v2r z0l))) (v2r z0l)))
  (z0o (z1b (z6v (v2r (z24 (v2r (z24 (v2r (zai (q_nm 2) (q_nm 2))) (v2r (zai (v2r z0l) (q_nm 2))))) (q_nm 1))) (v2r z0l)))))
abbrev z2p:Stmt:=top 6
theorem z2c:FnScope ["house","names","unwatched","reached","waiting","here","opening","there"] ["house","names"] (z01 z2p):=⟨rfl,rfl,rfl,by decide +kernel,rfl,by decide +kernel,by decide +kernel⟩
theorem zi6 {K:y00} {f:Addr} {fd:y0b} (F:Fun K "unseen" "unseen" z2p f fd):Binds K fd ["house","names"] []:=F.binds (ps:=["house","names"]) fun _ _ _ _ _ _ us hl=>match us,hl with|[_,_],_=>rfl
theorem z3b {k:Nat} {f:Addr} {fd:y0b} (F:Fun K "unseen" "unseen" z2p f fd) (m:mg "unseen"=some (.ref f)) (z_tuple:mg "tuple"=none) (z_sorted:mg "sorted"=none) (z2t:Cl P w K mg base "beyond" k 2 z0z) {t_OUTSIDE:Tok} (g_OUTSIDE:mg "OUTSIDE"=some (.int 0 t_OUTSIDE)):Cl P w K mg base "unseen" (k+1) 2 z0v :=
 z4u F z2c (zi6 F) m fun cdv A outer s H E hr =>
  (z07 (zcz 2 z2c.nd (own:=["opening"]) (caps:=[(1,"names")]) (z5a (sc:=z01 z2p) ["house","names","unwatched","reached","waiting","here","opening","there"] rfl rfl rfl (by decide +kernel)) (z5p (q_ix (q_nm 0) (v2r z0l))) (fun _ _ _ _ _ _=>(g_nm 0 (show y1q (["opening","names"]:List Str) by decide +kernel))) (fun _ _ _ _ _ _=>(z5z (w_t (w_or (zpq (v2r (q_ix (q_nm 0) (v2r z0l)))) (zii (z1u (z60 (by exact hr.units)) z2z (v2r (q_ix (q_nm 0) (v2r z0l))) (q_nm 1))))))) (fun _ _ _ _ _ _=>(z09 0)))
  (z07 (znu 3 z2c.nd (q_gI g_OUTSIDE) q_bl)
  (z07 (zko 4 z2c.nd (zlz (z00 (q_gI g_OUTSIDE) z04)))
  (z07 (zlu 1000 y25 (zfi (q_nm 4)) (z07 (s_pop 5 4 z2c.nd)
  (z0o (z99 y25 (z5p (z09 2)) (g_nm 6 z2c.nd)
  (z07 (z1q 7 z2c.nd (z0c z2t hr (z00 (z09 6) (z00 (z09 5) z04))))
  (z0o (s_if (w_t (w_and (za2 (q_nm 7)) (zkk (znm 3 (zp8 hr) (q_nm 7))))) (z07 (znt 3 (zp8 hr) (q_nm 7) q_bl)
  (z0o (zq4 4 (z09 7)))) z2k)))))))
  (z0o (z1b (zg3 z_tuple (z0j (v2r (zg7 3 rfl z_sorted)) z0x))))))))
abbrev z54:Stmt:=top 23
theorem z2o:FnScope ["_law_script","_law_house_here","_law_room","_law_some","_law_few","_law_rows","_law_used","_law_way","_law_plain","_law_number","_law_less","_law_every"] ["_law_script"] (z01 z54):=⟨rfl,rfl,rfl,by decide +kernel,rfl,by decide +kernel,by decide +kernel⟩
theorem zqn {k:Nat} {f:Addr} {fd:y0b} (F:Fun K "law" "law" z54 f fd) (z7s:Cl P w K mg base "_law_house" k 1 z3w) (z5c:Cl P w K mg base "ways" k 2 z1e) (z5e:Cl P w K mg base "fewest" k 2 z1t) (zci:Cl P w K mg base "apart" k 2 z5r) (z1y:Cl P w K mg base "_law_watched" k 2 z0n) (z_tuple:mg "tuple"=none) (z5u:Cl P w K mg base "quickest" k 2 z31) (z5d:Cl P w K mg base "_law_mixed" k 2 z22) (z_len:mg "len"=none) (z_range:mg "range"=none) (z3b:Cl P w K mg base "unseen" k 2 z0v) (z_list:mg "list"=none) (z_sorted:mg "sorted"=none) (z_set:mg "set"=none):FnOk P w K mg base CX0 (k+1) f fd ["_law_script"] (spT K 1 zf0) :=
 zl7 F z2o fun cdv A outer s H E hr =>
  (z07 (z1q 1 z2o.nd (z0c z7s hr (z00 (z0c z5d hr (z00 (z09 0) (z00 z0l z04))) z04)))
  (z07 (z1q 2 z2o.nd (z24 (v2r z0l) (v2r (z6v (v2r (z0c z5d hr (z00 (z09 0) (z00 z0l z04)))) (v2r (q_ix (q_nm 1) (v2r z0l)))))))
  (z07 (z1q 3 z2o.nd (z0c z5c hr (z00 (z09 1) (z00 (z09 2) z04))))
  (z07 (z1q 4 z2o.nd (z0c z5e hr (z00 (z09 1) (z00 (z09 2) z04))))
  (z07 (z1q 5 z2o.nd (z0c zci hr (z00 (z09 1) (z00 (z09 2) z04))))
  (z07 (s_if (w_t (w_or (z1u (z4c (by exact hr.units)) z4e (v2r (z56 (by exact z_len) (z0j (q_nm 4) z0x))) (v2r (z56 (by exact z_len) (z0j (q_nm 5) z0x)))) (w_or (z1u (z4c (by exact hr.units)) z4e (v2r (zg5 z_list (z0j (q_nm 4) z0x))) (v2r (zah rfl z_sorted z_set (q_nm 4)))) (zii (z1u (z4c (by exact hr.units)) z4e (v2r (zg5 z_list (z0j (q_nm 5) z0x))) (v2r (zag rfl (by exact hr.units) z_sorted z_set (q_nm 5)))))))) (z0o (z1b q_bl)) z2k)
  (z07 (z1q 6 z2o.nd (z8i z04))
  (z07 (z99 y25 (z5p (z09 5)) (g_nm 7 z2o.nd)
  (z07 (s_if (w_t (w_or (z1u (z3p (by exact hr.units)) z2z (q_nm 7) (q_nm 3)) (zii (z1u (z4c (by exact hr.units)) z4e (v2r (z56 (by exact z_len) (z0j (v2r (z5k (own:=["_law_number"]) (caps:=[(4,"_law_few")]) (z5a (sc:=z01 z54) ["_law_script","_law_house_here","_law_room","_law_some","_law_few","_law_rows","_law_used","_law_way","_law_plain","_law_number","_law_less","_law_every"] rfl rfl rfl (by decide +kernel)) (z5p (z09 7)) (fun _ _ _ _ _ _=>(g_nm 0 (show y1q (["_law_number","_law_few"]:List Str) by decide +kernel))) (fun _ _ _ _ _ _=>(z5z (z1u (z60 (by exact hr.units)) z2z (q_nm 0) (q_nm 1)))) (fun _ _ _ _ _ _=>(z09 0)))) z0x))) (v2r z0l))))) (z0o (z1b q_bl)) z2k)
  (z0o (z1q 6 z2o.nd (z24 (q_nm 6) (v2r (zg5 z_list (z0j (q_nm 7) z0x))))))))
  (z07 (s_if (z1u (z4c (by exact hr.units)) z4e (v2r (zg6 rfl z_len z_set (q_nm 6))) (v2r (z56 (by exact z_len) (z0j (q_nm 6) z0x)))) (z0o (z1b q_bl)) z2k)
  (z07 (s_if (z1u (z4c (by exact hr.units)) z4e (v2r (z5k (own:=["_law_way"]) (caps:=[(4,"_law_few")]) (z5a (sc:=z01 z54) ["_law_script","_law_house_here","_law_room","_law_some","_law_few","_law_rows","_law_used","_law_way","_law_plain","_law_number","_law_less","_law_every"] rfl rfl rfl (by decide +kernel)) (z5p (z09 3)) (fun _ _ _ _ _ _=>(g_nm 0 (show y1q (["_law_way","_law_few"]:List Str) by decide +kernel))) (fun _ _ _ _ _ _=>by exact (z5z (z1u (z4d (by exact hr.units)) z4f (v2r (z5k (own:=["_law_number"]) (caps:=[(1,"_law_few")]) (zn8 (sc0:=z01 z54) ["_law_way","_law_few"] rfl rfl rfl (by decide +kernel)) (z5p (z09 0)) (fun _ _ _ _ _ _=>(g_nm 0 (show y1q (["_law_number","_law_few"]:List Str) by decide +kernel))) (fun _ _ _ _ _ _=>(z5z (z1u (z60 (by exact hr.units)) z2z (q_nm 0) (q_nm 1)))) (fun _ _ _ _ _ _=>(z09 0)))) (v2r (z8i z04))))) (fun _ _ _ _ _ _=>by exact (z09 0)))) (v2r (z8i z04))) (z0o (z1b q_bl)) z2k)
  (z07 (z1q 8 z2o.nd (z0c z1y hr (z00 (z09 1) (z00 (z09 4) z04))))
  (z07 (s_if (w_t (w_or (z1u (z60 (by exact hr.units)) z2z (q_nm 2) (v2r (z0c z3b hr (z00 (z09 8) (z00 (z1o z04) z04))))) (zii (z1u (z4c (by exact hr.units)) z4e (v2r (zaj (z60 (by exact hr.units)) z2z (q_nm 2) (v2r (z0c z3b hr (z00 (z09 8) (z00 (z1o (z00 zbu z04)) z04)))))) (v2r (zaj (z4c (by exact hr.units)) z4e (q_nm 3) (v2r (z1o z04)))))))) (z0o (z1b q_bl)) z2k)
  (z07 (z99 y25 (z5p (z09 4)) (g_nm 9 z2o.nd)
  (z07 (zcz 10 z2o.nd (own:=["_law_one"]) (caps:=[(9,"_law_number")]) (z5a (sc:=z01 z54) ["_law_script","_law_house_here","_law_room","_law_some","_law_few","_law_rows","_law_used","_law_way","_law_plain","_law_number","_law_less","_law_every"] rfl rfl rfl (by decide +kernel)) (z5p (z09 4)) (fun _ _ _ _ _ _=>(g_nm 0 (show y1q (["_law_one","_law_number"]:List Str) by decide +kernel))) (fun _ _ _ _ _ _=>(z5z (z1u (z4c (by exact hr.units)) z4e (q_nm 0) (q_nm 1)))) (fun _ _ _ _ _ _=>(z09 0)))
  (z0o (s_if (z1u (z3p (by exact hr.units)) z2z (q_nm 2) (v2r (z0c z3b hr (z00 (z0c z1y hr (z00 (z09 1) (z00 (z09 10) z04))) (z00 (z1o z04) z04))))) (z0o (z1b q_bl)) z2k))))
  (z07 (z1q 11 z2o.nd (zd4 rfl z_tuple z_range (v2r (z56 (by exact z_len) (z0j (v2r (q_ix (q_nm 1) (v2r z0l))) z0x)))))
  (z07 (s_if (z1u (z4c (by exact hr.units)) z4e (v2r (z0c z3b hr (z00 (z0c z1y hr (z00 (z09 1) (z00 (z09 11) z04))) (z00 (z1o z04) z04)))) (v2r (z1o (z00 z0l z04)))) (z0o (z1b q_bl)) z2k)
  (z07 (s_if (z1u (z4d (by exact hr.units)) z4f (q_nm 3) (v2r (z1o z04))) (z0o (z1b (zo7 (zaj (z4d (by exact hr.units)) z4f (q_nm 4) (v2r (z1o z04))) (zkr (zaj (z4d (by exact hr.units)) z4f (q_nm 5) (v2r (z1o z04))))))) z2k)
  (z07 (z1q 7 z2o.nd (z0c z5u hr (z00 (z09 1) (z00 (z09 2) z04))))
  (z07 (s_if (z1u (z3p (by exact hr.units)) z2z (q_nm 2) (v2r (z0c z3b hr (z00 (z0c z1y hr (z00 (z09 1) (z00 (z1o z04) z04))) (z00 (z1o z04) z04))))) (z0o (z1b q_bl)) z2k)
  (z0o (z1b (zo7 (zaj (z60 (by exact hr.units)) z2z (q_nm 7) (q_nm 3)) (zkr (zaj (z4d (by exact hr.units)) z4f (v2r (z5k (own:=["_law_one"]) (caps:=[(7,"_law_way")]) (z5a (sc:=z01 z54) ["_law_script","_law_house_here","_law_room","_law_some","_law_few","_law_rows","_law_used","_law_way","_law_plain","_law_number","_law_less","_law_every"] rfl rfl rfl (by decide +kernel)) (z5p (z09 3)) (fun _ _ _ _ _ _=>(g_nm 0 (show y1q (["_law_one","_law_way"]:List Str) by decide +kernel))) (fun _ _ _ _ _ _=>(z5z (z1u (zmh.or z71) zgj (v2r (z56 (by exact z_len) (z0j (q_nm 0) z0x))) (v2r (z56 (by exact z_len) (z0j (q_nm 1) z0x)))))) (fun _ _ _ _ _ _=>(z09 0)))) (v2r (z8i z04)))))))))))))))))))))))))
end
end K22
end
section
namespace D
open PySem
theorem z9g (ns:List Int):y1g (ns.map .int)=true/\y1e (ns.map .int)<=1:=by
 induction ns with
 | nil=>simp[y1g,y1e]
 | cons n ns ih=>simp[y1g,PyData.canLay0,y1e,y24,ih]
theorem zjh (ss:List Str) (h:∀x∈ss,(y1x x).canLay0=true):y1g (ss.map .str)=true/\y1e (ss.map .str)<=1:=by
 induction ss with
 | nil=>simp[y1g,y1e]
 | cons n ns ih =>
  have h1:=h n (by simp)
  have h2:=ih fun x hx=>h x (by simp[hx])
  simp[y1g,y1e,y24,h1,h2]
theorem z7m:∀(ns ms:List Int),PyData.eqvAll (ns.map .int) (ms.map .int)=decide (ns=ms)
 | [],[]=>by simp[PyData.eqvAll]
 | [],_::_=>by simp[PyData.eqvAll]
 | _::_,[]=>by simp[PyData.eqvAll]
 | n::ns,m::ms=>by simp[PyData.eqvAll,y20,z7m ns ms,Bool.beq_eq_decide_eq]
theorem zk4 (ns ms:List Int):y20 (.tuple (ns.map .int)) (.tuple (ms.map .int))=decide (ns=ms):=by rw[y20,z7m]
theorem zdp (n:Int):∀ns:List Int,hasT (.int n) (ns.map .int)=decide (n∈ns)
 | []=>by simp[hasT]
 | m::ns=>by
  have ih:=zdp n ns
  unfold hasT at ih ⊢
  rw[y0d,List.any_cons,ih]
  simp[y20,Bool.beq_eq_decide_eq,eq_comm]
theorem zdo (n:Str):∀ns:List Str,hasT (.str n) (ns.map .str)=decide (n∈ns)
 | []=>by simp[hasT]
 | m::ns=>by
  have ih:=zdo n ns
  unfold hasT at ih ⊢
  rw[y0d,List.any_cons,ih]
  simp[y20,Bool.beq_eq_decide_eq,eq_comm]
theorem zgl (n:Int):okT (.int n)=true:=by simp[okT,PyData.canLay0,y24]
theorem zmm {x:Str} (h:(y1x x).canLay0=true):okT (.str x)=true:=by simp[okT,y24,h]
theorem zgn (ns:List Int):okL (ns.map .int)=true:=by
 have:=z9g ns
 simp[okL,this.1]
 omega
theorem zgm (ss:List Str) (h:∀x∈ss,(y1x x).canLay0=true):okL (ss.map .str)=true:=by
 have:=zjh ss h
 simp[okL,this.1]
 omega
theorem z9h (neg:Bool) (n:Int) (ns:List Int):oIn neg (.int n) (.tuple (ns.map .int))=some (.bool (if neg then !decide (n∈ns) else decide (n∈ns))):=by
 simp only[oIn,zgl,zgn,zdp,Bool.and_self,if_true]
theorem zgq (neg:Bool) (n:Str) (ns:List Str) (h0:(y1x n).canLay0=true) (h:∀x∈ns,(y1x x).canLay0=true):oIn neg (.str n) (.tuple (ns.map .str))=some (.bool (if neg then !decide (n∈ns) else decide (n∈ns))):=by
 simp only[oIn,zmm h0,zgm ns h,zdo,Bool.and_self,if_true]
end D
end
section
namespace Hg
def adj (e:Int×Int) (x:Int):Option Int:=if e.1=x then some e.2 else if e.2=x then some e.1 else none
def Adj (E:List (Int×Int)) (x y:Int):Prop:=∃e∈E,adj e x=some y
inductive Reach (E:List (Int×Int)):Int->Prop
 | zero:Reach E 0
 | step {x y:Int}:Reach E x->Adj E x y->Reach E y
def Within (R:Int) (E:List (Int×Int)):Prop:=∀e∈E,0<=e.1/\e.1<=R/\0<=e.2/\e.2<=R
theorem z5v {R:Int} {E:List (Int×Int)} (h:Within R E) {x y:Int} (a:Adj E x y):0<=y/\y<=R:=by
 obtain⟨e,he,ha⟩:=a
 obtain⟨h1,h2,h3,h4⟩:=h e he
 unfold adj at ha
 split at ha
 ·cases ha;exact⟨h3,h4⟩
 ·split at ha
  ·cases ha;exact⟨h1,h2⟩
  ·cases ha
theorem nodup_len:∀(n:Nat) (l:List Int),l.Nodup->(∀x∈l,0<=x/\x<n)->l.length<=n
 | 0,l,_,hb=>by
  cases l with
  | nil=>simp
  | cons x r=>have:=hb x (by simp);omega
 | n+1,l,nd,hb=>by
  have h1:=nodup_len n (l.filter fun x=>decide (x≠(n:Int))) (nd.filter _) (fun x hx=>by
   have:=List.mem_filter.mp hx
   have hx':=hb x this.1
   have:x≠(n:Int):=by simpa using this.2
   omega)
  have h2:l.length<=(l.filter fun x=>decide (x≠(n:Int))).length+1:=by
   clear h1 hb
   induction l with
   | nil=>simp
   | cons y r ih =>
    have nd':=y0r.mp nd
    by_cases e:y=(n:Int)
    ·subst e
     have:r.filter (fun x=>decide (x≠(n:Int)))=r:=List.filter_eq_self.mpr fun x hx=>by
      have:x≠(n:Int):=fun z=>nd'.1 (z▸hx)
      simpa using this
     rw[List.filter_cons_of_neg (by simp),this]
     simp
    ·rw[List.filter_cons_of_pos (by simpa using e)]
     have:=ih nd'.2
     simp only[y0w]
     omega
  omega
noncomputable def inner (h:Int):List (Int×Int)->List Int->List Int->List Int×List Int
 | [],r,w=>(r,w)
 | e::es,r,w=>match adj e h with
  | some t=>if t∈r then inner h es r w else inner h es (r++[t]) (w++[t])
  | none=>inner h es r w
noncomputable def bfs (E:List (Int×Int)):Nat->List Int->List Int->Option (List Int)
 | 0,_,_=>none
 | n+1,r,w=>match w.getLast? with
  | none=>some r
  | some h=>bfs E n (inner h E r w.dropLast).1 (inner h E r w.dropLast).2
theorem z6c (h:Int):∀(E:List (Int×Int)) (r w:List Int),∃new:List Int,inner h E r w=(r++new,w++new)/\(r.Nodup->(r++new).Nodup)/\(∀y∈new,Adj E h y)/\∀y,Adj E h y->y∈r++new
 | [],r,w=>⟨[],by simp[inner],by simp,by simp,fun y ⟨e,he,_⟩=>by simp at he⟩
 | e::es,r,w=>by
  unfold inner
  have up:∀{y:Int},Adj es h y->Adj (e::es) h y:=fun⟨e',h1,h2⟩=>⟨e',y05 _ h1,h2⟩
  split
  next t ht =>
   split
   next hm =>
    obtain⟨new,h1,h2,h3,h4⟩:=z6c h es r w
    refine⟨new,h1,h2,fun y hy=>up (h3 y hy),fun y ⟨e',he',ha⟩=>?_⟩
    rcases y09.mp he' with rfl|he'
    ·rw[ht] at ha
     cases ha
     exact List.mem_append_left _ hm
    ·exact h4 y ⟨e',he',ha⟩
   next hm =>
    obtain⟨new,h1,h2,h3,h4⟩:=z6c h es (r++[t]) (w++[t])
    refine⟨t::new,by rw[h1];simp,fun nd=>?_,fun y hy=>?_,fun y ⟨e',he',ha⟩=>?_⟩
    ·have:(r++[t]).Nodup:=by
      rw[y1m]
      refine⟨nd,by simp,fun a ha b hb=>?_⟩
      have:b=t:=by simpa using hb
      subst this
      exact fun z=>hm (z▸ha)
     simpa using h2 this
    ·rcases y09.mp hy with rfl|hy
     ·exact⟨e,y0e,ht⟩
     ·exact up (h3 y hy)
    ·rcases y09.mp he' with rfl|he'
     ·rw[ht] at ha
      cases ha
      simp
     ·have:=h4 y ⟨e',he',ha⟩
      simpa using this
  next hn =>
   obtain⟨new,h1,h2,h3,h4⟩:=z6c h es r w
   refine⟨new,h1,h2,fun y hy=>up (h3 y hy),fun y ⟨e',he',ha⟩=>?_⟩
   rcases y09.mp he' with rfl|he'
   ·rw[hn] at ha
    cases ha
   ·exact h4 y ⟨e',he',ha⟩
structure Mid (R:Int) (E:List (Int×Int)) (r w:List Int):Prop where
 nd:r.Nodup
 z:(0:Int)∈r
 wr:∀x∈w,x∈r
 bd:∀x∈r,0<=x/\x<=R
 re:∀x∈r,Reach E x
 cl:∀x∈r,x∉w->∀y,Adj E x y->y∈r
theorem zi4 {R:Int} {E:List (Int×Int)} (hE:Within R E) (hR:R<=7):∀(n:Nat) (r w:List Int),Mid R E r w->2*(8 - r.length)+w.length<n->∃r',bfs E n r w=some r'/\Mid R E r' []
 | 0,r,w,m,h=>by omega
 | n+1,r,w,m,h=>by
  unfold bfs
  split
  next e=>exact⟨r,rfl,by have:w=[]:=(by simpa using e);subst this;exact m⟩
  next x e =>
   have hw:w=w.dropLast++[x]:=by
    have hne:w≠[]:=by rintro rfl;simp at e
    have:=List.dropLast_concat_getLast hne
    have e2:w.getLast hne=x:=by
     rw[List.getLast?_eq_getLast hne] at e
     exact y2c e
    rw[e2] at this
    exact this.symm
   obtain⟨new,h1,h2,h3,h4⟩:=z6c x E r w.dropLast
   rw[h1]
   have hx:x∈w:=by rw[hw];simp
   have nd:=h2 m.nd
   have m':Mid R E (r++new) (w.dropLast++new):=by
    refine⟨nd,List.mem_append_left _ m.z,fun y hy=>?_,fun y hy=>?_,fun y hy=>?_,fun y hy hn z az=>?_⟩
    ·rcases y10.mp hy with hy|hy
     ·exact List.mem_append_left _ (m.wr y (List.dropLast_subset _ hy))
     ·exact y1a _ hy
    ·rcases y10.mp hy with hy|hy
     ·exact m.bd y hy
     ·exact z5v hE (h3 y hy)
    ·rcases y10.mp hy with hy|hy
     ·exact m.re y hy
     ·exact .step (m.re x (m.wr x hx)) (h3 y hy)
    ·by_cases exy:y=x
     ·subst exy
      exact h4 z az
     ·rcases y10.mp hy with hy|hy
      ·refine List.mem_append_left _ (m.cl y hy (fun hyw=>hn (List.mem_append_left _ ?_)) z az)
       rw[hw] at hyw
       rcases y10.mp hyw with q|q
       ·exact q
       ·exact absurd (by simpa using q) exy
      ·exact absurd (y1a _ hy) hn
   have lr:(r++new).length<=8:=nodup_len 8 _ nd fun y hy=>by have:=m'.bd y hy;omega
   have lw:w.length=w.dropLast.length+1:=by
    conv=>lhs;rw[hw]
    simp
   refine zi4 hE hR n _ _ m' ?_
   simp only[y21] at lr ⊢
   omega
theorem bfs_ok {R:Int} {E:List (Int×Int)} (hE:Within R E) (h0:0<=R) (hR:R<=7) {n:Nat} (hn:15<n):∃r,bfs E n [0] [0]=some r/\r.Nodup/\(∀x,x∈r <-> Reach E x)/\∀x∈r,0<=x/\x<=R:=by
 obtain⟨r,h1,m⟩:=zi4 (n:=n) hE hR [0] [0] ⟨by simp,by simp,by simp,by simpa using h0,fun x hx=>(show x=0 by simpa using hx)▸Reach.zero,by simp⟩ (by simp;omega)
 refine⟨r,h1,m.nd,fun x=>⟨m.re x,fun hx=>?_⟩,m.bd⟩
 induction hx with
 | zero=>exact m.z
 | step _ a ih=>exact m.cl _ ih (by simp) _ a
noncomputable def exts (rec:List Int->Option (List (List Nat))) (pl:List Int) (h:Int):Nat->List (Int×Int)->Option (List (List Nat))
 | _,[]=>some []
 | k,e::es=>match adj e h with
  | some t=>if t∈pl then exts rec pl h (k+1) es else (rec (pl++[t])).bind fun ws=>(exts rec pl h (k+1) es).map fun vs=>ws.map (fun w=>k::w)++vs
  | none=>exts rec pl h (k+1) es
noncomputable def waysP (E:List (Int×Int)) (room:Int):Nat->List Int->Option (List (List Nat))
 | 0,_=>none
 | n+1,pl=>match pl.getLast? with
  | none=>none
  | some h=>if h=room then some [[]] else exts (waysP E room n) pl h 0 E
theorem z9m {rec:List Int->Option (List (List Nat))} {pl:List Int} {h:Int} {B:Nat} (E₀:List (Int×Int)) (hr:∀t,Adj E₀ h t->t∉pl->∃ws,rec (pl++[t])=some ws/\ws.length<=B) :
  ∀(k:Nat) (E:List (Int×Int)),(∀e∈E,e∈E₀)->∃ws,exts rec pl h k E=some ws/\ws.length<=E.length*B
 | k,[],_=>⟨[],rfl,by simp⟩
 | k,e::es,hs=>by
  obtain⟨vs,h1,h2⟩:=z9m E₀ hr (k+1) es fun e he=>hs e (y05 _ he)
  have h3:es.length*B<=(e::es).length*B:=Nat.mul_le_mul_right _ (by simp)
  unfold exts
  split
  next t ht =>
   split
   next=>exact⟨vs,h1,by omega⟩
   next hm =>
    obtain⟨ws,h4,h5⟩:=hr t ⟨e,hs e y0e,ht⟩ hm
    refine⟨_,by rw[h4,h1];rfl,?_⟩
    simp only[y21,y13,y0w,Nat.succ_mul]
    omega
  next=>exact⟨vs,h1,by omega⟩
theorem ways_tot {R:Int} {E:List (Int×Int)} (hE:Within R E) (hR:R<=7) (hl:E.length<=10) (room:Int) :
  ∀(n:Nat) (pl:List Int),pl≠[]->pl.Nodup->(∀x∈pl,0<=x/\x<=R)->9<=n+pl.length->∃ws,waysP E room n pl=some ws/\ws.length<=10 ^ (8 - pl.length)
 | 0,pl,hne,nd,hb,hn=>by
  have:=nodup_len 8 pl nd fun y hy=>by have:=hb y hy;omega
  omega
 | n+1,pl,hne,nd,hb,hn=>by
  unfold waysP
  rw[List.getLast?_eq_getLast hne]
  simp only
  split
  next=>exact⟨_,rfl,by simpa using Nat.one_le_pow _ 10 (by decide)⟩
  next =>
   have l8:=nodup_len 8 pl nd fun y hy=>by have:=hb y hy;omega
   by_cases full:pl.length=8
   ·
    have none_new:∀t,Adj E (pl.getLast hne) t->t∉pl->False:=fun t a hm=>by
     have hw:=z5v hE a
     have nd':(pl++[t]).Nodup:=by
      rw[y1m]
      refine⟨nd,by simp,fun x hx y hy=>?_⟩
      have:y=t:=by simpa using hy
      subst this
      exact fun z=>hm (z▸hx)
     have:=nodup_len 8 (pl++[t]) nd' fun y hy=>by
      rcases y10.mp hy with hy|hy
      ·have:=hb y hy;omega
      ·have:y=t:=by simpa using hy
       subst this
       omega
     simp at this
     omega
    obtain⟨ws,h1,h2⟩:=z9m (B:=0) (pl:=pl) (h:=pl.getLast hne) (rec:=waysP E room n) E (fun t a hm=>(none_new t a hm).elim) 0 E fun _ h=>h
    exact⟨ws,h1,by have:ws.length=0:=(by omega);rw[this];exact y23 _⟩
   ·obtain⟨ws,h1,h2⟩:=z9m (B:=10 ^ (8 - (pl.length+1))) (pl:=pl) (h:=pl.getLast hne) (rec:=waysP E room n) E (fun t a hm=>by
     have hw:=z5v hE a
     have:=ways_tot hE hR hl room n (pl++[t]) (by simp) (by
      rw[y1m]
      refine⟨nd,by simp,fun x hx y hy=>?_⟩
      have:y=t:=by simpa using hy
      subst this
      exact fun z=>hm (z▸hx)) (fun y hy=>by
      rcases y10.mp hy with hy|hy
      ·exact hb y hy
      ·have:y=t:=by simpa using hy
       subst this
       exact hw) (by simp;omega)
     simpa using this) 0 E fun _ h=>h
    refine⟨ws,h1,?_⟩
    have e:8 - pl.length=(8 - (pl.length+1))+1:=by omega
    rw[e,Nat.pow_succ]
    have:=Nat.mul_le_mul_right (10 ^ (8 - (pl.length+1))) hl
    omega
inductive Walk (E:List (Int×Int)):Int->List Int->Int->Prop
 | nil (x:Int):Walk E x [] x
 | cons {x y z:Int} {p:List Int}:Adj E x y->Walk E y p z->Walk E x (y::p) z
theorem z3v {rec:List Int->Option (List (List Nat))} {pl:List Int} {h:Int}:∀{k:Nat} {E:List (Int×Int)} {ws:List (List Nat)},exts rec pl h k E=some ws->∀t,Adj E h t->t∉pl->∃vs,rec (pl++[t])=some vs/\(vs≠[]->ws≠[])
 | k,[],ws,e,t,⟨e',he',_⟩,_=>by simp at he'
 | k,e::es,ws,h1,t,⟨e',he',ha⟩,hm=>by
  unfold exts at h1
  split at h1
  next t' ht' =>
   split at h1
   next hm' =>
    rcases y09.mp he' with rfl|he'
    ·rw[ht'] at ha
     cases ha
     exact absurd hm' hm
    ·exact z3v h1 t ⟨e',he',ha⟩ hm
   next hm' =>
    simp only[y01,y07] at h1
    obtain⟨us,h2,vs,h3,rfl⟩:=h1
    rcases y09.mp he' with rfl|he'
    ·rw[ht'] at ha
     cases ha
     exact⟨us,h2,fun q z=>q (by have:=(List.append_eq_nil_iff.mp z).1;simpa using this)⟩
    ·obtain⟨xs,q1,q2⟩:=z3v h3 t ⟨e',he',ha⟩ hm
     exact⟨xs,q1,fun q z=>q2 q (List.append_eq_nil_iff.mp z).2⟩
  next hn =>
   rcases y09.mp he' with rfl|he'
   ·rw[hn] at ha
    cases ha
   ·exact z3v h1 t ⟨e',he',ha⟩ hm
theorem z9n {rec:List Int->Option (List (List Nat))} {pl:List Int} {h:Int}:∀{k:Nat} {E:List (Int×Int)} {ws:List (List Nat)},exts rec pl h k E=some ws->ws≠[]->∃t vs,Adj E h t/\t∉pl/\rec (pl++[t])=some vs/\vs≠[]
 | k,[],ws,e,hn=>by
  cases e
  exact absurd rfl hn
 | k,e::es,ws,h1,hne=>by
  have up:∀{y:Int},Adj es h y->Adj (e::es) h y:=fun⟨e',h1,h2⟩=>⟨e',y05 _ h1,h2⟩
  unfold exts at h1
  split at h1
  next t ht =>
   split at h1
   next =>
    obtain⟨t',vs,a,b,c,d⟩:=z9n h1 hne
    exact⟨t',vs,up a,b,c,d⟩
   next hm =>
    simp only[y01,y07] at h1
    obtain⟨us,h2,vs,h3,rfl⟩:=h1
    by_cases hu:us=[]
    ·subst hu
     obtain⟨t',vs',a,b,c,d⟩:=z9n h3 (by simpa using hne)
     exact⟨t',vs',up a,b,c,d⟩
    ·exact⟨t,us,⟨e,y0e,ht⟩,hm,h2,hu⟩
  next =>
   obtain⟨t',vs,a,b,c,d⟩:=z9n h1 hne
   exact⟨t',vs,up a,b,c,d⟩
theorem z5x {E:List (Int×Int)} {room:Int}:∀{p:List Int} {n:Nat} {pl:List Int} {cur:Int} {ws:List (List Nat)},Walk E cur p room->(cur::p).Nodup->(∀y∈p,y∉pl)->pl.getLast?=some cur->waysP E room n pl=some ws->ws≠[]
 | p,0,pl,cur,ws,_,_,_,_,h=>by cases h
 | [],n+1,pl,cur,ws,hw,_,_,hl,h=>by
  cases hw
  unfold waysP at h
  rw[hl] at h
  simp only[if_true] at h
  cases h
  simp
 | y::p,n+1,pl,cur,ws,hw,nd,hp,hl,h=>by
  cases hw with
  | cons a w =>
   unfold waysP at h
   rw[hl] at h
   simp only at h
   split at h
   next=>cases h;simp
   next =>
    obtain⟨vs,h1,h2⟩:=z3v h y a (hp y (by simp))
    have nd':=(y0r.mp nd).2
    refine h2 (z5x w nd' (fun z hz hm=>?_) (by simp) h1)
    rcases y10.mp hm with hm|hm
    ·exact hp z (y05 _ hz) hm
    ·have:z=y:=by simpa using hm
     subst this
     exact (y0r.mp nd').1 hz
theorem z5y {E:List (Int×Int)} {room:Int}:∀{n:Nat} {pl:List Int} {cur:Int} {ws:List (List Nat)},pl.getLast?=some cur->waysP E room n pl=some ws->ws≠[]->∃p,Walk E cur p room
 | 0,pl,cur,ws,_,h,_=>by cases h
 | n+1,pl,cur,ws,hl,h,hne=>by
  unfold waysP at h
  rw[hl] at h
  simp only at h
  split at h
  next e =>
   subst e
   exact⟨[],.nil _⟩
  next =>
   obtain⟨t,vs,a,b,c,d⟩:=z9n h hne
   obtain⟨p,w⟩:=z5y (pl:=pl++[t]) (cur:=t) (by simp) c d
   exact⟨t::p,.cons a w⟩
theorem zfe {E:List (Int×Int)} {x y z:Int} {p:List Int} (w:Walk E x p y) (a:Adj E y z):Walk E x (p++[z]) z:=by
 induction w with
 | nil x=>exact .cons a (.nil z)
 | cons b _ ih=>exact .cons b (ih a)
theorem z87 {E:List (Int×Int)} {x y:Int} {p:List Int} (w:Walk E x p y) (r:Reach E x):Reach E y:=by
 induction w with
 | nil x=>exact r
 | cons a _ ih=>exact ih (.step r a)
theorem zih {E:List (Int×Int)} {x z y:Int} {p:List Int} (w:Walk E x p z) (nd:(x::p).Nodup) (hy:y∈x::p):∃q,Walk E x q y/\(x::q).Nodup:=by
 induction w with
 | nil x =>
  have:y=x:=by simpa using hy
  subst this
  exact⟨[],.nil _,by simp⟩
 | @cons x u z p a w ih =>
  by_cases e:y=x
  ·subst e
   exact⟨[],.nil _,by simp⟩
  ·have nd':=y0r.mp nd
   have sub:∀{q:List Int},Walk E u q y->True:=fun _=>trivial
   obtain⟨q,w',ndq,hs⟩:∃q,Walk E u q y/\(u::q).Nodup/\∀t∈u::q,t∈u::p:=by
    have hy':y∈u::p:=by
     rcases y09.mp hy with h|h
     ·exact absurd h e
     ·exact h
    clear ih sub a nd hy e
    have nd2:=nd'.2
    clear nd'
    induction w with
    | nil u =>
     have:y=u:=by simpa using hy'
     subst this
     exact⟨[],.nil _,by simp,by simp⟩
    | @cons u v z p b w ih =>
     by_cases e:y=u
     ·subst e
      exact⟨[],.nil _,by simp,by simp⟩
     ·have n3:=y0r.mp nd2
      obtain⟨q,w',ndq,hs⟩:=ih (by
       rcases y09.mp hy' with h|h
       ·exact absurd h e
       ·exact h) n3.2
      refine⟨v::q,.cons b w',y0r.mpr ⟨fun h=>n3.1 (hs u h),ndq⟩,fun t ht=>?_⟩
      rcases y09.mp ht with rfl|ht
      ·simp
      ·exact y05 _ (hs t ht)
   exact⟨u::q,.cons a w',y0r.mpr ⟨fun h=>nd'.1 (hs x h),ndq⟩⟩
theorem z8h {E:List (Int×Int)} {x:Int} (r:Reach E x):∃p,Walk E 0 p x/\((0:Int)::p).Nodup:=by
 induction r with
 | zero=>exact⟨[],.nil _,by simp⟩
 | @step x y _ a ih =>
  obtain⟨p,w,nd⟩:=ih
  by_cases h:y∈(0:Int)::p
  ·exact zih w nd h
  ·refine⟨p++[y],zfe w a,?_⟩
   rw[<- y2h,y1m]
   refine⟨nd,by simp,fun s hs t ht=>?_⟩
   have:t=y:=by simpa using ht
   subst this
   exact fun e=>h (e▸hs)
theorem ways_iff {E:List (Int×Int)} {room:Int} {n:Nat} {ws:List (List Nat)} (h:waysP E room n [0]=some ws):ws≠[] <-> Reach E room:=by
 constructor
 ·intro hne
  obtain⟨p,w⟩:=z5y (cur:=0) (by simp) h hne
  exact z87 w .zero
 ·intro r
  obtain⟨p,w,nd⟩:=z8h r
  refine z5x w nd (fun y hy hm=>?_) (by simp) h
  have:y=0:=by simpa using hm
  subst this
  exact (y0r.mp nd).1 hy
end Hg
end
section
namespace Ho
open PySem D
abbrev Op:=Int×Int×Option Str
def zT:Option Str->T
 | none=>.none
 | some x=>.str x
def opT (o:Op):T:=.tuple [.int o.1,.int o.2.1,zT o.2.2]
def z02 (R:Int) (os:List Op):T:=.tuple [.int R,.tuple (os.map opT)]
def z1l (ns:List Str):T:=.tuple (ns.map .str)
def free (ns:List Str) (o:Op):Bool:=match o.2.2 with
 | none=>true
 | some x=>decide (x∈ns)
def edge (o:Op):Int×Int:=(o.1,o.2.1)
def oT:Option Int->T
 | some t=>.int t
 | none=>.none
theorem z5m (a b:Int):oEq (.int a) (.int b)=some (.bool (decide (a=b))):=by
 simp[oEq,zgl,y20,Bool.beq_eq_decide_eq]
theorem z08 {a b:Fs} {ε ε':Ev} (h:a ε=some (.nx ε')):seq a b ε=b ε':=by
 simp only[seq,h,y0p]
theorem zbg (o:Op) (h:Int):z0z [opT o,.int h]=some (oT (Hg.adj (edge o) h)):=by
 obtain⟨a,b,z⟩:=o
 by_cases h1:a=h
 ·simp[z0z,z6f,opT,runF,seq,iff,tstB,tstL,andT,orT,notT,cstT,ofT,op1,op2,opN,args,cst,nm,nmV,rtn,skip,asg,asgN,asgT,par,z06,z12,oIsN,z17,oIx,atZ,ixOf,gNm,gTu,gAll,z0d,comp,z1m,z5m,Hg.adj,edge,oT,h1]
 ·by_cases h2:b=h
  ·simp[z0z,z6f,opT,runF,seq,iff,tstB,tstL,andT,orT,notT,cstT,ofT,op1,op2,opN,args,cst,nm,nmV,rtn,skip,asg,asgN,asgT,par,z06,z12,oIsN,z17,oIx,atZ,ixOf,gNm,gTu,gAll,z0d,comp,z1m,z5m,Hg.adj,edge,oT,h1,h2]
  ·simp[z0z,z6f,opT,runF,seq,iff,tstB,tstL,andT,orT,notT,cstT,ofT,op1,op2,opN,args,cst,nm,nmV,rtn,skip,asg,asgN,asgT,par,z06,z12,oIsN,z17,oIx,atZ,ixOf,gNm,gTu,gAll,z0d,comp,z1m,z5m,Hg.adj,edge,oT,h1,h2]
def ze9 (ns:List Str):Prop:=∀x∈ns,(y1x x).canLay0=true
def zng (os:List Op):Prop:=∀o∈os,∀x,o.2.2=some x->(y1x x).canLay0=true
theorem zb4 {ns:List Str} (hn:ze9 ns):∀(os:List Op),zng os->∀j,z1k (gNm 0) (orT (tstB (op1 oIsN (op2 oIx (nm 0) (cst (.int 2))))) (tstB (op2 (oIn false) (op2 oIx (nm 0) (cst (.int 2))) (nm 1)))) (nmV 0) (os.map opT) [j,some (.imm (z1l ns))]=some ((os.filter (free ns)).map opT)
 | [],_,j=>rfl
 | o::os,ho,j=>by
  obtain⟨a,b,z⟩:=o
  have ih:=zb4 hn os (fun o h=>ho o (by simp[h])) (some (.imm (opT (a,b,z))))
  cases z with
  | none =>
   simp[z1k,runF,seq,iff,tstB,tstL,andT,orT,notT,cstT,ofT,op1,op2,opN,args,cst,nm,nmV,rtn,skip,asg,asgN,asgT,par,z06,z12,oIsN,z17,oIx,atZ,ixOf,gNm,gTu,gAll,z0d,comp,z1m,opT,zT,free] at ih ⊢
   exact⟨_,ih,rfl⟩
  | some x =>
   have hx:=ho (a,b,some x) (by simp) x rfl
   by_cases hm:x∈ns
   ·simp[z1k,runF,seq,iff,tstB,tstL,andT,orT,notT,cstT,ofT,op1,op2,opN,args,cst,nm,nmV,rtn,skip,asg,asgN,asgT,par,z06,z12,oIsN,z17,oIx,atZ,ixOf,gNm,gTu,gAll,z0d,comp,z1m,opT,zT,free,z1l,zgq _ _ _ hx hn,hm] at ih ⊢
    exact ih
   ·simp[z1k,runF,seq,iff,tstB,tstL,andT,orT,notT,cstT,ofT,op1,op2,opN,args,cst,nm,nmV,rtn,skip,asg,asgN,asgT,par,z06,z12,oIsN,z17,oIx,atZ,ixOf,gNm,gTu,gAll,z0d,comp,z1m,opT,zT,free,z1l,zgq _ _ _ hx hn,hm] at ih ⊢
    exact ih
def kv (r:List Int):List (Key×T):=r.map fun x=>(Sum.inl x,.bool true)
theorem zc4 (r:List Int) (t:Int):hasD (kv r) (.inl t)=decide (t∈r):=by
 induction r with
 | nil=>rfl
 | cons a r ih =>
  unfold hasD kv at ih ⊢
  rw[y0d,List.any_cons,ih]
  by_cases e:a=t
  ·simp[e]
  ·have e':¬t=a:=fun z=>e z.symm
   simp[e,e']
theorem zm1 {r:List Int} {t:Int} (h:t∉r):putD (kv r) (.inl t) (.bool true)=kv (r++[t]):=by
 have:=zc4 r t
 unfold hasD at this
 unfold putD
 rw[this]
 simp[h,kv]
def bIn:Fs:=seq (asg 7 (opN z0z [(nmV 6),(nmV 5)]))
  (iff (andT (tstB (op1 z17 (nm 7))) (tstB (dIn true (nm 7) 3))) (seq (dPut 3 (nm 7) (cst (.bool true)))
  (app 4 (nmV 7))) skip)
def envU (h n u:T) (r w:List Int) (here:Option Sl) (j6 j7:Option Sl):Ev:=[some (.imm h),some (.imm n),some (.imm u),some (.dic (kv r)),some (.own (w.map .int)),here,j6,j7]
theorem zmx (h n u:T) (r w:List Int) (here:Int) (o:Op) (j7:Option Sl) (hr:r.length<16777216) (hw:w.length<16777216) :
  bIn (envU h n u r w (some (.imm (.int here))) (some (.imm (opT o))) j7)=some (.nx (match Hg.adj (edge o) here with
   | some t=>if t∈r then envU h n u r w (some (.imm (.int here))) (some (.imm (opT o))) (some (.imm (.int t))) else envU h n u (r++[t]) (w++[t]) (some (.imm (.int here))) (some (.imm (opT o))) (some (.imm (.int t)))
   | none=>envU h n u r w (some (.imm (.int here))) (some (.imm (opT o))) (some (.imm .none)))):=by
 have hb:=zbg o here
 cases ha:Hg.adj (edge o) here with
 | none =>
  rw[ha] at hb
  simp[bIn,envU,runF,seq,iff,tstB,tstL,andT,orT,notT,cstT,ofT,op1,op2,opN,args,cst,nm,nmV,rtn,skip,asg,asgN,asgT,par,z06,z12,oIsN,z17,oIx,atZ,ixOf,gNm,gTu,gAll,z0d,comp,z1m,hb,oT]
 | some t =>
  rw[ha] at hb
  by_cases hm:t∈r
  ·simp[bIn,envU,runF,seq,iff,tstB,tstL,andT,orT,notT,cstT,ofT,op1,op2,opN,args,cst,nm,nmV,rtn,skip,asg,asgN,asgT,par,z06,z12,oIsN,z17,oIx,atZ,ixOf,gNm,gTu,gAll,z0d,comp,z1m,hb,oT,dIn,keyOf,dic?,zc4,hm]
  ·have hk:(kv r).length=r.length:=by simp[kv]
   simp[bIn,envU,runF,seq,iff,tstB,tstL,andT,orT,notT,cstT,ofT,op1,op2,opN,args,cst,nm,nmV,rtn,skip,asg,asgN,asgT,par,z06,z12,oIsN,z17,oIx,atZ,ixOf,gNm,gTu,gAll,z0d,comp,z1m,hb,oT,dIn,dPut,app,keyOf,dic?,zc4,zm1 hm,hm,hk,hr,hw,big]
theorem zdl (h n u:T) (here:Int):∀(os:List Op) (r w:List Int) (j6 j7:Option Sl),r.length+os.length<16777216->w.length+os.length<16777216 ->
  ∃j6' j7',forL (gNm 6) bIn (os.map opT) (envU h n u r w (some (.imm (.int here))) j6 j7)=some (.nx (envU h n u (Hg.inner here (os.map edge) r w).1 (Hg.inner here (os.map edge) r w).2 (some (.imm (.int here))) j6' j7'))
 | [],r,w,j6,j7,_,_=>⟨j6,j7,rfl⟩
 | o::os,r,w,j6,j7,hr,hw=>by
  simp only[y0w] at hr hw
  have st:=zmx h n u r w here o j7 (by omega) (by omega)
  have e0:gNm 6 (opT o) (envU h n u r w (some (.imm (.int here))) j6 j7)=some (envU h n u r w (some (.imm (.int here))) (some (.imm (opT o))) j7):=rfl
  simp only[y0d,forL,e0,y0p,st,Hg.inner]
  cases ha:Hg.adj (edge o) here with
  | none=>exact zdl h n u here os r w _ _ (by omega) (by omega)
  | some t =>
   by_cases hm:t∈r
   ·simp only[hm,if_true]
    exact zdl h n u here os r w _ _ (by omega) (by omega)
   ·simp only[hm,if_false]
    exact zdl h n u here os (r++[t]) (w++[t]) _ _ (by simp;omega) (by simp;omega)
def bOut:Fs:=seq (pop 5 4)
  (for_ (z0d (nmV 2)) (gNm 6)
  bIn)
theorem z3s (h:Int):∀(E:List (Int×Int)) (r w:List Int),r.length<=(Hg.inner h E r w).1.length/\(Hg.inner h E r w).2.length+r.length=(Hg.inner h E r w).1.length+w.length
 | [],r,w=>⟨y0o _,by simp[Hg.inner];omega⟩
 | e::E,r,w=>by
  unfold Hg.inner
  split
  next t _ =>
   split
   ·exact z3s h E r w
   ·have:=z3s h E (r++[t]) (w++[t])
    simp only[y21,y0w,y2d] at this
    omega
  next=>exact z3s h E r w
theorem zi5 {E:List (Int×Int)}:∀(n:Nat) (r w:List Int) (r':List Int),Hg.bfs E n r w=some r'->r.length<=r'.length
 | 0,r,w,r',e=>by cases e
 | n+1,r,w,r',e=>by
  unfold Hg.bfs at e
  split at e
  ·cases e
   exact y0o _
  ·exact y1p (z3s _ E r _).1 (zi5 n _ _ r' e)
theorem zgi (h n:T) (os:List Op) (hl:os.length<=10) (r':List Int) (h8:r'.length<=8):∀(k:Nat) (r w:List Int) (j5 j6 j7:Option Sl),Hg.bfs (os.map edge) k r w=some r'->w.length<=r.length ->
  ∃j5' j6' j7',whl (tstL (nm 4)) bOut k (envU h n (.list (os.map opT)) r w j5 j6 j7)=some (.nx (envU h n (.list (os.map opT)) r' [] j5' j6' j7'))
 | 0,r,w,j5,j6,j7,e,_=>by cases e
 | k+1,r,w,j5,j6,j7,e,hw=>by
  have hr:=zi5 _ r w r' e
  unfold Hg.bfs at e
  unfold whl
  cases hw':w.getLast? with
  | none =>
   rw[hw'] at e
   cases e
   have:w=[]:=List.getLast?_eq_none_iff.mp hw'
   subst this
   refine⟨j5,j6,j7,?_⟩
   simp[envU,tstL,nm]
  | some here =>
   rw[hw'] at e
   dsimp only at e
   have hne:w≠[]:=fun z=>by subst z;cases hw'
   have ht:tstL (nm 4) (envU h n (.list (os.map opT)) r w j5 j6 j7)=some true:=by
    simp[envU,tstL,nm,hne]
   have hp:pop 5 4 (envU h n (.list (os.map opT)) r w j5 j6 j7)=some (.nx (envU h n (.list (os.map opT)) r w.dropLast (some (.imm (.int here))) j6 j7)):=by
    have:(w.map PyData.int).getLast?=some (.int here):=by rw[List.getLast?_map,hw'];rfl
    simp[pop,envU,this,List.map_dropLast]
   have hd:w.dropLast.length+1=w.length:=by
    rw[List.length_dropLast]
    have:=List.length_pos_iff.mpr hne
    omega
   obtain⟨j6',j7',hs⟩:=zdl h n (.list (os.map opT)) here os r w.dropLast j6 j7 (by omega) (by omega)
   have hit:z0d (nmV 2) (envU h n (.list (os.map opT)) r w.dropLast (some (.imm (.int here))) j6 j7)=some (os.map opT):=by
    simp[z0d,nmV,envU]
   have hb:bOut (envU h n (.list (os.map opT)) r w j5 j6 j7)=some (.nx (envU h n (.list (os.map opT)) (Hg.inner here (os.map edge) r w.dropLast).1 (Hg.inner here (os.map edge) r w.dropLast).2 (some (.imm (.int here))) j6' j7')):=by
    simp only[bOut,seq,hp,y0p,for_,hit,hs]
   have hln:=z3s here (os.map edge) r w.dropLast
   obtain⟨a,b,c,z⟩:=zgi h n os hl r' h8 k _ _ (some (.imm (.int here))) j6' j7' e (by omega)
   exact⟨a,b,c,by simp only[ht,y0p,if_true,hb,z]⟩
def z0t (ns:List Str) (os:List Op):List (Int×Int):=(os.filter (free ns)).map edge
theorem zha (r:List Int):intsOf ((kv r).map fun p=>keyT p.1)=some r:=by
 induction r with
 | nil=>rfl
 | cons a r ih =>
  simp only[kv,y0d,keyT,intsOf] at ih ⊢
  rw[ih]
  rfl
theorem zff {ns:List Str} (hn:ze9 ns) {R:Int} {os:List Op} (ho:zng os) (hl:os.length<=10) {r:List Int} (hb:Hg.bfs (z0t ns os) 1000 [0] [0]=some r) (h8:r.length<=8) :
  z0v [z02 R os,z1l ns]=some (.tuple ((sortI r).map .int)):=by
 have hf:(os.filter (free ns)).length<=10:=y1p (y26 _ _) hl
 obtain⟨j5,j6,j7,hs⟩:=zgi (z02 R os) (z1l ns) (os.filter (free ns)) hf r h8 1000 [0] [0] none none none hb (by simp)
 have hc:=zb4 hn os ho none
 have hcomp:asg 2 (comp 1 [1] (z0d (op2 oIx (nm 0) (cst (.int 1)))) (gNm 0) (orT (tstB (op1 oIsN (op2 oIx (nm 0) (cst (.int 2))))) (tstB (op2 (oIn false) (op2 oIx (nm 0) (cst (.int 2))) (nm 1)))) (nmV 0))
   [some (.imm (z02 R os)),some (.imm (z1l ns)),none,none,none,none,none,none]=some (.nx [some (.imm (z02 R os)),some (.imm (z1l ns)),some (.imm (.list ((os.filter (free ns)).map opT))),none,none,none,none,none]):=by
  have hit:z0d (op2 oIx (nm 0) (cst (.int 1))) [some (.imm (z02 R os)),some (.imm (z1l ns)),none,none,none,none,none,none]=some (os.map opT):=by
   simp[z0d,op2,nm,z02,oIx,cst,atZ,ixOf]
  have hcap:z1m 1 [1] [some (.imm (z02 R os)),some (.imm (z1l ns)),none,none,none,none,none,none]=[none,some (.imm (z1l ns))]:=rfl
  simp only[asg,comp,hit,y0p,hcap,hc,y13]
  rw[if_pos (by unfold big;omega)]
  rfl
 have h2:dNew 3 (cst (.int 0)) (cst (.bool true)) [some (.imm (z02 R os)),some (.imm (z1l ns)),some (.imm (.list ((os.filter (free ns)).map opT))),none,none,none,none,none]=some (.nx [some (.imm (z02 R os)),some (.imm (z1l ns)),some (.imm (.list ((os.filter (free ns)).map opT))),some (.dic (kv [0])),none,none,none,none]):=rfl
 have h3:asgN 4 (z12 [(cst (.int 0))]) [some (.imm (z02 R os)),some (.imm (z1l ns)),some (.imm (.list ((os.filter (free ns)).map opT))),some (.dic (kv [0])),none,none,none,none]=some (.nx (envU (z02 R os) (z1l ns) (.list ((os.filter (free ns)).map opT)) [0] [0] none none none)):=by
  simp[asgN,z12,args,cst,big,envU]
 have h4:rtn (opN z57 [(z7o 3)]) (envU (z02 R os) (z1l ns) (.list ((os.filter (free ns)).map opT)) r [] j5 j6 j7)=some (.rt (.tuple ((sortI r).map .int))):=by
  have hk:(kv r).length=r.length:=by simp[kv]
  have hdc:dic? 3 (envU (z02 R os) (z1l ns) (.list ((os.filter (free ns)).map opT)) r [] j5 j6 j7)=some (kv r):=rfl
  simp only[rtn,opN,args,z7o,hdc,y0p,hk]
  rw[if_pos (by omega),zha]
  simp[z57]
 have e0:z0v [z02 R os,z1l ns]=(z9t [some (.imm (z02 R os)),some (.imm (z1l ns)),none,none,none,none,none,none]).bind fun o=>match o with|.rt t=>some t|.nx _=>some .none|_=>none:=rfl
 rw[e0]
 have hs2:whl (tstL (nm 4)) (seq (pop 5 4)
  (for_ (z0d (nmV 2)) (gNm 6)
  (seq (asg 7 (opN z0z [(nmV 6),(nmV 5)]))
  (iff (andT (tstB (op1 z17 (nm 7))) (tstB (dIn true (nm 7) 3))) (seq (dPut 3 (nm 7) (cst (.bool true)))
  (app 4 (nmV 7))) skip)))) 1000 (envU (z02 R os) (z1l ns) (.list ((os.filter (free ns)).map opT)) [0] [0] none none none)=some (.nx (envU (z02 R os) (z1l ns) (.list ((os.filter (free ns)).map opT)) r [] j5 j6 j7)):=hs
 unfold z9t
 rw[z08 hcomp,z08 h2,z08 h3,z08 hs2,h4]
 rfl
end Ho
end
section
namespace Ho
open PySem D
def wT (w:List Nat):T:=.tuple (w.map fun (k:Nat)=>PyData.int (k:Int))
noncomputable def bW (rec:List T->Option T):Fs:=(seq (asg 6 (opN z0z [(nmV 5),(op2 oIx (nm 2) (op1 oNeg (cst (.int 1))))]))
  (iff (andT (tstB (op1 z17 (nm 6))) (tstB (op2 (oIn true) (nm 6) (nm 2)))) (ext 3 (comp 1 [4] (z0d (opN rec [(nmV 0),(nmV 1),(op2 oAdd (nm 2) (z06 [(nmV 6)]))])) (gNm 0) (cstT true) (op2 oAdd (z06 [(nmV 1)]) (nm 0)))) skip))
noncomputable def envW (h:T) (room:Int) (pl:List Int) (acc:List (List Nat)) (j4 j5 j6:Option Sl):Ev:=[some (.imm h),some (.imm (.int room)),some (.imm (.tuple (pl.map .int))),some (.own (acc.map wT)),j4,j5,j6]
theorem ze4 (k:Nat):∀(ws:List (List Nat)) (j:Option Sl),(∀w∈ws,w.length<=100)->z1k (gNm 0) (cstT true) (op2 oAdd (z06 [(nmV 1)]) (nm 0)) (ws.map wT) [j,some (.imm (.int k))]=some ((ws.map fun w=>k::w).map wT)
 | [],j,_=>rfl
 | w::ws,j,h=>by
  have ih:=ze4 k ws (some (.imm (wT w))) fun w hw=>h w (by simp[hw])
  have hw:=h w (by simp)
  have e1:op2 oAdd (z06 [(nmV 1)]) (nm 0) [some (.imm (wT w)),some (.imm (.int k))]=some (wT (k::w)):=by
   have:1+w.length<=16777216:=by omega
   simp[op2,z06,args,nmV,nm,big,wT,oAdd,this]
  have e0:gNm 0 (wT w) [j,some (.imm (.int k))]=some [some (.imm (wT w)),some (.imm (.int k))]:=rfl
  simp only[y0d,z1k,e0,y0p,cstT,if_true,e1,ih,y1r]
theorem zgz {pl:List Int} {h:Int} (hp:pl.getLast?=some h):atZ (pl.map PyData.int) (-1)=some (.int h):=by
 have hne:pl≠[]:=fun z=>by subst z;cases hp
 have hl:=List.length_pos_iff.mpr hne
 have hx:ixOf (pl.map PyData.int).length (-1)=some (pl.length - 1):=by
  unfold ixOf
  rw[if_neg (by decide),y13,if_pos (by omega)]
  congr 1
  omega
 unfold atZ
 rw[hx]
 simp only[y0p,y14]
 rw[<- List.getLast?_eq_getElem?,hp]
 rfl
theorem znh {rec:List T->Option T} {recP:List Int->Option (List (List Nat))} (hT:T) (room:Int) (pl:List Int) (h:Int) (hp:pl.getLast?=some h) (hpl:pl.length<=100)
  (o:Op) (k:Nat) (acc:List (List Nat)) (j6:Option Sl) (vs:List (List Nat))
  (hv:(match Hg.adj (edge o) h with|some t=>if t∈pl then some [] else (recP (pl++[t])).map fun ws=>ws.map fun w=>k::w|none=>some [])=some vs)
  (hr:∀t ws,t∉pl->recP (pl++[t])=some ws->ws.length<=vs.length->rec [hT,.int room,.tuple ((pl++[t]).map .int)]=some (.list (ws.map wT))/\∀w∈ws,w.length<=100) (hz:acc.length+vs.length<=16777216) :
  ∃j6',bW rec (envW hT room pl acc (some (.imm (.int k))) (some (.imm (opT o))) j6)=some (.nx (envW hT room pl (acc++vs) (some (.imm (.int k))) (some (.imm (opT o))) j6')):=by
 have hb:=zbg o h
 have hi:=zgz hp
 have e1:opN z0z [(nmV 5),(op2 oIx (nm 2) (op1 oNeg (cst (.int 1))))] (envW hT room pl acc (some (.imm (.int k))) (some (.imm (opT o))) j6)=some (oT (Hg.adj (edge o) h)):=by
  have:op2 oIx (nm 2) (op1 oNeg (cst (.int 1))) (envW hT room pl acc (some (.imm (.int k))) (some (.imm (opT o))) j6)=some (.int h):=by
   simp only[op2,nm,envW,y2b,y2a,y0p,op1,cst,oNeg,oIx]
   exact hi
  have n5:nmV 5 (envW hT room pl acc (some (.imm (.int k))) (some (.imm (opT o))) j6)=some (opT o):=rfl
  simp only[opN,args,this,n5,y0p,y1r]
  exact hb
 have e2:asg 6 (opN z0z [(nmV 5),(op2 oIx (nm 2) (op1 oNeg (cst (.int 1))))]) (envW hT room pl acc (some (.imm (.int k))) (some (.imm (opT o))) j6)=some (.nx (envW hT room pl acc (some (.imm (.int k))) (some (.imm (opT o))) (some (.imm (oT (Hg.adj (edge o) h)))))):=by
  simp only[asg,e1,y1r]
  rfl
 refine⟨some (.imm (oT (Hg.adj (edge o) h))),?_⟩
 unfold bW
 rw[z08 e2]
 cases ha:Hg.adj (edge o) h with
 | none =>
  rw[ha] at hv
  cases hv
  simp[iff,andT,tstB,op1,z17,nm,envW,oT,skip]
 | some t =>
  rw[ha] at hv
  by_cases hm:t∈pl
  ·simp only[hm,if_true] at hv
   cases hv
   simp[iff,andT,tstB,op1,op2,z17,nm,envW,oT,skip,z9h,hm]
  ·simp only[hm,if_false,y07] at hv
   obtain⟨ws,hws,rfl⟩:=hv
   simp only[y13] at hz hr
   obtain⟨h1,h2⟩:=hr t ws hm hws (y0o _)
   have c1:andT (tstB (op1 z17 (nm 6))) (tstB (op2 (oIn true) (nm 6) (nm 2))) (envW hT room pl acc (some (.imm (.int k))) (some (.imm (opT o))) (some (.imm (oT (some t)))))=some true:=by
    simp[andT,tstB,op1,op2,z17,nm,envW,oT,z9h,hm]
   have a1:op2 oAdd (nm 2) (z06 [(nmV 6)]) (envW hT room pl acc (some (.imm (.int k))) (some (.imm (opT o))) (some (.imm (oT (some t)))))=some (.tuple ((pl++[t]).map .int)):=by
    have:pl.length+1<=16777216:=by omega
    simp[op2,nm,nmV,envW,z06,args,big,oT,oAdd,this]
   have it1:z0d (opN rec [(nmV 0),(nmV 1),(op2 oAdd (nm 2) (z06 [(nmV 6)]))]) (envW hT room pl acc (some (.imm (.int k))) (some (.imm (opT o))) (some (.imm (oT (some t)))))=some (ws.map wT):=by
    have n0:nmV 0 (envW hT room pl acc (some (.imm (.int k))) (some (.imm (opT o))) (some (.imm (oT (some t)))))=some hT:=rfl
    have n1:nmV 1 (envW hT room pl acc (some (.imm (.int k))) (some (.imm (opT o))) (some (.imm (oT (some t)))))=some (.int room):=rfl
    simp only[z0d,opN,args,a1,n0,n1,y0p,y1r,h1]
   have cp:comp 1 [4] (z0d (opN rec [(nmV 0),(nmV 1),(op2 oAdd (nm 2) (z06 [(nmV 6)]))])) (gNm 0) (cstT true) (op2 oAdd (z06 [(nmV 1)]) (nm 0)) (envW hT room pl acc (some (.imm (.int k))) (some (.imm (opT o))) (some (.imm (oT (some t)))))=some (.list ((ws.map fun w=>k::w).map wT)):=by
    simp only[comp,it1,y0p,y13]
    rw[if_pos (by unfold big;omega)]
    have:z1m 1 [4] (envW hT room pl acc (some (.imm (.int k))) (some (.imm (opT o))) (some (.imm (oT (some t)))))=[none,some (.imm (.int k))]:=rfl
    rw[this,ze4 k ws none h2]
    rfl
   simp only[iff,c1,y0p,if_true,ext,cp]
   simp only[envW,y2b,y2a,y13]
   rw[if_pos (by unfold big;omega)]
   simp
theorem zhm {rec:List T->Option T} {recP:List Int->Option (List (List Nat))} (hT:T) (room:Int) (pl:List Int) (h:Int) (hp:pl.getLast?=some h) (hpl:pl.length<=100) (N:Nat) (hN:N<=16777216)
  (hr:∀t ws,t∉pl->recP (pl++[t])=some ws->ws.length<=N->rec [hT,.int room,.tuple ((pl++[t]).map .int)]=some (.list (ws.map wT))/\∀w∈ws,w.length<=100) :
  ∀(os:List Op) (k:Nat) (acc vs:List (List Nat)) (j4 j5 j6:Option Sl),Hg.exts recP pl h k (os.map edge)=some vs->acc.length+vs.length<=N ->
   ∃j4' j5' j6',forL (gTu [(gNm 4),(gNm 5)]) (bW rec) (((os.map opT).zipIdx k).map fun p=>.tuple [.int p.2,p.1]) (envW hT room pl acc j4 j5 j6)=some (.nx (envW hT room pl (acc++vs) j4' j5' j6'))
 | [],k,acc,vs,j4,j5,j6,e,_=>by
  cases e
  exact⟨j4,j5,j6,by simp[forL]⟩
 | o::os,k,acc,vs,j4,j5,j6,e,hz=>by
  have key:∃v1 v2,(match Hg.adj (edge o) h with|some t=>if t∈pl then some [] else (recP (pl++[t])).map fun ws=>ws.map fun w=>k::w|none=>some [])=some v1/\Hg.exts recP pl h (k+1) (os.map edge)=some v2/\vs=v1++v2:=by
   rw[y0d] at e
   unfold Hg.exts at e
   cases ha:Hg.adj (edge o) h with
   | none =>
    rw[ha] at e
    exact⟨[],vs,rfl,e,rfl⟩
   | some t =>
    rw[ha] at e
    by_cases hm:t∈pl
    ·simp only[hm,if_true] at e ⊢
     exact⟨[],vs,rfl,e,rfl⟩
    ·simp only[hm,if_false,y01,y07] at e ⊢
     obtain⟨ws,h1,v2,h2,rfl⟩:=e
     exact⟨_,v2,⟨ws,h1,rfl⟩,h2,rfl⟩
  obtain⟨v1,v2,h1,h2,rfl⟩:=key
  rw[y21] at hz
  obtain⟨j6',hs⟩:=znh (rec:=rec) (recP:=recP) hT room pl h hp hpl o k acc j6 v1 h1 (fun t ws a b c=>hr t ws a b (by omega)) (by omega)
  obtain⟨a,b,c,ih⟩:=zhm (rec:=rec) (recP:=recP) hT room pl h hp hpl N hN hr os (k+1) (acc++v1) v2 (some (.imm (.int k))) (some (.imm (opT o))) j6' h2 (by rw[y21];omega)
  refine⟨a,b,c,?_⟩
  have e0:gTu [(gNm 4),(gNm 5)] (.tuple [.int k,opT o]) (envW hT room pl acc j4 j5 j6)=some (envW hT room pl acc (some (.imm (.int k))) (some (.imm (opT o))) j6):=rfl
  rw[y0d,List.zipIdx_cons,y0d]
  simp only[forL,e0,y0p,hs]
  rw[ih,List.append_assoc]
theorem z9v {E:List (Int×Int)} {room:Int}:∀(n:Nat) (pl:List Int) (ws:List (List Nat)),Hg.waysP E room n pl=some ws->∀w∈ws,w.length<=n:=by
 have ex:∀(n:Nat) (rec:List Int->Option (List (List Nat))) (pl:List Int) (h:Int),(∀q ws,rec q=some ws->∀w∈ws,w.length<=n)->∀(E:List (Int×Int)) (k:Nat) (ws:List (List Nat)),Hg.exts rec pl h k E=some ws->∀w∈ws,w.length<=n+1:=by
  intro n rec pl h hr E
  induction E with
  | nil =>
   intro k ws e w hw
   cases e
   cases hw
  | cons e0 E ih =>
   intro k ws e w hw
   unfold Hg.exts at e
   split at e
   ·split at e
    ·exact ih _ _ e w hw
    ·simp only[y01,y07] at e
     obtain⟨us,h1,v2,h2,rfl⟩:=e
     rcases y10.mp hw with q|q
     ·obtain⟨u,hu,rfl⟩:=y0m.mp q
      have:=hr _ _ h1 u hu
      simp
      omega
     ·exact ih _ _ h2 w q
   ·exact ih _ _ e w hw
 intro n
 induction n with
 | zero =>
  intro pl ws e
  cases e
 | succ n ih =>
  intro pl ws e w hw
  unfold Hg.waysP at e
  split at e
  ·cases e
  ·split at e
   ·cases e
    simp at hw
    subst hw
    simp
   ·exact ex n _ _ _ (fun q ws e=>ih q ws e) _ _ _ e w hw
theorem z85 {R:Int} {os:List Op} {room:Int}:∀(n:Nat) (pl:List Int) (ws:List (List Nat)),n+pl.length<=90->Hg.waysP (os.map edge) room n pl=some ws->ws.length<=16777216 ->
  z1d n [z02 R os,.int room,.tuple (pl.map .int)]=some (.list (ws.map wT))
 | 0,pl,ws,hn,e,_=>by cases e
 | n+1,pl,ws,hn,e,hz=>by
  have e0:z1d (n+1) [z02 R os,.int room,.tuple (pl.map .int)]=(z5g (z1d n) [some (.imm (z02 R os)),some (.imm (.int room)),some (.imm (.tuple (pl.map .int))),none,none,none,none]).bind fun o=>match o with|.rt t=>some t|.nx _=>some .none|_=>none:=rfl
  rw[e0]
  unfold Hg.waysP at e
  cases hp:pl.getLast? with
  | none =>
   rw[hp] at e
   cases e
  | some h =>
   rw[hp] at e
   dsimp only at e
   have hi:=zgz hp
   have c0:tstB (op2 oEq (op2 oIx (nm 2) (op1 oNeg (cst (.int 1)))) (nm 1)) [some (.imm (z02 R os)),some (.imm (.int room)),some (.imm (.tuple (pl.map .int))),none,none,none,none]=some (decide (h=room)):=by
    simp only[tstB,op2,nm,y2b,y2a,y0p,op1,cst,oNeg,oIx,hi,z5m]
   unfold z5g
   by_cases hr:h=room
   ·rw[if_pos hr] at e
    cases e
    simp only[seq,iff,c0,hr,y0p,decide_true,if_true,rtn,z12,z06,args,y1r]
    simp[big,wT]
   ·rw[if_neg hr] at e
    have s1:iff (tstB (op2 oEq (op2 oIx (nm 2) (op1 oNeg (cst (.int 1)))) (nm 1))) (rtn (z12 [(z06 [])])) skip [some (.imm (z02 R os)),some (.imm (.int room)),some (.imm (.tuple (pl.map .int))),none,none,none,none]=some (.nx [some (.imm (z02 R os)),some (.imm (.int room)),some (.imm (.tuple (pl.map .int))),none,none,none,none]):=by
     simp only[iff,c0,hr,y0p,decide_false,y1u,if_false,skip]
    have s2:asgN 3 (z12 []) [some (.imm (z02 R os)),some (.imm (.int room)),some (.imm (.tuple (pl.map .int))),none,none,none,none]=some (.nx (envW (z02 R os) room pl [] none none none)):=by
     simp[asgN,z12,args,big,envW]
    obtain⟨a,b,c,hs⟩:=zhm (rec:=z1d n) (recP:=Hg.waysP (os.map edge) room n) (z02 R os) room pl h hp (by omega) ws.length hz
     (fun t ws' _ h2 h3=>⟨z85 n (pl++[t]) ws' (by simp;omega) h2 (by omega),fun w hw=>y1p (z9v n _ _ h2 w hw) (by omega)⟩) os 0 [] ws none none none e (by simp)
    have it:z1r (z5o (op2 oIx (nm 0) (cst (.int 1)))) (envW (z02 R os) room pl [] none none none)=some (((os.map opT).zipIdx 0).map fun p=>.tuple [.int p.2,p.1]):=by
     simp[z1r,z5o,op2,nm,envW,z02,cst,oIx,atZ,ixOf,enum]
    have s3:for_ (z1r (z5o (op2 oIx (nm 0) (cst (.int 1))))) (gTu [(gNm 4),(gNm 5)]) (bW (z1d n)) (envW (z02 R os) room pl [] none none none)=some (.nx (envW (z02 R os) room pl ws a b c)):=by
     simp only[for_,it,y0p]
     exact hs
    rw[z08 s1,z08 s2]
    have s4:seq (for_ (z1r (z5o (op2 oIx (nm 0) (cst (.int 1))))) (gTu [(gNm 4),(gNm 5)]) (bW (z1d n))) (rtn (nm 3)) (envW (z02 R os) room pl [] none none none)=some (.rt (.list (ws.map wT))):=by
     rw[z08 s3]
     simp[rtn,nm,envW]
    have s5:=congrArg (fun x:Option Out=>x.bind fun o=>match o with|.rt t=>some t|.nx _=>some .none|_=>none) s4
    exact s5
theorem zlj {R:Int} {os:List Op} {room:Int} {ws:List (List Nat)} (h:Hg.waysP (os.map edge) room 20 [0]=some ws) (hz:ws.length<=16777216):z1e [z02 R os,.int room]=some (.tuple (ws.map wT)):=by
 have h1:=z85 (R:=R) 20 [0] ws (by decide) h hz
 have e0:z1e [z02 R os,.int room]=(zi9 [some (.imm (z02 R os)),some (.imm (.int room))]).bind fun o=>match o with|.rt t=>some t|.nx _=>some .none|_=>none:=rfl
 rw[e0]
 have a1:args [(nmV 0),(nmV 1),(z06 [(cst (.int 0))])] [some (.imm (z02 R os)),some (.imm (.int room))]=some [z02 R os,.int room,.tuple ([0].map .int)]:=by
  simp[args,nmV,z06,cst,big]
 simp only[zi9,rtn,opN,args] at a1 ⊢
 rw[a1]
 simp only[y0p,h1,y1r,z57]
end Ho
end
section
namespace Ho
open PySem D
def scriptT (ns:List Int):T:=.list (ns.map .int)
theorem zn9 (ns:List Int) (k:Nat):z1j [scriptT ns,.int k]=some (.int (ns.getD k 0)):=by
 by_cases h:k<ns.length
 ·have h':(k:Int)<(ns.length:Int):=by omega
  simp[z1j,z4x,scriptT,runF,seq,iff,tstB,tstL,andT,orT,notT,cstT,ofT,op1,op2,opN,args,cst,nm,nmV,rtn,skip,asg,asgN,asgT,par,z06,z12,oIsN,z17,oIx,atZ,ixOf,gNm,gTu,gAll,z0d,comp,z1m,oAdd,oSub,oMul,oDiv,oMod,oNeg,oLen,oMin,oMax,z57,z80,oInt,oLt,oLe,oGt,oGe,big,h,h',List.getD]
 ·have h':¬(k:Int)<(ns.length:Int):=by omega
  simp[z1j,z4x,scriptT,runF,seq,iff,tstB,tstL,andT,orT,notT,cstT,ofT,op1,op2,opN,args,cst,nm,nmV,rtn,skip,asg,asgN,asgT,par,z06,z12,oIsN,z17,oIx,atZ,ixOf,gNm,gTu,gAll,z0d,comp,z1m,oAdd,oSub,oMul,oDiv,oMod,oNeg,oLen,oMin,oMax,z57,z80,oInt,oLt,oLe,oGt,oGe,big,h,h',List.getD]
theorem z73 {i j:Int} (h:-(2 ^ 64)<j/\j<2 ^ 64):oMul (.int i) (.int j)=some (.int (i*j)):=by
 unfold oMul zjo
 simp only[decide_eq_true h.1,decide_eq_true h.2,Bool.and_self,Bool.or_true,if_true]
theorem z3r {i j:Int} (h:0<j):oMod (.int i) (.int j)=some (.int (i % j)):=if_pos h
theorem zdy {i j:Int} (h:0<j/\j<1073741824):oDiv (.int i) (.int j)=some (.int (i / j)):=if_pos h
theorem z62 {i j:Int}:oAdd (.int i) (.int j)=some (.int (i+j)):=rfl
theorem zdf (ns:List Int) (k:Nat):∃m:Int,0<=m/\z22 [scriptT ns,.int k]=some (.int m):=by
 have hc:=zn9 ns k
 have hd:0<=(ns.getD k 0+7919*(k:Int)+1)*48271 % 2147483647/\(ns.getD k 0+7919*(k:Int)+1)*48271 % 2147483647<2147483647:=⟨y2f _ (by decide),y2g _ (by decide)⟩
 generalize hx:(ns.getD k 0+7919*(k:Int)+1)*48271 % 2147483647=d at hd
 refine⟨(d*d+7*d+k) % 2147483629,y2f _ (by decide),?_⟩
 have e0:z22 [scriptT ns,.int k]=(z7u [some (.imm (scriptT ns)),some (.imm (.int k)),none]).bind fun o=>match o with|.rt t=>some t|.nx _=>some .none|_=>none:=rfl
 have m1:oMul (.int 7919) (.int k)=some (.int (7919*k)):=by
  unfold oMul zjo
  simp
 have n0:nmV 0 [some (.imm (scriptT ns)),some (.imm (.int k)),none]=some (scriptT ns):=rfl
 have n1:nmV 1 [some (.imm (scriptT ns)),some (.imm (.int k)),none]=some (.int k):=rfl
 have n1':nm 1 [some (.imm (scriptT ns)),some (.imm (.int k)),none]=some (.int k):=rfl
 have s1:asg 2 (op2 oMod (op2 oMul (op2 oAdd (op2 oAdd (opN z1j [(nmV 0),(nmV 1)]) (op2 oMul (cst (.int 7919)) (nm 1))) (cst (.int 1))) (cst (.int 48271))) (cst (.int 2147483647))) [some (.imm (scriptT ns)),some (.imm (.int k)),none]=some (.nx [some (.imm (scriptT ns)),some (.imm (.int k)),some (.imm (.int d))]):=by
  simp only[asg,op2,opN,args,n0,n1,n1',y0p,y1r,hc,cst,m1,z62,z73 (i:=ns.getD k 0+7919*(k:Int)+1) (j:=48271) (by decide),z3r (j:=2147483647) (by decide),hx]
  rfl
 have m2:oMul (.int d) (.int d)=some (.int (d*d)):=z73 (by omega)
 have m3:oMul (.int 7) (.int d)=some (.int (7*d)):=z73 (by omega)
 rw[e0]
 unfold z7u
 rw[z08 s1]
 have q2:nm 2 [some (.imm (scriptT ns)),some (.imm (.int k)),some (.imm (.int d))]=some (.int d):=rfl
 have q1:nm 1 [some (.imm (scriptT ns)),some (.imm (.int k)),some (.imm (.int d))]=some (.int k):=rfl
 simp only[rtn,op2,q2,q1,y0p,y1r,cst,m2,m3,z62,z3r (j:=2147483629) (by decide)]
theorem zk7 (n k:Int) (hk:-(2 ^ 64)<k/\k<2 ^ 64):∃m:Int,0<=m/\z2j [.int n,.int k]=some (.int m):=by
 have hd:0<=(n+104729*k+17)*69621 % 2147483647/\(n+104729*k+17)*69621 % 2147483647<2147483647:=⟨y2f _ (by decide),y2g _ (by decide)⟩
 generalize hx:(n+104729*k+17)*69621 % 2147483647=d at hd
 refine⟨(d*d+3*d+k) % 2147483629,y2f _ (by decide),?_⟩
 have e0:z2j [.int n,.int k]=(z7w [some (.imm (.int n)),some (.imm (.int k)),none]).bind fun o=>match o with|.rt t=>some t|.nx _=>some .none|_=>none:=rfl
 have m1:oMul (.int 104729) (.int k)=some (.int (104729*k)):=z73 hk
 have n0:nm 0 [some (.imm (.int n)),some (.imm (.int k)),none]=some (.int n):=rfl
 have n1:nm 1 [some (.imm (.int n)),some (.imm (.int k)),none]=some (.int k):=rfl
 have s1:asg 2 (op2 oMod (op2 oMul (op2 oAdd (op2 oAdd (nm 0) (op2 oMul (cst (.int 104729)) (nm 1))) (cst (.int 17))) (cst (.int 69621))) (cst (.int 2147483647))) [some (.imm (.int n)),some (.imm (.int k)),none]=some (.nx [some (.imm (.int n)),some (.imm (.int k)),some (.imm (.int d))]):=by
  simp only[asg,op2,n0,n1,y0p,y1r,cst,m1,z62,z73 (i:=n+104729*k+17) (j:=69621) (by decide),z3r (j:=2147483647) (by decide),hx]
  rfl
 have m2:oMul (.int d) (.int d)=some (.int (d*d)):=z73 (by omega)
 have m3:oMul (.int 3) (.int d)=some (.int (3*d)):=z73 (by omega)
 rw[e0]
 unfold z7w
 rw[z08 s1]
 have q2:nm 2 [some (.imm (.int n)),some (.imm (.int k)),some (.imm (.int d))]=some (.int d):=rfl
 have q1:nm 1 [some (.imm (.int n)),some (.imm (.int k)),some (.imm (.int d))]=some (.int k):=rfl
 simp only[rtn,op2,q2,q1,y0p,y1r,cst,m2,m3,z62,z3r (j:=2147483629) (by decide)]
def names5:List Str:=["a","b","back","hall","win"]
def OpOk (R:Int) (o:Op):Prop:=0<=o.1/\o.1<o.2.1/\o.2.1<=R/\∀x,o.2.2=some x->x∈names5
structure Drawn (R:Int) (os:List Op):Prop where
 r1:1<=R
 r7:R<=7
 len:os.length<=10
 ok:∀o∈os,OpOk R o
noncomputable def bH:Fs:=(seq (asg 4 (op2 oDiv (opN z2j [(nmV 0),(op2 oAdd (cst (.int 50)) (nm 3))]) (cst (.int 4))))
  (seq (asg 5 (op2 oMod (nm 4) (op2 oAdd (nm 1) (cst (.int 1)))))
  (seq (asg 6 (op2 oMod (op2 oAdd (op2 oAdd (nm 5) (cst (.int 1))) (op2 oMod (op2 oDiv (nm 4) (cst (.int 8))) (nm 1))) (op2 oAdd (nm 1) (cst (.int 1)))))
  (seq (asg 7 (op2 oIx (z06 [(cst .none),(cst .none),(cst (.str "a")),(cst (.str "b")),(cst (.str "back")),(cst (.str "hall")),(cst (.str "win"))]) (op2 oMod (op2 oDiv (nm 4) (cst (.int 64))) (cst (.int 7)))))
  (asg 2 (op2 oAdd (nm 2) (z06 [(z06 [(opN oMin [(nm 5),(nm 6)]),(opN oMax [(nm 5),(nm 6)]),(nmV 7)])])))))))
def envH (n R:Int) (os:List Op) (j3 j4 j5 j6 j7:Option Sl):Ev:=[some (.imm (.int n)),some (.imm (.int R)),some (.imm (.tuple (os.map opT))),j3,j4,j5,j6,j7]
theorem zlh (i:Int) (h0:0<=i) (h7:i<7) (ε:Ev):∃z:Option Str,(z06 [(cst .none),(cst .none),(cst (.str "a")),(cst (.str "b")),(cst (.str "back")),(cst (.str "hall")),(cst (.str "win"))] ε).bind (fun t=>oIx t (.int i))=some (zT z)/\∀x,z=some x->x∈names5:=by
 have hc:i=0\/i=1\/i=2\/i=3\/i=4\/i=5\/i=6:=by omega
 have e:z06 [(cst .none),(cst .none),(cst (.str "a")),(cst (.str "b")),(cst (.str "back")),(cst (.str "hall")),(cst (.str "win"))] ε=some (.tuple [.none,.none,.str "a",.str "b",.str "back",.str "hall",.str "win"]):=by
  simp[z06,args,cst,big]
 rw[e]
 rcases hc with rfl|rfl|rfl|rfl|rfl|rfl|rfl
 ·exact⟨none,rfl,fun x h=>by cases h⟩
 ·exact⟨none,rfl,fun x h=>by cases h⟩
 ·exact⟨some "a",rfl,fun x h=>by cases h;simp[names5]⟩
 ·exact⟨some "b",rfl,fun x h=>by cases h;simp[names5]⟩
 ·exact⟨some "back",rfl,fun x h=>by cases h;simp[names5]⟩
 ·exact⟨some "hall",rfl,fun x h=>by cases h;simp[names5]⟩
 ·exact⟨some "win",rfl,fun x h=>by cases h;simp[names5]⟩
theorem zev (n R:Int) (h1:1<=R) (h7:R<=7) (os:List Op) (hl:os.length<1000) (k:Int) (hk:0<=k/\k<1000) (j4 j5 j6 j7:Option Sl) :
  ∃o j4' j5' j6' j7',OpOk R o/\bH (envH n R os (some (.imm (.int k))) j4 j5 j6 j7)=some (.nx (envH n R (os++[o]) (some (.imm (.int k))) j4' j5' j6' j7')):=by
 obtain⟨m,hm,hd⟩:=zk7 n (50+k) (by omega)
 have q0:0<=m / 4:=Int.ediv_nonneg hm (by decide)
 generalize hq:m / 4=q at q0
 have s1:asg 4 (op2 oDiv (opN z2j [(nmV 0),(op2 oAdd (cst (.int 50)) (nm 3))]) (cst (.int 4))) (envH n R os (some (.imm (.int k))) j4 j5 j6 j7)=some (.nx (envH n R os (some (.imm (.int k))) (some (.imm (.int q))) j5 j6 j7)):=by
  have n0:nmV 0 (envH n R os (some (.imm (.int k))) j4 j5 j6 j7)=some (.int n):=rfl
  have n3:nm 3 (envH n R os (some (.imm (.int k))) j4 j5 j6 j7)=some (.int k):=rfl
  simp only[asg,op2,opN,args,n0,n3,cst,z62,y0p,y1r,hd,zdy (j:=4) (by decide),hq]
  rfl
 have hone:0<=q % (R+1)/\q % (R+1)<R+1:=⟨y2f _ (by omega),y2g _ (by omega)⟩
 have hother:0<=q / 8 % R/\q / 8 % R<R:=⟨y2f _ (by omega),y2g _ (by omega)⟩
 have hneq:(q % (R+1)+1+q / 8 % R) % (R+1)≠q % (R+1):=by
  generalize q % (R+1)=a at *
  generalize q / 8 % R=b at *
  intro e
  by_cases c:a+1+b<R+1
  ·rw[Int.emod_eq_of_lt (by omega) c] at e
   omega
  ·have:(a+1+b) % (R+1)=a+1+b - (R+1):=by
    rw[<- Int.sub_emod_right,Int.emod_eq_of_lt (by omega) (by omega)]
   omega
 have hoth:0<=(q % (R+1)+1+q / 8 % R) % (R+1)/\(q % (R+1)+1+q / 8 % R) % (R+1)<R+1:=⟨y2f _ (by omega),y2g _ (by omega)⟩
 have s2:asg 5 (op2 oMod (nm 4) (op2 oAdd (nm 1) (cst (.int 1)))) (envH n R os (some (.imm (.int k))) (some (.imm (.int q))) j5 j6 j7)=some (.nx (envH n R os (some (.imm (.int k))) (some (.imm (.int q))) (some (.imm (.int (q % (R+1))))) j6 j7)):=by
  have n4:nm 4 (envH n R os (some (.imm (.int k))) (some (.imm (.int q))) j5 j6 j7)=some (.int q):=rfl
  have n1:nm 1 (envH n R os (some (.imm (.int k))) (some (.imm (.int q))) j5 j6 j7)=some (.int R):=rfl
  simp only[asg,op2,n4,n1,cst,z62,y0p,y1r,z3r (j:=R+1) (by omega)]
  rfl
 generalize q % (R+1)=one at *
 have s3:asg 6 (op2 oMod (op2 oAdd (op2 oAdd (nm 5) (cst (.int 1))) (op2 oMod (op2 oDiv (nm 4) (cst (.int 8))) (nm 1))) (op2 oAdd (nm 1) (cst (.int 1)))) (envH n R os (some (.imm (.int k))) (some (.imm (.int q))) (some (.imm (.int one))) j6 j7)=some (.nx (envH n R os (some (.imm (.int k))) (some (.imm (.int q))) (some (.imm (.int one))) (some (.imm (.int ((one+1+q / 8 % R) % (R+1))))) j7)):=by
  have n5:nm 5 (envH n R os (some (.imm (.int k))) (some (.imm (.int q))) (some (.imm (.int one))) j6 j7)=some (.int one):=rfl
  have n4:nm 4 (envH n R os (some (.imm (.int k))) (some (.imm (.int q))) (some (.imm (.int one))) j6 j7)=some (.int q):=rfl
  have n1:nm 1 (envH n R os (some (.imm (.int k))) (some (.imm (.int q))) (some (.imm (.int one))) j6 j7)=some (.int R):=rfl
  simp only[asg,op2,n5,n4,n1,cst,z62,y0p,y1r,zdy (j:=8) (by decide),z3r (j:=R) (by omega),z3r (j:=R+1) (by omega)]
  rfl
 generalize (one+1+q / 8 % R) % (R+1)=oth at *
 obtain⟨z,hz,hzn⟩:=zlh (q / 64 % 7) (y2f _ (by decide)) (y2g _ (by decide)) (envH n R os (some (.imm (.int k))) (some (.imm (.int q))) (some (.imm (.int one))) (some (.imm (.int oth))) j7)
 have s4:asg 7 (op2 oIx (z06 [(cst .none),(cst .none),(cst (.str "a")),(cst (.str "b")),(cst (.str "back")),(cst (.str "hall")),(cst (.str "win"))]) (op2 oMod (op2 oDiv (nm 4) (cst (.int 64))) (cst (.int 7)))) (envH n R os (some (.imm (.int k))) (some (.imm (.int q))) (some (.imm (.int one))) (some (.imm (.int oth))) j7)=some (.nx (envH n R os (some (.imm (.int k))) (some (.imm (.int q))) (some (.imm (.int one))) (some (.imm (.int oth))) (some (.imm (zT z))))):=by
  have n4:nm 4 (envH n R os (some (.imm (.int k))) (some (.imm (.int q))) (some (.imm (.int one))) (some (.imm (.int oth))) j7)=some (.int q):=rfl
  have hi:op2 oMod (op2 oDiv (nm 4) (cst (.int 64))) (cst (.int 7)) (envH n R os (some (.imm (.int k))) (some (.imm (.int q))) (some (.imm (.int one))) (some (.imm (.int oth))) j7)=some (.int (q / 64 % 7)):=by
   simp only[op2,n4,cst,y0p,zdy (j:=64) (by decide),z3r (j:=7) (by decide)]
  have hh:op2 oIx (z06 [(cst .none),(cst .none),(cst (.str "a")),(cst (.str "b")),(cst (.str "back")),(cst (.str "hall")),(cst (.str "win"))]) (op2 oMod (op2 oDiv (nm 4) (cst (.int 64))) (cst (.int 7))) (envH n R os (some (.imm (.int k))) (some (.imm (.int q))) (some (.imm (.int one))) (some (.imm (.int oth))) j7)=some (zT z):=by
   rw[<- hz]
   unfold op2 at hi ⊢
   simp only[hi,y0p]
  simp only[asg,hh,y1r]
  rfl
 refine⟨((if oth<one then oth else one),(if oth > one then oth else one),z),some (.imm (.int q)),some (.imm (.int one)),some (.imm (.int oth)),some (.imm (zT z)),⟨?_,?_,?_,hzn⟩,?_⟩
 ·dsimp only
  split <;> omega
 ·dsimp only
  split <;> split <;> omega
 ·dsimp only
  split <;> omega
 ·have s5:asg 2 (op2 oAdd (nm 2) (z06 [(z06 [(opN oMin [(nm 5),(nm 6)]),(opN oMax [(nm 5),(nm 6)]),(nmV 7)])])) (envH n R os (some (.imm (.int k))) (some (.imm (.int q))) (some (.imm (.int one))) (some (.imm (.int oth))) (some (.imm (zT z))))=some (.nx (envH n R (os++[((if oth<one then oth else one),(if oth > one then oth else one),z)]) (some (.imm (.int k))) (some (.imm (.int q))) (some (.imm (.int one))) (some (.imm (.int oth))) (some (.imm (zT z))))):=by
   have n5:nm 5 (envH n R os (some (.imm (.int k))) (some (.imm (.int q))) (some (.imm (.int one))) (some (.imm (.int oth))) (some (.imm (zT z))))=some (.int one):=rfl
   have n6:nm 6 (envH n R os (some (.imm (.int k))) (some (.imm (.int q))) (some (.imm (.int one))) (some (.imm (.int oth))) (some (.imm (zT z))))=some (.int oth):=rfl
   have n7:nmV 7 (envH n R os (some (.imm (.int k))) (some (.imm (.int q))) (some (.imm (.int one))) (some (.imm (.int oth))) (some (.imm (zT z))))=some (zT z):=rfl
   have n2:nm 2 (envH n R os (some (.imm (.int k))) (some (.imm (.int q))) (some (.imm (.int one))) (some (.imm (.int oth))) (some (.imm (zT z))))=some (.tuple (os.map opT)):=rfl
   have hb:(os.map opT).length+1<=16777216:=by simp;omega
   simp only[asg,op2,opN,z06,args,n5,n6,n7,n2,y0p,y1r,oMin,oMax,oAdd,y0w,y2d,big]
   simp[hb,envH,opT]
   omega
  unfold bH
  rw[z08 s1,z08 s2,z08 s3,z08 s4,s5]
theorem z8n (n R:Int) (h1:1<=R) (h7:R<=7):∀(ks:List Int) (os:List Op) (j3 j4 j5 j6 j7:Option Sl),(∀k∈ks,0<=k/\k<1000)->os.length+ks.length<1000->(∀o∈os,OpOk R o) ->
  ∃os' j3' j4' j5' j6' j7',os'.length=os.length+ks.length/\(∀o∈os',OpOk R o)/\forL (gNm 3) bH (ks.map .int) (envH n R os j3 j4 j5 j6 j7)=some (.nx (envH n R os' j3' j4' j5' j6' j7'))
 | [],os,j3,j4,j5,j6,j7,_,_,ho=>⟨os,j3,j4,j5,j6,j7,rfl,ho,rfl⟩
 | k::ks,os,j3,j4,j5,j6,j7,hk,hl,ho=>by
  simp only[y0w] at hl
  obtain⟨o,a4,a5,a6,a7,oo,hs⟩:=zev n R h1 h7 os (by omega) k (hk k (by simp)) j4 j5 j6 j7
  obtain⟨os',b3,b4,b5,b6,b7,e1,e2,e3⟩:=z8n n R h1 h7 ks (os++[o]) (some (.imm (.int k))) a4 a5 a6 a7 (fun k' h=>hk k' (by simp[h])) (by simp;omega) fun o' h=>by
   rcases y10.mp h with q|q
   ·exact ho o' q
   ·simp at q
    subst q
    exact oo
  refine⟨os',b3,b4,b5,b6,b7,by rw[e1];simp;omega,e2,?_⟩
  have e0:gNm 3 (.int k) (envH n R os j3 j4 j5 j6 j7)=some (envH n R os (some (.imm (.int k))) j4 j5 j6 j7):=rfl
  simp only[y0d,forL,e0,y0p,hs,e3]
theorem zjz (n:Int) (hn:0<=n):∃R os,Drawn R os/\z3w [.int n]=some (z02 R os):=by
 have hR:0<=n % 7/\n % 7<7:=⟨y2f _ (by decide),y2g _ (by decide)⟩
 have hN:0<=n / 8 % 11/\n / 8 % 11<11:=⟨y2f _ (by decide),y2g _ (by decide)⟩
 have s1:asg 1 (op2 oAdd (cst (.int 1)) (op2 oMod (nm 0) (cst (.int 7)))) [some (.imm (.int n)),none,none,none,none,none,none,none]=some (.nx [some (.imm (.int n)),some (.imm (.int (1+n % 7))),none,none,none,none,none,none]):=by
  have n0:nm 0 [some (.imm (.int n)),none,none,none,none,none,none,none]=some (.int n):=rfl
  simp only[asg,op2,n0,cst,y0p,y1r,z3r (j:=7) (by decide),z62]
  rfl
 have s2:asg 2 (z06 []) [some (.imm (.int n)),some (.imm (.int (1+n % 7))),none,none,none,none,none,none]=some (.nx (envH n (1+n % 7) [] none none none none none)):=by
  simp[asg,z06,args,big,envH]
 have hit:z3f (op2 oMod (op2 oDiv (nm 0) (cst (.int 8))) (cst (.int 11))) (envH n (1+n % 7) [] none none none none none)=some (((List.range (n / 8 % 11).toNat).map fun (k:Nat)=>(k:Int)).map .int):=by
  have n0:nm 0 (envH n (1+n % 7) [] none none none none none)=some (.int n):=rfl
  have hs:z4m (n / 8 % 11)=true:=by
   unfold z4m
   simp
   omega
  simp only[z3f,op2,n0,cst,y0p,zdy (j:=8) (by decide),z3r (j:=11) (by decide),hs,if_true,rng,Int.sub_zero,Int.zero_add,y2i,y16]
 obtain⟨os,b3,b4,b5,b6,b7,e1,e2,e3⟩:=z8n n (1+n % 7) (by omega) (by omega) ((List.range (n / 8 % 11).toNat).map fun (k:Nat)=>(k:Int)) [] none none none none none (fun k hk=>by
  obtain⟨j,hj,rfl⟩:=y0m.mp hk
  have:=List.mem_range.mp hj
  omega) (by simp;omega) (by simp)
 simp only[y2d,y13,List.length_range] at e1
 refine⟨1+n % 7,os,⟨by omega,by omega,by omega,e2⟩,?_⟩
 have s3:for_ (z3f (op2 oMod (op2 oDiv (nm 0) (cst (.int 8))) (cst (.int 11)))) (gNm 3) bH (envH n (1+n % 7) [] none none none none none)=some (.nx (envH n (1+n % 7) os b3 b4 b5 b6 b7)):=by
  simp only[for_,hit,y0p]
  exact e3
 have s4:seq (for_ (z3f (op2 oMod (op2 oDiv (nm 0) (cst (.int 8))) (cst (.int 11)))) (gNm 3) bH) (rtn (z06 [(nmV 1),(nmV 2)])) (envH n (1+n % 7) [] none none none none none)=some (.rt (z02 (1+n % 7) os)):=by
  rw[z08 s3]
  simp[rtn,z06,args,nmV,envH,big,z02]
 have e0:z3w [.int n]=(z7v [some (.imm (.int n)),none,none,none,none,none,none,none]).bind fun o=>match o with|.rt t=>some t|.nx _=>some .none|_=>none:=rfl
 rw[e0]
 unfold z7v
 rw[z08 s1,z08 s2]
 exact congrArg (fun x:Option Out=>x.bind fun o=>match o with|.rt t=>some t|.nx _=>some .none|_=>none) s4
end Ho
end
section
namespace Ho
open PySem D
local instance:Tbl:=⟨[],fun _=>[],fun _=>none⟩
theorem z5h {R:Int} {os:List Op} (d:Drawn R os):Hg.Within R (os.map edge):=fun e he=>by
 obtain⟨o,ho,rfl⟩:=y0m.mp he
 have:=d.ok o ho
 unfold OpOk at this
 unfold edge
 dsimp only
 omega
def z2q (F:List (Int×Int)):List Int:=sortI ((Hg.bfs F 1000 [0] [0]).getD [])
theorem zd3 {R:Int} {F:List (Int×Int)} (hE:Hg.Within R F) (h0:0<=R) (h7:R<=7) :
  (∃r,Hg.bfs F 1000 [0] [0]=some r/\r.length<=8/\z2q F=sortI r)/\(∀x,x∈z2q F <-> Hg.Reach F x)/\(z2q F).Pairwise (·<·)/\∀x∈z2q F,0<=x/\x<=R:=by
 obtain⟨r,h1,h2,h3,h4⟩:=Hg.bfs_ok hE h0 h7 (n:=1000) (by decide)
 have e:z2q F=sortI r:=by rw[z2q,h1];rfl
 have hp:=sortI_perm r
 refine⟨⟨r,h1,Hg.nodup_len 8 r h2 fun x hx=>by have:=h4 x hx;omega,e⟩,fun x=>by rw[e,hp.mem_iff];exact h3 x,?_,fun x hx=>h4 x (hp.mem_iff.mp (e▸hx))⟩
 rw[e]
 have nd:(sortI r).Nodup:=hp.nodup_iff.mpr h2
 have pw:=z68 r
 exact (pw.and nd).imp fun h=>by have h1:=h.1;have h2:=h.2;omega
theorem zif {R:Int} {os:List Op} (d:Drawn R os) (room:Int):∃ws,Hg.waysP (os.map edge) room 20 [0]=some ws/\z1e [z02 R os,.int room]=some (.tuple (ws.map wT))/\(ws≠[] <-> Hg.Reach (os.map edge) room):=by
 obtain⟨ws,h1,h2⟩:=Hg.ways_tot (z5h d) d.r7 (by simpa using d.len) room 20 [0] (by simp) (by simp) (by have:=d.r1;simp;omega) (by simp)
 exact⟨ws,h1,zlj h1 (y1p h2 (by simp)),Hg.ways_iff h1⟩
def bare (ns:List Str) (o:Op):Op:=(o.1,o.2.1,match o.2.2 with
 | none=>none
 | some x=>if x∈ns then none else some x)
theorem z27 {f:Fe} {ε:Ev} {x:T} (hf:f ε=some x):args [f] ε=some [x]:=by simp only[args,hf,y0p,y1r]
theorem z2v {f g:Fe} {ε:Ev} {x y:T} (hf:f ε=some x) (hg:g ε=some y):args [f,g] ε=some [x,y]:=by simp only[args,hf,hg,y0p,y1r]
theorem znd {f g h:Fe} {ε:Ev} {x y z:T} (hf:f ε=some x) (hg:g ε=some y) (hh:h ε=some z):args [f,g,h] ε=some [x,y,z]:=by simp only[args,hf,hg,hh,y0p,y1r]
theorem z6b {fs:List Fe} {ε:Ev} {xs:List T} (h:args fs ε=some xs) (hl:xs.length<=16777216):z06 fs ε=some (.tuple xs):=by
 simp only[z06,h,y0p]
 exact if_pos hl
theorem z0b {fs:List Fe} {ε:Ev} {xs:List T} {o:List T->Option T} {t:T} (h:args fs ε=some xs) (ho:o xs=some t):opN o fs ε=some t:=by
 simp only[opN,h,y0p,ho]
theorem z0i {f g:Fe} {ε:Ev} {o:T->T->Option T} {x y t:T} (hf:f ε=some x) (hg:g ε=some y) (ho:o x y=some t):op2 o f g ε=some t:=by
 simp only[op2,hf,hg,y0p,ho]
theorem z0s {f:Fe} {ε:Ev} {b:Bool} (h:f ε=some (.bool b)):tstB f ε=some b:=by
 simp only[tstB,h,y0p]
theorem z1n {i:Nat} {f:Fe} {ε:Ev} {t:T} (h:f ε=some t):asg i f ε=some (.nx (ε.set i (some (.imm t)))):=by
 simp only[asg,h,y1r]
theorem z4h {c:Ft} {a b:Fs} {ε:Ev} (h:c ε=some false):iff c a b ε=b ε:=by
 simp only[iff,h,y0p,y1u,if_false]
theorem z3t {c:Ft} {a b:Fs} {ε:Ev} (h:c ε=some true):iff c a b ε=a ε:=by
 simp only[iff,h,y0p,if_true]
theorem zbm {xs ys:List T} (h:xs.length+ys.length<=16777216):oAdd (.tuple xs) (.tuple ys)=some (.tuple (xs++ys)):=if_pos h
theorem z4s {g:Fg} {b:Fs} {t:T} {ts:List T} {ε ε1 ε2:Ev} (h1:g t ε=some ε1) (h2:b ε1=some (.nx ε2)):forL g b (t::ts) ε=forL g b ts ε2:=by
 simp only[forL,h1,h2,y0p]
end Ho
end
section
namespace Hg
def Fol (E:List (Int×Int)):Int->List Nat->List Int->Prop
 | _,[],p=>p=[]
 | cur,k::w,p=>∃e t q,E[k]?=some e/\adj e cur=some t/\p=t::q/\Fol E t w q
theorem zdv {rec:List Int->Option (List (List Nat))} {pl:List Int} {h:Int}:∀{E:List (Int×Int)} {k:Nat} {ws:List (List Nat)},exts rec pl h k E=some ws->∀w,w∈ws <-> ∃j e t us w',E[j]?=some e/\adj e h=some t/\t∉pl/\rec (pl++[t])=some us/\w'∈us/\w=(k+j)::w'
 | [],k,ws,e,w=>by
  cases e
  simp
 | e::es,k,ws,h1,w=>by
  have sh:∀{vs:List (List Nat)},exts rec pl h (k+1) es=some vs->(w∈vs <-> ∃j e' t us w',(e::es)[j+1]?=some e'/\adj e' h=some t/\t∉pl/\rec (pl++[t])=some us/\w'∈us/\w=(k+(j+1))::w'):=fun hv=>by
   rw[zdv hv w]
   constructor
   ·rintro⟨j,e',t,us,w',a1,a2,a3,a4,a5,a6⟩
    exact⟨j,e',t,us,w',by simpa using a1,a2,a3,a4,a5,by rw[a6];congr 1;omega⟩
   ·rintro⟨j,e',t,us,w',a1,a2,a3,a4,a5,a6⟩
    exact⟨j,e',t,us,w',by simpa using a1,a2,a3,a4,a5,by rw[a6];congr 1;omega⟩
  unfold exts at h1
  split at h1
  next t ht =>
   split at h1
   next hm =>
    rw[sh h1]
    constructor
    ·rintro⟨j,r⟩
     exact⟨j+1,r⟩
    ·rintro⟨j,e',t',us,w',a1,a2,a3,r⟩
     cases j with
     | zero =>
      cases a1
      rw[ht] at a2
      cases a2
      exact absurd hm a3
     | succ j=>exact⟨j,e',t',us,w',a1,a2,a3,r⟩
   next hm =>
    simp only[y01,y07] at h1
    obtain⟨us,h2,vs,h3,rfl⟩:=h1
    rw[y10,sh h3,y0m]
    constructor
    ·rintro (⟨w',q1,q2⟩|⟨j,r⟩)
     ·exact⟨0,e,t,us,w',rfl,ht,hm,h2,q1,by rw[<- q2];rfl⟩
     ·exact⟨j+1,r⟩
    ·rintro⟨j,e',t',us',w',a1,a2,a3,a4,a5,a6⟩
     cases j with
     | zero =>
      cases a1
      rw[ht] at a2
      cases a2
      rw[h2] at a4
      cases a4
      exact .inl ⟨w',a5,a6.symm⟩
     | succ j=>exact .inr ⟨j,e',t',us',w',a1,a2,a3,a4,a5,a6⟩
  next hn =>
   rw[sh h1]
   constructor
   ·rintro⟨j,r⟩
    exact⟨j+1,r⟩
   ·rintro⟨j,e',t',us,w',a1,a2,a3,r⟩
    cases j with
    | zero =>
     cases a1
     rw[hn] at a2
     cases a2
    | succ j=>exact⟨j,e',t',us,w',a1,a2,a3,r⟩
theorem zk3 {rec:List Int->Option (List (List Nat))} {pl:List Int} {h:Int} {E:List (Int×Int)} {k:Nat} {ws:List (List Nat)} (e:exts rec pl h k E=some ws) {j:Nat} {e':Int×Int} {t:Int} (h1:E[j]?=some e') (h2:adj e' h=some t) (h3:t∉pl):∃vs,rec (pl++[t])=some vs:=by
 obtain⟨vs,hv,_⟩:=z3v e t ⟨e',y1v h1,h2⟩ h3
 exact⟨vs,hv⟩
theorem z8w {E:List (Int×Int)} {room:Int}:∀{n:Nat} {pl:List Int} {cur:Int} {ws:List (List Nat)},pl.getLast?=some cur->waysP E room n pl=some ws->∀w,w∈ws <-> ∃p,Fol E cur w p/\p.Nodup/\(∀y∈p,y∉pl)/\(cur::p).getLast?=some room
 | 0,pl,cur,ws,_,h,_=>by cases h
 | n+1,pl,cur,ws,hl,h,w=>by
  have hcur:cur∈pl:=List.mem_of_getLast? hl
  unfold waysP at h
  rw[hl] at h
  simp only at h
  split at h
  next e =>
   subst e
   cases h
   constructor
   ·intro hw
    have:w=[]:=by simpa using hw
    subst this
    exact⟨[],rfl,by simp,by simp,rfl⟩
   ·rintro⟨p,h1,h2,h3,h4⟩
    cases w with
    | nil=>simp
    | cons k w =>
     obtain⟨e',t,q,_,_,rfl,_⟩:=h1
     have hm:cur∈t::q:=by
      rw[List.getLast?_cons_cons] at h4
      exact List.mem_of_getLast? h4
     exact absurd hcur (h3 cur hm)
  next hne =>
   rw[zdv h w]
   constructor
   ·rintro⟨j,e',t,us,w',a1,a2,a3,a4,a5,a6⟩
    obtain⟨p,p1,p2,p3,p4⟩:=(z8w (pl:=pl++[t]) (cur:=t) (by simp) a4 w').mp a5
    refine⟨t::p,?_,?_,?_,by rw[List.getLast?_cons_cons];exact p4⟩
    ·rw[a6]
     exact⟨e',t,p,by simpa using a1,a2,rfl,p1⟩
    ·exact y0r.mpr ⟨fun z=>p3 t z (by simp),p2⟩
    ·intro y hy
     rcases y09.mp hy with rfl|hy
     ·exact a3
     ·exact fun z=>p3 y hy (by simp[z])
   ·rintro⟨p,h1,h2,h3,h4⟩
    cases w with
    | nil =>
     have:p=[]:=h1
     subst this
     simp at h4
     exact absurd h4 hne
    | cons k w =>
     obtain⟨e',t,q,b1,b2,rfl,b3⟩:=h1
     have ht:t∉pl:=h3 t (by simp)
     obtain⟨us,hu⟩:=zk3 h b1 b2 ht
     have nd:=y0r.mp h2
     refine⟨k,e',t,us,w,b1,b2,ht,hu,?_,by simp⟩
     refine (z8w (pl:=pl++[t]) (cur:=t) (by simp) hu w).mpr ⟨q,b3,nd.2,fun y hy z=>?_,by rw[List.getLast?_cons_cons] at h4;exact h4⟩
     rcases y10.mp z with z|z
     ·exact h3 y (by simp[hy]) z
     ·have:y=t:=by simpa using z
      subst this
      exact nd.1 hy
theorem ways_char {E:List (Int×Int)} {room:Int} {n:Nat} {ws:List (List Nat)} (h:waysP E room n [0]=some ws) (w:List Nat):w∈ws <-> ∃p,Fol E 0 w p/\((0:Int)::p).Nodup/\((0:Int)::p).getLast?=some room:=by
 rw[z8w (cur:=0) rfl h w]
 constructor
 ·rintro⟨p,h1,h2,h3,h4⟩
  exact⟨p,h1,y0r.mpr ⟨fun z=>h3 0 z (by simp),h2⟩,h4⟩
 ·rintro⟨p,h1,h2,h4⟩
  have nd:=y0r.mp h2
  exact⟨p,h1,nd.2,fun y hy z=>nd.1 (by have:y=0:=(by simpa using z);exact this▸hy),h4⟩
theorem z9x {E:List (Int×Int)} {x y:Int} {p:List Int} (w:Walk E x p y):(x::p).getLast?=some y:=by
 induction w with
 | nil x=>rfl
 | cons a w ih=>rw[List.getLast?_cons_cons];exact ih
theorem zc6 {E F:List (Int×Int)} (P:Nat->Prop) (hF:∀e∈F,∃k,E[k]?=some e/\P k) {x y:Int} {p:List Int} (w:Walk F x p y):∃v,Fol E x v p/\∀k∈v,P k:=by
 induction w with
 | nil x=>exact⟨[],rfl,by simp⟩
 | @cons x t y p a w ih =>
  obtain⟨v,h1,h2⟩:=ih
  obtain⟨e,he,ha⟩:=a
  obtain⟨k,hk,hp⟩:=hF e he
  refine⟨k::v,⟨e,t,p,hk,ha,rfl,h1⟩,fun j hj=>?_⟩
  rcases y09.mp hj with rfl|hj
  ·exact hp
  ·exact h2 j hj
theorem z6i {E F:List (Int×Int)} (P:Nat->Prop) (hF:∀k e,E[k]?=some e->P k->e∈F):∀{v:List Nat} {x:Int} {p:List Int},Fol E x v p->(∀k∈v,P k)->∃y,Walk F x p y
 | [],x,p,h,_=>by
  have:p=[]:=h
  subst this
  exact⟨x,.nil x⟩
 | k::v,x,p,⟨e,t,q,h1,h2,h3,h4⟩,hp=>by
  subst h3
  obtain⟨y,w⟩:=z6i P hF h4 fun j hj=>hp j (by simp[hj])
  exact⟨y,.cons ⟨e,hF k e h1 (hp k (by simp)),h2⟩ w⟩
theorem reach_way {E F:List (Int×Int)} (P:Nat->Prop) (h1:∀e∈F,∃k,E[k]?=some e/\P k) (h2:∀k e,E[k]?=some e->P k->e∈F) {room:Int} {n:Nat} {ws:List (List Nat)} (h:waysP E room n [0]=some ws) :
  Reach F room <-> ∃w∈ws,∀k∈w,P k:=by
 constructor
 ·intro r
  obtain⟨p,w,nd⟩:=z8h r
  obtain⟨v,q1,q2⟩:=zc6 P h1 w
  exact⟨v,(ways_char h v).mpr ⟨p,q1,nd,z9x w⟩,q2⟩
 ·rintro⟨v,hv,hp⟩
  obtain⟨p,q1,q2,q3⟩:=(ways_char h v).mp hv
  obtain⟨y,w⟩:=z6i P h2 q1 hp
  have:y=room:=by
   have:=z9x w
   rw[q3] at this
   exact (y2c this).symm
  subst this
  exact z87 w .zero
theorem reach_mono {E F:List (Int×Int)} (h:∀e∈E,e∈F) {x:Int} (r:Reach E x):Reach F x:=by
 induction r with
 | zero=>exact .zero
 | step _ a ih =>
  obtain⟨e,he,ha⟩:=a
  exact .step ih ⟨e,h e he,ha⟩
theorem adj_sum {e:Int×Int} {x t:Int} (h:adj e x=some t):(x=e.1\/x=e.2)/\e.1+e.2 - x=t:=by
 unfold adj at h
 split at h
 ·cases h
  omega
 ·split at h
  ·cases h
   omega
  ·cases h
end Hg
end
section
namespace Hg
theorem zc7 {rec:List Int->Option (List (List Nat))} (hr:∀q us,rec q=some us->us.Pairwise (·<·)) {pl:List Int} {h:Int}:∀{E:List (Int×Int)} {k:Nat} {ws:List (List Nat)},exts rec pl h k E=some ws->ws.Pairwise (·<·)/\∀w∈ws,∃j w',k<=j/\w=j::w'
 | [],k,ws,e=>by
  cases e
  exact⟨.nil,by simp⟩
 | e::es,k,ws,h1=>by
  have up:∀{vs:List (List Nat)},exts rec pl h (k+1) es=some vs->vs.Pairwise (·<·)/\∀w∈vs,∃j w',k<=j/\w=j::w':=fun hv=>by
   obtain⟨a,b⟩:=zc7 hr hv
   refine⟨a,fun w hw=>?_⟩
   obtain⟨j,w',h1,h2⟩:=b w hw
   exact⟨j,w',by omega,h2⟩
  unfold exts at h1
  split at h1
  next t ht =>
   split at h1
   next hm=>exact up h1
   next hm =>
    simp only[y01,y07] at h1
    obtain⟨us,h2,vs,h3,rfl⟩:=h1
    obtain⟨a,b⟩:=zc7 hr h3
    constructor
    ·rw[List.pairwise_append]
     refine⟨?_,a,fun x hx y hy=>?_⟩
     ·rw[List.pairwise_map]
      exact (hr _ _ h2).imp fun q=>List.cons_lt_cons_iff.mpr (.inr ⟨rfl,q⟩)
     ·obtain⟨u,_,rfl⟩:=y0m.mp hx
      obtain⟨j,w',q1,rfl⟩:=b y hy
      exact List.cons_lt_cons_iff.mpr (.inl (by omega))
    ·intro w hw
     rcases y10.mp hw with q|q
     ·obtain⟨u,_,rfl⟩:=y0m.mp q
      exact⟨k,u,y0o _,rfl⟩
     ·exact (up h3).2 w q
  next=>exact up h1
theorem ways_pw {E:List (Int×Int)} {room:Int}:∀{n:Nat} {pl:List Int} {ws:List (List Nat)},waysP E room n pl=some ws->ws.Pairwise (·<·)
 | 0,pl,ws,h=>by cases h
 | n+1,pl,ws,h=>by
  unfold waysP at h
  split at h
  ·cases h
  ·split at h
   ·cases h
    simp
   ·exact (zc7 (fun q us hq=>ways_pw hq) h).1
theorem z8p {α:Type} {p q r:α->Bool}:∀{l:List α},(∀x∈l,p x=true->r x=true)->(∀x∈l,q x=true->r x=true)->(∀x∈l,p x=true->q x=true->False)->l.countP p+l.countP q<=l.countP r
 | [],_,_,_=>by simp
 | x::l,h1,h2,h3=>by
  have ih:=z8p (l:=l) (fun x h=>h1 x (by simp[h])) (fun x h=>h2 x (by simp[h])) (fun x h=>h3 x (by simp[h]))
  have a1:=h1 x (by simp)
  have a2:=h2 x (by simp)
  have a3:=h3 x (by simp)
  simp only[List.countP_cons]
  cases hp:p x <;> cases hq:q x <;> cases hr:r x <;> simp_all <;> omega
def outE (pl:List Int) (h:Int) (e:Int×Int):Bool:=match adj e h with
 | some t=>decide (t∉pl)
 | none=>false
def offE (pl:List Int) (e:Int×Int):Bool:=decide (e.1∉pl) && decide (e.2∉pl)
theorem z6d {rec:List Int->Option (List (List Nat))} {pl:List Int} {h:Int} {B:Nat} (hr:∀t us,t∉pl->rec (pl++[t])=some us->us.length<=B):∀{E:List (Int×Int)} {k:Nat} {ws:List (List Nat)},exts rec pl h k E=some ws->ws.length<=E.countP (outE pl h)*B
 | [],k,ws,e=>by
  cases e
  simp
 | e::es,k,ws,h1=>by
  unfold exts at h1
  rw[List.countP_cons]
  have up:es.countP (outE pl h)*B<=(es.countP (outE pl h)+if outE pl h e=true then 1 else 0)*B:=Nat.mul_le_mul_right _ (by omega)
  split at h1
  next t ht =>
   split at h1
   next hm=>exact y1p (z6d hr h1) up
   next hm =>
    simp only[y01,y07] at h1
    obtain⟨us,h2,vs,h3,rfl⟩:=h1
    have a:=z6d hr h3
    have b:=hr t us hm h2
    have c:outE pl h e=true:=by simp[outE,ht,hm]
    rw[if_pos c,Nat.succ_mul,y21,y13]
    omega
  next=>exact y1p (z6d hr h1) up
def G (m:Nat):Nat:=[1,1,2,3,4,6,9,12,18,27,36].getD m 0
theorem zpp:∀m,m<=10->∀d,d<=10->∀m',m'<=10->d+m'<=m->d*G m'<=G m:=by decide
theorem zqs:∀m,m<=10->1<=G m:=by decide
theorem zqr:∀m,m<=10->G m<=36:=by decide
theorem zcn {E:List (Int×Int)} {room:Int} (hE:∀e∈E,e.1≠e.2) (hl:E.length<=10):∀{n:Nat} {pl:List Int} {ws:List (List Nat)},pl.Nodup->waysP E room n pl=some ws->ws.length<=G (E.countP (offE pl.dropLast))
 | 0,pl,ws,_,h=>by cases h
 | n+1,pl,ws,nd,h=>by
  have hc:∀p:Int×Int->Bool,E.countP p<=10:=fun p=>y1p List.countP_le_length hl
  unfold waysP at h
  split at h
  ·cases h
  next x hx =>
   split at h
   ·cases h
    exact zqs _ (hc _)
   ·have hp:pl=pl.dropLast++[x]:=by
     have hne:pl≠[]:=by rintro rfl;cases hx
     have e1:=List.dropLast_concat_getLast hne
     rw[List.getLast?_eq_getLast hne] at hx
     rw[y2c hx] at e1
     exact e1.symm
    have hxd:x∉pl.dropLast:=fun z=>by
     rw[hp,y1m] at nd
     exact nd.2.2 x z x (by simp) rfl
    have hB:=z6d (B:=G (E.countP (offE pl))) (fun t us ht hu=>by
     have nd':(pl++[t]).Nodup:=by
      rw[y1m]
      exact⟨nd,by simp,fun a ha b hb=>by
       have:b=t:=by simpa using hb
       subst this
       exact fun z=>ht (z▸ha)⟩
     have:=zcn hE hl nd' hu
     simpa using this) h
    refine y1p hB (zpp _ (hc _) _ (hc _) _ (hc _) (z8p (fun e he q=>?_) (fun e he q=>?_) (fun e he q1 q2=>?_)))
    ·unfold outE at q
     split at q
     next t ht =>
      have ht':t∉pl:=by simpa using q
      have htd:t∉pl.dropLast:=fun z=>ht' (List.dropLast_subset _ z)
      unfold adj at ht
      unfold offE
      split at ht
      next e1=>cases ht;simp[e1,hxd,htd]
      next =>
       split at ht
       next e2=>cases ht;simp[e2,hxd,htd]
       next=>cases ht
     next=>cases q
    ·unfold offE at q ⊢
     simp only[y1b,decide_eq_true_eq] at q ⊢
     exact⟨fun z=>q.1 (List.dropLast_subset _ z),fun z=>q.2 (List.dropLast_subset _ z)⟩
    ·have hxp:x∈pl:=by rw[hp];simp
     unfold offE at q2
     simp only[y1b,decide_eq_true_eq] at q2
     unfold outE adj at q1
     split at q1
     next t ht =>
      split at ht
      next e1=>exact q2.1 (e1▸hxp)
      next =>
       split at ht
       next e2=>exact q2.2 (e2▸hxp)
       next=>cases ht
     next=>cases q1
theorem ways_few {E:List (Int×Int)} {room:Int} (hE:∀e∈E,e.1≠e.2) (hl:E.length<=10) {n:Nat} {ws:List (List Nat)} (h:waysP E room n [0]=some ws):ws.length<=36 :=
 y1p (zcn hE hl (by simp) h) (zqr _ (y1p List.countP_le_length hl))
end Hg
end
section
namespace Hg
abbrev Arc:=Int×Int×Int
def ind (b:Bool):Int:=if b then 1 else 0
def net (x:Int):List Arc->Int
 | []=>0
 | a::L=>a.2.2*(ind (decide (a.1=x)) - ind (decide (a.2.1=x)))+net x L
def bnd (S:Int->Bool):List Arc->Int
 | []=>0
 | a::L=>a.2.2*(ind (S a.1) - ind (S a.2.1))+bnd S L
def ends (L:List Arc):List (Int×Int):=L.map fun a=>(a.1,a.2.1)
def sumV (S:Int->Bool) (g:Int->Int):List Int->Int
 | []=>0
 | x::V=>ind (S x)*g x+sumV S g V
theorem z93 (S:Int->Bool) (g h:Int->Int):∀V,sumV S (fun x=>g x+h x) V=sumV S g V+sumV S h V
 | []=>rfl
 | x::V=>by simp only[sumV,z93 S g h V,Int.mul_add];omega
theorem z91 (S:Int->Bool) (c a:Int):∀{V:List Int},V.Nodup->a∈V->sumV S (fun x=>c*ind (decide (a=x))) V=c*ind (S a)
 | x::V,nd,h=>by
  have n:=y0r.mp nd
  simp only[sumV]
  by_cases e:a=x
  ·subst e
   have z:sumV S (fun x=>c*ind (decide (a=x))) V=0:=by
    have:∀{U:List Int},a∉U->sumV S (fun x=>c*ind (decide (a=x))) U=0:=by
     intro U
     induction U with
     | nil=>intro _;rfl
     | cons y U ih =>
      intro hy
      have h1:¬a=y:=fun q=>hy (by simp[q])
      simp only[sumV,h1,decide_false,ind,y1u,if_false,Int.mul_zero,Int.zero_add]
      exact ih fun q=>hy (by simp[q])
    exact this n.1
   rw[z]
   simp only[decide_true,ind,if_true,Int.mul_one,Int.add_zero]
   cases S a <;> simp
  ·have hx:a∈V:=by
    rcases y09.mp h with q|q
    ·exact absurd q e
    ·exact q
   rw[z91 S c a n.2 hx]
   simp only[e,decide_false,ind,y1u,if_false,Int.mul_zero,Int.zero_add]
theorem z92 (S:Int->Bool) {V:List Int} (nd:V.Nodup):∀{L:List Arc},(∀a∈L,a.1∈V/\a.2.1∈V)->sumV S (fun x=>net x L) V=bnd S L
 | [],_=>by
  simp only[net,bnd]
  clear nd
  induction V with
  | nil=>rfl
  | cons x V ih=>simp[sumV,ih]
 | a::L,h=>by
  obtain⟨h1,h2⟩:=h a (by simp)
  have ih:=z92 S nd (L:=L) fun a ha=>h a (by simp[ha])
  simp only[net,bnd]
  rw[z93,ih]
  congr 1
  have e:(fun x=>a.2.2*(ind (decide (a.1=x)) - ind (decide (a.2.1=x))))=fun x=>a.2.2*ind (decide (a.1=x))+(-a.2.2)*ind (decide (a.2.1=x)):=by
   funext x
   rw[Int.mul_sub,Int.neg_mul]
   omega
  rw[e,z93,z91 S _ _ nd h1,z91 S _ _ nd h2,Int.mul_sub,Int.neg_mul]
  omega
theorem z90 (S:Int->Bool) (g:Int->Int) (s t:Int) (hs:S s=true) (ht:S t=false) (hz:∀x,x≠s->x≠t->g x=0):∀{V:List Int},V.Nodup->s∈V->sumV S g V=g s
 | x::V,nd,h=>by
  have n:=y0r.mp nd
  have zero:∀{U:List Int},s∉U->sumV S g U=0:=by
   intro U
   induction U with
   | nil=>intro _;rfl
   | cons y U ih =>
    intro hy
    have h1:y≠s:=fun q=>hy (by simp[q])
    rw[sumV,ih fun q=>hy (by simp[q])]
    by_cases e:y=t
    ·subst e
     simp[ht,ind]
    ·simp[hz y h1 e]
  rw[sumV]
  by_cases e:x=s
  ·subst e
   rw[zero n.1,hs]
   simp[ind]
  ·have hx:s∈V:=by
    rcases y09.mp h with q|q
    ·exact absurd q.symm e
    ·exact q
   rw[z90 S g s t hs ht hz n.2 hx]
   by_cases e2:x=t
   ·subst e2
    simp[ht,ind]
   ·simp[hz x e e2]
inductive Pth (r:Int->Int->Prop):Int->List Int->Int->Prop
 | nil (x:Int):Pth r x [] x
 | cons {x y z:Int} {p:List Int}:r x y->Pth r y p z->Pth r x (y::p) z
inductive Rch (r:Int->Int->Prop) (s:Int):Int->Prop
 | zero:Rch r s s
 | step {x y:Int}:Rch r s x->r x y->Rch r s y
theorem zj3 {r:Int->Int->Prop} {x y z:Int} {p:List Int} (w:Pth r x p y) (a:r y z):Pth r x (p++[z]) z:=by
 induction w with
 | nil x=>exact .cons a (.nil z)
 | cons b _ ih=>exact .cons b (ih a)
theorem zj4 {r:Int->Int->Prop} {x y:Int} {p:List Int} (w:Pth r x p y):(x::p).getLast?=some y:=by
 induction w with
 | nil x=>rfl
 | cons a _ ih=>rw[List.getLast?_cons_cons];exact ih
theorem zg9 {r:Int->Int->Prop} {y:Int}:∀{p:List Int} {x z:Int},Pth r x p z->(x::p).Nodup->y∈x::p->∃q,Pth r x q y/\(x::q).Nodup/\∀t∈q,t∈p
 | p,x,z,w,nd,hy=>by
  by_cases e:y=x
  ·subst e
   exact⟨[],.nil _,by simp,by simp⟩
  ·cases w with
   | nil=>exact absurd (by simpa using hy) e
   | @cons _ u _ p a w =>
    have n:=y0r.mp nd
    obtain⟨q,h1,h2,h3⟩:=zg9 w n.2 (by
     rcases y09.mp hy with h|h
     ·exact absurd h e
     ·exact h)
    have sub:∀t∈u::q,t∈u::p:=fun t ht=>by
     rcases y09.mp ht with rfl|ht
     ·simp
     ·exact y05 _ (h3 t ht)
    exact⟨u::q,.cons a h1,y0r.mpr ⟨fun h=>n.1 (sub x h),h2⟩,sub⟩
theorem zg1 {r:Int->Int->Prop} {s x:Int} (h:Rch r s x):∃p,Pth r s p x/\(s::p).Nodup:=by
 induction h with
 | zero=>exact⟨[],.nil _,by simp⟩
 | @step x y _ a ih =>
  obtain⟨p,w,nd⟩:=ih
  by_cases h:y∈s::p
  ·obtain⟨q,h1,h2,_⟩:=zg9 w nd h
   exact⟨q,h1,h2⟩
  ·refine⟨p++[y],zj3 w a,?_⟩
   rw[<- y2h,y1m]
   refine⟨nd,by simp,fun u hu t ht=>?_⟩
   have:t=y:=by simpa using ht
   subst this
   exact fun e=>h (e▸hu)
def Stp (G:Int->Prop) (L:List Arc) (x y:Int):Prop:=∃(k:Nat) (a:Arc),L[k]?=some a/\((a.1=x/\a.2.1=y/\G a.2.2)\/(a.2.1=x/\a.1=y/\G (-a.2.2)))
theorem zgr (x:Int):∀{L:List Arc} {k:Nat} {a:Arc},L[k]?=some a->∀f:Int,net x (L.set k (a.1,a.2.1,f))=net x L+(f - a.2.2)*(ind (decide (a.1=x)) - ind (decide (a.2.1=x)))
 | b::L,0,a,h,f=>by
  cases h
  simp only[y1i,net,Int.sub_mul]
  omega
 | b::L,k+1,a,h,f=>by
  rw[y2b] at h
  simp only[y1k,net,zgr x h f]
  omega
theorem zk5 {L:List Arc} {k:Nat} {a:Arc} (h:L[k]?=some a) (f:Int):ends (L.set k (a.1,a.2.1,f))=ends L:=by
 unfold ends
 rw[List.map_set]
 refine List.ext_getElem? fun i=>?_
 rw[List.getElem?_set]
 split
 next e =>
  subst e
  split
  next=>rw[y14,h];rfl
  next hn =>
   rw[y13] at hn
   rcases Nat.lt_or_ge k L.length with q|q
   ·exact absurd q hn
   ·rw[List.getElem?_eq_none q] at h;cases h
 next=>rfl
def Chg (c:Int) (G:Int->Prop) (a b:Arc):Prop:=b.1=a.1/\b.2.1=a.2.1/\((G a.2.2/\b.2.2=a.2.2+c)\/(G (-a.2.2)/\b.2.2=a.2.2 - c))
theorem shift (c:Int) (G:Int->Prop) {L:List Arc} (hL:∀a∈L,a.1≠a.2.1):∀{p:List Int} {x t:Int},Pth (Stp G L) x p t->(x::p).Nodup ->
  ∃L' w,ends L'=ends L/\Fol (ends L) x w p/\(∀z,net z L'=net z L+c*(ind (decide (x=z)) - ind (decide (t=z))))/\(∀k,k∉w->L'[k]?=L[k]?)/\(∀k∈w,∃a b,L[k]?=some a/\L'[k]?=some b/\Chg c G a b)/\∀k∈w,∀a,L[k]?=some a->a.1∈x::p/\a.2.1∈x::p
 | p,x,t,w,nd=>by
  cases w with
  | nil=>exact⟨L,[],rfl,rfl,fun z=>by simp,fun _ _=>rfl,by simp,by simp⟩
  | @cons _ y _ p st w =>
   have n:=y0r.mp nd
   obtain⟨L',w',h1,h2,h3,h4,h5,h6⟩:=shift c G hL w n.2
   obtain⟨k,a,hk,hd⟩:=st
   have hne:=hL a (y1v hk)
   have hkw:k∉w':=fun z=>by
    obtain⟨q1,q2⟩:=h6 k z a hk
    rcases hd with ⟨e,_,_⟩|⟨e,_,_⟩
    ·exact n.1 (e▸q1)
    ·exact n.1 (e▸q2)
   have hk':L'[k]?=some a:=(h4 k hkw).trans hk
   have hE:(ends L)[k]?=some (a.1,a.2.1):=by
    unfold ends
    rw[y14,hk]
    rfl
   have hlt:k<L'.length:=by
    rcases Nat.lt_or_ge k L'.length with q|q
    ·exact q
    ·rw[List.getElem?_eq_none q] at hk';cases hk'
   obtain⟨f,hf1,hf2,hf3⟩:∃f:Int,(∀z,(f - a.2.2)*(ind (decide (a.1=z)) - ind (decide (a.2.1=z)))=c*(ind (decide (x=z)) - ind (decide (y=z))))/\Chg c G a (a.1,a.2.1,f)/\adj (a.1,a.2.1) x=some y:=by
    rcases hd with ⟨e1,e2,e3⟩|⟨e1,e2,e3⟩
    ·refine⟨a.2.2+c,fun z=>?_,⟨rfl,rfl,.inl ⟨e3,rfl⟩⟩,?_⟩
     ·rw[e1,e2,show a.2.2+c - a.2.2=c from by omega]
     ·unfold adj
      rw[if_pos e1,e2]
    ·refine⟨a.2.2 - c,fun z=>?_,⟨rfl,rfl,.inr ⟨e3,rfl⟩⟩,?_⟩
     ·rw[e1,e2,show a.2.2 - c - a.2.2=-c from by omega,Int.neg_mul,<- Int.mul_neg]
      congr 1
      omega
     ·unfold adj
      simp only
      rw[if_neg (by rw[e2];intro q;exact hne (by rw[e2,e1,q])),if_pos e1,e2]
   refine⟨L'.set k (a.1,a.2.1,f),k::w',by rw[zk5 hk' f,h1],⟨_,y,p,hE,hf3,rfl,h2⟩,fun z=>?_,fun j hj=>?_,fun j hj=>?_,fun j hj b hb=>?_⟩
   ·rw[zgr z hk' f,h3 z,hf1 z,Int.add_assoc,<- Int.mul_add]
    congr 2
    omega
   ·have hj1:k≠j:=fun q=>hj (by simp[q])
    rw[List.getElem?_set_ne hj1]
    exact h4 j fun q=>hj (by simp[q])
   ·rcases y09.mp hj with rfl|hj
    ·exact⟨a,_,hk,by rw[List.getElem?_set_self hlt],hf2⟩
    ·obtain⟨a',b',q1,q2,q3⟩:=h5 j hj
     have hjk:k≠j:=fun q=>hkw (q▸hj)
     exact⟨a',b',q1,by rw[List.getElem?_set_ne hjk];exact q2,q3⟩
   ·rcases y09.mp hj with rfl|hj
    ·rw[hk] at hb
     cases hb
     rcases hd with ⟨e1,e2,_⟩|⟨e1,e2,_⟩
     ·rw[e1,e2];simp
     ·rw[e1,e2];simp
    ·obtain⟨q1,q2⟩:=h6 j hj b hb
     exact⟨y05 _ q1,y05 _ q2⟩
structure Flow (E:List (Int×Int)) (s t:Int) (v:Int) (L:List Arc):Prop where
 en:ends L=E
 un:∀a∈L,-1<=a.2.2/\a.2.2<=1
 cons:∀x,x≠s->x≠t->net x L=0
 val:net s L=v
theorem zl3 {E:List (Int×Int)} {L:List Arc} (h:ends L=E):L.length=E.length:=by rw[<- h,ends,y13]
theorem zl0 (x:Int):∀{L:List Arc},(∀a∈L,a.1≠a.2.1)->(∀a∈L,-1<=a.2.2/\a.2.2<=1)->net x L<=L.length
 | [],_,_=>by simp[net]
 | a::L,h0,h=>by
  have ih:=zl0 x (L:=L) (fun a ha=>h0 a (by simp[ha])) fun a ha=>h a (by simp[ha])
  have ha:=h a (by simp)
  have h1:a.2.2*(ind (decide (a.1=x)) - ind (decide (a.2.1=x)))<=1:=by
   by_cases e1:a.1=x <;> by_cases e2:a.2.1=x <;> simp[ind,e1,e2] <;> omega
  simp only[net,y0w]
  omega
theorem z6j {E:List (Int×Int)} (hE:∀e∈E,e.1≠e.2) {L:List Arc} (h:ends L=E):∀a∈L,a.1≠a.2.1:=fun a ha=>by
 have:=hE (a.1,a.2.1) (by rw[<- h];exact y0m.mpr ⟨a,ha,rfl⟩)
 exact this
open Classical in
theorem zjr {E:List (Int×Int)} (hE:∀e∈E,e.1≠e.2) {s t:Int} (hst:s≠t):∃v L,0<=v/\Flow E s t v L/\¬Rch (Stp (fun g=>g<1) L) s t:=by
 have key:∀(n:Nat) (v:Int) (L:List Arc),0<=v->Flow E s t v L->(E.length:Int) - v<n->∃v L,0<=v/\Flow E s t v L/\¬Rch (Stp (fun g=>g<1) L) s t:=by
  intro n
  induction n with
  | zero =>
   intro v L h0 F hn
   have:=zl0 s (z6j hE F.en) F.un
   rw[F.val,zl3 F.en] at this
   omega
  | succ n ih =>
   intro v L h0 F hn
   by_cases hr:Rch (Stp (fun g=>g<1) L) s t
   ·obtain⟨p,w,nd⟩:=zg1 hr
    obtain⟨L',w',h1,h2,h3,h4,h5,_⟩:=shift 1 (fun g=>g<1) (z6j hE F.en) w nd
    refine ih (v+1) L' (by omega) ⟨h1.trans F.en,fun b hb=>?_,fun x hs ht=>?_,?_⟩ (by omega)
    ·obtain⟨k,hk⟩:=List.mem_iff_getElem?.mp hb
     by_cases hw:k∈w'
     ·obtain⟨a,b',q1,q2,_,_,q3⟩:=h5 k hw
      rw[hk] at q2
      cases q2
      have:=F.un a (y1v q1)
      rcases q3 with ⟨g,e⟩|⟨g,e⟩ <;> omega
     ·rw[h4 k hw] at hk
      exact F.un b (y1v hk)
    ·rw[h3 x,F.cons x hs ht]
     have e1:¬s=x:=fun q=>hs q.symm
     have e2:¬t=x:=fun q=>ht q.symm
     simp[ind,e1,e2]
    ·rw[h3 s,F.val]
     have e2:¬t=s:=fun q=>hst q.symm
     simp[ind,e2]
   ·exact⟨v,L,h0,F,hr⟩
 refine key (E.length+1) 0 (E.map fun e=>(e.1,e.2,0)) (Int.le_refl _) ⟨?_,?_,?_,?_⟩ (by omega)
 ·unfold ends
  rw[y2i]
  conv=>rhs;rw[<- List.map_id E]
  rfl
 ·intro a ha
  obtain⟨e,_,rfl⟩:=y0m.mp ha
  simp
 ·intro x _ _
  clear hE key
  induction E with
  | nil=>rfl
  | cons e E ih=>simp[net,ih]
 ·clear hE key
  induction E with
  | nil=>rfl
  | cons e E ih=>simp[net,ih]
def ixs (P:Arc->Bool):List Arc->Nat->List Nat
 | [],_=>[]
 | a::L,k=>if P a then k::ixs P L (k+1) else ixs P L (k+1)
theorem z9k {P:Arc->Bool}:∀{L:List Arc} {k j:Nat},j∈ixs P L k <-> ∃i a,L[i]?=some a/\P a=true/\j=k+i
 | [],k,j=>by simp[ixs]
 | b::L,k,j=>by
  have ih:=z9k (P:=P) (L:=L) (k:=k+1) (j:=j)
  unfold ixs
  constructor
  ·intro h
   split at h
   next hb =>
    rcases y09.mp h with rfl|h
    ·exact⟨0,b,rfl,hb,rfl⟩
    ·obtain⟨i,a,h1,h2,h3⟩:=ih.mp h
     exact⟨i+1,a,by simpa using h1,h2,by omega⟩
   next =>
    obtain⟨i,a,h1,h2,h3⟩:=ih.mp h
    exact⟨i+1,a,by simpa using h1,h2,by omega⟩
  ·rintro⟨i,a,h1,h2,h3⟩
   cases i with
   | zero =>
    cases h1
    rw[if_pos h2]
    simp[h3]
   | succ i =>
    have:j∈ixs P L (k+1):=ih.mpr ⟨i,a,by simpa using h1,h2,by omega⟩
    split
    ·exact y05 _ this
    ·exact this
theorem zh6 {P:Arc->Bool}:∀(L:List Arc) (k:Nat),(ixs P L k).Pairwise (·<·)
 | [],k=>.nil
 | b::L,k=>by
  unfold ixs
  split
  ·refine y18.mpr ⟨fun j hj=>?_,zh6 L (k+1)⟩
   obtain⟨i,_,_,_,h3⟩:=z9k.mp hj
   omega
  ·exact zh6 L (k+1)
theorem zay {E:List (Int×Int)} {S:Int->Bool}:∀{w:List Nat} {x y:Int} {p:List Int},Fol E x w p->(x::p).getLast?=some y->S x=true->S y=false->∃k∈w,∃e,E[k]?=some e/\S e.1≠S e.2
 | [],x,y,p,h,hl,hx,hy=>by
  have:p=[]:=h
  subst this
  have:x=y:=y2c hl
  rw[<- this,hx] at hy
  cases hy
 | k::w,x,y,p,⟨e,t,q,h1,h2,h3,h4⟩,hl,hx,hy=>by
  subst h3
  rw[List.getLast?_cons_cons] at hl
  by_cases ht:S t=true
  ·obtain⟨j,hj,r⟩:=zay h4 hl ht hy
   exact⟨j,by simp[hj],r⟩
  ·refine⟨k,by simp,e,h1,fun q=>?_⟩
   unfold adj at h2
   split at h2
   next e1=>cases h2;rw[e1,hx] at q;exact ht q.symm
   next =>
    split at h2
    next e2=>cases h2;rw[e2,hx] at q;exact ht q
    next=>cases h2
open Classical in
theorem zpl {E:List (Int×Int)} {s t v:Int} {L:List Arc} (F:Flow E s t v L) (hr:¬Rch (Stp (fun g=>g<1) L) s t) {V:List Int} (nd:V.Nodup) (hV:∀a∈L,a.1∈V/\a.2.1∈V) (hs:s∈V) :
  ∃C:List Nat,C.Pairwise (·<·)/\(C.length:Int)=v/\(∀k∈C,k<E.length)/\∀w p,Fol E s w p->(s::p).getLast?=some t->∃k∈w,k∈C:=by
 let S:Int->Bool:=fun x=>decide (Rch (Stp (fun g=>g<1) L) s x)
 have hSs:S s=true:=decide_eq_true .zero
 have hSt:S t=false:=decide_eq_false hr
 have hb:bnd S L=v:=by
  rw[<- z92 S nd hV,z90 S (fun x=>net x L) s t hSs hSt F.cons nd hs]
  exact F.val
 let P:Arc->Bool:=fun a=>decide (S a.1≠S a.2.1)
 have step:∀{k:Nat} {a:Arc},L[k]?=some a->(S a.1=true->S a.2.1=false->a.2.2=1)/\(S a.2.1=true->S a.1=false->a.2.2=-1):=fun {k a} hk=>by
  have hu:=F.un a (y1v hk)
  constructor
  ·intro h1 h2
   rcases Int.lt_or_eq_of_le hu.2 with q|q
   ·have:S a.2.1=true:=decide_eq_true (.step (of_decide_eq_true h1) ⟨k,a,hk,.inl ⟨rfl,rfl,q⟩⟩)
    rw[this] at h2
    cases h2
   ·exact q
  ·intro h1 h2
   rcases Int.lt_or_eq_of_le hu.1 with q|q
   ·have:S a.1=true:=decide_eq_true (.step (of_decide_eq_true h1) ⟨k,a,hk,.inr ⟨rfl,rfl,by omega⟩⟩)
    rw[this] at h2
    cases h2
   ·omega
 have cnt:∀{M:List Arc} {k:Nat},(∀a∈M,(S a.1=true->S a.2.1=false->a.2.2=1)/\(S a.2.1=true->S a.1=false->a.2.2=-1))->((ixs P M k).length:Int)=bnd S M:=by
  intro M
  induction M with
  | nil=>intro k _;rfl
  | cons a M ih =>
   intro k h
   have ih':=ih (k:=k+1) fun a ha=>h a (by simp[ha])
   obtain⟨g1,g2⟩:=h a (by simp)
   simp only[ixs,bnd,P]
   cases h1:S a.1 <;> cases h2:S a.2.1
   ·simp only[ind]
    simpa [P] using ih'
   ·have:=g2 h2 h1
    simp[ind,this]
    rw[<- ih']
    simp only[P,decide_not]
    omega
   ·have:=g1 h1 h2
    simp[ind,this]
    rw[<- ih']
    simp only[P,decide_not]
    omega
   ·simp only[ind]
    simpa [P] using ih'
 refine⟨ixs P L 0,zh6 L 0,?_,fun k hk=>?_,fun w p hf hl=>?_⟩
 ·rw[cnt fun a ha=>by
   obtain⟨k,hk⟩:=List.mem_iff_getElem?.mp ha
   exact step hk,hb]
 ·obtain⟨i,a,h1,_,h3⟩:=z9k.mp hk
  rw[<- zl3 F.en]
  rcases Nat.lt_or_ge i L.length with q|q
  ·omega
  ·rw[List.getElem?_eq_none q] at h1;cases h1
 ·obtain⟨k,hk,e,he,hne⟩:=zay hf hl hSs hSt
  rw[<- F.en,ends,y14] at he
  obtain⟨a,ha,rfl⟩:=y07.mp he
  exact⟨k,hk,z9k.mpr ⟨k,a,ha,decide_eq_true hne,by simp⟩⟩
open Classical in
theorem zaz {E:List (Int×Int)} (hE:∀e∈E,e.1≠e.2) {s t:Int} (hst:s≠t) {V:List Int} (nd:V.Nodup) (hV:∀e∈E,e.1∈V/\e.2∈V) (hs:s∈V):∀(n:Nat) (L:List Arc),Flow E s t n L ->
  ∃ws:List (List Nat),ws.length=n/\(∀w∈ws,∃p,Fol E s w p/\(s::p).Nodup/\(s::p).getLast?=some t)/\(∀w∈ws,∀k∈w,∃a,L[k]?=some a/\a.2.2≠0)/\ws.Pairwise fun w v=>∀k∈w,k∉v
 | 0,L,F=>⟨[],rfl,by simp,by simp,.nil⟩
 | n+1,L,F=>by
  have hVL:∀a∈L,a.1∈V/\a.2.1∈V:=fun a ha=>hV (a.1,a.2.1) (by rw[<- F.en];exact y0m.mpr ⟨a,ha,rfl⟩)
  have hr:Rch (Stp (fun g=>g=1) L) s t:=by
   refine Classical.byContradiction fun hr=>?_
   let S:Int->Bool:=fun x=>decide (Rch (Stp (fun g=>g=1) L) s x)
   have hSs:S s=true:=decide_eq_true .zero
   have hSt:S t=false:=decide_eq_false hr
   have hb:bnd S L=(n+1:Nat):=by
    rw[<- z92 S nd hVL,z90 S (fun x=>net x L) s t hSs hSt F.cons nd hs]
    exact F.val
   have step:∀a∈L,a.2.2*(ind (S a.1) - ind (S a.2.1))<=0:=fun a ha=>by
    obtain⟨k,hk⟩:=List.mem_iff_getElem?.mp ha
    have hu:=F.un a ha
    cases h1:S a.1 <;> cases h2:S a.2.1
    ·simp[ind]
    ·simp only[ind,y1u,if_false,if_true]
     have:a.2.2≠-1:=fun q=>by
      have:S a.1=true:=decide_eq_true (.step (of_decide_eq_true h2) ⟨k,a,hk,.inr ⟨rfl,rfl,by omega⟩⟩)
      rw[this] at h1
      cases h1
     omega
    ·simp only[ind,y1u,if_false,if_true]
     have:a.2.2≠1:=fun q=>by
      have:S a.2.1=true:=decide_eq_true (.step (of_decide_eq_true h1) ⟨k,a,hk,.inl ⟨rfl,rfl,q⟩⟩)
      rw[this] at h2
      cases h2
     omega
    ·simp[ind]
   have all:∀{M:List Arc},(∀a∈M,a.2.2*(ind (S a.1) - ind (S a.2.1))<=0)->bnd S M<=0:=by
    intro M
    induction M with
    | nil=>intro _;exact Int.le_refl _
    | cons a M ih =>
     intro h
     have h1:=h a (by simp)
     have h2:=ih fun a ha=>h a (by simp[ha])
     simp only[bnd]
     omega
   have:=all step
   omega
  obtain⟨p,w,ndp⟩:=zg1 hr
  obtain⟨L',w',h1,h2,h3,h4,h5,_⟩:=shift (-1) (fun g=>g=1) (z6j hE F.en) w ndp
  have zero:∀k∈w',∃b,L'[k]?=some b/\b.2.2=0:=fun k hk=>by
   obtain⟨a,b,q1,q2,_,_,q3⟩:=h5 k hk
   refine⟨b,q2,?_⟩
   rcases q3 with ⟨g,e⟩|⟨g,e⟩ <;> omega
  have F':Flow E s t n L':=by
   refine⟨h1.trans F.en,fun b hb=>?_,fun x hs ht=>?_,?_⟩
   ·obtain⟨k,hk⟩:=List.mem_iff_getElem?.mp hb
    by_cases hw:k∈w'
    ·obtain⟨b',q1,q2⟩:=zero k hw
     rw[hk] at q1
     cases q1
     omega
    ·rw[h4 k hw] at hk
     exact F.un b (y1v hk)
   ·rw[h3 x,F.cons x hs ht]
    have e1:¬s=x:=fun q=>hs q.symm
    have e2:¬t=x:=fun q=>ht q.symm
    simp[ind,e1,e2]
   ·rw[h3 s,F.val]
    have e2:¬t=s:=fun q=>hst q.symm
    simp[ind,e2]
    omega
  obtain⟨ws,q1,q2,q3,q4⟩:=zaz hE hst nd hV hs n L' F'
  have hlast:(s::p).getLast?=some t:=zj4 w
  rw[F.en] at h2
  refine⟨w'::ws,by simp[q1],fun v hv=>?_,fun v hv k hk=>?_,y18.mpr ⟨fun v hv k hk hkv=>?_,q4⟩⟩
  ·rcases y09.mp hv with rfl|hv
   ·exact⟨p,h2,ndp,hlast⟩
   ·exact q2 v hv
  ·rcases y09.mp hv with rfl|hv
   ·obtain⟨a,b,r1,r2,_,_,r3⟩:=h5 k hk
    refine⟨a,r1,?_⟩
    rcases r3 with ⟨g,e⟩|⟨g,e⟩ <;> omega
   ·obtain⟨a,r1,r2⟩:=q3 v hv k hk
    by_cases hw:k∈w'
    ·obtain⟨b,z1,z2⟩:=zero k hw
     rw[r1] at z1
     cases z1
     exact absurd z2 r2
    ·exact⟨a,by rw[<- h4 k hw];exact r1,r2⟩
  ·obtain⟨a,r1,r2⟩:=q3 v hv k hkv
   obtain⟨b,z1,z2⟩:=zero k hk
   rw[r1] at z1
   cases z1
   exact r2 z2
theorem zoy {E:List (Int×Int)} (hE:∀e∈E,e.1≠e.2) {s t:Int} (hst:s≠t) {V:List Int} (nd:V.Nodup) (hV:∀e∈E,e.1∈V/\e.2∈V) (hs:s∈V) :
  ∃(C:List Nat) (ws:List (List Nat)),C.Pairwise (·<·)/\ws.length=C.length/\(∀k∈C,k<E.length)/\(∀w p,Fol E s w p->(s::p).getLast?=some t->∃k∈w,k∈C)/\(∀w∈ws,∃p,Fol E s w p/\(s::p).Nodup/\(s::p).getLast?=some t)/\ws.Pairwise fun w v=>∀k∈w,k∉v:=by
 obtain⟨v,L,h0,F,hr⟩:=zjr hE hst
 obtain⟨n,rfl⟩:∃n:Nat,v=n:=⟨v.toNat,by omega⟩
 obtain⟨C,c1,c2,c3,c4⟩:=zpl F hr nd (fun a ha=>hV (a.1,a.2.1) (by rw[<- F.en];exact y0m.mpr ⟨a,ha,rfl⟩)) hs
 obtain⟨ws,q1,q2,_,q4⟩:=zaz hE hst nd hV hs n L F
 exact⟨C,ws,c1,by omega,c3,c4,q2,q4⟩
end Hg
end
section
namespace Hg
def Hits (C:List Nat) (ths:List (List Nat)):Prop:=∀w∈ths,∃k∈w,k∈C
inductive Lx {α:Type} (r:α->α->Prop):List α->List α->Prop
 | nil {b:α} {y:List α}:Lx r [] (b::y)
 | head {a b:α} {x y:List α}:r a b->Lx r (a::x) (b::y)
 | tail {a:α} {x y:List α}:Lx r x y->Lx r (a::x) (a::y)
def missed (n:Nat) (ths:List (List Nat)):List (List Nat):=ths.filter fun w=>!decide (n∈w)
noncomputable def stopsR:List (List Nat)->List Nat->Nat->Option (List Nat)
 | ths,[],_=>if ths.isEmpty then some [] else none
 | ths,n::ns,many=>if ths.isEmpty then some [] else if many=0 then none else
  if (missed n ths).length<ths.length then
   match stopsR (missed n ths) ns (many - 1) with
   | some b=>some (n::b)
   | none=>stopsR ths ns many
  else stopsR ths ns many
theorem stopsR_nil (nums:List Nat) (many:Nat):stopsR [] nums many=some []:=by cases nums <;> rfl
theorem z2i {n:Nat} {b:List Nat} {ths:List (List Nat)}:Hits b (missed n ths) <-> Hits (n::b) ths:=by
 constructor
 ·intro h w hw
  by_cases q:n∈w
  ·exact⟨n,q,by simp⟩
  ·obtain⟨k,h1,h2⟩:=h w (List.mem_filter.mpr ⟨hw,by simpa using q⟩)
   exact⟨k,h1,by simp[h2]⟩
 ·intro h w hw
  obtain⟨h1,h2⟩:=List.mem_filter.mp hw
  obtain⟨k,h3,h4⟩:=h w h1
  rcases y09.mp h4 with rfl|h4
  ·simp[h3] at h2
  ·exact⟨k,h3,h4⟩
theorem z8k {n:Nat} {ths:List (List Nat)} (h:¬(missed n ths).length<ths.length):∀w∈ths,n∉w:=by
 have:=List.length_filter_eq_length_iff.mp (Nat.le_antisymm (y26 (fun w=>!decide (n∈w)) ths) (Nat.le_of_not_lt h))
 intro w hw
 simpa using this w hw
theorem stops_sound:∀{nums:List Nat} {ths:List (List Nat)} {many:Nat} {C:List Nat},stopsR ths nums many=some C->C.Sublist nums/\C.length<=many/\Hits C ths
 | [],ths,many,C,h=>by
  unfold stopsR at h
  split at h
  next e =>
   cases h
   have:ths=[]:=by simpa using e
   subst this
   exact⟨.slnil,by simp,by simp[Hits]⟩
  next=>cases h
 | n::ns,ths,many,C,h=>by
  unfold stopsR at h
  split at h
  next e =>
   cases h
   have:ths=[]:=by simpa using e
   subst this
   exact⟨List.nil_sublist _,by simp,by simp[Hits]⟩
  next =>
   split at h
   next=>cases h
   next hm =>
    split at h
    next =>
     split at h
     next b hb =>
      cases h
      obtain⟨h1,h2,h3⟩:=stops_sound hb
      exact⟨h1.cons₂ n,by simp;omega,z2i.mp h3⟩
     next =>
      obtain⟨h1,h2,h3⟩:=stops_sound h
      exact⟨h1.cons n,h2,h3⟩
    next =>
     obtain⟨h1,h2,h3⟩:=stops_sound h
     exact⟨h1.cons n,h2,h3⟩
theorem z9l {ths:List (List Nat)} (h:Hits [] ths):ths=[]:=by
 cases ths with
 | nil=>rfl
 | cons w ws =>
  obtain⟨k,_,hk⟩:=h w (by simp)
  cases hk
theorem z1f:∀{nums:List Nat} {ths:List (List Nat)} {many:Nat} {D:List Nat},D.Sublist nums->D.length<=many->Hits D ths->stopsR ths nums many≠none
 | [],ths,many,D,hs,hl,hh=>by
  have:D=[]:=List.sublist_nil.mp hs
  subst this
  have:=z9l hh
  subst this
  simp[stopsR]
 | n::ns,ths,many,D,hs,hl,hh=>by
  unfold stopsR
  split
  next=>simp
  next he =>
   split
   next hm =>
    have:D=[]:=by
     cases D with
     | nil=>rfl
     | cons a D=>simp at hl;omega
    subst this
    exact absurd (z9l hh) (by simpa using he)
   next hm =>
    split
    next =>
     split
     next=>simp
     next hn =>
      cases hs with
      | cons _ hs=>exact z1f hs hl hh
      | cons_cons _ hs=>exact absurd hn (z1f hs (by simp at hl;omega) (z2i.mpr hh))
    next hlt =>
     cases hs with
     | cons _ hs=>exact z1f hs hl hh
     | @cons_cons D' _ _ hs =>
      refine z1f hs (by simp at hl;omega) fun w hw=>?_
      obtain⟨k,h1,h2⟩:=hh w hw
      rcases y09.mp h2 with rfl|h2
      ·exact absurd h1 (z8k hlt w hw)
      ·exact⟨k,h1,h2⟩
theorem z33:∀{nums:List Nat} {ths:List (List Nat)} {many:Nat} {C:List Nat},nums.Pairwise (·<·)->stopsR ths nums many=some C->(∀D,D.Sublist nums->Hits D ths->many<=D.length)->∀D,D.Sublist nums->Hits D ths->D.length<=many->D=C\/Lx (·<·) C D
 | [],ths,many,C,_,h,hmin,D,hs,hh,hl=>by
  have:D=[]:=List.sublist_nil.mp hs
  subst this
  have:=(stops_sound h).1
  exact .inl (List.sublist_nil.mp this).symm
 | n::ns,ths,many,C,pw,h,hmin,D,hs,hh,hl=>by
  have p:=y18.mp pw
  unfold stopsR at h
  split at h
  next e =>
   cases h
   cases D with
   | nil=>exact .inl rfl
   | cons a D=>exact .inr .nil
  next he =>
   split at h
   next=>cases h
   next hm =>
    have hup:∀D,D.Sublist ns->Hits D ths->many<=D.length:=fun D hs hh=>hmin D (hs.cons n) hh
    split at h
    next =>
     split at h
     next b hb =>
      cases h
      cases hs with
      | cons _ hs =>
       cases D with
       | nil=>exact absurd (z9l hh) (by simpa using he)
       | cons a D=>exact .inr (.head (p.1 a (hs.subset (by simp))))
      | @cons_cons D' _ _ hs =>
       rcases z33 p.2 hb (fun X h1 h2=>by
        have:=hmin (n::X) (h1.cons₂ n) (z2i.mp h2)
        simp at this
        omega) D' hs (z2i.mpr hh) (by simp at hl;omega) with q|q
       ·exact .inl (by rw[q])
       ·exact .inr (.tail q)
     next hn =>
      cases hs with
      | cons _ hs=>exact z33 p.2 h hup D hs hh hl
      | cons_cons _ hs=>exact absurd hn (z1f hs (by simp at hl;omega) (z2i.mpr hh))
    next hlt =>
     cases hs with
     | cons _ hs=>exact z33 p.2 h hup D hs hh hl
     | @cons_cons D' _ _ hs =>
      have:=hup D' hs fun w hw=>by
       obtain⟨k,h1,h2⟩:=hh w hw
       rcases y09.mp h2 with rfl|h2
       ·exact absurd h1 (z8k hlt w hw)
       ·exact⟨k,h1,h2⟩
      simp at hl
      omega
def fewL (ths:List (List Nat)) (nums:List Nat):List Nat->Option (List Nat)
 | []=>none
 | m::ms=>match stopsR ths nums m with
  | some C=>some C
  | none=>fewL ths nums ms
theorem zb1 {ths:List (List Nat)} {nums:List Nat}:∀{k n:Nat} {C:List Nat},fewL ths nums (List.range' k n)=some C->∃m,k<=m/\m<k+n/\stopsR ths nums m=some C/\∀j,k<=j->j<m->stopsR ths nums j=none
 | k,0,C,h=>by cases h
 | k,n+1,C,h=>by
  rw[List.range'_succ,fewL] at h
  split at h
  next C' hC =>
   cases h
   exact⟨k,y0o _,by omega,hC,fun j h1 h2=>by omega⟩
  next hn =>
   obtain⟨m,h1,h2,h3,h4⟩:=zb1 h
   refine⟨m,by omega,by omega,h3,fun j g1 g2=>?_⟩
   rcases Nat.lt_or_ge k j with q|q
   ·exact h4 j (by omega) g2
   ·have:j=k:=by omega
    subst this
    exact hn
theorem zdt {ths:List (List Nat)} {nums:List Nat}:∀{k n m:Nat},k<=m->m<k+n->stopsR ths nums m≠none->∃C,fewL ths nums (List.range' k n)=some C
 | k,0,m,h1,h2,_=>by omega
 | k,n+1,m,h1,h2,h3=>by
  rw[List.range'_succ,fewL]
  split
  next C _=>exact⟨C,rfl⟩
  next hn =>
   refine zdt (m:=m) ?_ (by omega) h3
   rcases Nat.lt_or_ge k m with q|q
   ·exact q
   ·have:m=k:=by omega
    subst this
    exact absurd hn h3
theorem few_spec {ths:List (List Nat)} {M:Nat} (hne:∀w∈ths,w≠[]/\∀k∈w,k<M):∃C,fewL ths (List.range M) (List.range (M+1))=some C/\C.Sublist (List.range M)/\Hits C ths/\(∀D,D.Sublist (List.range M)->Hits D ths->C.length<=D.length)/\∀D,D.Sublist (List.range M)->Hits D ths->D.length=C.length->D=C\/Lx (·<·) C D:=by
 have full:Hits (List.range M) ths:=fun w hw=>by
  obtain⟨h1,h2⟩:=hne w hw
  cases w with
  | nil=>exact absurd rfl h1
  | cons k w=>exact⟨k,by simp,List.mem_range.mpr (h2 k (by simp))⟩
 have hs:=z1f (many:=M) (List.Sublist.refl (List.range M)) (by simp) full
 rw[List.range_eq_range' (n:=M+1)]
 obtain⟨C,hC⟩:=zdt (ths:=ths) (nums:=List.range M) (k:=0) (n:=M+1) (m:=M) (by omega) (by omega) hs
 obtain⟨m,h1,h2,h3,h4⟩:=zb1 hC
 obtain⟨s1,s2,s3⟩:=stops_sound h3
 have hmin:∀D,D.Sublist (List.range M)->Hits D ths->m<=D.length:=fun D d1 d2=>by
  rcases Nat.lt_or_ge D.length m with q|q
  ·exact absurd (h4 D.length (by omega) q) (z1f d1 (y0o _) d2)
  ·exact q
 have hCm:C.length=m:=Nat.le_antisymm s2 (hmin C s1 s3)
 exact⟨C,hC,s1,s3,fun D d1 d2=>by rw[hCm];exact hmin D d1 d2,fun D d1 d2 d3=>z33 List.pairwise_lt_range h3 hmin D d1 d2 (by omega)⟩
def Apt (w v:List Nat):Prop:=∀k∈w,k∉v
def aptB (w v:List Nat):Bool:=!w.any fun k=>decide (k∈v)
theorem ze8 {w v:List Nat}:aptB w v=true <-> Apt w v:=by
 simp[aptB,Apt]
noncomputable def faL (rec:List (List Nat)->Option (List (List Nat))):List (List Nat)->Option (List (List Nat))
 | []=>none
 | w::ws=>match rec (ws.filter (aptB w)) with
  | some b=>some (w::b)
  | none=>faL rec ws
def faR:Nat->List (List Nat)->Option (List (List Nat))
 | 0,_=>some []
 | m+1,ths=>faL (faR m) ths
theorem fa_sound:∀{m:Nat} {ths B:List (List Nat)},faR m ths=some B->B.Sublist ths/\B.length=m/\B.Pairwise Apt
 | 0,ths,B,h=>by
  cases h
  exact⟨List.nil_sublist _,rfl,.nil⟩
 | m+1,ths,B,h=>by
  have key:∀{l B:List (List Nat)},faL (faR m) l=some B->B.Sublist l/\B.length=m+1/\B.Pairwise Apt:=by
   intro l
   induction l with
   | nil=>intro B h;cases h
   | cons w ws ih =>
    intro B h
    unfold faL at h
    split at h
    next b hb =>
     cases h
     obtain⟨h1,h2,h3⟩:=fa_sound hb
     refine⟨(h1.trans List.filter_sublist).cons₂ w,by simp[h2],y18.mpr ⟨fun v hv=>?_,h3⟩⟩
     exact ze8.mp (List.mem_filter.mp (h1.subset hv)).2
    next =>
     obtain⟨h1,h2,h3⟩:=ih h
     exact⟨h1.cons w,h2,h3⟩
  exact key h
theorem zew {D ws:List (List Nat)} {w:List Nat} (hs:D.Sublist ws) (ha:∀v∈D,Apt w v):D.Sublist (ws.filter (aptB w)):=by
 have:=hs.filter (aptB w)
 rw[List.filter_eq_self.mpr fun v hv=>ze8.mpr (ha v hv)] at this
 exact this
theorem fa_compl:∀{m:Nat} {ths D:List (List Nat)},D.Sublist ths->D.length=m->D.Pairwise Apt->faR m ths≠none
 | 0,ths,D,_,_,_=>by simp[faR]
 | m+1,ths,D,hs,hl,hp=>by
  have key:∀{l D:List (List Nat)},D.Sublist l->D.length=m+1->D.Pairwise Apt->faL (faR m) l≠none:=by
   intro l
   induction l with
   | nil =>
    intro D hs hl _
    have:D=[]:=List.sublist_nil.mp hs
    subst this
    simp at hl
   | cons w ws ih =>
    intro D hs hl hp
    unfold faL
    split
    next=>simp
    next hn =>
     cases hs with
     | cons _ hs=>exact ih hs hl hp
     | @cons_cons D' _ _ hs =>
      have p:=y18.mp hp
      exact absurd hn (fa_compl (zew hs p.1) (by simpa using hl) p.2)
  exact key hs hl hp
theorem apart_le {C:List Nat}:∀{B:List (List Nat)},B.Pairwise Apt->Hits C B->B.length<=C.length
 | [],_,_=>by simp
 | w::B,hp,hh=>by
  have p:=y18.mp hp
  obtain⟨k,h1,h2⟩:=hh w (by simp)
  have ih:=apart_le (C:=C.erase k) p.2 fun v hv=>by
   obtain⟨j,g1,g2⟩:=hh v (by simp[hv])
   refine⟨j,g1,(List.mem_erase_of_ne fun (e:j=k)=>?_).mpr g2⟩
   subst e
   exact p.1 v hv j h1 g1
  rw[List.length_erase_of_mem h2] at ih
  have:=List.length_pos_of_mem h2
  simp
  omega
theorem apart_many {R:Int} {E:List (Int×Int)} (hW:Within R E) (h0:0<=R) (hE:∀e∈E,e.1≠e.2) {room:Int} (hr:room≠0) {n:Nat} {ws:List (List Nat)} (h:waysP E room n [0]=some ws) {C:List Nat} (hC:Hits C ws) (hmin:∀D,D.Sublist (List.range E.length)->Hits D ws->C.length<=D.length) :
  ∃D:List (List Nat),D.Sublist ws/\D.length=C.length/\D.Pairwise Apt:=by
 have nd:((List.range (R.toNat+1)).map fun (k:Nat)=>(k:Int)).Nodup:=List.pairwise_map.mpr (List.nodup_range.imp fun h z=>h (by omega))
 have hin:∀x:Int,0<=x->x<=R->x∈(List.range (R.toNat+1)).map fun (k:Nat)=>(k:Int):=fun x h1 h2=>y0m.mpr ⟨x.toNat,List.mem_range.mpr (by omega),by omega⟩
 obtain⟨K,vs,k1,k2,k3,k4,k5,k6⟩:=zoy hE (s:=0) (t:=room) (Ne.symm hr) nd (fun e he=>by
  obtain⟨a,b,c,d⟩:=hW e he
  exact⟨hin _ a b,hin _ c d⟩) (hin 0 (Int.le_refl _) h0)
 have hvw:∀v∈vs,v∈ws:=fun v hv=>(ways_char h v).mpr (k5 v hv)
 have hKs:K.Sublist (List.range E.length):=by
  have:∀{l:List Nat} {a n:Nat},l.Pairwise (·<·)->(∀k∈l,a<=k/\k<a+n)->l.Sublist (List.range' a n):=by
   intro l a n
   induction n generalizing l a with
   | zero =>
    intro _ hb
    cases l with
    | nil=>exact List.nil_sublist _
    | cons x l=>have:=hb x (by simp);omega
   | succ n ih =>
    intro pw hb
    rw[List.range'_succ]
    cases l with
    | nil=>exact List.nil_sublist _
    | cons x l =>
     have p:=y18.mp pw
     by_cases e:x=a
     ·subst e
      exact (ih p.2 fun k hk=>by have:=p.1 k hk;have:=hb k (by simp[hk]);omega).cons₂ _
     ·have hx:=hb x (by simp)
      exact (ih pw fun k hk=>by
       have h1:=hb k hk
       rcases y09.mp hk with rfl|hk
       ·omega
       ·have:=p.1 k hk
        omega).cons a
  rw[List.range_eq_range']
  exact this k1 fun k hk=>by have:=k3 k hk;omega
 have hKh:Hits K ws:=fun w hw=>by
  obtain⟨p,p1,p2,p3⟩:=(ways_char h w).mp hw
  exact k4 w p p1 p3
 have l1:=hmin K hKs hKh
 have l2:=apart_le k6 fun v hv=>hC v (hvw v hv)
 have ne:∀v∈ws,v≠[]:=fun v hv=>by
  rintro rfl
  obtain⟨p,p1,p2,p3⟩:=(ways_char h []).mp hv
  have:p=[]:=p1
  subst this
  simp at p3
  exact hr p3.symm
 have ndv:vs.Nodup:=by
  have:∀{l:List (List Nat)},l.Pairwise Apt->(∀v∈l,v≠[])->l.Nodup:=by
   intro l hp hn
   refine List.Pairwise.imp_of_mem (fun {a b} ha hb (q:Apt a b) z=>?_) hp
   subst z
   cases a with
   | nil=>exact hn [] ha rfl
   | cons k a=>exact q k (by simp) (by simp)
  exact this k6 fun v hv=>ne v (hvw v hv)
 have ndw:ws.Nodup:=(ways_pw h).imp fun q z=>by
  subst z
  exact List.lt_irrefl _ q
 have hperm:(ws.filter fun w=>decide (w∈vs)).Perm vs:=(List.perm_ext_iff_of_nodup (ndw.filter _) ndv).mpr fun w=>by
  rw[List.mem_filter]
  simp only[decide_eq_true_eq]
  exact⟨fun z=>z.2,fun z=>⟨hvw w z,z⟩⟩
 have sym:∀{a b:List Nat},Apt a b->Apt b a:=fun q k h1 h2=>q k h2 h1
 refine⟨_,List.filter_sublist,by rw[hperm.length_eq];omega,?_⟩
 exact (hperm.pairwise_iff sym).mpr k6
end Hg
end
section
namespace Wo
open PySem D Ho
theorem z2s {c:Ft} {a:Fs} {ε:Ev} (h:c ε=some false):iff c a skip ε=some (.nx ε):=(z4h h).trans rfl
def cstN (w:List Nat):List Int:=w.map fun (k:Nat)=>(k:Int)
theorem z4l (w:List Nat):wT w=.tuple ((cstN w).map .int):=by simp[wT,cstN]
theorem mem_cast {k:Nat} {w:List Nat}:((k:Int)∈cstN w) <-> k∈w:=by
 unfold cstN
 rw[y0m]
 constructor
 ·rintro⟨j,hj,e⟩
  have:j=k:=by omega
  exact this▸hj
 ·intro h
  exact⟨k,h,rfl⟩
theorem z5l (neg:Bool) (k:Nat) (w:List Nat):oIn neg (.int k) (wT w)=some (.bool (if neg then !decide (k∈w) else decide (k∈w))):=by
 rw[z4l,z9h]
 have:decide ((k:Int)∈cstN w)=decide (k∈w):=decide_eq_decide.mpr mem_cast
 rw[this]
def seqT (b:Bool) (ws:List (List Nat)):T:=if b then .tuple (ws.map wT) else .list (ws.map wT)
theorem zc2 {f:Fe} {ε:Ev} {b:Bool} {ws:List (List Nat)} (h:f ε=some (seqT b ws)):z0d f ε=some (ws.map wT):=by
 unfold z0d
 rw[h]
 cases b <;> rfl
theorem zjt (b:Bool) (ws:List (List Nat)):oLen [seqT b ws]=some (.int ws.length):=by
 cases b <;> simp[seqT,oLen]
theorem zij {f:Fe} {ε:Ev} {b:Bool} {ws:List (List Nat)} (h:f ε=some (seqT b ws)):tstL f ε=some (!ws.isEmpty):=by
 unfold tstL
 rw[h]
 cases b <;> cases ws <;> rfl
theorem zd0 (n k:Nat) (h:k<=n):D.sIx n 0 (some (k:Int))=k:=by
 unfold D.sIx
 simp only
 rw[if_neg (by omega)]
 omega
theorem zlp (b:Bool) (ws:List (List Nat)) (k:Nat) (h:k<=ws.length):oSl (seqT b ws) (some (k:Int)) none=some (seqT b (ws.drop k)):=by
 have e:cutZ (ws.map wT) (some (k:Int)) none=(ws.drop k).map wT:=by
  unfold cutZ
  have h1:D.sIx (ws.map wT).length (ws.map wT).length none=(ws.map wT).length:=rfl
  rw[zd0 _ _ (by simpa using h),h1,List.map_drop]
  refine List.take_of_length_le ?_
  rw[List.length_drop]
  exact y0o _
 cases b
 ·show some (PyData.list _)=_
  rw[e]
  rfl
 ·show some (PyData.tuple _)=_
  rw[e]
  rfl
theorem znq (w:List Nat) (k:Nat) (h:k<=w.length):oSl (wT w) (some (k:Int)) none=some (wT (w.drop k)):=by
 unfold wT oSl cutZ
 have h1:D.sIx (w.map fun (k:Nat)=>PyData.int (k:Int)).length (w.map fun (k:Nat)=>PyData.int (k:Int)).length none=(w.map fun (k:Nat)=>PyData.int (k:Int)).length:=rfl
 simp only
 rw[zd0 _ _ (by simpa using h),h1,List.map_drop,List.take_of_length_le (by rw[List.length_drop];exact y0o _)]
theorem znf (n:Nat) (w:List Nat) (h:w.length<=1000):oAdd (.tuple [.int n]) (wT w)=some (wT (n::w)):=by
 have:=zbm (xs:=[PyData.int (n:Int)]) (ys:=w.map fun (k:Nat)=>PyData.int (k:Int)) (by simp;omega)
 exact this
def opW:Option (List Nat)->T
 | some C=>wT C
 | none=>.none
def opR:Option (List (List Nat))->T
 | some B=>.tuple (B.map wT)
 | none=>.none
theorem z7r (n:Nat):∀(ths:List (List Nat)) (j:Option Sl),z1k (gNm 0) (tstB (op2 (oIn true) (nm 1) (nm 0))) (nmV 0) (ths.map wT) [j,some (.imm (.int n))]=some ((Hg.missed n ths).map wT)
 | [],j=>rfl
 | w::ths,j=>by
  have ih:=z7r n ths (some (.imm (wT w)))
  have e0:gNm 0 (wT w) [j,some (.imm (.int n))]=some [some (.imm (wT w)),some (.imm (.int n))]:=rfl
  have c:tstB (op2 (oIn true) (nm 1) (nm 0)) [some (.imm (wT w)),some (.imm (.int n))]=some (!decide (n∈w)):=z0s (z0i rfl rfl (z5l true n w))
  have v:nmV 0 [some (.imm (wT w)),some (.imm (.int n))]=some (wT w):=rfl
  unfold Hg.missed at ih ⊢
  by_cases h:n∈w
  ·simp only[y0d,z1k,e0,c,y0p,h,decide_true,Bool.not_true,y1u,if_false,ih,List.filter_cons]
  ·simp only[y0d,z1k,e0,c,y0p,h,decide_false,Bool.not_false,if_true,v,ih,List.filter_cons,y1r]
def endW (ε:Ev):Option (List Nat)->Out
 | some C=>.rt (wT C)
 | none=>.nx ε
def endN (n:Nat) (ε:Ev):Option (List Nat)->Out
 | some C=>.rt (wT (n::C))
 | none=>.nx ε
noncomputable def bS (rec:List T->Option T):Fs:=(seq (asg 5 (comp 1 [4] (z0d (nmV 0)) (gNm 0) (tstB (op2 (oIn true) (nm 1) (nm 0))) (nmV 0)))
  (iff (tstB (op2 oLt (opN oLen [(nm 5)]) (opN oLen [(nm 0)]))) (seq (asg 6 (opN rec [(nmV 5),(slice (nm 1) (opt (op2 oAdd (nm 3) (cst (.int 1)))) optN),(op2 oSub (nm 2) (cst (.int 1)))]))
  (iff (tstB (op1 z17 (nm 6))) (rtn (op2 oAdd (z06 [(nmV 4)]) (nm 6))) skip)) skip))
def envS (b:Bool) (ths:List (List Nat)) (nums:List Nat) (many:Nat) (j3 j4 j5 j6:Option Sl):Ev:=[some (.imm (seqT b ths)),some (.imm (wT nums)),some (.imm (.int many)),j3,j4,j5,j6]
theorem zns {rec:List T->Option T} (b:Bool) (ths:List (List Nat)) (nums:List Nat) (many:Nat) (hm:many≠0) (hl:ths.length<=1000) (k n:Nat) (hk:k<nums.length) (r:Option (List Nat)) (hr:∀C,r=some C->C.length<=900)
  (hrec:(Hg.missed n ths).length<ths.length->rec [.list ((Hg.missed n ths).map wT),wT (nums.drop (k+1)),.int ((many:Int) - 1)]=some (opW r)) (j5 j6:Option Sl) :
  bS rec (envS b ths nums many (some (.imm (.int k))) (some (.imm (.int n))) j5 j6) =
   some (if (Hg.missed n ths).length<ths.length then (endN n (envS b ths nums many (some (.imm (.int k))) (some (.imm (.int n))) (some (.imm (.list ((Hg.missed n ths).map wT)))) (some (.imm .none))) r) else .nx (envS b ths nums many (some (.imm (.int k))) (some (.imm (.int n))) (some (.imm (.list ((Hg.missed n ths).map wT)))) j6)):=by
 have v5:comp 1 [4] (z0d (nmV 0)) (gNm 0) (tstB (op2 (oIn true) (nm 1) (nm 0))) (nmV 0) (envS b ths nums many (some (.imm (.int k))) (some (.imm (.int n))) j5 j6)=some (.list ((Hg.missed n ths).map wT)):=by
  have it:z0d (nmV 0) (envS b ths nums many (some (.imm (.int k))) (some (.imm (.int n))) j5 j6)=some (ths.map wT):=zc2 rfl
  have hcap:z1m 1 [4] (envS b ths nums many (some (.imm (.int k))) (some (.imm (.int n))) j5 j6)=[none,some (.imm (.int n))]:=rfl
  simp only[comp,it,y0p,hcap,z7r,y13]
  rw[if_pos (by unfold big;omega)]
  rfl
 have s5:asg 5 (comp 1 [4] (z0d (nmV 0)) (gNm 0) (tstB (op2 (oIn true) (nm 1) (nm 0))) (nmV 0)) (envS b ths nums many (some (.imm (.int k))) (some (.imm (.int n))) j5 j6)=some (.nx (envS b ths nums many (some (.imm (.int k))) (some (.imm (.int n))) (some (.imm (.list ((Hg.missed n ths).map wT)))) j6)):=z1n v5
 have c:tstB (op2 oLt (opN oLen [(nm 5)]) (opN oLen [(nm 0)])) (envS b ths nums many (some (.imm (.int k))) (some (.imm (.int n))) (some (.imm (.list ((Hg.missed n ths).map wT)))) j6)=some (decide (((Hg.missed n ths).length:Int)<(ths.length:Int))):=by
  refine z0s (z0i (z0b (z27 (f:=nm 5) rfl) (t:=.int (Hg.missed n ths).length) (by simp[oLen])) (z0b (z27 (f:=nm 0) rfl) (zjt b ths)) rfl)
 unfold bS
 rw[z08 s5]
 by_cases hlt:(Hg.missed n ths).length<ths.length
 ·rw[if_pos hlt]
  rw[decide_eq_true (by omega)] at c
  rw[z3t c]
  have sl:slice (nm 1) (opt (op2 oAdd (nm 3) (cst (.int 1)))) optN (envS b ths nums many (some (.imm (.int k))) (some (.imm (.int n))) (some (.imm (.list ((Hg.missed n ths).map wT)))) j6)=some (wT (nums.drop (k+1))):=by
   have h1:nm 1 (envS b ths nums many (some (.imm (.int k))) (some (.imm (.int n))) (some (.imm (.list ((Hg.missed n ths).map wT)))) j6)=some (wT nums):=rfl
   have h2:opt (op2 oAdd (nm 3) (cst (.int 1))) (envS b ths nums many (some (.imm (.int k))) (some (.imm (.int n))) (some (.imm (.list ((Hg.missed n ths).map wT)))) j6)=some (some ((k+1:Nat):Int)):=rfl
   simp only[slice,h1,h2,y0p,optN]
   exact znq nums (k+1) hk
  have sb:op2 oSub (nm 2) (cst (.int 1)) (envS b ths nums many (some (.imm (.int k))) (some (.imm (.int n))) (some (.imm (.list ((Hg.missed n ths).map wT)))) j6)=some (.int ((many:Int) - 1)):=z0i rfl rfl rfl
  have s6:asg 6 (opN rec [(nmV 5),(slice (nm 1) (opt (op2 oAdd (nm 3) (cst (.int 1)))) optN),(op2 oSub (nm 2) (cst (.int 1)))]) (envS b ths nums many (some (.imm (.int k))) (some (.imm (.int n))) (some (.imm (.list ((Hg.missed n ths).map wT)))) j6)=some (.nx (envS b ths nums many (some (.imm (.int k))) (some (.imm (.int n))) (some (.imm (.list ((Hg.missed n ths).map wT)))) (some (.imm (opW r))))) :=
   z1n (z0b (znd rfl sl sb) (hrec hlt))
  rw[z08 s6]
  cases r with
  | none =>
   have c6:tstB (op1 z17 (nm 6)) (envS b ths nums many (some (.imm (.int k))) (some (.imm (.int n))) (some (.imm (.list ((Hg.missed n ths).map wT)))) (some (.imm (opW none))))=some false:=rfl
   rw[z2s c6]
   rfl
  | some C =>
   have c6:tstB (op1 z17 (nm 6)) (envS b ths nums many (some (.imm (.int k))) (some (.imm (.int n))) (some (.imm (.list ((Hg.missed n ths).map wT)))) (some (.imm (opW (some C)))))=some true:=rfl
   rw[z3t c6]
   have ha:op2 oAdd (z06 [(nmV 4)]) (nm 6) (envS b ths nums many (some (.imm (.int k))) (some (.imm (.int n))) (some (.imm (.list ((Hg.missed n ths).map wT)))) (some (.imm (opW (some C)))))=some (wT (n::C)) :=
    z0i (z6b (z27 rfl) (by simp)) rfl (znf n C (by have:=hr C rfl;omega))
   simp only[rtn,ha,y1r,endN]
 ·rw[if_neg hlt]
  rw[decide_eq_false (by omega)] at c
  rw[z2s c]
theorem zfl {ths:List (List Nat)} {nums:List Nat} {many:Nat} {C:List Nat} (h:Hg.stopsR ths nums many=some C):C.length<=nums.length:=(Hg.stops_sound h).1.length_le
theorem zfw {rec:List T->Option T} (b:Bool) (ths:List (List Nat)) (nums:List Nat) (many:Nat) (hm:many≠0) (hne:ths≠[]) (hl:ths.length<=1000) (hnum:nums.length<=800)
  (hrec:∀os ns,ns.length<nums.length->os.length<=1000->rec [.list (os.map wT),wT ns,.int ((many:Int) - 1)]=some (opW (Hg.stopsR os ns (many - 1)))) :
  ∀(ns:List Nat) (k:Nat) (j3 j4 j5 j6:Option Sl),nums.drop k=ns->∃ε,forL (gTu [(gNm 3),(gNm 4)]) (bS rec) (((ns.map fun (k:Nat)=>PyData.int (k:Int)).zipIdx k).map fun p=>.tuple [.int p.2,p.1]) (envS b ths nums many j3 j4 j5 j6)=some (endW ε (Hg.stopsR ths ns many))
 | [],k,j3,j4,j5,j6,_=>by
  refine⟨envS b ths nums many j3 j4 j5 j6,?_⟩
  have:Hg.stopsR ths [] many=none:=by
   unfold Hg.stopsR
   rw[if_neg (by simpa using hne)]
  rw[this]
  rfl
 | n::ns,k,j3,j4,j5,j6,hd=>by
  have hk:k<nums.length:=by
   rcases Nat.lt_or_ge k nums.length with q|q
   ·exact q
   ·rw[List.drop_of_length_le q] at hd
    cases hd
  have hd':nums.drop (k+1)=ns:=by
   rw[List.drop_eq_getElem_cons hk] at hd
   exact (List.cons.inj hd).2
  have hnl:ns.length<nums.length:=by
   rw[<- hd',List.length_drop]
   omega
  have hml:(Hg.missed n ths).length<=1000:=y1p (y26 _ _) hl
  have st:=zns (rec:=rec) b ths nums many hm hl k n hk (Hg.stopsR (Hg.missed n ths) ns (many - 1)) (fun C h=>by have:=zfl h;omega) (fun _=>by rw[hd'];exact hrec _ ns hnl hml) j5 j6
  have e0:gTu [(gNm 3),(gNm 4)] (.tuple [.int k,.int n]) (envS b ths nums many j3 j4 j5 j6)=some (envS b ths nums many (some (.imm (.int k))) (some (.imm (.int n))) j5 j6):=rfl
  have he:ths.isEmpty=false:=by simpa using hne
  rw[y0d,List.zipIdx_cons,y0d]
  by_cases hlt:(Hg.missed n ths).length<ths.length
  ·rw[if_pos hlt] at st
   cases hs:Hg.stopsR (Hg.missed n ths) ns (many - 1) with
   | some C =>
    rw[hs] at st
    have unf:Hg.stopsR ths (n::ns) many=some (n::C):=by
     simp only[Hg.stopsR,he,y1u,if_false,hm,hlt,if_true,hs]
    rw[unf]
    refine⟨envS b ths nums many j3 j4 j5 j6,?_⟩
    simp only[forL,e0,y0p,st,endN]
    rfl
   | none =>
    rw[hs] at st
    have unf:Hg.stopsR ths (n::ns) many=Hg.stopsR ths ns many:=by
     conv=>lhs;simp only[Hg.stopsR,he,y1u,if_false,hm,hlt,if_true,hs]
    rw[unf]
    obtain⟨ε,ih⟩:=zfw b ths nums many hm hne hl hnum hrec ns (k+1) (some (.imm (.int k))) (some (.imm (.int n))) (some (.imm (.list ((Hg.missed n ths).map wT)))) (some (.imm .none)) hd'
    exact⟨ε,by rw[z4s e0 st];exact ih⟩
  ·rw[if_neg hlt] at st
   have unf:Hg.stopsR ths (n::ns) many=Hg.stopsR ths ns many:=by
    conv=>lhs;simp only[Hg.stopsR,he,y1u,if_false,hm,hlt]
   rw[unf]
   obtain⟨ε,ih⟩:=zfw b ths nums many hm hne hl hnum hrec ns (k+1) (some (.imm (.int k))) (some (.imm (.int n))) (some (.imm (.list ((Hg.missed n ths).map wT)))) j6 hd'
   exact⟨ε,by rw[z4s e0 st];exact ih⟩
theorem zcv:∀(n:Nat) (b:Bool) (ths:List (List Nat)) (nums:List Nat) (many:Nat),nums.length<n->ths.length<=1000->nums.length<=800->z1s n [seqT b ths,wT nums,.int many]=some (opW (Hg.stopsR ths nums many))
 | 0,b,ths,nums,many,h,_,_=>by omega
 | n+1,b,ths,nums,many,h,hl,hnum=>by
  have e0:z1s (n+1) [seqT b ths,wT nums,.int many]=(z3c (z1s n) (envS b ths nums many none none none none)).bind fun o=>match o with|.rt t=>some t|.nx _=>some .none|_=>none:=rfl
  rw[e0]
  have c1:notT (tstL (nm 0)) (envS b ths nums many none none none none)=some (!(!ths.isEmpty)):=by
   have:tstL (nm 0) (envS b ths nums many none none none none)=some (!ths.isEmpty):=zij rfl
   simp only[notT,this,y1r]
  by_cases hne:ths=[]
  ·subst hne
   have r:z3c (z1s n) (envS b [] nums many none none none none)=some (.rt (.tuple [])):=by
    unfold z3c
    simp only[seq,z3t (show notT (tstL (nm 0)) (envS b [] nums many none none none none)=some true from c1),rtn]
    rfl
   rw[r,Hg.stopsR_nil]
   rfl
  ·have he:ths.isEmpty=false:=by cases ths with
    | nil=>exact absurd rfl hne
    | cons a b=>rfl
   rw[he] at c1
   have c2:tstB (op2 oEq (nm 2) (cst (.int 0))) (envS b ths nums many none none none none)=some (decide ((many:Int)=0)):=z0s (z0i rfl rfl (z5m _ _))
   by_cases hm:many=0
   ·subst hm
    have hs:Hg.stopsR ths nums 0=none:=by
     cases nums with
     | nil=>unfold Hg.stopsR;rw[if_neg (by simpa using hne)]
     | cons a r=>unfold Hg.stopsR;rw[if_neg (by simpa using hne),if_pos rfl]
    have r:z3c (z1s n) (envS b ths nums 0 none none none none)=some (.rt .none):=by
     unfold z3c
     rw[z08 (z2s c1)]
     simp only[seq,z3t (show tstB (op2 oEq (nm 2) (cst (.int 0))) (envS b ths nums 0 none none none none)=some true from c2),rtn]
     rfl
    rw[r,hs]
    rfl
   ·rw[decide_eq_false (by omega)] at c2
    have hmi:(many:Int) - 1=((many - 1:Nat):Int):=by omega
    obtain⟨ε,hlp⟩:=zfw (rec:=z1s n) b ths nums many hm hne hl hnum (fun os ns h1 h2=>by
     rw[hmi]
     exact zcv n false os ns (many - 1) (by omega) h2 (by omega)) nums 0 none none none none rfl
    have it:z1r (z5o (nmV 1)) (envS b ths nums many none none none none)=some (((nums.map fun (k:Nat)=>PyData.int (k:Int)).zipIdx 0).map fun p=>.tuple [.int p.2,p.1]):=rfl
    have hf:for_ (z1r (z5o (nmV 1))) (gTu [(gNm 3),(gNm 4)]) (bS (z1s n)) (envS b ths nums many none none none none)=some (endW ε (Hg.stopsR ths nums many)):=by
     simp only[for_,it,y0p]
     exact hlp
    have r:z3c (z1s n) (envS b ths nums many none none none none)=some (.rt (opW (Hg.stopsR ths nums many))):=by
     unfold bS at hf
     unfold z3c
     rw[z08 (z2s c1),z08 (z2s c2)]
     cases hs:Hg.stopsR ths nums many with
     | some C =>
      rw[hs] at hf
      simp only[seq,hf,y0p,endW]
      rfl
     | none =>
      rw[hs] at hf
      rw[z08 hf]
      rfl
    rw[r]
    rfl
def bF:Fs:=(seq (asg 5 (opN (z1s 20) [(nmV 2),(nmV 3),(nmV 4)]))
  (iff (tstB (op1 z17 (nm 5))) (rtn (nm 5)) skip))
def envF (h:T) (room:Int) (ths:List (List Nat)) (nums:List Nat) (j4 j5:Option Sl):Ev:=[some (.imm h),some (.imm (.int room)),some (.imm (seqT true ths)),some (.imm (wT nums)),j4,j5]
theorem zla (h:T) (room:Int) (ths:List (List Nat)) (nums:List Nat) (hl:ths.length<=1000) (hnum:nums.length<20):∀(ms:List Nat) (j4 j5:Option Sl) (C:List Nat),Hg.fewL ths nums ms=some C->forL (gNm 4) bF (ms.map fun (k:Nat)=>PyData.int (k:Int)) (envF h room ths nums j4 j5)=some (.rt (wT C))
 | [],j4,j5,C,e=>by cases e
 | m::ms,j4,j5,C,e=>by
  have hs:=zcv 20 true ths nums m hnum hl (by omega)
  have e0:gNm 4 (.int m) (envF h room ths nums j4 j5)=some (envF h room ths nums (some (.imm (.int m))) j5):=rfl
  have s5:asg 5 (opN (z1s 20) [(nmV 2),(nmV 3),(nmV 4)]) (envF h room ths nums (some (.imm (.int m))) j5)=some (.nx (envF h room ths nums (some (.imm (.int m))) (some (.imm (opW (Hg.stopsR ths nums m)))))):=z1n (z0b (znd rfl rfl rfl) hs)
  unfold Hg.fewL at e
  cases hr:Hg.stopsR ths nums m with
  | some C' =>
   rw[hr] at e s5
   cases e
   have st:bF (envF h room ths nums (some (.imm (.int m))) j5)=some (.rt (wT C)):=by
    unfold bF
    rw[z08 s5,z3t (show tstB (op1 z17 (nm 5)) _=some true from rfl)]
    rfl
   rw[y0d]
   simp only[forL,e0,y0p,st]
  | none =>
   rw[hr] at e s5
   have st:bF (envF h room ths nums (some (.imm (.int m))) j5)=some (.nx (envF h room ths nums (some (.imm (.int m))) (some (.imm .none)))):=by
    unfold bF
    rw[z08 s5,z2s (show tstB (op1 z17 (nm 5)) _=some false from rfl)]
    rfl
   rw[y0d,z4s e0 st]
   exact zla h room ths nums hl hnum ms _ _ C e
theorem zbr (n:Nat):rng 0 (n:Int)=(List.range n).map fun (k:Nat)=>PyData.int (k:Int):=by
 unfold rng
 simp
theorem zpf (R:Int) (os:List Op) (room:Int) (ths:List (List Nat)) (hos:os.length<20):asg 3 (opN z25 [(opN oLen [(op2 oIx (nm 0) (cst (.int 1)))])]) [some (.imm (z02 R os)),some (.imm (.int room)),some (.imm (seqT true ths)),none,none,none]=some (.nx (envF (z02 R os) room ths (List.range os.length) none none)):=by
 have h1:opN oLen [(op2 oIx (nm 0) (cst (.int 1)))] [some (.imm (z02 R os)),some (.imm (.int room)),some (.imm (seqT true ths)),none,none,none]=some (.int os.length):=z0b (z27 (z0i (x:=z02 R os) rfl rfl (t:=.tuple (os.map opT)) rfl)) (by simp[oLen])
 have h2:z25 [.int os.length]=some (wT (List.range os.length)):=by
  have hb:(0:Int)<=(os.length:Int)/\(os.length:Int)<=100000:=⟨by omega,by omega⟩
  have e:z25 [.int os.length]=if (0:Int)<=(os.length:Int)/\(os.length:Int)<=100000 then some (.tuple (rng 0 (os.length:Int))) else none:=by unfold z25;rfl
  rw[e,if_pos hb,zbr,wT]
 exact z1n (z0b (z27 h1) h2)
theorem zin {j:Int} (h0:0<=j) (h1:j<=100):z4m j=true:=by
 unfold z4m
 simp
 omega
theorem zp7 {f:Fe} {ε:Ev} {j:Int} (h:f ε=some (.int j)) (h0:0<=j) (h1:j<=100):z3f f ε=some (rng 0 j):=by
 unfold z3f
 rw[h]
 simp only[y0p]
 rw[if_pos (zin h0 h1)]
theorem zpg (R:Int) (os:List Op) (room:Int) (ths:List (List Nat)) (hos:os.length<20):z3f (op2 oAdd (opN oLen [(nm 3)]) (cst (.int 1))) (envF (z02 R os) room ths (List.range os.length) none none)=some ((List.range (os.length+1)).map fun (k:Nat)=>PyData.int (k:Int)):=by
 have h0:opN oLen [(nm 3)] (envF (z02 R os) room ths (List.range os.length) none none)=some (.int os.length):=z0b (z27 (x:=wT (List.range os.length)) rfl) (by simp[oLen,wT])
 have h1:op2 oAdd (opN oLen [(nm 3)]) (cst (.int 1)) (envF (z02 R os) room ths (List.range os.length) none none)=some (.int ((os.length:Int)+1)):=z0i h0 rfl rfl
 have e:(os.length:Int)+1=((os.length+1:Nat):Int):=by omega
 rw[zp7 h1 (by omega) (by omega),e,zbr]
theorem zhl {R:Int} {os:List Op} {room:Int} {ths:List (List Nat)} {C:List Nat} (hw:z1e [z02 R os,.int room]=some (.tuple (ths.map wT))) (hl:ths.length<=1000) (hos:os.length<20)
  (hC:Hg.fewL ths (List.range os.length) (List.range (os.length+1))=some C):z1t [z02 R os,.int room]=some (wT C):=by
 have e0:z1t [z02 R os,.int room]=(z6e [some (.imm (z02 R os)),some (.imm (.int room)),none,none,none,none]).bind fun o=>match o with|.rt t=>some t|.nx _=>some .none|_=>none:=rfl
 rw[e0]
 have s2:asg 2 (opN z1e [(nmV 0),(nmV 1)]) [some (.imm (z02 R os)),some (.imm (.int room)),none,none,none,none]=some (.nx [some (.imm (z02 R os)),some (.imm (.int room)),some (.imm (seqT true ths)),none,none,none]):=z1n (z0b (z2v rfl rfl) hw)
 have s3:=zpf R os room ths hos
 have it:=zpg R os room ths hos
 have hf:for_ (z3f (op2 oAdd (opN oLen [(nm 3)]) (cst (.int 1)))) (gNm 4) bF (envF (z02 R os) room ths (List.range os.length) none none)=some (.rt (wT C)):=by
  simp only[for_,it,y0p]
  exact zla (z02 R os) room ths (List.range os.length) hl (by simpa using hos) _ none none C hC
 have r:z6e [some (.imm (z02 R os)),some (.imm (.int room)),none,none,none,none]=some (.rt (wT C)):=by
  unfold bF at hf
  unfold z6e
  rw[z08 s2,z08 s3]
  simp only[seq,hf,y0p]
 rw[r]
 rfl
theorem ze2 (v:List Nat):∀(w:List Nat) (j:Option Sl),z1k (gNm 0) (cstT true) (op2 (oIn false) (nm 0) (nm 1)) (w.map fun (k:Nat)=>PyData.int (k:Int)) [j,some (.imm (wT v))]=some ((w.map fun k=>decide (k∈v)).map .bool)
 | [],j=>rfl
 | k::w,j=>by
  have ih:=ze2 v w (some (.imm (.int k)))
  have e0:gNm 0 (.int k) [j,some (.imm (wT v))]=some [some (.imm (.int k)),some (.imm (wT v))]:=rfl
  have x:op2 (oIn false) (nm 0) (nm 1) [some (.imm (.int k)),some (.imm (wT v))]=some (.bool (decide (k∈v))):=z0i rfl rfl (z5l false k v)
  simp only[y0d,z1k,e0,y0p,cstT,if_true,x,ih,y1r]
theorem z5f:∀bs:List Bool,boolsOf (bs.map .bool)=some bs
 | []=>rfl
 | b::bs=>by
  simp only[y0d,boolsOf,z5f bs]
  rfl
theorem zbk (w v:List Nat) (hl:w.length<=1000):z0r [wT w,wT v]=some (.bool (Hg.aptB w v)):=by
 have e0:z0r [wT w,wT v]=(z4y [some (.imm (wT w)),some (.imm (wT v))]).bind fun o=>match o with|.rt t=>some t|.nx _=>some .none|_=>none:=rfl
 rw[e0]
 have hc:comp 1 [1] (z0d (nmV 0)) (gNm 0) (cstT true) (op2 (oIn false) (nm 0) (nm 1)) [some (.imm (wT w)),some (.imm (wT v))]=some (.list ((w.map fun k=>decide (k∈v)).map .bool)):=by
  have it:z0d (nmV 0) [some (.imm (wT w)),some (.imm (wT v))]=some (w.map fun (k:Nat)=>PyData.int (k:Int)):=rfl
  have hcap:z1m 1 [1] [some (.imm (wT w)),some (.imm (wT v))]=[none,some (.imm (wT v))]:=rfl
  simp only[comp,it,y0p,hcap,ze2,y13]
  rw[if_pos (by unfold big;omega)]
  rfl
 have ha:opN oAny [(comp 1 [1] (z0d (nmV 0)) (gNm 0) (cstT true) (op2 (oIn false) (nm 0) (nm 1)))] [some (.imm (wT w)),some (.imm (wT v))]=some (.bool ((w.map fun k=>decide (k∈v)).any id)):=by
  refine z0b (z27 hc) ?_
  simp only[oAny,z5f,y1r]
 simp only[z4y,rtn,notV,ha,y0p,y1r,Hg.aptB,List.any_map,y16,id]
theorem ze5 (w:List Nat) (hl:w.length<=1000):∀(vs:List (List Nat)) (j:Option Sl),z1k (gNm 0) (tstB (opN z0r [(nmV 1),(nmV 0)])) (nmV 0) (vs.map wT) [j,some (.imm (wT w))]=some ((vs.filter (Hg.aptB w)).map wT)
 | [],j=>rfl
 | v::vs,j=>by
  have ih:=ze5 w hl vs (some (.imm (wT v)))
  have e0:gNm 0 (wT v) [j,some (.imm (wT w))]=some [some (.imm (wT v)),some (.imm (wT w))]:=rfl
  have c:tstB (opN z0r [(nmV 1),(nmV 0)]) [some (.imm (wT v)),some (.imm (wT w))]=some (Hg.aptB w v):=z0s (z0b (z2v rfl rfl) (zbk w v hl))
  have x:nmV 0 [some (.imm (wT v)),some (.imm (wT w))]=some (wT v):=rfl
  cases h:Hg.aptB w v with
  | true=>rw[h] at c;simp only[y0d,z1k,e0,c,y0p,if_true,x,ih,List.filter_cons,h,y1r]
  | false=>rw[h] at c;simp only[y0d,z1k,e0,c,y0p,y1u,if_false,ih,List.filter_cons,h]
noncomputable def bA (rec:List T->Option T):Fs:=(seq (asg 4 (comp 1 [3] (z0d (slice (nm 0) (opt (op2 oAdd (nm 2) (cst (.int 1)))) optN)) (gNm 0) (tstB (opN z0r [(nmV 1),(nmV 0)])) (nmV 0)))
  (seq (asg 5 (opN rec [(nmV 4),(op2 oSub (nm 1) (cst (.int 1)))]))
  (iff (tstB (op1 z17 (nm 5))) (rtn (op2 oAdd (z06 [(nmV 3)]) (nm 5))) skip)))
def envA (b:Bool) (ths:List (List Nat)) (many:Nat) (j2 j3 j4 j5:Option Sl):Ev:=[some (.imm (seqT b ths)),some (.imm (.int many)),j2,j3,j4,j5]
theorem zph {m:Nat} {ths B:List (List Nat)} (h:Hg.faR m ths=some B):B.length=m:=(Hg.fa_sound h).2.1
theorem zld {rec:List T->Option T} (b:Bool) (ths:List (List Nat)) (m:Nat) (hm:m<=1000) (hl:ths.length<=1000) (hw:∀w∈ths,w.length<=1000)
  (hrec:∀vs,vs.length<=1000->(∀w∈vs,w.length<=1000)->rec [.list (vs.map wT),.int (((m+1:Nat):Int) - 1)]=some (opR (Hg.faR m vs))) :
  ∀(ws:List (List Nat)) (k:Nat) (j2 j3 j4 j5:Option Sl),ths.drop k=ws->∃ε,forL (gTu [(gNm 2),(gNm 3)]) (bA rec) (((ws.map wT).zipIdx k).map fun p=>.tuple [.int p.2,p.1]) (envA b ths (m+1) j2 j3 j4 j5)=some (match Hg.faL (Hg.faR m) ws with|some B=>.rt (.tuple (B.map wT))|none=>.nx ε)
 | [],k,j2,j3,j4,j5,_=>⟨envA b ths (m+1) j2 j3 j4 j5,rfl⟩
 | w::ws,k,j2,j3,j4,j5,hd=>by
  have hk:k<ths.length:=by
   rcases Nat.lt_or_ge k ths.length with q|q
   ·exact q
   ·rw[List.drop_of_length_le q] at hd
    cases hd
  have hd':ths.drop (k+1)=ws:=by
   rw[List.drop_eq_getElem_cons hk] at hd
   exact (List.cons.inj hd).2
  have hmem:∀v∈w::ws,v∈ths:=fun v hv=>List.mem_of_mem_drop (by rw[hd];exact hv)
  have hwl:=hw w (hmem w (by simp))
  have hwsl:ws.length<=1000:=by rw[<- hd',List.length_drop];omega
  have e0:gTu [(gNm 2),(gNm 3)] (.tuple [.int k,wT w]) (envA b ths (m+1) j2 j3 j4 j5)=some (envA b ths (m+1) (some (.imm (.int k))) (some (.imm (wT w))) j4 j5):=rfl
  have sl:slice (nm 0) (opt (op2 oAdd (nm 2) (cst (.int 1)))) optN (envA b ths (m+1) (some (.imm (.int k))) (some (.imm (wT w))) j4 j5)=some (seqT b ws):=by
   have h1:nm 0 (envA b ths (m+1) (some (.imm (.int k))) (some (.imm (wT w))) j4 j5)=some (seqT b ths):=rfl
   have h2:opt (op2 oAdd (nm 2) (cst (.int 1))) (envA b ths (m+1) (some (.imm (.int k))) (some (.imm (wT w))) j4 j5)=some (some ((k+1:Nat):Int)):=rfl
   simp only[slice,h1,h2,y0p,optN]
   rw[zlp b ths (k+1) hk,hd']
  have v4:comp 1 [3] (z0d (slice (nm 0) (opt (op2 oAdd (nm 2) (cst (.int 1)))) optN)) (gNm 0) (tstB (opN z0r [(nmV 1),(nmV 0)])) (nmV 0) (envA b ths (m+1) (some (.imm (.int k))) (some (.imm (wT w))) j4 j5)=some (.list ((ws.filter (Hg.aptB w)).map wT)):=by
   have it:=zc2 sl
   have hcap:z1m 1 [3] (envA b ths (m+1) (some (.imm (.int k))) (some (.imm (wT w))) j4 j5)=[none,some (.imm (wT w))]:=rfl
   simp only[comp,it,y0p,hcap,ze5 w hwl,y13]
   rw[if_pos (by unfold big;omega)]
   rfl
  have s4:asg 4 (comp 1 [3] (z0d (slice (nm 0) (opt (op2 oAdd (nm 2) (cst (.int 1)))) optN)) (gNm 0) (tstB (opN z0r [(nmV 1),(nmV 0)])) (nmV 0)) (envA b ths (m+1) (some (.imm (.int k))) (some (.imm (wT w))) j4 j5)=some (.nx (envA b ths (m+1) (some (.imm (.int k))) (some (.imm (wT w))) (some (.imm (.list ((ws.filter (Hg.aptB w)).map wT)))) j5)):=z1n v4
  have hr:=hrec (ws.filter (Hg.aptB w)) (y1p (y26 _ _) hwsl) fun v hv=>hw v (hmem v (y05 _ (List.mem_filter.mp hv).1))
  have s5:asg 5 (opN rec [(nmV 4),(op2 oSub (nm 1) (cst (.int 1)))]) (envA b ths (m+1) (some (.imm (.int k))) (some (.imm (wT w))) (some (.imm (.list ((ws.filter (Hg.aptB w)).map wT)))) j5)=some (.nx (envA b ths (m+1) (some (.imm (.int k))) (some (.imm (wT w))) (some (.imm (.list ((ws.filter (Hg.aptB w)).map wT)))) (some (.imm (opR (Hg.faR m (ws.filter (Hg.aptB w)))))))) :=
   z1n (z0b (z2v rfl (z0i rfl rfl rfl)) hr)
  rw[y0d,List.zipIdx_cons,y0d,Hg.faL]
  cases hs:Hg.faR m (ws.filter (Hg.aptB w)) with
  | some B =>
   rw[hs] at s5
   have hB:=zph hs
   refine⟨envA b ths (m+1) j2 j3 j4 j5,?_⟩
   have st:bA rec (envA b ths (m+1) (some (.imm (.int k))) (some (.imm (wT w))) j4 j5)=some (.rt (.tuple ((w::B).map wT))):=by
    unfold bA
    rw[z08 s4,z08 s5,z3t (show tstB (op1 z17 (nm 5)) _=some true from rfl)]
    have ha:op2 oAdd (z06 [(nmV 3)]) (nm 5) (envA b ths (m+1) (some (.imm (.int k))) (some (.imm (wT w))) (some (.imm (.list ((ws.filter (Hg.aptB w)).map wT)))) (some (.imm (opR (some B)))))=some (.tuple ((w::B).map wT)) :=
     z0i (z6b (z27 rfl) (by simp)) rfl (zbm (by simp;omega))
    simp only[rtn,ha,y1r]
   simp only[forL,e0,y0p,st]
  | none =>
   rw[hs] at s5
   have st:bA rec (envA b ths (m+1) (some (.imm (.int k))) (some (.imm (wT w))) j4 j5)=some (.nx (envA b ths (m+1) (some (.imm (.int k))) (some (.imm (wT w))) (some (.imm (.list ((ws.filter (Hg.aptB w)).map wT)))) (some (.imm .none)))):=by
    unfold bA
    rw[z08 s4,z08 s5,z2s (show tstB (op1 z17 (nm 5)) _=some false from rfl)]
    rfl
   obtain⟨ε,ih⟩:=zld b ths m hm hl hw hrec ws (k+1) (some (.imm (.int k))) (some (.imm (wT w))) (some (.imm (.list ((ws.filter (Hg.aptB w)).map wT)))) (some (.imm .none)) hd'
   exact⟨ε,by rw[z4s e0 st];exact ih⟩
theorem z4i:∀(n:Nat) (b:Bool) (ths:List (List Nat)) (many:Nat),many<n->many<=1000->ths.length<=1000->(∀w∈ths,w.length<=1000)->z0e n [seqT b ths,.int many]=some (opR (Hg.faR many ths))
 | 0,b,ths,many,h,_,_,_=>by omega
 | n+1,b,ths,many,h,hm,hl,hw=>by
  have e0:z0e (n+1) [seqT b ths,.int many]=(z10 (z0e n) (envA b ths many none none none none)).bind fun o=>match o with|.rt t=>some t|.nx _=>some .none|_=>none:=rfl
  rw[e0]
  have c2:tstB (op2 oEq (nm 1) (cst (.int 0))) (envA b ths many none none none none)=some (decide ((many:Int)=0)):=z0s (z0i rfl rfl (z5m _ _))
  cases many with
  | zero =>
   have r:z10 (z0e n) (envA b ths 0 none none none none)=some (.rt (.tuple [])):=by
    unfold z10
    simp only[seq,z3t (show tstB (op2 oEq (nm 1) (cst (.int 0))) (envA b ths 0 none none none none)=some true from c2),rtn]
    rfl
   rw[r]
   rfl
  | succ m =>
   rw[decide_eq_false (by omega)] at c2
   have hmi:((m+1:Nat):Int) - 1=(m:Int):=by omega
   obtain⟨ε,hlp⟩:=zld (rec:=z0e n) b ths m (by omega) hl hw (fun vs h1 h2=>by
    rw[hmi]
    exact z4i n false vs m (by omega) (by omega) h1 h2) ths 0 none none none none rfl
   have it:z1r (z0d (nmV 0)) (envA b ths (m+1) none none none none)=some (((ths.map wT).zipIdx 0).map fun p=>.tuple [.int p.2,p.1]):=by
    have:=zc2 (f:=nmV 0) (ε:=envA b ths (m+1) none none none none) (b:=b) (ws:=ths) rfl
    simp only[z1r,this,y1r]
    rfl
   have hf:for_ (z1r (z0d (nmV 0))) (gTu [(gNm 2),(gNm 3)]) (bA (z0e n)) (envA b ths (m+1) none none none none)=some (match Hg.faL (Hg.faR m) ths with|some B=>.rt (.tuple (B.map wT))|none=>.nx ε):=by
    simp only[for_,it,y0p]
    exact hlp
   have r:z10 (z0e n) (envA b ths (m+1) none none none none)=some (.rt (opR (Hg.faR (m+1) ths))):=by
    unfold bA at hf
    unfold z10
    rw[z08 (z2s c2)]
    show seq _ _ _=some (.rt (opR (Hg.faL (Hg.faR m) ths)))
    cases hs:Hg.faL (Hg.faR m) ths with
    | some C =>
     rw[hs] at hf
     simp only[seq,hf,y0p]
     rfl
    | none =>
     rw[hs] at hf
     rw[z08 hf]
     rfl
   rw[r]
   rfl
theorem zkf {R:Int} {os:List Op} {room:Int} {ths:List (List Nat)} {C:List Nat} (hw:z1e [z02 R os,.int room]=some (.tuple (ths.map wT))) (hl:ths.length<=1000) (hwl:∀w∈ths,w.length<=1000) (hf:z1t [z02 R os,.int room]=some (wT C)) (hC:C.length<20):z5r [z02 R os,.int room]=some (opR (Hg.faR C.length ths)):=by
 have e0:z5r [z02 R os,.int room]=(zck [some (.imm (z02 R os)),some (.imm (.int room))]).bind fun o=>match o with|.rt t=>some t|.nx _=>some .none|_=>none:=rfl
 rw[e0]
 have h1:opN z1e [(nmV 0),(nmV 1)] [some (.imm (z02 R os)),some (.imm (.int room))]=some (seqT true ths):=z0b (z2v rfl rfl) hw
 have h2:opN oLen [(opN z1t [(nmV 0),(nmV 1)])] [some (.imm (z02 R os)),some (.imm (.int room))]=some (.int C.length):=z0b (z27 (z0b (z2v rfl rfl) hf)) (by simp[oLen,wT])
 have h3:opN (z0e 20) [(opN z1e [(nmV 0),(nmV 1)]),(opN oLen [(opN z1t [(nmV 0),(nmV 1)])])] [some (.imm (z02 R os)),some (.imm (.int room))]=some (opR (Hg.faR C.length ths)):=z0b (z2v h1 h2) (z4i 20 true ths C.length hC (by omega) hl hwl)
 simp only[zck,rtn,h3,y1r,y0p]
end Wo
end
section
namespace Qo
open PySem D Ho Wo
local instance:Tbl:=⟨[],fun _=>[],fun _=>none⟩
theorem zgk (w:List Nat):(wT w).canLay0=true/\(wT w).depth<=2:=by
 have hi:=z9g (cstN w)
 rw[z4l]
 simp only[PyData.canLay0,y24,hi.1,true_and]
 have:=hi.2
 omega
theorem z9f:∀ws:List (List Nat),y1g (ws.map wT)=true/\y1e (ws.map wT)<=2
 | []=>by simp[y1g,y1e]
 | w::ws=>by
  have h1:=zgk w
  have h2:=z9f ws
  simp only[y0d,y1g,y1e,h1.1,h2.1,Bool.and_self,true_and]
  have:=h1.2
  have:=h2.2
  omega
theorem zjf (w:List Nat):okT (wT w)=true:=by
 have:=zgk w
 simp[okT,this.1]
 omega
theorem cast_inj:∀{x y:List Nat},cstN x=cstN y->x=y
 | [],[],_=>rfl
 | [],_::_,h=>by simp[cstN] at h
 | _::_,[],h=>by simp[cstN] at h
 | a::x,b::y,h=>by
  simp only[cstN,y0d,List.cons.injEq] at h
  have h1:a=b:=by omega
  rw[h1,cast_inj (show cstN x=cstN y from h.2)]
theorem zhn (x y:List Nat):y20 (wT x) (wT y)=decide (x=y):=by
 rw[z4l,z4l,zk4]
 exact decide_eq_decide.mpr ⟨cast_inj,fun h=>by rw[h]⟩
theorem zar:∀xs ys:List Int,lexD (xs.map .int) (ys.map .int)=some (ltL xs ys)
 | [],[]=>by simp[lexD,ltL]
 | [],_::_=>by simp[lexD,ltL]
 | _::_,[]=>by simp[lexD,ltL]
 | a::x,b::y=>by
  have ih:=zar x y
  simp only[y0d,lexD,ltL,y20]
  by_cases h:a=b
  ·subst h
   simp[ih]
  ·have:(a == b)=false:=by simpa using h
   simp[this,h,ltD]
def ltN (x y:List Nat):Bool:=ltL (cstN x) (cstN y)
theorem zms (x y:List Nat):ltD (wT x) (wT y)=some (ltN x y):=by
 rw[z4l,z4l]
 simp only[ltD,zar,ltN]
def ltK (x y:List Nat):Bool:=decide (x.length<y.length) || (decide (x.length=y.length) && ltN x y)
def pT (x:List Nat):T:=.tuple [.int x.length,wT x]
theorem zmq (x:List Nat):ltN x x=false:=zgt _
theorem zjs (x y:List Nat):ltD (pT x) (pT y)=some (ltK x y):=by
 simp only[pT,ltD,lexD,y20,zhn,zms,ltK]
 by_cases h:x.length=y.length
 ·have e:((x.length:Int) == (y.length:Int))=true:=by simp[h]
  simp only[e,if_true,h,Nat.lt_irrefl,decide_false,Bool.false_or,decide_true,Bool.true_and]
  by_cases q:x=y
  ·subst q
   simp[zmq]
  ·simp[q]
 ·have e:((x.length:Int) == (y.length:Int))=false:=by simp;omega
  simp only[e,y1u,if_false,h,decide_false,Bool.false_and,Bool.or_false]
  congr 1
  exact decide_eq_decide.mpr (by omega)
theorem zjg (x:List Nat):okT (pT x)=true:=by
 have:=zgk x
 simp[okT,pT,PyData.canLay0,y24,y1g,y1e,this.1]
 omega
def rwT (B:List (List Nat)):T:=.tuple (B.map wT)
theorem zov (B:List (List Nat)):(rwT B).canLay0=true/\(rwT B).depth<=3:=by
 have h:=z9f B
 simp only[rwT,PyData.canLay0,y24,h.1,true_and]
 have:=h.2
 omega
theorem zmn (B:List (List Nat)):okT (rwT B)=true:=by
 have:=zov B
 simp[okT,this.1]
 omega
def z64 (b:List Nat):List (List Nat)->List Nat
 | []=>b
 | d::ds=>if ltK d b then z64 d ds else z64 b ds
def minW:List (List Nat)->List Nat
 | []=>[]
 | d::ds=>z64 d ds
theorem z76:∀(ds:List (List Nat)) (b:List Nat),z64 b ds=b\/z64 b ds∈ds
 | [],b=>.inl rfl
 | d::ds,b=>by
  unfold z64
  split
  ·rcases z76 ds d with h|h
   ·exact .inr (by rw[h];exact y0e)
   ·exact .inr (y05 _ h)
  ·rcases z76 ds b with h|h
   ·exact .inl h
   ·exact .inr (y05 _ h)
theorem zdg {ws:List (List Nat)} (h:ws≠[]):minW ws∈ws:=by
 cases ws with
 | nil=>exact absurd rfl h
 | cons d ds =>
  rcases z76 ds d with h|h
  ·show z64 d ds∈d::ds
   rw[h]
   exact y0e
  ·exact y05 _ h
theorem zl4 (ε:Ev) (w:List Nat):keyE (z06 [(opN oLen [(nm 0)]),(nmV 0)]) ε (wT w)=some (pT w):=by
 have b2:(2:Nat)<=big:=by unfold big;omega
 have hl:(w.map fun (k:Nat)=>PyData.int (k:Int)).length=w.length:=by simp
 have e1:z06 [(opN oLen [(nm 0)]),(nmV 0)] (some (.imm (wT w))::ε)=some (pT w):=by
  simp only[z06,args,opN,nm,nmV,y2a,y0p,y1r,wT,oLen,hl,y0w,y2d,if_pos b2]
  rfl
 unfold keyE
 rw[e1]
 simp only[y0p,zjg,if_true]
theorem z4p (ε:Ev):∀(ds:List (List Nat)) (b:List Nat),z37 (keyE (z06 [(opN oLen [(nm 0)]),(nmV 0)]) ε) (wT b) (pT b) (ds.map wT)=some (wT (z64 b ds))
 | [],b=>rfl
 | d::ds,b=>by
  rw[y0d,z37,zl4]
  simp only[y0p,zjs]
  unfold z64
  by_cases h:ltK d b=true
  ·rw[if_pos h,if_pos h,z4p ε ds d]
  ·rw[if_neg h,if_neg h,z4p ε ds b]
theorem all_eq {h:T} {room:Int} {ws:List (List Nat)} (hw:z1e [h,.int room]=some (.tuple (ws.map wT))) (hne:ws≠[]):z18 [h,.int room]=some (.tuple (ws.map wT)):=by
 have e1:opN z1e [(nmV 0),(nmV 1)] [some (.imm h),some (.imm (.int room)),none]=some (.tuple (ws.map wT)):=by
  simp only[opN,args,nmV,y2b,y2a,y0p,y1r,hw]
 have e2:notT (tstL (nm 2)) [some (.imm h),some (.imm (.int room)),some (.imm (.tuple (ws.map wT)))]=some false:=by
  cases ws with
  | nil=>exact absurd rfl hne
  | cons w ws=>rfl
 have hs:z2b [some (.imm h),some (.imm (.int room)),none]=some (.rt (.tuple (ws.map wT))):=by
  unfold z2b seq asg
  rw[e1]
  simp only[y1r,y0p,y1k,y1i]
  unfold iff
  rw[e2]
  rfl
 unfold z18 runF
 show Option.bind (z2b [some (.imm h),some (.imm (.int room)),none]) _=_
 rw[hs]
 rfl
theorem zj1 {h:T} {room:Int} {ws:List (List Nat)} (hw:z1e [h,.int room]=some (.tuple (ws.map wT))) (hne:ws≠[]):z31 [h,.int room]=some (wT (minW ws)):=by
 have e1:opN z18 [(nmV 0),(nmV 1)] [some (.imm h),some (.imm (.int room))]=some (.tuple (ws.map wT)):=by
  simp only[opN,args,nmV,y2b,y2a,y0p,y1r,all_eq hw hne]
 have hs:z49 [some (.imm h),some (.imm (.int room))]=some (.rt (wT (minW ws))):=by
  unfold z49 rtn zjq
  rw[e1]
  simp only[y0p]
  cases ws with
  | nil=>exact absurd rfl hne
  | cons d ds =>
   rw[y0d,minK,zl4]
   simp only[y0p,z4p,y1r]
   rfl
 unfold z31 runF
 show Option.bind (z49 [some (.imm h),some (.imm (.int room))]) _=_
 rw[hs]
 rfl
end Qo
end
section
namespace Qo
open PySem D Ho Wo
local instance:Tbl:=⟨[],fun _=>[],fun _=>none⟩
theorem z6a {t:T} (h:okT t=true):oNe t t=some (.bool false):=by
 have hc:t.canLay0=true:=by
  unfold okT at h
  simp only[y1b] at h
  exact h.1
 unfold oNe
 rw[h,PySem.SeqAt.eqv_refl t hc]
 rfl
theorem zjj {t:T} (h:okT t=true):oEq t t=some (.bool true):=by
 have hc:t.canLay0=true:=by
  unfold okT at h
  simp only[y1b] at h
  exact h.1
 unfold oEq
 rw[h,PySem.SeqAt.eqv_refl t hc]
 rfl
theorem z72 {R:Int} {os:List Op} (d:Drawn R os):∀e∈os.map edge,e.1≠e.2:=fun e he=>by
 obtain⟨o,ho,rfl⟩:=y0m.mp he
 obtain⟨h1,h2,h3,h4⟩:=d.ok o ho
 show o.1≠o.2.1
 omega
theorem zl8 {E:List (Int×Int)}:∀{w:List Nat} {x:Int} {q:List Int},Hg.Fol E x w q->∀k∈w,k<E.length
 | [],_,_,_,k,hk=>by cases hk
 | j::w,x,q,h,k,hk=>by
  obtain⟨e,t,r,h1,_,_,h4⟩:=h
  rcases y09.mp hk with rfl|hk
  ·exact (y0k.mp h1).1
  ·exact zl8 h4 k hk
structure Room1 (R:Int) (os:List Op) (x:Int) (ws:List (List Nat)) (C:List Nat) (B:List (List Nat)):Prop where
 w:Hg.waysP (os.map edge) x 20 [0]=some ws
 dw:z1e [z02 R os,.int x]=some (.tuple (ws.map wT))
 re:ws≠[] <-> Hg.Reach (os.map edge) x
 len:ws.length<=36
 wl:∀w∈ws,w.length<=20
 ne:∀w∈ws,w≠[]/\∀k∈w,k<os.length
 pw:ws.Pairwise (·<·)
 df:z1t [z02 R os,.int x]=some (wT C)
 da:z5r [z02 R os,.int x]=some (rwT B)
 cs:C.Sublist (List.range os.length)
 ch:Hg.Hits C ws
 cm:∀D,D.Sublist (List.range os.length)->Hg.Hits D ws->C.length<=D.length
 bs:B.Sublist ws
 bl:B.length=C.length
 bp:B.Pairwise Hg.Apt
theorem zq6 {R:Int} {os:List Op} (d:Drawn R os) {x:Int} (x1:1<=x) (x2:x<=R):∃ws C B,Room1 R os x ws C B:=by
 have hr7:=d.r7
 have hl:=d.len
 obtain⟨ws,w1,w2,w3⟩:=zif d x
 have wf:ws.length<=36:=Hg.ways_few (z72 d) (by simpa using d.len) w1
 have wl:∀w∈ws,w.length<=20:=fun w hw=>z9v 20 [0] ws w1 w hw
 have hne:∀w∈ws,w≠[]/\∀k∈w,k<os.length:=fun w hw=>by
  obtain⟨p,f1,f2,f3⟩:=(Hg.ways_char w1 w).mp hw
  refine⟨?_,fun k hk=>?_⟩
  ·rintro rfl
   cases p with
   | nil =>
    simp at f3
    omega
   | cons _ _=>cases f1
  ·have:=zl8 f1 k hk
   simpa using this
 obtain⟨C,c1,c2,c3,c4,c5⟩:=Hg.few_spec hne
 have hC:C.length<20:=by have:=c2.length_le;simp at this;omega
 have f1:=zhl (C:=C) w2 (by omega) (by omega) c1
 have a1:=zkf w2 (by omega) (fun w hw=>by have:=wl w hw;omega) f1 hC
 obtain⟨D,d1,d2,d3⟩:=Hg.apart_many (z5h d) (by omega) (z72 d) (by omega) w1 c3 (fun D h1 h2=>c4 D (by simpa using h1) h2)
 have:=Hg.fa_compl d1 d2 d3
 cases q:Hg.faR C.length ws with
 | none=>exact absurd q this
 | some B =>
  obtain⟨b1,b2,b3⟩:=Hg.fa_sound q
  rw[q] at a1
  exact⟨ws,C,B,w1,w2,w3,wf,wl,hne,Hg.ways_pw w1,f1,a1,c2,c3,c4,b1,b2,b3⟩
theorem z9i:∀(ds:List (List Nat)) (b:List Nat),(z64 b ds).length<=b.length/\∀w∈ds,(z64 b ds).length<=w.length
 | [],b=>⟨y0o _,fun w h=>by cases h⟩
 | d::ds,b=>by
  unfold z64
  by_cases h:ltK d b=true
  ·rw[if_pos h]
   obtain⟨h1,h2⟩:=z9i ds d
   have hd:d.length<=b.length:=by
    unfold ltK at h
    simp only[Bool.or_eq_true,y1b,decide_eq_true_eq] at h
    omega
   refine⟨by omega,fun w hw=>?_⟩
   rcases y09.mp hw with rfl|hw
   ·exact h1
   ·exact h2 w hw
  ·rw[if_neg h]
   obtain⟨h1,h2⟩:=z9i ds b
   have hd:b.length<=d.length:=by
    unfold ltK at h
    simp only[Bool.or_eq_true,y1b,decide_eq_true_eq,not_or] at h
    omega
   refine⟨h1,fun w hw=>?_⟩
   rcases y09.mp hw with rfl|hw
   ·omega
   ·exact h2 w hw
theorem zmp {ws:List (List Nat)} {w:List Nat} (h:w∈ws):(minW ws).length<=w.length:=by
 cases ws with
 | nil=>cases h
 | cons d ds =>
  obtain⟨h1,h2⟩:=z9i ds d
  rcases y09.mp h with rfl|h
  ·exact h1
  ·exact h2 w h
theorem zdb (ws:List (List Nat)):okT (.tuple (ws.map wT))=true:=zmn ws
theorem zbz (w:List Nat):oLen [wT w]=some (.int w.length):=by simp[wT,oLen]
theorem zmt (B:List (List Nat)):oLen [rwT B]=some (.int B.length):=by simp[rwT,oLen]
theorem zby (a b:Int):oNe (.int a) (.int b)=some (.bool (!decide (a=b))):=by
 simp[oNe,okT,PyData.canLay0,y24,y20]
 rw[Bool.beq_eq_decide_eq]
theorem zlo {xs:List Str} (h:xs.all (fun x=>(y1x x).canLay0)=true):ze9 xs:=fun x hx=>List.all_eq_true.mp h x hx
end Qo
end
section
namespace Qo
open PySem D Ho Wo
local instance:Tbl:=⟨[],fun _=>[],fun _=>none⟩
theorem zap:∀{x y:List Nat},x<y->ltL (cstN x) (cstN y)=true
 | [],[],h=>by cases h
 | [],_::_,_=>rfl
 | _::_,[],h=>by cases h
 | a::x,b::y,h=>by
  rcases List.cons_lt_cons_iff.mp h with q|⟨q1,q2⟩
  ·have:(a:Int)<b:=by omega
   simp[cstN,ltL,this]
  ·have:=zap q2
   unfold cstN at this
   simp[cstN,ltL,q1,this]
theorem zni (w:List Nat):wT w=rowT (cstN w):=by
 unfold wT rowT cstN
 rw[y2i]
 rfl
theorem z38:∀(ns:List Int),intsOf (ns.map .int)=some ns
 | []=>rfl
 | x::r=>by
  simp only[y0d,intsOf,z38 r]
  rfl
theorem z6t:∀ws:List (List Nat),rowsOf (ws.map wT)=some (ws.map cstN)
 | []=>rfl
 | w::ws=>by
  have:intsOf (w.map fun (k:Nat)=>PyData.int (k:Int))=some (cstN w):=by
   have:=z38 (cstN w)
   rw[cstN,y2i] at this
   exact this
  simp only[y0d,wT,rowsOf,this,y0p]
  have ih:=z6t ws
  rw[ih]
  rfl
theorem zli {ws:List (List Nat)} (h:ws.Pairwise (·<·)):ws.Nodup:=h.imp fun h=>by rintro rfl;exact List.lt_irrefl _ h
theorem zdd {α:Type} [DecidableEq α]:∀{l m:List α},l.Nodup->(∀x∈l,x∈m)->l.length<=m.length
 | [],m,_,_=>y23 _
 | a::l,m,hn,h=>by
  obtain⟨h1,h2⟩:=y0r.mp hn
  have hm:a∈m:=h a (by simp)
  have:=zdd (m:=m.erase a) h2 fun x hx=>(List.mem_erase_of_ne (by rintro rfl;exact h1 hx)).mpr (h x (by simp[hx]))
  rw[List.length_erase_of_mem hm] at this
  have:0<m.length:=List.length_pos_of_mem hm
  simp only[y0w]
  omega
end Qo
end
section
namespace K22
open PySem D Ho Wo Qo
local instance:Tbl:=⟨[],fun _=>[],fun _=>none⟩
theorem zdr {E:List (Int×Int)}:∀{w:List Nat} {x:Int} {p:List Int},Hg.Fol E x w p->∀k∈w,∀e,E[k]?=some e->e.1∈x::p/\e.2∈x::p
 | [],x,p,_,k,hk,_,_=>by cases hk
 | j::w,x,p,⟨e,t,q,h1,h2,h3,h4⟩,k,hk,e',he=>by
  subst h3
  rcases y09.mp hk with rfl|hk
  ·rw[h1] at he
   cases he
   obtain⟨ha,hb⟩:=Hg.adj_sum h2
   rcases ha with ha|ha
   ·have:e.2=t:=by omega
    exact⟨by rw[<- ha];simp,by rw[this];simp⟩
   ·have:e.1=t:=by omega
    exact⟨by rw[this];simp,by rw[<- ha];simp⟩
  ·obtain⟨y1,y2⟩:=zdr h4 k hk e' he
   exact⟨y05 _ y1,y05 _ y2⟩
theorem zax {E:List (Int×Int)}:∀{w:List Nat} {x:Int} {p:List Int},Hg.Fol E x w p->(x::p).Nodup->w.Nodup
 | [],x,p,_,_=>.nil
 | j::w,x,p,⟨e,t,q,h1,h2,h3,h4⟩,nd=>by
  subst h3
  have nd':=y0r.mp nd
  refine y0r.mpr ⟨fun hj=>?_,zax h4 nd'.2⟩
  obtain⟨y1,y2⟩:=zdr h4 j hj e h1
  rcases (Hg.adj_sum h2).1 with z|z
  ·exact nd'.1 (z▸y1)
  ·exact nd'.1 (z▸y2)
section
variable {R:Int} {os:List Op} {x:Int} {ws B:List (List Nat)} {C:List Nat}
theorem z9w (r:Room1 R os x ws C B) {w:List Nat} (h:w∈ws):w.Nodup:=by
 obtain⟨p,f1,f2,f3⟩:=(Hg.ways_char r.w w).mp h
 exact zax f1 f2
theorem zb0 (r:Room1 R os x ws C B):C.Nodup:=List.nodup_range.sublist r.cs
theorem zpo (r:Room1 R os x ws C B) {v w:List Nat} (hv:v∈B) (hw:w∈B) (hne:v≠w):∀k∈v,k∉w:=by
 obtain⟨i,hi,rfl⟩:=List.getElem_of_mem hv
 obtain⟨j,hj,rfl⟩:=List.getElem_of_mem hw
 have pw:=List.pairwise_iff_getElem.mp r.bp
 rcases Nat.lt_trichotomy i j with q|q|q
 ·exact pw i j hi hj q
 ·subst q
  exact absurd rfl hne
 ·exact fun k h1 h2=>pw j i hj hi q k h2 h1
theorem drop_one {n:Nat} (nd:C.Nodup) (h:n∈C):(C.filter fun k=>!decide (k=n)).length<C.length:=by
 have:=List.length_filter_lt_length_iff_exists (l:=C) (p:=fun k=>!decide (k=n))
 exact this.mpr ⟨n,h,by simp⟩
theorem zml (r:Room1 R os x ws C B) {w:List Nat} (h:w∈B):(w.filter fun k=>decide (k∈C)).length=1:=by
 have hw:=r.bs.subset h
 have nd:(w.filter fun k=>decide (k∈C)).Nodup:=(z9w r hw).filter _
 obtain⟨k0,hk0,hc0⟩:=r.ch w hw
 match hf:w.filter fun k=>decide (k∈C) with
 | [] =>
  have:k0∈w.filter fun k=>decide (k∈C):=List.mem_filter.mpr ⟨hk0,decide_eq_true hc0⟩
  rw[hf] at this
  cases this
 | [_]=>rfl
 | k1::k2::l =>
  exfalso
  rw[hf] at nd
  have h12:k1≠k2:=fun z=>(y0r.mp nd).1 (by rw[z];simp)
  have m1:k1∈w.filter fun k=>decide (k∈C):=by rw[hf];simp
  have m2:k2∈w.filter fun k=>decide (k∈C):=by rw[hf];simp
  obtain⟨a1,b1⟩:=List.mem_filter.mp m1
  obtain⟨a2,b2⟩:=List.mem_filter.mp m2
  have c1:k1∈C:=of_decide_eq_true b1
  have c2:k2∈C:=of_decide_eq_true b2
  have hits:Hg.Hits (C.filter fun k=>!decide (k=k1)) B:=fun v hv=>by
   by_cases e:v=w
   ·subst e
    exact⟨k2,a2,List.mem_filter.mpr ⟨c2,by simpa using h12.symm⟩⟩
   ·obtain⟨k,hk,hc⟩:=r.ch v (r.bs.subset hv)
    exact⟨k,hk,List.mem_filter.mpr ⟨hc,by simpa using fun z:k=k1=>zpo r hv h e k hk (z▸a1)⟩⟩
  have h1:=Hg.apart_le r.bp hits
  have h2:=drop_one (zb0 r) c1
  rw[r.bl] at h1
  omega
theorem z8o (r:Room1 R os x ws C B):B.flatten.Nodup:=by
 have key:∀{B:List (List Nat)},B.Pairwise Hg.Apt->(∀w∈B,w.Nodup)->B.flatten.Nodup:=by
  intro B
  induction B with
  | nil=>exact fun _ _=>.nil
  | cons w B ih =>
   intro h hn
   have h':=y18.mp h
   rw[List.flatten_cons]
   refine y1m.mpr ⟨hn w (by simp),ih h'.2 fun v hv=>hn v (by simp[hv]),fun k hk j hj z=>?_⟩
   subst z
   obtain⟨v,hv,hkv⟩:=List.mem_flatten.mp hj
   exact h'.1 v hv k hk hkv
 exact key r.bp fun w hw=>z9w r (r.bs.subset hw)
theorem zk2 (r:Room1 R os x ws C B):B.flatten.length<=os.length:=by
 have:=zdd (m:=List.range os.length) (z8o r) fun k hk=>by
  obtain⟨v,hv,hkv⟩:=List.mem_flatten.mp hk
  exact List.mem_range.mpr ((r.ne v (r.bs.subset hv)).2 k hkv)
 simpa using this
theorem zex (r:Room1 R os x ws C B) {n:Nat} (h:n∈C):∃w∈ws,∀k∈w,k∉C.filter fun k=>!decide (k=n):=by
 apply Classical.byContradiction
 intro hn
 have hits:Hg.Hits (C.filter fun k=>!decide (k=n)) ws:=fun w hw=>by
  apply Classical.byContradiction
  intro q
  exact hn ⟨w,hw,fun k hk hc=>q ⟨k,hk,hc⟩⟩
 have h1:=r.cm _ (List.filter_sublist.trans r.cs) hits
 have h2:=drop_one (zb0 r) h
 omega
theorem zn5 (r:Room1 R os x ws C B) (h:ws=[]):C=[]/\B=[]:=by
 have h1:=r.cm [] (List.nil_sublist _) (by rw[h];exact fun w hw=>by cases hw)
 have hC:C=[]:=List.length_eq_zero_iff.mp (by simpa using h1)
 exact⟨hC,List.length_eq_zero_iff.mp (by rw[r.bl,hC];rfl)⟩
end
def wo (S:List Nat) (k:Nat) (o:Op):Op:=(o.1,o.2.1,if k∈S then some "z" else none)
def watF (S:List Nat):Nat->List Op->List Op
 | _,[]=>[]
 | k,o::os=>wo S k o::watF S (k+1) os
theorem z50 (S:List Nat):∀(os:List Op) (k i:Nat),(watF S k os)[i]?=os[i]?.map (wo S (k+i))
 | [],k,i=>by simp[watF]
 | o::os,k,0=>by simp[watF]
 | o::os,k,i+1=>by
  simp only[watF,y2b]
  rw[z50 S os (k+1) i]
  have:k+1+i=k+(i+1):=by omega
  rw[this]
theorem zcp (S:List Nat):∀(os:List Op) (k:Nat),(watF S k os).length=os.length
 | [],k=>rfl
 | o::os,k=>by simp[watF,zcp S os (k+1)]
theorem zlk (S:List Nat) (os:List Op) (k:Nat):zng (watF S k os):=fun o ho x hx=>by
 obtain⟨i,hi⟩:=List.getElem?_of_mem ho
 rw[z50] at hi
 simp only[y07] at hi
 obtain⟨o',_,rfl⟩:=hi
 unfold wo at hx
 dsimp only at hx
 split at hx
 ·cases hx
  decide +kernel
 ·cases hx
theorem z86 {R:Int} {os:List Op} (d:Drawn R os) (S:List Nat) (ns:List Str):Hg.Within R (z0t ns (watF S 0 os)):=fun e he=>by
 obtain⟨o,ho,rfl⟩:=y0m.mp he
 obtain⟨i,hi⟩:=List.getElem?_of_mem (List.mem_filter.mp ho).1
 rw[z50] at hi
 simp only[y07] at hi
 obtain⟨o',ho',rfl⟩:=hi
 exact z5h d (edge o') (y0m.mpr ⟨o',y1v ho',rfl⟩)
theorem z2w {R:Int} {os:List Op} (d:Drawn R os) (S:List Nat) {ns:List Str} (hn:ze9 ns):z0v [z02 R (watF S 0 os),.tuple (ns.map .str)]=some (.tuple ((z2q (z0t ns (watF S 0 os))).map .int)):=by
 obtain⟨⟨r,h1,h2,h3⟩,_⟩:=zd3 (z86 d S ns) (by have:=d.r1;omega) d.r7
 rw[h3]
 exact zff hn (zlk S os 0) (by rw[zcp];exact d.len) h1 h2
theorem zfd {R:Int} {os:List Op} (d:Drawn R os) (S:List Nat) (ns:List Str) (y:Int):y∈z2q (z0t ns (watF S 0 os)) <-> Hg.Reach (z0t ns (watF S 0 os)) y:=(zd3 (z86 d S ns) (by have:=d.r1;omega) d.r7).2.1 y
theorem z4z {os:List Op} {S:List Nat} {ns:List Str} {e:Int×Int}:e∈z0t ns (watF S 0 os) <-> ∃k,(os.map edge)[k]?=some e/\(k∉S\/("z":Str)∈ns):=by
 unfold z0t
 rw[y0m]
 constructor
 ·rintro⟨o,ho,rfl⟩
  obtain⟨h1,h2⟩:=List.mem_filter.mp ho
  obtain⟨i,hi⟩:=List.getElem?_of_mem h1
  rw[z50] at hi
  simp only[y07,Nat.zero_add] at hi
  obtain⟨o',ho',rfl⟩:=hi
  refine⟨i,by rw[y14,ho'];rfl,?_⟩
  unfold wo at h2
  by_cases q:i∈S
  ·rw[if_pos q] at h2
   exact .inr (by simpa [free] using h2)
  ·exact .inl q
 ·rintro⟨k,hk,h⟩
  rw[y14] at hk
  simp only[y07] at hk
  obtain⟨o,ho,rfl⟩:=hk
  refine⟨wo S k o,List.mem_filter.mpr ⟨y1v (i:=k) (by rw[z50,ho];simp),?_⟩,rfl⟩
  unfold wo
  by_cases q:k∈S
  ·rw[if_pos q]
   have:=h.resolve_left fun z=>z q
   simpa [free] using this
  ·rw[if_neg q]
   rfl
theorem z6h {R:Int} {os:List Op} {x:Int} {ws B:List (List Nat)} {C:List Nat} (d:Drawn R os) (r:Room1 R os x ws C B) (S:List Nat):x∈z2q (z0t [] (watF S 0 os)) <-> ∃w∈ws,∀k∈w,k∉S:=by
 rw[zfd d S [] x]
 exact Hg.reach_way (fun k=>k∉S) (fun e he=>by
  obtain⟨k,h1,h2⟩:=z4z.mp he
  exact⟨k,h1,h2.resolve_right (by simp)⟩) (fun k e h1 h2=>z4z.mpr ⟨k,h1,.inl h2⟩) r.w
theorem zed {R:Int} {os:List Op} {x:Int} {ws B:List (List Nat)} {C:List Nat} (d:Drawn R os) (r:Room1 R os x ws C B) (S:List Nat):x∈z2q (z0t ["z"] (watF S 0 os)) <-> ws≠[]:=by
 rw[zfd d S ["z"] x,r.re]
 exact⟨Hg.reach_mono fun e he=>by
  obtain⟨k,h1,_⟩:=z4z.mp he
  exact y1v h1,Hg.reach_mono fun e he=>by
  obtain⟨k,hk⟩:=List.getElem?_of_mem he
  exact z4z.mpr ⟨k,hk,.inr (by simp)⟩⟩
theorem zll {R:Int} {os:List Op} (d:Drawn R os):z2q (z0t [] (watF (List.range os.length) 0 os))=[0]:=by
 have e:z0t [] (watF (List.range os.length) 0 os)=[]:=by
  refine List.eq_nil_iff_forall_not_mem.mpr fun e he=>?_
  obtain⟨k,h1,h2⟩:=z4z.mp he
  have:=(y0k.mp h1).1
  rw[y13] at this
  exact (h2.resolve_right (by simp)) (List.mem_range.mpr this)
 rw[e]
 decide +kernel
def envL (h t:T) (os:List Op) (j3 j4 j5 j6:Option Sl):Ev:=[some (.imm h),some (.imm t),some (.imm (.tuple (os.map opT))),j3,j4,j5,j6]
def bL:Fs:=(asg 2 (op2 oAdd (nm 2) (z06 [(z06 [(nmV 4),(nmV 5),(op2 oIx (z12 [(cst .none),(cst (.str "z"))]) (opN oInt [(op2 (oIn false) (nm 3) (nm 1))]))])])))
theorem zco {h t:T} {S:List Nat} (hS:∀k:Nat,oIn false (.int k) t=some (.bool (decide (k∈S)))):∀(os acc:List Op) (k:Nat) (j3 j4 j5 j6:Option Sl),acc.length+os.length<=1000 ->
  ∃i3 i4 i5 i6,forL (gTu [(gNm 3),(gTu [(gNm 4),(gNm 5),(gNm 6)])]) bL ((os.map opT).zipIdx k |>.map fun p=>.tuple [.int p.2,p.1]) (envL h t acc j3 j4 j5 j6)=some (.nx (envL h t (acc++watF S k os) i3 i4 i5 i6))
 | [],acc,k,j3,j4,j5,j6,_=>⟨j3,j4,j5,j6,by simp[watF,forL]⟩
 | o::os,acc,k,j3,j4,j5,j6,hl=>by
  simp only[y0w] at hl
  obtain⟨i3,i4,i5,i6,ih⟩:=zco hS os (acc++[wo S k o]) (k+1) (some (.imm (.int k))) (some (.imm (.int o.1))) (some (.imm (.int o.2.1))) (some (.imm (zT o.2.2))) (by simp;omega)
  refine⟨i3,i4,i5,i6,?_⟩
  have g:gTu [(gNm 3),(gTu [(gNm 4),(gNm 5),(gNm 6)])] (.tuple [.int k,opT o]) (envL h t acc j3 j4 j5 j6)=some (envL h t acc (some (.imm (.int k))) (some (.imm (.int o.1))) (some (.imm (.int o.2.1))) (some (.imm (zT o.2.2)))):=rfl
  have ez:op2 oIx (z12 [(cst .none),(cst (.str "z"))]) (opN oInt [(op2 (oIn false) (nm 3) (nm 1))]) (envL h t acc (some (.imm (.int k))) (some (.imm (.int o.1))) (some (.imm (.int o.2.1))) (some (.imm (zT o.2.2))))=some (zT (if k∈S then some "z" else none)):=by
   refine z0i (x:=.list [.none,.str "z"]) (y:=.int (if k∈S then 1 else 0)) rfl (z0b (z27 (z0i (x:=.int k) (y:=t) rfl rfl (hS k))) ?_) ?_
   ·by_cases q:k∈S <;> simp[q,oInt]
   ·by_cases q:k∈S
    ·rw[if_pos q,if_pos q]
     rfl
    ·rw[if_neg q,if_neg q]
     rfl
  have st:bL (envL h t acc (some (.imm (.int k))) (some (.imm (.int o.1))) (some (.imm (.int o.2.1))) (some (.imm (zT o.2.2))))=some (.nx (envL h t (acc++[wo S k o]) (some (.imm (.int k))) (some (.imm (.int o.1))) (some (.imm (.int o.2.1))) (some (.imm (zT o.2.2))))):=by
   refine (z1n (t:=.tuple ((acc++[wo S k o]).map opT)) (z0i (x:=.tuple (acc.map opT)) (y:=.tuple [opT (wo S k o)]) rfl (z6b (z27 (z6b (znd rfl rfl ez) (by simp))) (by simp)) ?_)).trans rfl
   rw[zbm (by simp;omega),List.map_append]
   rfl
  rw[y0d,List.zipIdx_cons,y0d,z4s g st,ih]
  simp[watF,List.append_assoc]
theorem z3z {R:Int} {os:List Op} {t:T} {S:List Nat} (hl:os.length<=10) (hS:∀k:Nat,oIn false (.int k) t=some (.bool (decide (k∈S)))):z0n [z02 R os,t]=some (z02 R (watF S 0 os)):=by
 suffices hs:z4w [some (.imm (z02 R os)),some (.imm t),none,none,none,none,none]=some (.rt (z02 R (watF S 0 os))) by
  unfold z0n runF
  simp only[y0d,y19,y0w,y2d,y2h,List.nil_append]
  exact congrArg (fun o=>Option.bind o _) hs
 obtain⟨i3,i4,i5,i6,hw⟩:=zco (h:=z02 R os) hS os [] 0 none none none none (by simp;omega)
 unfold z4w
 rw[z08 (z1n (t:=.tuple []) rfl)]
 have it:z1r (z5o (op2 oIx (nm 0) (cst (.int 1)))) (envL (z02 R os) t [] none none none none)=some ((os.map opT).zipIdx 0 |>.map fun p=>.tuple [.int p.2,p.1]):=rfl
 have lp:for_ (z1r (z5o (op2 oIx (nm 0) (cst (.int 1))))) (gTu [(gNm 3),(gTu [(gNm 4),(gNm 5),(gNm 6)])]) bL (envL (z02 R os) t [] none none none none)=some (.nx (envL (z02 R os) t (watF S 0 os) i3 i4 i5 i6)):=by
  unfold for_
  rw[it]
  exact hw
 refine (z08 lp).trans ?_
 rfl
end K22
end
section
namespace K22
open PySem D Ho Wo Qo
local instance:Tbl:=⟨[],fun _=>[],fun _=>none⟩
abbrev iL (w:List Nat):List T:=w.map fun (k:Nat)=>PyData.int (k:Int)
theorem zc3 (w:List Nat):iL w=(cstN w).map .int:=by simp[iL,cstN]
theorem zku (w:List Nat):okT (.list (iL w))=true:=by
 rw[zc3]
 have:=z9g (cstN w)
 simp[okT,PyData.canLay0,y24,this.1]
 omega
theorem zow (B:List (List Nat)):okT (.list (B.map wT))=true:=by
 have:=z9f B
 simp[okT,PyData.canLay0,y24,this.1]
 omega
theorem z5q {α:Type} [DecidableEq α]:∀{l:List α},l.Nodup->dedup l=l
 | [],_=>rfl
 | x::l,h=>by
  have h':=y0r.mp h
  rw[dedup,z5q h'.2]
  congr 1
  exact List.filter_eq_self.mpr fun y hy=>by
   have:y≠x:=fun z=>h'.1 (z▸hy)
   simpa using this
theorem z8r {w:List Nat} (h:w.Nodup):(cstN w).Nodup:=List.pairwise_map.mpr (h.imp fun h z=>h (by omega))
theorem zis {C:List Nat} (h:C.Pairwise (·<·)) (hl:C.length<64):z1i [wT C]=some (.list (iL C)):=by
 have nd:(cstN C).Nodup:=z8r (h.imp fun h=>y0y h)
 have e:sortI (dedup (cstN C))=cstN C:=by
  rw[z5q nd]
  refine (z97 .rfl ?_).symm
  unfold cstN
  rw[List.pairwise_map]
  exact h.imp fun h=>by omega
 rw[z4l]
 unfold z1i z2h
 dsimp only
 rw[if_pos (by simpa [cstN] using hl),z38]
 dsimp only
 rw[e,zc3]
theorem zfq {B:List (List Nat)} (h:B.Pairwise (·<·)) (hl:B.length<=16) (hn:∀w∈B,w≠[]):z1x [rwT B]=some (.list (B.map wT)):=by
 have hnd:(B.map cstN).Nodup:=List.pairwise_map.mpr ((zli h).imp fun h z=>h (cast_inj z))
 have hne:∀r∈B.map cstN,r≠[]:=fun r hr z=>by
  obtain⟨w,hw,rfl⟩:=y0m.mp hr
  exact hn w hw (by simpa [cstN] using z)
 have es:z7z (B.map cstN)=B.map cstN:=by
  refine (z96 .rfl ?_).symm
  rw[List.pairwise_map]
  exact h.imp fun h=>z46 (zap h)
 unfold z1x rwT
 dsimp only
 rw[if_pos (by simpa using hl),z6t]
 simp only[y0p]
 rw[if_pos ⟨hnd,hne⟩,es,y2i]
 congr 2
 refine List.map_congr_left fun w _=>?_
 exact (zni w).symm
theorem zdc (neg:Bool) (w:List Nat) (ws:List (List Nat)):oIn neg (wT w) (.tuple (ws.map wT))=some (.bool (if neg then !decide (w∈ws) else decide (w∈ws))):=by
 have hh:hasT (wT w) (ws.map wT)=decide (w∈ws):=by
  unfold hasT
  induction ws with
  | nil=>simp
  | cons v ws ih =>
   rw[y0d,List.any_cons,ih,zhn]
   by_cases q:v=w
   ·subst q
    simp
   ·have:¬w=v:=fun z=>q z.symm
    simp[q,this]
 have h1:=z9f ws
 have h2:okL (ws.map wT)=true:=by
  unfold okL
  rw[h1.1]
  simp
  omega
 show (if (okT (wT w) && okL (ws.map wT))=true then some (PyData.bool (if neg=true then !hasT (wT w) (ws.map wT) else hasT (wT w) (ws.map wT))) else none)=_
 rw[zjf,h2,hh]
 rfl
theorem zgp (a b:Bool):oNe (.bool a) (.bool b)=some (.bool (!decide (a=b))):=by cases a <;> cases b <;> rfl
theorem zji (ws:List (List Nat)):oNe (.tuple (ws.map wT)) (.tuple [])=some (.bool (!ws.isEmpty)):=by
 have h1:okT (.tuple ([]:List T))=true:=by decide
 unfold oNe
 rw[zdb,h1]
 cases ws with
 | nil=>rfl
 | cons w ws=>simp[y20,PyData.eqvAll]
theorem zjk (ws:List (List Nat)):oEq (.tuple (ws.map wT)) (.tuple [])=some (.bool ws.isEmpty):=by
 have h1:okT (.tuple ([]:List T))=true:=by decide
 unfold oEq
 rw[zdb,h1]
 cases ws with
 | nil=>rfl
 | cons w ws=>simp[y20,PyData.eqvAll]
theorem zjl (w:List Nat):oEq (.list (iL w)) (.list [])=some (.bool w.isEmpty):=by
 have h1:okT (.list ([]:List T))=true:=by decide
 unfold oEq
 rw[zku,h1]
 cases w with
 | nil=>rfl
 | cons w ws=>simp[y20,PyData.eqvAll]
theorem z7q {own:Nat} {caps:List Nat} {it:Fi} {g:Fg} {c:Ft} {e:Fe} {ε δ:Ev} {ts us:List T} (hi:it ε=some ts) (hl:ts.length<=1000) (hd:z1m own caps ε=δ) (h:z1k g c e ts δ=some us):comp own caps it g c e ε=some (.list us):=by
 unfold comp
 rw[hi]
 simp only[y0p]
 rw[if_pos (by unfold big;omega),hd,h]
 rfl
theorem zda {a b:Ft} {ε:Ev} (h1:a ε=some false) (h2:b ε=some false):orT a b ε=some false:=by
 unfold orT
 rw[h1]
 simp only[y0p,y1u,if_false]
 exact h2
theorem zcb (C:List Nat):∀(w:List Nat) (j:Option Sl),z1k (gNm 0) (tstB (op2 (oIn false) (nm 0) (nm 1))) (nmV 0) (iL w) [j,some (.imm (wT C))]=some (iL (w.filter fun k=>decide (k∈C)))
 | [],j=>rfl
 | k::w,j=>by
  have ih:=zcb C w (some (.imm (.int k)))
  have g:gNm 0 (.int k) [j,some (.imm (wT C))]=some [some (.imm (.int k)),some (.imm (wT C))]:=rfl
  have e:tstB (op2 (oIn false) (nm 0) (nm 1)) [some (.imm (.int k)),some (.imm (wT C))]=some (decide (k∈C)):=z0s (z0i (x:=.int k) (y:=wT C) rfl rfl (z5l false k C))
  show z1k _ _ _ (PyData.int k::iL w) _=_
  rw[z1k,g]
  simp only[y0p,e]
  by_cases q:k∈C
  ·rw[List.filter_cons_of_pos (by simpa using q)]
   simp only[decide_eq_true q,if_true]
   have nv:nmV 0 [some (.imm (.int (k:Int))),some (.imm (wT C))]=some (.int k):=rfl
   rw[nv]
   simp only[y0p,ih,y1r]
   rfl
  ·rw[List.filter_cons_of_neg (by simpa using q)]
   simp only[decide_eq_false q,y1u,if_false]
   exact ih
theorem zht (n:Nat):∀(w:List Nat) (j:Option Sl),z1k (gNm 0) (tstB (op2 oNe (nm 0) (nm 1))) (nmV 0) (iL w) [j,some (.imm (.int n))]=some (iL (w.filter fun k=>!decide (k=n)))
 | [],j=>rfl
 | k::w,j=>by
  have ih:=zht n w (some (.imm (.int k)))
  have g:gNm 0 (.int k) [j,some (.imm (.int n))]=some [some (.imm (.int k)),some (.imm (.int n))]:=rfl
  have e:tstB (op2 oNe (nm 0) (nm 1)) [some (.imm (.int k)),some (.imm (.int n))]=some (!decide (k=n)):=z0s (z0i (x:=.int k) (y:=.int n) rfl rfl (by
   rw[zby]
   have:decide ((k:Int)=(n:Int))=decide (k=n):=decide_eq_decide.mpr (by omega)
   rw[this]))
  show z1k _ _ _ (PyData.int k::iL w) _=_
  rw[z1k,g]
  simp only[y0p,e]
  by_cases q:k=n
  ·rw[List.filter_cons_of_neg (by simpa using q)]
   simp only[decide_eq_true q,Bool.not_true,y1u,if_false]
   exact ih
  ·rw[List.filter_cons_of_pos (by simpa using q)]
   simp only[decide_eq_false q,Bool.not_false,if_true]
   have nv:nmV 0 [some (.imm (.int (k:Int))),some (.imm (.int (n:Int)))]=some (.int k):=rfl
   rw[nv]
   simp only[y0p,ih,y1r]
   rfl
theorem ze3 {C:List Nat}:∀(ws:List (List Nat)) (j:Option Sl),(∀w∈ws,w.length<=20)->Hg.Hits C ws->z1k (gNm 0) (tstB (op2 oEq (comp 1 [1] (z0d (nmV 0)) (gNm 0) (tstB (op2 (oIn false) (nm 0) (nm 1))) (nmV 0)) (z12 []))) (nmV 0) (ws.map wT) [j,some (.imm (wT C))]=some []
 | [],j,_,_=>rfl
 | w::ws,j,hl,hh=>by
  have ih:=ze3 ws (some (.imm (wT w))) (fun v hv=>hl v (by simp[hv])) fun v hv=>hh v (by simp[hv])
  have g:gNm 0 (wT w) [j,some (.imm (wT C))]=some [some (.imm (wT w)),some (.imm (wT C))]:=rfl
  have ne:(w.filter fun k=>decide (k∈C)).isEmpty=false:=by
   obtain⟨k,hk,hc⟩:=hh w (by simp)
   have:k∈w.filter fun k=>decide (k∈C):=List.mem_filter.mpr ⟨hk,decide_eq_true hc⟩
   cases q:w.filter fun k=>decide (k∈C) with
   | nil=>rw[q] at this;cases this
   | cons _ _=>rfl
  have e:tstB (op2 oEq (comp 1 [1] (z0d (nmV 0)) (gNm 0) (tstB (op2 (oIn false) (nm 0) (nm 1))) (nmV 0)) (z12 [])) [some (.imm (wT w)),some (.imm (wT C))]=some false:=by
   refine (z0s (z0i (z7q (ts:=iL w) rfl (by have:=hl w (by simp);simp;omega) rfl (zcb C w _)) rfl (zjl _))).trans ?_
   rw[ne]
  rw[y0d,z1k,g]
  simp only[y0p,e,y1u,if_false]
  exact ih
theorem z8q {v:List Nat}:∀(ws:List (List Nat)) (j:Option Sl),(∀w∈ws,v.length<=w.length)->z1k (gNm 0) (tstB (op2 oLt (opN oLen [(nm 0)]) (opN oLen [(nm 1)]))) (nmV 0) (ws.map wT) [j,some (.imm (wT v))]=some []
 | [],j,_=>rfl
 | w::ws,j,hl=>by
  have ih:=z8q ws (some (.imm (wT w))) fun v hv=>hl v (by simp[hv])
  have g:gNm 0 (wT w) [j,some (.imm (wT v))]=some [some (.imm (wT w)),some (.imm (wT v))]:=rfl
  have e:tstB (op2 oLt (opN oLen [(nm 0)]) (opN oLen [(nm 1)])) [some (.imm (wT w)),some (.imm (wT v))]=some false:=by
   refine z0s (z0i (x:=.int w.length) (y:=.int v.length) (z0b (z27 (x:=wT w) rfl) (zbz w)) (z0b (z27 (x:=wT v) rfl) (zbz v)) ?_)
   have:=hl w (by simp)
   show some (PyData.bool (decide ((w.length:Int)<(v.length:Int))))=_
   rw[decide_eq_false (by omega)]
  rw[y0d,z1k,g]
  simp only[y0p,e,y1u,if_false]
  exact ih
theorem zdm {y:Int} {l:List Int} (neg:Bool):oIn neg (.int y) (.tuple (l.map .int))=some (.bool (if neg then !decide (y∈l) else decide (y∈l))):=z9h neg y l
theorem zmz (C:List Nat) (k:Nat):oIn false (.int k) (.list (iL C))=some (.bool (decide (k∈C))):=z5l false k C
theorem zl5 (C:List Nat) (k:Nat):oIn false (.int k) (wT C)=some (.bool (decide (k∈C))):=z5l false k C
theorem zmy (k:Nat):oIn false (.int k) (.tuple [])=some (.bool (decide (k∈([]:List Nat)))):=z5l false k []
section
variable {ns:List Int} {R:Int} {os:List Op} {x:Int} {ws B:List (List Nat)} {C:List Nat}
noncomputable def V (ns:List Int) (R:Int) (os:List Op) (x:Int) (ws:List (List Nat)) (C:List Nat) (B:List (List Nat)) (s6 s7 s8 s9 s10 s11:Option Sl):Ev :=
 [some (.imm (D.scriptT ns)),some (.imm (z02 R os)),some (.imm (.int x)),some (.imm (.tuple (ws.map wT))),some (.imm (wT C)),some (.imm (rwT B)),s6,s7,s8,s9,s10,s11]
noncomputable def bR:Fs:=(seq (iff (orT (tstB (op2 (oIn true) (nm 7) (nm 3))) (tstB (op2 oNe (opN oLen [(comp 1 [4] (z0d (nmV 7)) (gNm 0) (tstB (op2 (oIn false) (nm 0) (nm 1))) (nmV 0))]) (cst (.int 1))))) (rtn (cst (.bool false))) skip)
  (asg 6 (op2 oAdd (nm 6) (opN z80 [(nm 7)]))))
theorem zd1 (r:Room1 R os x ws C B):∀(rest:List (List Nat)) (acc:List Nat) (s7:Option Sl),(∀w∈rest,w∈B)->acc.length+rest.flatten.length<=1000 ->
  ∃i7,forL (gNm 7) bR (rest.map wT) (V ns R os x ws C B (some (.imm (.list (iL acc)))) s7 none none none none)=some (.nx (V ns R os x ws C B (some (.imm (.list (iL (acc++rest.flatten))))) i7 none none none none))
 | [],acc,s7,_,_=>⟨s7,by simp[forL]⟩
 | w::rest,acc,s7,hm,hl=>by
  have hw:=hm w (by simp)
  have hws:=r.bs.subset hw
  simp only[List.flatten_cons,y21] at hl
  obtain⟨i7,ih⟩:=zd1 r rest (acc++w) (some (.imm (wT w))) (fun v hv=>hm v (by simp[hv])) (by rw[y21];omega)
  refine⟨i7,?_⟩
  have g:gNm 7 (wT w) (V ns R os x ws C B (some (.imm (.list (iL acc)))) s7 none none none none)=some (V ns R os x ws C B (some (.imm (.list (iL acc)))) (some (.imm (wT w))) none none none none):=rfl
  have st:bR (V ns R os x ws C B (some (.imm (.list (iL acc)))) (some (.imm (wT w))) none none none none)=some (.nx (V ns R os x ws C B (some (.imm (.list (iL (acc++w))))) (some (.imm (wT w))) none none none none)):=by
   have a1:op2 (oIn true) (nm 7) (nm 3) (V ns R os x ws C B (some (.imm (.list (iL acc)))) (some (.imm (wT w))) none none none none)=some (.bool false):=by
    refine (z0i (x:=wT w) (y:=.tuple (ws.map wT)) rfl rfl (zdc true w ws)).trans ?_
    rw[decide_eq_true hws]
    rfl
   have a2:op2 oNe (opN oLen [(comp 1 [4] (z0d (nmV 7)) (gNm 0) (tstB (op2 (oIn false) (nm 0) (nm 1))) (nmV 0))]) (cst (.int 1)) (V ns R os x ws C B (some (.imm (.list (iL acc)))) (some (.imm (wT w))) none none none none)=some (.bool false):=by
    refine z0i (x:=.int 1) (y:=.int 1) (z0b (z27 (z7q (ts:=iL w) rfl (by have:=r.wl w hws;simp;omega) rfl (zcb C w _))) ?_) rfl rfl
    show some (PyData.int ((iL (w.filter fun k=>decide (k∈C))).length:Nat))=_
    rw[y13,zml r hw]
    rfl
   unfold bR
   refine (z08 ((z4h (zda (z0s a1) (z0s a2))).trans rfl)).trans ?_
   refine (z1n (t:=.list (iL (acc++w))) (z0i (x:=.list (iL acc)) (y:=.list (iL w)) rfl rfl ?_)).trans rfl
   show (if (iL acc).length+(iL w).length<=big then some (PyData.list (iL acc++iL w)) else none)=_
   rw[if_pos (by simp only[y13];unfold big;omega)]
   simp[iL]
  rw[y0d,z4s g st,ih,List.flatten_cons,List.append_assoc]
noncomputable def bC:Fs:=(seq (asg 10 (comp 1 [9] (z0d (nmV 4)) (gNm 0) (tstB (op2 oNe (nm 0) (nm 1))) (nmV 0)))
  (iff (tstB (op2 (oIn true) (nm 2) (opN z0v [(opN z0n [(nmV 1),(nmV 10)]),(z06 [])]))) (rtn (cst (.bool false))) skip))
theorem zdu (d:Drawn R os) (r:Room1 R os x ws C B) (s6 s7 s8:Option Sl):∀(rest:List Nat) (s9 s10:Option Sl),(∀n∈rest,n∈C) ->
  ∃i9 i10,forL (gNm 9) bC (iL rest) (V ns R os x ws C B s6 s7 s8 s9 s10 none)=some (.nx (V ns R os x ws C B s6 s7 s8 i9 i10 none))
 | [],s9,s10,_=>⟨s9,s10,rfl⟩
 | n::rest,s9,s10,hm=>by
  have hn:=hm n (by simp)
  obtain⟨i9,i10,ih⟩:=zdu d r s6 s7 s8 rest (some (.imm (.int n))) (some (.imm (.list (iL (C.filter fun k=>!decide (k=n)))))) fun m h=>hm m (by simp[h])
  refine⟨i9,i10,?_⟩
  have hlen:C.length<=10:=by have:=r.cs.length_le;have:=d.len;simp at *;omega
  have g:gNm 9 (.int n) (V ns R os x ws C B s6 s7 s8 s9 s10 none)=some (V ns R os x ws C B s6 s7 s8 (some (.imm (.int n))) s10 none):=rfl
  have st:bC (V ns R os x ws C B s6 s7 s8 (some (.imm (.int n))) s10 none)=some (.nx (V ns R os x ws C B s6 s7 s8 (some (.imm (.int n))) (some (.imm (.list (iL (C.filter fun k=>!decide (k=n)))))) none)):=by
   have c1:comp 1 [9] (z0d (nmV 4)) (gNm 0) (tstB (op2 oNe (nm 0) (nm 1))) (nmV 0) (V ns R os x ws C B s6 s7 s8 (some (.imm (.int n))) s10 none)=some (.list (iL (C.filter fun k=>!decide (k=n)))):=z7q (ts:=iL C) rfl (by simp;omega) rfl (zht n C _)
   have hx:x∈z2q (z0t [] (watF (C.filter fun k=>!decide (k=n)) 0 os)):=(z6h d r _).mpr (zex r hn)
   have a1:op2 (oIn true) (nm 2) (opN z0v [(opN z0n [(nmV 1),(nmV 10)]),(z06 [])]) (V ns R os x ws C B s6 s7 s8 (some (.imm (.int n))) (some (.imm (.list (iL (C.filter fun k=>!decide (k=n)))))) none)=some (.bool false):=by
    refine (z0i (x:=.int x) rfl (z0b (z2v (z0b (z2v rfl rfl) (z3z d.len (zmz _))) (y:=.tuple []) rfl) (z2w d _ (ns:=[]) fun _ h=>by cases h)) (zdm true)).trans ?_
    rw[decide_eq_true hx]
    rfl
   unfold bC
   refine (z08 ((z1n c1).trans rfl)).trans ?_
   exact (z4h (z0s a1)).trans rfl
  exact (z4s g st).trans ih
end
theorem zju (ns:List Int) (h:ns.length<=63):zf0 [D.scriptT ns]=some (.bool true):=by
 obtain⟨m0,hm0,x0⟩:=zdf ns 0
 obtain⟨m,hm,x1⟩:=zdf ns 1
 obtain⟨R,os,d,xh⟩:=zjz m0 hm0
 have hR:=d.r1
 have hR7:=d.r7
 have hol:=d.len
 have x0':z22 [D.scriptT ns,.int 0]=some (.int m0):=x0
 have x1':z22 [D.scriptT ns,.int 1]=some (.int m):=x1
 obtain⟨x,ex⟩:∃x,x=1+m % R:=⟨_,rfl⟩
 have hx0:0<=m % R:=y2f _ (by omega)
 have hx1:m % R<R:=y2g _ (by omega)
 obtain⟨ws,C,B,r⟩:=zq6 d (x:=x) (by omega) (by omega)
 have hC:C.length<=10:=by
  have h1:=r.cs.length_le
  rw[List.length_range] at h1
  omega
 have hB:B.length<=10:=by rw[r.bl];exact hC
 have hF:B.flatten.length<=10:=by have:=zk2 r;omega
 suffices hs:znc [some (.imm (D.scriptT ns)),none,none,none,none,none,none,none,none,none,none,none]=some (.rt (.bool true)) by
  unfold zf0 runF
  simp only[y0d,y19,y0w,y2d,y2h,List.nil_append]
  exact congrArg (fun o=>Option.bind o _) hs
 unfold znc
 rw[z08 (z1n (t:=z02 R os) (z0b (z27 (z0b (z2v rfl rfl) x0')) xh))]
 simp only[y1k,y1i]
 rw[z08 (z1n (t:=.int x) (z0i (x:=.int 1) (y:=.int (m % R)) rfl (z0i (x:=.int m) (y:=.int R) (z0b (z2v rfl rfl) x1') rfl (z3r (by omega))) (by rw[ex];rfl)))]
 simp only[y1k,y1i]
 rw[z08 (z1n (t:=.tuple (ws.map wT)) (z0b (z2v rfl rfl) r.dw))]
 simp only[y1k,y1i]
 rw[z08 (z1n (t:=wT C) (z0b (z2v rfl rfl) r.df))]
 simp only[y1k,y1i]
 refine (z08 ((z1n (t:=rwT B) (z0b (z2v rfl rfl) r.da)).trans rfl)).trans ?_
 show seq _ _ (V ns R os x ws C B none none none none none none)=_
 have cpw:C.Pairwise (·<·):=List.Pairwise.sublist r.cs List.pairwise_lt_range
 have bpw:B.Pairwise (·<·):=List.Pairwise.sublist r.bs r.pw
 have a1:op2 oNe (opN oLen [(nm 4)]) (opN oLen [(nm 5)]) (V ns R os x ws C B none none none none none none)=some (.bool false):=by
  refine (z0i (z0b (z27 (x:=wT C) rfl) (zbz C)) (z0b (z27 (x:=rwT B) rfl) (zmt B)) (zby _ _)).trans ?_
  rw[decide_eq_true (by rw[r.bl])]
  rfl
 have a2:op2 oNe (opN z80 [(nm 4)]) (opN z1i [(nm 4)]) (V ns R os x ws C B none none none none none none)=some (.bool false):=z0i (x:=.list (iL C)) (z0b (z27 (x:=wT C) rfl) rfl) (z0b (z27 (x:=wT C) rfl) (zis cpw (by omega))) (z6a (zku C))
 have a3:op2 oNe (opN z80 [(nm 5)]) (opN z1x [(nm 5)]) (V ns R os x ws C B none none none none none none)=some (.bool false):=z0i (x:=.list (B.map wT)) (z0b (z27 (x:=rwT B) rfl) rfl) (z0b (z27 (x:=rwT B) rfl) (zfq bpw (by omega) fun w hw=>(r.ne w (r.bs.subset hw)).1)) (z6a (zow B))
 refine (z08 ((z4h (zda (z0s a1) (zda (z0s a2) (z0s a3)))).trans rfl)).trans ?_
 refine (z08 ((z1n (t:=.list (iL [])) rfl).trans rfl)).trans ?_
 show seq _ _ (V ns R os x ws C B (some (.imm (.list (iL [])))) none none none none none)=_
 obtain⟨i7,lp⟩:=zd1 (ns:=ns) r B [] none (fun w hw=>hw) (by simp only[y2d];omega)
 have lp':for_ (z0d (nmV 5)) (gNm 7) bR (V ns R os x ws C B (some (.imm (.list (iL [])))) none none none none none)=some (.nx (V ns R os x ws C B (some (.imm (.list (iL B.flatten)))) i7 none none none none)):=lp
 refine (z08 lp').trans ?_
 have b1:op2 oNe (opN z44 [(nm 6)]) (opN oLen [(nm 6)]) (V ns R os x ws C B (some (.imm (.list (iL B.flatten)))) i7 none none none none)=some (.bool false):=by
  have e1:z44 [.list (iL B.flatten)]=some (.int B.flatten.length):=by
   have nd:=z8o r
   generalize B.flatten=fl at hF nd ⊢
   rw[zc3]
   unfold z44
   dsimp only
   have hl:((cstN fl).map PyData.int).length=fl.length:=by simp[cstN]
   rw[if_pos (by omega),z38]
   simp only[y1r]
   rw[z5q (z8r nd)]
   simp[cstN]
  have e2:oLen [.list (iL B.flatten)]=some (.int B.flatten.length):=by
   show some (PyData.int (iL B.flatten).length)=_
   rw[y13]
  refine (z0i (z0b (z27 (x:=.list (iL B.flatten)) rfl) e1) (z0b (z27 (x:=.list (iL B.flatten)) rfl) e2) (zby _ _)).trans ?_
  rw[decide_eq_true rfl]
  rfl
 refine (z08 ((z4h (z0s b1)).trans rfl)).trans ?_
 generalize hs6:(some (Sl.imm (.list (iL B.flatten))))=s6
 have b2:op2 oNe (comp 1 [4] (z0d (nmV 3)) (gNm 0) (tstB (op2 oEq (comp 1 [1] (z0d (nmV 0)) (gNm 0) (tstB (op2 (oIn false) (nm 0) (nm 1))) (nmV 0)) (z12 []))) (nmV 0)) (z12 []) (V ns R os x ws C B s6 i7 none none none none)=some (.bool false) :=
  z0i (z7q (ts:=ws.map wT) rfl (by have:=r.len;simp;omega) rfl (ze3 ws _ r.wl r.ch)) rfl (z6a (by decide))
 refine (z08 ((z4h (z0s b2)).trans rfl)).trans ?_
 refine (z08 ((z1n (z0b (z2v rfl rfl) (z3z d.len (zl5 C)))).trans rfl)).trans ?_
 show seq _ _ (V ns R os x ws C B s6 i7 (some (.imm (z02 R (watF C 0 os)))) none none none)=_
 have c1:op2 (oIn false) (nm 2) (opN z0v [(nmV 8),(z06 [])]) (V ns R os x ws C B s6 i7 (some (.imm (z02 R (watF C 0 os)))) none none none)=some (.bool false):=by
  refine (z0i (x:=.int x) rfl (z0b (z2v (x:=z02 R (watF C 0 os)) (y:=.tuple []) rfl rfl) (z2w d _ (ns:=[]) fun _ h=>by cases h)) (zdm false)).trans ?_
  rw[decide_eq_false fun z=>?_]
  ·rfl
  ·obtain⟨w,hw,hk⟩:=(z6h d r C).mp z
   obtain⟨k,k1,k2⟩:=r.ch w hw
   exact hk k k1 k2
 have c2:op2 oNe (op2 (oIn false) (nm 2) (opN z0v [(nmV 8),(z06 [(cst (.str "z"))])])) (op2 oNe (nm 3) (z06 [])) (V ns R os x ws C B s6 i7 (some (.imm (z02 R (watF C 0 os)))) none none none)=some (.bool false):=by
  refine (z0i (z0i (x:=.int x) rfl (z0b (z2v (x:=z02 R (watF C 0 os)) (y:=.tuple [.str "z"]) rfl rfl) (z2w d _ (ns:=["z"]) (zlo (by decide +kernel)))) (zdm false)) (z0i (x:=.tuple (ws.map wT)) (y:=.tuple []) rfl rfl (zji ws)) (zgp _ _)).trans ?_
  have e:(if false=true then !decide (x∈z2q (z0t ["z"] (watF C 0 os))) else decide (x∈z2q (z0t ["z"] (watF C 0 os))))=!ws.isEmpty:=by
   rw[if_neg (by decide)]
   have:=zed d r C
   by_cases q:ws=[]
   ·rw[decide_eq_false fun z=>(this.mp z) q,q]
    rfl
   ·rw[decide_eq_true (this.mpr q)]
    cases ws with
    | nil=>exact absurd rfl q
    | cons _ _=>rfl
  rw[e,decide_eq_true rfl]
  rfl
 refine (z08 ((z4h (zda (z0s c1) (z0s c2))).trans rfl)).trans ?_
 generalize hs8:(some (Sl.imm (z02 R (watF C 0 os))))=s8
 obtain⟨i9,i10,lf⟩:=zdu (ns:=ns) d r s6 i7 s8 C none none fun n hn=>hn
 have lf':for_ (z0d (nmV 4)) (gNm 9) bC (V ns R os x ws C B s6 i7 s8 none none none)=some (.nx (V ns R os x ws C B s6 i7 s8 i9 i10 none)):=lf
 refine (z08 lf').trans ?_
 have e11:opN z25 [(opN oLen [(op2 oIx (nm 1) (cst (.int 1)))])] (V ns R os x ws C B s6 i7 s8 i9 i10 none)=some (wT (List.range os.length)):=by
  have h2:z25 [.int os.length]=some (wT (List.range os.length)):=by
   have hb:(0:Int)<=(os.length:Int)/\(os.length:Int)<=100000:=⟨by omega,by omega⟩
   have e:z25 [.int os.length]=if (0:Int)<=(os.length:Int)/\(os.length:Int)<=100000 then some (.tuple (rng 0 (os.length:Int))) else none:=by unfold z25;rfl
   rw[e,if_pos hb,zbr,wT]
  exact z0b (z27 (z0b (z27 (z0i (x:=z02 R os) rfl rfl (t:=.tuple (os.map opT)) rfl)) (by simp[oLen]))) h2
 refine (z08 ((z1n e11).trans rfl)).trans ?_
 show seq _ _ (V ns R os x ws C B s6 i7 s8 i9 i10 (some (.imm (wT (List.range os.length)))))=_
 have d1:op2 oNe (opN z0v [(opN z0n [(nmV 1),(nmV 11)]),(z06 [])]) (z06 [(cst (.int 0))]) (V ns R os x ws C B s6 i7 s8 i9 i10 (some (.imm (wT (List.range os.length)))))=some (.bool false):=by
  refine z0i (x:=.tuple [.int 0]) (y:=.tuple [.int 0]) ((z0b (z2v (z0b (z2v rfl rfl) (z3z d.len (zl5 _))) (y:=.tuple []) rfl) (z2w d _ (ns:=[]) fun _ h=>by cases h)).trans ?_) rfl (z6a (by decide))
  rw[zll d]
  rfl
 refine (z08 ((z4h (z0s d1)).trans rfl)).trans ?_
 generalize hs11:(some (Sl.imm (wT (List.range os.length))))=s11
 have e12:tstB (op2 oEq (nm 3) (z06 [])) (V ns R os x ws C B s6 i7 s8 i9 i10 s11)=some ws.isEmpty:=z0s (z0i (x:=.tuple (ws.map wT)) (y:=.tuple []) rfl rfl (zjk ws))
 by_cases hw:ws=[]
 ·obtain⟨rfl,rfl⟩:=zn5 r hw
  rw[hw] at e12 ⊢
  have t:rtn (andV (op2 oEq (nm 4) (z06 [])) (op2 oEq (nm 5) (z06 []))) (V ns R os x [] [] [] s6 i7 s8 i9 i10 s11)=some (.rt (.bool true)):=rfl
  have t':=(z3t (b:=skip) e12).trans t
  unfold seq
  rw[t']
  rfl
 ·have hne:ws.isEmpty=false:=by simpa using hw
  rw[hne] at e12
  refine (z08 ((z4h e12).trans rfl)).trans ?_
  refine (z08 ((z1n (z0b (z2v rfl rfl) (zj1 r.dw hw))).trans rfl)).trans ?_
  show seq _ _ (V ns R os x ws C B s6 (some (.imm (wT (minW ws)))) s8 i9 i10 s11)=_
  have f1:op2 (oIn true) (nm 2) (opN z0v [(opN z0n [(nmV 1),(z06 [])]),(z06 [])]) (V ns R os x ws C B s6 (some (.imm (wT (minW ws)))) s8 i9 i10 s11)=some (.bool false):=by
   refine (z0i (x:=.int x) rfl (z0b (z2v (z0b (z2v rfl (y:=.tuple []) rfl) (z3z d.len zmy)) (y:=.tuple []) rfl) (z2w d _ (ns:=[]) fun _ h=>by cases h)) (zdm true)).trans ?_
   rw[decide_eq_true ((z6h d r []).mpr ⟨_,zdg hw,fun k _ h=>by cases h⟩)]
   rfl
  refine (z08 ((z4h (z0s f1)).trans rfl)).trans ?_
  have g1:op2 (oIn false) (nm 7) (nm 3) (V ns R os x ws C B s6 (some (.imm (wT (minW ws)))) s8 i9 i10 s11)=some (.bool true):=by
   refine (z0i (x:=wT (minW ws)) (y:=.tuple (ws.map wT)) rfl rfl (zdc false _ ws)).trans ?_
   rw[decide_eq_true (zdg hw)]
   rfl
  have g2:op2 oEq (comp 1 [7] (z0d (nmV 3)) (gNm 0) (tstB (op2 oLt (opN oLen [(nm 0)]) (opN oLen [(nm 1)]))) (nmV 0)) (z12 []) (V ns R os x ws C B s6 (some (.imm (wT (minW ws)))) s8 i9 i10 s11)=some (.bool true) :=
   z0i (z7q (ts:=ws.map wT) rfl (by have:=r.len;simp;omega) rfl (z8q ws _ fun w hw=>zmp hw)) rfl (zjj (by decide))
  unfold rtn andV
  rw[g1]
  simp only[y0p,g2]
  rfl
end K22
end
section
namespace K22
open PySem PySem.Spec PyProof.Rows L2 D Ho Wo Qo
theorem all_mk {l:PySem.W.OpenLaw} {w:World} {K:y00} {h:Heap} {mg:Str->Option Value} {fa f1 f2 f3 f4 f5 f6 f7 f8 f9 f10 f11 f12 f13 f14 f15 f16 f17 cL13:Addr} {od1 an1 od2 an2 od3 an3 od4 an4 od5 an5 od6 an6 od7 an7 od8 an8 od9 an9 od10 an10 od11 an11 od12 an12 od13 an13 od14 an14 od15 an15 od16 an16 od17 an17:Option Addr} {sl1 sl2 sl3 sl4 sl5 sl6 sl7 sl8 sl9 sl10 sl11 sl12 sl13 sl14 sl15 sl16 sl17:Array (Option Value)} {oc1 kV1 dc1 pm1 cd1 ct1 oc2 kV2 dc2 pm2 cd2 ct2 oc3 kV3 dc3 pm3 cd3 ct3 oc4 kV4 dc4 pm4 cd4 ct4 oc5 kV5 dc5 pm5 cd5 ct5 oc6 kV6 dc6 pm6 cd6 ct6 oc7 kV7 dc7 pm7 cd7 ct7 oc8 kV8 dc8 pm8 cd8 ct8 oc9 kV9 dc9 pm9 cd9 ct9 oc10 kV10 dc10 pm10 cd10 ct10 oc11 kV11 dc11 pm11 cd11 ct11 oc12 kV12 dc12 pm12 cd12 ct12 oc13 kV13 dc13 pm13 ct13 oc14 kV14 dc14 pm14 cd14 ct14 oc15 kV15 dc15 pm15 cd15 ct15 oc16 kV16 dc16 pm16 cd16 ct16 oc17 kV17 dc17 pm17 cd17 ct17:Value} {t_OUTSIDE:Tok} (X:K.In h) (G:h.Ns y0n mg) (hfa:mg "law"=some (.ref fa))
  (a1:y0s K y0n "_law_drawn"=some (some (.ref f1)))
  (l1:K.lookup f1=some ⟨oc1,od1,.func (y0i "_law_drawn" "_law_drawn" (z0k z2f) (z0g z2f) (z01 z2f) .none kV1 dc1 pm1 an1 cd1 ct1),sl1⟩)
  (c1:y0f K cd1 "_law_drawn"=true)
  (k1:y08 K (.ref f1)=true)
  (a2:y0s K y0n "_law_house"=some (some (.ref f2)))
  (l2:K.lookup f2=some ⟨oc2,od2,.func (y0i "_law_house" "_law_house" (z0k z2e) (z0g z2e) (z01 z2e) .none kV2 dc2 pm2 an2 cd2 ct2),sl2⟩)
  (c2:y0f K cd2 "_law_house"=true)
  (k2:y08 K (.ref f2)=true)
  (a3:y0s K y0n "beyond"=some (some (.ref f3)))
  (l3:K.lookup f3=some ⟨oc3,od3,.func (y0i "beyond" "beyond" (z0k z36) (z0g z36) (z01 z36) .none kV3 dc3 pm3 an3 cd3 ct3),sl3⟩)
  (c3:y0f K cd3 "beyond"=true)
  (k3:y08 K (.ref f3)=true)
  (a4:y0s K y0n "ways_on"=some (some (.ref f4)))
  (l4:K.lookup f4=some ⟨oc4,od4,.func (y0i "ways_on" "ways_on" (z0k z1p) (z0g z1p) (z01 z1p) .none kV4 dc4 pm4 an4 cd4 ct4),sl4⟩)
  (c4:y0f K cd4 "ways_on"=true)
  (k4:y08 K (.ref f4)=true)
  (a5:y0s K y0n "ways"=some (some (.ref f5)))
  (l5:K.lookup f5=some ⟨oc5,od5,.func (y0i "ways" "ways" (z0k z6s) (z0g z6s) (z01 z6s) .none kV5 dc5 pm5 an5 cd5 ct5),sl5⟩)
  (c5:y0f K cd5 "ways"=true)
  (k5:y08 K (.ref f5)=true)
  (a6:y0s K y0n "stops"=some (some (.ref f6)))
  (l6:K.lookup f6=some ⟨oc6,od6,.func (y0i "stops" "stops" (z0k z34) (z0g z34) (z01 z34) .none kV6 dc6 pm6 an6 cd6 ct6),sl6⟩)
  (c6:y0f K cd6 "stops"=true)
  (k6:y08 K (.ref f6)=true)
  (a7:y0s K y0n "fewest"=some (some (.ref f7)))
  (l7:K.lookup f7=some ⟨oc7,od7,.func (y0i "fewest" "fewest" (z0k z35) (z0g z35) (z01 z35) .none kV7 dc7 pm7 an7 cd7 ct7),sl7⟩)
  (c7:y0f K cd7 "fewest"=true)
  (k7:y08 K (.ref f7)=true)
  (a8:y0s K y0n "are_apart"=some (some (.ref f8)))
  (l8:K.lookup f8=some ⟨oc8,od8,.func (y0i "are_apart" "are_apart" (z0k z14) (z0g z14) (z01 z14) .none kV8 dc8 pm8 an8 cd8 ct8),sl8⟩)
  (c8:y0f K cd8 "are_apart"=true)
  (k8:y08 K (.ref f8)=true)
  (a9:y0s K y0n "first_apart"=some (some (.ref f9)))
  (l9:K.lookup f9=some ⟨oc9,od9,.func (y0i "first_apart" "first_apart" (z0k z0q) (z0g z0q) (z01 z0q) .none kV9 dc9 pm9 an9 cd9 ct9),sl9⟩)
  (c9:y0f K cd9 "first_apart"=true)
  (k9:y08 K (.ref f9)=true)
  (a10:y0s K y0n "apart"=some (some (.ref f10)))
  (l10:K.lookup f10=some ⟨oc10,od10,.func (y0i "apart" "apart" (z0k z4n) (z0g z4n) (z01 z4n) .none kV10 dc10 pm10 an10 cd10 ct10),sl10⟩)
  (c10:y0f K cd10 "apart"=true)
  (k10:y08 K (.ref f10)=true)
  (a11:y0s K y0n "_law_watched"=some (some (.ref f11)))
  (l11:K.lookup f11=some ⟨oc11,od11,.func (y0i "_law_watched" "_law_watched" (z0k z1g) (z0g z1g) (z01 z1g) .none kV11 dc11 pm11 an11 cd11 ct11),sl11⟩)
  (c11:y0f K cd11 "_law_watched"=true)
  (k11:y08 K (.ref f11)=true)
  (a12:y0s K y0n "ways_at_all"=some (some (.ref f12)))
  (l12:K.lookup f12=some ⟨oc12,od12,.func (y0i "ways_at_all" "ways_at_all" (z0k z0y) (z0g z0y) (z01 z0y) .none kV12 dc12 pm12 an12 cd12 ct12),sl12⟩)
  (c12:y0f K cd12 "ways_at_all"=true)
  (k12:y08 K (.ref f12)=true)
  (a13:y0s K y0n "quickest"=some (some (.ref f13)))
  (l13:K.lookup f13=some ⟨oc13,od13,.func (y0i "quickest" "quickest" (z0k z16) (z0g z16) (z01 z16) .none kV13 dc13 pm13 an13 (.ref cL13) ct13),sl13⟩)
  (c13:y0f K (.ref cL13) "quickest"=true)
  (k13:y08 K (.ref f13)=true)
  (a14:y0s K y0n "_law_cell_at"=some (some (.ref f14)))
  (l14:K.lookup f14=some ⟨oc14,od14,.func (y0i "_law_cell_at" "_law_cell_at" (z0k z1h) (z0g z1h) (z01 z1h) .none kV14 dc14 pm14 an14 cd14 ct14),sl14⟩)
  (c14:y0f K cd14 "_law_cell_at"=true)
  (k14:y08 K (.ref f14)=true)
  (a15:y0s K y0n "_law_mixed"=some (some (.ref f15)))
  (l15:K.lookup f15=some ⟨oc15,od15,.func (y0i "_law_mixed" "_law_mixed" (z0k z2d) (z0g z2d) (z01 z2d) .none kV15 dc15 pm15 an15 cd15 ct15),sl15⟩)
  (c15:y0f K cd15 "_law_mixed"=true)
  (k15:y08 K (.ref f15)=true)
  (a16:y0s K y0n "unseen"=some (some (.ref f16)))
  (l16:K.lookup f16=some ⟨oc16,od16,.func (y0i "unseen" "unseen" (z0k z2p) (z0g z2p) (z01 z2p) .none kV16 dc16 pm16 an16 cd16 ct16),sl16⟩)
  (c16:y0f K cd16 "unseen"=true)
  (k16:y08 K (.ref f16)=true)
  (a17:y0s K y0n "law"=some (some (.ref f17)))
  (l17:K.lookup f17=some ⟨oc17,od17,.func (y0i "law" "law" (z0k z54) (z0g z54) (z01 z54) .none kV17 dc17 pm17 an17 cd17 ct17),sl17⟩)
  (c17:y0f K cd17 "law"=true)
  (k17:y08 K (.ref f17)=true)
  (z_range:y0s K y0n "range"=some none)
  (z_min:y0s K y0n "min"=some none)
  (z_max:y0s K y0n "max"=some none)
  (z_enumerate:y0s K y0n "enumerate"=some none)
  (z_tuple:y0s K y0n "tuple"=some none)
  (z_len:y0s K y0n "len"=some none)
  (z_any:y0s K y0n "any"=some none)
  (z_int:y0s K y0n "int"=some none)
  (z_sorted:y0s K y0n "sorted"=some none)
  (z_list:y0s K y0n "list"=some none)
  (z_set:y0s K y0n "set"=some none)
  (g_OUTSIDE:y0s K y0n "OUTSIDE"=some (some (.int 0 t_OUTSIDE)))
  (hCH13:y3a K cL13 101=true) :
  ∃fd:y0b,(∀(s:y04) (v:Value),BindsTo s fd ⟨[v],[]⟩ [("_law_script",v)])/\∀base:Heap,K.In base->base.Ns y0n mg->BM mg base->FnOk l.prog w K mg base CX0 27 fa fd ["_law_script"] (@spT (tOf [(101,(("quickest":Str)++".<locals>.")++"<lambda>")]) K 1 zf0):=by
 have e:=hfa.symm.trans (y11 X G a17)
 cases e
 refine⟨y0i "law" "law" (z0k z54) (z0g z54) (z01 z54) .none kV17 dc17 pm17 an17 cd17 ct17,fun s v=>.of_eq rfl,fun base _ _ hbm=>?_⟩
 letI tt:Tbl:=⟨[(101,(("quickest":Str)++".<locals>.")++"<lambda>")],fun c=>match c with  | _=>[],fun c=>match c with  | _=>none⟩
 replace z_range:=y1c X G z_range
 replace z_min:=y1c X G z_min
 replace z_max:=y1c X G z_max
 replace z_enumerate:=y1c X G z_enumerate
 replace z_tuple:=y1c X G z_tuple
 replace z_len:=y1c X G z_len
 replace z_any:=y1c X G z_any
 replace z_int:=y1c X G z_int
 replace z_sorted:=y1c X G z_sorted
 replace z_list:=y1c X G z_list
 replace z_set:=y1c X G z_set
 replace g_OUTSIDE:=y11 X G g_OUTSIDE
 have F1:=z1v (st:=z2f) l1 c1 k1
 have C_l_drawn:=z7t (P:=l.prog) (w:=w) (base:=base) (k:=0) F1 (y11 X G a1)
 have F2:=z1v (st:=z2e) l2 c2 k2
 have C_l_house:=z7s (P:=l.prog) (w:=w) (base:=base) (k:=1) F2 (y11 X G a2) z_range (C_l_drawn.mono (by decide)) z_min z_max
 have F3:=z1v (st:=z36) l3 c3 k3
 have C_beyond:=z2t (P:=l.prog) (w:=w) (base:=base) (k:=0) F3 (y11 X G a3)
 have F4:=z1v (st:=z1p) l4 c4 k4
 have C_ways_on:=z32 (P:=l.prog) (w:=w) (base:=base) (k:=1) F4 (y11 X G a4) z_enumerate (C_beyond.mono (by decide)) 20
 have F5:=z1v (st:=z6s) l5 c5 k5
 have C_ways:=z5c (P:=l.prog) (w:=w) (base:=base) (k:=21) F5 (y11 X G a5) z_tuple (C_ways_on.mono (by decide)) g_OUTSIDE
 have F6:=z1v (st:=z34) l6 c6 k6
 have C_stops:=z5t (P:=l.prog) (w:=w) (base:=base) (k:=0) F6 (y11 X G a6) z_enumerate z_len 20
 have F7:=z1v (st:=z35) l7 c7 k7
 have C_fewest:=z5e (P:=l.prog) (w:=w) (base:=base) (k:=22) F7 (y11 X G a7) (C_ways.mono (by decide)) z_tuple z_range (C_stops.mono (by decide)) z_len
 have F8:=z1v (st:=z14) l8 c8 k8
 have C_are_apart:=z1z (P:=l.prog) (w:=w) (base:=base) (k:=0) F8 (y11 X G a8) z_any
 have F9:=z1v (st:=z0q) l9 c9 k9
 have C_first_apart:=z19 (P:=l.prog) (w:=w) (base:=base) (k:=1) F9 (y11 X G a9) z_enumerate (C_are_apart.mono (by decide)) 20
 have F10:=z1v (st:=z4n) l10 c10 k10
 have C_apart:=zci (P:=l.prog) (w:=w) (base:=base) (k:=23) F10 (y11 X G a10) (C_first_apart.mono (by decide)) (C_ways.mono (by decide)) z_len (C_fewest.mono (by decide))
 have F11:=z1v (st:=z1g) l11 c11 k11
 have C_l_watched:=z1y (P:=l.prog) (w:=w) (base:=base) (k:=0) F11 (y11 X G a11) z_enumerate z_int
 have F12:=z1v (st:=z0y) l12 c12 k12
 have C_ways_at_all:=z3a (P:=l.prog) (w:=w) (base:=base) (k:=22) F12 (y11 X G a12) (C_ways.mono (by decide))
 have F13:=z1v (st:=z16) l13 c13 k13
 have C_quickest:=z5u (P:=l.prog) (w:=w) (base:=base) (k:=23) l13 c13 k13 (y11 X G a13) hCH13 hbm (by show _∈[(101,(("quickest":Str)++".<locals>.")++"<lambda>")];simp) (fun p hp=>by
  have hp:p∈[(101,(("quickest":Str)++".<locals>.")++"<lambda>")]:=hp
  simp only[y09,y28,or_false] at hp
  rcases hp with rfl <;> first|(intro z;exact absurd z (by decide))|(intro _;rfl)) z_min (C_ways_at_all.mono (by decide)) z_len
 have F14:=z1v (st:=z1h) l14 c14 k14
 have C_l_cell_at:=z4v (P:=l.prog) (w:=w) (base:=base) (k:=0) F14 (y11 X G a14) z_len
 have F15:=z1v (st:=z2d) l15 c15 k15
 have C_l_mixed:=z5d (P:=l.prog) (w:=w) (base:=base) (k:=1) F15 (y11 X G a15) (C_l_cell_at.mono (by decide))
 have F16:=z1v (st:=z2p) l16 c16 k16
 have C_unseen:=z3b (P:=l.prog) (w:=w) (base:=base) (k:=1) F16 (y11 X G a16) z_tuple z_sorted (C_beyond.mono (by decide)) g_OUTSIDE
 have F17:=z1v (st:=z54) l17 c17 k17
 exact zn4 rfl (zqn (k:=26) F17 (C_l_house.mono (by decide)) (C_ways.mono (by decide)) (C_fewest.mono (by decide)) (C_apart.mono (by decide)) (C_l_watched.mono (by decide)) z_tuple (C_quickest.mono (by decide)) (C_l_mixed.mono (by decide)) z_len z_range (C_unseen.mono (by decide)) z_list z_sorted z_set)
theorem walk {l:PySem.W.OpenLaw} {q:y0q} {loose:List Str} {XP:(Str->Option Value)->Heap->Prop} {YP:World->Heap->Prop} {d:DefRec} {K:Params->y00} (hn:l.most=some 63) (hdf:d.params.defaults=[])
  (hL:∀w:World,noL (K w.params)=true) (hY:∀(w:World) (h:Heap),YP w h->(K w.params).In h) (hT:∀(w:World) (h:Heap),YP w h->∀b∈[101],h.get? b=some (PySem.W.tabObj #[]))
  (hK0:∀w:World,(([101]:List Nat).all fun b=>((K w.params).lookup b).isNone)=true) (hcd:∀w:World,(([101]:List Nat).all fun b=>(K w.params).any fun p=>y3a (K w.params) p.1 b)=true)
  (F:∀(w:World) (mg:Str->Option Value) (fa:Addr) (h:Heap),(K w.params).In h->h.Ns y0n mg->mg d.name=some (.ref fa) ->
   ∃fd:y0b,(∀(s:y04) (u:Value),BindsTo s fd ⟨[u],[]⟩ [("_law_script",u)])/\∀base:Heap,(K w.params).In base->base.Ns y0n mg->BM mg base->FnOk l.prog w (K w.params) mg base CX0 27 fa fd ["_law_script"] (@spT (tOf [(101,(("quickest":Str)++".<locals>.")++"<lambda>")]) (K w.params) 1 zf0)) :
  PySem.W.WalkO q loose XP YP l.row.toRowW d [] (fun f vs=>PySem.call f vs) :=
 zig (n:=63) (k:=27) (x:="_law_script") (ts:=[101]) (CX:=fun _=>CX0) (sp:=fun w=>@spT (tOf [(101,(("quickest":Str)++".<locals>.")++"<lambda>")]) (K w.params) 1 zf0) hn (by decide) hdf ⟨rfl,by decide,by decide,rfl⟩ hY hT (fun w b hb=>Option.isNone_iff_eq_none.mp (List.all_eq_true.mp (hK0 w) b hb)) (fun w b hb=>by
  obtain⟨p,_,hp⟩:=List.any_eq_true.mp (List.all_eq_true.mp (hcd w) b hb)
  exact⟨p.1,hp⟩) F (fun w H a ns hl hO hS=>zfm (t:=tOf [(101,(("quickest":Str)++".<locals>.")++"<lambda>")]) (fun p hp=>by
  have hp:p∈[(101,(("quickest":Str)++".<locals>.")++"<lambda>")]:=hp
  simp only[y09,y28,or_false] at hp
  rcases hp with rfl <;> simp) hO (hL w) (zju ns hl) hS) fun _ _ _ _ _ z=>z
end K22
open PySem PySem.W PyProof.Rows
set_option maxRecDepth 100000 in
set_option maxHeartbeats 0 in
theorem PySem.Challenge.cw_doorwatch_k22_whole_few_openings_holds : PySem.Challenge.rw_doorwatch_k22_whole_few_openings.Holds := by
 w_on;o_law;k_head;(case hw=>w_witness2)
 k_fill
 refine K22.walk (l:=PySem.Challenge.rw_doorwatch_k22_whole_few_openings) rfl rfl ?L (fun w h Y=>PySem.W.km_in_of Y) (fun w h Y=>PySem.W.km_tabs_of Y) ?K0 ?CD ?F
 case L =>
  intro w
  first|rfl|(with_unfolding_all rfl)|kernel_rfl
 case K0 =>
  intro w
  first|rfl|(with_unfolding_all rfl)|kernel_rfl
 case CD =>
  intro w
  first|rfl|(with_unfolding_all rfl)|kernel_rfl
 case F =>
  intro w mg fa h KX G hmg
  refine' K22.all_mk KX G hmg ?a1 ?l1 ?c1 ?k1 ?a2 ?l2 ?c2 ?k2 ?a3 ?l3 ?c3 ?k3 ?a4 ?l4 ?c4 ?k4 ?a5 ?l5 ?c5 ?k5 ?a6 ?l6 ?c6 ?k6 ?a7 ?l7 ?c7 ?k7 ?a8 ?l8 ?c8 ?k8 ?a9 ?l9 ?c9 ?k9 ?a10 ?l10 ?c10 ?k10 ?a11 ?l11 ?c11 ?k11 ?a12 ?l12 ?c12 ?k12 ?a13 ?l13 ?c13 ?k13 ?a14 ?l14 ?c14 ?k14 ?a15 ?l15 ?c15 ?k15 ?a16 ?l16 ?c16 ?k16 ?a17 ?l17 ?c17 ?k17 ?z_range ?z_min ?z_max ?z_enumerate ?z_tuple ?z_len ?z_any ?z_int ?z_sorted ?z_list ?z_set ?g_OUTSIDE ?hCH13
  (case a1=>k_is)
  (case l1=>k_is)
  (case c1=>k_is)
  (case k1=>k_is)
  (case a2=>k_is)
  (case l2=>k_is)
  (case c2=>k_is)
  (case k2=>k_is)
  (case a3=>k_is)
  (case l3=>k_is)
  (case c3=>k_is)
  (case k3=>k_is)
  (case a4=>k_is)
  (case l4=>k_is)
  (case c4=>k_is)
  (case k4=>k_is)
  (case a5=>k_is)
  (case l5=>k_is)
  (case c5=>k_is)
  (case k5=>k_is)
  (case a6=>k_is)
  (case l6=>k_is)
  (case c6=>k_is)
  (case k6=>k_is)
  (case a7=>k_is)
  (case l7=>k_is)
  (case c7=>k_is)
  (case k7=>k_is)
  (case a8=>k_is)
  (case l8=>k_is)
  (case c8=>k_is)
  (case k8=>k_is)
  (case a9=>k_is)
  (case l9=>k_is)
  (case c9=>k_is)
  (case k9=>k_is)
  (case a10=>k_is)
  (case l10=>k_is)
  (case c10=>k_is)
  (case k10=>k_is)
  (case a11=>k_is)
  (case l11=>k_is)
  (case c11=>k_is)
  (case k11=>k_is)
  (case a12=>k_is)
  (case l12=>k_is)
  (case c12=>k_is)
  (case k12=>k_is)
  (case a13=>k_is)
  (case l13=>k_is)
  (case c13=>k_is)
  (case k13=>k_is)
  (case a14=>k_is)
  (case l14=>k_is)
  (case c14=>k_is)
  (case k14=>k_is)
  (case a15=>k_is)
  (case l15=>k_is)
  (case c15=>k_is)
  (case k15=>k_is)
  (case a16=>k_is)
  (case l16=>k_is)
  (case c16=>k_is)
  (case k16=>k_is)
  (case a17=>k_is)
  (case l17=>k_is)
  (case c17=>k_is)
  (case k17=>k_is)
  (case z_range=>k_is)
  (case z_min=>k_is)
  (case z_max=>k_is)
  (case z_enumerate=>k_is)
  (case z_tuple=>k_is)
  (case z_len=>k_is)
  (case z_any=>k_is)
  (case z_int=>k_is)
  (case z_sorted=>k_is)
  (case z_list=>k_is)
  (case z_set=>k_is)
  (case g_OUTSIDE=>k_is)
  (case hCH13=>first|kernel_rfl|rfl|(with_unfolding_all rfl))
end
end
