import PyProof.Rows.All
import Wide.All
import OpenK.AllK
import Wide.FinOn
import Lean
import PyProof.EqAt
import PyProof.EqKinds
import PyProof.TupleCall
import PyProof.P3Statements
import KE.KSortTup
import PyProof.AttrMissHeap
import PyProof.ZipIter
import PyProof.Draws
import PyProof.ListMulRoad
import Wide.Seal
import KE.KLam
import KE.KNest
import KE.KNestM
import PySem.Challenge.RW_doorwatch_k43_whole_boxes_tick_by_tick
set_option Elab.async false
set_option linter.all false
set_option maxRecDepth 100000
set_option maxHeartbeats 0
open PySem.W renaming Frag → y00, keepIn → y08, findIn → y0d, codeIn → y0g, fnOf → y0j, nsIn → y0t, isFn → y0z, mg_of → y14, mg_none_of → y1f, emptyDict → y1q, instObj → y25
open Option renaming bind_eq_some_iff → y01, map_eq_some_iff → y07, bind_some → y0q, map_some → y1w
open PySem renaming wpAny_bind → y02, Shared → y04, wpAny_pure → y06, starEach → y0a, FuncData → y0b, sizeLine → y0k, mainGlobals → y0o, Program → y0r, wpAny → y0v, wpAny_mono → y1g, mem_of_lookup → y2k
open PySem.Heap renaming get?_push_of_some → y03, lt_size → y0c, get?_push_size → y0m, size_push → y1a
open List renaming mem_cons_of_mem → y05, mem_cons → y09, map_cons → y0e, mem_cons_self → y0f, replicate → y0h, size_toArray → y0i, getElem?_eq_some_iff → y0l, mem_map → y0n, nodup_cons → y0s, getElem?_eq_getElem → y0w, length_cons → y0x, mem_singleton → y11, mem_append → y13, length_map → y16, getElem?_map → y17, pairwise_cons → y1b, map_nil → y1c, mem_append_right → y1d, lookup_cons → y1i, set_cons_zero → y1l, lookup → y1n, set_cons_succ → y1o, getElem?_append_right → y1p, nodup_append → y1r, getElem?_append_left → y1s, Nodup → y1v, find?_cons → y1x, replicate_succ → y1y, mem_of_getElem? → y21, append_nil → y26, zip_cons_cons → y29, length_append → y2a, length_filter_le → y2f, getElem?_set → y2g, flatten_cons → y2h, not_mem_nil → y2j, getElem?_cons_zero → y2l, getElem?_cons_succ → y2m, length_nil → y2o, append_assoc → y2s, nil_append → y2t, cons_append → y2u, map_map → y2v
open Nat renaming le_refl → y0p, lt_of_lt_of_le → y0y, ne_of_lt → y10, ne_of_gt → y18, le_trans → y1u, zero_le → y2c, le_succ → y2p
open PySem.Builtin.SmallTypes renaming nextOf → y0u, ownedTupleIsFree → y12
open PySem.Builtin.Tuple renaming tupleExact → y15
open Function renaming comp_def → y19
open Bool renaming and_eq_true → y1e, false_eq_true → y20, false_ne_true → y2b
open PySem.PyData renaming depthAll → y1h, canLayAll0 → y1j, str → y23, eqv → y28, depth → y2d
open PyProof.Rows renaming slot_tuple_getitem → y1k, callWith_type1 → y1z
open PySem.Builtin.Slice renaming slicePlaces → y1m
open Array renaming getElem?_eq_getElem → y1t, length_toList → y27
open PySem.Around renaming under_plainId → y22
open False renaming elim → y24
open PySem.PassesOwn renaming never → y2e
open PySem.F renaming slot_tuple_iterator_next → y2i
open Option.some renaming inj → y2n
open Int renaming emod_nonneg → y2q, emod_lt_of_pos → y2r
namespace PySem.W.Fast
def tw14320318561023183860:=0
def tw17360271143309363811:=0
def tw13101983378428740698:=0
def tw8717680648351098355:=0
def tw7138073238734499622:=0
def tw1708959501174369343:=0
def tw2210788572259953833:=0
def tw11544444089548383476:=0
def tw3400992119501130667:=0
def tw4657951353612008301:=0
def tw12344619701113275176:=0
def tw12913007757911880633:=0
def tw6615766981373145928:=0
def tw9414288436334988238:=0
def tw11488966056153469484:=0
def tw9892178789480396515:=0
def tw18052487524447236037:=0
def tw14743955819549614068:=0
def tw6521924381350992375:=0
def tw15706929852040730329:=0
def tw17814557230228306900:=0
def tw14961110802619670666:=0
def tw5897830134545191325:=0
def tw7720411966304579119:=0
def tw14936769546653757815:=0
def tw1151945521793203409:=0
def tw11472149330044347990:=0
def tw11333325272449956881:=0
def tw14042136931259090974:=0
def tw13639839968593343183:=0
def tw18395932696438094966:=0
def tw9604404765732760693:=0
def tw12996478497993474989:=0
def tw5368310275844602858:=0
def tw5583678653377532506:=0
def tw7757100107126495119:=0
def tw13340052996992677541:=0
def tw14204603409403626475:=0
def tw12475349042922778626:=0
def tw4648594440692463324:=0
def tw15171187118706189796:=0
def tw3660548370707378042:=0
def tw17181966461739897711:=0
def tw5179651744057832684:=0
def tw10635458552605812278:=0
def tw2361093837919945302:=0
def tw15661829690815177544:=0
def tw12338571833278833871:=0
def tw10930465161302466384:=0
def tw4089267871212960798:=0
def tw14178849925030155600:=0
def tw13809994946854206434:=0
def tw17046558468260859168:=0
def tw4169095689808851642:=0
def tw5431730199262691891:=0
def tw13578652131178852206:=0
def tw2143717934563679271:=0
def tw5952080980231873533:=0
def tw1412984059221607456:=0
def tw75394578862790819:=0
end PySem.W.Fast
noncomputable section
section
namespace L2
open PySem PySem.Spec PyProof.Rows
abbrev Key:=Sum Int Str
def zi2:Key->Value->Bool
 | .inl k,v=>Value.isInt k v
 | .inr x,v=>Value.isStrOf x v
def keyH (w:World):Key->Int
 | .inl k=>hashInt k
 | .inr x=>hashStr w x
theorem z25:∀{k:Key} {v:Value},zi2 k v=true->(∃i t,k=Sum.inl i/\v=Value.int i t)\/(∃x t,k=Sum.inr x/\v=Value.str x t)
 | .inl i,v,h=>by
  obtain⟨t,e⟩:=Value.isInt_shape (k:=i) (v:=v) h
  exact .inl ⟨i,t,rfl,e⟩
 | .inr x,v,h=>by
  obtain⟨t,e⟩:=Value.isStrOf_shape (x:=x) (v:=v) h
  exact .inr ⟨x,t,rfl,e⟩
theorem zp3 (i:Int) (t:Tok):zi2 (.inl i) (.int i t)=true:=by simp[zi2,Value.isInt]
theorem zp2 (x:Str) (t:Tok):zi2 (.inr x) (.str x t)=true:=by simp[zi2,Value.isStrOf]
theorem zws (a b:Int):decide ((Sum.inl a:Key)=Sum.inl b)=(a == b):=by
 by_cases e:a=b
 ·subst e;simp
 ·have h:¬(Sum.inl a:Key)=Sum.inl b:=fun q=>e (Sum.inl.inj q)
  rw[decide_eq_false h]
  exact (beq_eq_false_iff_ne.mpr e).symm
theorem zwp (a b:Str):decide ((Sum.inr a:Key)=Sum.inr b)=decide (a=b):=by
 by_cases e:a=b
 ·subst e;simp
 ·have h:¬(Sum.inr a:Key)=Sum.inr b:=fun q=>e (Sum.inr.inj q)
  rw[decide_eq_false h,decide_eq_false e]
theorem zwr (a:Int) (b:Str):decide ((Sum.inl a:Key)=Sum.inr b)=false:=decide_eq_false (fun q=>nomatch q)
theorem zwq (a:Str) (b:Int):decide ((Sum.inr a:Key)=Sum.inl b)=false:=decide_eq_false (fun q=>nomatch q)
noncomputable def z1u (prog:y0r) (w:World):PySem.KeyKind prog w Key where
 is:=zi2
 hash:=keyH w
 inj:=fun v a b ha hb=>by
  rcases z25 ha with ⟨i,t,rfl,rfl⟩|⟨x,t,rfl,rfl⟩
  ·rcases z25 hb with ⟨j,u,rfl,e⟩|⟨y,u,rfl,e⟩
   ·injection e with e1 _;rw[e1]
   ·exact nomatch e
  ·rcases z25 hb with ⟨j,u,rfl,e⟩|⟨y,u,rfl,e⟩
   ·exact nomatch e
   ·injection e with e1 _;rw[e1]
 byValue:=fun k v h=>by
  rcases z25 h with ⟨i,t,rfl,rfl⟩|⟨x,t,rfl,rfl⟩ <;> rfl
 pyHash:=fun hv h=>by
  rcases z25 hv with ⟨i,t,rfl,rfl⟩|⟨x,t,rfl,rfl⟩
  ·exact wpAny_pyHash_int h
  ·exact wpAny_pyHash_str h
 eqBool:=fun hu hv h=>by
  rcases z25 hu with ⟨i,t,rfl,rfl⟩|⟨x,t,rfl,rfl⟩
  ·rcases z25 hv with ⟨j,u,rfl,rfl⟩|⟨y,u,rfl,rfl⟩
   ·rw[zws] at h;exact wpAny_eqBool_int h
   ·rw[zwr] at h;exact SeqAt.EqAt.int_str i t y u _ _ _ _ h
  ·rcases z25 hv with ⟨j,u,rfl,rfl⟩|⟨y,u,rfl,rfl⟩
   ·rw[zwq] at h;exact SeqAt.EqAt.str_int x t j u _ _ _ _ h
   ·rw[zwp] at h;exact wpAny_eqBool_str h
 «strs»:=fun k x t v h=>by
  rcases z25 h with ⟨i,u,rfl,e⟩|⟨y,u,rfl,e⟩
  ·exact nomatch e
  ·injection e with e1 _
   subst e1
   cases v <;> rfl
theorem zfi (prog:y0r) (w:World) (k:Key) (v:Value):(z1u prog w).is k v=zi2 k v:=rfl
theorem zdh (prog:y0r) (w:World) (i:Int) (t:Tok):(z1u prog w).is (.inl i) (.int i t)=true:=zp3 i t
theorem zdg (prog:y0r) (w:World) (x:Str) (t:Tok):(z1u prog w).is (.inr x) (.str x t)=true:=zp2 x t
end L2
namespace L2
open PySem PySem.Spec PyProof.Rows
inductive V where
 | non|bl (b:Bool)|int (i:Int)|str (x:Str)|byt (b:Array UInt8)|flt (b:UInt64)|ref (a:Addr)|ty (n:String)
 deriving DecidableEq
noncomputable def RelV:V->Value->Prop
 | .non,u=>u=Value.none
 | .bl b,u=>u=Value.bool b
 | .int i,u=>∃t,u=Value.int i t
 | .str x,u=>∃t,u=Value.str x t
 | .byt b,u=>∃t,u=Value.bytes b t
 | .flt b,u=>∃t,u=Value.float b t
 | .ref a,u=>u=Value.ref a
 | .ty n,u=>u=Value.type n
abbrev Vals:List V->List Value->Prop:=Paired RelV
theorem Vals.length {xs:List V} {us:List Value} (r:Vals xs us):xs.length=us.length:=Paired.length r
theorem Vals.get:∀{xs:List V} {us:List Value} {i:Nat} {x:V},Vals xs us->xs[i]?=some x->∃u,us[i]?=some u/\RelV x u
 | _,_,_,_,.nil,e=>by simp at e
 | _,_,0,_,.cons r _,e=>by simp at e;subst e;exact⟨_,rfl,r⟩
 | _,_,i+1,x,.cons _ t,e=>by
  obtain⟨u,h1,h2⟩:=Vals.get (i:=i) (x:=x) t (by simpa using e)
  exact⟨u,by simpa using h1,h2⟩
theorem Vals.append:∀{xs ys:List V} {us ws:List Value},Vals xs us->Vals ys ws->Vals (xs++ys) (us++ws)
 | _,_,_,_,.nil,s=>s
 | _,_,_,_,.cons r t,s=>.cons r (Vals.append t s)
theorem Vals.take:∀{xs:List V} {us:List Value} (n:Nat),Vals xs us->Vals (xs.take n) (us.take n)
 | _,_,0,_=>.nil
 | _,_,_+1,.nil=>.nil
 | _,_,n+1,.cons r t=>.cons r (Vals.take n t)
theorem Vals.drop:∀{xs:List V} {us:List Value} (n:Nat),Vals xs us->Vals (xs.drop n) (us.drop n)
 | _,_,0,r=>r
 | _,_,_+1,.nil=>.nil
 | _,_,n+1,.cons _ t=>Vals.drop n t
def RelO:Option V->Option Value->Prop
 | some v,some u=>RelV v u
 | none,none=>True
 | _,_=>False
def KV {κ:Type}:List (κ×V)->List (κ×Value)->Prop:=Paired fun (p:κ×V) (q:κ×Value)=>p.1=q.1/\RelV p.2 q.2
def kV:Key->V
 | .inl i=>.int i
 | .inr x=>.str x
inductive HO where
 | lst (xs:List V)
 | tup (xs:List V)
 | dK (kvs:List (Key×V))|dT (kvs:List (List Key×V))
 | set (S:Int->Bool) (n:Nat)
 | ins (C dx:Addr) (fs:List (Str×V))
 | own (x:Addr)
 | xd (fs:List (Str×V))
 | met (f x:Addr)
 | rng (lo hi:Int)
 | frz (o:Obj) (u:HO)
 | tbl (ps:Array Value)
 | ext (φ:Heap->Prop)
abbrev Hp:=Addr->Option HO
def upd (H:Hp) (a:Addr) (o:HO):Hp:=fun b=>if b=a then some o else H b
theorem z0c {H:Hp} {a:Addr} {o:HO}:upd H a o a=some o:=by unfold upd;rw[if_pos rfl]
theorem z0d {H:Hp} {a b:Addr} {o:HO} (h:b≠a):upd H a o b=H b:=by unfold upd;rw[if_neg h]
theorem zy0 {H:Hp} {a b:Addr} {o u:HO} (h:H a=some o) (h':H b=some u) (d:o≠u):a≠b:=by
 intro e;subst e;rw[h] at h';exact d (y2n h')
theorem z0q {H:Hp} {a b:Addr} {o:HO} (h:H a=some o) (h':H b=none):a≠b:=by
 intro e;subst e;rw[h] at h';cases h'
section
variable (P:y0r) (w:World)
noncomputable def z6e (H:Hp) (h:Heap) (a:Addr):HO->Prop
 | .lst xs=>xs.length<=y0k/\∃(its:List Value) (n:Nat),Vals xs its/\h.get? a=some { cls:=.type "list",data:=.seq its.toArray n }
 | .tup xs=>xs.length<=y0k/\∃its:List Value,Vals xs its/\IsTup h a its.toArray
 | .dK kvs=>kvs.length<=y0k/\(a == sysModules)=false/\∃vs,KV kvs vs/\h.DictOf (z1u P w) a vs
 | .dT kvs=>kvs.length<=y0k/\(a == sysModules)=false/\∃xs:List (List Key×Addr×Value),
   Paired (fun (p:List Key×V) (q:List Key×Addr×Value)=>p.1=q.1/\H q.2.1=some (.tup (p.1.map kV))/\RelV p.2 q.2.2) kvs xs /\
   ∃o es ep,h.get? a=some o/\o.ExactDict/\o.data=.dict es ep/\es.toList=xs.map (entryOfKey (tupleKind (z1u P w)))/\(xs.map (·.1)).Nodup
 | .set S n=>h.SetOf (intKind P w) a S n
 | .ins C dx fs=>H dx=some (.own a)/\fs.length<=1000/\dx≠a/\h.get? a=some (y25 C dx) /\
   ∃mA,h.Ns1 dx mA/\(∀f,RelO (fs.lookup f) (mA f))/\PySem.Within mA (fs.map (·.1))
 | .own _=>∃o,h.get? a=some o
 | .xd fs=>∃mA,h.Ns1 a mA/\∀f,RelO (fs.lookup f) (mA f)
 | .rng lo hi=>∃t u v,h.get? a=some { cls:=.type "range",data:=.fields #[.int lo t,.int hi u,.int 1 v] }
 | .frz o u=>h.get? a=some o/\z6e H h a u
 | .tbl ps=>h.get? a=some { cls:=.none,data:=.fields ps }
 | .met f x=>h.get? a=some (PySem.W.methodObj (.ref f) (.ref x))
 | .ext φ=>φ h/\(∃o,h.get? a=some o)/\∀h1 h2:Heap,φ h1->(∀o,h1.get? a=some o->h2.get? a=some o)->φ h2
def HOk (H:Hp) (h:Heap):Prop:=∀a o,H a=some o->z6e P w H h a o
end
section
variable {P:y0r} {w:World} {H H':Hp} {h h':Heap} {a:Addr} {o:HO}
theorem z6e.lt (x:z6e P w H h a o):a<h.objs.size:=by
 cases o with
 | lst xs=>obtain⟨_,_,_,_,e⟩:=x;exact y0c e
 | tup xs=>obtain⟨_,_,_,p⟩:=x;exact p.lt
 | dK kvs=>obtain⟨_,_,_,_,o,_,_,e,_⟩:=x;exact y0c e
 | dT kvs=>obtain⟨_,_,_,_,o,_,_,e,_⟩:=x;exact y0c e
 | set S n=>obtain⟨o,_,_,_,e,_⟩:=x;exact y0c e
 | ins C dx fs=>obtain⟨_,_,_,e,_⟩:=x;exact y0c e
 | own y=>obtain⟨_,e⟩:=x;exact y0c e
 | xd fs=>obtain⟨_,⟨_,_,_,e,_⟩,_⟩:=x;exact y0c e
 | rng lo hi=>obtain⟨_,_,_,e⟩:=x;exact y0c e
 | frz ob u=>obtain⟨e,_⟩:=x;exact y0c e
 | tbl ps=>exact y0c (show h.get? a=some _ from x)
 | met f y=>exact y0c (show h.get? a=some _ from x)
 | ext φ=>obtain⟨_,⟨_,e⟩,_⟩:=x;exact y0c e
theorem Paired.mapP {α β:Type} {F G:α->β->Prop}:∀{l₁:List α} {l₂:List β},Paired F l₁ l₂->(∀a b,F a b->G a b)->Paired G l₁ l₂
 | _,_,.nil,_=>.nil
 | _,_,.cons r t,f=>.cons (f _ _ r) (Paired.mapP t f)
theorem z6e.stay (x:z6e P w H h a o) (k:∀b u,(b=a\/H b=some (.own a))->h.get? b=some u->h'.get? b=some u)
  (ho:∀b,H b=some (.own a)->H' b=some (.own a)) (ht:∀b xs,H b=some (.tup xs)->H' b=some (.tup xs)):z6e P w H' h' a o:=by
 induction o with
 | lst xs=>obtain⟨z,its,n,r,e⟩:=x;exact⟨z,its,n,r,k _ _ (.inl rfl) e⟩
 | tup xs=>obtain⟨z,its,r,ob,e,c⟩:=x;exact⟨z,its,r,ob,k _ _ (.inl rfl) e,c⟩
 | dK kvs=>obtain⟨z,y,vs,r,ob,es,ep,e,c⟩:=x;exact⟨z,y,vs,r,ob,es,ep,k _ _ (.inl rfl) e,c⟩
 | dT kvs =>
  obtain⟨z,y,xs,r,ob,es,ep,e,c⟩:=x
  exact⟨z,y,xs,Paired.mapP r fun p q z=>⟨z.1,ht _ _ z.2.1,z.2.2⟩,ob,es,ep,k _ _ (.inl rfl) e,c⟩
 | set S n=>obtain⟨ob,es,ep,t,e,c⟩:=x;exact⟨ob,es,ep,t,k _ _ (.inl rfl) e,c⟩
 | ins C dx fs =>
  obtain⟨d,z,ne,e,mA,⟨od,es,ep,e2,c⟩,r⟩:=x
  exact⟨ho _ d,z,ne,k _ _ (.inl rfl) e,mA,⟨od,es,ep,k _ _ (.inr d) e2,c⟩,r⟩
 | own y=>obtain⟨ob,e⟩:=x;exact⟨ob,k _ _ (.inl rfl) e⟩
 | xd fs=>obtain⟨mA,⟨od,es,ep,e,c⟩,r⟩:=x;exact⟨mA,⟨od,es,ep,k _ _ (.inl rfl) e,c⟩,r⟩
 | rng lo hi=>obtain⟨t,u,v,e⟩:=x;exact⟨t,u,v,k _ _ (.inl rfl) e⟩
 | frz ob u ih=>obtain⟨e,q⟩:=x;exact⟨k _ _ (.inl rfl) e,ih q⟩
 | tbl ps =>
  have e:h.get? a=some { cls:=.none,data:=.fields ps }:=x
  show h'.get? a=some { cls:=.none,data:=.fields ps }
  exact k a _ (.inl rfl) e
 | met f y =>
  have e:h.get? a=some (PySem.W.methodObj (.ref f) (.ref y)):=x
  show h'.get? a=some (PySem.W.methodObj (.ref f) (.ref y))
  exact k a _ (.inl rfl) e
 | ext φ=>obtain⟨p,⟨o,e⟩,st⟩:=x;exact⟨st _ _ p fun o q=>k _ _ (.inl rfl) q,⟨o,k _ _ (.inl rfl) e⟩,st⟩
theorem HOk.lt (x:HOk P w H h) (e:H a=some o):a<h.objs.size:=(x a o e).lt
theorem HOk.fresh (x:HOk P w H h) (e:h.objs.size<=a):H a=none:=by
 cases q:H a with
 | none=>rfl
 | some u=>exact absurd (y0y (x.lt q) e) (Nat.lt_irrefl _)
theorem HOk.kept (x:HOk P w H h) (k:∀b u,h.get? b=some u->h'.get? b=some u):HOk P w H h':=fun a o e =>
 (x a o e).stay (fun b u _ q=>k b u q) (fun _ q=>q) fun _ _ q=>q
theorem HOk.laid (x:HOk P w H h) (k:∀b u,h.get? b=some u->h'.get? b=some u) (hp:h.objs.size<=a) (new:z6e P w (upd H a o) h' a o):HOk P w (upd H a o) h':=fun b u e=>by
 have hn:=x.fresh hp
 by_cases hb:b=a
 ·subst hb;rw[z0c] at e;cases e;exact new
 ·rw[z0d hb] at e
  exact (x b u e).stay (fun c v _ q=>k c v q) (fun c q=>by rw[z0d (z0q q hn)];exact q) fun c xs q=>by rw[z0d (z0q q hn)];exact q
end
def Rd (H:Hp) (a:Addr) (u:HO):Prop:=H a=some u\/∃o,H a=some (.frz o u)
theorem Rd.ok {P:y0r} {w:World} {H:Hp} {h:Heap} {a:Addr} {u:HO} (r:Rd H a u) (x:HOk P w H h):z6e P w H h a u:=by
 rcases r with r|⟨o,r⟩
 ·exact x a u r
 ·obtain⟨_,q⟩:=x a _ r
  exact q
def Mut:Option HO->Prop
 | some (.lst _)=>True
 | some (.dK _)=>True
 | some (.dT _)=>True
 | some (.set _ _)=>True
 | some (.ins _ _ _)=>True
 | some (.ext _)=>True
 | _=>False
section
variable {P:y0r} {w:World} {H:Hp} {h h':Heap} {x e:Addr} {o':HO}
theorem HOk.write (ok:HOk P w H h) (mu:Mut (H x)) (he:e=x\/H e=some (.own x)) (k:∀b u,b≠e->h.get? b=some u->h'.get? b=some u) (heo:∃u,h'.get? e=some u)
  (new:z6e P w (upd H x o') h' x o'):HOk P w (upd H x o') h':=fun b u q=>by
 have nown:∀c y,H c=some (.own y)->c≠x:=fun c y r z=>by subst z;rw[r] at mu;exact mu
 have ntup:∀c xs,H c=some (.tup xs)->c≠x:=fun c xs r z=>by subst z;rw[r] at mu;exact mu
 by_cases hb:b=x
 ·subst hb;rw[z0c] at q;cases q;exact new
 ·rw[z0d hb] at q
  by_cases hbe:b=e
  ·have q':H b=some (.own x):=by
    rcases he with z|z
    ·exact absurd (hbe.trans z) hb
    ·rw[hbe];exact z
   rw[q] at q';cases q'
   obtain⟨v,hv⟩:=heo
   exact⟨v,by rw[hbe];exact hv⟩
  ·refine (ok b u q).stay (fun c v hc r=>k c v ?_ r) (fun c r=>by rw[z0d (nown c b r)];exact r) fun c xs r=>by rw[z0d (ntup c xs r)];exact r
   rcases hc with rfl|hc
   ·exact hbe
   ·rintro rfl
    rcases he with z|z
    ·exact nown c b hc z
    ·rw[hc] at z;cases z;exact hb rfl
end
structure Un (fs ex:List Addr) (H H':Hp) (h h':Heap):Prop where
 keep:∀b o,h.get? b=some o->H b=none->b∉fs->b∉ex->h'.get? b=some o
 slot:∀b o,h.get? b=some o->H b=none->b∈fs->b∉ex->∃sl,h'.get? b=some { o with slots:=sl }
 free:∀b o,h.get? b=some o->H b=none->b∉ex->H' b=none
 there:∀b o,h.get? b=some o->b∉ex->∃o',h'.get? b=some o'
 tups:∀b xs,H b=some (.tup xs)->H' b=some (.tup xs)
 frzs:∀b o u,H b=some (.frz o u)->H' b=some (.frz o u)
 tbls:∀b ps,H b=some (.tbl ps)->∃more,H' b=some (.tbl (ps++more))
section
variable {fs fs' ex ex':List Addr} {H H1 H2:Hp} {h h1 h2 h':Heap} {a x e:Addr} {o:HO}
theorem Un.any (u:Un fs ex H H1 h h1) {b:Addr} {ob:Obj} (q:h.get? b=some ob) (n:H b=none) (hx:b∉ex):∃sl,h1.get? b=some { ob with slots:=sl }:=by
 by_cases hb:b∈fs
 ·exact u.slot b ob q n hb hx
 ·exact⟨ob.slots,u.keep b ob q n hb hx⟩
theorem Un.kept (k:∀b u,h.get? b=some u->h'.get? b=some u):Un fs ex H H h h' :=
 ⟨fun b ob q _ _ _=>k b ob q,fun b ob q _ _ _=>⟨ob.slots,k b ob q⟩,fun _ _ _ n _=>n,fun b ob q _=>⟨ob,k b ob q⟩,fun _ _ q=>q,fun _ _ _ q=>q,fun _ ps q=>⟨#[],by rw[q];simp⟩⟩
theorem Un.refl:Un fs ex H H h h:=Un.kept fun _ _ q=>q
theorem Un.laid (k:∀b u,h.get? b=some u->h'.get? b=some u) (hp:h.objs.size<=a) (hn:H a=none):Un fs ex H (upd H a o) h h' where
 keep:=fun b u q _ _ _=>k b u q
 slot:=fun b u q _ _ _=>⟨u.slots,k b u q⟩
 free:=fun b u q n _=>by rw[z0d (y10 (y0y (y0c q) hp))];exact n
 there:=fun b u q _=>⟨u,k b u q⟩
 tups:=fun b xs q=>by rw[z0d (z0q q hn)];exact q
 frzs:=fun b u xs q=>by rw[z0d (z0q q hn)];exact q
 tbls:=fun b ps q=>⟨#[],by rw[z0d (z0q q hn),q];simp⟩
theorem Un.write (mu:Mut (H x)) (he:e=x\/H e=some (.own x)) (k:∀b u,b≠e->h.get? b=some u->h'.get? b=some u) (heo:∃u,h'.get? e=some u):Un fs ex H (upd H x o) h h':=by
 have hx:∀b,H b=none->b≠x:=fun b n z=>by subst z;rw[n] at mu;exact mu
 have hb:∀b,H b=none->b≠e:=fun b n z=>by
  subst z
  rcases he with r|r
  ·exact hx b n r
  ·rw[n] at r;cases r
 have hm:∀b u,H b=some u->¬Mut (some u)->b≠x:=fun b u q nm z=>by subst z;rw[q] at mu;exact nm mu
 refine⟨fun b u q n _ _=>k b u (hb b n) q,fun b u q n _ _=>⟨u.slots,k b u (hb b n) q⟩,fun b u q n _=>by rw[z0d (hx b n)];exact n,fun b u q _=>?_,
  fun b xs q=>by rw[z0d (hm b _ q fun z=>z)];exact q,fun b u xs q=>by rw[z0d (hm b _ q fun z=>z)];exact q,fun b ps q=>⟨#[],by rw[z0d (hm b _ q fun z=>z),q];simp⟩⟩
 by_cases hbe:b=e
 ·subst hbe;exact heo
 ·exact⟨u,k b u hbe q⟩
end
def trk (h:Heap) (H:Hp):List Addr:=(List.range h.objs.size).filter fun a=>(H a).isSome
def hidT (h:Heap) (H:Hp):Heap:=PySem.W.hideAll h (trk h H)
theorem zpd (h:Heap) (H:Hp):(hidT h H).objs.size=h.objs.size:=PySem.W.hideAll_size _ _
theorem zro {h:Heap} {H:Hp} {b:Addr} {o:Obj} (e:h.get? b=some o) (n:H b=none):(hidT h H).get? b=some o :=
 PySem.W.hideAll_get _ e fun hm=>by
  have q:(H b).isSome=true:=(List.mem_filter.mp hm).2
  rw[n] at q;simp at q
theorem zub {h:Heap} {H:Hp} {b:Addr} {o:Obj} (e:(hidT h H).get? b=some o):h.get? b=some o/\H b=none:=by
 have e':h.get? b=some o:=PySem.W.of_hideAll (trk h H) e
 refine⟨e',?_⟩
 cases q:H b with
 | none=>rfl
 | some x =>
  have hm:b∈trk h H:=List.mem_filter.mpr ⟨List.mem_range.mpr (y0c e'),by simp[q]⟩
  have z:(hidT h H).get? b=none:=PySem.W.hideAll_none (trk h H) hm
  rw[z] at e;cases e
def zv7 (g h:Heap) (L:Addr):List (Addr×Obj):=(List.range h.objs.size).filterMap fun a=>if a=L\/(g.get? a).isSome=true then none else (h.get? a).map fun o=>(a,o)
def rest (g h:Heap) (L d:Addr):List (Addr×Obj):=(zv7 g h L).filter fun p=>decide (p.1≠d)
end L2
namespace L2
open PySem PySem.Spec PyProof.Rows
structure Mod (K:y00) (mg:Str->Option Value) (base:Heap):Prop where
 kin:K.In base
 glob:base.Ns y0o mg
 blt:∃mb,base.Ns builtinsNs mb/\∀x:Str,x≠"__name__"->mb x=bootBuiltins x
 nolimit:base.NoLimit
structure Cx where
 prog:y0r
 w:World
 K:y00
 mg:Str->Option Value
 base:Heap
 A:Around
 N:List Str
 s₀:y04
 H₀:Hp
 env:Env
 outer:List Env
 stack:List Env
 ex:List Addr
 fn:Str->Bool
 calm:Bool
 pn:List (Addr×Obj)
 xe:Value->y04->Prop
def frs (l:List Env):List Addr:=l.filterMap (·.frame)
abbrev Cx.fs (X:Cx):List Addr:=frs X.outer
def Vis (sc:Scope) (x:Str):Prop:=sc.names.lookup x=some .local\/sc.names.lookup x=some .cell\/sc.names.lookup x=some .free
def Loc (sc:Scope) (x:Str):Prop:=sc.names.lookup x=some .local\/sc.names.lookup x=some .cell
noncomputable def Look (env:Env) (h:Heap) (m:Str->Option Value) (x:Str) (u:Value):Prop :=
 (env.kindOf x=some .local/\m x=some u)\/((env.kindOf x=some .cell\/env.kindOf x=some .free)/\∃c,env.cells.lookup x=some c/\h.IsCell c (some u))
structure Cx.Ok (X:Cx):Prop where
 mod:Mod X.K X.mg X.base
 kind:X.env.scope.kind=.function
 glob:X.env.globals=y0o
 blt:X.env.builtins=builtinsNs
 above:X.s₀.heap.objs.size<=X.env.locals
 inj:∀x y c,X.env.cells.lookup x=some c->X.env.cells.lookup y=some c->x=y
 has:∀x,(X.env.kindOf x=some .cell\/X.env.kindOf x=some .free)->∃c,X.env.cells.lookup x=some c
 cab:∀x c,X.fn x=true->X.env.cells.lookup x=some c->X.s₀.heap.objs.size<=c
 hd:X.calm=true->X.A.handled=none
 frames:X.A.frames=some X.stack
 stk:X.stack=X.outer\/(X.stack=X.env::X.outer/\X.env.frame=some X.env.locals)
 exf:∀b∈X.ex,b≠X.env.locals/\∀x c,X.env.cells.lookup x=some c->c≠b
 bs:∀b o,X.base.get? b=some o->X.s₀.heap.get? b=some o/\X.H₀ b=none
 bsz:X.base.objs.size<=X.s₀.heap.objs.size
 noex:∀b o,X.base.get? b=some o->b∉X.ex
 exfs:∀b∈X.ex,b∉X.fs
 funs:X.s₀.heap.FunFrames X.base X.outer
 frf:∀b∈X.fs,X.H₀ b=none
structure Inv (X:Cx) (pins:List (Addr×Obj)) (σ:List (Option V)) (H:Hp) (s:y04):Prop where
 ok:X.Ok
 os:s.os=X.s₀.os
 bare:AllBare s.gens
 base:Un X.fs X.ex X.H₀ H X.s₀.heap s.heap
 loc:∃m,s.heap.Ns X.env.locals m/\∀(i:Nat) (x:Str) (v:V),X.N[i]?=some x->σ[i]?=some (some v)->Vis X.env.scope x->∃u,RelV v u/\Look X.env s.heap m x u
 cell:∀x c,X.env.cells.lookup x=some c->∃v,s.heap.IsCell c v
 free:H X.env.locals=none
 freeC:∀x c,X.env.cells.lookup x=some c->H c=none
 pin:∀p∈X.pn++pins,s.heap.get? p.1=some p.2/\H p.1=none/\p.1≠X.env.locals/\p.1∉X.fs/\∀v,p.2.data≠.cell v
 hok:HOk X.prog X.w H s.heap
 len:σ.length=X.N.length
section
variable {X:Cx} {pins:List (Addr×Obj)} {σ:List (Option V)} {H H':Hp} {s:y04} {h':Heap}
theorem Cx.Ok.nofr (ok:X.Ok) {b:Addr} {o:Obj} (e:X.base.get? b=some o):b∉X.fs:=fun hb=>by
 have:=(ok.funs.mem hb).1
 rw[e] at this;cases this
theorem Inv.bs (I:Inv X pins σ H s):∀b o,X.base.get? b=some o->s.heap.get? b=some o/\H b=none:=fun b o e =>
 ⟨I.base.keep b o (I.ok.bs b o e).1 (I.ok.bs b o e).2 (I.ok.nofr e) (I.ok.noex b o e),I.base.free b o (I.ok.bs b o e).1 (I.ok.bs b o e).2 (I.ok.noex b o e)⟩
theorem Inv.bk (I:Inv X pins σ H s):∀b o,X.base.get? b=some o->s.heap.get? b=some o:=fun b o e=>(I.bs b o e).1
theorem Inv.mod (I:Inv X pins σ H s):Mod X.K X.mg X.base:=I.ok.mod
theorem Inv.kIn (I:Inv X pins σ H s):X.K.In s.heap:=I.ok.mod.kin.keeps I.bk
theorem Inv.lt (I:Inv X pins σ H s):X.env.locals<s.heap.objs.size:=let ⟨_,hn,_⟩:=I.loc;hn.lt
theorem Inv.sz (I:Inv X pins σ H s):X.s₀.heap.objs.size<=s.heap.objs.size:=y1u I.ok.above (Nat.le_of_lt I.lt)
theorem Inv.nofs (I:Inv X pins σ H s) {a:Addr} (h:s.heap.objs.size<=a):a∉X.fs:=fun hb=>by
 obtain⟨_,o,ho,_⟩:=I.ok.funs.mem hb
 exact absurd (y0y (y0c ho) (y1u I.sz h)) (Nat.lt_irrefl _)
theorem Inv.cne (I:Inv X pins σ H s):∀x c,X.env.cells.lookup x=some c->c≠X.env.locals:=fun x c e z=>by
 obtain⟨v,o,ho,hd⟩:=I.cell x c e
 obtain⟨m,⟨o',es,ep,ho',hd',_⟩,_⟩:=I.loc
 rw[z,ho'] at ho;cases ho;rw[hd'] at hd;cases hd
theorem Inv.funs (I:Inv X pins σ H s):s.heap.FunFrames X.base X.outer:=by
 have all:∀(l:List Env),(∀b∈frs l,b∈X.fs)->X.s₀.heap.FunFrames X.base l->s.heap.FunFrames X.base l:=by
  intro l
  induction l with
  | nil=>intro _ _;trivial
  | cons env r ih =>
   intro hs hl
   obtain⟨hk,⟨L,o,hf,hn,ho,hd⟩,hr⟩:=hl
   have hL:L∈X.fs:=hs L (by unfold frs;rw[List.filterMap_cons,hf];exact y0f)
   obtain⟨sl,e⟩:=I.base.slot L o ho (I.ok.frf L hL) hL fun z=>I.ok.exfs L z hL
   exact⟨hk,⟨L,_,hf,hn,e,hd⟩,ih (fun b hb=>hs b (by unfold frs;rw[List.filterMap_cons,hf];exact y05 _ hb)) hr⟩
 exact all X.outer (fun _ hb=>hb) I.ok.funs
theorem Inv.stack (I:Inv X pins σ H s):s.heap.FunFrames X.base X.stack:=by
 rcases I.ok.stk with e|⟨e,hf⟩
 ·rw[e];exact I.funs
 ·rw[e]
  obtain⟨m,hn,_⟩:=I.loc
  refine .cons (by rw[I.ok.kind];decide) hf hn ?_ I.funs
  exact Heap.get?_none_of_le (y1u I.ok.bsz I.ok.above)
theorem Inv.stkSub (I:Inv X pins σ H s):∀b∈frs X.stack,b∈X.env.locals::X.fs:=fun b hb=>by
 rcases I.ok.stk with e|⟨e,hf⟩
 ·rw[e] at hb;exact y05 _ hb
 ·rw[e] at hb
  unfold frs at hb
  rw[List.filterMap_cons,hf] at hb
  exact hb
theorem Inv.stkFree (I:Inv X pins σ H s):∀b∈frs X.stack,H b=none:=fun b hb=>by
 rcases y09.mp (I.stkSub b hb) with e|hb
 ·rw[e];exact I.free
 ·obtain⟨_,o,ho,_⟩:=I.ok.funs.mem hb
  exact I.base.free b o ho (I.ok.frf b hb) fun z=>I.ok.exfs b z hb
theorem Inv.step {g':Array GenState} {t':Nat} {d':Drawn} {ch:List Addr} (I:Inv X pins σ H s)
  (hch:∀b∈ch,(b∈X.ex\/X.s₀.heap.objs.size<=b)/\b≠X.env.locals/\(∀x c,X.env.cells.lookup x=some c->c≠b)/\∀p∈X.pn++pins,p.1≠b)
  (keep:∀b o,b≠X.env.locals->b∉X.fs->b∉ch->s.heap.get? b=some o->H b=none->h'.get? b=some o)
  (slot:∀b o,b≠X.env.locals->b∈X.fs->b∉ch->s.heap.get? b=some o->H b=none->∃sl,h'.get? b=some { o with slots:=sl }) (free:∀b o,b∉ch->s.heap.get? b=some o->H b=none->H' b=none)
  (there:∀b o,b∉ch->s.heap.get? b=some o->∃o',h'.get? b=some o')
  (tups:∀b xs,H b=some (.tup xs)->H' b=some (.tup xs)) (frzs:∀b o u,H b=some (.frz o u)->H' b=some (.frz o u)) (tbls:∀b ps,H b=some (.tbl ps)->∃more,H' b=some (.tbl (ps++more)))
  (ns:∀m,s.heap.Ns X.env.locals m->h'.Ns X.env.locals m) (hok:HOk X.prog X.w H' h') (hg:AllBare g') :
  Inv X pins σ H' { s with heap:=h',gens:=g',drawn:=d',toks:=t' }:=by
 have neL:∀b o,X.s₀.heap.get? b=some o->b≠X.env.locals:=fun b o e=>y10 (y0y (y0c e) I.ok.above)
 have neC:∀b o,X.s₀.heap.get? b=some o->b∉X.ex->b∉ch:=fun b o e hx hb=>by
  rcases (hch b hb).1 with z|z
  ·exact hx z
  ·exact absurd (y0y (y0c e) z) (Nat.lt_irrefl _)
 have cellK:∀x c,X.env.cells.lookup x=some c->∀v,s.heap.IsCell c v->h'.IsCell c v:=fun x c e v ⟨o,ho,hd⟩=>by
  have nch:c∉ch:=fun z=>(hch c z).2.2.1 x c e rfl
  by_cases hc:c∈X.fs
  ·obtain⟨sl,q⟩:=slot c o (I.cne x c e) hc nch ho (I.freeC x c e)
   exact⟨_,q,hd⟩
  ·exact⟨o,keep c o (I.cne x c e) hc nch ho (I.freeC x c e),hd⟩
 refine⟨I.ok,I.os,hg,⟨fun b o e n hb hx=>?_,fun b o e n hb hx=>?_,fun b o e n hx=>?_,fun b o e hx=>?_,fun b xs e=>tups b xs (I.base.tups b xs e),fun b o xs e=>frzs b o xs (I.base.frzs b o xs e),fun b ps e=>?_⟩,?_,fun x c e=>?_,?_,fun x c e=>?_,fun p hp=>?_,hok,I.len⟩
 ·exact keep b o (neL b o e) hb (neC b o e hx) (I.base.keep b o e n hb hx) (I.base.free b o e n hx)
 ·obtain⟨sl,e1⟩:=I.base.slot b o e n hb hx
  obtain⟨sl',e2⟩:=slot b _ (neL b o e) hb (neC b o e hx) e1 (I.base.free b o e n hx)
  exact⟨sl',e2⟩
 ·obtain⟨o',e1⟩:=I.base.there b o e hx
  exact free b o' (neC b o e hx) e1 (I.base.free b o e n hx)
 ·obtain⟨o',e1⟩:=I.base.there b o e hx
  exact there b o' (neC b o e hx) e1
 ·obtain⟨m1,e1⟩:=I.base.tbls b ps e
  obtain⟨m2,e2⟩:=tbls b _ e1
  exact⟨m1++m2,by rw[e2,Array.append_assoc]⟩
 ·obtain⟨m,hn,hl⟩:=I.loc
  refine⟨m,ns m hn,fun i x v e1 e2 e3=>?_⟩
  obtain⟨u,r,l⟩:=hl i x v e1 e2 e3
  refine⟨u,r,?_⟩
  rcases l with l|⟨k,c,e,z⟩
  ·exact .inl l
  ·exact .inr ⟨k,c,e,cellK x c e _ z⟩
 ·obtain⟨v,z⟩:=I.cell x c e
  exact⟨v,cellK x c e v z⟩
 ·obtain⟨m,⟨o,_,_,ho,_⟩,_⟩:=I.loc
  exact free _ o (fun z=>(hch _ z).2.1 rfl) ho I.free
 ·obtain⟨v,o,ho,hd⟩:=I.cell x c e
  exact free c o (fun z=>(hch c z).2.2.1 x c e rfl) ho (I.freeC x c e)
 ·obtain⟨e,n,ne,nf,d⟩:=I.pin p hp
  have nch:p.1∉ch:=fun z=>(hch p.1 z).2.2.2 p hp rfl
  exact⟨keep p.1 p.2 ne nf nch e n,free p.1 p.2 nch e n,ne,nf,d⟩
theorem Inv.un {t':Nat} (I:Inv X pins σ H s) (u:Un X.fs [] H H' s.heap h') (hok:HOk X.prog X.w H' h'):Inv X pins σ H' { s with heap:=h',toks:=t' }:=by
 obtain⟨m,⟨o,es,ep,ho,r⟩,_⟩:=id I.loc
 obtain⟨sl,hL⟩:=u.any ho I.free (by simp)
 exact I.step (g':=s.gens) (d':=s.drawn) (ch:=[]) (fun _ z=>nomatch z) (fun b o _ hb _ e n=>u.keep b o e n hb (by simp)) (fun b o _ hb _ e n=>u.slot b o e n hb (by simp)) (fun b o _ e n=>u.free b o e n (by simp)) (fun b o _ e=>u.there b o e (by simp)) u.tups u.frzs u.tbls (fun m' hm=>by
  obtain⟨o',es',ep',ho',r'⟩:=hm
  rw[ho] at ho';cases ho'
  exact⟨_,es',ep',hL,r'⟩) hok I.bare
theorem Inv.call {g':Array GenState} {t':Nat} {d':Drawn} {ch:List Addr} (I:Inv X pins σ H s) (u:Un (frs X.stack) ch H H' s.heap h') (hok:HOk X.prog X.w H' h') (hg:AllBare g')
  (hch:∀b∈ch,(b∈X.ex\/X.s₀.heap.objs.size<=b)/\b≠X.env.locals/\(∀x c,X.env.cells.lookup x=some c->c≠b)/\∀p∈X.pn++pins,p.1≠b) :
  Inv X pins σ H' { s with heap:=h',gens:=g',drawn:=d',toks:=t' }:=by
 obtain⟨m,⟨o,es,ep,ho,r⟩,_⟩:=id I.loc
 obtain⟨sl,hL⟩:=u.any ho I.free fun z=>(hch _ z).2.1 rfl
 exact I.step (ch:=ch) hch (fun b o hL hb hc e n=>u.keep b o e n (fun z=>(y09.mp (I.stkSub b z)).elim hL hb) hc) (fun b o _ _ hc e n=>u.any e n hc) (fun b o hc e n=>u.free b o e n hc) (fun b o hc e=>u.there b o e hc) u.tups u.frzs u.tbls (fun m' hm=>by
  obtain⟨o',es',ep',ho',r'⟩:=hm
  rw[ho] at ho';cases ho'
  exact⟨_,es',ep',hL,r'⟩) hok hg
theorem Inv.turned {t':Nat} {it:Addr} (I:Inv X pins σ H s) (k:∀b o,b≠it->s.heap.get? b=some o->h'.get? b=some o) (hn:H it=none) (hL:it≠X.env.locals)
  (h1:it∈X.ex\/X.s₀.heap.objs.size<=it) (h2:∀x c,X.env.cells.lookup x=some c->c≠it) (h3:∀p∈X.pn++pins,p.1≠it):Inv X pins σ H { s with heap:=h',toks:=t' }:=by
 have nit:∀b u,H b=some u->b≠it:=fun b u e z=>by rw[z,hn] at e;cases e
 refine I.step (g':=s.gens) (d':=s.drawn) (ch:=[it]) (fun b hb=>?_) (fun b o _ _ hc e _=>k b o (fun z=>hc (by simp[z])) e) (fun b o _ _ hc e _=>⟨o.slots,k b o (fun z=>hc (by simp[z])) e⟩) (fun _ _ _ _ n=>n)
  (fun b o hc e=>⟨o,k b o (fun z=>hc (by simp[z])) e⟩) (fun _ _ e=>e) (fun _ _ _ e=>e) (fun b ps e=>⟨#[],by rw[e];simp⟩) (fun m hm=>?_) (fun b u e=>?_) I.bare
 ·have e:b=it:=by simpa using hb
  subst e
  exact⟨h1,hL,h2,h3⟩
 ·obtain⟨o,es,ep,ho,r⟩:=hm
  exact⟨o,es,ep,k _ o (Ne.symm hL) ho,r⟩
 ·refine (I.hok b u e).stay (fun c v hc q=>k c v ?_ q) (fun _ q=>q) fun _ _ q=>q
  rcases hc with z|z
  ·rw[z];exact nit b u e
  ·exact nit c _ z
theorem Inv.tok (I:Inv X pins σ H s) (t:Nat):Inv X pins σ H { s with toks:=t }:=I.un (h':=s.heap) (t':=t) Un.refl I.hok
theorem Inv.kept {t':Nat} (I:Inv X pins σ H s) (k:∀b u,s.heap.get? b=some u->h'.get? b=some u):Inv X pins σ H { s with heap:=h',toks:=t' }:=I.un (Un.kept k) (I.hok.kept k)
theorem Inv.laid {a:Addr} {o:HO} {t':Nat} (I:Inv X pins σ H s) (k:∀b u,s.heap.get? b=some u->h'.get? b=some u) (hp:s.heap.objs.size<=a) (new:z6e X.prog X.w (upd H a o) h' a o) :
  Inv X pins σ (upd H a o) { s with heap:=h',toks:=t' }:=I.un (Un.laid k hp (I.hok.fresh hp)) (I.hok.laid k hp new)
theorem Inv.write {x e:Addr} {o:HO} {t':Nat} (I:Inv X pins σ H s) (mu:Mut (H x)) (he:e=x\/H e=some (.own x)) (k:∀b u,b≠e->s.heap.get? b=some u->h'.get? b=some u) (heo:∃u,h'.get? e=some u)
  (new:z6e X.prog X.w (upd H x o) h' x o):Inv X pins σ (upd H x o) { s with heap:=h',toks:=t' }:=I.un (Un.write mu he k heo) (I.hok.write mu he k heo new)
theorem Inv.pins_of {pins':List (Addr×Obj)} (I:Inv X pins σ H s) (h:∀p∈pins',s.heap.get? p.1=some p.2/\H p.1=none/\p.1≠X.env.locals/\p.1∉X.fs/\∀v,p.2.data≠.cell v):Inv X pins' σ H s :=
 ⟨I.ok,I.os,I.bare,I.base,I.loc,I.cell,I.free,I.freeC,fun p hp=>(y13.mp hp).elim (fun z=>I.pin p (List.mem_append_left _ z)) (h p),I.hok,I.len⟩
theorem zlk {N:List Str} (hN:N.Nodup) {i j:Nat} {x:Str} (a:N[i]?=some x) (b:N[j]?=some x):i=j:=by
 obtain⟨h1,e1⟩:=y0l.mp a
 obtain⟨h2,e2⟩:=y0l.mp b
 exact (List.getElem_inj hN).mp (e1.trans e2.symm)
theorem zh5 {M:Model} {A:Around} {E:Value->y04->Prop} {i:Nat} {x:Str} {v:V} {u:Value} {Q:Unit->y04->Prop} (I:Inv X pins σ H s) (hN:X.N.Nodup) (hi:X.N[i]?=some x) (hx:Loc X.env.scope x) (r:RelV v u)
  (h:∀s',Inv X pins (σ.set i (some v)) H s'->(∃a,Heap.SameBut a s.heap s'.heap/\(a=X.env.locals\/X.env.cells.lookup x=some a))->Q () s') (hf:X.fn x=true\/X.env.scope.names.lookup x=some .local:=by first|exact .inl rfl|exact .inr rfl|assumption):y0v M A (storeName X.env x u) Q E s:=by
 obtain⟨m,hn,hl⟩:=id I.loc
 have hcls:(X.env.scope.kind == .class || (X.env.scope.kind == .module && X.env.locals != X.env.globals))=false:=by rw[I.ok.kind];rfl
 have hiσ:i<σ.length:=by rw[I.len];exact (y0l.mp hi).1
 have cne:=I.cne
 have tracked:∀{a:Addr} {h':Heap},(∃o,s.heap.get? a=some o/\H a=none)->Heap.SameBut a s.heap h'->HOk X.prog X.w H h':=fun {a h'} ha hs b ob e=>by
  obtain⟨_,_,hfree⟩:=ha
  refine (I.hok b ob e).stay (fun c w' hc q=>(hs.2 c ?_).trans q) (fun _ q=>q) fun _ _ q=>q
  rintro rfl
  rcases hc with rfl|hc
  ·rw[hfree] at e;cases e
  ·rw[hfree] at hc;cases hc
 rcases hx with hk|hk
 ·refine wpAny_storeName_local hk hn (fun h' hn' hs=>?_) hcls
  obtain⟨oL,_,_,hoL,_⟩:=id hn
  refine h _ ⟨I.ok,I.os,I.bare,⟨fun b o e n hb hx=>?_,fun b o e n hb hx=>?_,I.base.free,fun b o e hx=>?_,I.base.tups,I.base.frzs,I.base.tbls⟩,⟨_,hn',fun j y v' e1 e2 e3=>?_⟩,fun y c e=>?_,I.free,I.freeC,fun p hp=>?_,tracked ⟨oL,hoL,I.free⟩ hs,by simpa using I.len⟩ ⟨_,hs,.inl rfl⟩
  ·exact (hs.2 b (y10 (y0y (y0c e) I.ok.above))).trans (I.base.keep b o e n hb hx)
  ·obtain⟨sl,e1⟩:=I.base.slot b o e n hb hx
   exact⟨sl,(hs.2 b (y10 (y0y (y0c e) I.ok.above))).trans e1⟩
  ·obtain⟨o',e1⟩:=I.base.there b o e hx
   exact⟨o',(hs.2 b (y10 (y0y (y0c e) I.ok.above))).trans e1⟩
  ·by_cases hj:j=i
   ·subst hj
    rw[hi] at e1;cases e1
    rw[List.getElem?_set_self hiσ] at e2
    cases e2
    exact⟨u,r,.inl ⟨hk,by simp⟩⟩
   ·rw[List.getElem?_set_ne (Ne.symm hj)] at e2
    obtain⟨u',r',q⟩:=hl j y v' e1 e2 e3
    refine⟨u',r',?_⟩
    rcases q with ⟨k,e⟩|⟨k,c,e,z⟩
    ·refine .inl ⟨k,?_⟩
     have:y≠x:=fun e=>hj (zlk hN e1 (e▸hi))
     simp[this,e]
    ·exact .inr ⟨k,c,e,z.sameBut hs (cne y c e)⟩
  ·obtain⟨w',z⟩:=I.cell y c e
   exact⟨w',z.sameBut hs (cne y c e)⟩
  ·obtain⟨e,n,ne,nf,d⟩:=I.pin p hp
   exact⟨(hs.2 p.1 ne).trans e,n,ne,nf,d⟩
 ·have hfn:X.fn x=true:=by
   rcases hf with z|z
   ·exact z
   ·rw[z] at hk;cases hk
  obtain⟨c,hc⟩:=I.ok.has x (.inl hk)
  obtain⟨w',z⟩:=I.cell x c hc
  refine wpAny_storeName_cell I.ok.kind hk hc z (fun h' hc' hs=>?_)
  obtain⟨oc,hoc,hocd⟩:=id z
  refine h { s with heap:=h' } ⟨I.ok,I.os,I.bare,⟨fun b o e n hb hx=>?_,fun b o e n hb hx=>?_,I.base.free,fun b o e hx=>?_,I.base.tups,I.base.frzs,I.base.tbls⟩,⟨m,hn.sameBut hs (Ne.symm (cne x c hc)),fun j y v' e1 e2 e3=>?_⟩,fun y c' e=>?_,I.free,I.freeC,fun p hp=>?_,tracked ⟨oc,hoc,I.freeC x c hc⟩ hs,by simpa using I.len⟩ ⟨c,hs,.inr hc⟩
  ·exact (hs.2 b (y10 (y0y (y0c e) (I.ok.cab x c hfn hc)))).trans (I.base.keep b o e n hb hx)
  ·obtain⟨sl,e1⟩:=I.base.slot b o e n hb hx
   exact⟨sl,(hs.2 b (y10 (y0y (y0c e) (I.ok.cab x c hfn hc)))).trans e1⟩
  ·obtain⟨o',e1⟩:=I.base.there b o e hx
   exact⟨o',(hs.2 b (y10 (y0y (y0c e) (I.ok.cab x c hfn hc)))).trans e1⟩
  ·by_cases hj:j=i
   ·subst hj
    rw[hi] at e1;cases e1
    rw[List.getElem?_set_self hiσ] at e2
    cases e2
    exact⟨u,r,.inr ⟨.inl hk,c,hc,hc'⟩⟩
   ·rw[List.getElem?_set_ne (Ne.symm hj)] at e2
    obtain⟨u',r',q⟩:=hl j y v' e1 e2 e3
    refine⟨u',r',?_⟩
    rcases q with q|⟨k,c',e,z'⟩
    ·exact .inl q
    ·refine .inr ⟨k,c',e,z'.sameBut hs ?_⟩
     rintro rfl
     exact hj (zlk hN e1 (I.ok.inj _ _ _ e hc▸hi))
  ·by_cases hcc:c'=c
   ·subst hcc;exact⟨_,hc'⟩
   ·obtain⟨w2,z2⟩:=I.cell y c' e
    exact⟨w2,z2.sameBut hs hcc⟩
  ·obtain⟨e,n,ne,nf,d⟩:=I.pin p hp
   refine⟨(hs.2 p.1 ?_).trans e,n,ne,nf,d⟩
   intro q
   rw[q,hoc] at e
   have q':oc=p.2:=y2n e
   exact d w' (by rw[<- q'];exact hocd)
theorem zl0 {M:Model} {A:Around} {E:Value->y04->Prop} {i:Nat} {x:Str} {v:V} {u:Value} {Q:Unit->y04->Prop} (I:Inv X pins σ H s) (hN:X.N.Nodup) (hi:X.N[i]?=some x) (hx:Loc X.env.scope x) (r:RelV v u)
  (h:∀s',Inv X pins (σ.set i (some v)) H s'->Q () s') (hf:X.fn x=true\/X.env.scope.names.lookup x=some .local:=by first|exact .inl rfl|exact .inr rfl|assumption):y0v M A (storeName X.env x u) Q E s :=
 zh5 I hN hi hx r (fun s' I' _=>h s' I') hf
end
abbrev XK:=Value->Option Addr->Hp->Prop
abbrev St:=List (Option V)
abbrev VK:=V->Hp->Prop
abbrev TE:=St->Hp->VK->Prop
abbrev TT:=St->Hp->(Bool->Hp->Prop)->Prop
abbrev TA:=St->Hp->(List V->Hp->Prop)->Prop
structure Ends where
 nx:St->Hp->Prop
 rt:VK
 bk:St->Hp->Prop:=fun _ _=>False
 ct:St->Hp->Prop:=fun _ _=>False
abbrev TS:=Ends->St->Hp->Prop
def EP (X:Cx) (pins:List (Addr×Obj)) (σ:St) (Q:VK) (u:Value) (s':y04):Prop:=∃v H',Inv X pins σ H' s'/\RelV v u/\Q v H'
def TP (X:Cx) (pins:List (Addr×Obj)) (σ:St) (Q:Bool->Hp->Prop) (b:Bool) (s':y04):Prop:=∃H',Inv X pins σ H' s'/\Q b H'
def AP (X:Cx) (pins:List (Addr×Obj)) (σ:St) (Q:List V->Hp->Prop) (us:List Value) (s':y04):Prop:=∃vs H',Inv X pins σ H' s'/\Vals vs us/\Q vs H'
noncomputable def SP (X:Cx) (pins:List (Addr×Obj)) (D:Ends) (f:Flow) (s':y04):Prop :=
 match f with
 | .next=>∃σ' H',Inv X pins σ' H' s'/\D.nx σ' H'
 | .brk=>∃σ' H',Inv X pins σ' H' s'/\D.bk σ' H'
 | .cont=>∃σ' H',Inv X pins σ' H' s'/\D.ct σ' H'
 | .ret u=>∃v σ' H',Inv X pins σ' H' s'/\RelV v u/\D.rt v H'
noncomputable def PE (X:Cx) (e:Expr) (t:TE):Prop :=
 ∀(pins:List (Addr×Obj)) (s:y04) (σ:St) (H:Hp) (Q:VK),Inv X pins σ H s->t σ H Q->y0v (model X.prog X.w) X.A (eval e X.env) (EP X pins σ Q) X.xe s
noncomputable def PT (X:Cx) (e:Expr) (t:TT):Prop :=
 ∀(pins:List (Addr×Obj)) (s:y04) (σ:St) (H:Hp) (Q:Bool->Hp->Prop),Inv X pins σ H s->t σ H Q->y0v (model X.prog X.w) X.A (isTrue e X.env (eval e X.env)) (TP X pins σ Q) X.xe s
noncomputable def PW (X:Cx) (e:Expr) (t:TT):Prop :=
 ∀(whole:Sem Value) (pins:List (Addr×Obj)) (s:y04) (σ:St) (H:Hp) (Q:Bool->Hp->Prop),Inv X pins σ H s->t σ H Q->y0v (model X.prog X.w) X.A (isTrue e X.env whole) (TP X pins σ Q) X.xe s
theorem PW.pt {X:Cx} {e:Expr} {t:TT} (h:PW X e t):PT X e t:=h _
noncomputable def PA (X:Cx) (es:List Expr) (t:TA):Prop :=
 ∀(pos:Pos) (pins:List (Addr×Obj)) (s:y04) (σ:St) (H:Hp) (Q:List V->Hp->Prop),Inv X pins σ H s->t σ H Q->y0v (model X.prog X.w) X.A (spliced (backTo pos (y0a es X.env))) (AP X pins σ Q) X.xe s
noncomputable def PS (X:Cx) (st:Stmt) (t:TS):Prop :=
 ∀(pins:List (Addr×Obj)) (s:y04) (σ:St) (H:Hp) (D:Ends),Inv X pins σ H s->t D σ H->y0v (model X.prog X.w) X.A (exec st X.env) (SP X pins D) X.xe s
noncomputable def PSs (X:Cx) (st:List Stmt) (t:TS):Prop :=
 ∀(pins:List (Addr×Obj)) (s:y04) (σ:St) (H:Hp) (D:Ends),Inv X pins σ H s->t D σ H->y0v (model X.prog X.w) X.A (execs st X.env) (SP X pins D) X.xe s
theorem thn {α:Type} {t:Sem α} {Q Q':α->y04->Prop} {M:Model} {A:Around} {E:Value->y04->Prop} {s:y04} (h:y0v M A t Q E s) (hQ:∀a s,Q a s->Q' a s):y0v M A t Q' E s:=y1g h hQ fun _ _ x=>x
end L2
namespace L2
open PySem PySem.Spec PyProof.Rows
section
variable {X:Cx}
def tVar (i:Nat):TE:=fun σ H Q=>∃v,σ[i]?=some (some v)/\Q v H
def tC (v:V):TE:=fun _ H Q=>Q v H
theorem zw8 {i:Nat} {x:Str} {pos:Pos} (hN:X.N[i]?=some x) (hv:Vis X.env.scope x) (hd:(x == ("__debug__":Str))=false:=by decide) (hcd:(x == ("__classdict__":Str))=false:=by decide):PE X (.Name x pos) (tVar i):=by
 intro pins s σ H Q I h
 obtain⟨v,e,h⟩:=h
 obtain⟨m,hn,hl⟩:=I.loc
 obtain⟨u,r,l⟩:=hl i x v hN e hv
 have fin:EP X pins σ Q u s:=⟨v,H,I,r,h⟩
 rcases l with ⟨hk,hm⟩|⟨hk,c,hc,hcell⟩
 ·exact wpAny_Name (wpAny_loadName_local I.ok.kind hk hn hm fin) hd
 ·rcases hk with hk|hk
  ·exact wpAny_Name (wpAny_loadName_cell I.ok.kind hk hc hcell fin) hd
  ·exact wpAny_Name (wpAny_loadName_free I.ok.kind hk hc hcell fin hcd) hd
theorem zwb {i j pos}:PE X (.Constant (.int i) j pos) (tC (.int i)):=fun _ _ _ H _ I h=>wpAny_Constant_int ⟨.int i,H,I.tok _,⟨_,rfl⟩,h⟩
theorem zxy {b j pos}:PE X (.Constant (.bool b) j pos) (tC (.bl b)):=fun _ _ _ H _ I h=>Constant_bool ⟨.bl b,H,I,rfl,h⟩
theorem zw9 {j pos}:PE X (.Constant .none j pos) (tC .non):=fun _ _ _ H _ I h=>Constant_none ⟨.non,H,I,rfl,h⟩
theorem zsq {x j pos}:PE X (.Constant (.str x) j pos) (tC (.str x)):=fun _ _ _ H _ I h=>Calls.Constant_str ⟨.str x,H,I.tok _,⟨_,rfl⟩,h⟩
def Gl (X:Cx) (x:Str):Prop:=X.env.kindOf x=some .globalImplicit
theorem zgl {E:Value->y04->Prop} {pins:List (Addr×Obj)} {s:y04} {σ:St} {H:Hp} {x:Str} {u:Value} {pos:Pos} {Q:Value->y04->Prop} (I:Inv X pins σ H s) (hg:Gl X x) (hm:X.mg x=some u) (h:Q u s)
  (hd:(x == ("__debug__":Str))=false:=by decide):y0v (model X.prog X.w) X.A (eval (.Name x pos) X.env) Q E s :=
 Calls.Name_function_global I.ok.kind hg (Calls.loadGlobal_global (by rw[I.ok.glob];exact I.mod.glob.keeps I.bk) hm h) hd
theorem zdn {E:Value->y04->Prop} {pins:List (Addr×Obj)} {s:y04} {σ:St} {H:Hp} {x:Str} {u:Value} {pos:Pos} {Q:Value->y04->Prop} (I:Inv X pins σ H s) (hg:Gl X x) (hm:X.mg x=none) (hv:bootBuiltins x=some u) (h:Q u s)
  (hn:x≠"__name__":=by decide) (hd:(x == ("__debug__":Str))=false:=by decide):y0v (model X.prog X.w) X.A (eval (.Name x pos) X.env) Q E s:=by
 obtain⟨mb,h1,h2⟩:=I.mod.blt
 exact Calls.Name_function_global I.ok.kind hg (Calls.loadGlobal_builtin (by rw[I.ok.glob];exact I.mod.glob.keeps I.bk) hm (by rw[I.ok.blt];exact h1.keeps I.bk) ((h2 x hn).trans hv) h) hd
theorem zoh {x:Str} {v:V} {u:Value} {pos:Pos} (hg:Gl X x) (hm:X.mg x=some u) (r:RelV v u) (hd:(x == ("__debug__":Str))=false:=by decide):PE X (.Name x pos) (tC v) :=
 fun _ _ _ H _ I h=>zgl I hg hm ⟨v,H,I,r,h⟩ hd
variable {a b:Expr} {ta tb:TE} {pos:Pos}
noncomputable def PC (X:Cx) (op:CmpOp) (a b:Expr) (t:TE):Prop :=
 ∀(pins:List (Addr×Obj)) (s:y04) (σ:St) (H:Hp) (Q:VK),Inv X pins σ H s->t σ H Q ->
  y0v (model X.prog X.w) X.A (eval a X.env) (fun v s₁=>y0v (model X.prog X.w) X.A (eval b X.env) (fun u s₂=>y0v (model X.prog X.w) X.A (compareOp op v u) (EP X pins σ Q) X.xe s₂) X.xe s₁) X.xe s
theorem zra (b:Expr) {op:CmpOp} (h:op≠.In) (h2:op≠.NotIn):behindInMarks op b=false:=by
 have e1:(op == CmpOp.In)=false:=by cases op <;> first|rfl|exact absurd rfl h
 have e2:(op == CmpOp.NotIn)=false:=by cases op <;> first|rfl|exact absurd rfl h2
 cases b <;> simp[behindInMarks,e1,e2]
def tIsN (ta:TE):TE:=fun σ H Q=>ta σ H fun x H1=>Q (.bl (decide (x=.non))) H1
def zxd (ta:TE):TE:=fun σ H Q=>ta σ H fun x H1=>Q (.bl (!decide (x=.non))) H1
theorem RelV.none_iff {x:V} {v:Value} (r:RelV x v):(v == Value.none)=decide (x=.non):=by
 cases x with
 | non=>cases r;rfl
 | bl _=>cases r;rfl
 | int _=>obtain⟨t,rfl⟩:=r;rfl
 | str _=>obtain⟨t,rfl⟩:=r;rfl
 | byt _=>obtain⟨t,rfl⟩:=r;rfl
 | flt _=>obtain⟨t,rfl⟩:=r;rfl
 | ref _=>cases r;rfl
 | ty _=>cases r;rfl
theorem zwe {j pos'} (ha:PE X a ta):PC X .Is a (.Constant .none j pos') (tIsN ta):=by
 intro pins s σ H Q I h
 refine thn (ha pins s σ H _ I h) fun v s1 ⟨x,H1,I1,r1,q1⟩=>?_
 exact Constant_none (is_none_gen ⟨.bl _,H1,I1,by rw[r1.none_iff];rfl,q1⟩)
theorem zu6 {j pos'} (ha:PE X a ta):PC X .IsNot a (.Constant .none j pos') (zxd ta):=by
 intro pins s σ H Q I h
 refine thn (ha pins s σ H _ I h) fun v s1 ⟨x,H1,I1,r1,q1⟩=>?_
 exact Constant_none (isnot_none_gen ⟨.bl _,H1,I1,by rw[r1.none_iff];rfl,q1⟩)
def tB (t:TE):TT:=fun σ H Q=>t σ H fun x H1=>∃c,x=.bl c/\Q c H1
theorem zso {op:CmpOp} {t:TE} (h:PC X op a b t) (h1:behindInMarks op b=false:=by first|exact zra _ (by decide) (by decide)|rfl):PT X (.Compare a [op] [b] pos) (tB t):=by
 intro pins s σ H Q I hw
 refine wpAny_isTrue_Compare1 (thn (h pins s σ H _ I hw) fun v s1 h1=>thn h1 fun u s2 h2=>thn h2 fun c s3 ⟨x,H1,I1,r1,q1⟩=>?_) h1
 obtain⟨d,rfl,q⟩:=q1
 cases r1
 exact wpAny_truthy_bool ⟨H1,I1,q⟩
theorem zw1 {e:Expr} {t:TE} (h:PE X e t) (he:∀whole,isTrue e X.env whole=(do let v <- whole;standAt e.pos;holding [v] (truthy v)):=by intro _;rfl):PT X e (tB t):=by
 intro pins s σ H Q I hw
 refine isTrue_plain (thn (h pins s σ H _ I hw) fun v s1 ⟨x,H1,I1,r1,q1⟩=>?_) (he _)
 obtain⟨d,rfl,q⟩:=q1
 cases r1
 exact wpAny_truthy_bool ⟨H1,I1,q⟩
variable {tA tB':TT} {rest:List Expr}
def tAnd (t u:TT):TT:=fun σ H Q=>t σ H fun c H1=>if c=true then u σ H1 Q else Q false H1
def tOr (t u:TT):TT:=fun σ H Q=>t σ H fun c H1=>if c=true then Q true H1 else u σ H1 Q
def tNot (t:TT):TT:=fun σ H Q=>t σ H fun c H1=>Q (!c) H1
theorem ztt (ha:PT X a tA):PW X (.BoolOp .And [a] pos) tA:=by
 intro wh pins s σ H Q I h
 refine isTrue_and (thn (ha pins s σ H Q I h) fun c s1 e=>?_)
 cases c with
 | true=>exact isTrue_and_nil e
 | false=>exact e
theorem zsn (ha:PT X a tA):PW X (.BoolOp .Or [a] pos) tA:=by
 intro wh pins s σ H Q I h
 refine isTrue_or (thn (ha pins s σ H Q I h) fun c s1 e=>?_)
 cases c with
 | false=>exact isTrue_or_nil e
 | true=>exact e
theorem zvy (ha:PT X a tA) (hb:PW X (.BoolOp .And (b::rest) pos) tB'):PW X (.BoolOp .And (a::b::rest) pos) (tAnd tA tB'):=by
 intro wh pins s σ H Q I h
 refine isTrue_and (thn (ha pins s σ H _ I h) fun c s1 ⟨H1,I1,q1⟩=>?_)
 cases c with
 | true=>exact hb wh pins s1 σ H1 Q I1 q1
 | false=>exact⟨H1,I1,q1⟩
theorem zvx (ha:PT X a tA) (hb:PW X (.BoolOp .Or (b::rest) pos) tB'):PW X (.BoolOp .Or (a::b::rest) pos) (tOr tA tB'):=by
 intro wh pins s σ H Q I h
 refine isTrue_or (thn (ha pins s σ H _ I h) fun c s1 ⟨H1,I1,q1⟩=>?_)
 cases c with
 | true=>exact⟨H1,I1,q1⟩
 | false=>exact hb wh pins s1 σ H1 Q I1 q1
theorem zw2 (ha:PT X a tA):PT X (.UnaryOp .Not a pos) (tNot tA):=by
 intro pins s σ H Q I h
 exact isTrue_not (ha pins s σ H (fun c H1=>Q (!c) H1) I h)
def zxj (ta tb:TE):TE:=fun σ H Q=>ta σ H fun x H1=>∃c,x=.bl c/\if c=true then tb σ H1 Q else Q (.bl false) H1
def tOrV (ta tb:TE):TE:=fun σ H Q=>ta σ H fun x H1=>∃c,x=.bl c/\if c=true then Q (.bl true) H1 else tb σ H1 Q
theorem zsr {op} {t:TE} (h:PE X a t):PE X (.BoolOp op [a] pos) t:=fun pins s σ H Q I hw=>BoolOp_one (h pins s σ H Q I hw)
theorem zwd (ha:PE X a ta) (hb:PE X (.BoolOp .And (b::rest) pos) tb):PE X (.BoolOp .And (a::b::rest) pos) (zxj ta tb):=by
 intro pins s σ H Q I h
 refine BoolOp_and (thn (ha pins s σ H _ I h) fun v s1 ⟨x,H1,I1,r1,q1⟩=>?_)
 obtain⟨c,rfl,q1⟩:=q1
 cases r1
 refine wpAny_truthy_bool ?_
 cases c with
 | true=>exact hb pins s1 σ H1 Q I1 q1
 | false=>exact⟨.bl false,H1,I1,rfl,q1⟩
theorem zxw (ha:PE X a ta) (hb:PE X (.BoolOp .Or (b::rest) pos) tb):PE X (.BoolOp .Or (a::b::rest) pos) (tOrV ta tb):=by
 intro pins s σ H Q I h
 refine BoolOp_or (thn (ha pins s σ H _ I h) fun v s1 ⟨x,H1,I1,r1,q1⟩=>?_)
 obtain⟨c,rfl,q1⟩:=q1
 cases r1
 refine wpAny_truthy_bool ?_
 cases c with
 | false=>exact hb pins s1 σ H1 Q I1 q1
 | true=>exact⟨.bl true,H1,I1,rfl,q1⟩
def tIf (t:TT) (ta tb:TE):TE:=fun σ H Q=>t σ H fun c H1=>if c=true then ta σ H1 Q else tb σ H1 Q
theorem zr4 {c:Expr} (hc:PT X c tA) (ha:PE X a ta) (hb:PE X b tb):PE X (.IfExp c a b pos) (tIf tA ta tb):=by
 intro pins s σ H Q I h
 refine wpAny_IfExp (thn (hc pins s σ H _ I h) fun d s1 ⟨H1,I1,q1⟩=>?_)
 cases d with
 | true=>exact ha pins s1 σ H1 Q I1 q1
 | false=>exact hb pins s1 σ H1 Q I1 q1
end
end L2
namespace L2
open PySem PySem.Spec PyProof.Rows
noncomputable def SqL (K:y00) (H:Hp) (a:Addr) (xs:List V):Prop :=
 Rd H a (.lst xs) \/
  ∃(o:Obj) (its:Array Value) (n:Nat),K.lookup a=some o/\o.cls=.type "list"/\o.dict=none/\o.data=.seq its n/\its.size<=y0k/\Vals xs its.toList
noncomputable def SqT (K:y00) (H:Hp) (a:Addr) (xs:List V):Prop :=
 Rd H a (.tup xs) \/
  ∃(o:Obj) (its:Array Value) (n:Nat),K.lookup a=some o/\o.cls=.type "tuple"/\o.data=.seq its n/\its.size<=y0k/\Vals xs its.toList
noncomputable def absV:Value->Option V
 | .none=>some .non
 | .bool b=>some (.bl b)
 | .int i _=>some (.int i)
 | .str x _=>some (.str x)
 | .bytes b _=>some (.byt b)
 | .float b _=>some (.flt b)
 | .ref a=>some (.ref a)
 | .type n=>some (.ty n)
 | _=>none
theorem RelV.abs {x:V} {u:Value} (r:RelV x u):absV u=some x:=by
 cases x with
 | non=>cases r;rfl
 | bl _=>cases r;rfl
 | int _=>obtain⟨t,rfl⟩:=r;rfl
 | str _=>obtain⟨t,rfl⟩:=r;rfl
 | byt _=>obtain⟨t,rfl⟩:=r;rfl
 | flt _=>obtain⟨t,rfl⟩:=r;rfl
 | ref _=>cases r;rfl
 | ty _=>cases r;rfl
theorem RelV.inj {x y:V} {u:Value} (r:RelV x u) (q:RelV y u):x=y:=y2n (r.abs.symm.trans q.abs)
theorem Vals.inj:∀{xs ys:List V} {us:List Value},Vals xs us->Vals ys us->xs=ys
 | _,_,_,.nil,.nil=>rfl
 | _,_,_,.cons r t,.cons r' t'=>by rw[r.inj r',Vals.inj t t']
section
variable {X:Cx} {pins:List (Addr×Obj)} {σ:St} {H:Hp} {s:y04} {a:Addr} {xs ys:List V}
theorem SqL.of {K:y00} (h:H a=some (.lst xs)):SqL K H a xs:=.inl (.inl h)
theorem SqT.of {K:y00} (h:H a=some (.tup xs)):SqT K H a xs:=.inl (.inl h)
theorem Inv.list (I:Inv X pins σ H s) (h:SqL X.K H a xs):∃its:List Value,Vals xs its/\PlainL s.heap a its.toArray/\xs.length<=y0k:=by
 rcases h with h|⟨o,its,n,hk,hc,hd,hs,hz,r⟩
 ·obtain⟨z,its,n,r,e⟩:=h.ok I.hok
  exact⟨its,r,⟨_,n,e,rfl,rfl,rfl⟩,z⟩
 ·refine⟨its.toList,r,⟨o,n,I.kIn a o hk,hc,hd,by simpa using hs⟩,?_⟩
  have e:=r.length
  simp only[y27] at e
  omega
theorem Inv.tuple (I:Inv X pins σ H s) (h:SqT X.K H a xs):∃its:List Value,Vals xs its/\IsTup s.heap a its.toArray/\xs.length<=y0k:=by
 rcases h with h|⟨o,its,n,hk,hc,hs,hz,r⟩
 ·obtain⟨z,its,r,p⟩:=h.ok I.hok
  exact⟨its,r,p,z⟩
 ·refine⟨its.toList,r,⟨o,I.kIn a o hk,hc,n,by simpa using hs⟩,?_⟩
  have e:=r.length
  simp only[y27] at e
  omega
theorem Inv.list_inj (I:Inv X pins σ H s) (h:SqL X.K H a xs) (h':SqL X.K H a ys):xs=ys:=by
 obtain⟨its,r,⟨o,n,e,_,_,d⟩,_⟩:=I.list h
 obtain⟨its',r',⟨o',n',e',_,_,d'⟩,_⟩:=I.list h'
 rw[e] at e';cases e'
 rw[d] at d'
 injection d' with d1 _
 have:its=its':=by simpa using congrArg Array.toList d1
 subst this
 exact r.inj r'
theorem Inv.tuple_inj (I:Inv X pins σ H s) (h:SqT X.K H a xs) (h':SqT X.K H a ys):xs=ys:=by
 obtain⟨its,r,⟨o,e,_,n,d⟩,_⟩:=I.tuple h
 obtain⟨its',r',⟨o',e',_,n',d'⟩,_⟩:=I.tuple h'
 rw[e] at e';cases e'
 rw[d] at d'
 injection d' with d1 _
 have:its=its':=by simpa using congrArg Array.toList d1
 subst this
 exact r.inj r'
end
abbrev Cx.wish (X:Cx) (E:Value->y04->Prop):Cx:={ X with xe:=E }
abbrev Cx.nox (X:Cx):Cx:=X.wish fun _ _=>False
theorem Cx.Ok.wish {X:Cx} (ok:X.Ok) (E:Value->y04->Prop):(X.wish E).Ok :=
 ⟨ok.mod,ok.kind,ok.glob,ok.blt,ok.above,ok.inj,ok.has,ok.cab,ok.hd,ok.frames,ok.stk,ok.exf,ok.bs,ok.bsz,ok.noex,ok.exfs,ok.funs,ok.frf⟩
theorem Cx.Ok.unwish {X:Cx} {E:Value->y04->Prop} (ok:(X.wish E).Ok):X.Ok :=
 ⟨ok.mod,ok.kind,ok.glob,ok.blt,ok.above,ok.inj,ok.has,ok.cab,ok.hd,ok.frames,ok.stk,ok.exf,ok.bs,ok.bsz,ok.noex,ok.exfs,ok.funs,ok.frf⟩
section
variable {X:Cx} {pins:List (Addr×Obj)} {σ:St} {H:Hp} {s:y04} {E:Value->y04->Prop}
theorem Inv.wish (I:Inv X pins σ H s) (E:Value->y04->Prop):Inv (X.wish E) pins σ H s:=⟨I.ok.wish E,I.os,I.bare,I.base,I.loc,I.cell,I.free,I.freeC,I.pin,I.hok,I.len⟩
theorem Inv.unwish (I:Inv (X.wish E) pins σ H s):Inv X pins σ H s:=⟨I.ok.unwish,I.os,I.bare,I.base,I.loc,I.cell,I.free,I.freeC,I.pin,I.hok,I.len⟩
theorem SP.unwish {D:Ends} {f:Flow} {s':y04} (h:SP (X.wish E) pins D f s'):SP X pins D f s':=by
 cases f with
 | next=>obtain⟨σ',H',I,q⟩:=h;exact⟨σ',H',I.unwish,q⟩
 | brk=>obtain⟨σ',H',I,q⟩:=h;exact⟨σ',H',I.unwish,q⟩
 | cont=>obtain⟨σ',H',I,q⟩:=h;exact⟨σ',H',I.unwish,q⟩
 | ret u=>obtain⟨v,σ',H',I,r,q⟩:=h;exact⟨v,σ',H',I.unwish,r,q⟩
theorem PSs.nox {st:List Stmt} {t:TS} (h:PSs X.nox st t):PSs X st t:=fun pins s σ H D I hw =>
 y1g (h pins s σ H D (I.wish _) hw) (fun _ _ q=>q.unwish) fun _ _ z=>y24 z
end
section
variable {X:Cx} {st:Stmt} {rest:List Stmt} {t u:TS} {e:Expr} {te:TE} {pos:Pos}
def zxe:TS:=fun D σ H=>D.nx σ H
def tSeq (t u:TS):TS:=fun D σ H=>t { D with nx:=u D } σ H
theorem ztu:PSs X [] zxe:=fun _ _ σ H _ I h=>wpAny_execs_nil ⟨σ,H,I,h⟩
theorem zla (h1:PS X st t) (h2:PSs X rest u):PSs X (st::rest) (tSeq t u):=by
 intro pins s σ H D I h
 refine wpAny_execs_cons (thn (h1 pins s σ H { D with nx:=u D } I h) fun f s1 q=>?_)
 cases f with
 | next =>
  obtain⟨σ',H',I',q⟩:=q
  exact h2 pins s1 σ' H' D I' q
 | ret v=>exact q
 | brk=>exact q
 | cont=>exact q
theorem zjw (h1:PS X st t):PSs X [st] t:=by
 intro pins s σ H D I h
 refine wpAny_execs_cons (thn (h1 pins s σ H D I h) fun f s1 q=>?_)
 cases f with
 | next=>exact wpAny_execs_nil q
 | ret v=>exact q
 | brk=>exact q
 | cont=>exact q
theorem Inv.quiet {pins:List (Addr×Obj)} {σ:St} {H:Hp} {s:y04} (I:Inv X pins σ H s):interactive X.env=false:=by simp[interactive,I.ok.kind]
def zxg (te:TE):TS:=fun D σ H=>te σ H fun _ H1=>D.nx σ H1
theorem zd1 (he:PE X e te) (hs:swapsWith e none pos.line X.env=pure false:=by rfl):PS X (.Expr e pos) (zxg te):=by
 intro pins s σ H D I h
 exact wpAny_Expr_any (thn (he pins s σ H _ I h) fun v s1 ⟨x,H1,I1,r1,q1⟩=>⟨σ,H1,I1,q1⟩) I.quiet hs
def tRet (te:TE):TS:=fun D σ H=>te σ H D.rt
theorem zf3 (he:PE X e te):PS X (.Return (some e) pos) (tRet te):=by
 intro pins s σ H D I h
 exact wpAny_Return_some (thn (he pins s σ H _ I h) fun v s1 ⟨x,H1,I1,r1,q1⟩=>⟨x,σ,H1,I1,r1,q1⟩)
def zxb:TS:=fun D _ H=>D.rt .non H
theorem ztv:PS X (.Return none pos) zxb:=fun _ _ σ H _ I h=>wpAny_Return_none ⟨.non,σ,H,I,rfl,h⟩
def tIfS (c:TT) (t u:TS):TS:=fun D σ H=>c σ H fun b H1=>if b=true then t D σ H1 else u D σ H1
theorem zw4 {c:Expr} {a b:List Stmt} {tc:TT} (hc:PT X c tc) (ha:PSs X a t) (hb:PSs X b u):PS X (.If c a b pos) (tIfS tc t u):=by
 intro pins s σ H D I h
 refine wpAny_If (thn (hc pins s σ H _ I h) fun d s1 ⟨H1,I1,q1⟩=>?_)
 cases d with
 | true=>exact ha pins s1 σ H1 D I1 q1
 | false=>exact hb pins s1 σ H1 D I1 q1
end
abbrev TG:=V->St->Hp->(St->Hp->Prop)->Prop
abbrev TGs:=List V->St->Hp->(St->Hp->Prop)->Prop
noncomputable def PG (X:Cx) (target:Expr) (t:TG):Prop :=
 ∀(pins:List (Addr×Obj)) (s:y04) (σ:St) (H:Hp) (v:V) (u:Value) (Q:St->Hp->Prop),Inv X pins σ H s->RelV v u->t v σ H Q ->
  y0v (model X.prog X.w) X.A (assign target X.env u) (fun _ s'=>∃σ' H',Inv X pins σ' H' s'/\Q σ' H') X.xe s
noncomputable def PGs (X:Cx) (ts:List Expr) (t:TGs):Prop :=
 ∀(pins:List (Addr×Obj)) (s:y04) (σ:St) (H:Hp) (vs:List V) (us:List Value) (Q:St->Hp->Prop),Inv X pins σ H s->Vals vs us->t vs σ H Q ->
  y0v (model X.prog X.w) X.A (assignInOrder ((assignEach ts X.env).map (·.2)) us) (fun _ s'=>∃σ' H',Inv X pins σ' H' s'/\Q σ' H') X.xe s
section
variable {X:Cx} {pos:Pos}
def zur (i:Nat):TG:=fun v σ H Q=>Q (σ.set i (some v)) H
theorem zjx {i:Nat} {x:Str} (hN:X.N.Nodup) (hi:X.N[i]?=some x) (hx:Loc X.env.scope x) (hf:X.fn x=true\/X.env.scope.names.lookup x=some .local:=by first|exact .inl rfl|exact .inr rfl|assumption):PG X (.Name x pos) (zur i):=by
 intro pins s σ H v u Q I r h
 exact wpAny_assign_Name (zl0 I hN hi hx r (fun s' I'=>⟨_,H,I',h⟩) hf)
def gNil:TGs:=fun vs σ H Q=>vs=[]/\Q σ H
def zy3 (t:TG) (u:TGs):TGs:=fun vs σ H Q=>∃v r,vs=v::r/\t v σ H fun σ' H'=>u r σ' H' Q
theorem zoe:PGs X [] gNil:=by
 intro pins s σ H vs us Q I r h
 obtain⟨e,h⟩:=h
 subst e
 cases r
 exact assignInOrder_nil ⟨σ,H,I,h⟩
theorem zgb {e:Expr} {es:List Expr} {t:TG} {u:TGs} (h1:PG X e t) (h2:PGs X es u)
  (hs:(assignEach (e::es) X.env).map (·.2)=assign e X.env::(assignEach es X.env).map (·.2):=by rfl):PGs X (e::es) (zy3 t u):=by
 intro pins s σ H vs us Q I r h
 obtain⟨v,vr,e1,h⟩:=h
 subst e1
 cases r with
 | cons r rr =>
  rw[hs]
  refine assignInOrder_cons (thn (h1 pins s σ H _ _ _ I r h) fun _ s1 ⟨σ1,H1,I1,q1⟩=>?_)
  exact h2 pins s1 σ1 H1 _ _ Q I1 rr q1
def gTup (K:y00) (n:Nat) (t:TGs):TG:=fun v σ H Q=>∃a xs,v=.ref a/\SqT K H a xs/\xs.length=n/\t xs σ H Q
theorem zsp {es:List Expr} {k:Nat} {t:TGs} {n:Nat} (hc:X.calm=true) (h:PGs X es t)
  (hn:(assignEach es X.env).length=n:=by rfl) (hst:(assignEach es X.env).findIdx? (·.1)=none:=by rfl):PG X (.Tuple es k pos) (gTup X.K n t):=by
 intro pins s σ H v u Q I r hw
 obtain⟨a,xs,e1,hq,hl,hw⟩:=hw
 subst e1
 cases r
 obtain⟨its,rv,ht,hz⟩:=I.tuple hq
 refine assign_Tuple_tuple (I.ok.hd hc) ht (by simp[hn,<- hl,rv.length]) hst fun h' hx=>?_
 have I1:Inv X pins σ H { s with heap:=h' }:=I.kept (t':=s.toks) fun b o e=>hx b o (y10 (y0c e)) e
 exact h pins _ σ H xs _ Q I1 (by simpa using rv) hw
def tAsg (te:TE) (g:TG):TS:=fun D σ H=>te σ H fun x H1=>g x σ H1 D.nx
theorem zw6 {tg e:Expr} {te:TE} {g:TG} (he:PE X e te) (hg:PG X tg g) (hs:swapsWithSole [tg] e pos.line X.env=pure false:=by rfl) (hw:swappedStores [tg] e X.env=pure none:=by rfl)
  (h1:(assignEach [tg] X.env).map (·.2)=[assign tg X.env]:=by rfl):PS X (.Assign [tg] e pos) (tAsg te g):=by
 intro pins s σ H D I h
 refine wpAny_Assign_stores (thn (he pins s σ H _ I h) fun v s1 ⟨x,H1,I1,r1,q1⟩=>?_) hs hw
 rw[h1]
 exact thn (hg pins s1 σ H1 x v _ I1 r1 q1) fun _ s2 q=>q
theorem zlb {i:Nat} {x:Str} {e:Expr} {te:TE} {pos':Pos} (hN:X.N.Nodup) (hi:X.N[i]?=some x) (hx:Loc X.env.scope x) (he:PE X e te) (hs:swapsWith e (some (.Name x pos')) pos.line X.env=pure false:=by rfl) (hf:X.fn x=true\/X.env.scope.names.lookup x=some .local:=by first|exact .inl rfl|exact .inr rfl|assumption) :
  PS X (.Assign [.Name x pos'] e pos) (tAsg te (zur i)):=by
 intro pins s σ H D I h
 refine wpAny_Assign_Name (thn (he pins s σ H _ I h) fun v s1 ⟨y,H1,I1,r1,q1⟩=>?_) hs
 exact zl0 I1 hN hi hx r1 (fun s2 I2=>⟨_,H1,I2,q1⟩) hf
end
section
variable {X:Cx} {pos:Pos}
end
structure It where
 go:Nat->Hp->Prop
 yld:Nat->Hp->V->Hp->Prop
 stop:Nat->Hp->Prop
noncomputable def FpOk (X:Cx) (pins:List (Addr×Obj)) (H:Hp) (b:Addr):Prop :=
 H b=none/\b≠X.env.locals/\b∉X.fs/\(b∈X.ex\/X.s₀.heap.objs.size<=b)/\(∀x c,X.env.cells.lookup x=some c->c≠b)/\∀p∈X.pn++pins,p.1≠b
theorem Inv.fpOk {X:Cx} {pins:List (Addr×Obj)} {σ:St} {H H':Hp} {s:y04} {b:Addr} (I:Inv X pins σ H s) (hb:s.heap.objs.size<=b) (hn:H' b=none):FpOk X pins H' b:=by
 refine⟨hn,y18 (y0y I.lt hb),I.nofs hb,.inr (y1u I.sz hb),fun x c e z=>?_,fun p hp z=>?_⟩
 ·obtain⟨v,q⟩:=I.cell x c e
  exact absurd (y0y q.lt (by rw[z];exact hb)) (Nat.lt_irrefl _)
 ·exact absurd (y0y (y0c (I.pin p hp).1) (by rw[z];exact hb)) (Nat.lt_irrefl _)
structure Turn (P:y0r) (w:World) (K:y00) (tg:Expr) (J:It) (fp:List Addr) (it:Addr) (tn:Nat->Heap->Prop):Prop where
 mem:it∈fp
 obj:∀i h,tn i h->∀b∈fp,∃o,h.get? b=some o/\∀v,o.data≠.cell v
 keep:∀i h h',tn i h->(∀b∈fp,∀o,h.get? b=some o->h'.get? b=some o)->tn i h'
 item:∀(X:Cx),X.prog=P->X.w=w->X.K=K->X.calm=true->∀(i:Nat) (pins:List (Addr×Obj)) (s:y04) (σ:St) (H:Hp) (E:Value->y04->Prop),Inv X pins σ H s->(∀b∈fp,FpOk X pins H b)->tn i s.heap->J.go i H ->
  y0v (model P w) X.A (pyNext (.ref it)) (fun r s1=>∃u,r=some u /\
   y0v (model P w) X.A (letOwnedTupleGo tg (.ref it) u) (fun _ s2=>∃x H',Inv X pins σ H' s2/\RelV x u/\J.yld i H x H'/\tn (i+1) s2.heap/\∀b∈fp,H' b=none) E s1) E s
 done:∀(X:Cx),X.prog=P->X.w=w->X.K=K->X.calm=true->∀(i:Nat) (pins:List (Addr×Obj)) (s:y04) (σ:St) (H:Hp) (E:Value->y04->Prop),Inv X pins σ H s->(∀b∈fp,FpOk X pins H b)->tn i s.heap->J.stop i H ->
  y0v (model P w) X.A (pyNext (.ref it)) (fun r s1=>r=none/\Inv X pins σ H s1) E s
 self:∀(A:Around) (i:Nat) (s:y04) (Q:Value->y04->Prop) (E:Value->y04->Prop),tn i s.heap->Q (.ref it) s->y0v (model P w) A (pyIter (.ref it)) Q E s
abbrev TI:=St->Hp->(It->Hp->Prop)->Prop
noncomputable def PIE (X:Cx) (pins:List (Addr×Obj)) (σ:St) (tg:Expr) (R:It->Hp->Prop) (itv:Value) (s2:y04):Prop :=
 ∃(it:Addr) (fp:List Addr) (tn:Nat->Heap->Prop) (J:It) (H':Hp),itv=.ref it/\Inv X pins σ H' s2/\Turn X.prog X.w X.K tg J fp it tn/\tn 0 s2.heap/\(∀b∈fp,FpOk X pins H' b)/\R J H'
noncomputable def PI (X:Cx) (tg iter:Expr) (wi:TI):Prop :=
 ∀(pins:List (Addr×Obj)) (s:y04) (σ:St) (H:Hp) (R:It->Hp->Prop),Inv X pins σ H s->wi σ H R ->
  y0v (model X.prog X.w) X.A (eval iter X.env) (fun v s1=>y0v (model X.prog X.w) X.A (pyIter v) (PIE X pins σ tg R) X.xe s1) X.xe s
theorem zuo {M:Model} {A:Around} {E:Value->y04->Prop} {s:y04} {tg:Expr} {it:Addr} {u:Value} {o:Obj} {n:String} {vs:Array Value} {Q:Unit->y04->Prop} (ho:s.heap.get? it=some o) (hc:o.cls=.type n) (hd:o.data=.fields vs)
    (hn:["enumerate","zip","dict_itemiterator","dict_reverseitemiterator","odict_iterator","itertools.zip_longest","itertools.pairwise"].contains n=false) (hQ:Q () s):y0v M A (letOwnedTupleGo tg (.ref it) u) Q E s:=by
  unfold letOwnedTupleGo
  cases tg <;> first
    | exact y06 hQ
    | (cases u <;> first
        | exact y06 hQ
        | (refine y02 (wpAny_load ho ?_)
           rw[hc,hd]
           show y0v M A (if (["enumerate","zip","dict_itemiterator","dict_reverseitemiterator","odict_iterator","itertools.zip_longest","itertools.pairwise"].contains n && vs[0]? == some (rawInt _))=true then _ else _) Q E s
           rw[if_neg (by intro h;rw[hn,Bool.false_and] at h;cases h)]
           exact y06 hQ))
noncomputable def Itl (K:y00) (a:Addr):It :=
 ⟨fun i H=>∃xs x,SqL K H a xs/\xs[i]?=some x,fun i H x H'=>H'=H/\∀xs,SqL K H a xs->xs[i]?=some x,fun i H=>∃xs,SqL K H a xs/\xs.length<=i⟩
noncomputable def Itt (K:y00) (a:Addr):It :=
 ⟨fun i H=>∃xs x,SqT K H a xs/\xs[i]?=some x,fun i H x H'=>H'=H/\∀xs,SqT K H a xs->xs[i]?=some x,fun i H=>∃xs,SqT K H a xs/\xs.length<=i⟩
def Itr (lo:Int) (n:Nat):It:=⟨fun i _=>i<n,fun i H x H'=>H'=H/\x=.int (lo+i),fun i _=>n<=i⟩
theorem znk {P:y0r} {w:World} {K:y00} {tg:Expr} (a it:Addr):Turn P w K tg (Itl K a) [it] it (fun i h=>h.IsListIter it a i) where
 mem:=by simp
 obj:=fun i h st b hb=>by
  have e:b=it:=by simpa using hb
  subst e
  obtain⟨o,e,c,d⟩:=st
  exact⟨o,e,fun v z=>by rw[d] at z;cases z⟩
 keep:=fun i h h' st k=>st.at fun o e=>k it (by simp) o e
 item:=by
  intro X hP hw hK hc i pins s σ H E I hf st hg
  subst hP hw hK
  obtain⟨xs,x,hq,hx⟩:=hg
  obtain⟨its,rv,p,hz⟩:=I.list hq
  obtain⟨u,hu,ru⟩:=rv.get hx
  obtain⟨f0,f1,f2,f3,f4,f5⟩:=hf it (by simp)
  refine wpAny_pyNext_list_item st p.isList (x:=u) (by simpa using hu) fun h' st' sb=>?_
  have I1:Inv X pins σ H { s with heap:=h' }:=I.turned (t':=s.toks) (fun b o hb e=>(sb.2 b hb).trans e) f0 f1 f3 f4 f5
  obtain⟨o,e,c,d⟩:=id st'
  exact⟨u,rfl,zuo (s:={ s with heap:=h' }) e c d (by decide) ⟨x,H,I1,ru,⟨rfl,fun ys hy=>by rw[I.list_inj hy hq];exact hx⟩,st',fun b hb=>(hf b hb).1⟩⟩
 done:=by
  intro X hP hw hK hc i pins s σ H E I hf st hg
  subst hP hw hK
  obtain⟨xs,hq,hx⟩:=hg
  obtain⟨its,rv,p,hz⟩:=I.list hq
  obtain⟨f0,f1,f2,f3,f4,f5⟩:=hf it (by simp)
  have hl:=rv.length
  exact wpAny_pyNext_list_end (I.ok.hd hc) st p.isList (by simp;omega) fun h' eb=>⟨rfl,I.turned (t':=s.toks) (fun b o hb e=>eb b o hb e) f0 f1 f3 f4 f5⟩
 self:=fun _ _ _ _ _ st h=>wpAny_pyIter_listiter st h
theorem zm6 {P:y0r} {w:World} {K:y00} {tg:Expr} (a it:Addr):Turn P w K tg (Itt K a) [it] it (fun i h=>h.IsTupleIter it a i) where
 mem:=by simp
 obj:=fun i h st b hb=>by
  have e:b=it:=by simpa using hb
  subst e
  obtain⟨o,e,c,d⟩:=st
  exact⟨o,e,fun v z=>by rw[d] at z;cases z⟩
 keep:=fun i h h' st k=>st.at fun o e=>k it (by simp) o e
 item:=by
  intro X hP hw hK hc i pins s σ H E I hf st hg
  subst hP hw hK
  obtain⟨xs,x,hq,hx⟩:=hg
  obtain⟨its,rv,p,hz⟩:=I.tuple hq
  obtain⟨u,hu,ru⟩:=rv.get hx
  obtain⟨f0,f1,f2,f3,f4,f5⟩:=hf it (by simp)
  refine wpAny_pyNext_tuple_item st (show s.heap.IsTuple a its.toArray from p) (x:=u) (by simpa using hu) fun h' st' sb=>?_
  have I1:Inv X pins σ H { s with heap:=h' }:=I.turned (t':=s.toks) (fun b o hb e=>(sb.2 b hb).trans e) f0 f1 f3 f4 f5
  obtain⟨o,e,c,d⟩:=id st'
  exact⟨u,rfl,zuo (s:={ s with heap:=h' }) e c d (by decide) ⟨x,H,I1,ru,⟨rfl,fun ys hy=>by rw[I.tuple_inj hy hq];exact hx⟩,st',fun b hb=>(hf b hb).1⟩⟩
 done:=by
  intro X hP hw hK hc i pins s σ H E I hf st hg
  subst hP hw hK
  obtain⟨xs,hq,hx⟩:=hg
  obtain⟨its,rv,p,hz⟩:=I.tuple hq
  obtain⟨f0,f1,f2,f3,f4,f5⟩:=hf it (by simp)
  have hl:=rv.length
  exact wpAny_pyNext_tuple_end (I.ok.hd hc) st (show s.heap.IsTuple a its.toArray from p) (by simp;omega) fun h' eb=>⟨rfl,I.turned (t':=s.toks) (fun b o hb e=>eb b o hb e) f0 f1 f3 f4 f5⟩
 self:=fun _ _ _ _ _ st h=>wpAny_pyIter_tupleiter st h
theorem zm7 {P:y0r} {w:World} {K:y00} {tg:Expr} (it:Addr) (lo:Int) (n:Nat):Turn P w K tg (Itr lo n) [it] it (fun i h=>IsRangeIter h it (lo+(i:Nat)*1) ((n:Int) - (i:Nat)) 1) where
 mem:=by simp
 obj:=fun i h st b hb=>by
  have e:b=it:=by simpa using hb
  subst e
  exact⟨_,st,fun v z=>by
   have z':Data.fields _=Data.cell v:=z
   cases z'⟩
 keep:=fun i h h' st k=>k it (by simp) _ st
 item:=by
  intro X hP hw hK hc i pins s σ H E I hf st hg
  subst hP hw hK
  obtain⟨f0,f1,f2,f3,f4,f5⟩:=hf it (by simp)
  have W:=Walks.range (prog:=X.prog) (w:=X.w) (I.ok.hd hc) it lo 1 n
  refine W.item i s _ _ hg st fun v h' tk hv st' kk=>?_
  obtain⟨t,rfl⟩:=hv
  have I1:Inv X pins σ H { s with heap:=h',toks:=tk }:=I.turned (fun b o hb e=>kk b o (by simpa using hb) e) f0 f1 f3 f4 f5
  refine⟨_,rfl,zuo (s:={ s with heap:=h',toks:=tk }) (n:="range_iterator") st' rfl rfl (by decide) ⟨.int (lo+i),H,I1,⟨t,?_⟩,⟨rfl,rfl⟩,st',fun b hb=>(hf b hb).1⟩⟩
  rw[Int.mul_one]
 done:=by
  intro X hP hw hK hc i pins s σ H E I hf st hg
  subst hP hw hK
  obtain⟨f0,f1,f2,f3,f4,f5⟩:=hf it (by simp)
  exact wpAny_pyNext_range_end (I.ok.hd hc) st (by have:n<=i:=hg;omega) fun h' eb=>⟨rfl,I.turned (t':=s.toks) (fun b o hb e=>eb b o hb e) f0 f1 f3 f4 f5⟩
 self:=fun _ _ _ _ _ st h=>wpAny_pyIter_rangeiter st h
end L2
namespace L2
open PySem PySem.Spec PyProof.Rows
section
variable {X:Cx} {tg:Expr}
theorem zqw {pins:List (Addr×Obj)} {σ:St} {H:Hp} {s:y04} {R:It->Hp->Prop} {E:Value->y04->Prop} {lo hi:Int} {t u v:Tok} {tk:Nat} (I:Inv X pins σ H s) (h1:-(2 ^ 62)<=lo) (h2:lo<2 ^ 62) (h3:-(2 ^ 62)<=hi) (h4:hi<2 ^ 62)
  (q:R (Itr lo (hi - lo).toNat) H):y0v (model X.prog X.w) X.A (pyIter (.ref s.heap.objs.size)) (PIE X pins σ tg R) E { s with heap:=s.heap.push { cls:=.type "range",data:=.fields #[.int lo t,.int hi u,.int 1 v] },toks:=tk }:=by
 refine wpAny_pyIter_range (IsRange.new ..) (small_one h1 h2 h3 h4) ?_
 have I1:Inv X pins σ H { s with heap:=s.heap.push { cls:=.type "range",data:=.fields #[.int lo t,.int hi u,.int 1 v] },toks:=tk }:=I.kept fun b o e=>y03 _ e
 refine⟨(s.heap.push { cls:=.type "range",data:=.fields #[.int lo t,.int hi u,.int 1 v] }).objs.size,[(s.heap.push { cls:=.type "range",data:=.fields #[.int lo t,.int hi u,.int 1 v] }).objs.size],_,_,H,rfl,
  I1.kept (t':=tk) fun b o e=>y03 _ e,zm7 _ lo (hi - lo).toNat,?_,fun b hb=>?_,q⟩
 ·have e1:lo+((0:Nat):Int)*1=lo:=by simp
  have e2:(((hi - lo).toNat:Nat):Int) - ((0:Nat):Int)=Builtin.Range.rangeSize lo hi 1:=by rw[rangeSize_one];split <;> omega
  show IsRangeIter _ _ (lo+((0:Nat):Int)*1) ((((hi - lo).toNat:Nat):Int) - ((0:Nat):Int)) 1
  rw[e1,e2]
  exact y0m _ rfl
 ·have e:b=(s.heap.push { cls:=.type "range",data:=.fields #[.int lo t,.int hi u,.int 1 v] }).objs.size:=by simpa using hb
  subst e
  exact I1.fpOk (y0p _) (I1.hok.fresh (y0p _))
def zy2 (ta:TA):TI:=fun σ H R=>ta σ H fun vs H1=>∃j:Int,vs=[.int j]/\-(2 ^ 62)<=j/\j<2 ^ 62/\R (Itr 0 j.toNat) H1
theorem zod {a:Expr} {ta:TA} {p pos:Pos} (hg:Gl X "range") (hm:X.mg "range"=none) (ha:PA X [a] ta) (hs:y0a [a] X.env=[(false,eval a X.env)]:=by rfl):PI X tg (.Call (.Name "range" p) [a] [] pos) (zy2 ta):=by
 intro pins s σ H R I h
 refine Call_ (zdn I hg hm boot_range (y1z (thn (ha pos pins s σ H _ I h) fun us s1 ⟨vs,H1,I1,r1,q1⟩=>?_) hs rfl))
 obtain⟨j,e,q1,q2,q⟩:=q1
 subst e
 cases r1 with
 | cons r rr =>
  cases rr
  obtain⟨t,rfl⟩:=r
  exact call_range_1 (zqw I1 (by omega) (by omega) q1 q2 (by simpa using q))
noncomputable def tFor (wi:TI) (g:TG) (tb:TS):TS:=fun D σ H=>wi σ H fun J H1=>∃W:Nat->Nat->St->Hp->Prop,(∃m,W 0 m σ H1)/\∀i m σ H,W i m σ H ->
 (J.stop i H/\D.nx σ H)\/(J.go i H/\∃N:St->Hp->Prop,(∀σ' H',N σ' H'->∃m',m'<m/\W (i+1) m' σ' H')/\∀x H',J.yld i H x H'->g x σ H' fun σ2 H2=>tb { D with nx:=N,ct:=N,bk:=D.nx } σ2 H2)
def zhk (fp:List Addr) (h:Heap):List (Addr×Obj):=fp.filterMap fun b=>(h.get? b).map fun o=>(b,o)
theorem z91 {fp:List Addr} {h:Heap} {b:Addr} {o:Obj} (hb:b∈fp) (e:h.get? b=some o):(b,o)∈zhk fp h:=List.mem_filterMap.mpr ⟨b,hb,by rw[e];rfl⟩
theorem zop {fp:List Addr} {h:Heap} {p:Addr×Obj} (hp:p∈zhk fp h):p.1∈fp/\h.get? p.1=some p.2:=by
 obtain⟨b,hb,e⟩:=List.mem_filterMap.mp hp
 cases q:h.get? b with
 | none=>rw[q] at e;cases e
 | some o =>
  rw[q] at e
  have e':(b,o)=p:=y2n e
  subst e'
  exact⟨hb,q⟩
theorem Inv.pinned {pins:List (Addr×Obj)} {σ:St} {H:Hp} {s:y04} {fp:List Addr} (I:Inv X pins σ H s) (hf:∀b∈fp,FpOk X pins H b) (ho:∀b∈fp,∃o,s.heap.get? b=some o/\∀v,o.data≠.cell v):Inv X (pins++zhk fp s.heap) σ H s :=
 I.pins_of fun p hp=>(y13.mp hp).elim (fun z=>I.pin p (y1d _ z)) fun z=>by
  obtain⟨hb,e⟩:=zop z
  obtain⟨f0,f1,f2,_⟩:=hf p.1 hb
  obtain⟨o,e',d⟩:=ho p.1 hb
  rw[e] at e';cases e'
  exact⟨e,f0,f1,f2,d⟩
theorem Inv.unpinned {pins pl:List (Addr×Obj)} {σ:St} {H:Hp} {s:y04} (I:Inv X (pins++pl) σ H s):Inv X pins σ H s:=I.pins_of fun p hp=>I.pin p (y1d _ (List.mem_append_left _ hp))
theorem zw5 {iter:Expr} {body:List Stmt} {wi:TI} {g:TG} {tb:TS} {pos:Pos} (hp:PassesOwn (model X.prog X.w) X.A X.env X.xe) (hc:X.calm=true) (hi:PI X tg iter wi) (hg:PG X tg g) (hb:PSs X body tb)
  (hs:∀x,foldedSetIterable iter X.env x=pure x:=by intro _;rfl):PS X (.For tg iter body [] pos) (tFor wi g tb):=by
 intro pins s σ H D I h
 refine wpAny_For (thn (hi pins s σ H _ I h) fun v s1 h1=>thn h1 fun itv s2 h2=>?_) hs
 obtain⟨it,fp,tn,J,H2,e,I2,T,st2,f2,W,⟨m0,w0⟩,turn⟩:=h2
 subst e
 have stat:∀{H':Hp},(∀b∈fp,H' b=none)->∀b∈fp,FpOk X pins H' b:=fun hn b hb=>⟨hn b hb,(f2 b hb).2⟩
 refine codeAny_forLoop_any (fun n s'=>∃i σ' H',Inv X pins σ' H' s'/\tn i s'.heap/\(∀b∈fp,H' b=none)/\W i n σ' H') ?_ m0 ⟨0,σ,H2,I2,st2,fun b hb=>(f2 b hb).1,w0⟩
 rintro n s3 ⟨i,σ3,H3,I3,st3,fr3,w3⟩
 rcases turn i n σ3 H3 w3 with ⟨stop,qn⟩|⟨go,N,hN,step⟩
 ·refine wpAny_passesOwn hp (thn (T.done X rfl rfl rfl hc i pins s3 σ3 H3 X.xe I3 (stat fr3) st3 stop) fun r s4 ⟨hr,I4⟩=>?_)
  subst hr
  exact wpAny_execs_nil ⟨σ3,H3,I4,qn⟩
 ·refine wpAny_passesOwn hp (thn (T.item X rfl rfl rfl hc i pins s3 σ3 H3 X.xe I3 (stat fr3) st3 go) fun r s4 ⟨u,hr,h4⟩=>?_)
  subst hr
  refine wpAny_passesOwn hp (thn h4 fun _ s5 ⟨x,H5,I5,r5,y5,st5,fr5⟩=>?_)
  have I5':=I5.pinned (stat fr5) (T.obj _ _ st5)
  refine wpAny_passesOwn hp (thn (hg _ s5 σ3 H5 x u _ I5' r5 (step x H5 y5)) fun _ s6 ⟨σ6,H6,I6,q6⟩=>?_)
  refine wpAny_passesOwn hp (thn (hb _ s6 σ6 H6 _ I6 q6) fun f s7 q7=>?_)
  have again:∀{σ7:St} {H7:Hp},Inv X (pins++zhk fp s5.heap) σ7 H7 s7->N σ7 H7->∃m,m<n/\∃i σ' H',Inv X pins σ' H' s7/\tn i s7.heap/\(∀b∈fp,H' b=none)/\W i m σ' H':=fun {σ7 H7} I7 n7=>by
   obtain⟨m',hm,w7⟩:=hN σ7 H7 n7
   refine⟨m',hm,i+1,σ7,H7,I7.unpinned,T.keep _ _ _ st5 fun b hb o e=>(I7.pin (b,o) (y1d _ (y1d _ (z91 hb e)))).1,fun b hb=>?_,w7⟩
   obtain⟨o,e,d⟩:=T.obj _ _ st5 b hb
   exact (I7.pin (b,o) (y1d _ (y1d _ (z91 hb e)))).2.1
  cases f with
  | next=>obtain⟨σ7,H7,I7,n7⟩:=q7;exact again I7 n7
  | cont=>obtain⟨σ7,H7,I7,n7⟩:=q7;exact again I7 n7
  | brk=>obtain⟨σ7,H7,I7,q7⟩:=q7;exact⟨σ7,H7,I7.unpinned,q7⟩
  | ret v=>obtain⟨x7,σ7,H7,I7,r7,q7⟩:=q7;exact⟨x7,σ7,H7,I7.unpinned,r7,q7⟩
end
end L2
namespace L2
open PySem PySem.Spec PyProof.Rows
abbrev R2:=V->V->Hp->VK->Prop
noncomputable def OpR (X:Cx) (f:Value->Value->Sem Value) (r:R2):Prop :=
 ∀(pins:List (Addr×Obj)) (s:y04) (σ:St) (H:Hp) (x y:V) (v u:Value) (Q:VK),Inv X pins σ H s->RelV x v->RelV y u->r x y H Q ->
  y0v (model X.prog X.w) X.A (f v u) (EP X pins σ Q) X.xe s
noncomputable def UnR (X:Cx) (f:Value->Sem Value) (r:V->Hp->VK->Prop):Prop :=
 ∀(pins:List (Addr×Obj)) (s:y04) (σ:St) (H:Hp) (x:V) (v:Value) (Q:VK),Inv X pins σ H s->RelV x v->r x H Q ->
  y0v (model X.prog X.w) X.A (f v) (EP X pins σ Q) X.xe s
noncomputable def zbt (X:Cx) (f:Value) (r:List V->Hp->VK->Prop):Prop :=
 ∀(pins:List (Addr×Obj)) (s:y04) (σ:St) (H:Hp) (xs:List V) (us:List Value) (Q:VK),Inv X pins σ H s->Vals xs us->r xs H Q ->
  y0v (model X.prog X.w) X.A (call f us) (EP X pins σ Q) X.xe s
noncomputable def TruR (X:Cx) (r:V->Hp->(Bool->Hp->Prop)->Prop):Prop :=
 ∀(pins:List (Addr×Obj)) (s:y04) (σ:St) (H:Hp) (x:V) (v:Value) (Q:Bool->Hp->Prop),Inv X pins σ H s->RelV x v->r x H Q ->
  y0v (model X.prog X.w) X.A (truthy v) (TP X pins σ Q) X.xe s
def tOp (r:R2) (ta tb:TE):TE:=fun σ H Q=>ta σ H fun x H1=>tb σ H1 fun y H2=>r x y H2 Q
def tUn (r:V->Hp->VK->Prop) (ta:TE):TE:=fun σ H Q=>ta σ H fun x H1=>r x H1 Q
def rI (C:Int->Int->Prop) (g:Int->Int->V):R2:=fun x y H Q=>∃i j,x=.int i/\y=.int j/\C i j/\Q (g i j) H
def rI0 (g:Int->Int->V):R2:=fun x y H Q=>∃i j,x=.int i/\y=.int j/\Q (g i j) H
def rU (g:Int->V):V->Hp->VK->Prop:=fun x H Q=>∃i,x=.int i/\Q (g i) H
section
variable {X:Cx} {a b c:Expr} {ta tb tc:TE} {pos:Pos}
theorem binT (ha:PE X a ta) (hb:PE X b tb) {pins:List (Addr×Obj)} {s:y04} {σ:St} {H:Hp} {R:V->V->Hp->Prop} (I:Inv X pins σ H s)
  (h:ta σ H fun x H1=>tb σ H1 fun y H2=>R x y H2) {Q:Value->y04->Prop} {f:Value->Value->Sem Value}
  (hf:∀v u s2 x y H2,Inv X pins σ H2 s2->RelV x v->RelV y u->R x y H2->y0v (model X.prog X.w) X.A (f v u) Q X.xe s2) :
  y0v (model X.prog X.w) X.A (eval a X.env) (fun v s₁=>y0v (model X.prog X.w) X.A (eval b X.env) (fun u s₂=>y0v (model X.prog X.w) X.A (f v u) Q X.xe s₂) X.xe s₁) X.xe s:=by
 refine thn (ha pins s σ H _ I h) fun v s1 ⟨x,H1,I1,r1,q1⟩=>?_
 refine thn (hb pins s1 σ H1 _ I1 q1) fun u s2 ⟨y,H2,I2,r2,q2⟩=>?_
 exact hf v u s2 x y H2 I2 r1 r2 q2
theorem zjy {op:Operator} {r:R2} (ho:OpR X (binaryOp op) r) (ha:PE X a ta) (hb:PE X b tb):PE X (.BinOp a op b pos) (tOp r ta tb):=by
 intro pins s σ H Q I h
 exact wpAny_BinOp (binT ha hb I h fun v u s2 x y H2 I2 rx ry q=>ho pins s2 σ H2 x y v u Q I2 rx ry q)
theorem zxv {op:UnaryOp} {r:V->Hp->VK->Prop} (ho:UnR X (unaryOp op) r) (ha:PE X a ta):PE X (.UnaryOp op a pos) (tUn r ta):=by
 intro pins s σ H Q I h
 exact UnaryOp_ (thn (ha pins s σ H _ I h) fun v s1 ⟨x,H1,I1,r1,q1⟩=>ho pins s1 σ H1 x v Q I1 r1 q1)
theorem opI {f:Value->Value->Sem Value} {C:Int->Int->Prop} {g:Int->Int->Int}
  (rule:∀(i j:Int) (t u:Tok) (s:y04) (Q:Value->y04->Prop) (E:Value->y04->Prop),C i j->Q (.int (g i j) s.toks) { s with toks:=s.toks+1 }->y0v (model X.prog X.w) X.A (f (.int i t) (.int j u)) Q E s) :
  OpR X f (rI C fun i j=>.int (g i j)):=by
 intro pins s σ H x y v u Q I rx ry h
 obtain⟨i,j,rfl,rfl,hc,q⟩:=h
 obtain⟨t,rfl⟩:=rx
 obtain⟨t',rfl⟩:=ry
 exact rule i j t t' s _ _ hc ⟨.int (g i j),H,I.tok _,⟨_,rfl⟩,q⟩
theorem opI0 {f:Value->Value->Sem Value} {g:Int->Int->Int}
  (rule:∀(i j:Int) (t u:Tok) (s:y04) (Q:Value->y04->Prop) (E:Value->y04->Prop),Q (.int (g i j) s.toks) { s with toks:=s.toks+1 }->y0v (model X.prog X.w) X.A (f (.int i t) (.int j u)) Q E s) :
  OpR X f (rI0 fun i j=>.int (g i j)):=by
 intro pins s σ H x y v u Q I rx ry h
 obtain⟨i,j,rfl,rfl,q⟩:=h
 obtain⟨t,rfl⟩:=rx
 obtain⟨t',rfl⟩:=ry
 exact rule i j t t' s _ _ ⟨.int (g i j),H,I.tok _,⟨_,rfl⟩,q⟩
theorem opB0 {f:Value->Value->Sem Value} {g:Int->Int->Bool}
  (rule:∀(i j:Int) (t u:Tok) (s:y04) (Q:Value->y04->Prop) (E:Value->y04->Prop),Q (.bool (g i j)) s->y0v (model X.prog X.w) X.A (f (.int i t) (.int j u)) Q E s) :
  OpR X f (rI0 fun i j=>.bl (g i j)):=by
 intro pins s σ H x y v u Q I rx ry h
 obtain⟨i,j,rfl,rfl,q⟩:=h
 obtain⟨t,rfl⟩:=rx
 obtain⟨t',rfl⟩:=ry
 exact rule i j t t' s _ _ ⟨.bl (g i j),H,I,rfl,q⟩
def CDiv (i j:Int):Prop:=0<j/\j<1073741824
def CMul (i j:Int):Prop:=(-(2 ^ 64)<i/\i<2 ^ 64)\/(-(2 ^ 64)<j/\j<2 ^ 64)
theorem CMul.ok {i j:Int} (h:CMul i j):IntMulOk i j:=by
 rcases h with ⟨h1,h2⟩|⟨h1,h2⟩
 ·exact .of_left (intBits_le_64 h1 h2)
 ·exact .of_right (intBits_le_64 h1 h2)
theorem zsu:OpR X (binaryOp .Add) (rI0 fun i j=>.int (i+j)):=opI0 fun _ _ _ _ _ _ _ q=>add_int q
theorem zwf:OpR X (binaryOp .Sub) (rI0 fun i j=>.int (i - j)):=opI0 fun _ _ _ _ _ _ _ q=>sub_int q
theorem zwg:OpR X (binaryOp .Mult) (rI CMul fun i j=>.int (i*j)):=opI fun _ _ _ _ _ _ _ hc q=>mul_int q hc.ok
theorem zua:OpR X (binaryOp .FloorDiv) (rI CDiv fun i j=>.int (i / j)):=opI fun i j _ _ _ _ _ hc q=>by
 have h1:(0:Int)<j:=hc.1
 have h2:j<1073741824:=hc.2
 exact floordiv_int (by omega) (by rw[Int.fdiv_eq_ediv_of_nonneg i (by omega)];exact q) (.inl (PyProof.noPylong_small (by omega)))
theorem zwh:OpR X (binaryOp .Mod) (rI (fun _ j=>0<j) fun i j=>.int (i % j)):=opI fun i j _ _ _ _ _ hc q=>by
 have h1:(0:Int)<j:=hc
 exact mod_int' (by omega) (by rw[Int.fmod_eq_emod_of_nonneg i (by omega)];exact q)
theorem unI {f:Value->Sem Value} {g:Int->Int}
  (rule:∀(i:Int) (t:Tok) (s:y04) (Q:Value->y04->Prop) (E:Value->y04->Prop),Q (.int (g i) s.toks) { s with toks:=s.toks+1 }->y0v (model X.prog X.w) X.A (f (.int i t)) Q E s) :
  UnR X f (rU fun i=>.int (g i)):=by
 intro pins s σ H x v Q I rx h
 obtain⟨i,rfl,q⟩:=h
 obtain⟨t,rfl⟩:=rx
 exact rule i t s _ _ ⟨.int (g i),H,I.tok _,⟨_,rfl⟩,q⟩
theorem zvb:UnR X (unaryOp .USub) (rU fun i=>.int (-i)):=unI fun _ _ _ _ _ q=>neg_int q
end
section
variable {X:Cx} {a b c:Expr} {ta tb tc:TE} {pos:Pos}
theorem zlr {pins:List (Addr×Obj)} {σ:St} {H:Hp} {s:y04} {Q:VK} {k k':Bool} (I:Inv X pins σ H s) (q:Q (.bl k) H) (e:k=k'):EP X pins σ Q (.bool k') s:=by
 subst e
 exact⟨.bl k,H,I,rfl,q⟩
theorem zoi:OpR X (compareOp .Lt) (rI0 fun i j=>.bl (decide (i<j))):=opB0 fun _ _ _ _ _ _ _ q=>lt_int q
theorem zu9:OpR X (compareOp .LtE) (rI0 fun i j=>.bl (decide (i<=j))):=opB0 fun _ _ _ _ _ _ _ q=>le_int q
theorem zmj:OpR X (compareOp .Gt) (rI0 fun i j=>.bl (decide (j<i))):=opB0 fun _ _ _ _ _ _ _ q=>gt_int q
theorem zwi:OpR X (compareOp .GtE) (rI0 fun i j=>.bl (decide (j<=i))):=opB0 fun _ _ _ _ _ _ _ q=>ge_int q
theorem z8g:OpR X (compareOp .Lt) (fun x y H Q=>∃i j,x=.str i/\y=.str j/\Q (.bl (decide (i.cps.toList<j.cps.toList))) H):=by
 intro pins s σ H x y v u Q I rx ry h
 obtain⟨i,j,rfl,rfl,q⟩:=h
 obtain⟨t,rfl⟩:=rx
 obtain⟨t',rfl⟩:=ry
 exact lt_str (zlr I q rfl)
theorem OpR.or {f:Value->Value->Sem Value} {r r':R2} (h:OpR X f r) (h':OpR X f r'):OpR X f (fun x y H Q=>r x y H Q\/r' x y H Q):=by
 intro pins s σ H x y v u Q I rx ry q
 rcases q with q|q
 ·exact h pins s σ H x y v u Q I rx ry q
 ·exact h' pins s σ H x y v u Q I rx ry q
theorem zor (b:Expr) {op:CmpOp} (h:op≠.In:=by decide) (h2:op≠.NotIn:=by decide):behindInMarks op b=false:=by
 have e1:(op == CmpOp.In)=false:=by cases op <;> first|rfl|exact absurd rfl h
 have e2:(op == CmpOp.NotIn)=false:=by cases op <;> first|rfl|exact absurd rfl h2
 cases b <;> simp[behindInMarks,e1,e2]
theorem zu5 {op:CmpOp} {r:R2} (ho:OpR X (compareOp op) r) (ha:PE X a ta) (hb:PE X b tb) (hm:behindInMarks op b=false):PE X (.Compare a [op] [b] pos) (tOp r ta tb):=by
 intro pins s σ H Q I h
 exact wpAny_Compare1 (binT ha hb I h fun v u s2 x y H2 I2 rx ry q=>ho pins s2 σ H2 x y v u Q I2 rx ry q) hm
def zxa (t:TE):TT:=fun σ H Q=>t σ H fun x H'=>∃k,x=.bl k/\Q k H'
theorem zo9 {op:CmpOp} {r:R2} (ho:OpR X (compareOp op) r) (ha:PE X a ta) (hb:PE X b tb) (hm:behindInMarks op b=false):PT X (.Compare a [op] [b] pos) (zxa (tOp r ta tb)):=by
 intro pins s σ H Q I h
 refine wpAny_isTrue_Compare1 (thn (ha pins s σ H _ I h) fun v s1 ⟨x,H1,I1,r1,q1⟩=>thn (hb pins s1 σ H1 _ I1 q1) fun u s2 ⟨y,H2,I2,r2,q2⟩ =>
  thn (ho pins s2 σ H2 x y v u _ I2 r1 r2 q2) fun c s3 ⟨z,H3,I3,r3,k,e,q3⟩=>?_) hm
 subst e
 cases r3
 exact wpAny_truthy_bool ⟨H3,I3,q3⟩
noncomputable def TruV (K:y00) (x:V) (H:Hp) (k:Bool):Prop :=
 match x with
 | .non=>k=false
 | .bl b=>k=b
 | .int i=>k=(i != 0)
 | .str y=>y.length<=y0k/\k=((y.length:Int) != 0)
 | .byt y=>y.size<=y0k/\k=((y.size:Int) != 0)
 | .ref p=>(∃xs,SqL K H p xs/\k=!xs.isEmpty)\/(∃xs,SqT K H p xs/\k=!xs.isEmpty)\/∃kvs,H p=some (.dK kvs)/\k=!kvs.isEmpty
 | _=>False
theorem zmp {κ:Type} {kvs:List (κ×V)} {vs:List (κ×Value)} (r:KV kvs vs):(!vs.isEmpty)=!kvs.isEmpty:=by
 cases r <;> rfl
theorem zfl {xs:List V} {its:List Value} (r:Vals xs its):(!its.toArray.isEmpty)=!xs.isEmpty:=by
 cases r <;> simp
theorem zfk:(y0k:Nat)<2 ^ 63:=by rw[sizeLine_eq];decide
theorem zvc:TruR X (fun x H Q=>∃k,TruV X.K x H k/\Q k H):=by
 intro pins s σ H x v Q I rx h
 obtain⟨k,e,q⟩:=h
 have hl:=zfk
 have hs:y0k=16777216:=sizeLine_eq
 cases x with
 | non =>
  cases rx
  have e':k=false:=e
  subst e'
  exact truthy_none ⟨H,I,q⟩
 | bl b =>
  cases rx
  have e':k=b:=e
  subst e'
  exact wpAny_truthy_bool ⟨H,I,q⟩
 | int i =>
  obtain⟨t,rfl⟩:=rx
  have e':k=(i != 0):=e
  subst e'
  exact PySem.P.truthy_int ⟨H,I,q⟩
 | str y =>
  obtain⟨t,rfl⟩:=rx
  obtain⟨hy,e'⟩:y.length<=y0k/\k=((y.length:Int) != 0):=e
  subst e'
  exact PySem.P.truthy_str (by omega) ⟨H,I.tok _,q⟩
 | byt y =>
  obtain⟨t,rfl⟩:=rx
  obtain⟨hy,e'⟩:y.size<=y0k/\k=((y.size:Int) != 0):=e
  subst e'
  exact PySem.W.truthy_bytes (by omega) ⟨H,I.tok _,q⟩
 | ref p =>
  cases rx
  have e':(∃xs,SqL X.K H p xs/\k=!xs.isEmpty)\/(∃xs,SqT X.K H p xs/\k=!xs.isEmpty)\/∃kvs,H p=some (.dK kvs)/\k=!kvs.isEmpty:=e
  rcases e' with ⟨xs,hx,e'⟩|⟨xs,hx,e'⟩|⟨kvs,hx,e'⟩
  ·subst e'
   obtain⟨its,r,pl,hz⟩:=I.list hx
   have hlen:=r.length
   exact wpAny_truthy_list pl.isList (by simp only[y0i];omega) ⟨H,I.tok _,by rw[zfl r];exact q⟩
  ·subst e'
   obtain⟨its,r,pl,hz⟩:=I.tuple hx
   have hlen:=r.length
   exact truthy_tuple pl (by simp only[y0i];omega) ⟨H,I.tok _,by rw[zfl r];exact q⟩
  ·subst e'
   obtain⟨hz,hS,vs,r,m⟩:kvs.length<=y0k/\(p == sysModules)=false/\∃vs,KV kvs vs/\s.heap.DictOf (z1u X.prog X.w) p vs:=I.hok p _ hx
   have hlen:kvs.length=vs.length:=Paired.length r
   exact wpAny_truthy_dict hS m (by omega) ⟨H,I.tok _,by rw[zmp r];exact q⟩
 | _=>exact (show False from e).elim
theorem zr1 (ha:PE X a ta) (he:∀whole,isTrue a X.env whole=(do let v <- whole;standAt a.pos;holding [v] (truthy v))) :
  PT X a (fun σ H Q=>ta σ H fun x H'=>∃k,TruV X.K x H' k/\Q k H'):=by
 intro pins s σ H Q I h
 exact isTrue_plain (thn (ha pins s σ H _ I h) fun v s1 ⟨x,H1,I1,r1,q1⟩=>zvc pins s1 σ H1 x v Q I1 r1 q1) (he _)
theorem zf5:OpR X (binaryOp .Add) (fun x y H Q=>∃i j,x=.str i/\y=.str j/\i.length+j.length<=y0k/\Q (.str (i++j)) H):=by
 intro pins s σ H x y v u Q I rx ry h
 obtain⟨i,j,rfl,rfl,hz,q⟩:=h
 obtain⟨t,rfl⟩:=rx
 obtain⟨t',rfl⟩:=ry
 exact add_str (fun t' tk=>⟨.str (i++j),H,I.tok _,⟨_,rfl⟩,q⟩) hz
theorem zm4 {x:V} {us:List Value} (r:Vals [x] us):∃u,us=[u]/\RelV x u:=by
 cases r with
 | cons r1 r2=>cases r2;exact⟨_,rfl,r1⟩
theorem zx7 {x y:V} {us:List Value} (r:Vals [x,y] us):∃u w',us=[u,w']/\RelV x u/\RelV y w':=by
 cases r with
 | cons r1 r2 =>
  cases r2 with
  | cons r3 r4=>cases r4;exact⟨_,_,rfl,r1,r3⟩
theorem zpw (hc:X.calm=true):zbt X (.builtin "max") (fun xs H Q=>∃i j,xs=[.int i,.int j]/\Q (.int (if j > i then j else i)) H):=by
 intro pins s σ H xs us Q I r h
 obtain⟨i,j,rfl,q⟩:=h
 obtain⟨u,w',rfl,⟨t,rfl⟩,⟨t',rfl⟩⟩:=zx7 r
 refine max_two_ints (I.ok.hd hc) fun h' tk k=>⟨_,H,I.kept k,?_,q⟩
 by_cases hj:j > i
 ·rw[if_pos hj,if_pos hj];exact⟨_,rfl⟩
 ·rw[if_neg hj,if_neg hj];exact⟨_,rfl⟩
end
end L2
namespace L2
open PySem PySem.Spec PyProof.Rows
structure ObjM (h:Heap) (x dx C:Addr) (mA:Str->Option Value):Prop where
 obj:h.get? x=some (y25 C dx)
 ns:h.Ns1 dx mA
 ne:dx≠x
theorem zou {h:Heap} {dx:Addr} {mA:Str->Option Value} (n:h.Ns1 dx mA):∃od,h.get? dx=some od/\∀name,PySem.W.lookIn name od=some (mA name):=by
 obtain⟨o,es,ep,ho,hd,hk,_,hm⟩:=n
 refine⟨o,ho,fun name=>?_⟩
 have e:=hm name
 unfold nsFind findBy at e
 rw[<- Array.find?_toList] at e
 unfold PySem.W.lookIn
 rw[hd]
 dsimp only
 split
 ·rename_i y q
  rw[q] at e
  exact congrArg some e
 ·rename_i q
  rw[q] at e
  have a:es.toList.any (·.refKey)=false:=by
   rw[List.any_eq_false]
   intro y hy
   obtain⟨z,t,hkey⟩:=hk y (Array.mem_toList_iff.mp hy)
   simp[DictEntry.refKey,hkey]
  have a':¬es.toList.any (·.refKey)=true:=by rw[a];exact y2b
  rw[if_neg a']
  exact congrArg some e
theorem ObjM.look {h:Heap} {x dx C:Addr} {mA:Str->Option Value} (I:ObjM h x dx C mA):∃od,PySem.W.InstAt h x (y25 C dx) C (some od)/\∀name,PySem.W.lookIn name od=some (mA name) :=
 let ⟨od,ho,hl⟩:=zou I.ns
 ⟨od,⟨I.obj,rfl,rfl,ho⟩,hl⟩
section
variable {prog:y0r} {w:World} {A:Around} {E:Value->y04->Prop} {s:y04} {K:y00} {x dx C f:Addr} {mA:Str->Option Value} {name:Str} {v:Value}
theorem zup {expr:Bool} {Q:Value->y04->Prop} (X:K.In s.heap) (I:ObjM s.heap x dx C mA) (hg:PySem.W.plainGet K C name=true) (hh:PySem.W.hasDictIn K C=true)
  (ha:y0d K (.ref C) name=some none) (hv:mA name=some v) (hv':PySem.W.handedIn v=true) (h:Q v { s with toks:=s.toks+1 }) :
  y0v (model prog w) A (getAttr (.ref x) name expr) Q E s:=by
 obtain⟨od,J,hl⟩:=I.look
 exact PySem.W.get_value X J (PySem.W.plainGet_of hg).1 (PySem.W.findObj_own hh ha rfl (by rw[hl,hv])) hv' h
theorem zrp {pl:Sem Bool} {Q:Value×List Value->y04->Prop} (X:K.In s.heap) (I:ObjM s.heap x dx C mA) (hg:PySem.W.plainGet K C name=true)
  (hf:y0d K (.ref C) name=some (some (.ref f))) (ht:y0z K (.ref f)=true) (hv:mA name=none) (h:Q (.ref f,[.ref x]) s) :
  y0v (model prog w) A (getMethod (.ref x) name pl) Q E s:=by
 obtain⟨od,J,hl⟩:=I.look
 exact PySem.W.method_fn X J (PySem.W.plainGet_of hg).1 (PySem.W.plainGet_of hg).2 hf (beq_iff_eq.mp ht) (by show (PySem.W.lookIn name od).map (·.isSome)=some false;rw[hl,hv];rfl) h
theorem zti {ns:List Str} {Q:Unit->y04->Prop} (X:K.In s.heap) (I:ObjM s.heap x dx C mA)
  (hs:y0d K (.ref C) "__setattr__"=some (some (.builtin "object.__setattr__"))) (hp:PySem.W.plainOver K C=true) (ht:PySem.W.takerIn K C name=some none) (hh:PySem.W.hasDictIn K C=true)
  (hw:PySem.Within mA ns) (hsz:ns.length<=y0k)
  (h:∀h',ObjM h' x dx C (fun y=>if y=name then some v else mA y)->Heap.SameBut dx s.heap h'->Q () { s with heap:=h',toks:=s.toks+2 }) :
  y0v (model prog w) A (setAttr (.ref x) name v) Q E s:=by
 obtain⟨od,J,hl⟩:=I.look
 refine PySem.W.set_plain X J hs (PySem.W.osa_open (s:={ s with toks:=s.toks+1 }) (r:=none) X J hp ht fun b=>?_)
 obtain⟨cd,hc,hd'⟩:=PySem.W.any_some hh
 have hx:s.heap.get? x=some ⟨.ref C,some dx,.plain,#[]⟩:=I.obj
 refine y02 (y06 (y02 (y02 (wpAny_loadPart hx (y02 (PySem.W.Looks.here (s:={ s with toks:=s.toks+1 }) (PySem.W.looks_clsIn X hc) ?_))))))
 rw[hd']
 refine y06 (a:=some dx) (y02 (y06 (y02 ?_)))
 refine wpAny_nsSet1 (s:={ s with toks:=s.toks+1 }) I.ns fun h' hn2 hs2=>?_
 obtain⟨oD,esD,epD,hoD,hdD,hcD⟩:=hn2.count (PySem.Within.cons name v hw)
 refine y02 (wpAny_lookBehind hoD (by rw[hdD];exact pastItsLine_dict (y1u hcD (by rw[y0x];omega))) ?_)
 exact y06 (h _ ⟨(hs2.2 _ (Ne.symm I.ne)).trans I.obj,hn2,I.ne⟩ hs2)
theorem zrd {R:Result->y04->Prop} {vs:List Value} {kw:List (Str×Value)} (X:K.In s.heap) (hm:PySem.W.makesIn K C=true)
  (hi:y0d K (.ref C) "__init__"=some (some (.ref f))) (hf:PySem.W.typeIn K (.ref f)=some (.type "function"))
  (h:codeAny (model prog w) (A.under (.builtin "type.__call__" ⟨.ref C::vs,kw⟩)) (.call (.ref f) ⟨.ref (s.heap.objs.size+1)::vs,kw⟩) (PySem.W.InitBack (s.heap.objs.size+1) R)
   { s with heap:=(s.heap.push y1q).push (y25 C s.heap.objs.size) }) :
  codeAny (model prog w) A (.call (.ref C) ⟨vs,kw⟩) R s:=by
 obtain⟨hh,g,d,t,os⟩:=s
 exact PySem.W.make_core (PySem.W.makes_of X hm) (PySem.W.looks_findIn X hi) (fun self=>PySem.W.bind_fn X self hf) (.inl rfl) h
end
def putF (f:Str) (v:V):List (Str×V)->List (Str×V)
  | []=>[(f,v)]
  | (g,x)::r=>if g=f then (g,v)::r else (g,x)::putF f v r
theorem zdj (f g:Str) (v:V):∀fs:List (Str×V),(putF f v fs).lookup g=if g=f then some v else fs.lookup g
  | []=>by
    show y1n g [(f,v)]=_
    by_cases h:g=f
    · have hb:(g == f)=true:=beq_iff_eq.mpr h
      simp only[y1n,hb,if_pos h]
    · have hb:(g == f)=false:=beq_eq_false_iff_ne.mpr h
      simp only[y1n,hb,if_neg h]
  | (k,x)::r=>by
    have ih:=zdj f g v r
    rw[show putF f v ((k,x)::r)=(if k=f then (k,v)::r else (k,x)::putF f v r) from rfl]
    by_cases hk:k=f
    · rw[if_pos hk]
      by_cases h:g=k
      · have hb:(g == k)=true:=beq_iff_eq.mpr h
        simp only[y1n,hb,if_pos (h.trans hk)]
      · have hb:(g == k)=false:=beq_eq_false_iff_ne.mpr h
        simp only[y1n,hb,if_neg (fun e:g=f=>h (e.trans hk.symm))]
    · rw[if_neg hk]
      by_cases h:g=k
      · have hb:(g == k)=true:=beq_iff_eq.mpr h
        simp only[y1n,hb,if_neg (fun e:g=f=>hk (h.symm.trans e))]
      · have hb:(g == k)=false:=beq_eq_false_iff_ne.mpr h
        simp only[y1n,hb]
        exact ih
theorem zdp (f:Str) (v:V):∀fs:List (Str×V),f∈(putF f v fs).map (·.1)/\∀g,g∈fs.map (·.1)->g∈(putF f v fs).map (·.1)
  | []=>⟨by simp[putF],fun g h=>by simp at h⟩
  | (k,x)::r=>by
    obtain⟨i1,i2⟩:=zdp f v r
    rw[show putF f v ((k,x)::r)=(if k=f then (k,v)::r else (k,x)::putF f v r) from rfl]
    by_cases hk:k=f
    · rw[if_pos hk]
      subst hk
      exact⟨by simp,fun g h=>by simpa using h⟩
    · rw[if_neg hk]
      refine⟨?_,fun g h=>?_⟩
      · rw[y0e]
        exact y05 _ i1
      · rw[y0e] at h ⊢
        rcases y09.mp h with e|e
        · exact y09.mpr (.inl e)
        · exact y05 _ (i2 g e)
theorem zdm (f:Str) (v:V):∀fs:List (Str×V),(putF f v fs).length<=fs.length+1
  | []=>by simp[putF]
  | (k,x)::r=>by
    have ih:=zdm f v r
    rw[show putF f v ((k,x)::r)=(if k=f then (k,v)::r else (k,x)::putF f v r) from rfl]
    by_cases hk:k=f
    · rw[if_pos hk,y0x,y0x];omega
    · rw[if_neg hk,y0x,y0x];omega
theorem RelO.some_of {v:V} {o:Option Value} (r:RelO (some v) o):∃u,o=some u/\RelV v u:=by
 cases o with
 | none=>exact (show False from r).elim
 | some u=>exact⟨u,rfl,r⟩
theorem RelO.none_of {o:Option Value} (r:RelO none o):o=none:=by
 cases o with
 | none=>rfl
 | some u=>exact (show False from r).elim
theorem zpg {v:V} {u:Value} (r:RelV v u):PySem.W.handedIn u=true:=by
 cases v with
 | non=>cases (show u=Value.none from r);rfl
 | bl b=>cases (show u=Value.bool b from r);rfl
 | int i=>obtain⟨t,e⟩:=(show ∃t,u=Value.int i t from r);cases e;rfl
 | str x=>obtain⟨t,e⟩:=(show ∃t,u=Value.str x t from r);cases e;rfl
 | byt b=>obtain⟨t,e⟩:=(show ∃t,u=Value.bytes b t from r);cases e;rfl
 | flt b=>obtain⟨t,e⟩:=(show ∃t,u=Value.float b t from r);cases e;rfl
 | ref a=>cases (show u=Value.ref a from r);rfl
 | ty n=>cases (show u=Value.type n from r);rfl
section
variable {P:y0r} {w:World} {H H':Hp} {h h':Heap} {a C dx:Addr} {fs fs':List (Str×V)}
theorem zk5 (hok:HOk P w H h) (e:H a=some (.ins C dx fs)):∃mA,ObjM h a dx C mA/\(∀f,RelO (fs.lookup f) (mA f))/\PySem.Within mA (fs.map (·.1))/\fs.length<=1000/\H dx=some (.own a):=by
 obtain⟨d,z,ne,ob,mA,n,r,q⟩:=(show z6e P w H h a (.ins C dx fs) from hok a _ e)
 exact⟨mA,⟨ob,n,ne⟩,r,q,z,d⟩
end
structure Cls (K:y00) (C:Addr):Prop where
 pg:PySem.W.plainGet K C Str.empty=true
 hd:PySem.W.hasDictIn K C=true
 po:PySem.W.plainOver K C=true
 sa:y0d K (.ref C) "__setattr__"=some (some (.builtin "object.__setattr__"))
theorem Cls.get {K:y00} {C:Addr} (c:Cls K C) (f:Str):PySem.W.plainGet K C f=true:=c.pg
def zb2 (K:y00) (C:Addr) (f:Str):Prop:=y0d K (.ref C) f=some none
theorem zb2.taker {K:y00} {C:Addr} {f:Str} (n:zb2 K C f):PySem.W.takerIn K C f=some none:=by
 unfold PySem.W.takerIn
 rw[show y0d K (.ref C) f=some none from n]
 rfl
structure Meth (K:y00) (C:Addr) (m:Str) (f:Addr):Prop where
 at_:y0d K (.ref C) m=some (some (.ref f))
 fn:y0z K (.ref f)=true
 kp:y08 K (.ref f)=true
section
variable {X:Cx} {pins:List (Addr×Obj)} {σ:St} {H:Hp} {s:y04} {a C dx:Addr} {fs:List (Str×V)} {f:Str} {v:V} {A:Around} {E:Value->y04->Prop}
theorem zfo {b:Bool} {Q:Value->y04->Prop} (I:Inv X pins σ H s) (e:H a=some (.ins C dx fs)) (c:Cls X.K C) (n:zb2 X.K C f) (l:fs.lookup f=some v)
  (h:∀u s',Inv X pins σ H s'->RelV v u->Q u s'):y0v (model X.prog X.w) A (getAttr (.ref a) f b) Q E s:=by
 obtain⟨mA,O,r,_,_,_⟩:=zk5 I.hok e
 obtain⟨u,hu,ru⟩:=RelO.some_of (v:=v) (o:=mA f) (by rw[<- l];exact r f)
 exact zup I.kIn O (c.get f) c.hd n hu (zpg ru) (h u _ (I.tok _) ru)
theorem zfn {m:Str} {g:Addr} {pl:Sem Bool} {Q:Value×List Value->y04->Prop} (I:Inv X pins σ H s) (e:H a=some (.ins C dx fs)) (c:Cls X.K C) (k:Meth X.K C m g) (l:fs.lookup m=none)
  (h:Q (.ref g,[.ref a]) s):y0v (model X.prog X.w) A (getMethod (.ref a) m pl) Q E s:=by
 obtain⟨mA,O,r,_,_,_⟩:=zk5 I.hok e
 have hn:mA m=none:=RelO.none_of (by rw[<- l];exact r m)
 exact zrp I.kIn O (c.get m) k.at_ k.fn hn h
theorem zeu {y:V} {u:Value} {Q:Unit->y04->Prop} (I:Inv X pins σ H s) (e:H a=some (.ins C dx fs)) (c:Cls X.K C) (n:zb2 X.K C f) (hl:fs.length<1000) (ry:RelV y u)
  (h:∀s',Inv X pins σ (upd H a (.ins C dx (putF f y fs))) s'->Q () s'):y0v (model X.prog X.w) A (setAttr (.ref a) f u) Q E s:=by
 obtain⟨mA,O,r,wi,_,ho⟩:=zk5 I.hok e
 have hz:(fs.map (·.1)).length<=y0k:=by rw[y16,sizeLine_eq];omega
 refine zti I.kIn O c.sa c.po n.taker c.hd wi hz fun h' O' sb=>h _ ?_
 have hd:∃o,h'.get? dx=some o:=let ⟨o,_,_,e',_⟩:=O'.ns;⟨o,e'⟩
 refine I.write (x:=a) (e:=dx) (by rw[e];exact True.intro) (.inr ho) (fun b q hb z=>(sb.2 b hb).trans z) hd ?_
 refine⟨by rw[z0d O.ne];exact ho,?_,O.ne,O'.obj,_,O'.ns,fun g=>?_,fun g hg=>?_⟩
 ·have:=zdm f y fs;omega
 ·show RelO ((putF f y fs).lookup g) (if g=f then some u else mA g)
  rw[zdj]
  by_cases q:g=f
  ·rw[if_pos q,if_pos q];exact ry
  ·rw[if_neg q,if_neg q];exact r g
 ·by_cases q:g=f
  ·rw[q];exact (zdp f y fs).1
  ·refine (zdp f y fs).2 g (wi g fun z=>hg ?_)
   show (if g=f then some u else mA g)=none
   rw[if_neg q];exact z
theorem Inv.made (I:Inv X pins σ H s):Inv X pins σ (upd (upd H s.heap.objs.size (.own (s.heap.objs.size+1))) (s.heap.objs.size+1) (.ins C s.heap.objs.size []))
  { s with heap:=(s.heap.push y1q).push (y25 C s.heap.objs.size) }:=by
 have e1:(s.heap.push y1q).get? s.heap.objs.size=some y1q:=y0m s.heap rfl
 have e2:((s.heap.push y1q).push (y25 C s.heap.objs.size)).get? (s.heap.objs.size+1)=some (y25 C s.heap.objs.size):=by
  have:=y0m (s.heap.push y1q) (o:=y25 C s.heap.objs.size) rfl
  rwa [y1a] at this
 have e3:(s.heap.push y1q).Ns s.heap.objs.size (fun _=>none):=⟨y1q,#[],_,e1,rfl,(fun e he=>absurd he (by simp)),fun _=>rfl⟩
 have I1:=I.laid (a:=s.heap.objs.size) (o:=.own (s.heap.objs.size+1)) (h':=s.heap.push y1q) (t':=s.toks) (fun b u q=>y03 _ q) (y0p _) ⟨_,e1⟩
 refine I1.laid (a:=s.heap.objs.size+1) (o:=.ins C s.heap.objs.size []) (t':=s.toks) (fun b u q=>y03 _ q) (Nat.le_of_eq (y1a _ _)) ?_
 have ne:s.heap.objs.size≠s.heap.objs.size+1:=y10 (Nat.lt_succ_self _)
 refine⟨by rw[z0d ne,z0c],y2c _,ne,e2,fun _=>none,(Heap.Ns1.of_empty e3).at fun o q=>y03 _ q,fun _=>True.intro,fun y hy=>absurd rfl hy⟩
theorem zv6 {prog:y0r} {w:World} {env:Env} {e:Expr} {f:Str} {pos:Pos} {s:y04} {Q:Value->y04->Prop} (hb:attributeBase e f env (eval e env)=eval e env)
  (h:y0v (model prog w) A (eval e env) (fun o s₁=>y0v (model prog w) A (getAttr o f true) Q E s₁) E s):y0v (model prog w) A (eval (.Attribute e f pos) env) Q E s :=
 Attribute_any_ h (by rw[arm_eval_Attribute,hb])
end
def tFld (K:y00) (ta:TE) (f:Str):TE:=fun σ H Q=>ta σ H fun x H1=>∃a C dx fs v,x=.ref a/\H1 a=some (.ins C dx fs)/\Cls K C/\zb2 K C f/\fs.lookup f=some v/\Q v H1
noncomputable def sFld (K:y00) (ta tv:TE) (f:Str):TS:=fun D σ H=>tv σ H fun y H1=>ta σ H1 fun x H2=>∃a C dx fs,x=.ref a/\H2 a=some (.ins C dx fs)/\Cls K C/\zb2 K C f/\fs.length<1000 /\
 D.nx σ (upd H2 a (.ins C dx (putF f y fs)))
noncomputable def InOp (X:Cx) (op:Operator) (rd:V->V->Hp->VK->Prop):Prop :=
 ∀(pins:List (Addr×Obj)) (s:y04) (σ:St) (H:Hp) (x y:V) (u v:Value) (Q:VK),Inv X pins σ H s->RelV x u->RelV y v->rd x y H Q->y0v (model X.prog X.w) X.A (inplaceOp op u v) (EP X pins σ Q) X.xe s
noncomputable def ztn (K:y00) (ta tv:TE) (rd:V->V->Hp->VK->Prop) (f:Str):TS:=fun D σ H=>ta σ H fun x H1=>∃a C dx fs v,x=.ref a/\H1 a=some (.ins C dx fs)/\Cls K C/\zb2 K C f/\fs.lookup f=some v /\
 tv σ H1 fun y H2=>rd v y H2 fun z H3=>∃dx' fs',H3 a=some (.ins C dx' fs')/\fs'.length<1000/\D.nx σ (upd H3 a (.ins C dx' (putF f z fs')))
section
variable {X:Cx} {o e value:Expr} {f:Str} {pos pos' tpos:Pos} {ta tv:TE}
theorem z9q (he:PE X e ta) (hb:attributeBase e f X.env (eval e X.env)=eval e X.env):PE X (.Attribute e f pos) (tFld X.K ta f):=by
 intro pins s σ H Q I h
 refine zv6 hb (thn (he pins s σ H _ I h) fun u s1 ⟨x,H1,I1,rx,a,C,dx,fs,v,ex,ea,c,n,l,q⟩=>?_)
 subst ex
 obtain rfl:u=Value.ref a:=rx
 exact zfo I1 ea c n l fun u' s2 I2 ru=>⟨v,H1,I2,ru,q⟩
theorem zob (ha:PE X o ta) (hv:PE X value tv) (hs:swapsWith value (some (.Attribute o f pos')) pos.line X.env=pure false):PS X (.Assign [.Attribute o f pos'] value pos) (sFld X.K ta tv f):=by
 intro pins s σ H D I h
 refine plainObj_wpAny_Assign_Attribute (thn (hv pins s σ H _ I h) fun u s1 ⟨y,H1,I1,ry,q⟩=>thn (ha pins s1 σ H1 _ I1 q) fun ov s2 ⟨x,H2,I2,rx,a,C,dx,fs,ex,ea,c,n,l,q2⟩=>?_) hs
 subst ex
 obtain rfl:ov=Value.ref a:=rx
 exact zeu I2 ea c n l ry fun s3 I3=>⟨σ,_,I3,q2⟩
theorem zoa {op:Operator} {rd:V->V->Hp->VK->Prop} (ha:PE X o ta) (hv:PE X value tv) (hop:InOp X op rd):PS X (.AugAssign (.Attribute o f tpos) op value pos) (ztn X.K ta tv rd f):=by
 intro pins s σ H D I h
 refine wpAny_AugAssign_AttributeAny (thn (ha pins s σ H _ I h) fun ov s1 ⟨x,H1,I1,rx,a,C,dx,fs,v,ex,ea,c,n,l,q⟩=>?_)
 subst ex
 obtain rfl:ov=Value.ref a:=rx
 refine zfo I1 ea c n l fun u s2 I2 ru=>thn (hv pins s2 σ H1 _ I2 q) fun w3 s3 ⟨y,H2,I3,ry,q3⟩=>thn (hop pins s3 σ H2 v y u w3 _ I3 ru ry q3) fun w4 s4 ⟨z,H3,I4,rz,dx',fs',ea',l',q4⟩=>?_
 exact zeu I4 ea' c n l' rz fun s5 I5=>⟨σ,_,I5,q4⟩
def rAdd:V->V->Hp->VK->Prop:=fun x y H Q=>∃i j,x=.int i/\y=.int j/\Q (.int (i+j)) H
theorem zt4:InOp X .Add rAdd:=by
 rintro pins s σ H x y u v Q I rx ry ⟨i,j,rfl,rfl,q⟩
 obtain⟨t,rfl⟩:=(show ∃t,u=Value.int i t from rx)
 obtain⟨t',rfl⟩:=(show ∃t',v=Value.int j t' from ry)
 exact PyProof.Rows.iadd_int ⟨.int (i+j),H,I.tok _,⟨_,rfl⟩,q⟩
end
section
variable {X:Cx} {pins:List (Addr×Obj)} {σ:St} {H:Hp} {s:y04} {A:Around} {E:Value->y04->Prop} {Q:Value->y04->Prop} {c:Value} {b:Bool}
end
end L2
namespace L2
open PySem PySem.Spec PyProof.Rows
structure Room (k:Nat) (A:Around):Prop where
 hd:A.handled=none
 dp:A.depth+3*k+5<recursionLimit
 un:A.units+16*k+200<cLine
theorem Room.mono {j k:Nat} {A:Around} (r:Room k A) (h:j<=k):Room j A:=⟨r.hd,by have:=r.dp;omega,by have:=r.un;omega⟩
theorem Room.deeper {k:Nat} {A:Around} (r:Room (k+1) A) (env:Env):Room k (A.deeper env) :=
 ⟨r.hd,by have:=r.dp;show A.depth+1+3*k+5<_;omega,by have:=r.un;show A.units+3+16*k+200<_;omega⟩
theorem zmn {A:Around} {C:Addr} {us:List Value} {kw:List (Str×Value)}:(A.under (.builtin "type.__call__" ⟨.ref C::us,kw⟩)).depth=A.depth+1:=by
 first|rfl|simp[Around.under,Code.weight,Code.isCreation,Code.isGuard,Code.isCaller,Code.frames,Code.isFrame,guardIds]
theorem zmm {A:Around} {C:Addr} {us:List Value} {kw:List (Str×Value)}:(A.under (.builtin "type.__call__" ⟨.ref C::us,kw⟩)).units=A.units+1:=by
 first|rfl|simp[Around.under,Code.cUnits,Code.frames,Code.isFrame]
theorem Room.make {k:Nat} {A:Around} (r:Room (k+1) A) (C:Addr) (us:List Value) (kw:List (Str×Value)):Room k (A.under (.builtin "type.__call__" ⟨.ref C::us,kw⟩)) :=
 ⟨r.hd,by have:=r.dp;rw[zmn];omega,by have:=r.un;rw[zmm];omega⟩
theorem Room.depth {k:Nat} {A:Around} (r:Room k A):A.depth<recursionLimit:=by have:=r.dp;omega
theorem Room.units {k:Nat} {A:Around} (r:Room k A):A.units+64<cLine:=by have:=r.un;omega
def tNil:TA:=fun _ H Q=>Q [] H
def ztf (ta:TE) (tr:TA):TA:=fun σ H Q=>ta σ H fun x H1=>tr σ H1 fun xs H2=>Q (x::xs) H2
section
variable {X:Cx} {e:Expr} {es:List Expr} {te:TE} {t:TA} {pos:Pos}
theorem z6x:PA X [] tNil:=fun _ _ _ _ H Q I h=>Calls.spliced_nil ⟨[],H,I,.nil,h⟩
theorem z35 (ha:PE X e te) (hr:PA X es t) (hs:y0a (e::es) X.env=(false,eval e X.env)::y0a es X.env:=by rfl):PA X (e::es) (ztf te t):=by
 intro pos pins s σ H Q I h
 rw[hs]
 show y0v _ _ (spliced ((false,eval e X.env)::backTo pos (y0a es X.env))) _ _ s
 refine Calls.spliced_cons (thn (ha pins s σ H _ I h) fun u s1 ⟨x,H1,I1,r1,q1⟩=>?_)
 exact thn (hr pos pins s1 σ H1 _ I1 q1) fun us s2 ⟨xs,H2,I2,r2,q2⟩=>⟨x::xs,H2,I2,.cons r1 r2,q2⟩
def tTup (t:TA):TE:=fun σ H Q=>t σ H fun xs H1=>xs.length<=y0k/\∀p,H1 p=none->Q (.ref p) (upd H1 p (.tup xs))
def tLst (t:TA):TE:=fun σ H Q=>t σ H fun xs H1=>xs.length<=y0k/\∀p,H1 p=none->Q (.ref p) (upd H1 p (.lst xs))
theorem zof {x1} (h:PA X es t):PE X (.Tuple es x1 pos) (tTup t):=by
 intro pins s σ H Q I hq
 refine wpAny_Tuple_spliced (thn (h pos pins s σ H _ I hq) fun us s1 ⟨xs,H1,I1,r,z,q⟩=>⟨by rw[<- r.length];exact z,?_⟩)
 have hf:H1 s1.heap.objs.size=none:=I1.hok.fresh (y0p _)
 refine⟨.ref s1.heap.objs.size,upd H1 s1.heap.objs.size (.tup xs),I1.laid (t':=s1.toks) (fun b u e=>y03 _ e) (y0p _) ?_,rfl,q _ hf⟩
 exact⟨z,us,r,⟨_,y0m _ rfl,rfl,_,rfl⟩⟩
theorem zwa (h:PA X es t):PE X (.List es pos) (tLst t):=by
 intro pins s σ H Q I hq
 refine wpAny_List_spliced (thn (h pos pins s σ H _ I hq) fun us s1 ⟨xs,H1,I1,r,z,q⟩=>⟨by rw[<- r.length];exact z,?_⟩)
 have hf:H1 s1.heap.objs.size=none:=I1.hok.fresh (y0p _)
 refine⟨.ref s1.heap.objs.size,upd H1 s1.heap.objs.size (.lst xs),I1.laid (t':=s1.toks) (fun b u e=>y03 _ e) (y0p _) ?_,rfl,q _ hf⟩
 exact⟨z,us,0,r,y0m _ rfl⟩
end
abbrev Sp:=List V->Hp->VK->XK->Prop
abbrev CXT:=List Env->Hp->y04->XK->Value->y04->Prop
structure Env0 (P:y0r) (w:World) (K:y00) (mg:Str->Option Value) (base:Heap) (A:Around) (outer:List Env) (s:y04) (H:Hp):Prop where
 frames:A.frames=some outer
 mod:Mod K mg base
 bs:∀b o,base.get? b=some o->s.heap.get? b=some o/\H b=none
 bsz:base.objs.size<=s.heap.objs.size
 funs:s.heap.FunFrames base outer
 frf:∀b∈frs outer,H b=none
 hok:HOk P w H s.heap
 bare:AllBare s.gens
noncomputable def CE (outer:List Env) (P:y0r) (w:World) (H:Hp) (s:y04) (Q:VK) (u:Value) (s':y04):Prop :=
 ∃v H',s'.os=s.os/\AllBare s'.gens/\Un (frs outer) [] H H' s.heap s'.heap/\HOk P w H' s'.heap/\RelV v u/\Q v H'
noncomputable def CR (CX:CXT) (outer:List Env) (P:y0r) (w:World) (H:Hp) (s:y04) (Q:VK) (E:XK) (r:Result) (s':y04):Prop :=
 match r with
 | .ok (.ret u)=>CE outer P w H s Q u s'
 | .ok _=>False
 | .error e=>CX outer H s E e s'
structure FnOk (P:y0r) (w:World) (K:y00) (mg:Str->Option Value) (base:Heap) (CX:CXT) (k:Nat) (f:Addr) (fd:y0b) (ps:List Str) (sp:Sp):Prop where
 len:∀vs H Q E,sp vs H Q E->vs.length=ps.length
 run:∀(A:Around) (outer:List Env) (s:y04) (H:Hp) (args:Args) (us:List Value) (vs:List V) (Q:VK) (E:XK),Room k A->Env0 P w K mg base A outer s H->BindsTo s fd args (ps.zip us)->Vals vs us->sp vs H Q E ->
  codeAny (model P w) A (.call (.ref f) args) (CR CX outer P w H s Q E) s
theorem FnOk.mono {P:y0r} {w:World} {K:y00} {mg:Str->Option Value} {base:Heap} {CX:CXT} {j k:Nat} {f:Addr} {fd:y0b} {ps:List Str} {sp:Sp} (F:FnOk P w K mg base CX j f fd ps sp) (h:j<=k) :
  FnOk P w K mg base CX k f fd ps sp:=⟨F.len,fun A outer s H args us vs Q E hr=>F.run A outer s H args us vs Q E (hr.mono h)⟩
theorem FnOk.imp {P:y0r} {w:World} {K:y00} {mg:Str->Option Value} {base:Heap} {CX:CXT} {k:Nat} {f:Addr} {fd:y0b} {ps:List Str} {sp sp':Sp} (F:FnOk P w K mg base CX k f fd ps sp)
  (h:∀vs H Q E,sp' vs H Q E->sp vs H Q E):FnOk P w K mg base CX k f fd ps sp' :=
 ⟨fun vs H Q E q=>F.len vs H Q E (h _ _ _ _ q),fun A outer s H args us vs Q E hr he hb hv hs=>F.run A outer s H args us vs Q E hr he hb hv (h _ _ _ _ hs)⟩
theorem Env0.make {P:y0r} {w:World} {K:y00} {mg:Str->Option Value} {base:Heap} {A:Around} {outer:List Env} {s:y04} {H:Hp} (e:Env0 P w K mg base A outer s H) (C:Addr) (us:List Value) (kw:List (Str×Value)) :
  Env0 P w K mg base (A.under (.builtin "type.__call__" ⟨.ref C::us,kw⟩)) outer s H:=⟨by first|exact e.frames|(simpa [Around.under,Code.envs,Code.isFrame,pushEnvs] using e.frames),e.mod,e.bs,e.bsz,e.funs,e.frf,e.hok,e.bare⟩
section
variable {X:Cx} {pins:List (Addr×Obj)} {σ:St} {H:Hp} {s s':y04}
theorem Inv.env0 (I:Inv X pins σ H s):Env0 X.prog X.w X.K X.mg X.base X.A X.stack s H :=
 ⟨I.ok.frames,I.ok.mod,I.bs,y1u I.ok.bsz I.sz,I.stack,I.stkFree,I.hok,I.bare⟩
theorem Inv.after {Q:VK} {u:Value} (I:Inv X pins σ H s) (h:CE X.stack X.prog X.w H s Q u s'):EP X pins σ Q u s':=by
 obtain⟨v,H',os,bare,un,hok,r,q⟩:=h
 obtain⟨hh,g,d,t,os'⟩:=s'
 obtain rfl:os'=s.os:=os
 exact⟨v,H',I.call (h':=hh) (g':=g) (d':=d) (t':=t) (ch:=[]) un hok bare (fun b z=>absurd z (by simp)),r,q⟩
end
def zxi (sp:Sp) (dvs:List V) (E:XK) (t:TA):TE:=fun σ H Q=>t σ H fun vs H1=>sp (vs++dvs) H1 Q E
noncomputable def zvf (C:Addr) (m:Str) (sp:Sp) (dvs:List V) (E:XK) (ta:TE) (t:TA):TE:=fun σ H Q=>ta σ H fun x H1=>∃a dx fs,x=.ref a/\H1 a=some (.ins C dx fs)/\fs.lookup m=none /\
 t σ H1 fun vs H2=>sp (x::(vs++dvs)) H2 Q E
noncomputable def zxf (C:Addr) (sp:Sp) (dvs:List V) (E:XK) (t:TA):TE:=fun σ H Q=>t σ H fun vs H1=>∀x dx,H1 x=none->H1 dx=none->dx≠x ->
 sp (.ref x::(vs++dvs)) (upd (upd H1 dx (.own x)) x (.ins C dx [])) (fun v H2=>v=.non/\Q (.ref x) H2) E
def z0p (K:y00) (fd:y0b) (ps:List Str) (ds:List Value):Prop :=
 ∀(s:y04) (us:List Value),K.In s.heap->(us++ds).length=ps.length->BindsTo s fd ⟨us,[]⟩ (ps.zip (us++ds))
theorem z0p.all {K:y00} {fd:y0b} {ps:List Str} (h:∀us:List Value,us.length=ps.length->bindArgs fd ⟨us,[]⟩=pure (ps.zip us)):z0p K fd ps []:=fun s us _ hl=>by
 rw[y26] at hl ⊢
 exact .of_eq (h us hl)
def zed (CX:CXT) (X:Cx) (E:XK):Prop:=∀(pins:List (Addr×Obj)) (σ:St) (H:Hp) (s:y04) (e:Value) (s':y04),Inv X pins σ H s->CX X.stack H s E e s'->X.xe e s'
section
variable {X:Cx} {CX:CXT} {k:Nat} {f C:Addr} {fd:y0b} {ps:List Str} {sp:Sp} {dvs:List V} {ds:List Value} {E:XK} {x m:Str} {p pos apos:Pos} {e o:Expr} {es:List Expr} {ta:TE} {t:TA}
theorem zo0 {pins:List (Addr×Obj)} {σ:St} {H:Hp} {s:y04} {Q:VK} {us:List Value} {vs:List V} (F:FnOk X.prog X.w X.K X.mg X.base CX k f fd ps sp) (hr:Room k X.A) (hb:z0p X.K fd ps ds) (hd:Vals dvs ds) (hx:zed CX X E)
  (I:Inv X pins σ H s) (r:Vals vs us) (h:sp (vs++dvs) H Q E):y0v (model X.prog X.w) X.A (call (.ref f) us) (EP X pins σ Q) X.xe s:=by
 have r2:Vals (vs++dvs) (us++ds):=r.append hd
 have hl:(us++ds).length=ps.length:=by rw[<- r2.length];exact F.len _ _ _ _ h
 refine wpAny_call (codeAny_mono (F.run X.A X.stack s H ⟨us,[]⟩ (us++ds) (vs++dvs) Q E hr I.env0 (hb s us I.kIn hl) r2 h) fun r s' hq=>?_)
 cases r with
 | error e=>exact hx pins σ H s e s' I hq
 | ok fl =>
  cases fl with
  | ret u=>exact I.after hq
  | next=>exact y24 hq
  | brk=>exact y24 hq
  | cont=>exact y24 hq
theorem zjz (F:FnOk X.prog X.w X.K X.mg X.base CX k f fd ps sp) (hr:Room k X.A) (hg:Gl X x) (hm:X.mg x=some (.ref f)) (hk:y08 X.K (.ref f)=true) (hb:z0p X.K fd ps ds) (hd:Vals dvs ds) (hx:zed CX X E)
  (ha:PA X (e::es) t) (hdb:(x == ("__debug__":Str))=false:=by decide) (he:y0a (e::es) X.env=(false,eval e X.env)::y0a es X.env:=by rfl) (hpl:(backTo pos (y0a es X.env)).any (·.1)=false:=by rfl) :
  PE X (.Call (.Name x p) (e::es) [] pos) (zxi sp dvs E t):=by
 intro pins s σ H Q I h
 refine wpAny_Call_Name_kw (zgl I hg hm ?_ hdb)
 refine PySem.W.callWith_K (h₀:=X.base) I.ok.mod.kin hk (thn (ha pos pins s σ H _ I h) fun us s1 ⟨vs,H1,I1,r,q⟩=>⟨I1.kIn,?_⟩) he hpl
 exact zo0 F hr hb hd hx I1 r q
theorem zog {pl:Sem Bool} (he:PE X o ta) (c:Cls X.K C) (hm:Meth X.K C m f) (F:FnOk X.prog X.w X.K X.mg X.base CX k f fd ps sp) (hr:Room k X.A) (hb:z0p X.K fd ps ds) (hd:Vals dvs ds) (hx:zed CX X E) (ha:PA X (e::es) t)
  (hst:y0a (e::es) X.env=(false,eval e X.env)::y0a es X.env:=by rfl) (hpl:(backTo pos (y0a es X.env)).any (·.1)=false:=by rfl)
  (ht:eval (.Call (.Attribute o m apos) (e::es) [] pos) X.env=(do
   let ov <- eval o X.env
   standAt apos.atName
   let (f,first) <- holding [ov] (getMethod ov m pl)
   callWith pos f first (backTo pos (y0a (e::es) X.env)) (backToKw pos (keywordEach [] X.env))):=by rfl) :
  PE X (.Call (.Attribute o m apos) (e::es) [] pos) (zvf C m sp dvs E ta t):=by
 intro pins s σ H Q I h
 refine PySem.W.methodCall_KW (pl:=pl) (thn (he pins s σ H _ I h) fun u s1 ⟨x,H1,I1,rx,a,dx,fs,ex,ea,l,q⟩=>?_) ht
 subst ex
 obtain rfl:u=Value.ref a:=rx
 refine zfn I1 ea c hm l ?_
 refine PySem.W.callWith_K (first:=[.ref a]) (h₀:=X.base) I.ok.mod.kin hm.kp (thn (ha pos pins s1 σ H1 _ I1 q) fun us s2 ⟨vs,H2,I2,r,q2⟩=>⟨I2.kIn,?_⟩) hst hpl
 exact zo0 (us:=.ref a::us) (vs:=.ref a::vs) F hr hb hd hx I2 (.cons rfl r) q2
theorem zgc {pl:Sem Bool} (he:PE X o ta) (c:Cls X.K C) (hm:Meth X.K C m f) (F:FnOk X.prog X.w X.K X.mg X.base CX k f fd ps sp) (hr:Room k X.A) (hb:z0p X.K fd ps ds) (hd:Vals dvs ds) (hx:zed CX X E)
  (ht:eval (.Call (.Attribute o m apos) [] [] pos) X.env=(do
   let ov <- eval o X.env
   standAt apos.atName
   let (f,first) <- holding [ov] (getMethod ov m pl)
   callWith pos f first (backTo pos (y0a [] X.env)) (backToKw pos (keywordEach [] X.env))):=by rfl) :
  PE X (.Call (.Attribute o m apos) [] [] pos) (zvf C m sp dvs E ta tNil):=by
 intro pins s σ H Q I h
 refine PySem.W.methodCall_KW (pl:=pl) (thn (he pins s σ H _ I h) fun u s1 ⟨x,H1,I1,rx,a,dx,fs,ex,ea,l,q⟩=>?_) ht
 subst ex
 obtain rfl:u=Value.ref a:=rx
 refine zfn I1 ea c hm l ?_
 exact PySem.W.callWith_K0 (first:=[.ref a]) I1.kIn hm.kp (zo0 (us:=[.ref a]) (vs:=[.ref a]) F hr hb hd hx I1 (.cons rfl .nil) q)
structure Mk (K:y00) (C f:Addr):Prop where
 makes:PySem.W.makesIn K C=true
 init:y0d K (.ref C) "__init__"=some (some (.ref f))
 fn:y0z K (.ref f)=true
 kp:y08 K (.ref C)=true
theorem zqt {pins:List (Addr×Obj)} {σ:St} {H:Hp} {s:y04} {Q:VK} {us:List Value} {vs:List V} (M:Mk X.K C f) (F:FnOk X.prog X.w X.K X.mg X.base CX k f fd ps sp) (hr:Room (k+1) X.A) (hb:z0p X.K fd ps ds) (hd:Vals dvs ds)
  (hx:zed CX X E) (I:Inv X pins σ H s) (r:Vals vs us)
  (h:∀x dx,H x=none->H dx=none->dx≠x->sp (.ref x::(vs++dvs)) (upd (upd H dx (.own x)) x (.ins C dx [])) (fun v H2=>v=.non/\Q (.ref x) H2) E) :
  y0v (model X.prog X.w) X.A (call (.ref C) us) (EP X pins σ Q) X.xe s:=by
 have hq:=h (s.heap.objs.size+1) s.heap.objs.size (I.hok.fresh (y2p _)) (I.hok.fresh (y0p _)) (y10 (Nat.lt_succ_self _))
 have I2:=Inv.made (C:=C) I
 have r2:Vals (V.ref (s.heap.objs.size+1)::(vs++dvs)) (Value.ref (s.heap.objs.size+1)::(us++ds)):=.cons rfl (r.append hd)
 have hl:(Value.ref (s.heap.objs.size+1)::us++ds).length=ps.length:=by
  have e:=r2.length
  rw[F.len _ _ _ _ hq] at e
  exact e.symm
 refine wpAny_call (zrd (f:=f) I.kIn M.makes M.init (beq_iff_eq.mp M.fn) (codeAny_mono (F.run _ X.stack _ _ ⟨Value.ref (s.heap.objs.size+1)::us,[]⟩ (Value.ref (s.heap.objs.size+1)::(us++ds)) _ _ E (hr.make C us [])
  (I2.env0.make C us []) (hb _ (Value.ref (s.heap.objs.size+1)::us) I2.kIn hl) r2 hq) fun r s' hq'=>?_))
 cases r with
 | error e=>exact hx pins σ _ _ e s' I2 hq'
 | ok fl =>
  cases fl with
  | ret u =>
   obtain⟨v,H',I3,rv,ev,q3⟩:=I2.after hq'
   subst ev
   exact⟨rv,⟨V.ref (s.heap.objs.size+1),H',I3,rfl,q3⟩⟩
  | next=>exact y24 hq'
  | brk=>exact y24 hq'
  | cont=>exact y24 hq'
theorem zu2 (M:Mk X.K C f) (F:FnOk X.prog X.w X.K X.mg X.base CX k f fd ps sp) (hr:Room (k+1) X.A) (hg:Gl X x) (hm:X.mg x=some (.ref C)) (hb:z0p X.K fd ps ds) (hd:Vals dvs ds) (hx:zed CX X E)
  (ha:PA X (e::es) t) (hdb:(x == ("__debug__":Str))=false:=by decide) (he:y0a (e::es) X.env=(false,eval e X.env)::y0a es X.env:=by rfl) (hpl:(backTo pos (y0a es X.env)).any (·.1)=false:=by rfl) :
  PE X (.Call (.Name x p) (e::es) [] pos) (zxf C sp dvs E t):=by
 intro pins s σ H Q I h
 refine wpAny_Call_Name_kw (zgl I hg hm ?_ hdb)
 refine PySem.W.callWith_K (h₀:=X.base) I.ok.mod.kin M.kp (thn (ha pos pins s σ H _ I h) fun us s1 ⟨vs,H1,I1,r,q⟩=>⟨I1.kIn,?_⟩) he hpl
 exact zqt M F hr hb hd hx I1 r q
end
section
variable {X:Cx} {CX:CXT} {k:Nat} {f C:Addr} {fd:y0b} {ps ks:List Str} {sp:Sp} {E:XK} {x m:Str} {p pos apos kpos:Pos} {e o:Expr} {es:List Expr} {kws:List Keyword} {te ta:TE} {t tk:TA} {nm:Option Str}
variable {g:List Value->List Value->List Value} {gV:List V->List V->List V}
end
structure FnScope (N P:List Str) (sc:Scope):Prop where
 kind:sc.kind=.function
 co:sc.isCoroutine=false
 gen:sc.isGenerator=false
 nd:N.Nodup
 pre:N.take P.length=P
 par:∀x∈P,sc.names.lookup x=some .local\/sc.names.lookup x=some .cell
 nofree:∀y∈sc.names,y.2≠.free
theorem ziw {kindOf:Str->Option NameKind} {x:Str}:∀{binds:List (Str×Value)} {m:Str->Option Value},(∀v,(x,v)∉binds)->bindL kindOf binds m x=m x
  | [],_,_=>rfl
  | (n,v)::r,m,h=>by
    unfold bindL
    rw[ziw fun w hw=>h w (y05 _ hw)]
    split
    · have:x≠n:=by rintro rfl;exact h v y0f
      simp[this]
    · rfl
theorem ziy {kindOf:Str->Option NameKind} {x:Str}:∀{binds:List (Str×Value)} {m:Str->Option Value},(∀v,(x,v)∉binds)->bindC kindOf binds m x=m x
  | [],_,_=>rfl
  | (n,v)::r,m,h=>by
    unfold bindC
    rw[ziy fun w hw=>h w (y05 _ hw)]
    split
    · rfl
    · have:x≠n:=by rintro rfl;exact h v y0f
      simp[this]
theorem zix {kindOf:Str->Option NameKind} {x:Str} {v:Value}:∀{P:List Str} {vs:List Value} {i:Nat} {m:Str->Option Value},P.Nodup->P[i]?=some x->vs[i]?=some v->kindOf x=some .local ->
  bindL kindOf (P.zip vs) m x=some v
 | [],_,_,_,_,h,_,_=>by simp at h
 | _::_,[],_,_,_,_,h,_=>by simp at h
 | p::P,w::vs,0,m,nd,h1,h2,hk=>by
  simp at h1 h2;subst h1;subst h2
  show bindL kindOf ((p,w)::P.zip vs) m p=_
  unfold bindL
  rw[ziw fun v hv=>(y0s.mp nd).1 (List.of_mem_zip hv).1,if_pos hk]
  simp
 | p::P,w::vs,i+1,m,nd,h1,h2,hk=>by
  show bindL kindOf ((p,w)::P.zip vs) m x=_
  unfold bindL
  exact zix (i:=i) (y0s.mp nd).2 (by simpa using h1) (by simpa using h2) hk
theorem ziz {kindOf:Str->Option NameKind} {x:Str} {v:Value}:∀{P:List Str} {vs:List Value} {i:Nat} {m:Str->Option Value},P.Nodup->P[i]?=some x->vs[i]?=some v->kindOf x≠some .local ->
  bindC kindOf (P.zip vs) m x=some v
 | [],_,_,_,_,h,_,_=>by simp at h
 | _::_,[],_,_,_,_,h,_=>by simp at h
 | p::P,w::vs,0,m,nd,h1,h2,hk=>by
  simp at h1 h2;subst h1;subst h2
  show bindC kindOf ((p,w)::P.zip vs) m p=_
  unfold bindC
  rw[ziy fun v hv=>(y0s.mp nd).1 (List.of_mem_zip hv).1,if_neg hk]
  simp
 | p::P,w::vs,i+1,m,nd,h1,h2,hk=>by
  show bindC kindOf ((p,w)::P.zip vs) m x=_
  unfold bindC
  exact ziz (i:=i) (y0s.mp nd).2 (by simpa using h1) (by simpa using h2) hk
def start (N:List Str) (vs:List V):St:=vs.map some++y0h (N.length - vs.length) none
noncomputable def cxOf (CX:CXT) (P:y0r) (w:World) (K:y00) (mg:Str->Option Value) (base:Heap) (N:List Str) (qual:Str) (scope:Scope) (f:Addr) (cd:Value) (A:Around) (outer:List Env) (s:y04) (H:Hp) (E:XK):Cx where
 prog:=P
 w:=w
 K:=K
 mg:=mg
 base:=base
 A:=A.deeper (envOfC qual scope s.heap.objs.size f cd)
 N:=N
 s₀:=s
 H₀:=H
 env:=envOfC qual scope s.heap.objs.size f cd
 outer:=outer
 stack:=envOfC qual scope s.heap.objs.size f cd::outer
 ex:=[]
 calm:=true
 fn:=fun _=>true
 pn:=[]
 xe:=fun e s'=>y0v (model P w) (A.deeper (envOfC qual scope s.heap.objs.size f cd)) (leaving (envOfC qual scope s.heap.objs.size f cd) e) (fun _ s''=>CX outer H s E e s'') (fun e' s''=>CX outer H s E e' s'') s'
theorem zlx {sc:Scope} {n:Nat} {x:Str} (h:sc.names.lookup x=some .cell):∃c,(cellsFrom n sc.names []).lookup x=some c:=by
 have q:=PySem.W.cellsFrom_some sc.names n [] (.inl h)
 exact Option.isSome_iff_exists.mp q
theorem zi4 {CX:CXT} {P:y0r} {w:World} {K:y00} {mg:Str->Option Value} {base:Heap} {N ps:List Str} {qual:Str} {scope:Scope} {f:Addr} {cd:Value} {A:Around} {outer:List Env} {s s1:y04} {H:Hp} {E:XK} {us:List Value} {vs:List V}
  (S:FnScope N ps scope) (hd:A.handled=none) (e0:Env0 P w K mg base A outer s H) (hl:vs.length=ps.length) (r:Vals vs us)
  (x:InCallC s s.heap.objs.size (bindL (envOfC qual scope s.heap.objs.size f cd).kindOf (ps.zip us) fun _=>none) (cellsFrom (s.heap.objs.size+1) scope.names []) (bindC (envOfC qual scope s.heap.objs.size f cd).kindOf (ps.zip us) fun _=>none) s1) :
  Inv (cxOf CX P w K mg base N qual scope f cd A outer s H E) [] (start N vs) H s1:=by
 have hpl:ps.length<=N.length:=by have:=congrArg List.length S.pre;rw[List.length_take] at this;omega
 obtain⟨h1,tk,rfl,hk⟩:=x.done
 have noA:∀b:Addr,b∉(cxOf CX P w K mg base N qual scope f cd A outer s H E).ex:=fun b z=>absurd (show b∈([]:List Addr) from z) (by simp)
 refine⟨⟨e0.mod,S.kind,rfl,rfl,y0p _,fun y z c h1 h2=>?_,fun y hy=>?_,fun y c _ h=>?_,fun _=>hd,Around.frames_deeper e0.frames,.inr ⟨rfl,rfl⟩,fun b z=>absurd z (noA b),e0.bs,e0.bsz,fun b _ _=>noA b,fun b z=>absurd z (noA b),e0.funs,e0.frf⟩,
  rfl,e0.bare,Un.kept hk,⟨_,x.toInCall.ns,fun i y v h1 h2 h3=>?_⟩,fun y c h=>⟨_,x.cell y c h⟩,e0.hok.fresh (y0p _),fun y c h=>?_,fun p hp=>absurd (show p∈([]:List (Addr×Obj)) from hp) (by simp),e0.hok.kept hk,?_⟩
 ·exact name_of_addr x.apart (y2k h1) (y2k h2)
 ·have hy:scope.names.lookup y=some .cell\/scope.names.lookup y=some .free:=hy
  rcases hy with hy|hy
  ·exact zlx hy
  ·exact absurd rfl (S.nofree _ (y2k hy))
 ·exact Nat.le_of_lt (x.above y c (y2k h))
 ·have hi:i<vs.length:=by
   unfold start at h2
   by_cases hi:i<vs.length
   ·exact hi
   ·rw[y1p (by simpa using hi)] at h2
    rw[List.getElem?_replicate] at h2
    split at h2 <;> cases h2
  have ha:vs[i]?=some v:=by
   unfold start at h2
   rw[y1s (by simpa using hi),y17] at h2
   cases e:vs[i]? with
   | none=>rw[e] at h2;cases h2
   | some a=>rw[e] at h2;cases h2;rfl
  obtain⟨u,hu,rv⟩:=r.get ha
  have hp:ps[i]?=some y:=by
   rw[<- S.pre,List.getElem?_take_of_lt (by omega)];exact h1
  have ndP:ps.Nodup:=by rw[<- S.pre];exact S.nd.sublist (List.take_sublist _ _)
  refine⟨u,rv,?_⟩
  rcases S.par y (y21 hp) with k|k
  ·exact .inl ⟨k,zix ndP hp hu k⟩
  ·obtain⟨c,e⟩:=zlx (n:=s.heap.objs.size+1) k
   refine .inr ⟨.inl k,c,e,?_⟩
   have q:=x.cell y c e
   rw[ziz ndP hp hu (by show scope.names.lookup y≠_;rw[k];decide)] at q
   exact q
 ·exact e0.hok.fresh (Nat.le_of_lt (x.above y c (y2k h)))
 ·unfold start
  show _=N.length
  rw[y2a,y16,List.length_replicate]
  omega
theorem zwx {CX:CXT} {P:y0r} {w:World} {K:y00} {mg:Str->Option Value} {base:Heap} {k:Nat} {f:Addr} {name qual:Str} {params:Arguments} {body:List Stmt} {scope:Scope} {dV kV doc pm cdv ct oc:Value} {an od:Option Addr}
  {osl:Array (Option Value)} {N ps:List Str} {sp:Sp} (lk:K.lookup f=some ⟨oc,od,.func (y0j name qual params body scope dV kV doc pm an cdv ct),osl⟩) (hcd:y0g K cdv qual=true) (S:FnScope N ps scope)
  (len:∀vs H Q E,sp vs H Q E->vs.length=ps.length)
  (hbody:∀(A:Around) (outer:List Env) (s:y04) (H:Hp) (vs:List V) (Q:VK) (E:XK),Room k (A.deeper (envOfC qual scope s.heap.objs.size f cdv))->sp vs H Q E ->
   ∃t,PSs (cxOf CX P w K mg base N qual scope f cdv A outer s H E) body t/\t { nx:=fun _ H'=>Q .non H',rt:=Q } (start N vs) H) :
  FnOk P w K mg base CX (k+1) f (y0j name qual params body scope dV kV doc pm an cdv ct) ps sp:=by
 refine⟨len,fun A outer s H args us vs Q E hr e0 hb r hsp=>?_⟩
 have hl:=len _ _ _ _ hsp
 have KX:K.In s.heap:=e0.mod.kin.keeps fun b o e=>(e0.bs b o e).1
 have lim:s.heap.NoLimit:=e0.mod.nolimit.keeps fun b o e=>(e0.bs b o e).1
 have hkind:∀y∈ps.zip us,scope.names.lookup y.1=some .local\/(scope.names.lookup y.1=some .cell/\((cellsFrom (s.heap.objs.size+1) scope.names []).lookup y.1).isSome=true):=fun⟨n,v⟩ hy=>by
  rcases S.par n (List.of_mem_zip hy).1 with q|q
  ·exact .inl q
  ·exact .inr ⟨q,PySem.W.cellsFrom_some _ _ _ (.inl q)⟩
 refine codeAny_call_function hr.depth (KX _ _ lk) rfl S.co S.gen rfl (PySem.W.codeRec_of KX hcd) (hb _ _ _ _ ?_)
 refine wpAny_newFunctionEnv_cells S.kind hkind fun env he s1 x=>?_
 subst he
 refine⟨lim.keeps x.toInCall.keep,codeAny_func ?_⟩
 obtain⟨t,ht,hq⟩:=hbody A outer s H vs Q E (hr.deeper _) hsp
 have I:Inv (cxOf CX P w K mg base N qual scope f cdv A outer s H E) [] (start N vs) H s1:=zi4 S hr.hd e0 hl r x
 refine y1g (ht [] s1 (start N vs) H _ I hq) (fun fl s' hs=>?_) fun e s' hs=>hs
 have fin:∀{σ':St} {H':Hp} {v:V} {u:Value},Inv (cxOf CX P w K mg base N qual scope f cdv A outer s H E) [] σ' H' s'->RelV v u->Q v H'->CE outer P w H s Q u s' :=
  fun {σ' H' v u} J rv q=>⟨v,H',J.os,J.bare,J.base,J.hok,rv,q⟩
 cases fl with
 | ret u =>
  obtain⟨v,σ',H',J,rv,q⟩:=hs
  exact fin J rv q
 | next =>
  obtain⟨σ',H',J,q⟩:=hs
  exact fin (v:=V.non) (u:=Value.none) J rfl q
 | brk =>
  obtain⟨_,_,_,q⟩:=hs
  exact y24 q
 | cont =>
  obtain⟨_,_,_,q⟩:=hs
  exact y24 q
end L2
namespace L2
open PySem PySem.Spec PyProof.Rows
section
variable {X:Cx} {x:Str} {p pos:Pos} {e:Expr} {es:List Expr} {t:TA} {id T:String} {r:List V->Hp->VK->Prop}
def tCB (r:List V->Hp->VK->Prop) (t:TA):TE:=fun σ H Q=>t σ H fun vs H1=>r vs H1 Q
theorem zgd (hc:zbt X (.builtin id) r) (hg:Gl X x) (hm:X.mg x=none) (hv:bootBuiltins x=some (.builtin id)) (ha:PA X (e::es) t) (hn:x≠"__name__":=by decide) (hdb:(x == ("__debug__":Str))=false:=by decide)
  (he:y0a (e::es) X.env=(false,eval e X.env)::y0a es X.env:=by rfl) (hpl:(backTo pos (y0a es X.env)).any (·.1)=false:=by rfl):PE X (.Call (.Name x p) (e::es) [] pos) (tCB r t):=by
 intro pins s σ H Q I h
 refine wpAny_Call_Name_kw (zdn I hg hm hv ?_ hn hdb)
 exact PyProof.Rows.callWith_builtin1 (thn (ha pos pins s σ H _ I h) fun us s1 ⟨vs,H1,I1,r1,q1⟩=>hc pins s1 σ H1 vs us Q I1 r1 q1) he hpl
theorem zd2 (hc:zbt X (.type T) r) (hg:Gl X x) (hm:X.mg x=none) (hv:bootBuiltins x=some (.type T)) (ha:PA X (e::es) t) (hn:x≠"__name__":=by decide) (hdb:(x == ("__debug__":Str))=false:=by decide)
  (he:y0a (e::es) X.env=(false,eval e X.env)::y0a es X.env:=by rfl) (hpl:(backTo pos (y0a es X.env)).any (·.1)=false:=by rfl):PE X (.Call (.Name x p) (e::es) [] pos) (tCB r t):=by
 intro pins s σ H Q I h
 refine wpAny_Call_Name_kw (zdn I hg hm hv ?_ hn hdb)
 exact y1z (thn (ha pos pins s σ H _ I h) fun us s1 ⟨vs,H1,I1,r1,q1⟩=>hc pins s1 σ H1 vs us Q I1 r1 q1) he hpl
end
end L2
namespace HT
open PySem PyProof.Rows
section
open PySem.SeqAt
open PySem.AutoSeq1 (wpAny_loadPart')
open PySem.MeetsSeq PySem.MeetsSeq2 PySem.MeetsSeq3
end
section
variable {prog:y0r} {w:World} {A:Around} {E:Value->y04->Prop} {s:y04}
theorem cat_tup {t b:Addr} {vs ws:List Value} {Q:Value->y04->Prop} (ht:IsTup s.heap t vs.toArray) (hb:IsTup s.heap b ws.toArray) (hv:vs≠[])
  (h1:ws=[]->Q (.ref t) s) (h2:ws≠[]->Q (.ref s.heap.objs.size) { s with heap:=s.heap.push { cls:=.type "tuple",data:=.seq (vs++ws).toArray } })
  (hsz:vs.length+ws.length<=y0k):y0v (model prog w) A (binaryOp .Add (.ref t) (.ref b)) Q E s:=by
 obtain⟨⟨cls,dd,data,sl⟩,ho,hc,n,hd⟩:=id ht
 obtain⟨⟨cls2,dd2,data2,sl2⟩,ho2,hc2,n2,hd2⟩:=id hb
 simp only at hc hd hc2 hd2
 subst hc hd hc2 hd2
 have e:vs.toArray++ws.toArray=(vs++ws).toArray:=by simp
 by_cases hw:ws=[]
 ·exact concat_meets ⟨_,ho,rfl⟩ ⟨_,ho2,rfl⟩ noFill_tuple_add seq_tuple_add PySem.F.slot_tuple_add PySem.F.entry_tuple_add (PySem.F.args_tuple_add_2 _ _)
   (tuple_addW1 t b vs.toArray ws.toArray n n2 dd dd2 sl sl2 (by simpa using hv) (by simp[hw])) ⟨ho,ho2,h1 hw⟩
 ·refine concat_meets ⟨_,ho,rfl⟩ ⟨_,ho2,rfl⟩ noFill_tuple_add seq_tuple_add PySem.F.slot_tuple_add PySem.F.entry_tuple_add (PySem.F.args_tuple_add_2 _ _)
   (tuple_addW2 t b vs.toArray ws.toArray n n2 dd dd2 sl sl2 (by simpa using hv) (by simpa using hw) (by rw[y0i,y0i];exact hsz)) ⟨ho,ho2,?_⟩
  rw[e]
  exact h2 hw
def sIx (n d:Nat):Option Int->Nat
 | none=>d
 | some v=>if v<0 then (v+(n:Int)).toNat else min v.toNat n
theorem zvn (n d:Nat) (hd:d<=n) (o:Option Int):sIx n d o<=n:=by
 cases o with
 | none=>exact hd
 | some v =>
  show (if v<0 then (v+(n:Int)).toNat else min v.toNat n)<=n
  by_cases hv:v<0
  ·rw[if_pos hv];omega
  ·rw[if_neg hv];exact Nat.min_le_right _ _
theorem zpv (v:Int) (n d:Nat):(if v<0 then max (v+(n:Int)) 0 else min v (n:Int))=((sIx n d (some v):Nat):Int):=by
 show (if v<0 then max (v+(n:Int)) 0 else min v (n:Int))=(((if v<0 then (v+(n:Int)).toNat else min v.toNat n):Nat):Int)
 by_cases hv:v<0
 ·simp only[if_pos hv];omega
 ·simp only[if_neg hv];omega
theorem zne (lo hi:Option Int) (n:Nat):Builtin.Slice.sliceAdjust lo hi 1 (n:Int)=(((sIx n 0 lo:Nat):Int),((sIx n n hi:Nat):Int)):=by
 have h1:¬((1:Int)<0):=by omega
 unfold Builtin.Slice.sliceAdjust
 simp only[h1,if_false]
 refine Prod.ext ?_ ?_
 ·cases lo with
  | none=>rfl
  | some v=>exact zpv v n 0
 ·cases hi with
  | none=>rfl
  | some v=>exact zpv v n n
theorem zmg (i j:Nat):y1m (i:Int) (j:Int) 1=j - i:=by
 unfold y1m
 have h1:(1:Int) > 0:=by omega
 simp only[h1,if_true,Int.ediv_one]
 split <;> omega
theorem zet {v:Value} {o:Option Int} {Q:Option Int->y04->Prop} (p:IsPart v o) (h:Q o s):y0v (model prog w) A (Builtin.Slice.slicePartIndex v) Q E s:=by
 cases p with
 | none=>exact slicePart_none h
 | int i t=>exact slicePart_int h
theorem sliceApplied_gen {sl:Addr} {vl vu:Value} {lo hi:Option Int} {n:Nat} {Q:Int×Int×Nat->y04->Prop} (hs:s.heap.IsSliceOf sl vl vu .none) (pl:IsPart vl lo) (pu:IsPart vu hi)
  (h:Q (((sIx n 0 lo:Nat):Int),1,sIx n n hi - sIx n 0 lo) s):y0v (model prog w) A (Builtin.Slice.sliceApplied (.ref sl) (pure (n:Int))) Q E s:=by
 obtain⟨os,hos,hcs,hds⟩:=id hs
 unfold Builtin.Slice.sliceApplied Builtin.Slice.sliceFields
 refine y02 (y02 (wpAny_field hos hds (x:=vl) rfl (y02 (wpAny_field hos hds (x:=vu) rfl (y02 (wpAny_field hos hds (x:=.none) rfl (y06 ?_)))))))
 refine y02 (slicePart_none ?_)
 show y0v _ _ (if ((1:Int) == 0)=true then _ else _) _ _ s
 rw[if_neg (by decide)]
 refine y02 (zet pl (y02 (zet pu (y02 (y06 ?_)))))
 show y0v _ _ (match Builtin.Slice.sliceAdjust lo hi 1 (n:Int) with|(lo,hi)=>pure (lo,(1:Int),y1m lo hi 1)) _ _ s
 rw[zne lo hi n]
 show y0v _ _ (pure (((sIx n 0 lo:Nat):Int),(1:Int),y1m ((sIx n 0 lo:Nat):Int) ((sIx n n hi:Nat):Int) 1)) _ _ s
 rw[zmg]
 exact y06 h
theorem zr2 (xs:Array Value) (i k:Nat):((List.range k).filterMap fun (m:Nat)=>xs[((i:Int)+(m:Int)*1).toNat]?).toArray=((xs.toList.drop i).take k).toArray:=by
 have e:(fun (m:Nat)=>xs[((i:Int)+(m:Int)*1).toNat]?)=fun m=>xs[i+m]?:=by
  funext m
  have:((i:Int)+(m:Int)*1).toNat=i+m:=by omega
  rw[this]
 rw[e]
 have:=pick_run xs i k
 rw[List.filterMap_map] at this
 have e2:((fun x=>xs[x]?) ∘ fun x=>i+x)=fun m=>xs[i+m]?:=rfl
 rw[e2] at this
 rw[this]
theorem getItem_tuple_cut {t sl:Addr} {items:Array Value} {vl vu:Value} {lo hi:Option Int} {Q:Value->y04->Prop} (ht:IsTup s.heap t items) (hs:s.heap.IsSliceOf sl vl vu .none) (pl:IsPart vl lo) (pu:IsPart vu hi)
  (hw:¬(sIx items.size 0 lo=0/\sIx items.size items.size hi=items.size))
  (h:Q (.ref s.heap.objs.size) { s with heap:=s.heap.push { cls:=.type "tuple",data:=.seq ((items.toList.drop (sIx items.size 0 lo)).take (sIx items.size items.size hi - sIx items.size 0 lo)).toArray } })
  (hsz:items.size<=y0k):y0v (model prog w) A (getItem (.ref t) (.ref sl)) Q E s:=by
 have htake:sizeOk (.seq ((items.toList.drop (sIx items.size 0 lo)).take (sIx items.size items.size hi - sIx items.size 0 lo)).toArray):=by
  show ((items.toList.drop (sIx items.size 0 lo)).take (sIx items.size items.size hi - sIx items.size 0 lo)).toArray.size<=y0k
  rw[y0i,List.length_take,List.length_drop,y27]
  omega
 have hj:sIx items.size items.size hi<=items.size:=zvn _ _ (y0p _) hi
 obtain⟨os,hos,hcs,hds⟩:=id hs
 have hTs:s.TypeIs (.ref sl) "slice":=⟨os,hos,hcs⟩
 unfold getItem
 try with_reducible refine wpAny_holding ?_
 first|refine y02 (y06 ?_)|skip
 refine y02 (wpAny_sequenceKey ht.typeIs (by decide) ?_)
 refine y02 (wpAny_callSpecial?_slot (name:=Str.ofString "__getitem__") ht.typeIs y1k
  (wpAny_call_entry y1k ht.typeIs entry_tuple_getitem ?_ (args_tuple_getitem _ _)))
 show y0v _ _ (Builtin.Tuple.tupleItemsOf (.ref t) >>= _) _ _ s
 refine y02 (tupleItemsOf_ ht ?_)
 refine y02 (wpAny_typeOf hTs ?_)
 rw[if_pos (by decide)]
 refine y02 (sliceApplied_gen hs pl pu ?_)
 have hno:¬((((sIx items.size 0 lo:Nat):Int) == 0 && (1:Int) == 1 && (sIx items.size items.size hi - sIx items.size 0 lo) == items.size)=true):=by
  intro q
  rw[y1e,y1e] at q
  have q1:((sIx items.size 0 lo:Nat):Int)=0:=eq_of_beq q.1.1
  have q2:sIx items.size items.size hi - sIx items.size 0 lo=items.size:=eq_of_beq q.2
  exact hw ⟨by omega,by omega⟩
 show y0v _ _ (if (((sIx items.size 0 lo:Nat):Int) == 0 && (1:Int) == 1 && (sIx items.size items.size hi - sIx items.size 0 lo) == items.size)=true then _ else _) _ _ s
 rw[if_neg hno,zr2]
 first
  | exact y02 (m:=y15 _) (wpAny_newObj_type (y06 ⟨_,rfl,y06 h⟩) htake)
  | exact y02 (m:=y15 _) (wpAny_newObj_type (y02 (y06 (y06 ⟨_,rfl,y06 h⟩))) htake)
  | exact y02 (y02 (m:=y15 _) (wpAny_newObj_type (y06 (y06 ⟨_,rfl,y06 h⟩)) htake))
  | exact y02 (y02 (m:=y15 _) (wpAny_newObj_type (y06 ⟨_,rfl,y06 h⟩) htake))
end
end HT
namespace L2
open PySem PySem.Spec PyProof.Rows
abbrev TO:=St->Hp->(Option Int->Hp->Prop)->Prop
noncomputable def PO (X:Cx) (e:Option Expr) (t:TO):Prop :=
 ∀(pins:List (Addr×Obj)) (s:y04) (σ:St) (H:Hp) (Q:Option Int->Hp->Prop),Inv X pins σ H s->t σ H Q ->
  y0v (model X.prog X.w) X.A (evalPart e X.env) (fun u s'=>∃o H',Inv X pins σ H' s'/\IsPart u o/\Q o H') X.xe s
def zte:TO:=fun _ H Q=>Q none H
def zxc (t:TE):TO:=fun σ H Q=>t σ H fun x H1=>∃i,x=.int i/\Q (some i) H1
section
variable {X:Cx} {e:Expr} {te:TE} {lo hi:Option Expr} {tl th:TO} {pos p2:Pos}
theorem ztz:PO X none zte:=by
 intro pins s σ H Q I h
 rw[evalPart_none]
 exact y06 ⟨none,H,I,.none,h⟩
theorem zty (h:PE X e te):PO X (some e) (zxc te):=by
 intro pins s σ H Q I hw
 rw[evalPart_some]
 refine thn (h pins s σ H _ I hw) fun u s1 ⟨x,H1,I1,r1,q1⟩=>?_
 obtain⟨i,rfl,q⟩:=q1
 obtain⟨t,rfl⟩:=r1
 exact⟨some i,H1,I1,.int i t,q⟩
noncomputable def SlR (X:Cx) (r:V->Option Int->Option Int->Hp->VK->Prop):Prop :=
 ∀(pins:List (Addr×Obj)) (s:y04) (σ:St) (H:Hp) (x:V) (v vl vu:Value) (lo hi:Option Int) (sl:Addr) (Q:VK),Inv X pins σ H s->RelV x v->s.heap.IsSliceOf sl vl vu .none->IsPart vl lo->IsPart vu hi->r x lo hi H Q ->
  ∃T id,typeLookup (.type T) "__getitem__"=pure (some (.builtin id))/\s.TypeIs v T/\y0v (model X.prog X.w) X.A (getItem v (.ref sl)) (EP X pins σ Q) X.xe s
theorem SlR.or {r r':V->Option Int->Option Int->Hp->VK->Prop} (h:SlR X r) (h':SlR X r'):SlR X (fun x lo hi H Q=>r x lo hi H Q\/r' x lo hi H Q):=by
 intro pins s σ H x v vl vu lo hi sl Q I rx hs pl pu q
 rcases q with q|q
 ·exact h pins s σ H x v vl vu lo hi sl Q I rx hs pl pu q
 ·exact h' pins s σ H x v vl vu lo hi sl Q I rx hs pl pu q
def tSl (r:V->Option Int->Option Int->Hp->VK->Prop) (te:TE) (tl th:TO):TE:=fun σ H Q=>te σ H fun x H1=>tl σ H1 fun l H2=>th σ H2 fun u H3=>r x l u H3 Q
theorem zr3 {r:V->Option Int->Option Int->Hp->VK->Prop} (hr:SlR X r) (he:PE X e te) (hl:PO X lo tl) (hu:PO X hi th):PE X (.Subscript e (.Slice lo hi none p2) pos) (tSl r te tl th):=by
 intro pins s σ H Q I h
 refine Subscript_ (thn (he pins s σ H _ I h) fun v s1 ⟨x,H1,I1,r1,q1⟩=>?_)
 refine wpAny_Slice (thn (hl pins s1 σ H1 _ I1 q1) fun vl s2 ⟨l,H2,I2,pl,q2⟩=>thn (hu pins s2 σ H2 _ I2 q2) fun vu s3 ⟨u,H3,I3,pu,q3⟩=>?_)
 rw[evalPart_none]
 refine y06 ?_
 have I4:Inv X pins σ H3 { s3 with heap:=s3.heap.push { cls:=.type "slice",data:=.fields #[vl,vu,.none] } }:=I3.kept (t':=s3.toks) fun b ob q=>y03 _ q
 obtain⟨T,id,hT,ht,hg⟩:=hr pins { s3 with heap:=s3.heap.push { cls:=.type "slice",data:=.fields #[vl,vu,.none] } } σ H3 x v vl vu l u s3.heap.objs.size Q I4 r1 (Heap.IsSliceOf.new ..) pl pu q3
 show y0v (model X.prog X.w) X.A (subscriptTail e (.Slice lo hi none p2) v (.ref s3.heap.objs.size)) (EP X pins σ Q) X.xe { s3 with heap:=s3.heap.push { cls:=.type "slice",data:=.fields #[vl,vu,.none] } }
 exact tail_any (ops:=[.ref s3.heap.objs.size,v]) ht hT hg (by with_unfolding_all rfl)
def cutV (xs:List V) (lo hi:Option Int):List V:=(xs.drop (HT.sIx xs.length 0 lo)).take (HT.sIx xs.length xs.length hi - HT.sIx xs.length 0 lo)
theorem ze2 (xs:List V) (lo hi:Option Int):(cutV xs lo hi).length<=xs.length:=by
 unfold cutV
 rw[List.length_take,List.length_drop]
 omega
noncomputable def rSlT (K:y00):V->Option Int->Option Int->Hp->VK->Prop:=fun x lo hi H Q=>∃a xs,x=.ref a/\SqT K H a xs /\
 ¬(HT.sIx xs.length 0 lo=0/\HT.sIx xs.length xs.length hi=xs.length)/\∀p,H p=none->Q (.ref p) (upd H p (.tup (cutV xs lo hi)))
theorem zvh:SlR X (rSlT X.K):=by
 intro pins s σ H x v vl vu lo hi sl Q I rx hs pl pu h
 obtain⟨a,xs,rfl,hx,hw,q⟩:=h
 cases rx
 obtain⟨its,r,ht,hz⟩:=I.tuple hx
 have hlen:its.toArray.size=xs.length:=by rw[y0i];exact r.length.symm
 refine⟨"tuple",_,PyProof.Rows.slot_tuple_getitem.lookup,ht.typeIs,?_⟩
 refine HT.getItem_tuple_cut ht hs pl pu (by rw[hlen];exact hw) ?_ (by rw[hlen];exact hz)
 rw[hlen]
 refine⟨.ref s.heap.objs.size,_,I.laid (t':=s.toks) (o:=.tup (cutV xs lo hi)) (fun b ob q=>y03 _ q) (y0p _) ?_,rfl,q _ (I.hok.fresh (y0p _))⟩
 exact⟨y1u (ze2 xs lo hi) hz,_,(r.drop (HT.sIx xs.length 0 lo)).take (HT.sIx xs.length xs.length hi - HT.sIx xs.length 0 lo),IsTup.new _ _⟩
noncomputable def zxn (K:y00):R2:=fun x y H Q=>∃a b xs ys,x=.ref a/\y=.ref b/\SqT K H a xs/\SqT K H b ys/\xs≠[]/\xs.length+ys.length<=y0k /\
 (ys=[]->Q (.ref a) H)/\(ys≠[]->∀p,H p=none->Q (.ref p) (upd H p (.tup (xs++ys))))
theorem Vals.nil_iff {xs:List V} {us:List Value} (r:Vals xs us):us=[] <-> xs=[]:=by
 cases r with
 | nil=>simp
 | cons _ _=>simp
theorem zoj:OpR X (binaryOp .Add) (zxn X.K):=by
 intro pins s σ H x y v u Q I rx ry h
 obtain⟨a,b,xs,ys,rfl,rfl,ha,hb,hx,hz,q1,q2⟩:=h
 cases rx
 cases ry
 obtain⟨its,r1,p1,_⟩:=I.tuple ha
 obtain⟨its2,r2,p2,_⟩:=I.tuple hb
 refine HT.cat_tup p1 p2 (fun z=>hx (r1.nil_iff.mp z)) (fun z=>⟨.ref a,H,I,rfl,q1 (r2.nil_iff.mp z)⟩) (fun z=>?_) (by rw[<- r1.length,<- r2.length];exact hz)
 refine⟨.ref s.heap.objs.size,_,I.laid (t':=s.toks) (o:=.tup (xs++ys)) (fun b ob q=>y03 _ q) (y0p _) ?_,rfl,q2 (fun w=>z (r2.nil_iff.mpr w)) _ (I.hok.fresh (y0p _))⟩
 exact⟨by rw[y2a];exact hz,_,r1.append r2,IsTup.new _ _⟩
end
end L2
namespace L2
open PySem PySem.Spec PyProof.Rows
def ixN (n:Nat) (i:Int):Option Nat:=if 0<=i then (if i<n then some i.toNat else none) else if -(n:Int)<=i then some (i+n).toNat else none
def atI {α:Type} (xs:List α) (i:Int):Option α:=(ixN xs.length i).bind fun j=>xs[j]?
theorem zul {n:Nat} {i:Int} {j:Nat} (h:ixN n i=some j):seqIndex? i n=some j/\j<n/\-(n:Int)<=i/\i<n:=by
 unfold ixN at h
 by_cases h0:0<=i
 ·rw[if_pos h0] at h
  by_cases h1:i<n
  ·rw[if_pos h1] at h
   have e:i.toNat=j:=y2n h
   exact⟨by rw[seqIndex_of h0 h1,e],by omega,by omega,h1⟩
  ·rw[if_neg h1] at h;cases h
 ·rw[if_neg h0] at h
  by_cases h1:-(n:Int)<=i
  ·rw[if_pos h1] at h
   have e:(i+n).toNat=j:=y2n h
   exact⟨by rw[seqIndex_neg (by omega) h1,e],by omega,h1,by omega⟩
  ·rw[if_neg h1] at h;cases h
theorem zkq {α:Type} {xs:List α} {i:Int} {v:α} (h:atI xs i=some v):∃j,seqIndex? i xs.length=some j/\xs[j]?=some v/\j<xs.length/\-(xs.length:Int)<=i/\i<xs.length:=by
 unfold atI at h
 cases e:ixN xs.length i with
 | none=>rw[e] at h;cases h
 | some j =>
  rw[e] at h
  obtain⟨h1,h2,h3,h4⟩:=zul e
  exact⟨j,h1,h,h2,h3,h4⟩
def zq6 (b:Expr):Prop:=∀o i,subscripted b false o i=operate [o,i] (getItem o i)
noncomputable def IxR (X:Cx) (r:R2):Prop :=
 ∀(value slice:Expr) (pins:List (Addr×Obj)) (s:y04) (σ:St) (H:Hp) (x y:V) (v u:Value) (Q:VK),Inv X pins σ H s->RelV x v->RelV y u->r x y H Q ->
  subscripted slice false v u=operate [v,u] (getItem v u)->y0v (model X.prog X.w) X.A (subscriptTail value slice v u) (EP X pins σ Q) X.xe s
noncomputable def MtR (X:Cx) (id:String) (r:V->List V->Hp->VK->Prop):Prop :=
 ∀(pins:List (Addr×Obj)) (s:y04) (σ:St) (H:Hp) (x:V) (xs:List V) (v:Value) (us:List Value) (Q:VK),Inv X pins σ H s->RelV x v->Vals xs us->r x xs H Q ->
  y0v (model X.prog X.w) X.A (call (.builtin id) (v::us)) (EP X pins σ Q) X.xe s
section
variable {X:Cx} {a b:Expr} {ta tb:TE} {pos:Pos}
theorem IxR.or {r r':R2} (h:IxR X r) (h':IxR X r'):IxR X (fun x y H Q=>r x y H Q\/r' x y H Q):=by
 intro value slice pins s σ H x y v u Q I rx ry q hs
 rcases q with q|q
 ·exact h value slice pins s σ H x y v u Q I rx ry q hs
 ·exact h' value slice pins s σ H x y v u Q I rx ry q hs
theorem zxx {r:R2} (hr:IxR X r) (ha:PE X a ta) (hb:PE X b tb) (hs:zq6 b):PE X (.Subscript a b pos) (tOp r ta tb):=by
 intro pins s σ H Q I h
 exact Subscript_ (binT ha hb I h fun v u s2 x y H2 I2 rx ry q=>hr a b pins s2 σ H2 x y v u Q I2 rx ry q (hs _ _))
def rIxL (K:y00):R2:=fun x y H Q=>∃p xs i v,x=.ref p/\y=.int i/\SqL K H p xs/\atI xs i=some v/\Q v H
def rIxT (K:y00):R2:=fun x y H Q=>∃p xs i v,x=.ref p/\y=.int i/\SqT K H p xs/\atI xs i=some v/\Q v H
def rIxS:R2:=fun x y H Q=>∃z i c,x=.str z/\y=.int i/\z.length<=y0k/\atI z.cps.toList i=some c/\Q (.str ⟨#[c]⟩) H
theorem zuj:IxR X (rIxL X.K):=by
 intro value slice pins s σ H x y v u Q I rx ry h hs
 obtain⟨p,xs,i,z,rfl,rfl,hq,he,q⟩:=h
 cases rx
 obtain⟨t,rfl⟩:=ry
 obtain⟨its,r,pl,hz⟩:=I.list hq
 obtain⟨j,h1,h2,h3,h4,h5⟩:=zkq he
 obtain⟨w,ew,rw'⟩:=r.get h2
 have hl:=r.length
 have hn:=zfk
 have fin:EP X pins σ Q w s:=⟨z,H,I,rw',q⟩
 by_cases h0:0<=i
 ·have hj:i.toNat=j:=by
   rw[seqIndex_of h0 h5] at h1
   exact y2n h1
  exact item_listR pl.isList h0 (by omega) (by rw[hj];simpa using ew) fin hs
 ·have hj:(i+(its.toArray.size:Int)).toNat=j:=by
   rw[seqIndex_neg (by omega) h4] at h1
   rw[y0i,<- hl]
   exact y2n h1
  exact subscriptTail_builtinR (x:=w) pl.isList.typeIs slot_list_getitem.lookup
   (wpAny_getItem_list_neg (Q:=fun r s'=>r=w/\EP X pins σ Q r s') pl.isList (by omega) (by rw[y0i] <;> omega) (by omega) (by rw[hj];simpa using ew) ⟨rfl,fin⟩) hs
theorem zwt:IxR X (rIxT X.K):=by
 intro value slice pins s σ H x y v u Q I rx ry h hs
 obtain⟨p,xs,i,z,rfl,rfl,hq,he,q⟩:=h
 cases rx
 obtain⟨t,rfl⟩:=ry
 obtain⟨its,r,pl,hz⟩:=I.tuple hq
 obtain⟨j,h1,h2,h3,h4,h5⟩:=zkq he
 obtain⟨w,ew,rw'⟩:=r.get h2
 have hl:=r.length
 have hn:=zfk
 have fin:EP X pins σ Q w s:=⟨z,H,I,rw',q⟩
 exact subscriptTail_builtinR (x:=w) pl.typeIs slot_tuple_getitem.lookup
  (getItem_tuple (j:=j) (Q:=fun r s'=>r=w/\EP X pins σ Q r s') pl (by omega) (by omega) (by rw[y0i,<- hl];exact h1) (by simpa using ew) ⟨rfl,fin⟩) hs
theorem zwu:IxR X rIxS:=by
 intro value slice pins s σ H x y v u Q I rx ry h hs
 obtain⟨z,i,c,rfl,rfl,hz,he,q⟩:=h
 obtain⟨t,rfl⟩:=rx
 obtain⟨t',rfl⟩:=ry
 obtain⟨j,h1,h2,h3,h4,h5⟩:=zkq he
 have hl:z.cps.toList.length=z.length:=by simp[Str.length]
 rw[hl] at h1 h4 h5
 have hn:=zfk
 exact tail_any (typeIs_str s z t) slot_str_getitem.lookup (getItem_str (c:=c) (by
  have e1:decide (i < -(2 ^ 63:Int))=false:=decide_eq_false (by omega)
  have e2:decide (i >= 2 ^ 63)=false:=decide_eq_false (by omega)
  rw[e1,e2,Bool.or_false]) (by rw[h1];simpa using h2) ⟨.str ⟨#[c]⟩,H,I.tok _,⟨_,rfl⟩,q⟩) hs
def rIx (K:y00):R2:=fun x y H Q=>rIxL K x y H Q\/rIxT K x y H Q\/rIxS x y H Q
theorem zwv:IxR X (rIx X.K):=zuj.or (zwt.or zwu)
theorem zh8 (lo hi:Option Int) (n:Nat):(sliceBounds lo hi none n).1=((HT.sIx n 0 lo:Nat):Int)/\(sliceBounds lo hi none n).2.1=((HT.sIx n n hi:Nat):Int)/\(sliceBounds lo hi none n).2.2=1:=by
 refine⟨?_,?_,rfl⟩
 ·cases lo with
  | none=>simp[sliceBounds,HT.sIx]
  | some i =>
   simp only[sliceBounds,HT.sIx,Option.getD_none,show (1:Int) > 0 by decide,if_true]
   by_cases h:i<0
   ·simp only[h,if_true] <;> omega
   ·simp only[h,if_false] <;> omega
 ·cases hi with
  | none=>simp[sliceBounds,HT.sIx]
  | some i =>
   simp only[sliceBounds,HT.sIx,Option.getD_none,show (1:Int) > 0 by decide,if_true]
   by_cases h:i<0
   ·simp only[h,if_true] <;> omega
   ·simp only[h,if_false] <;> omega
theorem zg2 (its:List Value) (lo hi:Option Int):slicePick its.toArray lo hi none=((its.drop (HT.sIx its.length 0 lo)).take (HT.sIx its.length its.length hi - HT.sIx its.length 0 lo)).toArray:=by
 obtain⟨h1,h2,h3⟩:=zh8 lo hi its.toArray.size
 unfold slicePick
 rw[h1,h2,h3]
 simp only[sliceRange_one,pick_run,y0i] <;> rfl
def rSlL (K:y00):V->Option Int->Option Int->Hp->VK->Prop:=fun x lo hi H Q=>∃a xs,x=.ref a/\SqL K H a xs/\∀p,H p=none->Q (.ref p) (upd H p (.lst (cutV xs lo hi)))
theorem zth:SlR X (rSlL X.K):=by
 intro pins s σ H x v vl vu lo hi sl Q I rx hs pl pu h
 obtain⟨a,xs,rfl,hx,q⟩:=h
 cases rx
 obtain⟨its,r,ht,hz⟩:=I.list hx
 have hlen:=r.length
 refine⟨"list",_,slot_list_getitem.lookup,ht.isList.typeIs,?_⟩
 refine wpAny_getItem_list_slice ht.isList hs pl pu .none (by simp) ?_ (by rw[y0i] <;> omega)
 rw[zg2,<- hlen]
 refine⟨.ref s.heap.objs.size,_,I.laid (t':=s.toks) (o:=.lst (cutV xs lo hi)) (fun b ob q=>y03 _ q) (y0p _) ?_,rfl,q _ (I.hok.fresh (y0p _))⟩
 exact⟨y1u (ze2 xs lo hi) hz,_,0,(r.drop (HT.sIx xs.length 0 lo)).take (HT.sIx xs.length xs.length hi - HT.sIx xs.length 0 lo),y0m _ rfl⟩
theorem zir:zbt X (.builtin "len") (fun xs H Q=>∃p ys,xs=[.ref p]/\(SqL X.K H p ys\/SqT X.K H p ys)/\Q (.int ys.length) H):=by
 intro pins s σ H xs us Q I r h
 obtain⟨p,ys,rfl,hq,q⟩:=h
 obtain⟨u,rfl,rx⟩:=zm4 r
 cases rx
 have hn:=zfk
 rcases hq with hq|hq
 ·obtain⟨its,r',pl,hz⟩:=I.list hq
  have hlen:=r'.length
  exact Calls.call_len_list pl.isList (by simp only[y0i] <;> omega) ⟨.int ys.length,H,I.tok _,⟨s.toks+1,by rw[y0i,hlen]⟩,q⟩
 ·obtain⟨its,r',pl,hz⟩:=I.tuple hq
  have hlen:=r'.length
  exact len_tuple pl (by simp only[y0i] <;> omega) ⟨.int ys.length,H,I.tok _,⟨s.toks+1,by rw[y0i,hlen]⟩,q⟩
theorem ziq:zbt X (.builtin "len") (fun xs H Q=>∃z,xs=[.str z]/\z.length<=y0k/\Q (.int z.length) H):=by
 intro pins s σ H xs us Q I r h
 obtain⟨z,rfl,hz,q⟩:=h
 obtain⟨u,rfl,t,rfl⟩:=zm4 r
 have hn:=zfk
 exact len_str (by omega) ⟨.int z.length,H,I.tok _,⟨_,rfl⟩,q⟩
theorem zbt.or {f:Value} {r r':List V->Hp->VK->Prop} (h:zbt X f r) (h':zbt X f r'):zbt X f (fun xs H Q=>r xs H Q\/r' xs H Q):=by
 intro pins s σ H xs us Q I rs q
 rcases q with q|q
 ·exact h pins s σ H xs us Q I rs q
 ·exact h' pins s σ H xs us Q I rs q
theorem zio:zbt X (.type "list") (fun xs H Q=>∃p ys,xs=[.ref p]/\(SqL X.K H p ys\/SqT X.K H p ys)/\∀l,H l=none->Q (.ref l) (upd H l (.lst ys))):=by
 intro pins s σ H xs us Q I r h
 obtain⟨p,ys,rfl,hq,q⟩:=h
 obtain⟨u,rfl,rx⟩:=zm4 r
 cases rx
 have fin:∀(its:List Value),Vals ys its->ys.length<=y0k->∀(h':Heap) (c':Nat),(∀b o',s.heap.get? b=some o'->h'.get? b=some o') ->
   h'.get? s.heap.objs.size=some { cls:=.type "list",dict:=none,data:=.seq its.toArray c',slots:=#[] }->EP X pins σ Q (.ref s.heap.objs.size) { s with heap:=h' }:=fun its r' hz h' c' kp e =>
  ⟨.ref s.heap.objs.size,_,I.laid (t':=s.toks) kp (y0p _) (show z6e X.prog X.w _ h' _ (.lst ys) from ⟨hz,its,c',r',e⟩),rfl,q _ (I.hok.fresh (y0p _))⟩
 rcases hq with hq|hq
 ·obtain⟨its,r',pl,hz⟩:=I.list hq
  have hlen:=r'.length
  obtain⟨o,ho,hc,n,hd⟩:=pl.isList
  exact call_list_seq p (.inl rfl) ho hc hd (fun h' c' kp e=>fin its r' hz h' c' kp e) (by simp only[y0i] <;> omega)
 ·obtain⟨its,r',pl,hz⟩:=I.tuple hq
  have hlen:=r'.length
  obtain⟨o,ho,hc,n,hd⟩:=pl
  exact call_list_seq p (.inr rfl) ho hc hd (fun h' c' kp e=>fin its r' hz h' c' kp e) (by simp only[y0i] <;> omega)
theorem zgt:zbt X (.type "tuple") (fun xs H Q=>∃p ys,xs=[.ref p]/\((SqL X.K H p ys/\∀l,H l=none->Q (.ref l) (upd H l (.tup ys)))\/(SqT X.K H p ys/\Q (.ref p) H))):=by
 intro pins s σ H xs us Q I r h
 obtain⟨p,ys,rfl,h⟩:=h
 obtain⟨u,rfl,rx⟩:=zm4 r
 cases rx
 rcases h with ⟨hq,q⟩|⟨hq,q⟩
 ·obtain⟨its,r',pl,hz⟩:=I.list hq
  have hlen:=r'.length
  refine call_tuple_list pl.isList (fun h' kp=>?_) (by simp only[y0i] <;> omega)
  have I1:Inv X pins σ H { s with heap:=h' }:=I.kept (t':=s.toks) kp
  have I2:Inv X pins σ (upd H h'.objs.size (.tup ys)) { s with heap:=h'.push { cls:=.type "tuple",data:=.seq its.toArray } } :=
   I1.laid (t':=s.toks) (fun b o e=>y03 _ e) (y0p _) (show z6e X.prog X.w _ _ _ (.tup ys) from ⟨hz,its,r',IsTup.new _ _⟩)
  exact⟨.ref h'.objs.size,_,I2,rfl,q _ (I1.hok.fresh (y0p _))⟩
 ·obtain⟨its,r',pl,hz⟩:=I.tuple hq
  exact call_tuple_same pl ⟨.ref p,H,I,rfl,q⟩
noncomputable def tyV (K:y00) (T:String) (x:V) (H:Hp):Prop:=match x with
 | .str _=>T="str"
 | .int _=>T="int"
 | .ref p=>(T="list"/\∃xs,SqL K H p xs)\/(T="tuple"/\∃o,K.lookup p=some o/\o.cls=.type "tuple"/\o.dict=none) \/
   (T="dict"/\((∃kvs,H p=some (.dK kvs))\/∃kvs,H p=some (.dT kvs)))\/(T="set"/\∃S n,H p=some (.set S n))
 | _=>False
theorem zse {pins:List (Addr×Obj)} {σ:St} {H:Hp} {s:y04} {T:String} {x:V} {v:Value} (I:Inv X pins σ H s) (r:RelV x v) (ty:tyV X.K T x H) :
  s.TypeIs v T/\∀a,v=.ref a->∃ob,s.heap.get? a=some ob/\ob.dict=none:=by
 cases x with
 | str z =>
  obtain⟨t,rfl⟩:=r
  cases (show T="str" from ty)
  exact⟨typeIs_str s z t,fun _ e=>nomatch e⟩
 | int i =>
  obtain⟨t,rfl⟩:=r
  cases (show T="int" from ty)
  exact⟨typeIs_int s i t,fun _ e=>nomatch e⟩
 | ref p =>
  cases r
  rcases ty with ⟨rfl,xs,hq⟩|⟨rfl,o,hk,hc,hd⟩|⟨rfl,hk⟩|⟨rfl,S,n,hk⟩
  ·obtain⟨its,_,pl,_⟩:=I.list hq
   refine⟨pl.isList.typeIs,fun a e=>?_⟩
   cases e
   obtain⟨o,n,e,c,hd,_⟩:=pl
   exact⟨o,e,hd⟩
  ·refine⟨⟨o,I.kIn p o hk,hc⟩,fun a e=>?_⟩
   cases e
   exact⟨o,I.kIn _ o hk,hd⟩
  ·have z:∃o,s.heap.get? p=some o/\o.ExactDict:=by
    rcases hk with ⟨kvs,hk⟩|⟨kvs,hk⟩
    ·obtain⟨_,_,_,_,o,_,_,e,ex,_⟩:=I.hok p _ hk
     exact⟨o,e,ex⟩
    ·obtain⟨_,_,_,_,o,_,_,e,ex,_⟩:=I.hok p _ hk
     exact⟨o,e,ex⟩
   obtain⟨o,e,ex⟩:=z
   refine⟨⟨o,e,ex.1⟩,fun a e2=>?_⟩
   cases e2
   exact⟨o,e,ex.2.1⟩
  ·obtain⟨o,_,_,_,e,ex,_⟩:=I.hok p _ hk
   refine⟨⟨o,e,ex.1⟩,fun a e2=>?_⟩
   cases e2
   exact⟨o,e,ex.2.1⟩
 | _=>exact y24 ty
def tBM0 (K:y00) (T:String) (r:V->List V->Hp->VK->Prop) (to:TE):TE:=fun σ H Q=>to σ H fun x H1=>tyV K T x H1/\r x [] H1 Q
def tBM (K:y00) (T:String) (r:V->List V->Hp->VK->Prop) (to:TE) (t:TA):TE:=fun σ H Q=>to σ H fun x H1=>tyV K T x H1/\t σ H1 fun xs H2=>r x xs H2 Q
variable {o e:Expr} {es:List Expr} {to:TE} {t:TA} {name:Str} {apos cpos:Pos} {T id:String} {r:V->List V->Hp->VK->Prop}
theorem zss (pa:PlainAttrs T) (slot:Slot T name id) (hty:typeOf (.builtin id)=pure (.type "method_descriptor")) (hm:MtR X id r) (ho:PE X o to)
  (hbase:attributeBase o name X.env (eval o X.env)=eval o X.env:=by rfl) (hline:(apos.endLine == cpos.line)=true:=by rfl):PE X (.Call (.Attribute o name apos) [] [] cpos) (tBM0 X.K T r to):=by
 intro pins s σ H Q I h
 refine wpAny_Call_method0_late hbase hline (thn (ho pins s σ H _ I h) fun v s1 ⟨x,H1,I1,r1,ty,q1⟩=>?_)
 obtain⟨h1,h2⟩:=zse I1 r1 ty
 exact⟨T,id,pa,slot,hty,h1,h2,Calls.callWith_builtin rfl (PySem.evalArgs_none (hm pins s1 σ H1 x [] v [] Q I1 r1 .nil q1))⟩
theorem zwc (pa:PlainAttrs T) (slot:Slot T name id) (hty:typeOf (.builtin id)=pure (.type "method_descriptor")) (hm:MtR X id r) (ho:PE X o to) (ha:PA X (e::es) t)
  (hbase:attributeBase o name X.env (eval o X.env)=eval o X.env:=by rfl)
  (hfew:((backTo cpos (y0a (e::es) X.env)).all (fun x=>!x.1) && (backToKw cpos (keywordEach [] X.env)).all (fun x=>x.1.isSome)
   && decide ((e::es).length+([]:List Keyword).length+(if ([]:List Keyword).isEmpty then 0 else 1)<30))=true:=by rfl)
  (hline:(apos.endLine == cpos.line)=true:=by rfl) (hs:y0a (e::es) X.env=(false,eval e X.env)::y0a es X.env:=by rfl) (hplain:(backTo cpos (y0a es X.env)).any (·.1)=false:=by rfl) :
  PE X (.Call (.Attribute o name apos) (e::es) [] cpos) (tBM X.K T r to t):=by
 intro pins s σ H Q I h
 refine wpAny_Call_method_late hbase hfew hline rfl (thn (ho pins s σ H _ I h) fun v s1 ⟨x,H1,I1,r1,ty,q1⟩=>?_)
 obtain⟨h1,h2⟩:=zse I1 r1 ty
 refine⟨T,id,pa,slot,hty,h1,h2,?_⟩
 have hA:=ha cpos pins s1 σ H1 _ I1 q1
 rw[hs] at hA ⊢
 refine Calls.callWith_builtin (by show (false || (backTo cpos (y0a es X.env)).any (·.1))=false;rw[hplain] <;> rfl) (Calls.evalArgs_plain ?_)
 exact thn hA fun us s2 ⟨vs,H2,I2,r2,q2⟩=>hm pins s2 σ H2 x vs v us Q I2 r1 r2 q2
end
end L2
namespace L2
open PySem PySem.Spec PyProof.Rows
noncomputable def MtM (X:Cx) (id:String) (r:V->List V->Hp->VK->Prop):Prop :=
 ∀(pins:List (Addr×Obj)) (s:y04) (σ:St) (H:Hp) (x:V) (xs:List V) (v:Value) (us:List Value) (Q:VK),Inv X pins σ H s->RelV x v->Vals xs us->r x xs H Q ->
  y0v (model X.prog X.w) X.A (call (.builtin id) (v::us)) (EP X pins σ Q) X.xe s
theorem Vals.one:∀{x:V} {us:List Value},Vals [x] us->∃u,us=[u]/\RelV x u
 | _,_,.cons r .nil=>⟨_,rfl,r⟩
theorem Vals.two:∀{x y:V} {us:List Value},Vals [x,y] us->∃u v,us=[u,v]/\RelV x u/\RelV y v
 | _,_,_,.cons r (.cons q .nil)=>⟨_,_,rfl,r,q⟩
theorem Vals.zero:∀{us:List Value},Vals [] us->us=[]
 | _,.nil=>rfl
theorem Vals.dropLast {xs:List V} {us:List Value} (h:Vals xs us):Vals xs.dropLast us.dropLast:=by
 induction h with
 | nil=>exact .nil
 | cons r t ih =>
  cases t with
  | nil=>exact .nil
  | cons q t'=>exact .cons r ih
theorem Vals.eraseIdx:∀{xs:List V} {us:List Value} (i:Nat),Vals xs us->Vals (xs.eraseIdx i) (us.eraseIdx i)
 | _,_,_,.nil=>.nil
 | _,_,0,.cons _ t=>t
 | _,_,i+1,.cons r t=>.cons r (Vals.eraseIdx i t)
theorem Vals.rep {xs:List V} {us:List Value} (h:Vals xs us):∀k:Nat,Vals (y0h k xs).flatten (y0h k us).flatten
 | 0=>.nil
 | k+1=>by
  rw[y1y,y1y,y2h,y2h]
  exact Vals.append h (Vals.rep h k)
theorem zmr {α:Type} (l:List α):l.eraseIdx (l.length - 1)=l.dropLast:=by
 induction l with
 | nil=>rfl
 | cons a r ih =>
  cases r with
  | nil=>rfl
  | cons b r =>
   have e:(a::b::r).length - 1=((b::r).length - 1)+1:=by
    have h1:(a::b::r).length=r.length+2:=rfl
    have h2:(b::r).length=r.length+1:=rfl
    omega
   rw[e,List.eraseIdx_cons_succ,ih]
   all_goals rfl
theorem zi0 {α:Type}:∀(l:List α) (i:Nat),(l.eraseIdx i).length<=l.length
 | [],_=>y0p _
 | _::_,0=>y2p _
 | _::r,i+1=>Nat.succ_le_succ (zi0 r i)
theorem zap (its:List Value):∀(k:Nat) (acc:List Value),
  List.foldl (fun x1 x2=>x1++x2) acc.toArray (y0h k its.toArray)=(acc++(y0h k its).flatten).toArray
 | 0,acc=>by simp
 | k+1,acc=>by
  have e:acc.toArray++its.toArray=(acc++its).toArray:=by simp
  have e2:(acc++its)++(y0h k its).flatten=acc++(y0h (k+1) its).flatten:=by
   rw[y1y,y2h,y2s]
  rw[<- e2,<- zap its k (acc++its),<- e,y1y,List.foldl_cons]
section
variable {X:Cx} {pins:List (Addr×Obj)} {σ:St} {H:Hp} {s:y04} {l b:Addr} {xs ys zs:List V}
theorem Inv.lset {its its':List Value} {n:Nat} {f:Array Value->Array Value} {t':Nat} (I:Inv X pins σ H s) (hH:H l=some (.lst xs))
  (e:s.heap.get? l=some { cls:=.type "list",data:=.seq its.toArray n }) (hf:f its.toArray=its'.toArray) (hv:Vals ys its') (hz:ys.length<=y0k) :
  Inv X pins σ (upd H l (.lst ys)) { s with heap:=s.heap.update l (Obj.mapSeq f),toks:=t' }:=by
 have q:=PySem.IsL.update e f
 rw[hf] at q
 refine I.write (x:=l) (e:=l) (by rw[hH];exact trivial) (.inl rfl) (fun b' u hb hu=>(Heap.get?_update_other s.heap (Obj.mapSeq f) (Ne.symm hb)).trans hu) ⟨_,q⟩ ?_
 exact⟨hz,its',_,hv,q⟩
theorem Inv.lnew {its:List Value} {t':Nat} (I:Inv X pins σ H s) (hv:Vals ys its) (hz:ys.length<=y0k) :
  Inv X pins σ (upd H s.heap.objs.size (.lst ys)) { s with heap:=s.heap.push { cls:=.type "list",data:=.seq its.toArray },toks:=t' } :=
 I.laid (fun _ _ q=>y03 _ q) (y0p _) ⟨hz,its,0,hv,y0m _ rfl⟩
theorem Inv.fresh (I:Inv X pins σ H s):H s.heap.objs.size=none:=I.hok.fresh (y0p _)
theorem Inv.lstM (I:Inv X pins σ H s) (hH:H l=some (.lst xs)):xs.length<=y0k/\∃(its:List Value) (n:Nat),Vals xs its/\xs.length=its.length/\s.heap.get? l=some { cls:=.type "list",data:=.seq its.toArray n }:=by
 obtain⟨z,its,n,r,e⟩:=I.hok l _ hH
 exact⟨z,its,n,r,r.length,e⟩
theorem zr9 {n:Nat} (h:n<=y0k):Builtin.List.listTooLong n=false:=by
 unfold Builtin.List.listTooLong
 exact decide_eq_false (by omega)
end
section
variable {X:Cx}
def ztr:V->List V->Hp->VK->Prop:=fun x vs H Q=>∃l xs y,x=.ref l/\vs=[y]/\H l=some (.lst xs)/\xs.length<y0k/\Q .non (upd H l (.lst (xs++[y])))
theorem zhx:MtM X "list.append" ztr:=by
 intro pins s σ H x vs v us Q I rx rv h
 obtain⟨l,xs,y,rfl,rfl,hH,hz,q⟩:=h
 cases rx
 obtain⟨u,rfl,ru⟩:=rv.one
 obtain⟨z,its,n,r,hl,e⟩:=I.lstM hH
 refine call_meets F.slot_list_append ⟨_,e,rfl⟩ F.entry_list_append (F.args_list_append_2 _ _) (PySem.list_append l its.toArray n u (by rw[y0i];omega)) ⟨e,?_⟩
 refine⟨.non,_,I.lset (its':=its++[u]) hH e (by simp) (r.append (.cons ru .nil)) ?_,rfl,q⟩
 rw[y2a,List.length_singleton]
 omega
def rPop:V->List V->Hp->VK->Prop:=fun x vs H Q=>∃l xs y,x=.ref l/\vs=[]/\H l=some (.lst xs)/\xs[xs.length - 1]?=some y/\Q y (upd H l (.lst xs.dropLast))
theorem zwn:MtM X "list.pop" rPop:=by
 intro pins s σ H x vs v us Q I rx rv h
 obtain⟨l,xs,y,rfl,rfl,hH,hy,q⟩:=h
 cases rx
 have hus:=rv.zero
 subst hus
 obtain⟨z,its,n,r,hl,e⟩:=I.lstM hH
 obtain⟨u,hu,ru⟩:=r.get hy
 have hy':its.toArray[its.toArray.size - 1]?=some u:=by
  show its.toArray[its.length - 1]?=some u
  rw[<- Array.getElem?_toList,<- hl]
  exact hu
 refine call_meets F.slot_list_pop ⟨_,e,rfl⟩ F.entry_list_pop (F.args_list_pop_1 _) (MeetsSeq.list_pop_last l its.toArray n u hy' (by rw[y0i];omega)) ⟨e,?_⟩
 refine⟨y,_,I.lset (its':=its.dropLast) hH e ?_ r.dropLast ?_,ru,q⟩
 ·show its.toArray.eraseIdxIfInBounds (its.toArray.size - 1)=its.dropLast.toArray
  rw[y0i,List.eraseIdxIfInBounds_toArray,zmr]
 ·rw[List.length_dropLast]
  omega
theorem zk4 {α:Type} (xs:List α) (k:Nat):(y0h k xs).flatten.length=k*xs.length:=by
 induction k with
 | zero=>simp
 | succ k ih=>rw[y1y,y2h,y2a,ih,Nat.succ_mul,Nat.add_comm]
end
section
variable {prog:y0r} {w:World} {A:Around} {E:Value->y04->Prop} {s:y04}
end
section
variable {X:Cx}
end
end L2
namespace Att
open PySem PySem.W PySem.Calls PyProof.Rows
theorem zdu {P:Params} {h:Heap}:∀(ns:List Int) (vs:List Value),WellAll P h vs (ns.map WData.int)->IntsAre vs ns:=by
 intro ns
 induction ns with
 | nil =>
  intro vs w
  rw[y1c] at w
  cases w
  exact .nil
 | cons n ns ih =>
  intro vs w
  rw[y0e] at w
  cases w with
  | cons a b =>
   cases a
   exact .cons _ _ (ih _ b)
theorem znu {l:OpenLaw} {n:Nat} (hn:l.most=some n) {P:Params} {h:Heap} {args:List WData} {vals:List Value}
    (hpre:l.row.toRowW.claim.pre args=true) (hwl:WellAll P h vals args) :
    ∃a vs ns,vals=[Value.ref a]/\args=[WData.list (ns.map WData.int)]/\h.get? a=some { cls:=.type "list",data:=.seq vs.toArray }/\IntsAre vs ns/\ns.length<=n:=by
  have hsh:WShape.hasAll [] args [.list .int]=true:=(pre_splitW hpre).1
  have hc:l.pre.holds [] { args:=args }=true:=(pre_splitW hpre).2
  obtain⟨d,r,rfl,h1,h2⟩:=hasAllW_cons hsh
  obtain rfl:=hasAllW_nil h2
  obtain⟨xs,rfl,h3⟩:=hasW_list h1
  obtain⟨ns,rfl⟩:=items_int h3
  have hlen:ns.length<=n:=by
    unfold OpenLaw.pre at hc
    have h4:(WTm.not (.lt (.lit (.int (n:Int))) (.len (.arg 0)))).holds [] { args:=[.list (ns.map .int)] }=true:=by
      have h4:=(holds_andW hc).1
      rw[hn] at h4
      exact h4
    have h5:=condW_of h4 (w_not (w_lt w_lit (w_len_list (w_arg rfl))))
    rw[y16] at h5
    refine Nat.le_of_not_lt fun q=>?_
    have q':(n:Int)<((ns.length:Nat):Int):=by omega
    first
      | (rw[decide_eq_true q'] at h5;exact absurd h5 (by decide))
      | (simp at h5;omega)
  cases hwl with
  | cons w1 w2 =>
    cases w2
    cases w1 with
    | list ho hall=>exact⟨_,_,ns,rfl,rfl,ho,zdu ns _ hall,hlen⟩
theorem zoc (l:OpenLaw) (args:List WData):l.row.toRowW.claim.post args (.bool true) args=true :=
 postW_of (r:=l.row.toRowW) (X:=(true == true))
  (show WShape.has [] (.bool true) .bool=true by first|rfl|decide|simp[WShape.has,WShape.arms,WShape.armsAll])
  (show (WTm.eq .res (.lit (.bool true))).value [] { args:=args,res:=some (.bool true),after:=args }=some (.bool (true == true)) from w_eq_bool (w_res rfl) w_lit) rfl
theorem attach_call {l:OpenLaw} {n:Nat} {q:y0r} {loose:List Str} {XP:(Str->Option Value)->Heap->Prop} {YP:World->Heap->Prop} {d:DefRec}
  (hn:l.most=some n) (hdf:d.params.defaults=[])
  (call:∀(w:World) (s₀ s₁:y04) (mg mb:Str->Option Value) (fa:Addr) (o:Obj) (pm cd doc:Value) (a:Addr) (vs:List Value) (ns:List Int),
   Ground q loose [] XP w s₀ mg mb s₁.heap->YP w s₁.heap ->
   s₁.heap.get? fa=some o->o.data=.func (docDef d.name d.params d.body d.scope pm cd doc)->s₁.heap.CodeRec cd d.name->mg d.name=some (.ref fa) ->
   s₁.heap.get? a=some { cls:=.type "list",data:=.seq vs.toArray }->IntsAre vs ns->ns.length<=n->s₁.gens=#[] ->
   codeAny (model l.prog w) callerA (.call (.ref fa) ⟨[.ref a],[]⟩) (fun r s'=>r=.ok (.ret (.bool true))/\OldK s₁.heap s'.heap/\s'.os=s₁.os/\AllBare s'.gens) s₁) :
  WalkO q loose XP YP l.row.toRowW d [] (fun f vs=>PySem.call f vs):=by
 intro w s₀ s₁ mg mb G Y fa o pm cd doc dV kV ho hd hcd hD hmg hg args vals as hpre hlay hrd hwl hlo
 obtain rfl:dV=.none:=Dflts.none hD hdf
 obtain rfl:kV=.none:=Dflts.noKw hD
 obtain⟨a,vs,ns,rfl,rfl,hobj,hints,hlen⟩:=znu hn hpre hwl
 refine enter_call (codeAny_mono (call w s₀ s₁ mg mb fa o pm cd doc a vs ns G Y ho (fd_plain hd) hcd hmg hobj hints hlen hg) fun r s' hq=>?_)
 obtain⟨rfl,h2,h3,h4⟩:=hq
 exact⟨.inl ⟨.bool true,.bool true,[],rfl,fun _=>rfl,.bool true,zoc l _,fun _=>⟨List.Pairwise.nil,fun _ hm=>(nomatch hm)⟩⟩,h2,h3,h4⟩
section
variable {prog:y0r} {w:World} {A:Around} {E:Value->y04->Prop} {s:y04} {K:Frag}
end
end Att
namespace L2
open PySem PySem.Spec PyProof.Rows
theorem zgz:∀{vs:List Value} {ns:List Int},IntsAre vs ns->Vals (ns.map V.int) vs
 | _,_,.nil=>.nil
 | _,_,.cons n t h=>.cons ⟨t,rfl⟩ (zgz h)
end L2
namespace L2
open PySem PySem.Spec PyProof.Rows
end L2
namespace L2
open PySem PySem.Spec PyProof.Rows
def z0r (s:Stmt) (j:Nat):Stmt:=match s with
 | .ClassDef _ _ _ body _ _ _ _ _ _ _=>body.getD j (.Pass ⟨0,0,0,0⟩)
 | _=>.Pass ⟨0,0,0,0⟩
noncomputable def z09 (s:Stmt):Arguments:=match s with
 | .FunctionDef _ a _ _ _ _ _ _ _ _=>a
 | _=>{ posonlyargs:=[],args:=[],vararg:=none,kwonlyargs:=[],kw_defaults:=[],kwarg:=none,defaults:=[] }
def z06 (s:Stmt):List Stmt:=match s with
 | .FunctionDef _ _ b _ _ _ _ _ _ _=>b
 | _=>[]
def z01 (s:Stmt):Scope:=match s with
 | .FunctionDef _ _ _ _ _ _ sc _ _ _=>sc
 | _=>{ kind:=.function,names:=[],isGenerator:=false,isCoroutine:=false }
abbrev CX0:CXT:=fun _ _ _ _ _ _=>False
abbrev E0:XK:=fun _ _ _=>False
theorem zge {X:Cx}:zed CX0 X E0:=fun _ _ _ _ _ _ _ h=>h.elim
structure Fun (K:y00) (x qual:Str) (st:Stmt) (f:Addr) (fd:y0b):Prop where
 ex:∃(oc:Value) (od:Option Addr) (kV doc pm:Value) (an:Option Addr) (cdv ct:Value) (osl:Array (Option Value)),
  fd=y0j x qual (z09 st) (z06 st) (z01 st) .none kV doc pm an cdv ct/\K.lookup f=some ⟨oc,od,.func fd,osl⟩/\y0g K cdv qual=true
 kp:y08 K (.ref f)=true
section
variable {P:y0r} {w:World} {K:y00} {mg:Str->Option Value} {base:Heap}
theorem Fun.ok {x qual:Str} {st:Stmt} {f:Addr} {fd:y0b} {N ps:List Str} {k:Nat} {sp:Sp} (F:Fun K x qual st f fd) (S:FnScope N ps (z01 st)) (len:∀vs H Q E,sp vs H Q E->vs.length=ps.length)
  (hbody:∀(cdv:Value) (A:Around) (outer:List Env) (s:y04) (H:Hp) (vs:List V) (Q:VK) (E:XK),Room k (A.deeper (envOfC qual (z01 st) s.heap.objs.size f cdv))->sp vs H Q E ->
   ∃t,PSs (cxOf CX0 P w K mg base N qual (z01 st) f cdv A outer s H E).nox (z06 st) t/\t { nx:=fun _ H'=>Q .non H',rt:=Q } (start N vs) H):FnOk P w K mg base CX0 (k+1) f fd ps sp:=by
 obtain⟨oc,od,kV,doc,pm,an,cdv,ct,osl,rfl,lk,hcd⟩:=F.ex
 refine zwx lk hcd S len fun A outer s H vs Q E hr hsp=>?_
 obtain⟨t,h,q⟩:=hbody cdv A outer s H vs Q E hr hsp
 exact⟨t,h.nox,q⟩
theorem Fun.binds {x qual:Str} {st:Stmt} {f:Addr} {fd:y0b} {ps:List Str} (F:Fun K x qual st f fd)
  (h:∀(kV doc pm:Value) (an:Option Addr) (cdv ct:Value) (us:List Value),us.length=ps.length->bindArgs (y0j x qual (z09 st) (z06 st) (z01 st) .none kV doc pm an cdv ct) ⟨us,[]⟩=pure (ps.zip us)):z0p K fd ps []:=by
 obtain⟨oc,od,kV,doc,pm,an,cdv,ct,osl,rfl,lk,hcd⟩:=F.ex
 exact .all (h kV doc pm an cdv ct)
theorem z0m {x qual:Str} {st:Stmt} {f:Addr} {oc:Value} {od an:Option Addr} {osl:Array (Option Value)} {kV doc pm cdv ct:Value} (l:K.lookup f=some ⟨oc,od,.func (y0j x qual (z09 st) (z06 st) (z01 st) .none kV doc pm an cdv ct),osl⟩)
  (c:y0g K cdv qual=true) (k:y08 K (.ref f)=true):Fun K x qual st f (y0j x qual (z09 st) (z06 st) (z01 st) .none kV doc pm an cdv ct):=⟨⟨oc,od,kV,doc,pm,an,cdv,ct,osl,rfl,l,c⟩,k⟩
end
theorem zpc {A:Around} {k:Nat} (hr:Room k A):A.units+1<cLine:=Nat.lt_of_le_of_lt (Nat.add_le_add_left (by decide:1<=64) _) hr.units
section
variable {X:Cx}
theorem pv (i:Nat) {x:Str} {pos:Pos} (hN:X.N[i]?=some x:=by rfl) (hv:Vis X.env.scope x:=by first|exact Or.inl rfl|exact Or.inr (Or.inl rfl)|exact Or.inr (Or.inr rfl)) (hd:(x == ("__debug__":Str))=false:=by decide)
  (hcd:(x == ("__classdict__":Str))=false:=by decide):PE X (.Name x pos) (tVar i):=zw8 hN hv hd hcd
end
theorem iteF {A B:Prop} (h:B):if false=true then A else B:=by
 rw[if_neg y2b]
 exact h
theorem iteT {A B:Prop} (h:A):if true=true then A else B:=by
 rw[if_pos rfl]
 exact h
def Same (H H':Hp):Prop:=∀b o,H b=some o->H' b=some o
end L2
end
section
namespace D
open PySem
abbrev T:=PyData
def okT (a:T):Bool:=a.canLay0 && decide (a.depth<=60)
def okL (as:List T):Bool:=y1j as && decide (y1h as<=60)
abbrev Key:=Sum Int Str
inductive Md where
 | ro|own|lent
 deriving DecidableEq
inductive Sl where
 | imm (t:T)|own (ts:List T)|dic (kvs:List (Key×T))|obj (m:Md) (c:Nat) (fs:List Sl)
abbrev Ev:=List (Option Sl)
inductive Out where
 | nx (ε:Ev)|rt (t:T)|bk (ε:Ev)|ct (ε:Ev)|rtm (t:T) (ε:Ev)|rto (s:Sl)
abbrev Fe:=Ev->Option T
abbrev Ft:=Ev->Option Bool
abbrev Fs:=Ev->Option Out
abbrev Fi:=Ev->Option (List T)
abbrev Fg:=T->Ev->Option Ev
def big:Nat:=16777216
noncomputable def oAdd:T->T->Option T
 | .int i,.int j=>some (.int (i+j))
 | .str x,.str y=>if x.length+y.length<=big then some (.str (x++y)) else none
 | .tuple xs,.tuple ys=>if xs.length+ys.length<=big then some (.tuple (xs++ys)) else none
 | .list xs,.list ys=>if xs.length+ys.length<=big then some (.list (xs++ys)) else none
 | _,_=>none
def oSub:T->T->Option T
 | .int i,.int j=>some (.int (i - j))
 | _,_=>none
def zrc (i j:Int):Bool:=(decide (-(2 ^ 64)<i) && decide (i<2 ^ 64)) || (decide (-(2 ^ 64)<j) && decide (j<2 ^ 64))
def oMul:T->T->Option T
 | .int i,.int j=>if zrc i j then some (.int (i*j)) else none
 | _,_=>none
def oDiv:T->T->Option T
 | .int i,.int j=>if 0<j/\j<1073741824 then some (.int (i / j)) else none
 | _,_=>none
def oMod:T->T->Option T
 | .int i,.int j=>if 0<j then some (.int (i % j)) else none
 | _,_=>none
def oNeg:T->Option T
 | .int i=>some (.int (-i))
 | _=>none
def ixOf (n:Nat) (i:Int):Option Nat:=if 0<=i then (if i<n then some i.toNat else none) else if -(n:Int)<=i then some (i+n).toNat else none
def atZ {α:Type} (xs:List α) (i:Int):Option α:=(ixOf xs.length i).bind fun j=>xs[j]?
noncomputable def oIx:T->T->Option T
 | .tuple xs,.int i=>atZ xs i
 | .list xs,.int i=>atZ xs i
 | .str x,.int i=>if x.length<=big then (atZ x.cps.toList i).map fun c=>.str ⟨#[c]⟩ else none
 | _,_=>none
def oEq (a b:T):Option T:=if okT a && okT b then some (.bool (y28 a b)) else none
def oNe (a b:T):Option T:=if okT a && okT b then some (.bool (!PyData.eqv a b)) else none
def oIsN (a:T):Option T:=some (.bool (match a with|.none=>true|_=>false))
def z82 (a:T):Option T:=some (.bool (match a with|.none=>false|_=>true))
def z6c (x y:Str):Bool:=decide (x.cps.toList<y.cps.toList)
def oLt:T->T->Option T
 | .int i,.int j=>some (.bool (decide (i<j)))
 | .str x,.str y=>some (.bool (z6c x y))
 | _,_=>none
def oLe:T->T->Option T
 | .int i,.int j=>some (.bool (decide (i<=j)))
 | .str x,.str y=>some (.bool (!z6c y x))
 | _,_=>none
def oGt:T->T->Option T
 | .int i,.int j=>some (.bool (decide (j<i)))
 | .str x,.str y=>some (.bool (z6c y x))
 | _,_=>none
def oGe:T->T->Option T
 | .int i,.int j=>some (.bool (decide (j<=i)))
 | .str x,.str y=>some (.bool (!z6c x y))
 | _,_=>none
def hasT (x:T) (ts:List T):Bool:=ts.any fun y=>y28 y x
noncomputable def oIn (neg:Bool):T->T->Option T
 | x,.tuple ys=>if okT x && okL ys then some (.bool (if neg then !hasT x ys else hasT x ys)) else none
 | x,.list ys=>if okT x && okL ys then some (.bool (if neg then !hasT x ys else hasT x ys)) else none
 | _,_=>none
def oLen:List T->Option T
 | [.tuple xs]=>some (.int xs.length)
 | [.list xs]=>some (.int xs.length)
 | [.str x]=>if x.length<=big then some (.int x.length) else none
 | _=>none
def oMin:List T->Option T
 | [.int i,.int j]=>some (.int (if j<i then j else i))
 | _=>none
def oMax:List T->Option T
 | [.int i,.int j]=>some (.int (if j > i then j else i))
 | _=>none
def z30:List T->Option T
 | [.tuple xs]=>some (.tuple xs)
 | [.list xs]=>some (.tuple xs)
 | _=>none
def zwm:List T->Option T
 | [.tuple xs]=>some (.list xs)
 | [.list xs]=>some (.list xs)
 | _=>none
def oInt:List T->Option T
 | [.int i]=>some (.int i)
 | [.bool b]=>some (.int (if b then 1 else 0))
 | _=>none
def sIx (n d:Nat):Option Int->Nat
 | none=>d
 | some v=>(if v<0 then max (v+n) 0 else min v n).toNat
def cutZ {α:Type} (xs:List α) (lo hi:Option Int):List α:=(xs.drop (sIx xs.length 0 lo)).take (sIx xs.length xs.length hi - sIx xs.length 0 lo)
def oSl (t:T) (lo hi:Option Int):Option T:=match t with
 | .tuple xs=>some (.tuple (cutZ xs lo hi))
 | .list xs=>some (.list (cutZ xs lo hi))
 | _=>none
def zcu:List T->Option (List Str)
 | []=>some []
 | .str x::ts=>(zcu ts).map fun r=>x::r
 | _::_=>none
def insI (x:Int):List Int->List Int
 | []=>[x]
 | y::ys=>if x<=y then x::y::ys else y::insI x ys
def zh7:List Int->List Int
 | []=>[]
 | x::xs=>insI x (zh7 xs)
def insS (x:Str):List Str->List Str
 | []=>[x]
 | y::ys=>if !z6c y x then x::y::ys else y::insS x ys
def z85:List Str->List Str
 | []=>[]
 | x::xs=>insS x (z85 xs)
def z6d:T->Option Key
 | .int i=>some (.inl i)
 | .str x=>some (.inr x)
 | _=>none
def putD (kvs:List (Key×T)) (k:Key) (v:T):List (Key×T):=if kvs.any (fun p=>decide (p.1=k)) then kvs.map fun p=>if p.1=k then (k,v) else p else kvs++[(k,v)]
def getD (kvs:List (Key×T)) (k:Key):Option T:=(kvs.find? fun p=>decide (p.1=k)).map (·.2)
def cst (t:T):Fe:=fun _=>some t
def nm (i:Nat):Fe:=fun ε=>match ε[i]? with
 | some (some (.imm t))=>some t
 | some (some (.own ts))=>some (.list ts)
 | _=>none
def nmV (i:Nat):Fe:=fun ε=>match ε[i]? with
 | some (some (.imm t))=>some t
 | _=>none
def op1 (o:T->Option T) (f:Fe):Fe:=fun ε=>(f ε).bind o
def op2 (o:T->T->Option T) (f g:Fe):Fe:=fun ε=>(f ε).bind fun x=>(g ε).bind fun y=>o x y
def args:List Fe->Ev->Option (List T)
 | [],_=>some []
 | f::fs,ε=>(f ε).bind fun t=>(args fs ε).map fun ts=>t::ts
def opN (o:List T->Option T) (fs:List Fe):Fe:=fun ε=>(args fs ε).bind o
def z0g (fs:List Fe):Fe:=fun ε=>(args fs ε).bind fun ts=>if ts.length<=big then some (.tuple ts) else none
def z5b (fs:List Fe):Fe:=fun ε=>(args fs ε).bind fun ts=>if ts.length<=big then some (.list ts) else none
def opt (f:Fe):Ev->Option (Option Int):=fun ε=>(f ε).bind fun t=>match t with|.int i=>some (some i)|_=>none
def optN:Ev->Option (Option Int):=fun _=>some none
def slice (f:Fe) (lo hi:Ev->Option (Option Int)):Fe:=fun ε=>(f ε).bind fun t=>(lo ε).bind fun l=>(hi ε).bind fun h=>oSl t l h
def andV (f g:Fe):Fe:=fun ε=>(f ε).bind fun t=>match t with|.bool true=>g ε|.bool false=>some (.bool false)|_=>none
def orV (f g:Fe):Fe:=fun ε=>(f ε).bind fun t=>match t with|.bool false=>g ε|.bool true=>some (.bool true)|_=>none
noncomputable def chain (o p:T->T->Option T) (f g h:Fe):Fe:=fun ε=>(f ε).bind fun x=>(g ε).bind fun y=>(o x y).bind fun r=>match r with
 | .bool true=>(h ε).bind fun z=>p y z
 | .bool false=>some (.bool false)
 | _=>none
def tstB (f:Fe):Ft:=fun ε=>(f ε).bind fun t=>match t with|.bool b=>some b|_=>none
def tstL (f:Fe):Ft:=fun ε=>(f ε).bind fun t=>match t with|.list ts=>some (!ts.isEmpty)|.tuple ts=>some (!ts.isEmpty)|_=>none
def andT (f g:Ft):Ft:=fun ε=>(f ε).bind fun b=>if b then g ε else some false
def orT (f g:Ft):Ft:=fun ε=>(f ε).bind fun b=>if b then some true else g ε
def notT (f:Ft):Ft:=fun ε=>(f ε).map fun b=>!b
def ifE (c:Ft) (f g:Fe):Fe:=fun ε=>(c ε).bind fun b=>if b then f ε else g ε
def cstT (b:Bool):Ft:=fun _=>some b
def ofT (c:Ft):Fe:=fun ε=>(c ε).map .bool
def z4d (f:Fe):Fi:=fun ε=>(f ε).bind fun t=>match t with|.tuple ts=>some ts|.list ts=>some ts|_=>none
def z7g (f:Fe):Fi:=fun ε=>(f ε).bind fun t=>match t with|.tuple ts=>some ts|_=>none
def rng (lo hi:Int):List T:=(List.range (hi - lo).toNat).map fun (k:Nat)=>.int (lo+(k:Int))
def z86 (i:Int):Bool:=decide (-(2 ^ 62)<=i) && decide (i<2 ^ 62)
def z4k (f:Fe):Fi:=fun ε=>(f ε).bind fun t=>match t with|.int j=>if z86 j then some (rng 0 j) else none|_=>none
def enum (ts:List T):List T:=ts.zipIdx.map fun p=>.tuple [.int p.2,p.1]
def z7w (f:Fi):Fi:=fun ε=>(f ε).map enum
def gNm (i:Nat):Fg:=fun t ε=>some (ε.set i (some (.imm t)))
def gAll:List Fg->List T->Ev->Option Ev
 | [],[],ε=>some ε
 | g::gs,t::ts,ε=>(g t ε).bind fun ε'=>gAll gs ts ε'
 | _,_,_=>none
def gTu (gs:List Fg):Fg:=fun t ε=>match t with|.tuple ts=>gAll gs ts ε|_=>none
noncomputable def z58 (g:Fg) (c:Ft) (e:Fe):List T->Ev->Option (List T)
 | [],_=>some []
 | t::ts,ε=>(g t ε).bind fun ε1=>(c ε1).bind fun b=>if b then (e ε1).bind fun y=>(z58 g c e ts ε1).map fun ys=>y::ys else z58 g c e ts ε1
def z59 (own:Nat) (caps:List Nat) (ε:Ev):Ev:=y0h own none++caps.map fun i=>(ε[i]?).join
def comp (own:Nat) (caps:List Nat) (it:Fi) (g:Fg) (c:Ft) (e:Fe):Fe:=fun ε=>(it ε).bind fun ts=>if ts.length<=big then (z58 g c e ts (z59 own caps ε)).map .list else none
def skip:Fs:=fun ε=>some (.nx ε)
def seq (a b:Fs):Fs:=fun ε=>(a ε).bind fun o=>match o with|.nx ε'=>b ε'|o=>some o
def asg (i:Nat) (f:Fe):Fs:=fun ε=>(f ε).map fun t=>.nx (ε.set i (some (.imm t)))
def asgN (i:Nat) (f:Fe):Fs:=fun ε=>(f ε).bind fun t=>match t with|.list ts=>some (.nx (ε.set i (some (.own ts))))|_=>none
def asgT (g:Fg) (f:Fe):Fs:=fun ε=>(f ε).bind fun t=>(g t ε).map .nx
def rtn (f:Fe):Fs:=fun ε=>(f ε).map .rt
def iff (c:Ft) (a b:Fs):Fs:=fun ε=>(c ε).bind fun x=>if x then a ε else b ε
def brk:Fs:=fun ε=>some (.bk ε)
noncomputable def forL (g:Fg) (b:Fs):List T->Ev->Option Out
 | [],ε=>some (.nx ε)
 | t::ts,ε=>(g t ε).bind fun ε1=>(b ε1).bind fun o=>match o with
  | .nx ε2=>forL g b ts ε2
  | .ct ε2=>forL g b ts ε2
  | .bk ε2=>some (.nx ε2)
  | .rt t=>some (.rt t)
  | .rtm t ε2=>some (.rtm t ε2)
  | .rto s=>some (.rto s)
def for_ (it:Fi) (g:Fg) (b:Fs):Fs:=fun ε=>(it ε).bind fun ts=>forL g b ts ε
noncomputable def ext (i:Nat) (f:Fe):Fs:=fun ε=>match ε[i]? with
 | some (some (.own ts))=>(f ε).bind fun t=>match t with
  | .list us=>if ts.length+us.length<=big then some (.nx (ε.set i (some (.own (ts++us))))) else none
  | _=>none
 | _=>none
noncomputable def pop (i j:Nat):Fs:=fun ε=>match ε[j]? with
 | some (some (.own ts))=>(ts.getLast?).bind fun t=>if i=j then none else some (.nx ((ε.set j (some (.own ts.dropLast))).set i (some (.imm t))))
 | _=>none
noncomputable def par (i j:Nat) (own:Bool) (f g:Fe):Fs:=fun ε=>(f ε).bind fun t=>(g ε).bind fun u=>if own then (match u with|.list us=>some (.nx ((ε.set i (some (.imm t))).set j (some (.own us))))|_=>none) else some (.nx ((ε.set i (some (.imm t))).set j (some (.imm u))))
noncomputable def runF (b:Fs) (n:Nat) (as:List T):Option T:=(b ((as.map fun t=>some (.imm t))++y0h (n - as.length) none)).bind fun o=>match o with
 | .rt t=>some t
 | .nx _=>some .none
 | _=>none
end D
end
section
namespace D
open PySem PySem.Spec PyProof.Rows L2
section
mutual
noncomputable def Rep (K:y00) (F:Addr->Prop) (H:Hp):T->V->Prop
 | .none,v=>v=.non
 | .bool b,v=>v=.bl b
 | .int i,v=>v=.int i
 | .str x,v=>v=.str x
 | .dict _,_=>False
 | .tuple ts,v=>∃a vs,v=.ref a/\SqT K H a vs/\RepL K F H ts vs
 | .list ts,v=>∃a vs,v=.ref a/\F a/\Rd H a (.lst vs)/\RepL K F H ts vs
noncomputable def RepL (K:y00) (F:Addr->Prop) (H:Hp):List T->List V->Prop
 | [],vs=>vs=[]
 | t::ts,vs=>∃v r,vs=v::r/\Rep K F H t v/\RepL K F H ts r
end
section
variable {K:y00} {F F':Addr->Prop} {H H':Hp}
mutual
theorem Rep.keep (h1:∀b xs,SqT K H b xs->SqT K H' b xs) (h2:∀b xs,F b->Rd H b (.lst xs)->F' b/\Rd H' b (.lst xs)):∀{t:T} {v:V},Rep K F H t v->Rep K F' H' t v
 | .none,v,h=>by simpa [Rep] using h
 | .bool _,v,h=>by simpa [Rep] using h
 | .dict _,v,h=>by simp[Rep] at h
 | .int _,v,h=>by simpa [Rep] using h
 | .str _,v,h=>by simpa [Rep] using h
 | .tuple ts,v,h=>by
  simp only[Rep] at h ⊢
  obtain⟨a,vs,e,q,r⟩:=h
  exact⟨a,vs,e,h1 _ _ q,RepL.keep h1 h2 r⟩
 | .list ts,v,h=>by
  simp only[Rep] at h ⊢
  obtain⟨a,vs,e,f,q,r⟩:=h
  exact⟨a,vs,e,(h2 _ _ f q).1,(h2 _ _ f q).2,RepL.keep h1 h2 r⟩
theorem RepL.keep (h1:∀b xs,SqT K H b xs->SqT K H' b xs) (h2:∀b xs,F b->Rd H b (.lst xs)->F' b/\Rd H' b (.lst xs)):∀{ts:List T} {vs:List V},RepL K F H ts vs->RepL K F' H' ts vs
 | [],vs,h=>by simpa [RepL] using h
 | t::ts,vs,h=>by
  simp only[RepL] at h ⊢
  obtain⟨v,r,e,q,z⟩:=h
  exact⟨v,r,e,Rep.keep h1 h2 q,RepL.keep h1 h2 z⟩
end
theorem RepL.nil:RepL K F H [] []:=by simp[RepL]
theorem RepL.cons {t:T} {v:V} {ts:List T} {vs:List V} (h:Rep K F H t v) (r:RepL K F H ts vs):RepL K F H (t::ts) (v::vs):=by
 simp only[RepL]
 exact⟨v,vs,rfl,h,r⟩
theorem RepL.length:∀{ts:List T} {vs:List V},RepL K F H ts vs->ts.length=vs.length
 | [],vs,h=>by
  simp only[RepL] at h
  subst h
  rfl
 | t::ts,vs,h=>by
  simp only[RepL] at h
  obtain⟨v,r,e,q,z⟩:=h
  subst e
  simp[RepL.length z]
theorem RepL.get:∀{ts:List T} {vs:List V} {i:Nat} {t:T},RepL K F H ts vs->ts[i]?=some t->∃v,vs[i]?=some v/\Rep K F H t v
 | [],vs,i,t,h,e=>by simp at e
 | x::ts,vs,0,t,h,e=>by
  simp only[RepL] at h
  obtain⟨v,r,rfl,q,z⟩:=h
  simp at e
  subst e
  exact⟨v,rfl,q⟩
 | x::ts,vs,i+1,t,h,e=>by
  simp only[RepL] at h
  obtain⟨v,r,rfl,q,z⟩:=h
  obtain⟨u,h1,h2⟩:=RepL.get (i:=i) (t:=t) z (by simpa using e)
  exact⟨u,by simpa using h1,h2⟩
theorem RepL.append:∀{ts us:List T} {vs ws:List V},RepL K F H ts vs->RepL K F H us ws->RepL K F H (ts++us) (vs++ws)
 | [],us,vs,ws,h,r=>by
  simp only[RepL] at h
  subst h
  exact r
 | t::ts,us,vs,ws,h,r=>by
  simp only[RepL] at h
  obtain⟨v,z,rfl,q,y⟩:=h
  exact RepL.cons q (RepL.append y r)
theorem RepL.take:∀{ts:List T} {vs:List V} (n:Nat),RepL K F H ts vs->RepL K F H (ts.take n) (vs.take n)
 | [],vs,n,h=>by
  simp only[RepL] at h
  subst h
  simpa using RepL.nil
 | t::ts,vs,0,h=>by simpa using RepL.nil
 | t::ts,vs,n+1,h=>by
  simp only[RepL] at h
  obtain⟨v,z,rfl,q,y⟩:=h
  simpa using RepL.cons q (RepL.take n y)
theorem RepL.drop:∀{ts:List T} {vs:List V} (n:Nat),RepL K F H ts vs->RepL K F H (ts.drop n) (vs.drop n)
 | [],vs,n,h=>by
  simp only[RepL] at h
  subst h
  simpa using RepL.nil
 | t::ts,vs,0,h=>by simpa using h
 | t::ts,vs,n+1,h=>by
  simp only[RepL] at h
  obtain⟨v,z,rfl,q,y⟩:=h
  simpa using RepL.drop n y
end
class Tbl where
 tb:List (Addr×Str)
 cn:Nat->List Str
 ck:Nat->Option Addr
noncomputable def TbG (H:Hp) (b:Addr) (q:Str):Prop:=∃ps:Array Value,H b=some (.tbl ps)/\TriplesOk ps.toList/\∀pos cv,codeAmong pos ps.toList=some cv->∃c,cv=.ref c/\H c=some (.ext fun h=>h.CodeRec (.ref c) q)
def TbS [t:Tbl] (H:Hp):Prop:=∀p∈t.tb,TbG H p.1 p.2
theorem TbG.keep {H H':Hp} {b:Addr} {q:Str} (h:TbG H b q) (k1:∀a ps,H a=some (.tbl ps)->H' a=some (.tbl ps)) (k2:∀a φ,H a=some (.ext φ)->H' a=some (.ext φ)):TbG H' b q:=by
 obtain⟨ps,h1,h2,h3⟩:=h
 refine⟨ps,k1 _ _ h1,h2,fun pos cv e=>?_⟩
 obtain⟨c,e1,e2⟩:=h3 pos cv e
 exact⟨c,e1,k2 _ _ e2⟩
variable [Tbl]
def HoM (u:HO):Prop:=(∃xs,u=.lst xs)\/(∃xs,u=.dK xs)\/∃C dx fs,u=.ins C dx fs
theorem HoM.cases {P:Prop} {u:HO} (h:HoM u) (h1:∀xs,u=.lst xs->P) (h2:∀xs,u=.dK xs->P) (h3:∀C dx fs,u=.ins C dx fs->P):P:=by
 rcases h with ⟨xs,e⟩|⟨xs,e⟩|⟨C,dx,fs,e⟩
 ·exact h1 xs e
 ·exact h2 xs e
 ·exact h3 C dx fs e
theorem TbS.updM {H:Hp} (h:TbS H) {p:Addr} {o:HO} (hp:∀u,H p=some u->HoM u):TbS (upd H p o):=fun b hb =>
 (h b hb).keep (fun a ps e=>by
  have nb:a≠p:=by
   rintro rfl
   exact (hp _ e).cases (fun _ z=>by cases z) (fun _ z=>by cases z) (fun _ _ _ z=>by cases z)
  rw[z0d nb];exact e) fun a φ e=>by
  have nb:a≠p:=by
   rintro rfl
   exact (hp _ e).cases (fun _ z=>by cases z) (fun _ z=>by cases z) (fun _ _ _ z=>by cases z)
  rw[z0d nb];exact e
theorem TbS.upd {H:Hp} (h:TbS H) {p:Addr} {o:HO} (hp:∀u,H p=some u->(∃xs,u=.lst xs)\/∃xs,u=.dK xs):TbS (upd H p o):=h.updM fun u e=>by
 rcases hp u e with z|z
 ·exact .inl z
 ·exact .inr (.inl z)
theorem TbS.new {H:Hp} (h:TbS H) {p:Addr} {o:HO} (hp:H p=none):TbS (L2.upd H p o):=h.upd fun u e=>by rw[hp] at e;cases e
structure Dom (F:Addr->Prop) (H:Hp):Prop where
 dm:∀a,F a->∃o,H a=some o
 tgs:TbS H
instance {F:Addr->Prop} {H:Hp}:CoeFun (Dom F H) fun _=>∀a,F a->∃o,H a=some o:=⟨Dom.dm⟩
def z83 (H H':Hp):Prop:=∀b o,H b=some o->H' b=some o\/∃ps ps',o=.tbl ps/\H' b=some (.tbl ps')
theorem z83.refl (H:Hp):z83 H H:=fun _ _ h=>.inl h
theorem z83.ne {H H':Hp} (s:z83 H H') {b:Addr} {o:HO} (e:H b=some o):∃u,H' b=some u:=by
 rcases s b o e with h|⟨_,_,_,h⟩
 ·exact⟨_,h⟩
 ·exact⟨_,h⟩
theorem z83.none {H H':Hp} (s:z83 H H') {b:Addr} (e:H' b=none):H b=none:=by
 cases z:H b with
 | none=>rfl
 | some o =>
  obtain⟨u,q⟩:=s.ne z
  rw[e] at q
  cases q
theorem z83.get {H H':Hp} (s:z83 H H') {b:Addr} {o:HO} (e:H b=some o) (n:∀ps,o≠.tbl ps:=by intro _ z;cases z):H' b=some o:=by
 rcases s b o e with h|⟨_,_,z,_⟩
 ·exact h
 ·exact absurd z (n _)
theorem z83.trans {H H1 H2:Hp} (a:z83 H H1) (b:z83 H1 H2):z83 H H2:=fun c o h=>by
 rcases a c o h with q|⟨ps,ps1,z,q⟩
 ·exact b c o q
 ·rcases b c _ q with q2|⟨_,ps2,z2,q2⟩
  ·exact .inr ⟨ps,ps1,z,q2⟩
  ·exact .inr ⟨ps,ps2,z,q2⟩
structure Ext (F:Addr->Prop) (H:Hp) (F':Addr->Prop) (H':Hp):Prop where
 same:z83 H H'
 sub:∀a,F a->F' a
 new:∀a,F' a->F a\/H a=none
 dom:Dom F' H'
section
variable {K:y00} {F F1 F2:Addr->Prop} {H H1 H2:Hp}
theorem Ext.refl (d:Dom F H):Ext F H F H:=⟨z83.refl H,fun _ h=>h,fun _ h=>.inl h,d⟩
theorem Ext.trans (a:Ext F H F1 H1) (b:Ext F1 H1 F2 H2):Ext F H F2 H2 :=
 ⟨a.same.trans b.same,fun x h=>b.sub x (a.sub x h),fun x h=>(b.new x h).elim (fun z=>a.new x z) fun z=>.inr (a.same.none z),b.dom⟩
theorem Rd.same {a:Addr} {u:HO} (s:z83 H H1) (r:Rd H a u) (n:∀ps,u≠.tbl ps:=by intro _ z;cases z):Rd H1 a u:=by
 rcases r with r|⟨o,r⟩
 ·exact .inl (s.get r n)
 ·exact .inr ⟨o,s.get r⟩
theorem SqT.same {a:Addr} {xs:List V} (s:z83 H H1) (r:SqT K H a xs):SqT K H1 a xs:=by
 rcases r with r|r
 ·exact .inl (Rd.same s r)
 ·exact .inr r
theorem Rep.ext {t:T} {v:V} (r:Rep K F H t v) (x:Ext F H F1 H1):Rep K F1 H1 t v:=r.keep (fun _ _ q=>SqT.same x.same q) fun b _ f q=>⟨x.sub b f,Rd.same x.same q⟩
theorem RepL.ext {t:List T} {v:List V} (r:RepL K F H t v) (x:Ext F H F1 H1):RepL K F1 H1 t v:=r.keep (fun _ _ q=>SqT.same x.same q) fun b _ f q=>⟨x.sub b f,Rd.same x.same q⟩
theorem Ext.laid {p:Addr} {o:HO} (d:Dom F H) (hp:H p=none):Ext F H F (upd H p o) :=
 ⟨fun b u q=>.inl (same_new' hp o b u q),fun _ h=>h,fun _ h=>.inl h,⟨fun a h=>by
  obtain⟨u,e⟩:=d a h
  exact⟨u,same_new' hp o a u e⟩,d.tgs.new hp⟩⟩
where same_new' {H:Hp} {p:Addr} (h:H p=none) (o:HO):Same H (upd H p o):=fun b u q=>by rw[z0d (z0q q h)];exact q
theorem Ext.laidF {p:Addr} {o:HO} (d:Dom F H) (hp:H p=none):Ext F H (fun a=>F a\/a=p) (upd H p o) :=
 ⟨fun b u q=>.inl (Ext.laid.same_new' hp o b u q),fun _ h=>.inl h,fun a h=>by
  rcases h with h|rfl
  ·exact .inl h
  ·exact .inr hp,⟨fun a h=>by
  rcases h with h|rfl
  ·obtain⟨u,e⟩:=d a h
   exact⟨u,Ext.laid.same_new' hp o a u e⟩
  ·exact⟨o,z0c⟩,d.tgs.new hp⟩⟩
end
structure Kp (K:y00) (F:Addr->Prop) (H:Hp) (F':Addr->Prop) (H':Hp):Prop where
 tup:∀b xs,SqT K H b xs->SqT K H' b xs
 lst:∀b xs,F b->Rd H b (.lst xs)->F' b/\Rd H' b (.lst xs)
section
variable {K:y00} {F F1 F2:Addr->Prop} {H H1 H2:Hp}
theorem Kp.refl:Kp K F H F H:=⟨fun _ _ h=>h,fun _ _ f h=>⟨f,h⟩⟩
theorem Kp.trans (a:Kp K F H F1 H1) (b:Kp K F1 H1 F2 H2):Kp K F H F2 H2:=⟨fun x xs h=>b.tup x xs (a.tup x xs h),fun x xs f h=>b.lst x xs (a.lst x xs f h).1 (a.lst x xs f h).2⟩
theorem Ext.kp (x:Ext F H F1 H1):Kp K F H F1 H1:=⟨fun _ _ q=>SqT.same x.same q,fun b _ f q=>⟨x.sub b f,Rd.same x.same q⟩⟩
theorem Rep.kp {t:T} {v:V} (r:Rep K F H t v) (x:Kp K F H F1 H1):Rep K F1 H1 t v:=r.keep x.tup x.lst
theorem RepL.kp {t:List T} {v:List V} (r:RepL K F H t v) (x:Kp K F H F1 H1):RepL K F1 H1 t v:=r.keep x.tup x.lst
end
def RepR (K:y00) (O F:Addr->Prop) (H:Hp) (t:T) (v:V):Prop :=
 Rep K F H t v\/∃ts a vs,t=.list ts/\v=.ref a/\H a=some (.lst vs)/\RepL K F H ts vs
section
variable {K:y00} {O F F1:Addr->Prop} {H H1:Hp} {v:V}
theorem RepR.ext {t:T} (r:RepR K O F H t v) (x:Ext F H F1 H1):RepR K O F1 H1 t v:=by
 rcases r with r|⟨ts,a,vs,e1,e2,e4,r⟩
 ·exact .inl (r.ext x)
 ·exact .inr ⟨ts,a,vs,e1,e2,x.same.get e4,r.ext x⟩
theorem RepR.non (r:RepR K O F H .none v):v=.non:=by
 rcases r with r|⟨ts,a,vs,e1,_⟩
 ·simpa [Rep] using r
 ·cases e1
theorem RepR.bl {b:Bool} (r:RepR K O F H (.bool b) v):v=.bl b:=by
 rcases r with r|⟨ts,a,vs,e1,_⟩
 ·simpa [Rep] using r
 ·cases e1
theorem RepR.int {i:Int} (r:RepR K O F H (.int i) v):v=.int i:=by
 rcases r with r|⟨ts,a,vs,e1,_⟩
 ·simpa [Rep] using r
 ·cases e1
theorem RepR.str {x:Str} (r:RepR K O F H (.str x) v):v=.str x:=by
 rcases r with r|⟨ts,a,vs,e1,_⟩
 ·simpa [Rep] using r
 ·cases e1
theorem RepR.tup {ts:List T} (r:RepR K O F H (.tuple ts) v):∃a vs,v=.ref a/\SqT K H a vs/\RepL K F H ts vs:=by
 rcases r with r|⟨ts,a,vs,e1,_⟩
 ·simpa [Rep] using r
 ·cases e1
theorem RepR.lst {ts:List T} (r:RepR K O F H (.list ts) v):∃a vs,v=.ref a/\Rd H a (.lst vs)/\RepL K F H ts vs:=by
 rcases r with r|⟨us,a,vs,e1,e2,e4,r⟩
 ·simp only[Rep] at r
  obtain⟨a,vs,e,_,q,z⟩:=r
  exact⟨a,vs,e,q,z⟩
 ·cases e1
  exact⟨a,vs,e2,.inl e4,r⟩
end
def RepD (K:y00) (F:Addr->Prop) (H:Hp):List (D.Key×T)->List (D.Key×V)->Prop
 | [],vs=>vs=[]
 | p::ts,vs=>∃v r,vs=(p.1,v)::r/\Rep K F H p.2 v/\RepD K F H ts r
theorem RepD.kp {K:y00} {F F':Addr->Prop} {H H':Hp} (x:Kp K F H F' H'):∀{ts:List (D.Key×T)} {vs:List (D.Key×V)},RepD K F H ts vs->RepD K F' H' ts vs
 | [],vs,h=>h
 | p::ts,vs,h=>by
  obtain⟨v,r,e,q,z⟩:=h
  exact⟨v,r,e,q.kp x,RepD.kp x z⟩
structure En where
 h:Hp
 la:Addr
def rf:V->List Addr
 | .ref a=>[a]
 | _=>[]
def fp0:Sl->V->List Addr
 | .imm _,_=>[]
 | _,v=>rf v
def fpF:List Sl->List V->List Addr
 | s::ss,v::vs=>fp0 s v++fpF ss vs
 | _,_=>[]
def zkw (H:Hp):V->List V
 | .ref a=>(match H a with
  | some (.ins _ _ kvs)=>kvs.map (·.2)
  | some (.dK kvs)=>kvs.map (·.2)
  | _=>[])
 | _=>[]
def fpS (H:Hp):Sl->V->List Addr
 | .imm _,_=>[]
 | .own _,v=>rf v
 | .dic _,v=>rf v
 | .obj _ _ fs,v=>rf v++fpF fs (zkw H v)
noncomputable def z6f (H:Hp) (a:Addr) (c:Nat) (vs:List V):Prop:=vs.length<=(Tbl.cn c).length/\match Tbl.ck c with
 | some C=>∃dx,H a=some (.ins C dx ((Tbl.cn c).zip vs))
 | none=>H a=some (.dK (((Tbl.cn c).zip vs).map fun p=>(.inr p.1,p.2)))
noncomputable def zb1 (K:y00) (F:Addr->Prop) (H:Hp):Sl->V->Prop
 | .imm t,v=>Rep K F H t v
 | .own ts,v=>∃b us,v=.ref b/\H b=some (.lst us)/\RepL K F H ts us
 | .dic kvs,v=>∃b us,v=.ref b/\H b=some (.dK us)/\RepD K F H kvs us
 | .obj _ _ _,_=>False
def RelF (K:y00) (F:Addr->Prop) (H:Hp):List Sl->List V->Prop
 | [],vs=>vs=[]
 | s::ss,vs=>∃v r,vs=v::r/\zb1 K F H s v/\RelF K F H ss r
def OwnM (E:En) (O F:Addr->Prop) (m:Md) (b:Addr):Prop:=¬F b/\match m with
 | .ro=>E.h b≠none
 | _=>O b
noncomputable def z2m (K:y00) (E:En) (O F:Addr->Prop) (H:Hp):Sl->V->Prop
 | .imm t,v=>Rep K F H t v
 | .own ts,v=>∃a vs,v=.ref a/\¬F a/\O a/\H a=some (.lst vs)/\RepL K F H ts vs
 | .dic kvs,v=>∃a vs,v=.ref a/\¬F a/\O a/\H a=some (.dK vs)/\RepD K F H kvs vs
 | .obj m c fs,v=>∃a vs,v=.ref a/\z6f H a c vs/\RelF K F H fs vs/\(a::fpF fs vs).Nodup/\(∀b∈a::fpF fs vs,OwnM E O F m b)/\(m=.lent->a=E.la)
def Sl.isOwn:Sl->Bool
 | .imm _=>false
 | .obj .ro _ _=>false
 | _=>true
section
variable {K:y00} {F F' O O':Addr->Prop} {H H':Hp} {E:En}
theorem zjd {α β:Type}:∀{xs:List α} {ys:List β},ys.length<=xs.length->(xs.zip ys).map (·.2)=ys
 | xs,[],_=>by simp
 | [],y::ys,h=>by simp at h
 | x::xs,y::ys,h=>by simp[zjd (xs:=xs) (ys:=ys) (by simpa using h)]
theorem z6f.vals {a:Addr} {c:Nat} {vs:List V} (h:z6f H a c vs):zkw H (.ref a)=vs:=by
 obtain⟨hl,h⟩:=h
 unfold zkw
 split at h
 ·obtain⟨dx,e⟩:=h
  simp only[e]
  exact zjd hl
 ·simp only[h,y2v]
  exact zjd hl
theorem z6f.mem {a:Addr} {c:Nat} {vs:List V} (h:z6f H a c vs):∃o,H a=some o/\HoM o:=by
 obtain⟨hl,h⟩:=h
 split at h
 ·obtain⟨dx,e⟩:=h
  exact⟨_,e,.inr (.inr ⟨_,_,_,rfl⟩)⟩
 ·exact⟨_,h,.inr (.inl ⟨_,rfl⟩)⟩
theorem z6f.keep {a:Addr} {c:Nat} {vs:List V} (h:z6f H a c vs) (e:H' a=H a):z6f H' a c vs:=by
 obtain⟨hl,h⟩:=h
 refine⟨hl,?_⟩
 rw[e]
 exact h
theorem zf2 {v:V} {b:Addr} (h:b∈rf v):v=.ref b:=by
 unfold rf at h
 split at h
 ·simp at h
  rw[h]
 ·simp at h
theorem zb1.at {s:Sl} {v:V} {b:Addr} (r:zb1 K F H s v) (h:b∈fp0 s v):∃o,H b=some o/\HoM o:=by
 cases s with
 | imm t=>simp[fp0] at h
 | own ts =>
  obtain⟨b',us,e,eh,_⟩:=r
  have:=zf2 h
  rw[e] at this
  cases this
  exact⟨_,eh,.inl ⟨_,rfl⟩⟩
 | dic ts =>
  obtain⟨b',us,e,eh,_⟩:=r
  have:=zf2 h
  rw[e] at this
  cases this
  exact⟨_,eh,.inr (.inl ⟨_,rfl⟩)⟩
 | obj m c fs=>exact r.elim
theorem RelF.at:∀{fs:List Sl} {vs:List V} {b:Addr},RelF K F H fs vs->b∈fpF fs vs->∃o,H b=some o/\HoM o
 | [],vs,b,r,h=>by simp[fpF] at h
 | s::ss,vs,b,r,h=>by
  obtain⟨v,z,rfl,r1,r2⟩:=r
  rw[show fpF (s::ss) (v::z)=fp0 s v++fpF ss z from rfl] at h
  rcases y13.mp h with h|h
  ·exact r1.at h
  ·exact RelF.at r2 h
theorem z3k {m:Md} {c:Nat} {fs:List Sl} {a:Addr} {vs:List V} (h:z6f H a c vs):fpS H (.obj m c fs) (.ref a)=a::fpF fs vs:=by
 show rf (.ref a)++fpF fs (zkw H (.ref a))=_
 rw[h.vals]
 rfl
theorem z2m.at {s:Sl} {v:V} {b:Addr} (r:z2m K E O F H s v) (h:b∈fpS H s v):∃o,H b=some o/\HoM o:=by
 cases s with
 | imm t=>simp[fpS] at h
 | own ts =>
  obtain⟨b',us,e,_,_,eh,_⟩:=r
  have:=zf2 h
  rw[e] at this
  cases this
  exact⟨_,eh,.inl ⟨_,rfl⟩⟩
 | dic ts =>
  obtain⟨b',us,e,_,_,eh,_⟩:=r
  have:=zf2 h
  rw[e] at this
  cases this
  exact⟨_,eh,.inr (.inl ⟨_,rfl⟩)⟩
 | obj m c fs =>
  obtain⟨a,vs,rfl,ha,hf,_⟩:=r
  rw[z3k ha] at h
  rcases y09.mp h with rfl|h
  ·exact ha.mem
  ·exact hf.at h
theorem z2m.held {s:Sl} {v:V} {b:Addr} (r:z2m K E O F H s v) (h:b∈fpS H s v):¬F b/\(s.isOwn=true->O b)/\(s.isOwn=false->E.h b≠none):=by
 cases s with
 | imm t=>simp[fpS] at h
 | own ts =>
  obtain⟨b',us,e,n,o,eh,_⟩:=r
  have:=zf2 h
  rw[e] at this
  cases this
  exact⟨n,fun _=>o,fun z=>by cases z⟩
 | dic ts =>
  obtain⟨b',us,e,n,o,eh,_⟩:=r
  have:=zf2 h
  rw[e] at this
  cases this
  exact⟨n,fun _=>o,fun z=>by cases z⟩
 | obj m c fs =>
  obtain⟨a,vs,rfl,ha,hf,nd,ow,_⟩:=r
  rw[z3k ha] at h
  obtain⟨n,q⟩:=ow b h
  refine⟨n,fun z=>?_,fun z=>?_⟩
  ·cases m with
   | ro=>cases z
   | own=>exact q
   | lent=>exact q
  ·cases m with
   | ro=>exact q
   | own=>cases z
   | lent=>cases z
theorem zb1.keep {s:Sl} {v:V} (r:zb1 K F H s v) (kp:Kp K F H F' H') (hh:∀b∈fp0 s v,H' b=H b):zb1 K F' H' s v:=by
 cases s with
 | imm t=>exact Rep.kp r kp
 | own ts =>
  obtain⟨b,us,rfl,eh,z⟩:=r
  exact⟨b,us,rfl,by rw[hh b (by simp[fp0,rf])];exact eh,z.kp kp⟩
 | dic ts =>
  obtain⟨b,us,rfl,eh,z⟩:=r
  exact⟨b,us,rfl,by rw[hh b (by simp[fp0,rf])];exact eh,RepD.kp kp z⟩
 | obj m c fs=>exact r.elim
theorem RelF.keep:∀{fs:List Sl} {vs:List V},RelF K F H fs vs->Kp K F H F' H'->(∀b∈fpF fs vs,H' b=H b)->RelF K F' H' fs vs
 | [],vs,r,_,_=>r
 | s::ss,vs,r,kp,hh=>by
  obtain⟨v,z,rfl,r1,r2⟩:=r
  rw[show fpF (s::ss) (v::z)=fp0 s v++fpF ss z from rfl] at hh
  exact⟨v,z,rfl,r1.keep kp fun b h=>hh b (y13.mpr (.inl h)),RelF.keep r2 kp fun b h=>hh b (y13.mpr (.inr h))⟩
theorem z2m.keep {s:Sl} {v:V} (r:z2m K E O F H s v) (kp:Kp K F H F' H') (hh:∀b∈fpS H s v,H' b=H b) (hf:∀b∈fpS H s v,F' b->F b) (ho:∀b∈fpS H s v,O b->O' b) :
  z2m K E O' F' H' s v/\fpS H' s v=fpS H s v:=by
 cases s with
 | imm t=>exact⟨Rep.kp r kp,rfl⟩
 | own ts =>
  obtain⟨a,vs,rfl,n,o,eh,z⟩:=r
  have m:a∈fpS H (.own ts) (.ref a):=by simp[fpS,rf]
  exact⟨⟨a,vs,rfl,fun f=>n (hf a m f),ho a m o,by rw[hh a m];exact eh,z.kp kp⟩,rfl⟩
 | dic ts =>
  obtain⟨a,vs,rfl,n,o,eh,z⟩:=r
  have m:a∈fpS H (.dic ts) (.ref a):=by simp[fpS,rf]
  exact⟨⟨a,vs,rfl,fun f=>n (hf a m f),ho a m o,by rw[hh a m];exact eh,RepD.kp kp z⟩,rfl⟩
 | obj m c fs =>
  obtain⟨a,vs,rfl,ha,hr,nd,ow,la⟩:=r
  rw[z3k ha] at hh hf ho
  have ha':z6f H' a c vs:=ha.keep (hh a (by simp))
  refine⟨⟨a,vs,rfl,ha',hr.keep kp fun b h=>hh b (y05 _ h),nd,fun b h=>?_,la⟩,by rw[z3k ha,z3k ha']⟩
  obtain⟨n,q⟩:=ow b h
  refine⟨fun f=>n (hf b h f),?_⟩
  cases m with
  | ro=>exact q
  | own=>exact ho b h q
  | lent=>exact ho b h q
theorem z2m.extP {s:Sl} {v:V} (r:z2m K E O F H s v) (x:Ext F H F' H'):z2m K E O F' H' s v/\fpS H' s v=fpS H s v :=
 r.keep x.kp (fun b h=>by
  obtain⟨o,e,m⟩:=r.at h
  rw[e]
  exact x.same.get e fun ps z=>by subst z;exact m.cases (fun _ z=>by cases z) (fun _ z=>by cases z) (fun _ _ _ z=>by cases z)) (fun b h f=>by
  rcases x.new b f with z|z
  ·exact z
  ·obtain⟨o,e,_⟩:=r.at h
   rw[z] at e
   cases e) fun _ _ o=>o
theorem z2m.ext {s:Sl} {v:V} (r:z2m K E O F H s v) (x:Ext F H F' H'):z2m K E O F' H' s v:=(r.extP x).1
end
structure RelE (K:y00) (F₀:Addr->Prop) (E:En) (O F:Addr->Prop) (H:Hp) (ε:Ev) (σ:L2.St):Prop where
 len:ε.length=σ.length
 val:∀(i:Nat) (s:Sl),ε[i]?=some (some s)->∃v,σ[i]?=some (some v)/\z2m K E O F H s v
 ne:∀(i j:Nat) (s u:Sl) (v w:V),i≠j->ε[i]?=some (some s)->ε[j]?=some (some u)->s.isOwn=true->u.isOwn=true->σ[i]?=some (some v)->σ[j]?=some (some w)->∀a∈fpS H s v,a∉fpS H u w
 ent:Ext F₀ E.h F H
 o0:∀a,O a->E.h a=none
 fr:∀a,H a=none->O a
section
variable {K:y00} {F₀ O F F1:Addr->Prop} {E:En} {H H1:Hp} {ε:Ev} {σ:L2.St}
theorem RelE.dom (r:RelE K F₀ E O F H ε σ):Dom F H:=r.ent.dom
theorem RelE.ext (r:RelE K F₀ E O F H ε σ) (x:Ext F H F1 H1):RelE K F₀ E O F1 H1 ε σ :=
 ⟨r.len,fun i s e=>by
  obtain⟨v,h1,h2⟩:=r.val i s e
  exact⟨v,h1,h2.ext x⟩,fun i j s u v w hij e1 e2 o1 o2 h1 h2=>by
  obtain⟨v',h1',r1⟩:=r.val i s e1
  obtain⟨w',h2',r2⟩:=r.val j u e2
  rw[h1] at h1'
  rw[h2] at h2'
  cases h1'
  cases h2'
  rw[(r1.extP x).2,(r2.extP x).2]
  exact r.ne i j s u v w hij e1 e2 o1 o2 h1 h2,r.ent.trans x,r.o0,fun a e=>r.fr a (x.same.none e)⟩
theorem z5c {α:Type} {l:List (Option α)} {i j:Nat} {x:Option α} {y:α} (h:(l.set i x)[j]?=some (some y)):(i=j/\x=some y/\j<l.length)\/(i≠j/\l[j]?=some (some y)):=by
 rw[y2g] at h
 by_cases e:i=j
 ·subst e
  rw[if_pos rfl] at h
  split at h
  next hl=>exact .inl ⟨rfl,y2n h,hl⟩
  next=>cases h
 ·rw[if_neg e] at h
  exact .inr ⟨e,h⟩
theorem zjl {α:Type} {l:List (Option α)} {i:Nat} {x:Option α} (h:i<l.length):(l.set i x)[i]?=some x:=by
 rw[y2g,if_pos rfl,if_pos h]
theorem z8y {α:Type} {l:List (Option α)} {i j:Nat} {x:Option α} (h:i≠j):(l.set i x)[j]?=l[j]?:=by
 rw[y2g,if_neg h]
theorem RelE.setG {s:Sl} {v:V} (r:RelE K F₀ E O F H ε σ) (i:Nat) (h:z2m K E O F H s v) (fr:s.isOwn=true->∀(j:Nat) (u:Sl) (w:V),i≠j->ε[j]?=some (some u)->u.isOwn=true->σ[j]?=some (some w)->∀a∈fpS H s v,a∉fpS H u w) :
  RelE K F₀ E O F H (ε.set i (some s)) (σ.set i (some v)):=by
 refine⟨by simp[r.len],fun j u e=>?_,fun j k u w vu vw hjk e1 e2 o1 o2 h1 h2=>?_,r.ent,r.o0,r.fr⟩
 ·rcases z5c e with ⟨rfl,e',hl⟩|⟨ne,e'⟩
  ·cases e'
   exact⟨_,zjl (by rw[<- r.len];exact hl),h⟩
  ·obtain⟨w,h1,h2⟩:=r.val j u e'
   exact⟨w,by rw[z8y ne];exact h1,h2⟩
 ·rcases z5c e1 with ⟨rfl,e',hl⟩|⟨ne1,e1'⟩
  ·rcases z5c e2 with ⟨rfl,_,_⟩|⟨ne2,e2'⟩
   ·exact absurd rfl hjk
   ·rw[zjl (by rw[<- r.len];exact hl)] at h1
    rw[z8y ne2] at h2
    cases h1
    cases e'
    exact fr o1 k w vw ne2 e2' o2 h2
  ·rw[z8y ne1] at h1
   rcases z5c e2 with ⟨rfl,e',hl⟩|⟨ne2,e2'⟩
   ·rw[zjl (by rw[<- r.len];exact hl)] at h2
    cases h2
    cases e'
    intro a ha hb
    exact fr o2 j u vu ne1 e1' o1 h1 a hb ha
   ·rw[z8y ne2] at h2
    exact r.ne j k u w vu vw hjk e1' e2' o1 o2 h1 h2
theorem RelE.set {t:T} {v:V} (r:RelE K F₀ E O F H ε σ) (i:Nat) (h:Rep K F H t v):RelE K F₀ E O F H (ε.set i (some (.imm t))) (σ.set i (some v)):=r.setG (s:=.imm t) i h fun z=>by cases z
theorem RelE.setNew {s:Sl} {v:V} (r:RelE K F₀ E O F H ε σ) (i:Nat) (x:Ext F H F1 H1) (h:z2m K E O F1 H1 s v) (hn:∀a∈fpS H1 s v,H a=none):RelE K F₀ E O F1 H1 (ε.set i (some s)) (σ.set i (some v)) :=
 (r.ext x).setG i h fun _ j u w _ ej _ hj a ha hb=>by
  obtain⟨w',h1,h2⟩:=r.val j u ej
  rw[hj] at h1
  cases h1
  rw[(h2.extP x).2] at hb
  obtain⟨o,e,_⟩:=h2.at hb
  rw[hn a ha] at e
  cases e
theorem zp0 {x:Addr} {o o':HO} (hn:¬F x) (hx:H x=some o) (hm:HoM o):Kp K F H F (upd H x o'):=by
 refine⟨fun b xs q=>?_,fun b xs f q=>⟨f,?_⟩⟩
 ·rcases q with q|q
  ·refine .inl ?_
   have nb:b≠x:=by
    rintro rfl
    rcases q with q|⟨_,q⟩ <;> (rw[hx] at q;cases q;exact hm.cases (fun _ z=>by cases z) (fun _ z=>by cases z) (fun _ _ _ z=>by cases z))
   rcases q with q|⟨u,q⟩
   ·exact .inl (by rw[z0d nb];exact q)
   ·exact .inr ⟨u,by rw[z0d nb];exact q⟩
  ·exact .inr q
 ·have nb:b≠x:=by
   rintro rfl
   exact hn f
  rcases q with q|⟨u,q⟩
  ·exact .inl (by rw[z0d nb];exact q)
  ·exact .inr ⟨u,by rw[z0d nb];exact q⟩
theorem zls {x:Addr} {o o':HO} {h0:Hp} (e:Ext F₀ h0 F H) (h0x:h0 x=none) (hn:¬F x) (hx:H x=some o) (hm:HoM o):Ext F₀ h0 F (upd H x o'):=by
 refine⟨fun b u q=>?_,e.sub,e.new,⟨fun b f=>?_,e.dom.tgs.updM fun u z=>by rw[hx] at z;cases z;exact hm⟩⟩
 ·have nb:b≠x:=by
   rintro rfl
   rw[h0x] at q
   cases q
  rw[z0d nb]
  exact e.same b u q
 ·have nb:b≠x:=by
   rintro rfl
   exact hn f
  rw[z0d nb]
  exact e.dom b f
theorem RelE.mutG {s s':Sl} {v:V} {x:Addr} {o':HO} (r:RelE K F₀ E O F H ε σ) {i:Nat} (e:ε[i]?=some (some s)) (ho:s.isOwn=true) (hv:σ[i]?=some (some v)) (hx:x∈fpS H s v)
  (h:Kp K F H F (upd H x o')->z2m K E O F (upd H x o') s' v)
  (hp:∀b∈fpS (upd H x o') s' v,b∈fpS H s v\/∀(j:Nat) (u:Sl) (w:V),i≠j->ε[j]?=some (some u)->u.isOwn=true->σ[j]?=some (some w)->b∉fpS H u w) :
  Kp K F H F (upd H x o')/\RelE K F₀ E O F (upd H x o') (ε.set i (some s')) σ:=by
 obtain⟨v',hv',rs⟩:=r.val i s e
 rw[hv] at hv'
 cases hv'
 obtain⟨o,eo,hm⟩:=rs.at hx
 obtain⟨nF,hO,_⟩:=rs.held hx
 have hOx:=hO ho
 have kp:Kp K F H F (upd H x o'):=zp0 nF eo hm
 have h0:=r.o0 x hOx
 have keep:∀(j:Nat) (u:Sl) (w:V),i≠j->ε[j]?=some (some u)->σ[j]?=some (some w)->z2m K E O F H u w->z2m K E O F (upd H x o') u w/\fpS (upd H x o') u w=fpS H u w:=by
  intro j u w hij ej hj ru
  refine ru.keep kp (fun b hb=>z0d ?_) (fun _ _ f=>f) fun _ _ o=>o
  rintro rfl
  cases ou:u.isOwn with
  | true=>exact r.ne i j s u v w hij e ej ho ou hv hj b hx hb
  | false=>exact (ru.held hb).2.2 ou h0
 refine⟨kp,⟨by simp[r.len],fun j u e'=>?_,fun j k u w vu vw hjk e1 e2 o1 o2 h1 h2=>?_,zls r.ent h0 nF eo hm,r.o0,fun b e'=>r.fr b ?_⟩⟩
 ·rcases z5c e' with ⟨rfl,e'',hl⟩|⟨ne,e''⟩
  ·cases e''
   exact⟨_,hv,h kp⟩
  ·obtain⟨w,h1,h2⟩:=r.val j u e''
   exact⟨w,h1,(keep j u w ne e'' h1 h2).1⟩
 ·rcases z5c e1 with ⟨rfl,e',hl⟩|⟨ne1,e1'⟩
  ·rcases z5c e2 with ⟨rfl,_,_⟩|⟨ne2,e2'⟩
   ·exact absurd rfl hjk
   ·cases e'
    rw[hv] at h1
    cases h1
    obtain⟨w',h2',r2⟩:=r.val k w e2'
    rw[h2] at h2'
    cases h2'
    rw[(keep k w vw ne2 e2' h2 r2).2]
    intro a ha hb
    rcases hp a ha with z|z
    ·exact r.ne i k s w v vw ne2 e e2' ho o2 hv h2 a z hb
    ·exact z k w vw ne2 e2' o2 h2 hb
  ·obtain⟨v1,h1',r1⟩:=r.val j u e1'
   rw[h1] at h1'
   cases h1'
   rw[(keep j u vu ne1 e1' h1 r1).2]
   rcases z5c e2 with ⟨rfl,e',hl⟩|⟨ne2,e2'⟩
   ·cases e'
    rw[hv] at h2
    cases h2
    intro a ha hb
    rcases hp a hb with z|z
    ·exact r.ne i j s u v vu ne1 e e1' ho o1 hv h1 a z ha
    ·exact z j u vu ne1 e1' o1 h1 ha
   ·obtain⟨w',h2',r2⟩:=r.val k w e2'
    rw[h2] at h2'
    cases h2'
    rw[(keep k w vw ne2 e2' h2 r2).2]
    exact r.ne j k u w vu vw hjk e1' e2' o1 o2 h1 h2
 ·by_cases nb:b=x
  ·subst nb
   rw[z0c] at e'
   cases e'
  ·rwa [z0d nb] at e'
end
def tR (K:y00) (f:Fe):TE:=fun σ H Q=>∃F₀ H₀ O F ε t,RelE K F₀ H₀ O F H ε σ/\f ε=some t/\∀v F' H',Ext F H F' H'->RepR K O F' H' t v->Q v H'
def tV (K:y00) (f:Fe):TE:=fun σ H Q=>∃F₀ H₀ O F ε t,RelE K F₀ H₀ O F H ε σ/\f ε=some t/\∀v F' H',Ext F H F' H'->Rep K F' H' t v->Q v H'
noncomputable def tN (K:y00) (f:Fe):TE:=fun σ H Q=>∃F₀ H₀ O F ε ts,RelE K F₀ H₀ O F H ε σ/\f ε=some (.list ts)/\∀a vs F' H',Ext F H F' H'->H a=none->¬F' a->H' a=some (.lst vs)->RepL K F' H' ts vs->Q (.ref a) H'
def tT (K:y00) (f:Ft):TT:=fun σ H Q=>∃F₀ H₀ O F ε b,RelE K F₀ H₀ O F H ε σ/\f ε=some b/\∀F' H',Ext F H F' H'->Q b H'
def tAR (K:y00) (fs:List Fe):TA:=fun σ H Q=>∃F₀ H₀ O F ε ts,RelE K F₀ H₀ O F H ε σ/\args fs ε=some ts/\∀vs F' H',Ext F H F' H'->Paired (RepR K O F' H') ts vs->Q vs H'
def tAV (K:y00) (fs:List Fe):TA:=fun σ H Q=>∃F₀ H₀ O F ε ts,RelE K F₀ H₀ O F H ε σ/\args fs ε=some ts/\∀vs F' H',Ext F H F' H'->RepL K F' H' ts vs->Q vs H'
abbrev PEr (X:Cx) (e:Expr) (f:Fe):Prop:=PE X e (tR X.K f)
abbrev PEv (X:Cx) (e:Expr) (f:Fe):Prop:=PE X e (tV X.K f)
abbrev PEn (X:Cx) (e:Expr) (f:Fe):Prop:=PE X e (tN X.K f)
abbrev PTt (X:Cx) (e:Expr) (f:Ft):Prop:=PT X e (tT X.K f)
abbrev PWt (X:Cx) (e:Expr) (f:Ft):Prop:=PW X e (tT X.K f)
abbrev PAr (X:Cx) (es:List Expr) (fs:List Fe):Prop:=PA X es (tAR X.K fs)
abbrev PAv (X:Cx) (es:List Expr) (fs:List Fe):Prop:=PA X es (tAV X.K fs)
theorem z17 {X:Cx} {e:Expr} {t t':TE} (h:PE X e t) (k:∀σ H Q,t' σ H Q->t σ H Q):PE X e t':=fun pins s σ H Q I q=>h pins s σ H Q I (k σ H Q q)
theorem zc6 {X:Cx} {e:Expr} {t t':TT} (h:PT X e t) (k:∀σ H Q,t' σ H Q->t σ H Q):PT X e t':=fun pins s σ H Q I q=>h pins s σ H Q I (k σ H Q q)
theorem zq7 {X:Cx} {e:Expr} {t t':TT} (h:PW X e t) (k:∀σ H Q,t' σ H Q->t σ H Q):PW X e t':=fun w pins s σ H Q I q=>h w pins s σ H Q I (k σ H Q q)
theorem zm1 {X:Cx} {e:List Expr} {t t':TA} (h:PA X e t) (k:∀σ H Q,t' σ H Q->t σ H Q):PA X e t':=fun pos pins s σ H Q I q=>h pos pins s σ H Q I (k σ H Q q)
theorem z36 {X:Cx} {e:Stmt} {t t':TS} (h:PS X e t) (k:∀D σ H,t' D σ H->t D σ H):PS X e t':=fun pins s σ H D I q=>h pins s σ H D I (k D σ H q)
theorem zq8 {X:Cx} {e:List Stmt} {t t':TS} (h:PSs X e t) (k:∀D σ H,t' D σ H->t D σ H):PSs X e t':=fun pins s σ H D I q=>h pins s σ H D I (k D σ H q)
section
variable {X:Cx} {e:Expr} {f:Fe}
theorem v2r (h:PEv X e f):PEr X e f:=z17 h fun σ H Q ⟨F₀,H₀,O,F,ε,t,r,e,k⟩=>⟨F₀,H₀,O,F,ε,t,r,e,fun v F' H' x q=>k v F' H' x (.inl q)⟩
theorem n2v (h:PEn X e f) (hf:∀ε t,f ε=some t->∃ts,t=.list ts):PEv X e f:=z17 h fun σ H Q ⟨F₀,H₀,O,F,ε,t,r,e,k⟩=>by
 obtain⟨ts,rfl⟩:=hf _ _ e
 refine⟨F₀,H₀,O,F,ε,ts,r,e,fun a vs F' H' x hn nf ha q=>?_⟩
 have y:Ext F H (fun b=>F' b\/b=a) H':=⟨x.same,fun b z=>.inl (x.sub b z),fun b z=>by
  rcases z with z|rfl
  ·exact x.new b z
  ·exact .inr hn,⟨fun b z=>by
  rcases z with z|rfl
  ·exact x.dom b z
  ·exact⟨_,ha⟩,x.dom.tgs⟩⟩
 refine k (.ref a) _ H' y ?_
 simp only[Rep]
 exact⟨a,vs,rfl,.inr rfl,.inl ha,q.keep (fun _ _ z=>z) fun b _ z w=>⟨.inl z,w⟩⟩
end
end
section
variable [Tbl]
section
variable {X:Cx} {a b c e:Expr} {f g h:Fe} {pos:Pos}
theorem zmf {t:T} {v:V} (he:PE X e (tC v)) (hr:∀F H,Rep X.K F H t v):PEv X e (cst t):=z17 he fun σ H Q ⟨F₀,H₀,O,F,ε,t',r,e,k⟩=>by
 cases e
 exact k v F H (Ext.refl r.dom) (hr _ _)
theorem z04 {i j}:PEv X (.Constant (.int i) j pos) (cst (.int i)):=zmf zwb fun _ _=>by simp[Rep]
theorem q_bl {i j}:PEv X (.Constant (.bool i) j pos) (cst (.bool i)):=zmf zxy fun _ _=>by simp[Rep]
theorem z0e {i j}:PEv X (.Constant (.str i) j pos) (cst (.str i)):=zmf zsq fun _ _=>by simp[Rep]
theorem zba {j}:PEv X (.Constant .none j pos) (cst .none):=zmf zw9 fun _ _=>by simp[Rep]
theorem q_nm (i:Nat) {x:Str} (hN:X.N[i]?=some x:=by rfl) (hv:Vis X.env.scope x:=by first|exact Or.inl rfl|exact Or.inr (Or.inl rfl)|exact Or.inr (Or.inr rfl)) (hd:(x == ("__debug__":Str))=false:=by decide)
  (hcd:(x == ("__classdict__":Str))=false:=by decide):PEr X (.Name x pos) (nm i):=z17 (pv i hN hv hd hcd) fun σ H Q ⟨F₀,H₀,O,F,ε,t,r,e,k⟩=>by
 unfold nm at e
 split at e
 next t' he =>
  cases e
  obtain⟨v,h1,h2⟩:=r.val _ _ he
  exact⟨v,h1,k v F H (Ext.refl r.dom) (.inl h2)⟩
 next ts he =>
  cases e
  obtain⟨v,h1,a,vs,rfl,n,h0,hh,hr⟩:=r.val _ _ he
  exact⟨_,h1,k _ F H (Ext.refl r.dom) (.inr ⟨ts,a,vs,rfl,rfl,hh,hr⟩)⟩
 next=>cases e
theorem z0b (i:Nat) {x:Str} (hN:X.N[i]?=some x:=by rfl) (hv:Vis X.env.scope x:=by first|exact Or.inl rfl|exact Or.inr (Or.inl rfl)|exact Or.inr (Or.inr rfl)) (hd:(x == ("__debug__":Str))=false:=by decide)
  (hcd:(x == ("__classdict__":Str))=false:=by decide):PEv X (.Name x pos) (nmV i):=z17 (pv i hN hv hd hcd) fun σ H Q ⟨F₀,H₀,O,F,ε,t,r,e,k⟩=>by
 unfold nmV at e
 split at e
 next t' he =>
  cases e
  obtain⟨v,h1,h2⟩:=r.val _ _ he
  exact⟨v,h1,k v F H (Ext.refl r.dom) h2⟩
 next=>cases e
noncomputable def Op2 (K:y00) (o:T->T->Option T) (R:R2):Prop :=
 ∀(O F:Addr->Prop) (H:Hp) (x y t:T) (vx vy:V) (Q:VK),Dom F H->RepR K O F H x vx->RepR K O F H y vy->o x y=some t ->
  (∀v F' H',Ext F H F' H'->Rep K F' H' t v->Q v H')->R vx vy H Q
theorem z7b {o:T->T->Option T} {R:R2} (h:Op2 X.K o R):∀σ H Q,tV X.K (op2 o f g) σ H Q->tOp R (tR X.K f) (tR X.K g) σ H Q:=by
 rintro σ H Q ⟨F₀,H₀,O,F,ε,t,r,e,k⟩
 simp only[op2,y01] at e
 obtain⟨x,ex,y,ey,eo⟩:=e
 refine⟨F₀,H₀,O,F,ε,x,r,ex,fun vx F1 H1 x1 rx=>⟨F₀,H₀,O,F1,ε,y,r.ext x1,ey,fun vy F2 H2 x2 ry=>?_⟩⟩
 exact h O F2 H2 x y t vx vy Q x2.dom (rx.ext x2) ry eo fun v F' H' x3 q3=>k v F' H' ((x1.trans x2).trans x3) q3
theorem Inv.lstR {pins:List (Addr×Obj)} {σ:L2.St} {H:Hp} {s:y04} {l:Addr} {xs:List V} (I:Inv X pins σ H s) (hH:Rd H l (.lst xs)) :
  xs.length<=y0k/\∃(its:List Value) (n:Nat),Vals xs its/\xs.length=its.length/\s.heap.get? l=some { cls:=.type "list",data:=.seq its.toArray n }:=by
 obtain⟨z,its,n,r,e⟩:=hH.ok I.hok
 exact⟨z,its,n,r,r.length,e⟩
noncomputable def zxo:R2:=fun x y H Q=>∃l b xs zs,x=.ref l/\y=.ref b/\Rd H l (.lst xs)/\Rd H b (.lst zs)/\xs.length+zs.length<=y0k/\∀p,H p=none->Q (.ref p) (upd H p (.lst (xs++zs)))
theorem zok:OpR X (binaryOp .Add) zxo:=by
 intro pins s σ H x y v u Q I rx ry h
 obtain⟨l,b,xs,zs,rfl,rfl,hH,hB,hz,q⟩:=h
 cases rx
 cases ry
 obtain⟨z,its,n,r,hl,e⟩:=Inv.lstR I hH
 obtain⟨z2,its2,n2,r2,hl2,e2⟩:=Inv.lstR I hB
 refine PySem.P.add_list e e2 ?_ (by rw[y0i,y0i];omega)
 have ea:its.toArray++its2.toArray=(its++its2).toArray:=by simp
 rw[ea]
 exact⟨.ref _,_,I.lnew (t':=s.toks) (r.append r2) (by rw[y2a];omega),rfl,q _ I.fresh⟩
def zvr (K:y00):R2:=fun x y H Q=>∃a b ys,x=.ref a/\y=.ref b/\SqT K H a []/\SqT K H b ys/\Q (.ref b) H
theorem zld:OpR X (binaryOp .Add) (zvr X.K):=by
 intro pins s σ H x y v u Q I rx ry h
 obtain⟨a,b,ys,rfl,rfl,ha,hb,q⟩:=h
 cases rx
 cases ry
 obtain⟨its,r1,p1,_⟩:=I.tuple ha
 obtain⟨its2,r2,p2,_⟩:=I.tuple hb
 have ei:its=[]:=r1.nil_iff.mpr rfl
 subst ei
 obtain⟨⟨cls,dd,data,sl⟩,ho,hc,n,hd⟩:=id p1
 obtain⟨⟨cls2,dd2,data2,sl2⟩,ho2,hc2,n2,hd2⟩:=id p2
 simp only at hc hd hc2 hd2
 subst hc hd hc2 hd2
 exact concat_meets ⟨_,ho,rfl⟩ ⟨_,ho2,rfl⟩ noFill_tuple_add seq_tuple_add PySem.F.slot_tuple_add PySem.F.entry_tuple_add (PySem.F.args_tuple_add_2 _ _)
   (tuple_addW0 a b ([]:List Value).toArray its2.toArray n n2 dd dd2 sl sl2 (by simp)) ⟨ho,ho2,⟨.ref b,H,I,rfl,q⟩⟩
theorem z9c:y0k=big:=by rw[sizeLine_eq];rfl
theorem z81 (ha:PEr X a f) (hb:PEr X b g):PEv X (.BinOp a .Add b pos) (op2 oAdd f g) :=
 z17 (zjy (zsu.or (zf5.or (zld.or (zoj.or zok)))) ha hb) (z7b (by
  intro O F H x y t vx vy Q d rx ry e k
  unfold oAdd at e
  split at e
  ·cases e
   rw[rx.int,ry.int]
   exact .inl ⟨_,_,rfl,rfl,k _ F H (Ext.refl d) (by simp[Rep])⟩
  ·split at e
   next hz =>
    cases e
    rw[rx.str,ry.str]
    exact .inr (.inl ⟨_,_,rfl,rfl,by rw[z9c];exact hz,k _ F H (Ext.refl d) (by simp[Rep])⟩)
   next=>cases e
  ·split at e
   next xs ys hz =>
    cases e
    obtain⟨ax,vs,rfl,hs,hr⟩:=rx.tup
    obtain⟨ay,ws,rfl,hs',hr'⟩:=ry.tup
    cases xs with
    | nil =>
     simp only[RepL] at hr
     subst hr
     refine .inr (.inr (.inl ⟨_,_,_,rfl,rfl,hs,hs',k _ F H (Ext.refl d) ?_⟩))
     simp only[Rep]
     exact⟨_,_,rfl,hs',by simpa using hr'⟩
    | cons x0 xr =>
     refine .inr (.inr (.inr (.inl ⟨_,_,_,_,rfl,rfl,hs,hs',?_,?_,fun e0=>?_,fun e0 p hp=>?_⟩)))
     ·intro z
      subst z
      have:=hr.length
      simp at this
     ·rw[z9c,<- hr.length,<- hr'.length]
      exact hz
     ·refine k _ F H (Ext.refl d) ?_
      subst e0
      have e1:ys=[]:=List.eq_nil_of_length_eq_zero (by rw[hr'.length];rfl)
      subst e1
      simp only[Rep]
      exact⟨_,_,rfl,hs,by simpa using hr⟩
     ·have x1:=Ext.laid (o:=.tup (vs++ws)) d hp
      refine k _ F _ x1 ?_
      simp only[Rep]
      exact⟨p,_,rfl,SqT.of z0c,(hr.append hr').ext x1⟩
   next=>cases e
  ·split at e
   next xs ys hz =>
    cases e
    obtain⟨ax,vs,rfl,hs,hr⟩:=rx.lst
    obtain⟨ay,ws,rfl,hs',hr'⟩:=ry.lst
    refine .inr (.inr (.inr (.inr ⟨_,_,_,_,rfl,rfl,hs,hs',by rw[z9c,<- hr.length,<- hr'.length];exact hz,fun p hp=>?_⟩)))
    have x1:=Ext.laidF (o:=.lst (vs++ws)) d hp
    refine k _ _ _ x1 ?_
    simp only[Rep]
    exact⟨p,_,rfl,.inr rfl,.inl z0c,(hr.append hr').ext x1⟩
   next=>cases e
  ·cases e))
theorem zvs (ha:PEr X a f) (hb:PEr X b g):PEv X (.BinOp a .Sub b pos) (op2 oSub f g) :=
 z17 (zjy zwf ha hb) (z7b (by
  intro O F H x y t vx vy Q d rx ry e k
  unfold oSub at e
  split at e
  ·cases e
   rw[rx.int,ry.int]
   exact⟨_,_,rfl,rfl,k _ F H (Ext.refl d) (by simp[Rep])⟩
  ·cases e))
theorem zhh (ha:PEr X a f) (hb:PEr X b g):PEv X (.BinOp a .Mult b pos) (op2 oMul f g) :=
 z17 (zjy zwg ha hb) (z7b (by
  intro O F H x y t vx vy Q d rx ry e k
  unfold oMul at e
  split at e
  ·split at e
   next hm =>
    cases e
    rw[rx.int,ry.int]
    refine⟨_,_,rfl,rfl,?_,k _ F H (Ext.refl d) (by simp[Rep])⟩
    simpa [zrc,CMul] using hm
   next=>cases e
  ·cases e))
theorem z6w (ha:PEr X a f) (hb:PEr X b g):PEv X (.BinOp a .FloorDiv b pos) (op2 oDiv f g) :=
 z17 (zjy zua ha hb) (z7b (by
  intro O F H x y t vx vy Q d rx ry e k
  unfold oDiv at e
  split at e
  ·split at e
   next hm =>
    cases e
    rw[rx.int,ry.int]
    exact⟨_,_,rfl,rfl,hm,k _ F H (Ext.refl d) (by simp[Rep])⟩
   next=>cases e
  ·cases e))
theorem z4q (ha:PEr X a f) (hb:PEr X b g):PEv X (.BinOp a .Mod b pos) (op2 oMod f g) :=
 z17 (zjy zwh ha hb) (z7b (by
  intro O F H x y t vx vy Q d rx ry e k
  unfold oMod at e
  split at e
  ·split at e
   next hm =>
    cases e
    rw[rx.int,ry.int]
    exact⟨_,_,rfl,rfl,hm,k _ F H (Ext.refl d) (by simp[Rep])⟩
   next=>cases e
  ·cases e))
theorem q_ix (ha:PEr X a f) (hb:PEr X b g) (hs:zq6 b:=by intro _ _;rfl):PEv X (.Subscript a b pos) (op2 oIx f g) :=
 z17 (zxx zwv ha hb hs) (z7b (by
  intro O F H x y t vx vy Q d rx ry e k
  unfold oIx at e
  split at e
  ·obtain⟨ax,vs,rfl,hs,hr⟩:=rx.tup
   rw[ry.int]
   simp only[atZ,y01] at e
   obtain⟨j,hj,et⟩:=e
   obtain⟨v,hv,rv⟩:=hr.get et
   refine .inr (.inl ⟨_,_,_,v,rfl,rfl,hs,?_,k _ F H (Ext.refl d) rv⟩)
   rw[hr.length] at hj
   show (ixN _ _).bind _=_
   rw[show ixN vs.length _=some j from hj]
   exact hv
  ·obtain⟨ax,vs,rfl,hs,hr⟩:=rx.lst
   rw[ry.int]
   simp only[atZ,y01] at e
   obtain⟨j,hj,et⟩:=e
   obtain⟨v,hv,rv⟩:=hr.get et
   refine .inl ⟨_,_,_,v,rfl,rfl,.inl hs,?_,k _ F H (Ext.refl d) rv⟩
   rw[hr.length] at hj
   show (ixN _ _).bind _=_
   rw[show ixN vs.length _=some j from hj]
   exact hv
  ·split at e
   next hz =>
    rw[rx.str,ry.int]
    simp only[y07] at e
    obtain⟨c,hc,rfl⟩:=e
    exact .inr (.inr ⟨_,_,c,rfl,rfl,by rw[z9c];exact hz,hc,k _ F H (Ext.refl d) (by simp[Rep])⟩)
   next=>cases e
  ·cases e))
end
end
section
variable [Tbl]
noncomputable def DO (K:y00) (F₀:Addr->Prop) (H₀:En) (O F:Addr->Prop) (H:Hp) (D:Ends):Out->Prop
 | .nx ε'=>∀σ' F' H',Kp K F H F' H'->RelE K F₀ H₀ O F' H' ε' σ'->D.nx σ' H'
 | .rt t=>∀v F' H',Ext F₀ H₀.h F' H'->Rep K F' H' t v->D.rt v H'
 | .rtm t ε'=>∀v σ' F' H',RelE K F₀ H₀ O F' H' ε' σ'->Rep K F' H' t v->D.rt v H'
 | .rto s=>∀a F' H',Ext F₀ H₀.h F' H'->z2m K H₀ O F' H' s (.ref a)->D.rt (.ref a) H'
 | .bk ε'=>∀σ' F' H',Kp K F H F' H'->RelE K F₀ H₀ O F' H' ε' σ'->D.bk σ' H'
 | .ct ε'=>∀σ' F' H',Kp K F H F' H'->RelE K F₀ H₀ O F' H' ε' σ'->D.ct σ' H'
def tS (K:y00) (g:Fs):TS:=fun D σ H=>∃F₀ H₀ O F ε o,RelE K F₀ H₀ O F H ε σ/\g ε=some o/\DO K F₀ H₀ O F H D o
abbrev PSt (X:Cx) (s:Stmt) (g:Fs):Prop:=PS X s (tS X.K g)
abbrev PBt (X:Cx) (s:List Stmt) (g:Fs):Prop:=PSs X s (tS X.K g)
theorem DO.kp {K:y00} {F₀ O F F1:Addr->Prop} {H₀:En} {H H1:Hp} {D:Ends} {o:Out} (h:DO K F₀ H₀ O F H D o) (x:Kp K F H F1 H1):DO K F₀ H₀ O F1 H1 D o:=by
 cases o with
 | nx ε=>exact fun σ' F' H' k r=>h σ' F' H' (x.trans k) r
 | rt t=>exact h
 | bk ε=>exact fun σ' F' H' k r=>h σ' F' H' (x.trans k) r
 | ct ε=>exact fun σ' F' H' k r=>h σ' F' H' (x.trans k) r
 | rtm t ε=>exact h
 | rto s=>exact h
section
variable {X:Cx} {e a b c:Expr} {f:Fe} {g g':Fs} {ft:Ft} {st:Stmt} {rest:List Stmt} {pos:Pos}
theorem z3j:PBt X [] skip:=zq8 ztu fun D σ H ⟨F₀,H₀,O,F,ε,o,r,e,k⟩=>by
 cases e
 exact k σ F H Kp.refl r
theorem z0a (h:PSt X st g):PBt X [st] g:=zjw h
theorem z05 (h1:PSt X st g) (h2:PBt X rest g'):PBt X (st::rest) (seq g g'):=zq8 (zla h1 h2) fun D σ H ⟨F₀,H₀,O,F,ε,o,r,e,k⟩=>by
 simp only[seq,y01] at e
 obtain⟨o1,e1,e2⟩:=e
 refine⟨F₀,H₀,O,F,ε,o1,r,e1,?_⟩
 cases o1 with
 | nx ε'=>exact fun σ' F' H' x r'=>⟨F₀,H₀,O,F',ε',o,r',e2,k.kp x⟩
 | rt t =>
  cases e2
  exact k
 | bk ε' =>
  cases e2
  exact k
 | ct ε' =>
  cases e2
  exact k
 | rtm t ε' =>
  cases e2
  exact k
 | rto s =>
  cases e2
  exact k
theorem z2y (h:PEv X e f):PSt X (.Return (some e) pos) (rtn f):=z36 (zf3 h) fun D σ H ⟨F₀,H₀,O,F,ε,o,r,e,k⟩=>by
 simp only[rtn,y07] at e
 obtain⟨t,et,rfl⟩:=e
 exact⟨F₀,H₀,O,F,ε,t,r,et,fun v F' H' x q=>k v F' H' (r.ent.trans x) q⟩
theorem zsi (i:Nat) {x:Str} {npos:Pos} (hN:X.N[i]?=some x:=by rfl) (hv:Vis X.env.scope x:=by first|exact Or.inl rfl|exact Or.inr (Or.inl rfl)|exact Or.inr (Or.inr rfl)) (hd:(x == ("__debug__":Str))=false:=by decide)
  (hcd:(x == ("__classdict__":Str))=false:=by decide):PSt X (.Return (some (.Name x npos)) pos) (rtn (nm i)):=z36 (zf3 (pv i hN hv hd hcd)) fun D σ H ⟨F₀,H₀,O,F,ε,o,r,e,k⟩=>by
 simp only[rtn,y07] at e
 obtain⟨t,et,rfl⟩:=e
 unfold nm at et
 split at et
 next t' he =>
  cases et
  obtain⟨v,h1,h2⟩:=r.val _ _ he
  exact⟨v,h1,k v F H r.ent h2⟩
 next ts he =>
  cases et
  obtain⟨v,h1,a,vs,rfl,n,h0,ha,q⟩:=r.val _ _ he
  have x2:=r.ent
  have y:Ext F₀ H₀.h (fun b=>F b\/b=a) H:=⟨x2.same,fun b z=>.inl (x2.sub b z),fun b z=>by
   rcases z with z|rfl
   ·exact x2.new b z
   ·exact .inr (r.o0 _ h0),⟨fun b z=>by
   rcases z with z|rfl
   ·exact x2.dom b z
   ·exact⟨_,ha⟩,x2.dom.tgs⟩⟩
  refine⟨_,h1,k _ _ H y ?_⟩
  simp only[Rep]
  exact⟨a,vs,rfl,.inr rfl,.inl ha,q.keep (fun _ _ z=>z) fun b _ z w=>⟨.inl z,w⟩⟩
 next=>cases et
theorem s_if (hc:PTt X c ft) (ha:PBt X rest g) {els:List Stmt} (hb:PBt X els g'):PSt X (.If c rest els pos) (iff ft g g'):=z36 (zw4 hc ha hb) fun D σ H ⟨F₀,H₀,O,F,ε,o,r,e,k⟩=>by
 simp only[iff,y01] at e
 obtain⟨b,eb,e⟩:=e
 refine⟨F₀,H₀,O,F,ε,b,r,eb,fun F' H' x=>?_⟩
 cases b with
 | true=>exact iteT ⟨F₀,H₀,O,F',ε,o,r.ext x,by simpa using e,k.kp x.kp⟩
 | false=>exact iteF ⟨F₀,H₀,O,F',ε,o,r.ext x,by simpa using e,k.kp x.kp⟩
theorem z2u (i:Nat) {x:Str} {pos':Pos} (hN:X.N.Nodup) (he:PEv X e f) (hi:X.N[i]?=some x:=by rfl) (hx:Loc X.env.scope x:=by first|exact Or.inl rfl|exact Or.inr rfl)
  (hs:swapsWith e (some (.Name x pos')) pos.line X.env=pure false:=by rfl) (hf:X.fn x=true\/X.env.scope.names.lookup x=some .local:=by first|exact .inl rfl|exact .inr rfl) :
  PSt X (.Assign [.Name x pos'] e pos) (asg i f):=z36 (zlb hN hi hx he hs hf) fun D σ H ⟨F₀,H₀,O,F,ε,o,r,e,k⟩=>by
 simp only[asg,y07] at e
 obtain⟨t,et,rfl⟩:=e
 refine⟨F₀,H₀,O,F,ε,t,r,et,fun v F' H' x q=>?_⟩
 exact k _ F' H' x.kp ((r.ext x).set i q)
def tG (K:y00) (g:Fg):TG:=fun v σ H Q=>∃F₀ H₀ O F ε t ε',RelE K F₀ H₀ O F H ε σ/\Rep K F H t v/\g t ε=some ε'/\∀σ',RelE K F₀ H₀ O F H ε' σ'->Q σ' H
def tGs (K:y00) (gs:List Fg):TGs:=fun vs σ H Q=>∃F₀ H₀ O F ε ts ε',RelE K F₀ H₀ O F H ε σ/\RepL K F H ts vs/\gAll gs ts ε=some ε'/\∀σ',RelE K F₀ H₀ O F H ε' σ'->Q σ' H
abbrev PGt (X:Cx) (e:Expr) (g:Fg):Prop:=PG X e (tG X.K g)
abbrev PGst (X:Cx) (es:List Expr) (gs:List Fg):Prop:=PGs X es (tGs X.K gs)
theorem ztb {X:Cx} {e:Expr} {t t':TG} (h:PG X e t) (k:∀v σ H Q,t' v σ H Q->t v σ H Q):PG X e t':=fun pins s σ H v u Q I r q=>h pins s σ H v u Q I r (k v σ H Q q)
theorem zq9 {X:Cx} {e:List Expr} {t t':TGs} (h:PGs X e t) (k:∀v σ H Q,t' v σ H Q->t v σ H Q):PGs X e t':=fun pins s σ H v u Q I r q=>h pins s σ H v u Q I r (k v σ H Q q)
theorem g_nm (i:Nat) {x:Str} (hN:X.N.Nodup) (hi:X.N[i]?=some x:=by rfl) (hx:Loc X.env.scope x:=by first|exact Or.inl rfl|exact Or.inr rfl)
  (hf:X.fn x=true\/X.env.scope.names.lookup x=some .local:=by first|exact .inl rfl|exact .inr rfl):PGt X (.Name x pos) (gNm i):=ztb (zjx hN hi hx hf) fun v σ H Q ⟨F₀,H₀,O,F,ε,t,ε',r,q,e,k⟩=>by
 cases e
 exact k _ (r.set i q)
theorem zpj:PGst X [] []:=zq9 zoe fun vs σ H Q ⟨F₀,H₀,O,F,ε,ts,ε',r,q,e,k⟩=>by
 cases ts with
 | nil =>
  cases e
  simp only[RepL] at q
  exact⟨q,k σ r⟩
 | cons t ts=>cases e
theorem z8k {es:List Expr} {g:Fg} {gs:List Fg} (h1:PGt X e g) (h2:PGst X es gs) (hs:(assignEach (e::es) X.env).map (·.2)=assign e X.env::(assignEach es X.env).map (·.2):=by rfl):PGst X (e::es) (g::gs) :=
 zq9 (zgb h1 h2 hs) fun vs σ H Q ⟨F₀,H₀,O,F,ε,ts,ε',r,q,e,k⟩=>by
 cases ts with
 | nil=>cases e
 | cons t ts =>
  simp only[gAll,y01] at e
  obtain⟨ε1,e1,e2⟩:=e
  simp only[RepL] at q
  obtain⟨v,vr,rfl,q1,q2⟩:=q
  exact⟨v,vr,rfl,F₀,H₀,O,F,ε,t,ε1,r,q1,e1,fun σ1 r1=>⟨F₀,H₀,O,F,ε1,ts,ε',r1,q2,e2,k⟩⟩
theorem zlq:∀{gs:List Fg} {ts:List T} {ε ε':Ev},gAll gs ts ε=some ε'->ts.length=gs.length
 | [],[],_,_,_=>rfl
 | [],_::_,_,_,h=>by cases h
 | _::_,[],_,_,h=>by cases h
 | g::gs,t::ts,ε,ε',h=>by
  simp only[gAll,y01] at h
  obtain⟨ε1,_,h⟩:=h
  simp[zlq h]
theorem zpi {es:List Expr} {k:Nat} {gs:List Fg} (h:PGst X es gs) (hc:X.calm=true:=by rfl) (hn:(assignEach es X.env).length=gs.length:=by rfl) (hst:(assignEach es X.env).findIdx? (·.1)=none:=by rfl) :
  PGt X (.Tuple es k pos) (gTu gs):=ztb (zsp hc h hn hst) fun v σ H Q ⟨F₀,H₀,O,F,ε,t,ε',r,q,e,k⟩=>by
 unfold gTu at e
 split at e
 next ts =>
  simp only[Rep] at q
  obtain⟨a,vs,rfl,hs,hr⟩:=q
  exact⟨a,vs,rfl,hs,by rw[<- hr.length];exact zlq e,F₀,H₀,O,F,ε,ts,ε',r,hr,e,k⟩
 next=>cases e
structure ItOk (K:y00) (J:It) (F1:Addr->Prop) (H1:Hp) (ts:List T):Prop where
 go:∀i F H t,Kp K F1 H1 F H->Dom F H->ts[i]?=some t->J.go i H
 yld:∀i F H t x H',Kp K F1 H1 F H->Dom F H->ts[i]?=some t->J.yld i H x H'->∃F',Ext F H F' H'/\Rep K F' H' t x
 stop:∀i F H,Kp K F1 H1 F H->ts.length<=i->J.stop i H
def tI (K:y00) (f:Fi):TI:=fun σ H R=>∃F₀ H₀ O F ε ts,RelE K F₀ H₀ O F H ε σ/\f ε=some ts/\∀J F' H',Ext F H F' H'->ItOk K J F' H' ts->R J H'
abbrev PIt (X:Cx) (tg e:Expr) (f:Fi):Prop:=PI X tg e (tI X.K f)
theorem zm0 {X:Cx} {tg e:Expr} {t t':TI} (h:PI X tg e t) (k:∀σ H R,t' σ H R->t σ H R):PI X tg e t':=fun pins s σ H R I q=>h pins s σ H R I (k σ H R q)
theorem zp5 {K:y00} {a:Addr} {F1:Addr->Prop} {H1:Hp} {ts:List T} {vs:List V} (fa:F1 a) (hr:Rd H1 a (.lst vs)) (q:RepL K F1 H1 ts vs):ItOk K (Itl K a) F1 H1 ts where
 go:=fun i F H t kp d e=>by
  obtain⟨v,h1,_⟩:=q.get e
  exact⟨vs,v,.inl (kp.lst _ _ fa hr).2,h1⟩
 yld:=fun i F H t x H' kp d e y=>by
  obtain⟨rfl,y⟩:=y
  obtain⟨v,h1,h2⟩:=(q.kp kp).get e
  have:=y vs (.inl (kp.lst _ _ fa hr).2)
  rw[h1] at this
  cases this
  exact⟨F,Ext.refl d,h2⟩
 stop:=fun i F H kp hl=>⟨vs,.inl (kp.lst _ _ fa hr).2,by rw[<- q.length];exact hl⟩
theorem zrm {K:y00} {a:Addr} {F1:Addr->Prop} {H1:Hp} {ts:List T} {vs:List V} (hr:SqT K H1 a vs) (q:RepL K F1 H1 ts vs):ItOk K (Itt K a) F1 H1 ts where
 go:=fun i F H t kp d e=>by
  obtain⟨v,h1,_⟩:=q.get e
  exact⟨vs,v,kp.tup _ _ hr,h1⟩
 yld:=fun i F H t x H' kp d e y=>by
  obtain⟨rfl,y⟩:=y
  obtain⟨v,h1,h2⟩:=(q.kp kp).get e
  have:=y vs (kp.tup _ _ hr)
  rw[h1] at this
  cases this
  exact⟨F,Ext.refl d,h2⟩
 stop:=fun i F H kp hl=>⟨vs,kp.tup _ _ hr,by rw[<- q.length];exact hl⟩
theorem zjs (lo hi:Int):(rng lo hi).length=(hi - lo).toNat:=by simp[rng]
theorem zrn {K:y00} {F1:Addr->Prop} {H1:Hp} (lo hi:Int):ItOk K (Itr lo (hi - lo).toNat) F1 H1 (rng lo hi) where
 go:=fun i F H t kp d e=>by
  have h:=(y0l.mp e).1
  rw[zjs] at h
  exact h
 yld:=fun i F H t x H' kp d e y=>by
  obtain⟨rfl,rfl⟩:=y
  refine⟨F,Ext.refl d,?_⟩
  have h:=(y0l.mp e).1
  rw[zjs] at h
  unfold rng at e
  rw[y17,List.getElem?_range h] at e
  simp at e
  subst e
  simp[Rep]
 stop:=fun i F H kp hl=>by
  rw[zjs] at hl
  exact hl
def iSq (K:y00) (tl:TE):TI:=fun σ H R=>tl σ H fun x H1=>∃a,x=.ref a/\(((∃xs,SqL K H1 a xs)/\R (Itl K a) H1)\/((∃xs,SqT K H1 a xs)/\R (Itt K a) H1))
theorem zxu {tg l:Expr} {tl:TE} (hl:PE X l tl):PI X tg l (iSq X.K tl):=by
 intro pins s σ H R I h
 refine thn (hl pins s σ H _ I h) fun v s1 ⟨x,H1,I1,r1,a,e1,q⟩=>?_
 subst e1
 cases r1
 have fp:∀b∈[s1.heap.objs.size],FpOk X pins H1 b:=fun b hb=>by
  have e:b=s1.heap.objs.size:=by simpa using hb
  subst e
  exact I1.fpOk (y0p _) (I1.hok.fresh (y0p _))
 rcases q with ⟨⟨xs,hq⟩,q⟩|⟨⟨xs,hq⟩,q⟩
 ·obtain⟨its,rv,p,hz⟩:=I1.list hq
  refine wpAny_pyIter_list p.isList ?_
  exact⟨s1.heap.objs.size,[s1.heap.objs.size],_,_,H1,rfl,I1.kept (t':=s1.toks) fun b o e=>y03 _ e,znk a _,⟨_,y0m _ rfl,rfl,rfl⟩,fp,q⟩
 ·obtain⟨its,rv,p,hz⟩:=I1.tuple hq
  refine wpAny_pyIter_tuple (show s1.heap.IsTuple a its.toArray from p) ?_
  exact⟨s1.heap.objs.size,[s1.heap.objs.size],_,_,H1,rfl,I1.kept (t':=s1.toks) fun b o e=>y03 _ e,zm6 a _,⟨_,y0m _ rfl,rfl,rfl⟩,fp,q⟩
theorem zcb {tg l:Expr} {f:Fe} (hl:PEv X l f):PIt X tg l (z4d f):=zm0 (zxu hl) fun σ H R ⟨F₀,H₀,O,F,ε,ts,r,e,k⟩=>by
 simp only[z4d,y01] at e
 obtain⟨t,et,e⟩:=e
 split at e
 ·cases e
  refine⟨F₀,H₀,O,F,ε,_,r,et,fun v F' H' x q=>?_⟩
  simp only[Rep] at q
  obtain⟨a,vs,rfl,hs,hr⟩:=q
  exact⟨a,rfl,.inr ⟨⟨vs,hs⟩,k _ F' H' x (zrm hs hr)⟩⟩
 ·cases e
  refine⟨F₀,H₀,O,F,ε,_,r,et,fun v F' H' x q=>?_⟩
  simp only[Rep] at q
  obtain⟨a,vs,rfl,fa,hs,hr⟩:=q
  exact⟨a,rfl,.inl ⟨⟨vs,.inl hs⟩,k _ F' H' x (zp5 fa hs hr)⟩⟩
 ·cases e
theorem zlo {tg a:Expr} {f:Fe} {p pos:Pos} (hm:X.mg "range"=none) (ha:PEr X a f) (hg:Gl X "range":=by rfl) (hs:y0a [a] X.env=[(false,eval a X.env)]:=by rfl) (hs2:y0a [a] X.env=(false,eval a X.env)::y0a [] X.env:=by rfl) :
  PIt X tg (.Call (.Name "range" p) [a] [] pos) (z4k f):=zm0 (zod hg hm (z35 ha z6x hs2) hs) fun σ H R ⟨F₀,H₀,O,F,ε,ts,r,e,k⟩=>by
 simp only[z4k,y01] at e
 obtain⟨t,et,e⟩:=e
 split at e
 next j =>
  split at e
  next hz =>
   cases e
   refine⟨F₀,H₀,O,F,ε,_,r,et,fun v F' H' x q=>⟨j,by rw[q.int],?_,?_,k _ F' H' x (by simpa using zrn 0 j)⟩⟩
   ·simp[z86] at hz
    omega
   ·simp[z86] at hz
    omega
  next=>cases e
 next=>cases e
theorem zg5 {tg iter:Expr} {body:List Stmt} {it:Fi} {gg:Fg} {bb:Fs} (hp:PassesOwn (model X.prog X.w) X.A X.env X.xe) (hi:PIt X tg iter it) (hg:PGt X tg gg) (hb:PBt X body bb) (hc:X.calm=true:=by rfl)
  (hs:∀x,foldedSetIterable iter X.env x=pure x:=by intro _;rfl):PSt X (.For tg iter body [] pos) (for_ it gg bb):=z36 (zw5 hp hc hi hg hb hs) fun D σ H ⟨F₀,H₀,O,F,ε,o,r,e,k⟩=>by
 simp only[for_,y01] at e
 obtain⟨ts,et,e⟩:=e
 refine⟨F₀,H₀,O,F,ε,ts,r,et,fun J F1 H1 x1 ok=>?_⟩
 refine⟨fun i m σ' H'=>m=ts.length - i/\i<=ts.length/\∃F' ε' ,Kp X.K F1 H1 F' H'/\RelE X.K F₀ H₀ O F' H' ε' σ'/\forL gg bb (ts.drop i) ε'=some o,⟨_,rfl,y2c _,F1,ε,Kp.refl,r.ext x1,by simpa using e⟩,?_⟩
 rintro i m σ' H' ⟨rfl,hi',F',ε',kp,r',e'⟩
 by_cases hlt:i<ts.length
 ·have hd:ts.drop i=ts[i]::ts.drop (i+1):=List.drop_eq_getElem_cons hlt
  have hg':ts[i]?=some ts[i]:=y0w hlt
  rw[hd] at e'
  simp only[forL,y01] at e'
  obtain⟨ε1,eg,o1,eb,e'⟩:=e'
  refine .inr ⟨ok.go i F' H' _ kp r'.dom hg',fun σ2 H2=>∃m',m'<ts.length - i/\(m'=ts.length - (i+1)/\i+1<=ts.length/\∃F2 ε2,Kp X.K F1 H1 F2 H2/\RelE X.K F₀ H₀ O F2 H2 ε2 σ2/\forL gg bb (ts.drop (i+1)) ε2=some o),fun _ _ z=>z,fun x H2 y=>?_⟩
  obtain⟨F2,x2,rx⟩:=ok.yld i F' H' _ x H2 kp r'.dom hg' y
  refine⟨F₀,H₀,O,F2,ε',_,ε1,r'.ext x2,rx,eg,fun σ3 r3=>⟨F₀,H₀,O,F2,ε1,o1,r3,eb,?_⟩⟩
  have kp2:Kp X.K F1 H1 F2 H2:=kp.trans x2.kp
  cases o1 with
  | nx ε2=>exact fun σ4 F4 H4 k4 r4=>⟨_,by omega,rfl,hlt,F4,ε2,kp2.trans k4,r4,e'⟩
  | ct ε2=>exact fun σ4 F4 H4 k4 r4=>⟨_,by omega,rfl,hlt,F4,ε2,kp2.trans k4,r4,e'⟩
  | bk ε2 =>
   cases e'
   exact fun σ4 F4 H4 k4 r4=>k σ4 F4 H4 ((x1.kp.trans kp2).trans k4) r4
  | rt t =>
   cases e'
   exact k
  | rtm t ε2 =>
   cases e'
   exact k
  | rto s =>
   cases e'
   exact k
 ·have hd:ts.drop i=[]:=List.drop_eq_nil_of_le (by omega)
  rw[hd] at e'
  cases e'
  exact .inl ⟨ok.stop i F' H' kp (by omega),k σ' F' H' (x1.kp.trans kp) r'⟩
end
end
section
variable [Tbl]
section
variable {X:Cx} {a b c e:Expr} {es:List Expr} {f g h:Fe} {fs:List Fe} {ft gt:Ft} {pos p:Pos}
theorem z5k:PAr X [] []:=zm1 z6x fun σ H Q ⟨F₀,H₀,O,F,ε,ts,r,e,k⟩=>by
 cases e
 exact k [] F H (Ext.refl r.dom) .nil
theorem z3f (ha:PEr X e f) (hr:PAr X es fs) (hs:y0a (e::es) X.env=(false,eval e X.env)::y0a es X.env:=by rfl):PAr X (e::es) (f::fs):=zm1 (z35 ha hr hs) fun σ H Q ⟨F₀,H₀,O,F,ε,ts,r,e,k⟩=>by
 simp only[args,y01,y07] at e
 obtain⟨t,et,us,eu,rfl⟩:=e
 refine⟨F₀,H₀,O,F,ε,t,r,et,fun v F1 H1 x1 q1=>⟨F₀,H₀,O,F1,ε,us,r.ext x1,eu,fun vs F2 H2 x2 q2=>?_⟩⟩
 exact k _ F2 H2 (x1.trans x2) (.cons (q1.ext x2) q2)
theorem z03:PAv X [] []:=zm1 z6x fun σ H Q ⟨F₀,H₀,O,F,ε,ts,r,e,k⟩=>by
 cases e
 exact k [] F H (Ext.refl r.dom) RepL.nil
theorem z00 (ha:PEv X e f) (hr:PAv X es fs) (hs:y0a (e::es) X.env=(false,eval e X.env)::y0a es X.env:=by rfl):PAv X (e::es) (f::fs):=zm1 (z35 ha hr hs) fun σ H Q ⟨F₀,H₀,O,F,ε,ts,r,e,k⟩=>by
 simp only[args,y01,y07] at e
 obtain⟨t,et,us,eu,rfl⟩:=e
 refine⟨F₀,H₀,O,F,ε,t,r,et,fun v F1 H1 x1 q1=>⟨F₀,H₀,O,F1,ε,us,r.ext x1,eu,fun vs F2 H2 x2 q2=>?_⟩⟩
 exact k _ F2 H2 (x1.trans x2) (RepL.cons (q1.ext x2) q2)
theorem z1t {x1} (h:PAv X es fs):PEv X (.Tuple es x1 pos) (z0g fs):=z17 (zof h) fun σ H Q ⟨F₀,H₀,O,F,ε,t,r,e,k⟩=>by
 simp only[z0g,y01] at e
 obtain⟨ts,et,e⟩:=e
 split at e
 next hz =>
  cases e
  refine⟨F₀,H₀,O,F,ε,ts,r,et,fun vs F1 H1 x1 q1=>⟨by rw[z9c,<- q1.length];exact hz,fun p hp=>?_⟩⟩
  have x2:=Ext.laid (o:=.tup vs) x1.dom hp
  refine k _ F1 _ (x1.trans x2) ?_
  simp only[Rep]
  exact⟨p,vs,rfl,SqT.of z0c,q1.ext x2⟩
 next=>cases e
theorem zme (h:PAv X es fs):PEn X (.List es pos) (z5b fs):=z17 (zwa h) fun σ H Q ⟨F₀,H₀,O,F,ε,us,r,e,k⟩=>by
 simp only[z5b,y01] at e
 obtain⟨ts,et,e⟩:=e
 split at e
 next hz =>
  cases e
  refine⟨F₀,H₀,O,F,ε,_,r,et,fun vs F1 H1 x1 q1=>⟨by rw[z9c,<- q1.length];exact hz,fun p hp=>?_⟩⟩
  have x2:=Ext.laid (o:=.lst vs) x1.dom hp
  refine k p vs F1 _ (x1.trans x2) ?_ ?_ z0c (q1.ext x2)
  ·exact x1.same.none hp
  ·intro fp
   obtain⟨o,eo⟩:=x1.dom p fp
   rw[hp] at eo
   cases eo
 next=>cases e
theorem zvu (h:PAv X es fs):PEv X (.List es pos) (z5b fs):=n2v (zme h) fun ε t e=>by
 simp only[z5b,y01] at e
 obtain⟨ts,et,e⟩:=e
 split at e
 ·cases e
  exact⟨_,rfl⟩
 ·cases e
mutual
theorem zl9 {F:Addr->Prop} {pins:List (Addr×Obj)} {σ:L2.St} {H:Hp} {s:y04} (I:Inv X pins σ H s):∀{t:T} {v:V} {u:Value},Rep X.K F H t v->RelV v u->∃as,Reads s.heap u t as
 | .none,v,u,h,r=>by
  simp only[Rep] at h
  subst h
  cases r
  exact⟨_,.none⟩
 | .bool b,v,u,h,r=>by
  simp only[Rep] at h
  subst h
  cases r
  exact⟨_,.bool b⟩
 | .int i,v,u,h,r=>by
  simp only[Rep] at h
  subst h
  obtain⟨t,rfl⟩:=r
  exact⟨_,.int i t⟩
 | .str x,v,u,h,r=>by
  simp only[Rep] at h
  subst h
  obtain⟨t,rfl⟩:=r
  exact⟨_,.str x t⟩
 | .dict _,v,u,h,r=>by simp[Rep] at h
 | .tuple ts,v,u,h,r=>by
  simp only[Rep] at h
  obtain⟨a,vs,rfl,hs,hr⟩:=h
  cases r
  obtain⟨its,rv,⟨o,h1,h2,n,h3⟩,hz⟩:=I.tuple hs
  obtain⟨as,ra⟩:=zai I hr rv
  exact⟨_,.tuple h1 h2 h3 (by simpa using ra)⟩
 | .list ts,v,u,h,r=>by
  simp only[Rep] at h
  obtain⟨a,vs,rfl,fa,hs,hr⟩:=h
  cases r
  obtain⟨z,its,n,rv,hl,e⟩:=Inv.lstR I hs
  obtain⟨as,ra⟩:=zai I hr rv
  exact⟨_,.list e rfl rfl (by simpa using ra)⟩
theorem zai {F:Addr->Prop} {pins:List (Addr×Obj)} {σ:L2.St} {H:Hp} {s:y04} (I:Inv X pins σ H s):∀{ts:List T} {vs:List V} {us:List Value},RepL X.K F H ts vs->Vals vs us->∃as,ReadsAll s.heap us ts as
 | [],vs,us,h,r=>by
  simp only[RepL] at h
  subst h
  cases r
  exact⟨_,.nil⟩
 | t::ts,vs,us,h,r=>by
  simp only[RepL] at h
  obtain⟨v,vr,rfl,h1,h2⟩:=h
  cases r with
  | cons r1 r2 =>
   obtain⟨as,q1⟩:=zl9 I h1 r1
   obtain⟨bs,q2⟩:=zai I h2 r2
   exact⟨_,.cons q1 q2⟩
end
theorem z3n {O F:Addr->Prop} {pins:List (Addr×Obj)} {σ:L2.St} {H:Hp} {s:y04} (I:Inv X pins σ H s) {t:T} {v:V} {u:Value} (h:RepR X.K O F H t v) (r:RelV v u):∃as,Reads s.heap u t as:=by
 rcases h with h|⟨ts,a,vs,rfl,rfl,ha,h⟩
 ·exact zl9 I h r
 ·cases r
  obtain⟨z,its,n,rv,hl,e⟩:=Inv.lstR I (.inl ha)
  obtain⟨as,ra⟩:=zai I h rv
  exact⟨_,.list e rfl rfl (by simpa using ra)⟩
theorem zf8 {t:T} (h:okT t=true):t.canLay0=true/\t.depth<=60:=by
 simp only[okT,y1e,decide_eq_true_eq] at h
 exact h
theorem zsx {t:List T} (h:okL t=true):y1j t=true/\y1h t<=60:=by
 simp only[okL,y1e,decide_eq_true_eq] at h
 exact h
noncomputable def zqx (K:y00) (n:Bool):R2:=fun x y H Q=>∃(O F:Addr->Prop) (s t:T),RepR K O F H s x/\RepR K O F H t y/\okT s=true/\okT t=true/\Q (.bl (if n then !PyData.eqv s t else y28 s t)) H
theorem z1v (hu:X.A.units+64<cLine):OpR X (compareOp .Eq) (zqx X.K false):=by
 intro pins s σ H x y v u Q I rx ry ⟨O,F,d,t,h1,h2,o1,o2,q⟩
 obtain⟨as,ra⟩:=z3n I h1 rx
 obtain⟨bs,rb⟩:=z3n I h2 ry
 obtain⟨c1,l1⟩:=zf8 o1
 obtain⟨c2,l2⟩:=zf8 o2
 refine SeqAt.compareEq_reads ra rb c1 c2 (by have:=Nat.min_le_left d.depth t.depth;omega) ?_
 exact⟨.bl _,H,I,rfl,q⟩
theorem z6i (hu:X.A.units+64<cLine):OpR X (compareOp .NotEq) (zqx X.K true):=by
 intro pins s σ H x y v u Q I rx ry ⟨O,F,d,t,h1,h2,o1,o2,q⟩
 obtain⟨as,ra⟩:=z3n I h1 rx
 obtain⟨bs,rb⟩:=z3n I h2 ry
 obtain⟨c1,l1⟩:=zf8 o1
 obtain⟨c2,l2⟩:=zf8 o2
 refine SeqAt.compareNe_reads ra rb c1 c2 (by have:=Nat.min_le_left d.depth t.depth;omega) ?_
 exact⟨.bl _,H,I,rfl,q⟩
theorem zd0 {op:CmpOp} {R:R2} {o:T->T->Option T} (ho:OpR X (compareOp op) R) (h2:Op2 X.K o R) (ha:PEr X a f) (hb:PEr X b g) (hm:behindInMarks op b=false:=by first|exact zor _|rfl):PEv X (.Compare a [op] [b] pos) (op2 o f g):=z17 (zu5 ho ha hb hm) (z7b h2)
theorem z1a {op:CmpOp} {R:R2} {o:T->T->Option T} (ho:OpR X (compareOp op) R) (h2:Op2 X.K o R) (ha:PEr X a f) (hb:PEr X b g) (hm:behindInMarks op b=false:=by first|exact zor _|rfl):PTt X (.Compare a [op] [b] pos) (tstB (op2 o f g)) :=
 zc6 (zo9 ho ha hb hm) fun σ H Q ⟨F₀,H₀,O,F,ε,b,r,e,k⟩=>by
 simp only[tstB,y01] at e
 obtain⟨t,et,e⟩:=e
 split at e
 ·cases e
  refine z7b h2 σ H _ ⟨F₀,H₀,O,F,ε,_,r,et,fun v F' H' x q=>?_⟩
  simp only[Rep] at q
  exact⟨_,q,k F' H' x⟩
 ·cases e
theorem z1w:Op2 X.K oEq (zqx X.K false):=by
  intro O F H x y t vx vy Q d rx ry e k
  unfold oEq at e
  split at e
  next hz =>
   cases e
   rw[y1e] at hz
   exact⟨O,F,x,y,rx,ry,hz.1,hz.2,k _ F H (Ext.refl d) (by simp[Rep])⟩
  next=>cases e
theorem z6j:Op2 X.K oNe (zqx X.K true):=by
  intro O F H x y t vx vy Q d rx ry e k
  unfold oNe at e
  split at e
  next hz =>
   cases e
   rw[y1e] at hz
   exact⟨O,F,x,y,rx,ry,hz.1,hz.2,k _ F H (Ext.refl d) (by simp[Rep])⟩
  next=>cases e
noncomputable def rInT (K:y00) (n:Bool):R2:=fun x y H Q=>∃(O F:Addr->Prop) (s:T) (ts:List T),RepR K O F H s x/\(RepR K O F H (.tuple ts) y\/RepR K O F H (.list ts) y)/\okT s=true/\okL ts=true/\Q (.bl (if n then !hasT s ts else hasT s ts)) H
theorem zhm (hu:X.A.units+64<cLine):OpR X (compareOp .In) (rInT X.K false):=by
 intro pins s σ H x y v u Q I rx ry ⟨O,F,d,ts,h1,h2,o1,o2,q⟩
 obtain⟨as,ra⟩:=z3n I h1 rx
 obtain⟨c1,l1⟩:=zf8 o1
 obtain⟨c2,l2⟩:=zsx o2
 have hm:=Nat.min_le_left (y1h ts) d.depth
 rcases h2 with h2|h2
 ·obtain⟨bs,rb⟩:=z3n I h2 ry
  exact SeqAt.in_tuple_reads rb ra c2 c1 (by omega) ⟨.bl _,H,I,rfl,q⟩
 ·obtain⟨bs,rb⟩:=z3n I h2 ry
  exact SeqAt.in_list_reads rb ra c2 c1 (by omega) ⟨.bl _,H,I,rfl,q⟩
theorem z8f (hu:X.A.units+64<cLine):OpR X (compareOp .NotIn) (rInT X.K true):=by
 intro pins s σ H x y v u Q I rx ry ⟨O,F,d,ts,h1,h2,o1,o2,q⟩
 obtain⟨as,ra⟩:=z3n I h1 rx
 obtain⟨c1,l1⟩:=zf8 o1
 obtain⟨c2,l2⟩:=zsx o2
 have hm:=Nat.min_le_left (y1h ts) d.depth
 rcases h2 with h2|h2
 ·obtain⟨bs,rb⟩:=z3n I h2 ry
  exact SeqAt.notIn_tuple_reads rb ra c2 c1 (by omega) ⟨.bl _,H,I,rfl,q⟩
 ·obtain⟨bs,rb⟩:=z3n I h2 ry
  exact SeqAt.notIn_list_reads rb ra c2 c1 (by omega) ⟨.bl _,H,I,rfl,q⟩
theorem z9r {n:Bool}:Op2 X.K (oIn n) (rInT X.K n):=by
 intro O F H x y t vx vy Q d rx ry e k
 unfold oIn at e
 split at e
 ·split at e
  next hz =>
   cases e
   rw[y1e] at hz
   exact⟨O,F,x,_,rx,.inl ry,hz.1,hz.2,k _ F H (Ext.refl d) (by simp[Rep])⟩
  next=>cases e
 ·split at e
  next hz =>
   cases e
   rw[y1e] at hz
   exact⟨O,F,x,_,rx,.inr ry,hz.1,hz.2,k _ F H (Ext.refl d) (by simp[Rep])⟩
  next=>cases e
 ·cases e
theorem zho:Op2 X.K oLt (fun x y H Q=>rI0 (fun i j=>.bl (decide (i<j))) x y H Q\/∃i j,x=.str i/\y=.str j/\Q (.bl (decide (i.cps.toList<j.cps.toList))) H):=by
  intro O F H x y t vx vy Q d rx ry e k
  unfold oLt at e
  split at e
  ·cases e
   rw[rx.int,ry.int]
   exact .inl ⟨_,_,rfl,rfl,k _ F H (Ext.refl d) (by simp[Rep])⟩
  ·cases e
   rw[rx.str,ry.str]
   exact .inr ⟨_,_,rfl,rfl,k _ F H (Ext.refl d) (by simp[Rep,z6c])⟩
  ·cases e
theorem zd3:OpR X (compareOp .LtE) (fun x y H Q=>∃i j,x=.str i/\y=.str j/\Q (.bl (!z6c j i)) H):=by
 intro pins s σ H x y v u Q I rx ry ⟨i,j,e1,e2,q⟩
 subst e1 e2
 obtain⟨t,rfl⟩:=rx
 obtain⟨t',rfl⟩:=ry
 exact PySem.P.le_str (zlr I q (by simp[z6c]))
theorem zhn:OpR X (compareOp .GtE) (fun x y H Q=>∃i j,x=.str i/\y=.str j/\Q (.bl (!z6c i j)) H):=by
 intro pins s σ H x y v u Q I rx ry ⟨i,j,e1,e2,q⟩
 subst e1 e2
 obtain⟨t,rfl⟩:=rx
 obtain⟨t',rfl⟩:=ry
 exact PySem.P.ge_str (zlr I q (by simp[z6c]))
theorem z6y:OpR X (compareOp .Gt) (fun x y H Q=>∃i j,x=.str i/\y=.str j/\Q (.bl (z6c j i)) H):=by
 intro pins s σ H x y v u Q I rx ry ⟨i,j,e1,e2,q⟩
 subst e1 e2
 obtain⟨t,rfl⟩:=rx
 obtain⟨t',rfl⟩:=ry
 exact PySem.P.gt_str (zlr I q (by simp[z6c]))
theorem zol:Op2 X.K oLe (fun x y H Q=>rI0 (fun i j=>.bl (decide (i<=j))) x y H Q\/∃i j,x=.str i/\y=.str j/\Q (.bl (!z6c j i)) H):=by
 intro O F H x y t vx vy Q d rx ry e k
 unfold oLe at e
 split at e
 ·cases e
  rw[rx.int,ry.int]
  exact .inl ⟨_,_,rfl,rfl,k _ F H (Ext.refl d) (by simp[Rep])⟩
 ·cases e
  rw[rx.str,ry.str]
  exact .inr ⟨_,_,rfl,rfl,k _ F H (Ext.refl d) (by simp[Rep])⟩
 ·cases e
theorem zf6:Op2 X.K oGt (fun x y H Q=>rI0 (fun i j=>.bl (decide (j<i))) x y H Q\/∃i j,x=.str i/\y=.str j/\Q (.bl (z6c j i)) H):=by
 intro O F H x y t vx vy Q d rx ry e k
 unfold oGt at e
 split at e
 ·cases e
  rw[rx.int,ry.int]
  exact .inl ⟨_,_,rfl,rfl,k _ F H (Ext.refl d) (by simp[Rep])⟩
 ·cases e
  rw[rx.str,ry.str]
  exact .inr ⟨_,_,rfl,rfl,k _ F H (Ext.refl d) (by simp[Rep])⟩
 ·cases e
theorem zsv:Op2 X.K oGe (fun x y H Q=>rI0 (fun i j=>.bl (decide (j<=i))) x y H Q\/∃i j,x=.str i/\y=.str j/\Q (.bl (!z6c i j)) H):=by
 intro O F H x y t vx vy Q d rx ry e k
 unfold oGe at e
 split at e
 ·cases e
  rw[rx.int,ry.int]
  exact .inl ⟨_,_,rfl,rfl,k _ F H (Ext.refl d) (by simp[Rep])⟩
 ·cases e
  rw[rx.str,ry.str]
  exact .inr ⟨_,_,rfl,rfl,k _ F H (Ext.refl d) (by simp[Rep])⟩
 ·cases e
theorem zvt (ha:PEr X a f):PEv X (.UnaryOp .USub a pos) (op1 oNeg f):=z17 (zxv zvb ha) fun σ H Q ⟨F₀,H₀,O,F,ε,t,r,e,k⟩=>by
 simp only[op1,y01] at e
 obtain⟨x,ex,e⟩:=e
 unfold oNeg at e
 split at e
 ·cases e
  exact⟨F₀,H₀,O,F,ε,_,r,ex,fun v F1 H1 x1 rx=>⟨_,rx.int,k _ F1 H1 x1 (by simp[Rep])⟩⟩
 ·cases e
noncomputable def OpN (K:y00) (o:List T->Option T) (R:List V->Hp->VK->Prop):Prop :=
 ∀(O F:Addr->Prop) (H:Hp) (ts:List T) (t:T) (vs:List V) (Q:VK),Dom F H->Paired (RepR K O F H) ts vs->o ts=some t ->
  (∀v F' H',Ext F H F' H'->Rep K F' H' t v->Q v H')->R vs H Q
theorem zk0 {o:List T->Option T} {R:List V->Hp->VK->Prop} (hR:OpN X.K o R):∀σ H Q,tV X.K (opN o fs) σ H Q->tCB R (tAR X.K fs) σ H Q:=by
 rintro σ H Q ⟨F₀,H₀,O,F,ε,t,r,e,k⟩
 simp only[opN,y01] at e
 obtain⟨ts,et,eo⟩:=e
 exact⟨F₀,H₀,O,F,ε,ts,r,et,fun vs F1 H1 x1 q=>hR O F1 H1 ts t vs Q x1.dom q eo fun v F' H' x3 q3=>k v F' H' (x1.trans x3) q3⟩
theorem zqy (hm:X.mg "len"=none) (ha:PAr X (e::es) fs) (hg:Gl X "len":=by rfl) (he:y0a (e::es) X.env=(false,eval e X.env)::y0a es X.env:=by rfl) (hpl:(backTo pos (y0a es X.env)).any (·.1)=false:=by rfl) :
  PEv X (.Call (.Name "len" p) (e::es) [] pos) (opN oLen fs):=z17 (zgd (zir.or ziq) hg hm PySem.boot_len ha (he:=he) (hpl:=hpl)) (zk0 (by
 intro O F H ts t vs Q d q e k
 unfold oLen at e
 split at e
 ·cases e
  cases q with
  | cons q1 q2 =>
   cases q2
   obtain⟨a,ws,rfl,hs,hr⟩:=q1.tup
   exact .inl ⟨a,ws,rfl,.inr hs,k _ F H (Ext.refl d) (by simp[Rep,hr.length])⟩
 ·cases e
  cases q with
  | cons q1 q2 =>
   cases q2
   obtain⟨a,ws,rfl,hs,hr⟩:=q1.lst
   exact .inl ⟨a,ws,rfl,.inl (.inl hs),k _ F H (Ext.refl d) (by simp[Rep,hr.length])⟩
 ·split at e
  next hz =>
   cases e
   cases q with
   | cons q1 q2 =>
    cases q2
    exact .inr ⟨_,by rw[q1.str],by rw[z9c];exact hz,k _ F H (Ext.refl d) (by simp[Rep])⟩
  next=>cases e
 ·cases e))
theorem zxs (hm:X.mg "max"=none) (ha:PAr X (e::es) fs) (hc:X.calm=true:=by rfl) (hg:Gl X "max":=by rfl) (he:y0a (e::es) X.env=(false,eval e X.env)::y0a es X.env:=by rfl) (hpl:(backTo pos (y0a es X.env)).any (·.1)=false:=by rfl) :
  PEv X (.Call (.Name "max" p) (e::es) [] pos) (opN oMax fs):=z17 (zgd (zpw hc) hg hm (by decide +kernel) ha (he:=he) (hpl:=hpl)) (zk0 (by
 intro O F H ts t vs Q d q e k
 unfold oMax at e
 split at e
 ·cases e
  cases q with
  | cons q1 q2 =>
   cases q2 with
   | cons q2 q3 =>
    cases q3
    exact⟨_,_,by rw[q1.int,q2.int],k _ F H (Ext.refl d) (by simp[Rep])⟩
 ·cases e))
theorem z5z (hm:X.mg "tuple"=none) (ha:PAr X (e::es) fs) (hg:Gl X "tuple":=by rfl) (he:y0a (e::es) X.env=(false,eval e X.env)::y0a es X.env:=by rfl) (hpl:(backTo pos (y0a es X.env)).any (·.1)=false:=by rfl) :
  PEv X (.Call (.Name "tuple" p) (e::es) [] pos) (opN z30 fs):=z17 (zd2 zgt hg hm (by decide +kernel) ha (he:=he) (hpl:=hpl)) (zk0 (by
 intro O F H ts t vs Q d q e k
 unfold z30 at e
 split at e
 ·cases e
  cases q with
  | cons q1 q2 =>
   cases q2
   obtain⟨a,ws,rfl,hs,hr⟩:=q1.tup
   refine⟨a,ws,rfl,.inr ⟨hs,k _ F H (Ext.refl d) ?_⟩⟩
   simp only[Rep]
   exact⟨a,ws,rfl,hs,hr⟩
 ·cases e
  cases q with
  | cons q1 q2 =>
   cases q2
   obtain⟨a,ws,rfl,hs,hr⟩:=q1.lst
   refine⟨a,ws,rfl,.inl ⟨.inl hs,fun l hl=>?_⟩⟩
   have x1:=Ext.laid (o:=.tup ws) d hl
   refine k _ F _ x1 ?_
   simp only[Rep]
   exact⟨l,ws,rfl,SqT.of z0c,hr.ext x1⟩
 ·cases e))
theorem zsh (h:PEr X e f) (he:∀whole,isTrue e X.env whole=(do let v <- whole;standAt e.pos;holding [v] (truthy v)):=by intro _;rfl):PTt X e (tstB f):=zc6 (zw1 h he) fun σ H Q ⟨F₀,H₀,O,F,ε,b,r,e,k⟩=>by
 simp only[tstB,y01] at e
 obtain⟨t,et,e⟩:=e
 split at e
 ·cases e
  exact⟨F₀,H₀,O,F,ε,_,r,et,fun v F1 H1 x1 rx=>⟨_,rx.bl,k F1 H1 x1⟩⟩
 ·cases e
theorem zve {j pos'} (ha:PEr X a f):PTt X (.Compare a [.Is] [.Constant .none j pos'] pos) (tstB (op1 oIsN f)):=zc6 (zso (zwe ha)) fun σ H Q ⟨F₀,H₀,O,F,ε,t,r,e,k⟩=>by
 simp only[tstB,op1,oIsN,y01] at e
 obtain⟨_,⟨x,ex,e1⟩,e⟩:=e
 cases e1
 cases e
 refine⟨F₀,H₀,O,F,ε,x,r,ex,fun v F1 H1 x1 rx=>⟨_,?_,k F1 H1 x1⟩⟩
 cases x with
 | none=>rw[rx.non];simp
 | bool b=>rw[rx.bl];simp
 | int b=>rw[rx.int];simp
 | str b=>rw[rx.str];simp
 | tuple b=>obtain⟨_,_,e,_⟩:=rx.tup;rw[e];simp
 | list b=>obtain⟨_,_,e,_⟩:=rx.lst;rw[e];simp
 | dict b=>rcases rx with rx|⟨_,_,_,z,_⟩;simp[Rep] at rx;cases z
theorem zvd {j pos'} (ha:PEr X a f):PTt X (.Compare a [.IsNot] [.Constant .none j pos'] pos) (tstB (op1 z82 f)):=zc6 (zso (zu6 ha)) fun σ H Q ⟨F₀,H₀,O,F,ε,t,r,e,k⟩=>by
 simp only[tstB,op1,z82,y01] at e
 obtain⟨_,⟨x,ex,e1⟩,e⟩:=e
 cases e1
 cases e
 refine⟨F₀,H₀,O,F,ε,x,r,ex,fun v F1 H1 x1 rx=>⟨_,?_,k F1 H1 x1⟩⟩
 cases x with
 | none=>rw[rx.non];simp
 | bool b=>rw[rx.bl];simp
 | int b=>rw[rx.int];simp
 | str b=>rw[rx.str];simp
 | tuple b=>obtain⟨_,_,e,_⟩:=rx.tup;rw[e];simp
 | list b=>obtain⟨_,_,e,_⟩:=rx.lst;rw[e];simp
 | dict b=>rcases rx with rx|⟨_,_,_,z,_⟩;simp[Rep] at rx;cases z
theorem zsg (h:PEr X e f) (he:∀whole,isTrue e X.env whole=(do let v <- whole;standAt e.pos;holding [v] (truthy v)):=by intro _;rfl):PTt X e (tstL f):=zc6 (zr1 h he) fun σ H Q ⟨F₀,H₀,O,F,ε,b,r,e,k⟩=>by
 simp only[tstL,y01] at e
 obtain⟨t,et,e⟩:=e
 have emp:∀{ts:List T} {vs:List V} {F1:Addr->Prop} {H1:Hp},RepL X.K F1 H1 ts vs->ts.isEmpty=vs.isEmpty:=fun {ts vs F1 H1} q=>by
  have:=q.length
  cases ts <;> cases vs <;> simp_all
 split at e
 ·cases e
  refine⟨F₀,H₀,O,F,ε,_,r,et,fun v F1 H1 x1 rx=>?_⟩
  obtain⟨a,vs,rfl,hs,hr⟩:=rx.lst
  exact⟨_,.inl ⟨vs,.inl hs,by rw[emp hr]⟩,k F1 H1 x1⟩
 ·cases e
  refine⟨F₀,H₀,O,F,ε,_,r,et,fun v F1 H1 x1 rx=>?_⟩
  obtain⟨a,vs,rfl,hs,hr⟩:=rx.tup
  exact⟨_,.inr (.inl ⟨vs,hs,by rw[emp hr]⟩),k F1 H1 x1⟩
 ·cases e
theorem zx8 (h:PTt X e ft):PTt X (.UnaryOp .Not e pos) (notT ft):=zc6 (zw2 h) fun σ H Q ⟨F₀,H₀,O,F,ε,b,r,e,k⟩=>by
 simp only[notT,y07] at e
 obtain⟨c,ec,rfl⟩:=e
 exact⟨F₀,H₀,O,F,ε,c,r,ec,fun F1 H1 x1=>k F1 H1 x1⟩
theorem zkv (h:PTt X e ft):PWt X (.BoolOp .And [e] pos) ft:=ztt h
theorem zjg (h:PTt X e ft):PWt X (.BoolOp .Or [e] pos) ft:=zsn h
theorem zqd (h:PTt X a ft) (h2:PWt X (.BoolOp .And (b::es) pos) gt):PWt X (.BoolOp .And (a::b::es) pos) (andT ft gt):=zq7 (zvy h h2) fun σ H Q ⟨F₀,H₀,O,F,ε,b,r,e,k⟩=>by
 simp only[andT,y01] at e
 obtain⟨c,ec,e⟩:=e
 refine⟨F₀,H₀,O,F,ε,c,r,ec,fun F1 H1 x1=>?_⟩
 cases c with
 | true=>exact iteT ⟨F₀,H₀,O,F1,ε,b,r.ext x1,by simpa using e,fun F2 H2 x2=>k F2 H2 (x1.trans x2)⟩
 | false =>
  have:b=false:=by simpa using e.symm
  subst this
  exact iteF (k F1 H1 x1)
theorem w_or (h:PTt X a ft) (h2:PWt X (.BoolOp .Or (b::es) pos) gt):PWt X (.BoolOp .Or (a::b::es) pos) (orT ft gt):=zq7 (zvx h h2) fun σ H Q ⟨F₀,H₀,O,F,ε,b,r,e,k⟩=>by
 simp only[orT,y01] at e
 obtain⟨c,ec,e⟩:=e
 refine⟨F₀,H₀,O,F,ε,c,r,ec,fun F1 H1 x1=>?_⟩
 cases c with
 | true =>
  have:b=true:=by simpa using e.symm
  subst this
  exact iteT (k F1 H1 x1)
 | false=>exact iteF ⟨F₀,H₀,O,F1,ε,b,r.ext x1,by simpa using e,fun F2 H2 x2=>k F2 H2 (x1.trans x2)⟩
theorem w_t (h:PWt X e ft):PTt X e ft:=h.pt
end
end
section
variable [Tbl]
noncomputable def spT (K:y00) (n:Nat) (d:List T->Option T):Sp:=fun vs H Q _=>vs.length=n/\∃F ts t,Dom F H/\RepL K F H ts vs/\d ts=some t/\∀v F' H',Ext F H F' H'->Rep K F' H' t v->Q v H'
section
variable {X:Cx} {k n:Nat} {fa:Addr} {fd:y0b} {ps:List Str} {d:List T->Option T} {x:Str} {p pos:Pos} {e:Expr} {es:List Expr} {fs:List Fe}
theorem zvw (F:FnOk X.prog X.w X.K X.mg X.base CX0 k fa fd ps (spT X.K n d)) (hr:Room k X.A) (hg:Gl X x) (hm:X.mg x=some (.ref fa)) (hk:y08 X.K (.ref fa)=true) (hb:z0p X.K fd ps [])
  (ha:PAv X (e::es) fs) (hn:fs.length=n:=by rfl) (hdb:(x == ("__debug__":Str))=false:=by decide) (he:y0a (e::es) X.env=(false,eval e X.env)::y0a es X.env:=by rfl) (hpl:(backTo pos (y0a es X.env)).any (·.1)=false:=by rfl) :
  PEv X (.Call (.Name x p) (e::es) [] pos) (opN d fs):=z17 (zjz F hr hg hm hk hb .nil zge ha hdb he hpl) fun σ H Q ⟨F₀,H₀,O,F,ε,t,r,e,k⟩=>by
 simp only[opN,y01] at e
 obtain⟨ts,et,ed⟩:=e
 have hl:∀(gs:List Fe) (us:List T),args gs ε=some us->us.length=gs.length:=by
  intro gs
  induction gs with
  | nil=>intro us e;cases e;rfl
  | cons g gs ih =>
   intro us e
   simp only[args,y01,y07] at e
   obtain⟨t,_,vs,ev,rfl⟩:=e
   simp[ih vs ev]
 refine⟨F₀,H₀,O,F,ε,ts,r,et,fun vs F1 H1 x1 q=>⟨?_,F1,ts,t,x1.dom,by simpa using q,ed,fun v F' H' x2 q2=>k v F' H' (x1.trans x2) q2⟩⟩
 rw[y26,<- q.length,hl fs ts et,hn]
end
section
variable {P:y0r} {w:World} {K:y00} {mg:Str->Option Value} {base:Heap}
theorem zb9 {F:Addr->Prop} {H:Hp} {ts:List T} {vs:List V} {N:List Str} (dom:Dom F H) (q:RepL K F H ts vs) (n:Nat) :
  RelE K F ⟨H,0⟩ (fun a=>H a=none) F H ((ts.map fun t=>some (.imm t))++y0h n none) (vs.map some++y0h n none):=by
 have imm:∀(i:Nat) (s:Sl),((ts.map fun t=>some (Sl.imm t))++y0h n none)[i]?=some (some s)->∃t,s=.imm t/\ts[i]?=some t:=by
  intro i s e
  by_cases hi:i<ts.length
  ·rw[y1s (by simpa using hi),y17] at e
   rw[y0w hi] at e ⊢
   simp at e
   exact⟨_,e.symm,rfl⟩
  ·rw[y1p (by simpa using hi),List.getElem?_replicate] at e
   split at e <;> cases e
 refine⟨by simp[q.length],fun i s e=>?_,fun i j s u v w hij e1 e2 o1=>?_,Ext.refl dom,fun _ h=>h,fun _ h=>h⟩
 ·obtain⟨t,rfl,ht⟩:=imm i s e
  obtain⟨v,hv,rv⟩:=q.get ht
  refine⟨v,?_,rv⟩
  rw[y1s (by have:=(y0l.mp hv).1;simpa using this),y17,hv]
  rfl
 ·obtain⟨t,rfl,_⟩:=imm i s e1
  cases o1
theorem zt7 {x qual:Str} {st:Stmt} {f:Addr} {fd:y0b} {N ps:List Str} {k:Nat} {b:Fs} (F:Fun K x qual st f fd) (S:FnScope N ps (z01 st))
  (hb:∀(cdv:Value) (A:Around) (outer:List Env) (s:y04) (H:Hp) (E:XK),Room k (A.deeper (envOfC qual (z01 st) s.heap.objs.size f cdv)) ->
   PBt (cxOf CX0 P w K mg base N qual (z01 st) f cdv A outer s H E).nox (z06 st) b) :
  FnOk P w K mg base CX0 (k+1) f fd ps (spT K ps.length (runF b N.length)):=by
 refine F.ok S (fun vs H Q E h=>h.1) fun cdv A outer s H vs Q E hr h=>⟨_,hb cdv A outer s H E hr,?_⟩
 obtain⟨hl,F,ts,t,dom,q,e,kq⟩:=h
 simp only[runF,y01] at e
 obtain⟨o,eo,e⟩:=e
 refine⟨F,⟨H,0⟩,fun a=>H a=none,F,_,o,?_,eo,?_⟩
 ·have:=zb9 (N:=N) dom q (N.length - ts.length)
  unfold L2.start
  rw[q.length] at this ⊢
  exact this
 ·cases o with
  | rt t' =>
   cases e
   exact fun v F' H' x q=>kq v F' H' x q
  | nx ε' =>
   cases e
   exact fun σ' F' H' _ r=>kq _ F' H' r.ent (by simp[Rep])
  | bk _=>cases e
  | ct _=>cases e
  | rtm _ _=>cases e
  | rto _=>cases e
end
end
section
variable [Tbl]
noncomputable def clos (env:Env):List (Str×NameKind)->List (Str×Addr)->List (Str×Addr)
 | [],cs=>cs
 | x::r,cs=>if x.2 == .free then clos env r ((x.1,(env.cells.lookup x.1).getD 0)::cs) else clos env r cs
theorem zas {scope:Scope} {env:Env} (h:∀x∈scope.names,x.2=.free->∃c,env.cells.lookup x.1=some c):closureFor scope env=pure (clos env scope.names []):=by
 have go:∀(l:List (Str×NameKind)) (cs:List (Str×Addr)),(∀x∈l,x.2=.free->∃c,env.cells.lookup x.1=some c) ->
   (forIn l cs (fun x r=>(if (x.2 == NameKind.free)=true then do let a <- cellOf env x.1;pure (ForInStep.yield ((x.1,a)::r)) else pure (ForInStep.yield r)):_->_->Sem (ForInStep (List (Str×Addr)))):Sem (List (Str×Addr)))=pure (clos env l cs):=by
  intro l
  induction l with
  | nil=>intro cs _;rfl
  | cons x r ih =>
   intro cs hl
   rw[List.forIn_cons]
   have hr:=fun y hy=>hl y (y05 _ hy)
   by_cases k:x.2=.free
   ·obtain⟨c,hc⟩:=hl x y0f k
    have e1:(x.2 == NameKind.free)=true:=by simp[k]
    simp only[e1,if_true,cellOf,hc,clos,Option.getD_some]
    exact ih _ hr
   ·have e1:(x.2 == NameKind.free)=false:=by simpa using k
    simp only[e1,y20,if_false,clos]
    exact ih _ hr
 have:=go scope.names [] h
 simp only[closureFor]
 exact congrArg (fun m=>m >>= fun cs=>pure cs) this
theorem z8r {env:Env}:∀{l:List (Str×NameKind)} {cs:List (Str×Addr)},(∀x∈l,x.2=.free->∃c,env.cells.lookup x.1=some c)->(∀x c,cs.lookup x=some c->env.cells.lookup x=some c)->∀x c,(clos env l cs).lookup x=some c->env.cells.lookup x=some c
 | [],cs,_,h,x,c,e=>h x c e
 | y::r,cs,hl,h,x,c,e=>by
  unfold clos at e
  have hr:=fun z hz=>hl z (y05 _ hz)
  split at e
  next k =>
   refine z8r hr (fun x c e=>?_) x c e
   rw[y1i] at e
   split at e
   next hb =>
    obtain⟨c',hc⟩:=hl y y0f (by simpa using k)
    have:x=y.1:=by simpa using hb
    subst this
    rw[hc] at e ⊢
    simpa using e
   next=>exact h x c e
  next=>exact z8r hr h x c e
theorem z94 {env:Env}:∀{l:List (Str×NameKind)} {cs:List (Str×Addr)} {x:Str},((∃y∈l,y.2=.free/\y.1=x)\/∃c,cs.lookup x=some c)->∃c,(clos env l cs).lookup x=some c
 | [],cs,x,h=>by
  rcases h with ⟨y,hy,_⟩|h
  ·cases hy
  ·exact h
 | y::r,cs,x,h=>by
  unfold clos
  split
  next k =>
   refine z94 ?_
   rcases h with ⟨z,hz,k',e⟩|⟨c,h⟩
   ·rcases y09.mp hz with rfl|hz
    ·refine .inr ?_
     subst e
     rw[y1i]
     simp
    ·exact .inl ⟨z,hz,k',e⟩
   ·refine .inr ?_
    rw[y1i]
    split
    ·exact⟨_,rfl⟩
    ·exact⟨c,h⟩
  next k =>
   refine z94 ?_
   rcases h with ⟨z,hz,k',e⟩|h
   ·rcases y09.mp hz with rfl|hz
    ·exact absurd (by simpa using k') k
    ·exact .inl ⟨z,hz,k',e⟩
   ·exact .inr h
noncomputable def z4g (X:Cx) (N':List Str) (scope:Scope) (cl:List (Str×Addr)) (C:Addr) (s₀:y04) (H₀:Hp) (fp:List Addr) (pn:List (Addr×Obj)):Cx where
 prog:=X.prog
 w:=X.w
 K:=X.K
 mg:=X.mg
 base:=X.base
 A:=X.A
 N:=N'
 s₀:=s₀
 H₀:=H₀
 env:=compEnvC scope cl C X.env
 outer:=X.stack
 stack:=X.stack
 ex:=fp
 fn:=fun _=>false
 calm:=X.calm
 pn:=pn
 xe:=fun _ _=>False
noncomputable def PTs (X:Cx) (ifs:List Expr) (cc:Ft):Prop:=∀(pins:List (Addr×Obj)) (s:y04) (σ:L2.St) (H:Hp) (Q:Bool->Hp->Prop),L2.Inv X pins σ H s->tT X.K cc σ H Q ->
 y0v (model X.prog X.w) X.A (forIn ifs true fun c r=>if r=true then do let ok <- isTrue c X.env (eval c X.env);pure (ForInStep.yield ok) else pure (ForInStep.yield r)) (TP X pins σ Q) X.xe s
theorem zer {X:Cx}:PTs X [] (cstT true):=fun pins s σ H Q I ⟨F₀,H₀,O,F,ε,b,r,e,k⟩=>by
 cases e
 exact wpAny_tests_nil ⟨H,I,k F H (Ext.refl r.dom)⟩
theorem zh2 {X:Cx} {c:Expr} {cc:Ft} (h:PTt X c cc):PTs X [c] cc:=fun pins s σ H Q I q=>wpAny_tests_one (h pins s σ H Q I q)
section
variable {prog:y0r} {w:World} {A:Around} {R:Result->y04->Prop} {s:y04}
theorem zij {elt target iter:Expr} {ifs:List Expr} {scope:Scope} {pos:Pos} {it acc:Value} {env:Env} (I:Nat->y04->Prop)
  (turn:∀n s,I n s->y0v (model prog w) A (pyNext it) (fun r s₁=>match r with
   | none=>R (.ok .next) s₁
   | some v=>y0v (model prog w) A (letOwnedTupleGo target it v) (fun _ s₁'=>y0v (model prog w) A (assign target env v) (fun _ s₂ =>
     y0v (model prog w) A (forIn ifs true fun c r=>if r=true then do let ok <- isTrue c env (eval c env);pure (ForInStep.yield ok) else pure (ForInStep.yield r)) (fun ok s₃ =>
      if ok=true then y0v (model prog w) A (eval elt env) (fun x s₄ =>
       y0v (model prog w) A (call (.builtin "list.append") [acc,x]) (fun _ s₅=>∃m,m<n/\I m s₅) (fun _ _=>False) s₄) (fun _ _=>False) s₃
      else ∃m,m<n/\I m s₃) (fun _ _=>False) s₂) (fun _ _=>False) s₁') (fun _ _=>False) s₁) (fun _ _=>False) s)
  (n:Nat) (h:I n s):codeAny (model prog w) A (.compLoop (.ListComp elt [⟨target,iter,ifs,0⟩] scope pos) 0 it acc env) R s:=by
 refine codeAny_loop rfl I (fun n s hI=>?_) n h
 show y0v _ A ((compTurn (.ListComp elt [⟨target,iter,ifs,0⟩] scope pos) 0 it acc env).onRaise (fun x=>do noteFrame x env;theTreesLotGoes x)) _ _ s
 refine wpAny_noted ?_
 rw[compTurn_list]
 refine y02 (wpAny_standAt (y02 (y1g (turn n s hI) (fun r s₁ h₁=>?_) fun _ _ h'=>h'.elim)))
 cases r with
 | none=>exact y06 h₁
 | some v =>
  refine y02 (y1g h₁ (fun _ s₁' h₁'=>?_) fun _ _ h'=>h'.elim)
  refine y02 (y1g h₁' (fun _ s₂ h₂=>y02 (y1g h₂ (fun ok s₃ h₃=>?_) fun _ _ h'=>h'.elim)) fun _ _ h'=>h'.elim)
  cases ok with
  | false=>exact y06 ⟨rfl,h₃⟩
  | true =>
   exact y02 (y02 (y1g h₃ (fun x s₄ h₄=>y02 (y1g h₄ (fun _ s₅ h₅=>y06 (y06 ⟨rfl,h₅⟩)) fun _ _ h'=>h'.elim)) fun _ _ h'=>h'.elim))
end
end
section
variable [Tbl]
theorem z9t {env:Env} {k:NameKind}:∀{names:List (Str×NameKind)} {x:Str},names.lookup x=some k->∃k',(names.map fun (n,k)=>if (k == NameKind.free && env.scope.kind == .function && env.kindOf n == some .cell) then (n,NameKind.cell) else (n,k)).lookup x=some k'/\(k'=k\/(k=.free/\k'=.cell))
  | [],x,h=>by simp at h
  | (n,j)::r,x,h=>by
    have ih:=@z9t env k r x
    show ∃k',y1n x ((if (j == NameKind.free && env.scope.kind == .function && env.kindOf n == some .cell)=true then (n,NameKind.cell) else (n,j))::_)=some k'/\_
    cases hx:x == n with
    | true =>
      simp only[y1i,hx] at h
      cases h
      by_cases hc:(k == NameKind.free && env.scope.kind == .function && env.kindOf n == some .cell)=true
      · rw[if_pos hc]
        refine⟨.cell,by simp[y1i,hx],.inr ⟨?_,rfl⟩⟩
        simp only[y1e] at hc
        simpa using hc.1.1
      · rw[if_neg hc]
        exact⟨k,by simp[y1i,hx],.inl rfl⟩
    | false =>
      simp only[y1i,hx] at h
      obtain⟨k',h1,h2⟩:=ih h
      refine⟨k',?_,h2⟩
      by_cases hc:(j == NameKind.free && env.scope.kind == .function && env.kindOf n == some .cell)=true
      · rw[if_pos hc];simp only[y1i,hx];exact h1
      · rw[if_neg hc];simp only[y1i,hx];exact h1
theorem z4s {names:List (Str×NameKind)} {x:Str} {k:NameKind} (h:names.lookup x=some k):∃y∈names,y.2=k/\y.1=x:=by
 induction names with
 | nil=>simp at h
 | cons y r ih =>
  rw[y1i] at h
  split at h
  next hb =>
   cases h
   exact⟨y,y0f,rfl,by simpa using (beq_iff_eq.mp hb).symm⟩
  next =>
   obtain⟨z,hz,h1,h2⟩:=ih h
   exact⟨z,y05 _ hz,h1,h2⟩
theorem zhg {scope:Scope} {env:Env} (hcell:∀y∈scope.names,y.2≠.cell) {x:Str} (h:(relabel scope env).names.lookup x=some .cell\/(relabel scope env).names.lookup x=some .free):∃y∈scope.names,y.2=.free/\y.1=x:=by
 have go:∀{k:NameKind},(relabel scope env).names.lookup x=some k->(k=.cell\/k=.free)->∃y∈scope.names,y.2=.free/\y.1=x:=fun {k} e hk=>by
  obtain⟨y,hy,h1,h2⟩:=z4s e
  obtain⟨⟨n,j⟩,hz,e2⟩:=y0n.mp (show y∈scope.names.map _ from hy)
  by_cases hc:(j == NameKind.free && env.scope.kind == .function && env.kindOf n == some .cell)=true
  ·have e3:(n,NameKind.cell)=y:=by
    have e4:(if (j == NameKind.free && env.scope.kind == .function && env.kindOf n == some .cell)=true then (n,NameKind.cell) else (n,j))=y:=e2
    rwa [if_pos hc] at e4
   subst e3
   simp only[y1e] at hc
   exact⟨(n,j),hz,by simpa using hc.1.1,h2⟩
  ·have e3:(n,j)=y:=by
    have e4:(if (j == NameKind.free && env.scope.kind == .function && env.kindOf n == some .cell)=true then (n,NameKind.cell) else (n,j))=y:=e2
    rwa [if_neg hc] at e4
   subst e3
   rcases hk with rfl|rfl
   ·exact absurd h1 (hcell _ hz)
   ·exact⟨(n,j),hz,h1,h2⟩
 rcases h with h|h
 ·exact go h (.inl rfl)
 ·exact go h (.inr rfl)
theorem RelE.other {K:y00} {F₀ O F:Addr->Prop} {E:En} {H:Hp} {ε:Ev} {σ:L2.St} {a:Addr} {xs ys:List V} (r:RelE K F₀ E O F H ε σ) (hn:¬F a) (ho:¬O a) (h0:E.h a=none) (ha:H a=some (.lst xs)) :
  Kp K F H F (upd H a (.lst ys))/\RelE K F₀ E O F (upd H a (.lst ys)) ε σ:=by
 have hm:HoM (.lst xs):=.inl ⟨_,rfl⟩
 have kp:Kp K F H F (upd H a (.lst ys)):=zp0 hn ha hm
 have keep:∀(u:Sl) (w:V),z2m K E O F H u w->z2m K E O F (upd H a (.lst ys)) u w/\fpS (upd H a (.lst ys)) u w=fpS H u w:=by
  intro u w ru
  refine ru.keep kp (fun b hb=>z0d ?_) (fun _ _ f=>f) fun _ _ o=>o
  rintro rfl
  cases ou:u.isOwn with
  | true=>exact ho ((ru.held hb).2.1 ou)
  | false=>exact (ru.held hb).2.2 ou h0
 refine⟨kp,⟨r.len,fun j u e=>?_,fun i j s u v w hij e1 e2 o1 o2 h1 h2=>?_,zls r.ent h0 hn ha hm,r.o0,fun b e=>r.fr b ?_⟩⟩
 ·obtain⟨v,h1,h2⟩:=r.val j u e
  exact⟨v,h1,(keep u v h2).1⟩
 ·obtain⟨v',h1',r1⟩:=r.val i s e1
  obtain⟨w',h2',r2⟩:=r.val j u e2
  rw[h1] at h1'
  rw[h2] at h2'
  cases h1'
  cases h2'
  rw[(keep s v r1).2,(keep u w r2).2]
  exact r.ne i j s u v w hij e1 e2 o1 o2 h1 h2
 ·by_cases nb:b=a
  ·subst nb
   rw[z0c] at e
   cases e
  ·rwa [z0d nb] at e
def zrw (n:Nat) (caps:List Nat) (σ:L2.St):L2.St:=y0h n none++caps.map fun i=>(σ[i]?).join
theorem join_some {α:Type} {o:Option (Option α)} {x:α} (h:o.join=some x):o=some (some x):=by
 cases o with
 | none=>cases h
 | some o=>exact congrArg some h
theorem zbk {α:Type} {n:Nat} {caps:List Nat} {l:List (Option α)} {i:Nat} {x:α} (h:(y0h n none++caps.map fun i=>(l[i]?).join)[i]?=some (some x)):∃j,n<=i/\caps[i - n]?=some j/\l[j]?=some (some x):=by
 by_cases hi:i<n
 ·rw[y1s (by simpa using hi),List.getElem?_replicate] at h
  rw[if_pos hi] at h
  cases h
 ·rw[y1p (by simpa using hi),List.length_replicate,y17] at h
  cases e:caps[i - n]? with
  | none =>
   rw[e] at h
   cases h
  | some j =>
   rw[e] at h
   exact⟨j,by omega,rfl,join_some (y2n h)⟩
theorem zuq {α:Type} {n:Nat} {caps:List Nat} {l:List (Option α)} {i j:Nat} {x:α} (hi:n<=i) (hc:caps[i - n]?=some j) (h:l[j]?=some (some x)):(y0h n none++caps.map fun i=>(l[i]?).join)[i]?=some (some x):=by
 rw[y1p (by simpa using hi),List.length_replicate,y17,hc]
 simp[h]
theorem RelE.cap {K:y00} {F₀ O F:Addr->Prop} {E:En} {H:Hp} {ε:Ev} {σ:L2.St} {D:Addr} (r:RelE K F₀ E O F H ε σ) (n:Nat) {caps:List Nat} (nd:caps.Nodup) (hD:H D=none) :
  RelE K F₀ E (fun a=>O a/\a≠D) F (upd H D (.lst [])) (z59 n caps ε) (zrw n caps σ):=by
 have x:=Ext.laid (o:=.lst []) r.dom hD
 have keep:∀(u:Sl) (w:V),z2m K E O F H u w->z2m K E (fun a=>O a/\a≠D) F (upd H D (.lst [])) u w/\fpS (upd H D (.lst [])) u w=fpS H u w:=by
  intro u w ru
  have nb:∀b∈fpS H u w,b≠D:=fun b hb z=>by
   obtain⟨o,e,_⟩:=ru.at hb
   rw[z,hD] at e
   cases e
  exact ru.keep x.kp (fun b hb=>z0d (nb b hb)) (fun _ _ f=>f) fun b hb o=>⟨o,nb b hb⟩
 refine⟨by simp[z59,zrw],fun i s e=>?_,fun i j s u v w hij e1 e2 o1 o2 h1 h2=>?_,r.ent.trans x,fun a h=>r.o0 a h.1,fun a h=>?_⟩
 ·obtain⟨j,hn,hc,e'⟩:=zbk e
  obtain⟨v,h1,h2⟩:=r.val j s e'
  exact⟨v,zuq hn hc h1,(keep s v h2).1⟩
 ·obtain⟨i',hi,ci,e1'⟩:=zbk e1
  obtain⟨j',hj,cj,e2'⟩:=zbk e2
  obtain⟨i2,_,ci2,h1'⟩:=zbk (l:=σ) h1
  obtain⟨j2,_,cj2,h2'⟩:=zbk (l:=σ) h2
  rw[ci] at ci2
  rw[cj] at cj2
  cases ci2
  cases cj2
  obtain⟨v',q1,r1⟩:=r.val i' s e1'
  obtain⟨w',q2,r2⟩:=r.val j' u e2'
  rw[h1'] at q1
  rw[h2'] at q2
  cases q1
  cases q2
  rw[(keep s v r1).2,(keep u w r2).2]
  refine r.ne i' j' s u v w (fun z=>?_) e1' e2' o1 o2 h1' h2'
  subst z
  obtain⟨l1,m1⟩:=y0l.mp ci
  obtain⟨l2,m2⟩:=y0l.mp cj
  have ne:i - n≠j - n:=by omega
  rcases Nat.lt_or_gt_of_ne ne with q|q
  ·exact (List.pairwise_iff_getElem.mp nd _ _ l1 l2 q) (m1.trans m2.symm)
  ·exact (List.pairwise_iff_getElem.mp nd _ _ l2 l1 q) (m2.trans m1.symm)
 ·have nd:a≠D:=by
   rintro rfl
   rw[z0c] at h
   cases h
  rw[z0d nd] at h
  exact⟨r.fr a h,nd⟩
end
section
variable [Tbl]
structure CompOk (X:Cx) (scope:Scope) (own:List Str) (caps:List (Nat×Str)):Prop where
 kind:scope.kind=.function
 names:∀y∈scope.names,y.2=.local->scope.names.lookup y.1=some .local
 cell:∀y∈scope.names,y.2≠.cell
 free:∀y∈scope.names,y.2=.free->X.env.kindOf y.1=some .cell\/X.env.kindOf y.1=some .free
 cap:∀p∈caps,X.N[p.1]?=some p.2/\scope.names.lookup p.2=some .free
 nd:(caps.map (·.1)).Nodup
 calm:X.calm=true
section
variable {X:Cx} {tg iter elt:Expr} {ifs:List Expr} {scope:Scope} {it:Fi} {gg:Fg} {cc:Ft} {ee:Fe} {pos:Pos} {own:List Str} {caps:List (Nat×Str)}
theorem zpq {pins:List (Addr×Obj)} {σ:L2.St} {H2:Hp} {s2:y04} {fp:List Addr} (S:CompOk X scope own caps) (I2:L2.Inv X pins σ H2 s2) (f2:∀b∈fp,FpOk X pins H2 b) (hfp:∀b∈fp,b<s2.heap.objs.size) (N':List Str) :
  (z4g X N' scope (clos X.env scope.names []) (s2.heap.push { cls:=.type "list",data:=.seq ([]:List Value).toArray }).objs.size { s2 with heap:=s2.heap.push { cls:=.type "list",data:=.seq ([]:List Value).toArray } } (upd H2 s2.heap.objs.size (.lst [])) fp (X.pn++pins)).Ok:=by
 have hcl:∀x∈scope.names,x.2=.free->∃c,X.env.cells.lookup x.1=some c:=fun x hx hk=>I2.ok.has x.1 (S.free x hx hk)
 have cf:∀x c,(clos X.env scope.names []).lookup x=some c->X.env.cells.lookup x=some c:=z8r hcl (fun x c e=>by simp at e)
 have I3:=I2.lnew (its:=[]) (ys:=[]) (t':=s2.toks) .nil (y2c _)
 have sz:(s2.heap.push { cls:=.type "list",data:=.seq ([]:List Value).toArray }).objs.size=s2.heap.objs.size+1:=y1a ..
 refine⟨I2.ok.mod,S.kind,I2.ok.glob,I2.ok.blt,y0p _,fun x y c e1 e2=>I2.ok.inj x y c (cf x c e1) (cf y c e2),fun x hx=>?_,fun x c h=>(by cases h),I2.ok.hd,I2.ok.frames,.inl rfl,fun b hb=>⟨?_,fun x c e=>(f2 b hb).2.2.2.2.1 x c (cf x c e)⟩,fun b o e=>?_,?_,fun b o e hb=>?_,fun b hb hf=>?_,I3.stack,I3.stkFree⟩
 ·exact z94 (.inl (zhg S.cell hx))
 ·show b≠(s2.heap.push { cls:=.type "list",data:=.seq ([]:List Value).toArray }).objs.size
  have h:=hfp b hb
  rw[sz]
  exact y10 (Nat.lt_succ_of_lt h)
 ·obtain⟨h1,h2⟩:=I3.bs b o e
  exact⟨h1,h2⟩
 ·have h1:=y1u I2.ok.bsz I2.sz
  show X.base.objs.size<=(s2.heap.push { cls:=.type "list",data:=.seq ([]:List Value).toArray }).objs.size
  omega
 ·rcases (f2 b hb).2.2.2.1 with q|q
  ·exact I2.ok.noex b o e q
  ·exact absurd (y0y (y0c (I2.ok.bs b o e).1) q) (Nat.lt_irrefl _)
 ·rcases y09.mp (I2.stkSub b hf) with q|q
  ·exact (f2 b hb).2.1 q
  ·exact (f2 b hb).2.2.1 q
theorem zrv {pins:List (Addr×Obj)} {σ:L2.St} {H2:Hp} {s2:y04} {fp:List Addr} (S:CompOk X scope own caps) (I2:L2.Inv X pins σ H2 s2) (f2:∀b∈fp,FpOk X pins H2 b) (hfp:∀b∈fp,b<s2.heap.objs.size) {h₁:Heap} {m:Str->Option Value} {tk:Nat}
  (hns:h₁.Ns (s2.heap.push { cls:=.type "list",data:=.seq ([]:List Value).toArray }).objs.size m) (keep:∀b u,(s2.heap.push { cls:=.type "list",data:=.seq ([]:List Value).toArray }).get? b=some u->h₁.get? b=some u) :
  L2.Inv (z4g X (own++caps.map (·.2)) scope (clos X.env scope.names []) (s2.heap.push { cls:=.type "list",data:=.seq ([]:List Value).toArray }).objs.size { s2 with heap:=s2.heap.push { cls:=.type "list",data:=.seq ([]:List Value).toArray } } (upd H2 s2.heap.objs.size (.lst [])) fp (X.pn++pins)) []
   (zrw own.length (caps.map (·.1)) σ) (upd H2 s2.heap.objs.size (.lst [])) { s2 with heap:=h₁,toks:=tk }:=by
 have hcl:∀x∈scope.names,x.2=.free->∃c,X.env.cells.lookup x.1=some c:=fun x hx hk=>I2.ok.has x.1 (S.free x hx hk)
 have cf:∀x c,(clos X.env scope.names []).lookup x=some c->X.env.cells.lookup x=some c:=z8r hcl (fun x c e=>by simp at e)
 have I3:=I2.lnew (its:=[]) (ys:=[]) (t':=s2.toks) .nil (y2c _)
 refine⟨zpq S I2 f2 hfp _,rfl,I2.bare,Un.kept keep,⟨m,hns,fun i x v h1 h2 hv=>?_⟩,fun x c e=>?_,?_,fun x c e=>I3.freeC x c (cf x c e),fun p hp=>?_,I3.hok.kept keep,by simp[zrw,z4g]⟩
 ·obtain⟨j,hn,hc,hj⟩:=zbk (l:=σ) h2
  have hx:(caps.map (·.2))[i - own.length]?=some x:=by
   have:(own++caps.map (·.2))[i]?=some x:=h1
   rwa [y1p hn] at this
  rw[y17] at hc hx
  cases ep:caps[i - own.length]? with
  | none=>rw[ep] at hc;cases hc
  | some p =>
   rw[ep] at hc hx
   cases hc
   cases hx
   obtain⟨hN,hf⟩:=S.cap p (y21 ep)
   obtain⟨y,hy,k1,k2⟩:=z4s hf
   have hk:=S.free y hy k1
   rw[k2] at hk
   obtain⟨m3,hn3,hl3⟩:=I3.loc
   have vis:Vis X.env.scope p.2:=by
    rcases hk with hk|hk
    ·exact .inr (.inl hk)
    ·exact .inr (.inr hk)
   obtain⟨u,ru,lu⟩:=hl3 p.1 p.2 v hN hj vis
   refine⟨u,ru,.inr ⟨?_,?_⟩⟩
   ·obtain⟨k',e1,e2⟩:=z9t (env:=X.env) hf
    rcases e2 with rfl|⟨_,rfl⟩
    ·exact .inr e1
    ·exact .inl e1
   ·rcases lu with ⟨q,_⟩|⟨_,c,hc,hcell⟩
    ·rcases hk with hk|hk
     ·rw[hk] at q;cases q
     ·rw[hk] at q;cases q
    ·obtain⟨c',hc'⟩:=z94 (env:=X.env) (l:=scope.names) (cs:=[]) (x:=p.2) (.inl ⟨y,hy,k1,k2⟩)
     have:=cf _ _ hc'
     rw[hc] at this
     cases this
     obtain⟨oc,ho,hd⟩:=hcell
     exact⟨c,hc',oc,keep _ _ ho,hd⟩
 ·obtain⟨v,oc,ho,hd⟩:=I3.cell x c (cf x c e)
  exact⟨v,oc,keep _ _ ho,hd⟩
 ·exact I3.hok.fresh (y0p _)
 ·have hp':p∈X.pn++pins:=by simpa [z4g] using hp
  obtain⟨h1,h2,h3,h4,h5⟩:=I3.pin p hp'
  refine⟨keep _ _ h1,h2,y10 (y0c h1),fun z=>?_,h5⟩
  rcases y09.mp (I2.stkSub p.1 z) with q|q
  ·exact h3 q
  ·exact h4 q
theorem zmz {pins:List (Addr×Obj)} {σ σ':L2.St} {H2 H':Hp} {s2 s':y04} {fp:List Addr} {N':List Str} (I2:L2.Inv X pins σ H2 s2) (f2:∀b∈fp,FpOk X pins H2 b)
  (J:L2.Inv (z4g X N' scope (clos X.env scope.names []) (s2.heap.push { cls:=.type "list",data:=.seq ([]:List Value).toArray }).objs.size { s2 with heap:=s2.heap.push { cls:=.type "list",data:=.seq ([]:List Value).toArray } } (upd H2 s2.heap.objs.size (.lst [])) fp (X.pn++pins)) [] σ' H' s')
  {h':Heap} (sb:Heap.SameBut (s2.heap.push { cls:=.type "list",data:=.seq ([]:List Value).toArray }).objs.size s'.heap h'):L2.Inv X pins σ H' { s' with heap:=h' }:=by
 have I3:=I2.lnew (its:=[]) (ys:=[]) (t':=s2.toks) .nil (y2c _)
 have u:=J.base
 have free:H' (s2.heap.push { cls:=.type "list",data:=.seq ([]:List Value).toArray }).objs.size=none:=J.free
 have old:∀b o,(s2.heap.push { cls:=.type "list",data:=.seq ([]:List Value).toArray }).get? b=some o->b≠(s2.heap.push { cls:=.type "list",data:=.seq ([]:List Value).toArray }).objs.size:=fun b o e=>y10 (y0c e)
 have eqh:∀b,b≠(s2.heap.push { cls:=.type "list",data:=.seq ([]:List Value).toArray }).objs.size->∀o,s'.heap.get? b=some o->h'.get? b=some o:=fun b hb o e=>sb.extBut b o hb e
 have u2:Un (frs X.stack) fp (upd H2 s2.heap.objs.size (.lst [])) H' (s2.heap.push { cls:=.type "list",data:=.seq ([]:List Value).toArray }) h':=by
  refine⟨fun b o e n hf hx=>eqh b (old b o e) _ (u.keep b o e n hf hx),fun b o e n hf hx=>?_,u.free,fun b o e hx=>?_,u.tups,u.frzs,u.tbls⟩
  ·obtain⟨sl,q⟩:=u.slot b o e n hf hx
   exact⟨sl,eqh b (old b o e) _ q⟩
  ·obtain⟨o',q⟩:=u.there b o e hx
   exact⟨o',eqh b (old b o e) _ q⟩
 have hok:HOk X.prog X.w H' h':=fun b o e=>by
  refine (J.hok b o e).stay (fun c v hc q=>eqh c (fun z=>?_) v q) (fun _ q=>q) fun _ _ q=>q
  rcases hc with rfl|hc
  ·rw[z,free] at e
   cases e
  ·rw[z,free] at hc
   cases hc
 have hos:=J.os
 have hbare:=J.bare
 obtain⟨hh,g,d,t,os⟩:=s'
 obtain rfl:os=s2.os:=hos
 have fin:=I3.call (h':=h') (g':=g) (d':=d) (t':=t) (ch:=fp) u2 hok hbare fun b hb=>⟨(f2 b hb).2.2.2.1,(f2 b hb).2.1,(f2 b hb).2.2.2.2.1,(f2 b hb).2.2.2.2.2⟩
 exact fin
theorem zpr {X':Cx} {R:Result->y04->Prop} {J:It} {fp:List Addr} {it' D:Addr} {tn:Nat->Heap->Prop} {F₀ O F1:Addr->Prop} {H₀:En} {H2:Hp} {ts ys:List T} (hx:X'.xe=fun _ _=>False) (hc:X'.calm=true) (hg:PGt X' tg gg) (ht:PTs X' ifs cc) (he:PEv X' elt ee)
  (T:Turn X'.prog X'.w X'.K tg J fp it' tn) (stat:∀H':Hp,(∀b∈fp,H' b=none)->∀b∈fp,FpOk X' [] H' b) (ok:ItOk X'.K J F1 H2 ts) (hbig:ts.length<=big) (hD2:H2 D=none) (hO:¬O D) (hH0:H₀.h D=none)
  (fin:∀σ' H' F' s1 vs,L2.Inv X' [] σ' H' s1->Ext F1 H2 F' H'->H' D=some (.lst vs)->¬F' D->RepL X'.K F' H' ys vs->R (.ok .next) s1)
  {s:y04} {σ:L2.St} {H:Hp} {F:Addr->Prop} {ε:Ev} (I:L2.Inv X' [] σ H s) (st:tn 0 s.heap) (fr:∀b∈fp,H b=none) (x:Ext F1 H2 F H) (r:RelE X'.K F₀ H₀ O F H ε σ) (hD:H D=some (.lst [])) (nD:¬F D) (ey:z58 gg cc ee ts ε=some ys) :
  codeAny (model X'.prog X'.w) X'.A (.compLoop (.ListComp elt [⟨tg,iter,ifs,0⟩] scope pos) 0 (.ref it') (.ref D) X'.env) R s:=by
 refine zij (fun n s'=>∃i σ' H' F' ε' dn vs,n=ts.length - i/\i<=ts.length/\L2.Inv X' [] σ' H' s'/\tn i s'.heap/\(∀b∈fp,H' b=none)/\Ext F1 H2 F' H'/\RelE X'.K F₀ H₀ O F' H' ε' σ'/\H' D=some (.lst vs)/\¬F' D/\RepL X'.K F' H' dn vs/\dn.length<=i /\
  ∃rest,z58 gg cc ee (ts.drop i) ε'=some rest/\ys=dn++rest) ?_ ts.length ⟨0,σ,H,F,ε,[],[],rfl,y2c _,I,st,fr,x,r,hD,nD,RepL.nil,y0p _,ys,by simpa using ey,by simp⟩
 rintro n s3 ⟨i,σ3,H3,F3,ε3,dn,vs,rfl,hi,I3,st3,fr3,x3,r3,hD3,nD3,q3,hl3,rest,er,es⟩
 have nf:∀{F4:Addr->Prop} {H4:Hp} {F5:Addr->Prop} {H5:Hp} {o:HO},Ext F4 H4 F5 H5->H4 D=some o->¬F4 D->¬F5 D:=fun y e n z=>by
  rcases y.new D z with q|q
  ·exact n q
  ·rw[e] at q
   cases q
 by_cases hlt:i<ts.length
 ·have hd:ts.drop i=ts[i]::ts.drop (i+1):=List.drop_eq_getElem_cons hlt
  have hg':ts[i]?=some ts[i]:=y0w hlt
  rw[hd] at er
  simp only[z58,y01] at er
  obtain⟨ε4,eg,b,eb,er⟩:=er
  refine y1g (T.item X' rfl rfl rfl hc i [] s3 σ3 H3 (fun _ _=>False) I3 (stat H3 fr3) st3 (ok.go i F3 H3 _ x3.kp r3.dom hg')) (fun rv s4 ⟨u,hr,h4⟩=>?_) fun _ _ z=>z
  subst hr
  refine y1g h4 (fun _ s5 ⟨x',H5,I5,r5,y5,st5,fr5⟩=>?_) fun _ _ z=>z
  obtain⟨F5,x5,rx⟩:=ok.yld i F3 H3 _ x' H5 x3.kp r3.dom hg' y5
  have I5':=I5.pinned (stat H5 fr5) (T.obj _ _ st5)
  have hg2:=hg _ s5 σ3 H5 x' u (fun σ6 H6=>H6=H5/\RelE X'.K F₀ H₀ O F5 H5 ε4 σ6) I5' r5 ⟨F₀,H₀,O,F5,ε3,_,ε4,r3.ext x5,rx,eg,fun σ6 r6=>⟨rfl,r6⟩⟩
  rw[hx] at hg2
  refine y1g hg2 (fun _ s6 ⟨σ6,H6,I6,e6,r6⟩=>?_) fun _ _ z=>z
  subst e6
  have again:∀{σ7:L2.St} {H7:Hp} {s7:y04},L2.Inv X' ([]++zhk fp s5.heap) σ7 H7 s7->tn (i+1) s7.heap/\(∀b∈fp,H7 b=none)/\L2.Inv X' [] σ7 H7 s7:=fun {σ7 H7 s7} I7=>by
   refine⟨T.keep _ _ _ st5 fun b hb o e=>(I7.pin (b,o) (y1d _ (y1d _ (z91 hb e)))).1,fun b hb=>?_,I7.unpinned⟩
   obtain⟨o,e,d⟩:=T.obj _ _ st5 b hb
   exact (I7.pin (b,o) (y1d _ (y1d _ (z91 hb e)))).2.1
  have ht2:=ht _ s6 σ6 H6 (fun b' H7=>b'=b/\∃F7,Ext F5 H6 F7 H7) I6 ⟨F₀,H₀,O,F5,ε4,b,r6,eb,fun F7 H7 x7=>⟨rfl,F7,x7⟩⟩
  rw[hx] at ht2
  refine y1g ht2 (fun ok' s7 ⟨H7,I7,e7,F7,x7⟩=>?_) fun _ _ z=>z
  subst e7
  have x37:=x5.trans x7
  have r7:=r6.ext x7
  cases ok' with
  | false =>
   simp only[y20,if_false] at er ⊢
   obtain⟨a1,a2,a3⟩:=again I7
   exact⟨_,by omega,i+1,σ6,H7,F7,ε4,dn,vs,rfl,hlt,a3,a1,a2,x3.trans x37,r7,x37.same.get hD3,nf x37 hD3 nD3,q3.ext x37,by omega,rest,er,es⟩
  | true =>
   simp only[if_true,y01,y07] at er ⊢
   obtain⟨y,ey',rest',er',rfl⟩:=er
   have he2:=he _ s7 σ6 H7 (fun v H8=>∃F8,Ext F7 H7 F8 H8/\Rep X'.K F8 H8 y v) I7 ⟨F₀,H₀,O,F7,ε4,y,r7,ey',fun v F8 H8 x8 q8=>⟨F8,x8,q8⟩⟩
   rw[hx] at he2
   refine y1g he2 (fun u8 s8 ⟨v8,H8,I8,r8,F8,x8,q8⟩=>?_) fun _ _ z=>z
   have x38:=x37.trans x8
   have hD8:=x38.same.get hD3
   have nD8:=nf x38 hD3 nD3
   obtain⟨kp9,r9⟩:=(r7.ext x8).other (ys:=vs++[v8]) nD8 hO hH0 hD8
   have ha:=zhx (X:=X') _ s8 σ6 H8 (.ref D) [v8] (.ref D) [u8] (fun _ H9=>H9=upd H8 D (.lst (vs++[v8]))) I8 rfl (.cons r8 .nil) ⟨D,vs,v8,rfl,rfl,hD8,by rw[z9c,<- q3.length];omega,rfl⟩
   rw[hx] at ha
   refine y1g ha (fun u9 s9 ⟨v9,H9,I9,r9',e9⟩=>?_) fun _ _ z=>z
   subst e9
   obtain⟨a1,a2,a3⟩:=again I9
   have x9:Ext F1 H2 F8 (upd H8 D (.lst (vs++[v8]))):=by
    have y:=x3.trans x38
    refine⟨fun b o e=>?_,y.sub,y.new,⟨fun b f=>?_,y.dom.tgs.upd fun u e=>.inl ⟨_,y2n (e.symm.trans hD8)⟩⟩⟩
    ·have nb:b≠D:=by
      rintro rfl
      rw[hD2] at e
      cases e
     rw[z0d nb]
     exact y.same b o e
    ·have nb:b≠D:=by
      rintro rfl
      exact nD8 f
     rw[z0d nb]
     exact y.dom b f
   refine⟨_,by omega,i+1,σ6,_,F8,ε4,dn++[y],vs++[v8],rfl,hlt,a3,a1,a2,x9,r9,z0c,nD8,((q3.ext x38).append (RepL.cons q8 RepL.nil)).kp kp9,by simp;omega,rest',er',by rw[es];simp⟩
 ·have hd:ts.drop i=[]:=List.drop_eq_nil_of_le (by omega)
  rw[hd] at er
  cases er
  refine y1g (T.done X' rfl rfl rfl hc i [] s3 σ3 H3 (fun _ _=>False) I3 (stat H3 fr3) st3 (ok.stop i F3 H3 x3.kp (by omega))) (fun rv s4 ⟨hr,I4⟩=>?_) fun _ _ z=>z
  subst hr
  exact fin σ3 H3 F3 s4 vs I4 x3 hD3 nD3 (by rw[es,y26];exact q3)
structure After (X:Cx) (pins:List (Addr×Obj)) (σ:L2.St) (F:Addr->Prop) (H:Hp) (ys:List T) (D C:Addr) (H':Hp) (F':Addr->Prop) (s1:y04) (vs:List V):Prop where
 inv:∀h',Heap.SameBut C s1.heap h'->L2.Inv X pins σ H' { s1 with heap:=h' }
 ns:∃m,s1.heap.Ns C m
 free:H' C=none
 above:X.s₀.heap.objs.size<=C
 cells:∀x c,X.env.cells.lookup x=some c->c≠C
 pin:∀p∈X.pn++pins,p.1≠C
 loc:C≠X.env.locals
 new:H D=none
 ext:Ext F H F' H'
 nf:¬F' D
 lst:H' D=some (.lst vs)
 rep:RepL X.K F' H' ys vs
theorem zlv {use:Option (Value->Sem Unit)} {Q:Value->y04->Prop} {p2:Pos} (S:CompOk X scope own caps) (hi:PIt X tg iter it)
  (hg:∀cl C s₀ H₀ fp pn,PGt (z4g X (own++caps.map (·.2)) scope cl C s₀ H₀ fp pn) tg gg)
  (ht:∀cl C s₀ H₀ fp pn,PTs (z4g X (own++caps.map (·.2)) scope cl C s₀ H₀ fp pn) ifs cc)
  (he:∀cl C s₀ H₀ fp pn,PEv (z4g X (own++caps.map (·.2)) scope cl C s₀ H₀ fp pn) elt ee)
  (hs:∀x,foldedSetIterable iter X.env x=pure x) {pins:List (Addr×Obj)} {s:y04} {σ:L2.St} {H:Hp} {F₀ O F:Addr->Prop} {H₀:En} {ε:Ev} {ys:List T} (I:L2.Inv X pins σ H s) (r:RelE X.K F₀ H₀ O F H ε σ)
  (e:comp own.length (caps.map (·.1)) it gg cc ee ε=some (.list ys)) (fin:∀D C H' F' s1 vs,After X pins σ F H ys D C H' F' s1 vs->compPost (model X.prog X.w) X.A X.xe use Q (.ref D) C (.ok .next) s1) :
  y0v (model X.prog X.w) X.A (comprehension (.ListComp elt [⟨tg,iter,ifs,0⟩] scope pos) scope X.env p2 (newList []) false (eval iter X.env) use) Q X.xe s:=by
 simp only[comp,y01] at e
 obtain⟨ts,et,e⟩:=e
 split at e
 case isFalse=>cases e
 next hbig =>
 simp only[y07] at e
 obtain⟨ys',ey,e⟩:=e
 cases e
 have hcl:∀x∈scope.names,x.2=.free->∃c,X.env.cells.lookup x.1=some c:=fun x hx hk=>I.ok.has x.1 (S.free x hx hk)
 refine wpAny_comprehension_free rfl hs (zas hcl) S.kind S.names (thn (hi pins s σ H (fun J H1=>∃F1,Ext F H F1 H1/\ItOk X.K J F1 H1 ts) I ⟨F₀,H₀,O,F,ε,ts,r,et,fun J F1 H1 x1 ok=>⟨F1,x1,ok⟩⟩) fun v s1 h1=>thn h1 fun itv s2 h2=>?_)
 obtain⟨it',fp,tn,J,H2,rfl,I2,T,st2,f2,F1,x1,ok⟩:=h2
 have hfp:∀b∈fp,b<s2.heap.objs.size:=fun b hb=>by
  obtain⟨o,ho,_⟩:=T.obj 0 _ st2 b hb
  exact y0c ho
 have hD2:H2 s2.heap.objs.size=none:=I2.fresh
 have hD:H s2.heap.objs.size=none:=x1.same.none hD2
 have sz:(s2.heap.push { cls:=.type "list",data:=.seq ([]:List Value).toArray }).objs.size=s2.heap.objs.size+1:=y1a ..
 refine wpAny_newList ?_ (y2c _)
 refine wpAny_newFunctionEnv S.cell (by intro y hy;simp at hy) (fun h₁ hns₁ hsb₁=>?_) S.kind
 have keep:∀b u,(s2.heap.push { cls:=.type "list",data:=.seq ([]:List Value).toArray }).get? b=some u->h₁.get? b=some u:=fun b u e=>hsb₁.extBut b u (y10 (y0c e)) (y03 _ e)
 have I4:=zrv (tk:=s2.toks+0) S I2 f2 hfp hns₁ keep
 have r4:=(r.ext x1).cap (D:=s2.heap.objs.size) own.length S.nd hD2
 refine codeAny_compStart_list ?loop (T.self _ 0 _ _ _ (T.keep 0 _ _ st2 fun b hb o e=>keep b o (y03 _ e)) ?loop)
 refine zpr (X':=z4g X (own++caps.map (·.2)) scope (clos X.env scope.names []) (s2.heap.push { cls:=.type "list",data:=.seq ([]:List Value).toArray }).objs.size { s2 with heap:=s2.heap.push { cls:=.type "list",data:=.seq ([]:List Value).toArray } } (upd H2 s2.heap.objs.size (.lst [])) fp (X.pn++pins))
  rfl S.calm (hg _ _ _ _ _ _) (ht _ _ _ _ _ _) (he _ _ _ _ _ _) T (fun H' hn b hb=>?_) ok hbig hD2 (fun z=>z.2 rfl) (r.o0 _ (r.fr _ hD)) (fun σ' H' F' s1 vs J1 x' hD' nD' q'=>?_) I4 (T.keep 0 _ _ st2 fun b hb o e=>keep b o (y03 _ e)) (fun b hb=>?_) (Ext.laid x1.dom hD2) r4 z0c ?_ ey
 ·have okX:=zpq S I2 f2 hfp (own++caps.map (·.2))
  refine⟨hn b hb,(okX.exf b hb).1,okX.exfs b hb,.inl hb,fun x c e=>(okX.exf b hb).2 x c e,fun p hp=>?_⟩
  have hp':p∈X.pn++pins:=by simpa [z4g] using hp
  exact (f2 b hb).2.2.2.2.2 p hp'
 ·obtain⟨m,hn,_⟩:=id J1.loc
  refine fin s2.heap.objs.size _ H' F' s1 vs ⟨fun h' sb=>zmz I2 f2 J1 sb,⟨m,hn⟩,J1.free,?_,fun x c e z=>?_,fun p hp z=>?_,?_,hD,x1.trans x',nD',hD',q'⟩
  ·rw[sz]
   exact Nat.le_succ_of_le I2.sz
  ·obtain⟨v,q⟩:=I2.cell x c e
   have:=q.lt
   rw[z,sz] at this
   exact absurd this (Nat.not_lt.mpr (y2p _))
  ·have:=y0c (I2.pin p hp).1
   rw[z,sz] at this
   exact absurd this (Nat.not_lt.mpr (y2p _))
  ·have:=I2.lt
   rw[sz]
   exact y18 (Nat.lt_succ_of_lt this)
 ·have:=(f2 b hb).1
  rw[z0d (y10 (hfp b hb))]
  exact this
 ·intro z
  obtain⟨o,e⟩:=x1.dom _ z
  rw[hD2] at e
  cases e
theorem zvv (S:CompOk X scope own caps) (hi:PIt X tg iter it)
  (hg:∀cl C s₀ H₀ fp pn,PGt (z4g X (own++caps.map (·.2)) scope cl C s₀ H₀ fp pn) tg gg)
  (ht:∀cl C s₀ H₀ fp pn,PTs (z4g X (own++caps.map (·.2)) scope cl C s₀ H₀ fp pn) ifs cc)
  (he:∀cl C s₀ H₀ fp pn,PEv (z4g X (own++caps.map (·.2)) scope cl C s₀ H₀ fp pn) elt ee)
  (hs:∀x,foldedSetIterable iter X.env x=pure x:=by intro _;rfl):PEn X (.ListComp elt [⟨tg,iter,ifs,0⟩] scope pos) (comp own.length (caps.map (·.1)) it gg cc ee):=by
 intro pins s σ H Q I ⟨F₀,H₀,O,F,ε,ys,r,e,k⟩
 rw[eval_ListComp]
 refine zlv S hi hg ht he hs I r e fun D C H' F' s1 vs a=>?_
 obtain⟨m,hn⟩:=a.ns
 exact⟨m,hn,fun h' sb=>⟨.ref D,H',a.inv h' sb,rfl,k D vs F' H' a.ext a.new a.nf a.lst a.rep⟩⟩
theorem zii {ε:Ev} {n:Nat} {cs:List Nat} {t:T} (e:comp n cs it gg cc ee ε=some t):∃ts,t=.list ts:=by
 simp only[comp,y01] at e
 obtain⟨ts,_,e⟩:=e
 split at e
 ·simp only[y07] at e
  obtain⟨ys,_,e⟩:=e
  exact⟨ys,e.symm⟩
 ·cases e
theorem z8e (S:CompOk X scope own caps) (hi:PIt X tg iter it)
  (hg:∀cl C s₀ H₀ fp pn,PGt (z4g X (own++caps.map (·.2)) scope cl C s₀ H₀ fp pn) tg gg)
  (ht:∀cl C s₀ H₀ fp pn,PTs (z4g X (own++caps.map (·.2)) scope cl C s₀ H₀ fp pn) ifs cc)
  (he:∀cl C s₀ H₀ fp pn,PEv (z4g X (own++caps.map (·.2)) scope cl C s₀ H₀ fp pn) elt ee)
  (hs:∀x,foldedSetIterable iter X.env x=pure x:=by intro _;rfl):PEv X (.ListComp elt [⟨tg,iter,ifs,0⟩] scope pos) (comp own.length (caps.map (·.1)) it gg cc ee) :=
 n2v (zvv S hi hg ht he hs) fun ε t e=>zii e
theorem znx (i:Nat) {x:Str} {px spos:Pos} (hN:X.N.Nodup) (S:CompOk X scope own caps) (hit:PIt X tg iter it)
  (hg:∀cl C s₀ H₀ fp pn,PGt (z4g X (own++caps.map (·.2)) scope cl C s₀ H₀ fp pn) tg gg)
  (ht:∀cl C s₀ H₀ fp pn,PTs (z4g X (own++caps.map (·.2)) scope cl C s₀ H₀ fp pn) ifs cc)
  (he:∀cl C s₀ H₀ fp pn,PEv (z4g X (own++caps.map (·.2)) scope cl C s₀ H₀ fp pn) elt ee)
  (hi:X.N[i]?=some x:=by rfl) (hx:Loc X.env.scope x:=by first|exact Or.inl rfl|exact Or.inr rfl)
  (hsw:swapsWith (.ListComp elt [⟨tg,iter,ifs,0⟩] scope pos) (some (.Name x px)) spos.line X.env=pure true:=by rfl)
  (hf:X.fn x=true\/X.env.scope.names.lookup x=some .local:=by first|exact .inl rfl|exact .inr rfl)
  (hs:∀x,foldedSetIterable iter X.env x=pure x:=by intro _;rfl) :
  PSt X (.Assign [.Name x px] (.ListComp elt [⟨tg,iter,ifs,0⟩] scope pos) spos) (asg i (comp own.length (caps.map (·.1)) it gg cc ee)):=by
 intro pins s σ H D I ⟨F₀,H₀,O,F,ε,o,r,e,k⟩
 simp only[asg,y07] at e
 obtain⟨t,et,rfl⟩:=e
 obtain⟨ys,rfl⟩:=zii et
 rw[exec_Assign_Name_used _ _ _ _ hsw]
 refine y02 (wpAny_standAt (y02 ?_))
 show y0v _ X.A (do let _ <- comprehension (.ListComp elt [⟨tg,iter,ifs,0⟩] scope pos) scope X.env _ (newList []) false (eval iter X.env) (some (assign (.Name x px) X.env))) _ _ s
 refine y02 (thn (zlv (use:=some (assign (.Name x px) X.env)) (Q:=fun _ s'=>SP X pins D .next s') S hit hg ht he hs I r et fun D' C H' F' s1 vs a=>?_) fun _ s' hq=>y06 (y06 hq))
 have IX:=a.inv s1.heap (Heap.SameBut.refl ..)
 have IX':L2.Inv X pins σ H' s1:=IX
 show y0v _ X.A (assign (.Name x px) X.env (.ref D')) _ _ _
 refine wpAny_assign_Name (zh5 (v:=.ref D') IX' hN hi hx rfl (fun s2 I2 ⟨b,sb,hb⟩=>?_) hf)
 obtain⟨m,hn⟩:=a.ns
 have nb:C≠b:=by
  rcases hb with rfl|hb
  ·exact a.loc
  ·exact (a.cells x b hb).symm
 refine⟨m,hn.sameBut sb nb,fun h' sb'=>?_⟩
 have I3:L2.Inv X pins (σ.set i (some (.ref D'))) H' { s2 with heap:=h' }:=I2.turned (t':=s2.toks) (it:=C) (fun b o hb e=>sb'.extBut b o hb e) a.free a.loc (.inr a.above) a.cells a.pin
 refine⟨_,H',I3,?_⟩
 have y:Ext F H (fun b=>F' b\/b=D') H':=⟨a.ext.same,fun b z=>.inl (a.ext.sub b z),fun b z=>by
  rcases z with z|rfl
  ·exact a.ext.new b z
  ·exact .inr a.new,⟨fun b z=>by
  rcases z with z|rfl
  ·exact a.ext.dom b z
  ·exact⟨_,a.lst⟩,a.ext.dom.tgs⟩⟩
 refine k _ _ H' y.kp ((r.ext y).set i ?_)
 simp only[Rep]
 exact⟨D',vs,rfl,.inr rfl,.inl a.lst,a.rep.keep (fun _ _ z=>z) fun b _ z w=>⟨.inl z,w⟩⟩
end
end
section
variable [Tbl]
open AutoSeq1 (wpAny_loadPart')
theorem z9g (l:Addr) (items:Array Value) (n:Nat) (dct:Option Addr) (sl:Array (Option Value)) :
  Meets (Builtin.«enumerate.__new__» ⟨[.type "enumerate",.ref l],[]⟩) (fun _ R s=>s.heap.get? l=some { cls:=.type "tuple",dict:=dct,data:=.seq items n,slots:=sl } /\
   R (.ok (.ret (.ref (s.heap.push { cls:=.type "tuple_iterator",data:=.fields #[.ref l,.int 0 0] }).objs.size)))
    { s with heap:=(s.heap.push { cls:=.type "tuple_iterator",data:=.fields #[.ref l,.int 0 0] }).push { cls:=.type "enumerate",data:=.fields #[.none,.bool false,.ref s.heap.objs.size,rawInt 0,.none,.none] } }) :=
 .of_wp fun prog w A R s h=>by
  obtain⟨hp,g,d,tk,os⟩:=s;obtain⟨hl,h⟩:=h
  have hsub:=sub_enumerate
  have hL:Heap.IsTuple (Shared.heap ⟨hp,g,d,tk,os⟩) l items:=⟨_,hl,rfl,n,rfl⟩
  wp_walk using wpAny_loadPart' hl
  refine wpAny_stack_any fun st=>y06 ?_
  split
  ·rename_i c _ _ _ _ _
   cases (c == Value.type "enumerate")
   ·wp_walk using wpAny_loadPart' hl,wpAny_pyIter_tuple hL
    exact⟨_,rfl,h⟩
   ·wp_walk using wpAny_loadPart' hl,wpAny_pyIter_tuple hL
    exact⟨_,rfl,h⟩
  ·wp_walk using wpAny_loadPart' hl,wpAny_pyIter_tuple hL
   exact⟨_,rfl,h⟩
section
variable {prog:y0r} {w:World} {A:Around} {E:Value->y04->Prop} {s:y04}
theorem z9h {l:Addr} {items:Array Value} {Q:Value->y04->Prop} (hL:s.heap.IsTuple l items)
  (h:∀h',IsEnum h' (s.heap.objs.size+1) s.heap.objs.size 0 .none->h'.IsTupleIter s.heap.objs.size l 0->h'.objs.size=s.heap.objs.size+2 ->
   (∀b o,s.heap.get? b=some o->h'.get? b=some o)->Q (.ref (s.heap.objs.size+1)) { s with heap:=h' }) :
  y0v (model prog w) A (call (.type "enumerate") [.ref l]) Q E s:=by
 obtain⟨⟨c,dct,dt,sl⟩,hl,hc,n,hd⟩:=hL
 replace hc:c=.type "tuple":=hc
 replace hd:dt=.seq items n:=hd
 subst hc hd
 refine callType_new F.called_enumerate (by decide) (F.typeCall_enumerate_1 _) (F.newCall_enumerate_1 _) (fun obj=>F.args_object_init_2 obj _) F.entry_enumerate_new
  (z9g l items n dct sl) ⟨hl,?_⟩
 have hz:(s.heap.push { cls:=.type "tuple_iterator",data:=.fields #[.ref l,.int 0 0] }).objs.size=s.heap.objs.size+1:=y1a ..
 show _/\_
 rw[hz]
 have he:IsEnum ((s.heap.push { cls:=.type "tuple_iterator",data:=.fields #[.ref l,.int 0 0] }).push
   { cls:=.type "enumerate",data:=.fields #[.none,.bool false,.ref s.heap.objs.size,rawInt 0,.none,.none] }) (s.heap.objs.size+1) s.heap.objs.size 0 .none:=by
  have:=y0m (s.heap.push { cls:=.type "tuple_iterator",data:=.fields #[.ref l,.int 0 0] })
   (o:={ cls:=.type "enumerate",data:=.fields #[.none,.bool false,.ref s.heap.objs.size,rawInt 0,.none,.none] }) rfl
  rw[hz] at this;exact this
 refine⟨⟨_,he,rfl⟩,h _ he ⟨_,y03 _ (y0m _ rfl),rfl,rfl⟩ (by rw[y1a,hz]) fun b o x=>y03 _ (y03 _ x)⟩
theorem zbd {it l:Addr} {i:Nat} {items} {x:Value} {Q:Value->y04->Prop} (hit:s.heap.IsTupleIter it l i)
  (hl:s.heap.IsTuple l items) (hx:items[i]?=some x)
  (hQ:∀h',h'.IsTupleIter it l (i+1)->Heap.SameBut it s.heap h'->Q x { s with heap:=h' }) :
  y0v (model prog w) A (y0u (.ref it)) Q E s:=by
 obtain⟨o,ho,hc,hd⟩:=id hit
 obtain⟨ol,hol,_,nl,hdl⟩:=hl
 unfold y0u
 refine y02 (wpAny_callSpecial?_slot (name:=Str.ofString "__next__") hit.typeIs y2i
  (wpAny_call_entry y2i hit.typeIs F.entry_tuple_iterator_next ?_ (F.args_tuple_iterator_next_1 _)))
 show y0v _ _ (field (.ref it) 0 >>= _) _ _ s
 refine y02 (wpAny_field ho hd (x:=.ref l) rfl ?_)
 show y0v _ _ (if (Value.ref l == Value.none)=true then _ else _) _ _ s
 rw[if_neg (show ¬((Value.ref l == Value.none)=true) from y2b)]
 show y0v _ _ (field (.ref it) 1 >>= _) _ _ s
 refine y02 (wpAny_field ho hd (x:=.int i 0) rfl ?_)
 show y0v _ _ (seqItems? (.ref l) >>= _) _ _ s
 refine y02 (wpAny_seqItems hol hdl ?_)
 simp only[Int.toNat_natCast,hx]
 refine y02 (wpAny_setField ho hd (by simp) (y06 ⟨x,rfl,y06 (hQ _ ?_ (Heap.SameBut.update ..))⟩))
 exact⟨_,Heap.get?_update_self _ ho (Obj.isFreed_of_fields (Obj.data_mapFields hd _)),(Obj.cls_mapFields ..).trans hc,by
  rw[Obj.data_mapFields hd];simp[rawInt]⟩
theorem z7u {it l:Addr} {i:Nat} {items} {Q:Value->y04->Prop} (hh:A.handled=none)
  (hit:s.heap.IsTupleIter it l i) (hl:s.heap.IsTuple l items) (hx:items[i]?=none)
  (hE:∀h' e,Heap.ExtBut it s.heap h'->(∃o,h'.get? e=some o/\o.cls=.type "StopIteration")->E (.ref e) { s with heap:=h' }) :
  y0v (model prog w) A (y0u (.ref it)) Q E s:=by
 obtain⟨o,ho,hc,hd⟩:=id hit
 obtain⟨ol,hol,_,nl,hdl⟩:=hl
 unfold y0u
 refine y02 (wpAny_callSpecial?_slot (name:=Str.ofString "__next__") hit.typeIs y2i
  (wpAny_call_entry y2i hit.typeIs F.entry_tuple_iterator_next ?_ (F.args_tuple_iterator_next_1 _)))
 show y0v _ _ (field (.ref it) 0 >>= _) _ _ s
 refine y02 (wpAny_field ho hd (x:=.ref l) rfl ?_)
 show y0v _ _ (if (Value.ref l == Value.none)=true then _ else _) _ _ s
 rw[if_neg (show ¬((Value.ref l == Value.none)=true) from y2b)]
 show y0v _ _ (field (.ref it) 1 >>= _) _ _ s
 refine y02 (wpAny_field ho hd (x:=.int i 0) rfl ?_)
 show y0v _ _ (seqItems? (.ref l) >>= _) _ _ s
 refine y02 (wpAny_seqItems hol hdl ?_)
 simp only[Int.toNat_natCast,hx]
 refine y02 (wpAny_rule (y02 (wpAny_setField ho hd (by simp) ?_)))
 show y0v _ _ (newExc (.type "StopIteration") [] >>= _) _ _ _
 refine y02 ?_
 simp only[newExc,newTuple]
 refine y02 (wpAny_newObj_type ?_ (by size_fits))
 refine y02 (m:=firstArgMember _ _) (wpAny_of_eq (a:=Value.none) (by first|rfl|(simp only[firstArgMember];rfl)) ?_)
 refine wpAny_newObj_type ?_ (by size_fits)
 simp only[raiseNew]
 refine y02 (wpAny_handled ?_)
 first|rw[show A.in1.handled=none from hh]|rw[hh]
 refine y02 (y06 (wpAny_throw ?_))
 exact hE _ _ (((Heap.SameBut.update ..).extBut.push _).push _) ⟨_,y0m _ rfl,rfl⟩
end
theorem z4t {prog:y0r} {w:World} {A:Around} (hh:A.handled=none) (it l:Addr) (hne:l≠it) (items:Array Value) :
  Draws prog w A it [it,l] items.size (fun i v=>items[i]?=some v) (fun i h=>h.IsTupleIter it l i/\h.IsTuple l items) where
 live:=fun _ _ st=>let ⟨o,ho,_⟩:=st.1;⟨o,ho⟩
 frame:=fun _ _ _ st hk=>⟨st.1.at fun o e=>hk it (by simp) o e,let ⟨o,ho,r⟩:=st.2;⟨o,hk l (by simp) o ho,r⟩⟩
 item:=fun i s Q E hi st hQ=>by
  refine zbd st.1 st.2 (x:=items[i]) (by simp[hi]) fun h' hit' hs'=>?_
  exact hQ _ h' s.toks (by simp[hi]) ⟨hit',st.2.extBut hs'.extBut hne⟩ hs'
 done:=fun s Q E st hE=>z7u hh st.1 st.2 (by simp) hE
noncomputable def Ite (K:y00) (a:Addr):It :=
 ⟨fun i H=>∃xs x,SqT K H a xs/\xs[i]?=some x,fun i H x H'=>∃p v,H p=none/\x=.ref p/\H'=upd H p (.tup [.int i,v])/\∀xs,SqT K H a xs->xs[i]?=some v,fun i H=>∃xs,SqT K H a xs/\xs.length<=i⟩
theorem znl {P:y0r} {w:World} {K:y00} {es:List Expr} {k:Nat} {pos:Pos} (a it e:Addr) (hne:e≠it) (hai:a≠it) (hae:a≠e):Turn P w K (.Tuple es k pos) (Ite K a) [e,it] e (fun i h=>(∃old,IsEnum h e it i old)/\h.IsTupleIter it a i) where
 mem:=by simp
 obj:=fun i h st b hb=>by
  obtain⟨⟨old,he⟩,o,ho,hc,hd⟩:=st
  rcases y09.mp hb with rfl|hb
  ·exact⟨_,he,fun v z=>by
    have z':Data.fields _=Data.cell v:=z
    cases z'⟩
  ·have e1:b=it:=by simpa using hb
   subst e1
   exact⟨o,ho,fun v z=>by rw[hd] at z;cases z⟩
 keep:=fun i h h' st kk=>by
  obtain⟨⟨old,he⟩,st2⟩:=st
  exact⟨⟨old,kk e (by simp) _ he⟩,st2.at fun o q=>kk it (by simp) o q⟩
 item:=by
  intro X hP hw hK hc i pins s σ H E I hf st hg
  subst hP hw hK
  obtain⟨xs,x,hq,hx⟩:=hg
  obtain⟨its,rv,p,hz⟩:=I.tuple hq
  obtain⟨u,hu,ru⟩:=rv.get hx
  obtain⟨⟨old,he⟩,hit⟩:=st
  obtain⟨f0,f1,f2,f3,f4,f5⟩:=hf e (by simp)
  obtain⟨g0,g1,g2,g3,g4,g5⟩:=hf it (by simp)
  have hi:i<its.toArray.size:=by
   rw[y0i]
   exact (y0l.mp hu).1
  have hnf:e∉[it,a]:=by
   intro z
   rcases y09.mp z with z|z
   ·exact hne z
   ·have z':e=a:=by simpa using z
    exact hae z'.symm
  refine wpAny_pyNext_enum_itemD (z4t (A:=X.A.in1) (I.ok.hd hc) it a hai its.toArray) he ⟨hit,p⟩ hi hne hnf fun x' h' tk hP' ho hs' hT hsz hk=>?_
  have ex:x'=u:=by
   have:=hP'
   rw[<- Array.getElem?_toList] at this
   rw[show (its.toArray).toList=its from rfl,hu] at this
   exact (y2n this).symm
  subst ex
  refine⟨_,rfl,wpAny_letOwnedTupleGo_enum ho fun h2 he2 hs2=>?_⟩
  have helt:e<s.heap.objs.size:=y0c he
  have hilt:it<s.heap.objs.size:=by obtain⟨o,ho',_⟩:=hit;exact y0c ho'
  have k2:∀b o,b≠e->b≠it->s.heap.get? b=some o->h2.get? b=some o:=fun b o h1 h3 q=>hs2.extBut b o h1 (hk b o h1 h3 q)
  have fr:H s.heap.objs.size=none:=I.hok.fresh (y0p _)
  have hT2:h2.get? s.heap.objs.size=some { cls:=.type "tuple",data:=.seq #[.int i tk,x'] }:=hs2.extBut _ _ (y18 helt) hT
  have nH:∀b o,H b=some o->b≠e/\b≠it:=fun b o q=>⟨fun z=>(by rw[z,f0] at q;cases q),fun z=>(by rw[z,g0] at q;cases q)⟩
  have hok2:HOk X.prog X.w (upd H s.heap.objs.size (.tup [.int i,x])) h2:=by
   intro b o q
   by_cases hb:b=s.heap.objs.size
   ·subst hb
    rw[z0c] at q
    cases q
    exact⟨by show 2<=y0k;decide,[.int i tk,x'],.cons ⟨tk,rfl⟩ (.cons ru .nil),⟨_,hT2,rfl,_,rfl⟩⟩
   ·rw[z0d hb] at q
    refine (I.hok b o q).stay (fun c v hc' q'=>k2 c v ?_ ?_ q') (fun c q'=>?_) fun c ys q'=>?_
    ·rcases hc' with rfl|hc'
     ·exact (nH _ _ q).1
     ·exact (nH _ _ hc').1
    ·rcases hc' with rfl|hc'
     ·exact (nH _ _ q).2
     ·exact (nH _ _ hc').2
    ·rw[z0d (z0q q' fr)]
     exact q'
    ·rw[z0d (z0q q' fr)]
     exact q'
  have I2:L2.Inv X pins σ (upd H s.heap.objs.size (.tup [.int i,x])) { s with heap:=h2,toks:=tk+1 }:=by
   refine I.step (g':=s.gens) (d':=s.drawn) (ch:=[e,it]) (fun b hb=>?_) (fun b o _ _ hc' q _=>k2 b o (fun z=>hc' (by simp[z])) (fun z=>hc' (by simp[z])) q) (fun b o _ _ hc' q _=>⟨o.slots,k2 b o (fun z=>hc' (by simp[z])) (fun z=>hc' (by simp[z])) q⟩) (fun b o _ q n=>?_)
    (fun b o hc' q=>⟨o,k2 b o (fun z=>hc' (by simp[z])) (fun z=>hc' (by simp[z])) q⟩) (fun b ys q=>by rw[z0d (z0q q fr)];exact q) (fun b o u q=>by rw[z0d (z0q q fr)];exact q) (fun b ps q=>⟨#[],by rw[z0d (z0q q fr),q];simp⟩) (fun m hm=>?_) hok2 I.bare
   ·rcases y09.mp hb with rfl|hb
    ·exact⟨f3,f1,f4,f5⟩
    ·have:b=it:=by simpa using hb
     subst this
     exact⟨g3,g1,g4,g5⟩
   ·rw[z0d (y10 (y0c q))]
    exact n
   ·obtain⟨o,es',ep,ho',r⟩:=hm
    exact⟨o,es',ep,k2 _ o (Ne.symm f1) (Ne.symm g1) ho',r⟩
  refine⟨.ref s.heap.objs.size,_,I2,rfl,⟨s.heap.objs.size,x,fr,rfl,rfl,fun ys hy=>by rw[I.tuple_inj hy hq];exact hx⟩,⟨⟨_,by simpa using he2⟩,hs'.1.at fun o q=>(hs2.2 it hne.symm).trans q⟩,fun b hb=>?_⟩
  rcases y09.mp hb with rfl|hb
  ·rw[z0d (y10 helt)]
   exact f0
  ·have:b=it:=by simpa using hb
   subst this
   rw[z0d (y10 hilt)]
   exact g0
 done:=by
  intro X hP hw hK hc i pins s σ H E I hf st hg
  subst hP hw hK
  obtain⟨xs,hq,hx⟩:=hg
  obtain⟨its,rv,p,hz⟩:=I.tuple hq
  obtain⟨⟨old,he⟩,hit⟩:=st
  obtain⟨g0,g1,g2,g3,g4,g5⟩:=hf it (by simp)
  have hT:s.TypeIs (.ref e) "enumerate":=⟨_,he,rfl⟩
  have hl:=rv.length
  unfold pyNext
  refine y02 (wpAny_attempt (wpAny_callSpecial?_slot (name:=Str.ofString "__next__") hT F.slot_enumerate_next
   (wpAny_call_entry F.slot_enumerate_next hT F.entry_enumerate_next ?_ (F.args_enumerate_next_1 _))))
  show y0v _ _ (field (.ref e) 2 >>= _) _ _ _
  refine y02 (wpAny_field he rfl (x:=.ref it) rfl ?_)
  refine y02 (z7u (I.ok.hd hc) hit (show s.heap.IsTuple a its.toArray from p) (by simp;omega) fun h' x he' hx'=>?_)
  obtain⟨o,ho,hc'⟩:=hx'
  refine y02 (wpAny_isInstance (T:="StopIteration") (b:=true) ⟨o,ho,hc'⟩ isSubtype_stop ?_)
  exact y06 ⟨rfl,I.turned (t':=s.toks) (fun b o hb q=>he' b o hb q) g0 g1 g3 g4 g5⟩
 self:=fun _ _ _ _ _ st h=>by
  obtain⟨⟨old,he⟩,_⟩:=st
  exact wpAny_pyIter_enum he h
def iEn (K:y00) (ta:TA):TI:=fun σ H R=>ta σ H fun vs H1=>∃a xs,vs=[.ref a]/\SqT K H1 a xs/\R (Ite K a) H1
section
variable {X:Cx} {es:List Expr} {k:Nat} {p pos p2:Pos} {a:Expr} {f:Fe}
theorem zu1 {ta:TA} (hg:Gl X "enumerate") (hm:X.mg "enumerate"=none) (ha:PA X [a] ta) (hs:y0a [a] X.env=[(false,eval a X.env)]:=by rfl):PI X (.Tuple es k p2) (.Call (.Name "enumerate" p) [a] [] pos) (iEn X.K ta):=by
 intro pins s σ H R I h
 refine Call_ (zdn I hg hm PyProof.Rows.boot_enumerate (y1z (thn (ha pos pins s σ H _ I h) fun us s1 ⟨vs,H1,I1,r1,q1⟩=>?_) hs rfl))
 obtain⟨a,xs,rfl,hq,q⟩:=q1
 cases r1 with
 | cons r rr =>
  cases rr
  cases r
  obtain⟨its,rv,pl,hz⟩:=I1.tuple hq
  have hal:a<s1.heap.objs.size:=by obtain⟨o,ho,_⟩:=pl;exact y0c ho
  refine z9h (show s1.heap.IsTuple a its.toArray from pl) fun h' he hit hsz hk=>wpAny_pyIter_enum he ?_
  refine⟨s1.heap.objs.size+1,[s1.heap.objs.size+1,s1.heap.objs.size],_,_,H1,rfl,I1.kept (t':=s1.toks) hk,znl a s1.heap.objs.size (s1.heap.objs.size+1) (Nat.succ_ne_self _) (y10 hal) (y10 (Nat.lt_succ_of_lt hal)),⟨⟨_,he⟩,hit⟩,fun b hb=>?_,q⟩
  have hb':s1.heap.objs.size<=b:=by
   rcases y09.mp hb with rfl|hb
   ·exact y2p _
   ·have:b=s1.heap.objs.size:=by simpa using hb
    rw[this]
    exact y0p _
  exact I1.fpOk hb' (I1.hok.fresh hb')
theorem zp6 {K:y00} {a:Addr} {F1:Addr->Prop} {H1:Hp} {ts:List T} {vs:List V} (hr:SqT K H1 a vs) (q:RepL K F1 H1 ts vs):ItOk K (Ite K a) F1 H1 (enum ts) where
 go:=fun i F H t kp d e=>by
  have hi:=(y0l.mp e).1
  simp only[enum,y16,List.length_zipIdx] at hi
  obtain⟨v,h1,_⟩:=q.get (y0w hi)
  exact⟨vs,v,kp.tup _ _ hr,h1⟩
 yld:=fun i F H t x H' kp d e y=>by
  obtain⟨p,v,hp,rfl,rfl,y⟩:=y
  have hi:=(y0l.mp e).1
  simp only[enum,y16,List.length_zipIdx] at hi
  obtain⟨v',h1,h2⟩:=(q.kp kp).get (y0w hi)
  have h3:=y vs (kp.tup _ _ hr)
  rw[h1] at h3
  cases h3
  have x1:=Ext.laid (o:=.tup [.int i,v]) d hp
  refine⟨F,x1,?_⟩
  have et:t=.tuple [.int i,ts[i]]:=by
   simp only[enum,y17,List.getElem?_zipIdx,y0w hi] at e
   simpa using e.symm
  subst et
  simp only[Rep]
  exact⟨p,_,rfl,SqT.of z0c,RepL.cons (by simp[Rep]) (RepL.cons (h2.ext x1) RepL.nil)⟩
 stop:=fun i F H kp hl=>⟨vs,kp.tup _ _ hr,by
  simp only[enum,y16,List.length_zipIdx] at hl
  rw[<- q.length]
  exact hl⟩
theorem zt5 (hm:X.mg "enumerate"=none) (ha:PEv X a f) (hg:Gl X "enumerate":=by rfl) (hs:y0a [a] X.env=[(false,eval a X.env)]:=by rfl) (hs2:y0a [a] X.env=(false,eval a X.env)::y0a [] X.env:=by rfl) :
  PIt X (.Tuple es k p2) (.Call (.Name "enumerate" p) [a] [] pos) (z7w (z7g f)):=zm0 (zu1 hg hm (z35 ha z6x hs2) hs) fun σ H R ⟨F₀,H₀,O,F,ε,ts,r,e,k⟩=>by
 simp only[z7w,z7g,y07,y01] at e
 obtain⟨us,⟨t,et,e⟩,rfl⟩:=e
 split at e
 ·cases e
  refine⟨F₀,H₀,O,F,ε,_,r,et,fun v F' H' x q=>?_⟩
  simp only[Rep] at q
  obtain⟨a,vs,rfl,hs,hr⟩:=q
  exact⟨a,vs,rfl,hs,k _ F' H' x (zp6 hs hr)⟩
 ·cases e
end
end
section
variable [Tbl]
structure Cl (P:y0r) (w:World) (K:y00) (mg:Str->Option Value) (base:Heap) (x:Str) (k n:Nat) (d:List T->Option T):Prop where
 ex:∃fa fd ps,FnOk P w K mg base CX0 k fa fd ps (spT K n d)/\mg x=some (.ref fa)/\y08 K (.ref fa)=true/\z0p K fd ps []
section
variable {P:y0r} {w:World} {K:y00} {mg:Str->Option Value} {base:Heap} {x:Str} {k n:Nat} {d:List T->Option T}
theorem Cl.mono {j:Nat} (c:Cl P w K mg base x j n d) (h:j<=k):Cl P w K mg base x k n d:=by
 obtain⟨fa,fd,ps,F,r⟩:=c.ex
 exact⟨fa,fd,ps,F.mono h,r⟩
theorem Cl.mk' {fa:Addr} {fd:y0b} {ps:List Str} (F:FnOk P w K mg base CX0 k fa fd ps (spT K n d)) (m:mg x=some (.ref fa)) (kp:y08 K (.ref fa)=true) (b:z0p K fd ps []):Cl P w K mg base x k n d:=⟨fa,fd,ps,F,m,kp,b⟩
end
section
variable {X:Cx} {k n:Nat} {d:List T->Option T} {x:Str} {p pos:Pos} {e:Expr} {es:List Expr} {fs:List Fe}
theorem z24 (C:Cl X.prog X.w X.K X.mg X.base x k n d) (hr:Room k X.A) (ha:PAv X (e::es) fs) (hg:Gl X x:=by rfl) (hn:fs.length=n:=by rfl) (hdb:(x == ("__debug__":Str))=false:=by decide)
  (he:y0a (e::es) X.env=(false,eval e X.env)::y0a es X.env:=by rfl) (hpl:(backTo pos (y0a es X.env)).any (·.1)=false:=by rfl):PEv X (.Call (.Name x p) (e::es) [] pos) (opN d fs):=by
 obtain⟨fa,fd,ps,F,m,kp,b⟩:=C.ex
 exact zvw F hr hg m kp b ha hn hdb he hpl
theorem q_gI {i:Int} {t:Tok} (hm:X.mg x=some (.int i t)) (hg:Gl X x:=by rfl) (hd:(x == ("__debug__":Str))=false:=by decide):PEv X (.Name x pos) (cst (.int i)):=zmf (v:=.int i) (zoh (v:=.int i) hg hm ⟨t,rfl⟩ hd) fun _ _=>by simp[Rep]
noncomputable def zx0 (scope sc:Scope) (N:List Str) (caps:List (Nat×Str)):Bool :=
 decide (scope.kind=.function) && scope.names.all (fun y=>(decide (y.2≠.local) || decide (scope.names.lookup y.1=some .local)) && decide (y.2≠.cell) && (decide (y.2≠.free) || decide (sc.names.lookup y.1=some .cell) || decide (sc.names.lookup y.1=some .free)))
  && caps.all (fun q=>decide (N[q.1]?=some q.2) && decide (scope.names.lookup q.2=some .free)) && decide ((caps.map (·.1)).Nodup)
theorem z8q {scope sc:Scope} {own:List Str} {caps:List (Nat×Str)} (N:List Str) (hsc:X.env.scope=sc) (hN:X.N=N) (hc:X.calm=true) (h:zx0 scope sc N caps=true):CompOk X scope own caps:=by
 simp only[zx0,y1e,List.all_eq_true,decide_eq_true_eq,Bool.or_eq_true] at h
 obtain⟨⟨⟨h1,h2⟩,h3⟩,h4⟩:=h
 refine⟨h1,fun y hy hl=>?_,fun y hy=>(h2 y hy).1.2,fun y hy hf=>?_,fun q hq=>by rw[hN];exact h3 q hq,h4,hc⟩
 ·rcases (h2 y hy).1.1 with z|z
  ·exact absurd hl z
  ·exact z
 ·have hk:X.env.kindOf y.1=sc.names.lookup y.1:=by rw[<- hsc];rfl
  rw[hk]
  rcases (h2 y hy).2 with (z|z)|z
  ·exact absurd hf z
  ·exact .inl z
  ·exact .inr z
end
theorem zat {P:y0r} {w:World} {K:y00} {mg:Str->Option Value} {base:Heap} {x:Str} {st:Stmt} {f:Addr} {fd:y0b} {N ps:List Str} {k:Nat} {b:Fs} (F:Fun K x x st f fd) (S:FnScope N ps (z01 st)) (bd:z0p K fd ps []) (m:mg x=some (.ref f))
  (hb:∀(cdv:Value) (A:Around) (outer:List Env) (s:y04) (H:Hp) (E:XK),Room k (A.deeper (envOfC x (z01 st) s.heap.objs.size f cdv)) ->
   PBt (cxOf CX0 P w K mg base N x (z01 st) f cdv A outer s H E).nox (z06 st) b):Cl P w K mg base x (k+1) ps.length (runF b N.length):=.mk' (zt7 F S hb) m F.kp bd
end
end D
end
section
namespace L2
open PySem PySem.Spec PyProof.Rows
section
variable {κ:Type} [DecidableEq κ]
def valV (kvs:List (κ×V)) (k:κ):Option V:=(kvs.find? fun kv=>decide (kv.1=k)).map (·.2)
def putK (kvs:List (κ×V)) (k:κ) (v:V):List (κ×V) :=
 if (kvs.any fun kv=>decide (kv.1=k))=true then kvs.map (fun kv=>if kv.1=k then (kv.1,v) else kv) else kvs++[(k,v)]
theorem zfv {p:κ×V} {r:List (κ×V)} {k:κ} (e:p.1=k):valV (p::r) k=some p.2:=by simp[valV,y1x,e]
theorem zfw {p:κ×V} {r:List (κ×V)} {k:κ} (e:¬p.1=k):valV (p::r) k=valV r k:=by simp[valV,y1x,e]
theorem zkx (k:κ):∀kvs:List (κ×V),(kvs.any fun kv=>decide (kv.1=k))=(valV kvs k).isSome
 | []=>rfl
 | p::r=>by
  rw[List.any_cons]
  by_cases e:p.1=k
  ·simp only[zfv e,decide_eq_true e,Bool.true_or,Option.isSome_some]
  ·rw[zfw e,decide_eq_false e,Bool.false_or];exact zkx k r
theorem zdl (kvs:List (κ×V)) (k:κ) (v:V):(putK kvs k v).length<=kvs.length+1:=by
 unfold putK
 split
 ·rw[y16];omega
 ·rw[y2a,y0x,y2o];omega
theorem RelO.isSome_eq {o:Option V} {u:Option Value} (r:RelO o u):o.isSome=u.isSome:=by
 cases o with
 | none=>cases u with
  | none=>rfl
  | some _=>exact (show False from r).elim
 | some _=>cases u with
  | none=>exact (show False from r).elim
  | some _=>rfl
theorem KV.val {kvs:List (κ×V)} {vs:List (κ×Value)} (r:KV kvs vs) (k:κ):RelO (valV kvs k) (valueAt vs k):=by
 unfold KV at r
 induction r with
 | nil=>exact True.intro
 | @cons p q ps qs h t ih =>
  obtain⟨h1,h2⟩:=h
  by_cases e:p.1=k
  ·have e':q.1=k:=h1.symm.trans e
   have b:valueAt (q::qs) k=some q.2:=by simp[valueAt,y1x,e']
   rw[zfv e,b];exact h2
  ·have e':¬q.1=k:=fun z=>e (h1.trans z)
   have b:valueAt (q::qs) k=valueAt qs k:=by simp[valueAt,y1x,e']
   rw[zfw e,b];exact ih
theorem KV.any {kvs:List (κ×V)} {vs:List (κ×Value)} (r:KV kvs vs) (k:κ):(kvs.any fun kv=>decide (kv.1=k))=vs.any fun kv=>decide (kv.1=k):=by
 unfold KV at r
 induction r with
 | nil=>rfl
 | cons h t ih=>rw[List.any_cons,List.any_cons,ih,h.1]
theorem KV.repl {kvs:List (κ×V)} {vs:List (κ×Value)} (r:KV kvs vs) (k:κ) {y:V} {u:Value} (ry:RelV y u) :
  KV (kvs.map fun kv=>if kv.1=k then (kv.1,y) else kv) (vs.map fun kv=>if kv.1=k then (kv.1,u) else kv):=by
 unfold KV at r ⊢
 induction r with
 | nil=>exact .nil
 | @cons p q ps qs h t ih =>
  rw[y0e,y0e]
  refine .cons ?_ ih
  obtain⟨h1,h2⟩:=h
  by_cases e:p.1=k
  ·rw[if_pos e,if_pos (h1.symm.trans e)];exact⟨h1,ry⟩
  ·rw[if_neg e,if_neg (fun z=>e (h1.trans z))];exact⟨h1,h2⟩
theorem KV.put {kvs:List (κ×V)} {vs:List (κ×Value)} (r:KV kvs vs) (k:κ) {y:V} {u:Value} (ry:RelV y u):KV (putK kvs k y) (stored vs k u):=by
 unfold putK stored
 rw[r.any k]
 by_cases e:(vs.any fun kv=>decide (kv.1=k))=true
 ·rw[if_pos e,if_pos e];exact r.repl k ry
 ·rw[if_neg e,if_neg e];exact Paired.snoc r ⟨rfl,ry⟩
theorem KV.length {kvs:List (κ×V)} {vs:List (κ×Value)} (r:KV kvs vs):kvs.length=vs.length:=Paired.length r
end
theorem zri {P:y0r} {w:World} {k:Key} {u:Value} (r:RelV (kV k) u):(z1u P w).is k u=true:=by
 cases k with
 | inl i=>obtain⟨t,e⟩:=(show ∃t,u=Value.int i t from r);subst e;exact zdh P w i t
 | inr x=>obtain⟨t,e⟩:=(show ∃t,u=Value.str x t from r);subst e;exact zdg P w x t
theorem zi3 {P:y0r} {w:World}:∀{ks:List Key} {us:List Value},Vals (ks.map kV) us->ItemsAre (z1u P w) ks us
 | [],_,r=>by rw[y1c] at r;cases r;exact .nil
 | k::ks,_,r=>by
  rw[y0e] at r
  cases r with
  | cons h t=>exact .cons (zri h) (zi3 t)
abbrev KT (H:Hp):List (List Key×V)->List (List Key×Addr×Value)->Prop:=Paired fun p q=>p.1=q.1/\H q.2.1=some (.tup (p.1.map kV))/\RelV p.2 q.2.2
theorem KT.val {H:Hp} {kvs:List (List Key×V)} {xs:List (List Key×Addr×Value)} (r:KT H kvs xs) (k:List Key):RelO (valV kvs k) ((atKey xs k).map (·.2)):=by
 induction r with
 | nil=>exact True.intro
 | @cons p q ps qs h t ih =>
  obtain⟨h1,_,h2⟩:=h
  by_cases e:p.1=k
  ·have e':q.1=k:=h1.symm.trans e
   have b:atKey (q::qs) k=some q.2:=by simp[atKey,y1x,e']
   rw[zfv e,b];exact h2
  ·have e':¬q.1=k:=fun z=>e (h1.trans z)
   have b:atKey (q::qs) k=atKey qs k:=by simp[atKey,y1x,e']
   rw[zfw e,b];exact ih
theorem KT.repl {H:Hp} {kvs:List (List Key×V)} {xs:List (List Key×Addr×Value)} (r:KT H kvs xs) (k:List Key) {y:V} {u:Value} (ry:RelV y u) :
  KT H (kvs.map fun kv=>if kv.1=k then (kv.1,y) else kv) (xs.map (putAt k u)):=by
 induction r with
 | nil=>exact .nil
 | @cons p q ps qs h t ih =>
  rw[y0e,y0e]
  refine .cons ?_ ih
  obtain⟨h1,h2,h3⟩:=h
  unfold putAt
  by_cases e:p.1=k
  ·rw[if_pos e,if_pos (h1.symm.trans e)];exact⟨h1,h2,ry⟩
  ·rw[if_neg e,if_neg (fun z=>e (h1.trans z))];exact⟨h1,h2,h3⟩
theorem KT.put {H:Hp} {kvs:List (List Key×V)} {xs:List (List Key×Addr×Value)} (r:KT H kvs xs) (k:List Key) {b:Addr} {y:V} {u:Value} (hb:H b=some (.tup (k.map kV))) (ry:RelV y u) :
  KT H (putK kvs k y) (storedH xs k b u):=by
 have e:(kvs.any fun kv=>decide (kv.1=k))=(atKey xs k).isSome:=by
  rw[zkx,(r.val k).isSome_eq,Option.isSome_map]
 unfold putK storedH
 rw[e]
 by_cases q:(atKey xs k).isSome=true
 ·rw[if_pos q,if_pos q];exact r.repl k ry
 ·rw[if_neg q,if_neg q];exact Paired.snoc r ⟨rfl,hb,ry⟩
theorem KT.keeps {H H':Hp} {kvs:List (List Key×V)} {xs:List (List Key×Addr×Value)} (r:KT H kvs xs) (ht:∀b ys,H b=some (.tup ys)->H' b=some (.tup ys)):KT H' kvs xs :=
 Paired.mapP r fun _ _ z=>⟨z.1,ht _ _ z.2.1,z.2.2⟩
section
variable {P:y0r} {w:World} {H:Hp} {h:Heap} {a:Addr}
theorem zvq {u:HO} (ok:HOk P w H h) (e:Rd H a u):z6e P w H h a u:=e.ok ok
theorem zuy {kvs:List (Key×V)} (ok:HOk P w H h) (e:Rd H a (.dK kvs)):kvs.length<=y0k/\(a == sysModules)=false/\∃vs,KV kvs vs/\h.DictOf (z1u P w) a vs :=
 show z6e P w H h a (.dK kvs) from zvq ok e
theorem zy6 {kvs:List (Key×V)} (ok:HOk P w H h) (e:H a=some (.dK kvs)):kvs.length<=y0k/\(a == sysModules)=false/\∃vs,KV kvs vs/\h.DictOf (z1u P w) a vs:=zuy ok (.inl e)
theorem zp1 {ks:List Key} (ok:HOk P w H h) (e:H a=some (.tup (ks.map kV))):(tupleKind (z1u P w)).is h ks a:=by
 obtain⟨_,its,r,o,h1,h2,n,h3⟩:=(show z6e P w H h a (.tup (ks.map kV)) from ok a _ e)
 exact⟨o,its.toArray,n,h1,h2,h3,by simpa using zi3 r⟩
theorem zux {kvs:List (List Key×V)} (ok:HOk P w H h) (e:Rd H a (.dT kvs)):kvs.length<=y0k/\(a == sysModules)=false /\
  ∃xs,KT H kvs xs/\h.DictOfH (tupleKind (z1u P w)) a xs:=by
 obtain⟨z,y,xs,r,o,es,ep,h1,h2,h3,h4,h5⟩:=(show z6e P w H h a (.dT kvs) from zvq ok e)
 refine⟨z,y,xs,r,o,es,ep,h1,h2,h3,h4,fun x hx=>?_,h5⟩
 have all:∀{l:List (List Key×V)} {m:List (List Key×Addr×Value)},KT H l m->∀x∈m,(tupleKind (z1u P w)).is h x.1 x.2.1:=by
  intro l m q
  induction q with
  | nil=>intro x hx;exact nomatch hx
  | @cons p q ps qs hq t ih =>
   intro x hx
   rcases y09.mp hx with e|hx
   ·subst e
    exact zp1 ok (by rw[<- hq.1];exact hq.2.1)
   ·exact ih x hx
 exact all r x hx
theorem zy5 {kvs:List (List Key×V)} (ok:HOk P w H h) (e:H a=some (.dT kvs)):kvs.length<=y0k/\(a == sysModules)=false /\
  ∃xs,KT H kvs xs/\h.DictOfH (tupleKind (z1u P w)) a xs:=zux ok (.inl e)
end
noncomputable def DGet (H:Hp) (a:Addr) (y:V) (r:Option V):Prop :=
 (∃kvs k,Rd H a (.dK kvs)/\y=kV k/\r=valV kvs k)\/∃kvs k b,Rd H a (.dT kvs)/\y=.ref b/\H b=some (.tup (k.map kV))/\r=valV kvs k
noncomputable def DPut (H:Hp) (a:Addr) (y v:V) (H':Hp):Prop :=
 (∃kvs k,H a=some (.dK kvs)/\y=kV k/\kvs.length<y0k/\H'=upd H a (.dK (putK kvs k v))) \/
 ∃kvs k b,H a=some (.dT kvs)/\y=.ref b/\H b=some (.tup (k.map kV))/\kvs.length<y0k/\H'=upd H a (.dT (putK kvs k v))
theorem DGet.k {H:Hp} {a:Addr} {kvs:List (Key×V)} {k:Key} (e:H a=some (.dK kvs)):DGet H a (kV k) (valV kvs k):=.inl ⟨kvs,k,.inl e,rfl,rfl⟩
theorem DPut.k {H:Hp} {a:Addr} {kvs:List (Key×V)} {k:Key} {v:V} (e:H a=some (.dK kvs)) (hl:kvs.length<y0k):DPut H a (kV k) v (upd H a (.dK (putK kvs k v))):=.inl ⟨kvs,k,e,rfl,hl,rfl⟩
section
variable {X:Cx} {pins:List (Addr×Obj)} {σ:St} {H:Hp} {s:y04} {a:Addr} {y v:V} {u r:Value} {o:Option V} {A:Around} {E:Value->y04->Prop}
theorem Inv.big (I:Inv X pins σ H s):sysModules<s.heap.objs.size:=by
 have h:y0o<s.heap.objs.size:=(I.mod.glob.keeps I.bk).lt
 exact Nat.lt_trans (by decide) h
theorem zih {Q:Value->y04->Prop} (hu:A.units+1<cLine) (I:Inv X pins σ H s) (g:DGet H a y (some v)) (ry:RelV y u) (h:∀w' s',Inv X pins σ H s'->RelV v w'->Q w' s') :
  y0v (model X.prog X.w) A (getItem (.ref a) u) Q E s:=by
 rcases g with ⟨kvs,k,e,ey,l⟩|⟨kvs,k,b,e,ey,eb,l⟩
 ·subst ey
  obtain⟨z,hd,vs,rel,dd⟩:=zuy I.hok e
  obtain⟨w',hw,rw'⟩:=RelO.some_of (v:=v) (o:=valueAt vs k) (by rw[l];exact rel.val k)
  exact wpAny_getItem_of (zri ry) dd.mapOf hw (h w' _ (I.tok _) rw')
 ·subst ey
  cases (show u=Value.ref b from ry)
  obtain⟨z,hd,xs,rel,dd⟩:=zux I.hok e
  obtain⟨w',hw,rw'⟩:=RelO.some_of (v:=v) (o:=(atKey xs k).map (·.2)) (by rw[l];exact rel.val k)
  obtain⟨p,hp,hp2⟩:=y07.mp hw
  refine wpAny_getItem_heap (tupleKind_room_in1 hu) (zp1 I.hok eb) dd hp ?_
  rw[hp2]
  exact h w' _ (I.tok _) rw'
theorem zpp {h':Heap} {t':Nat} {ob:HO} (I:Inv X pins σ H s) (mu:Mut (H a)) (hs:Heap.SameBut a s.heap h') (he:∃q,h'.get? a=some q) (new:z6e X.prog X.w (upd H a ob) h' a ob) :
  Inv X pins σ (upd H a ob) { s with heap:=h',toks:=t' } :=
 I.write (x:=a) (e:=a) mu (.inl rfl) (fun b q hb z=>(hs.2 b hb).trans z) he new
theorem zwy {P:y0r} {w:World} {H':Hp} {h':Heap} {kvs:List (Key×V)} {vs:List (Key×Value)} (z:kvs.length<=y0k) (hd:(a == sysModules)=false) (rel:KV kvs vs) (dd:h'.DictOf (z1u P w) a vs) :
  z6e P w H' h' a (.dK kvs):=⟨z,hd,vs,rel,dd⟩
theorem zif {H':Hp} {Q:Unit->y04->Prop} (hu:A.units+1<cLine) (I:Inv X pins σ H s) (g:DPut H a y v H') (ry:RelV y u) (rv:RelV v r) (h:∀s',Inv X pins σ H' s'->Q () s') :
  y0v (model X.prog X.w) A (setItem (.ref a) u r) Q E s:=by
 rcases g with ⟨kvs,k,e,ey,l,eH⟩|⟨kvs,k,b,e,ey,eb,l,eH⟩
 ·subst ey eH
  obtain⟨z,hd,vs,rel,dd⟩:=zy6 I.hok e
  have hz:vs.length<=y0k:=by rw[<- rel.length];exact z
  have hl:(putK kvs k v).length<=y0k:=by have:=zdl kvs k v;omega
  refine wpAny_setItem_pairs (hsz:=hz) (zri ry) dd fun h' dd' hs=>h _ ?_
  have he:∃q,h'.get? a=some q:=let ⟨q,_,_,hq,_⟩:=dd';⟨q,hq⟩
  exact zpp I (by rw[e];exact True.intro) hs he (zwy hl hd (rel.put k rv) dd')
 ·subst ey eH
  cases (show u=Value.ref b from ry)
  obtain⟨z,hd,xs,rel,dd⟩:=zy5 I.hok e
  have hz:xs.length<=y0k:=by rw[<- Paired.length rel];exact z
  have hl:(putK kvs k v).length<=y0k:=by have:=zdl kvs k v;omega
  refine wpAny_setItem_heap (hsz:=hz) (tupleKind_room_in1 hu) (zp1 I.hok eb) dd fun h' dd' hs=>h _ ?_
  obtain⟨q,es,ep,hq,h2,h3,h4,_,h5⟩:=dd'
  refine zpp I (by rw[e];exact True.intro) hs ⟨q,hq⟩ ⟨hl,hd,_,(rel.put k eb rv).keeps fun c ys ec=>?_,q,es,ep,hq,h2,h3,h4,h5⟩
  rw[z0d (zy0 ec e (fun z=>nomatch z))]
  exact ec
end
section
variable {X:Cx} {pins:List (Addr×Obj)} {σ:St} {H:Hp} {s:y04} {a:Addr} {kvs:List (Key×V)} {k:Key} {u:Value} {A:Around} {E:Value->y04->Prop}
end
def NoSl (i:Expr):Prop:=∀ov iv,subscripted i false ov iv=operate [ov,iv] (getItem ov iv)
theorem ztg {prog:y0r} {w:World} {A:Around} {E:Value->y04->Prop} {s:y04} {env:Env} {value slice:Expr} {pos:Pos} {T id:String} {Q:Value->y04->Prop}
  (hl:typeLookup (.type T) "__getitem__"=pure (some (.builtin id))) (hs:NoSl slice)
  (h:y0v (model prog w) A (eval value env) (fun o s₁=>y0v (model prog w) A (eval slice env) (fun i s₂=>s₂.TypeIs o T/\y0v (model prog w) A (getItem o i) Q E s₂) E s₁) E s) :
  y0v (model prog w) A (eval (.Subscript value slice pos) env) Q E s:=by
 refine Subscript_ (y1g h (fun o s₁ h₁=>y1g h₁ (fun i s₂ h₂=>?_) fun _ _ x=>x) fun _ _ x=>x)
 obtain⟨hT,h₂⟩:=h₂
 unfold subscriptTail
 refine y02 ?_
 rw[getitemInPython_of_ne hT.not_modules]
 refine y02 (wpAny_specialOf hT hl ?_)
 have fin:y0v (model prog w) A (subscripted slice false o i) (fun r s₃=>y0v (model prog w) A (letTemporaryGo value o r >>= fun _=>pure r) Q E s₃) E s₂:=by
  rw[hs o i]
  exact wpAny_operating (y1g h₂ (fun r s₃ h₃=>y02 (wpAny_letTemporaryGo (y06 h₃))) fun _ _ x=>x)
 first
  | exact y06 (y02 fin)
  | exact y02 (y06 (y02 fin))
  | exact y02 fin
theorem zkc {X:Cx} {pins:List (Addr×Obj)} {σ:St} {H:Hp} {s:y04} {a:Addr} {y:V} {o:Option V} (I:Inv X pins σ H s) (g:DGet H a y o):s.TypeIs (.ref a) "dict":=by
 rcases g with ⟨kvs,k,e,_,_⟩|⟨kvs,k,b,e,_,_,_⟩
 ·obtain⟨_,_,vs,_,dd⟩:=zuy I.hok e
  exact dd.typeIs
 ·obtain⟨_,_,xs,_,dd⟩:=zux I.hok e
  exact dd.typeIs
def zxh (td ty:TE):TE:=fun σ H Q=>td σ H fun x H1=>ty σ H1 fun y H2=>∃a v,x=.ref a/\DGet H2 a y (some v)/\Q v H2
def zxl (td ty tv:TE):TS:=fun D σ H=>tv σ H fun v H1=>td σ H1 fun x H2=>ty σ H2 fun y H3=>∃a H4,x=.ref a/\DPut H3 a y v H4/\D.nx σ H4
noncomputable def zxm (td ty tv:TE) (rd:V->V->Hp->VK->Prop):TS:=fun D σ H=>td σ H fun x H1=>ty σ H1 fun y H2=>∃a v,x=.ref a/\DGet H2 a y (some v) /\
 tv σ H2 fun y2 H3=>rd v y2 H3 fun z H4=>∃H5,DPut H4 a y z H5/\D.nx σ H5
section
variable {X:Cx} {o i e value:Expr} {pos pos' tpos:Pos} {td ty tv:TE}
theorem zu3 (hu:X.A.units+1<cLine) (ho:PE X o td) (hi:PE X i ty) (hs:NoSl i):PE X (.Subscript o i pos) (zxh td ty):=by
 intro pins s σ H Q I h
 refine ztg PySem.F.slot_dict_getitem.lookup hs (thn (ho pins s σ H _ I h) fun u s1 ⟨x,H1,I1,rx,q1⟩=>thn (hi pins s1 σ H1 _ I1 q1) fun iv s2 ⟨y,H2,I2,ry,a,v,ex,g,q2⟩=>?_)
 subst ex
 obtain rfl:u=Value.ref a:=rx
 exact⟨zkc I2 g,zih hu I2 g ry fun w' s3 I3 rw'=>⟨v,H2,I3,rw',q2⟩⟩
theorem ztw (hu:X.A.units+1<cLine) (ho:PE X o td) (hi:PE X i ty) (hv:PE X value tv) (hs:swapsWith value (some (.Subscript o i pos')) pos.line X.env=pure false) :
  PS X (.Assign [.Subscript o i pos'] value pos) (zxl td ty tv):=by
 intro pins s σ H D I h
 refine wpAny_Assign_Subscript (thn (hv pins s σ H _ I h) fun r s1 ⟨v,H1,I1,rv,q1⟩=>thn (ho pins s1 σ H1 _ I1 q1) fun u s2 ⟨x,H2,I2,rx,q2⟩=>thn (hi pins s2 σ H2 _ I2 q2) fun iv s3 ⟨y,H3,I3,ry,a,H4,ex,g,q3⟩=>?_) hs
 subst ex
 obtain rfl:u=Value.ref a:=rx
 exact zif hu I3 g ry rv fun s4 I4=>⟨σ,H4,I4,q3⟩
theorem ztx {op:Operator} {rd:V->V->Hp->VK->Prop} (hu:X.A.units+1<cLine) (ho:PE X o td) (hi:PE X i ty) (hv:PE X value tv) (hop:InOp X op rd)
  (ha:∀ov iv new,augStore i ov iv new=(do holding [new,ov,iv] (setItem ov iv new);release [new,ov,iv] [];pure .next)):PS X (.AugAssign (.Subscript o i tpos) op value pos) (zxm td ty tv rd):=by
 intro pins s σ H D I h
 refine wpAny_AugAssign_SubscriptAny (thn (ho pins s σ H _ I h) fun u s1 ⟨x,H1,I1,rx,q1⟩=>thn (hi pins s1 σ H1 _ I1 q1) fun iv s2 ⟨y,H2,I2,ry,a,v,ex,g,q2⟩=>?_) ha
 subst ex
 obtain rfl:u=Value.ref a:=rx
 refine zih hu I2 g ry fun w' s3 I3 rw'=>thn (hv pins s3 σ H2 _ I3 q2) fun w2 s4 ⟨y2,H3,I4,ry2,q3⟩=>thn (hop pins s4 σ H3 v y2 w' w2 _ I4 rw' ry2 q3) fun w3 s5 ⟨z,H4,I5,rz,H5,g5,q4⟩=>?_
 exact zif hu I5 g5 ry rz fun s6 I6=>⟨σ,H5,I6,q4⟩
end
section
variable {X:Cx} {pos:Pos}
end
section
variable {X:Cx} {pins:List (Addr×Obj)} {σ:St} {H:Hp} {s:y04} {a:Addr} {y d:V} {u r:Value} {o:Option V} {A:Around} {E:Value->y04->Prop}
end
section
variable {X:Cx} {o e f:Expr} {apos cpos:Pos} {td ty tx:TE}
end
section
variable {X:Cx} {pins:List (Addr×Obj)} {σ:St} {H:Hp} {s:y04} {a:Addr} {kvs:List (Key×V)} {A:Around} {E:Value->y04->Prop}
end
section
variable {X:Cx} {pins:List (Addr×Obj)} {σ:St} {H:Hp} {s:y04} {a:Addr} {y:V} {u:Value} {A:Around} {E:Value->y04->Prop}
end
end L2
end
section
namespace D
open PySem PySem.Spec PyProof.Rows L2
variable [Tbl]
section
variable {K:y00} {F:Addr->Prop} {H:Hp}
theorem RepD.get {k:D.Key} {t:T}:∀{kvs:List (D.Key×T)} {vs:List (D.Key×V)},RepD K F H kvs vs->D.getD kvs k=some t->∃v,valV vs k=some v/\Rep K F H t v
 | [],vs,h,e=>by cases e
 | p::r,vs,h,e=>by
  obtain⟨v,w,rfl,q,z⟩:=h
  simp only[D.getD,valV,y1x] at e ⊢
  by_cases e':p.1=k
  ·simp[e'] at e ⊢
   subst e
   exact q
  ·simp[e'] at e ⊢
   have:=RepD.get (k:=k) (t:=t) z (by simpa [D.getD] using e)
   simpa [valV] using this
theorem RepD.length:∀{kvs:List (D.Key×T)} {vs:List (D.Key×V)},RepD K F H kvs vs->kvs.length=vs.length
 | [],vs,h=>by
  have:vs=[]:=h
  subst this
  rfl
 | p::r,vs,h=>by
  obtain⟨v,w,rfl,q,z⟩:=h
  simp[RepD.length z]
theorem RepD.append:∀{kvs us:List (D.Key×T)} {vs ws:List (D.Key×V)},RepD K F H kvs vs->RepD K F H us ws->RepD K F H (kvs++us) (vs++ws)
 | [],us,vs,ws,h,r=>by
  have:vs=[]:=h
  subst this
  exact r
 | p::q,us,vs,ws,h,r=>by
  obtain⟨v,w,rfl,q',z⟩:=h
  exact⟨v,w++ws,rfl,q',RepD.append z r⟩
theorem RepD.mapPut {k:D.Key} {t:T} {v:V}:∀{kvs:List (D.Key×T)} {vs:List (D.Key×V)},RepD K F H kvs vs->Rep K F H t v->RepD K F H (kvs.map fun p=>if p.1=k then (k,t) else p) (vs.map fun kv=>if kv.1=k then (kv.1,v) else kv)
 | [],vs,h,q=>by
  have:vs=[]:=h
  subst this
  rfl
 | p::r,vs,h,q=>by
  obtain⟨v',w,rfl,q',z⟩:=h
  simp only[y0e]
  by_cases e:p.1=k
  ·rw[if_pos e,if_pos e]
   exact⟨v,_,by rw[e],q,RepD.mapPut z q⟩
  ·rw[if_neg e,if_neg e]
   exact⟨v',_,rfl,q',RepD.mapPut z q⟩
theorem RepD.put {k:D.Key} {t:T} {v:V} {kvs:List (D.Key×T)} {vs:List (D.Key×V)} (h:RepD K F H kvs vs) (q:Rep K F H t v):RepD K F H (putD kvs k t) (putK vs k v):=by
 have ha:(kvs.any fun p=>decide (p.1=k))=(vs.any fun kv=>decide (kv.1=k)):=by
  clear q
  induction kvs generalizing vs with
  | nil =>
   have:vs=[]:=h
   subst this
   rfl
  | cons p r ih =>
   obtain⟨v,w,rfl,q',z⟩:=h
   simp only[List.any_cons,ih z]
 unfold putD putK
 rw[ha]
 split
 ·exact RepD.mapPut h q
 ·exact h.append ⟨v,[],rfl,q,rfl⟩
theorem za3 {t:T} {k:D.Key} {v:V} {O:Addr->Prop} (e:z6d t=some k) (r:RepR K O F H t v):v=kV k:=by
 unfold z6d at e
 split at e
 ·cases e
  exact r.int
 ·cases e
  exact r.str
 ·cases e
end
section
variable {X:Cx} {a b e:Expr} {f g:Fe} {pos:Pos}
variable {x:Str} {px:Pos}
end
end D
end
section
namespace D
open PySem
variable [Tbl]
end D
end
section
namespace D
open PySem PySem.Spec PyProof.Rows L2
section
variable [Tbl]
theorem zst {α β:Type} {R:α->β->Prop}:∀{l:List α} {ks:List β},Paired R l ks->l.length=ks.length
 | _,_,.nil=>rfl
 | _,_,.cons a b=>by simp[zst b]
section
variable {prog:y0r} {w:World} {K:Type} [DecidableEq K] (knd:PySem.KeyKind prog w K)
variable {knd} {A:Around} {E:Value->y04->Prop} {s:y04}
def IsV (knd:PySem.KeyKind prog w K) (v:Value) (k:K):Prop:=knd.is k v=true/\v.scannable=true
section
variable {R:Result->y04->Prop} {I:Addr} {fp wr:List Addr} {G:Array GenState->Array GenState->Prop} {St:Nat->y04->Prop} {items:Array Value}
end
end
end
section
variable [Tbl]
section
variable {prog:y0r} {w:World} {A:Around} {E:Value->y04->Prop} {s:y04}
end
section
variable {prog:y0r} {w:World} {A:Around} {E:Value->y04->Prop} {s:y04}
variable {a I:Addr} {es:Array (Int×Value)} {ep:Nat} {t:SetTable}
end
end
section
variable [Tbl]
section
variable {prog:y0r} {w:World} {A:Around} {E:Value->y04->Prop} {s:y04}
variable {a I:Addr} {es:Array (Int×Value)} {ep:Nat} {t:SetTable}
end
end
section
variable [Tbl]
section
variable {prog:y0r} {w:World} {K:Type} [DecidableEq K] {knd:PySem.KeyKind prog w K} {A:Around} {E:Value->y04->Prop} {s:y04} {a:Addr} {ks:List K}
theorem zke {R:List Value->y04->Prop} {T:String} {r d:Addr} {n:Nat} {P:Nat->Value->Prop} {OK:Heap->Prop} (W:PySem.W.KdlSrc prog w T r d n P OK) (hh:A.handled=none) (hok:OK s.heap) (hn:n<=y0k)
  (h:∀(h':Heap) (tk:Nat) (acc:Array Value),(∀b o,s.heap.get? b=some o->h'.get? b=some o)->s.heap.objs.size<=h'.objs.size->ItemsOf P acc n->R acc.toList { s with heap:=h',toks:=tk }) :
  y0v (model prog w) A (collect (.ref r)) R E s:=by
 have hlt:=W.there _ hok
 unfold collect
 refine y02 (wpAny_runValue (codeAny_builtin entry_proto_collect' ?_))
 rw[y22 PySem.F.plain_proto_collect _]
 show y0v _ A.in1 (newList [] >>= fun l=>again (.builtin "list.__iadd__" ⟨[l,.ref r],[]⟩)) _ _ s
 refine y02 (wpAny_newObj_type ?_)
 refine y06 ⟨plainId_quiet PySem.F.plain_list_iadd _,codeAny_builtin entry_list_iadd' ?_⟩
 rw[y22 PySem.F.plain_list_iadd _]
 have hS₁:(s.heap.push { cls:=.type "list",data:=.seq ([]:List Value).toArray }).get? s.heap.objs.size=some { cls:=.type "list",data:=.seq #[] }:=y0m _ rfl
 show y0v _ A.in1 (Builtin.List.listExtendWith (.ref s.heap.objs.size) (.ref r) (.ref s.heap.objs.size)) _ _ _
 have key:=PySem.W.kdl_extend (A:=A) (s:={ s with heap:=s.heap.push { cls:=.type "list",data:=.seq ([]:List Value).toArray } })
  (R:=fun (q:Result) (s':y04)=>∃(h':Heap) (tk:Nat) (acc':Array Value) (c':Nat),q=.ok (.ret (.ref s.heap.objs.size))/\s'={ s with heap:=h',toks:=tk } /\
   (∀b o,s.heap.get? b=some o->h'.get? b=some o)/\h'.get? s.heap.objs.size=some { cls:=.type "list",dict:=none,data:=.seq acc' c',slots:=#[] }/\ItemsOf P acc' n)
  W hh (W.keep _ _ hok fun b _ o e=>y03 _ e) s.heap.objs.size (y18 hlt.1) (y18 hlt.2) (.ref s.heap.objs.size) 0 hS₁
  (fun h' tk acc' c' hk hS' hacc=>⟨h',tk,acc',c',rfl,rfl,fun b o e=>hk b o (y10 (y0c e)) (y03 _ e),hS',hacc⟩) hn
 refine y1g key (fun fin s' x=>?_) fun e s' x=>?_
 ·cases fin with
  | done f =>
   obtain⟨h',tk,acc',c',e,rfl,hk,hS',hacc⟩:=x
   cases e
   show y0v _ A (load s.heap.objs.size >>= _) _ _ _
   refine y02 (wpAny_load hS' ?_)
   exact y06 (h h' tk acc' hk (Nat.le_of_lt (y0c hS')) hacc)
  | again c₁ =>
   refine⟨x.1,codeAny_mono x.2 fun q s₂ y=>?_⟩
   obtain⟨h',tk,acc',c',rfl,rfl,hk,hS',hacc⟩:=y
   show y0v _ A (load s.heap.objs.size >>= _) _ _ _
   refine y02 (wpAny_load hS' ?_)
   exact y06 (h h' tk acc' hk (Nat.le_of_lt (y0c hS')) hacc)
 ·obtain⟨_,_,_,_,e',_⟩:=x
  cases e'
end
end
section
variable [Tbl]
theorem z7j {α:Type} {r:α->α->Prop} (anti:∀a b,r a b->r b a->a=b):∀{l m:List α},l.Perm m->l.Pairwise r->m.Pairwise r->l=m
 | [],m,p,_,_=>(List.Perm.nil_eq p)
 | a::l,m,p,h1,h2=>by
  cases m with
  | nil=>exact absurd p.length_eq (by simp)
  | cons b m =>
   have hab:a=b:=by
    have ha:a∈b::m:=p.mem_iff.mp (by simp)
    have hb:b∈a::l:=p.mem_iff.mpr (by simp)
    rcases y09.mp ha with q|q
    ·exact q
    ·rcases y09.mp hb with z|z
     ·exact z.symm
     ·exact anti a b ((y1b.mp h1).1 b z) ((y1b.mp h2).1 a q)
   subst hab
   rw[z7j anti (List.perm_cons a |>.mp p) (y1b.mp h1).2 (y1b.mp h2).2]
theorem zdw (x:Int):∀l:List Int,(insI x l).Perm (x::l)
 | []=>.rfl
 | y::ys=>by
  unfold insI
  split
  ·exact .rfl
  ·exact ((zdw x ys).cons y).trans (.swap _ _ _)
theorem z8x:∀l:List Int,(zh7 l).Perm l
 | []=>.rfl
 | x::xs=>(zdw x _).trans ((z8x xs).cons x)
theorem zpa (x:Int):∀{l:List Int},l.Pairwise (·<=·)->(insI x l).Pairwise (·<=·)
 | [],_=>by simp[insI]
 | y::ys,h=>by
  unfold insI
  have h':=y1b.mp h
  split
  next q=>exact y1b.mpr ⟨fun z hz=>by
   rcases y09.mp hz with rfl|hz
   ·exact q
   ·exact Int.le_trans q (h'.1 z hz),h⟩
  next q=>exact y1b.mpr ⟨fun z hz=>by
   rcases y09.mp ((zdw x ys).mem_iff.mp hz) with rfl|hz
   ·omega
   ·exact h'.1 z hz,zpa x h'.2⟩
theorem zg1:∀l:List Int,(zh7 l).Pairwise (·<=·)
 | []=>.nil
 | x::xs=>zpa x (zg1 xs)
theorem zl2 {l m:List Int} (p:l.Perm m) (h:l.Pairwise (·<=·)):l=zh7 m:=z7j (fun a b h1 h2=>Int.le_antisymm h1 h2) (p.trans (z8x m).symm) h (zg1 m)
theorem zjk {l m:List Int} (p:l.Perm m):zh7 l=zh7 m:=zl2 ((z8x l).trans p) (zg1 l)
abbrev sLe (x y:Str):Prop:=z6c y x=false
theorem zqi (x y:Str):z6c x y=ltCps x.cps.toList y.cps.toList:=(ltCps_eq _ _).symm
theorem zny {x y:Str} (h:z6c x y=true):sLe x y:=by
 unfold sLe z6c at *
 simp only[decide_eq_true_eq,decide_eq_false_iff_not] at *
 exact List.lt_asymm h
theorem zhd {x y z:Str} (h1:sLe x y) (h2:sLe y z):sLe x z:=by
 unfold sLe z6c at *
 simp only[decide_eq_false_iff_not] at *
 exact List.not_lt.mpr (List.le_trans (List.not_lt.mp h1) (List.not_lt.mp h2))
theorem zqs {x y:Str} (h1:sLe x y) (h2:sLe y x):x=y:=by
 unfold sLe z6c at *
 simp only[decide_eq_false_iff_not] at *
 have e:x.cps.toList=y.cps.toList:=List.le_antisymm (List.not_lt.mp h1) (List.not_lt.mp h2)
 cases x
 cases y
 simp only[Array.toList_inj] at e
 exact congrArg _ e
theorem zdv (x:Str):∀l:List Str,(insS x l).Perm (x::l)
 | []=>.rfl
 | y::ys=>by
  unfold insS
  split
  ·exact .rfl
  ·exact ((zdv x ys).cons y).trans (.swap _ _ _)
theorem z5o:∀l:List Str,(z85 l).Perm l
 | []=>.rfl
 | x::xs=>(zdv x _).trans ((z5o xs).cons x)
theorem zp9 (x:Str):∀{l:List Str},l.Pairwise sLe->(insS x l).Pairwise sLe
 | [],_=>by simp[insS]
 | y::ys,h=>by
  unfold insS
  have h':=y1b.mp h
  split
  next q =>
   have q':sLe x y:=by simpa [sLe] using q
   exact y1b.mpr ⟨fun z hz=>by
    rcases y09.mp hz with rfl|hz
    ·exact q'
    ·exact zhd q' (h'.1 z hz),h⟩
  next q =>
   have q':z6c y x=true:=by simpa using q
   exact y1b.mpr ⟨fun z hz=>by
    rcases y09.mp ((zdv x ys).mem_iff.mp hz) with rfl|hz
    ·exact zny q'
    ·exact h'.1 z hz,zp9 x h'.2⟩
theorem zg0:∀l:List Str,(z85 l).Pairwise sLe
 | []=>.nil
 | x::xs=>zp9 x (zg0 xs)
theorem zl1 {l m:List Str} (p:l.Perm m) (h:l.Pairwise sLe):l=z85 m:=z7j (fun a b h1 h2=>zqs h1 h2) (p.trans (z5o m).symm) h (zg0 m)
theorem zjj {l m:List Str} (p:l.Perm m):z85 l=z85 m:=zl1 ((z5o l).trans p) (zg0 l)
theorem zf1:∀(l:List Str) (p:Str),risingS p l=true->(p::l).Pairwise sLe
 | [],p,_=>by simp
 | x::r,p,h=>by
  simp only[risingS,y1e,Bool.not_eq_true'] at h
  have ih:=zf1 r x h.2
  have hpx:sLe p x:=by
   unfold sLe
   rw[zqi]
   exact h.1
  refine y1b.mpr ⟨fun z hz=>?_,ih⟩
  rcases y09.mp hz with rfl|hz
  ·exact hpx
  ·exact zhd hpx ((y1b.mp ih).1 z hz)
theorem zma {l:List Str} (h:sortedS l=true):l.Pairwise sLe:=by
 cases l with
 | nil=>exact .nil
 | cons x r=>exact zf1 r x h
section
variable {K:Type} [DecidableEq K]
end
end
section
variable [Tbl]
section
variable {prog:y0r} {w:World} {A:Around} {E:Value->y04->Prop} {s:y04}
inductive Srt:List Value->List Value->Prop where
 | ofI {vs out:List Value} {ns:List Int}:IntsAre vs ns->IntsAre out (zh7 ns)->Srt vs out
 | ofS {vs out:List Value} {ss:List Str}:StrsAre vs ss->StrsAre out (z85 ss)->Srt vs out
def zgy (vs:List Value):Prop:=vs.length<64/\((∃ns,IntsAre vs ns)\/∃ss,StrsAre vs ss)
theorem zfz {h:Heap} {a:Addr} {vs:List Value} {n:Nat} {out:Array Value} (ho:h.get? a=some (seqObj "list" vs.toArray n)) :
  (∃e,(sortedHeap h a vs out).get? a=some (seqObj "list" out e))/\∀b o,b≠a->h.get? b=some o->(sortedHeap h a vs out).get? b=some o:=by
 have hlt:=y0c ho
 unfold sortedHeap
 refine⟨?_,fun b o hb e=>?_⟩
 ·have h1:=get?_update_seq ho (fun _=>(#[]:Array Value))
  have h2:=y03 (seqObj "tuple" vs.toArray 0) h1
  have h3:=y03 (seqObj "list" #[] 0) h2
  exact⟨_,get?_update_seq h3 (fun _=>out)⟩
 ·rw[Heap.get?_update_other _ _ (Ne.symm hb)]
  exact y03 _ (y03 _ ((Heap.get?_update_other _ _ (Ne.symm hb)).trans e))
theorem znq {a:Addr} {vs:List Value} {n:Nat} {P:Fin->y04->Prop} (ho:s.heap.get? a=some (seqObj "list" vs.toArray n)) (hs:zgy vs)
  (h:∀out:Array Value,Srt vs out.toList->P (.done (.ret .none)) { s with heap:=sortedHeap s.heap a vs out }):y0v (model prog w) A (Builtin.«list.sort» ⟨[.ref a],[]⟩) P E s:=by
 obtain⟨h64,⟨ns,hI⟩|⟨ss,hS⟩⟩:=hs
 ·refine list_sort_tree ho hI h64 fun out ns' a1 a2 a3=>h out (.ofI hI ?_)
  rw[<- zl2 a2 a3]
  exact a1
 ·refine list_sort_treeK strKind_oneLt ho hS.keysOf (fun v₁ v₂ rest e=>keyKind_strs (by rw[<- e];exact hS)) h64 fun st' hp hs=>?_
  obtain⟨ss',h1,h2,h3⟩:=sorted_out_str hS hp hs
  refine h _ (.ofS hS ?_)
  rw[<- zl1 h2 (zma h3)]
  exact h1
theorem zji {r:Addr} {C:List Value->Prop} {Q:Value->y04->Prop}
  (hcol:∀(E':Value->y04->Prop) (R:List Value->y04->Prop),(∀h' tk d vs,(∀b o,s.heap.get? b=some o->h'.get? b=some o)->s.heap.objs.size<=h'.objs.size->C vs->R vs { s with heap:=h',toks:=tk,drawn:=d })->y0v (model prog w) A.in1 (collect (.ref r)) R E' s)
  (hC:∀vs,C vs->zgy vs)
  (h:∀h' tk d D e vs out,C vs->Srt vs out->(∀b o,s.heap.get? b=some o->h'.get? b=some o)->s.heap.objs.size<=D->h'.get? D=some (seqObj "list" out.toArray e)->Q (.ref D) { s with heap:=h',toks:=tk,drawn:=d }) :
  y0v (model prog w) A (call (.builtin "sorted") [.ref r]) Q E s:=by
 refine Calls.call_function_entry kind_sorted plain_sorted entry_sorted (args_sorted1 _) ?_
 unfold Builtin.«sorted»
 refine y02 (m:=checkCount "sorted" 1 1 _) (y06 ?_)
 refine y02 (hcol _ _ fun h' tk d vs kp hsz c=>?_)
 have hs:=hC vs c
 have hz:vs.length<=y0k:=by
  have:=hs.1
  rw[sizeLine_eq]
  omega
 refine y02 (wpAny_newList ?_ hz)
 have hoL:(h'.push (seqObj "list" vs.toArray 0)).get? h'.objs.size=some (seqObj "list" vs.toArray 0):=y0m _ rfl
 refine y02 (wpAny_holding (wpAny_call_entry slot_list_sort ⟨_,hoL,rfl⟩ entry_list_sort (znq hoL hs fun out so=>⟨_,rfl,?_⟩) (args_list_sort _)))
 obtain⟨⟨e,he⟩,hk⟩:=zfz (out:=out) hoL
 refine y06 ⟨_,rfl,?_⟩
 exact h _ tk d h'.objs.size e vs out.toList c so (fun b o q=>hk b o (y10 (y0c (kp b o q))) (y03 _ (kp b o q))) hsz he
end
section
variable {X:Cx} {pins:List (Addr×Obj)} {σ:L2.St} {H:Hp} {s:y04}
theorem zds {a:Addr} {o:HO} {t':Nat} {d':Drawn} {h':Heap} (I:Inv X pins σ H s) (k:∀b u,s.heap.get? b=some u->h'.get? b=some u) (hp:s.heap.objs.size<=a) (new:z6e X.prog X.w (upd H a o) h' a o) :
  Inv X pins σ (upd H a o) { s with heap:=h',toks:=t',drawn:=d' } :=
 I.call (ch:=[]) (g':=s.gens) (Un.laid k hp (I.hok.fresh hp)) (I.hok.laid k hp new) I.bare fun _ z=>nomatch z
theorem zdt:∀{us:List Value} {ns:List Int},IntsAre us ns->Vals (ns.map V.int) us
 | _,_,.nil=>.nil
 | _,_,.cons n t r=>.cons ⟨t,rfl⟩ (zdt r)
theorem zcs:∀{us:List Value} {ss:List Str},StrsAre us ss->Vals (ss.map V.str) us
 | _,_,.nil=>.nil
 | _,_,.cons n t r=>.cons ⟨t,rfl⟩ (zcs r)
theorem zcq:∀{us:List Value} {ks:List L2.Key},Vals (ks.map kV) us->Paired (IsV (z1u X.prog X.w)) us ks
 | [],[],_=>.nil
 | _,.inl i::ks,.cons r rs=>by
  obtain⟨t,rfl⟩:=r
  exact .cons ⟨zdh _ _ i t,rfl⟩ (zcq rs)
 | _,.inr x::ks,.cons r rs=>by
  obtain⟨t,rfl⟩:=r
  exact .cons ⟨zdg _ _ x t,rfl⟩ (zcq rs)
theorem zdq:∀{us:List Value} {ks:List L2.Key} {ns:List Int},Paired (IsV (z1u X.prog X.w)) us ks->ks=ns.map Sum.inl->IntsAre us ns
 | _,_,[],.nil,_=>.nil
 | _,_,n::ns,.cons a b,e=>by
  cases e
  have a1:=a.1
  rw[zfi] at a1
  rcases z25 a1 with ⟨i,t,e1,rfl⟩|⟨x,t,e1,rfl⟩
  ·cases e1
   exact .cons _ t (zdq b rfl)
  ·cases e1
theorem zdo:∀{us:List Value} {ks:List L2.Key} {ss:List Str},Paired (IsV (z1u X.prog X.w)) us ks->ks=ss.map Sum.inr->StrsAre us ss
 | _,_,[],.nil,_=>.nil
 | _,_,n::ns,.cons a b,e=>by
  cases e
  have a1:=a.1
  rw[zfi] at a1
  rcases z25 a1 with ⟨i,t,e1,rfl⟩|⟨x,t,e1,rfl⟩
  ·cases e1
  ·cases e1
   exact .cons _ t (zdo b rfl)
theorem z6h {α β:Type} (f:α->β):∀{l:List α} {m:List β},m.Perm (l.map f)->∃l':List α,m=l'.map f/\l'.Perm l:=by
 intro l m p
 generalize hx:l.map f=lf at p
 induction p generalizing l with
 | nil =>
  rw[List.map_eq_nil_iff] at hx
  subst hx
  exact⟨[],rfl,.rfl⟩
 | cons x _ ih =>
  cases l with
  | nil=>cases hx
  | cons a r =>
   simp only[y0e,List.cons.injEq] at hx
   obtain⟨l',e,q⟩:=ih hx.2
   exact⟨a::l',by rw[y0e,hx.1,e],q.cons a⟩
 | swap x y r =>
  match l,hx with
  | a::b::r',hx =>
   simp only[y0e,List.cons.injEq] at hx
   exact⟨b::a::r',by rw[y0e,y0e,hx.1,hx.2.1,hx.2.2],.swap _ _ _⟩
 | trans _ _ i1 i2 =>
  obtain⟨l1,e1,q1⟩:=i2 hx
  obtain⟨l2,e2,q2⟩:=i1 e1.symm
  exact⟨l2,e2,q2.trans q1⟩
def zqm (ks:List L2.Key) (ys:List V):Prop:=(∃ns:List Int,ks=ns.map Sum.inl/\ys=(zh7 ns).map V.int)\/∃ss:List Str,ks=ss.map Sum.inr/\ys=(z85 ss).map V.str
theorem zql {vs out:List Value} {ks ks':List L2.Key} {ys:List V} (hv:Paired (IsV (z1u X.prog X.w)) vs ks') (hp:ks'.Perm ks) (so:Srt vs out) (hk:zqm ks ys):Vals ys out:=by
 rcases hk with ⟨ns,rfl,rfl⟩|⟨ss,rfl,rfl⟩
 ·obtain⟨ns',rfl,hp'⟩:=z6h Sum.inl hp
  have hI:=zdq hv rfl
  cases so with
  | ofI a b =>
   rename_i ms
   rw[<- zjk hp',show ns'=ms from ?_]
   ·exact zdt b
   ·rw[<- IntsAre.numsOf hI,<- IntsAre.numsOf a]
  | ofS a b =>
   cases a with
   | nil =>
    cases hI
    have:ns=[]:=List.Perm.eq_nil hp'.symm
    subst this
    exact zcs b
   | cons x t _=>cases hI
 ·obtain⟨ss',rfl,hp'⟩:=z6h Sum.inr hp
  have hS:=zdo hv rfl
  cases so with
  | ofS a b =>
   rename_i ms
   rw[<- zjj hp',show ss'=ms from ?_]
   ·exact zcs b
   ·rw[<- StrsAre.strs hS,<- StrsAre.strs a]
  | ofI a b =>
   cases a with
   | nil =>
    cases hS
    have:ss=[]:=List.Perm.eq_nil hp'.symm
    subst this
    exact zdt b
   | cons x t _=>cases hS
theorem zgm {vs:List Value} {ks ks':List L2.Key} {ys:List V} (hz:ks.length<64) (hv:Paired (IsV (z1u X.prog X.w)) vs ks') (hp:ks'.Perm ks) (hk:zqm ks ys):zgy vs:=by
 refine⟨by rw[zst hv,hp.length_eq];exact hz,?_⟩
 rcases hk with ⟨ns,rfl,_⟩|⟨ss,rfl,_⟩
 ·obtain⟨ns',rfl,_⟩:=z6h Sum.inl hp
  exact .inl ⟨_,zdq hv rfl⟩
 ·obtain⟨ss',rfl,_⟩:=z6h Sum.inr hp
  exact .inr ⟨_,zdo hv rfl⟩
theorem znr {ks:List L2.Key} {ys:List V} (h:zqm ks ys):ys.length=ks.length:=by
 rcases h with ⟨ns,rfl,rfl⟩|⟨ss,rfl,rfl⟩
 ·simp[(z8x ns).length_eq]
 ·simp[(z5o ss).length_eq]
theorem zoz:∀{kvs:List (L2.Key×V)} {vs:List (L2.Key×Value)},KV kvs vs->kvs.map (·.1)=vs.map (·.1)
 | _,_,.nil=>rfl
 | _,_,.cons a b=>by simp[a.1,zoz b]
theorem zin (hc:X.calm=true):zbt X (.builtin "sorted") (fun xs H Q=>∃p ks ys,xs=[.ref p]/\SqL X.K H p (ks.map kV)/\ks.length<64/\zqm ks ys/\∀l,H l=none->Q (.ref l) (upd H l (.lst ys))):=by
 intro pins s σ H xs us Q I r h
 obtain⟨p,ks,ys,rfl,hq,hz,hk,q⟩:=h
 obtain⟨u,rfl,rx⟩:=zm4 r
 cases rx
 obtain⟨its,r',pl,hz'⟩:=I.list hq
 have hlen:=r'.length
 rw[y16] at hlen
 have hit:Paired (IsV (z1u X.prog X.w)) its ks:=zcq (by simpa using r')
 refine zji (C:=fun us=>us=its) (fun E' R hR=>collect_list pl.isList (hR _ s.toks s.drawn its (fun b o e=>?_) ?_ rfl) (by rw[sizeLine_eq];omega)) (fun us hu=>by subst hu;exact zgm hz hit .rfl hk) fun h' tk d D e us out hu so kp hD he=>?_
 ·exact (Heap.get?_update_other _ _ (y18 (y0c e))).trans (y03 _ e)
 ·rw[Heap.size_update,y1a]
  exact y2p _
 ·subst hu
  exact⟨.ref D,_,zds I (o:=.lst ys) kp hD ⟨by rw[znr hk,sizeLine_eq];omega,out,e,zql hit .rfl so hk,he⟩,rfl,q _ (I.hok.fresh hD)⟩
end
end
section
variable [Tbl]
theorem zct:∀{ts:List T} {ss:List Str},zcu ts=some ss->ts=ss.map .str
 | [],ns,e=>by
  cases e
  rfl
 | t::ts,ns,e=>by
  unfold zcu at e
  split at e
  ·rename_i h
   cases h
  ·rename_i h
   cases h
   simp only[y07] at e
   obtain⟨r,e1,rfl⟩:=e
   rw[zct e1]
   rfl
  ·cases e
section
variable {K:y00} {F:Addr->Prop} {H:Hp}
theorem zhf:∀(ns:List Int),RepL K F H (ns.map .int) (ns.map V.int)
 | []=>RepL.nil
 | n::ns=>RepL.cons (by simp[Rep]) (zhf ns)
theorem zcz:∀(ns:List Str),RepL K F H (ns.map .str) (ns.map V.str)
 | []=>RepL.nil
 | n::ns=>RepL.cons (by simp[Rep]) (zcz ns)
theorem zb8:∀{ns:List Str} {vs:List V},RepL K F H (ns.map .str) vs->vs=ns.map V.str
 | [],vs,h=>by simpa [RepL] using h
 | n::ns,vs,h=>by
  simp only[y0e,RepL,Rep] at h
  obtain⟨v,r,rfl,rfl,z⟩:=h
  rw[zb8 z]
  rfl
end
section
variable {X:Cx} {a e:Expr} {es:List Expr} {f:Fe} {fs:List Fe} {p p2 pos pos2:Pos}
end
section
variable {prog:y0r} {w:World} {A:Around} {E:Value->y04->Prop} {s:y04}
end
section
variable {X:Cx} {e st:Expr} {te:TE} {f:Fe} {pos p2:Pos}
end
end
section
variable [Tbl]
section
variable {prog:y0r} {w:World} {K:Type} [DecidableEq K] {knd:PySem.KeyKind prog w K} {A:Around} {E:Value->y04->Prop} {s:y04}
end
end
section
variable [Tbl]
section
variable {X:Cx} {a b e:Expr} {es rest:List Expr} {f g:Fe} {fs:List Fe} {p p2 pos pos2:Pos}
theorem zo8 {op:BoolOp} (h:PEv X a f):PEv X (.BoolOp op [a] pos) f:=zsr h
theorem zxq {op:BoolOp} (h:PEv X a f):PEv X (.BoolOp op [a] pos) f:=zsr h
theorem zqz (ha:PEv X a f) (hb:PEv X (.BoolOp .And (b::rest) pos) g):PEv X (.BoolOp .And (a::b::rest) pos) (andV f g):=z17 (zwd ha hb) fun σ H Q ⟨F₀,H₀,O,F,ε,t,r,e,k⟩=>by
 simp only[andV,y01] at e
 obtain⟨x,ex,e⟩:=e
 refine⟨F₀,H₀,O,F,ε,x,r,ex,fun v F1 H1 x1 rx=>?_⟩
 split at e
 ·simp only[Rep] at rx
  refine⟨true,rx,?_⟩
  rw[if_pos rfl]
  exact⟨F₀,H₀,O,F1,ε,t,r.ext x1,e,fun v F' H' x2 q=>k v F' H' (x1.trans x2) q⟩
 ·cases e
  simp only[Rep] at rx
  refine⟨false,rx,?_⟩
  rw[if_neg (by decide)]
  exact k _ F1 H1 x1 (by simp[Rep])
 ·cases e
theorem q_or (ha:PEv X a f) (hb:PEv X (.BoolOp .Or (b::rest) pos) g):PEv X (.BoolOp .Or (a::b::rest) pos) (orV f g):=z17 (zxw ha hb) fun σ H Q ⟨F₀,H₀,O,F,ε,t,r,e,k⟩=>by
 simp only[orV,y01] at e
 obtain⟨x,ex,e⟩:=e
 refine⟨F₀,H₀,O,F,ε,x,r,ex,fun v F1 H1 x1 rx=>?_⟩
 split at e
 ·simp only[Rep] at rx
  refine⟨false,rx,?_⟩
  rw[if_neg (by decide)]
  exact⟨F₀,H₀,O,F1,ε,t,r.ext x1,e,fun v F' H' x2 q=>k v F' H' (x1.trans x2) q⟩
 ·cases e
  simp only[Rep] at rx
  refine⟨true,rx,?_⟩
  rw[if_pos rfl]
  exact k _ F1 H1 x1 (by simp[Rep])
 ·cases e
def tOt (K:y00) (f:Ev->Option (Option Int)):TO:=fun σ H Q=>∃F₀ H₀ O F ε i,RelE K F₀ H₀ O F H ε σ/\f ε=some i/\∀F' H',Ext F H F' H'->Q i H'
theorem zta {x:Option Expr} {t t':TO} (h:PO X x t) (k:∀σ H Q,t' σ H Q->t σ H Q):PO X x t':=fun pins s σ H Q I q=>h pins s σ H Q I (k σ H Q q)
theorem zwl:PO X none (tOt X.K optN):=zta ztz fun σ H Q ⟨F₀,H₀,O,F,ε,i,r,e,k⟩=>by
 cases e
 exact k F H (Ext.refl r.dom)
theorem zwk (h:PEr X a f):PO X (some a) (tOt X.K (opt f)):=zta (zty h) fun σ H Q ⟨F₀,H₀,O,F,ε,i,r,e,k⟩=>by
 simp only[opt,y01] at e
 obtain⟨x,ex,e⟩:=e
 refine⟨F₀,H₀,O,F,ε,x,r,ex,fun v F1 H1 x1 rx=>?_⟩
 split at e
 ·cases e
  exact⟨_,rx.int,k F1 H1 x1⟩
 ·cases e
noncomputable def rSlW (K:y00):V->Option Int->Option Int->Hp->VK->Prop:=fun x lo hi H Q=>∃a xs,x=.ref a/\SqT K H a xs/\(HT.sIx xs.length 0 lo=0/\HT.sIx xs.length xs.length hi=xs.length)/\Q (.ref a) H
theorem za5 {prog:y0r} {w:World} {A:Around} {E:Value->y04->Prop} {s:y04} {t sl:Addr} {items:Array Value} {vl vu:Value} {lo hi:Option Int} {Q:Value->y04->Prop} (ht:IsTup s.heap t items) (hs:s.heap.IsSliceOf sl vl vu .none) (pl:IsPart vl lo) (pu:IsPart vu hi)
  (hw:HT.sIx items.size 0 lo=0/\HT.sIx items.size items.size hi=items.size) (h:Q (.ref t) s):y0v (model prog w) A (getItem (.ref t) (.ref sl)) Q E s:=by
 obtain⟨os,hos,hcs,hds⟩:=id hs
 have hTs:s.TypeIs (.ref sl) "slice":=⟨os,hos,hcs⟩
 unfold getItem
 try with_reducible refine wpAny_holding ?_
 first|refine y02 (y06 ?_)|skip
 refine y02 (wpAny_sequenceKey ht.typeIs (by decide) ?_)
 refine y02 (wpAny_callSpecial?_slot (name:=Str.ofString "__getitem__") ht.typeIs y1k
  (wpAny_call_entry y1k ht.typeIs entry_tuple_getitem ?_ (args_tuple_getitem _ _)))
 show y0v _ _ (Builtin.Tuple.tupleItemsOf (.ref t) >>= _) _ _ s
 refine y02 (tupleItemsOf_ ht ?_)
 refine y02 (wpAny_typeOf hTs ?_)
 rw[if_pos (by decide)]
 refine y02 (HT.sliceApplied_gen hs pl pu ?_)
 rw[hw.1,hw.2]
 show y0v _ _ (if (((0:Nat):Int) == 0 && (1:Int) == 1 && (items.size - 0) == items.size)=true then _ else _) _ _ s
 rw[if_pos (by simp)]
 unfold Builtin.Tuple.tupleIsExact
 refine y02 (y02 (wpAny_typeOf ht.typeIs (y06 ?_)))
 rw[if_pos (by decide)]
 refine y02 (wpAny_rule ?_)
 exact y06 ⟨_,rfl,y06 h⟩
theorem zqo:SlR X (rSlW X.K):=by
 intro pins s σ H x v vl vu lo hi sl Q I rx hs pl pu h
 obtain⟨a,xs,rfl,hx,hw,q⟩:=h
 cases rx
 obtain⟨its,r,ht,hz⟩:=I.tuple hx
 have hlen:its.toArray.size=xs.length:=by rw[y0i];exact r.length.symm
 refine⟨"tuple",_,PyProof.Rows.slot_tuple_getitem.lookup,ht.typeIs,?_⟩
 exact za5 ht hs pl pu (by rw[hlen];exact hw) ⟨.ref a,H,I,rfl,q⟩
theorem zvo (n d:Nat) (o:Option Int):D.sIx n d o=HT.sIx n d o:=by
 cases o with
 | none=>rfl
 | some v =>
  unfold D.sIx HT.sIx
  dsimp only
  split <;> omega
theorem zga {K:y00} {F:Addr->Prop} {H:Hp} {ts:List T} {vs:List V} (h:RepL K F H ts vs) (lo hi:Option Int):RepL K F H (cutZ ts lo hi) (cutV vs lo hi):=by
 unfold cutZ cutV
 simp only[zvo,h.length]
 exact (h.drop _).take _
theorem zts {lo hi:Option Expr} {fl fh:Ev->Option (Option Int)} (ha:PEr X e f) (hl:PO X lo (tOt X.K fl)) (hu:PO X hi (tOt X.K fh)):PEv X (.Subscript e (.Slice lo hi none p2) pos) (slice f fl fh):=z17 (zr3 ((zvh.or zqo).or zth) ha hl hu) fun σ H Q ⟨F₀,H₀,O,F,ε,t,r,e,k⟩=>by
 simp only[slice,y01] at e
 obtain⟨x,ex,l,el,h,eh,e⟩:=e
 refine⟨F₀,H₀,O,F,ε,x,r,ex,fun v F1 H1 x1 rx=>⟨F₀,H₀,O,F1,ε,l,r.ext x1,el,fun F2 H2 x2=>⟨F₀,H₀,O,F2,ε,h,(r.ext x1).ext x2,eh,fun F3 H3 x3=>?_⟩⟩⟩
 have x23:=x2.trans x3
 have x13:=x1.trans x23
 unfold oSl at e
 split at e
 ·cases e
  obtain⟨a,vs,rfl,hs,hr⟩:=(rx.ext x23).tup
  by_cases hw:HT.sIx vs.length 0 l=0/\HT.sIx vs.length vs.length h=vs.length
  ·refine .inl (.inr ⟨a,vs,rfl,hs,hw,k _ F3 H3 x13 ?_⟩)
   simp only[Rep]
   refine⟨a,vs,rfl,hs,?_⟩
   have:=zga hr l h
   unfold cutV at this
   rw[hw.1,hw.2,List.drop_zero,Nat.sub_zero,List.take_length] at this
   exact this
  ·refine .inl (.inl ⟨a,vs,rfl,hs,hw,fun q hq=>?_⟩)
   have x4:=Ext.laid (o:=.tup (cutV vs l h)) x13.dom hq
   refine k _ F3 _ (x13.trans x4) ?_
   simp only[Rep]
   exact⟨q,_,rfl,SqT.of z0c,(zga hr l h).ext x4⟩
 ·cases e
  obtain⟨a,vs,rfl,hs,hr⟩:=(rx.ext x23).lst
  refine .inr ⟨a,vs,rfl,.inl hs,fun q hq=>?_⟩
  have x4:=Ext.laidF (o:=.lst (cutV vs l h)) x13.dom hq
  refine k _ _ _ (x13.trans x4) ?_
  simp only[Rep]
  exact⟨q,_,rfl,.inr rfl,.inl z0c,(zga hr l h).ext x4⟩
 ·cases e
end
section
variable {X:Cx} {a e:Expr} {f:Fe} {p p2 pos pos2:Pos}
end
end
end D
end
section
namespace D
open PySem PySem.W PyProof.Rows
structure OrdK (n:Nat) (lt:Nat->Nat->Bool):Prop where
 asym:∀i j,lt i j=true->lt j i=false
 trans:∀i j k,lt i j=true->lt j k=true->lt i k=true
 tot:∀i j,i<n->j<n->i≠j->lt i j=true\/lt j i=true
def SP (lt:Nat->Nat->Bool) (p:Array Nat) (m:Nat):Prop:=∀i j,i<j->j<m->lt (p.getD i 0) (p.getD j 0)=true
def DP (lt:Nat->Nat->Bool) (p:Array Nat) (m:Nat):Prop:=∀i j,i<j->j<m->lt (p.getD j 0) (p.getD i 0)=true
section
variable {n:Nat} {lt:Nat->Nat->Bool} (O:OrdK n lt)
include O
end
end D
end
section
namespace D
open PySem
variable [Tbl]
end D
end
section
namespace D
open PySem PySem.Spec PyProof.Rows L2
section
variable [Tbl]
open PySem.W (kas_ask kas_sort kat_run kat_snds kat_lt kat_kind KatTups KatLex KatGo kas_item KasT)
section
variable {prog:y0r} {w:World} {A:Around} {E:Value->y04->Prop} {s:y04}
end
section
variable {X:Cx}
variable {e:Expr} {es:List Expr} {fs:List Fe} {p pos:Pos}
end
end
section
variable [Tbl]
theorem zia:entryFor table "dict.update.loop"=some Builtin.«dict.update.loop»:=entryFor_of_tree (by kernel_rfl)
theorem zak:plainId "dict.update.loop"=true:=by decide +kernel
section
variable {prog:y0r} {w:World} {K:Type} [DecidableEq K] {knd:PySem.KeyKind prog w K} {A:Around}
theorem zmi {E:Value->y04->Prop} {s:y04} {p:Addr} {o:Obj} {n:Nat} {xs:Array Value} {Q:List Value->y04->Prop} (h1:s.heap.get? p=some o) (h2:o.cls=.type "tuple") (h3:o.data=.seq xs n) (h:Q xs.toList s):y0v (model prog w) A (Builtin.Dict.pairItems (.ref p)) Q E s:=by
 obtain⟨c,dct,dat,sl⟩:=o
 simp only at h2 h3
 subst h2 h3
 obtain⟨hp,g,d,tk,os⟩:=s
 have hT:(⟨hp,g,d,tk,os⟩:y04).TypeIs (.ref p) "tuple":=⟨_,h1,rfl⟩
 unfold Builtin.Dict.pairItems
 repeat (any_goals (first|assumption|wp_step))
theorem zm9 {kvs:List (K×Value)} {k:K} {v:Value} (h:k∉kvs.map (·.1)):stored kvs k v=kvs++[(k,v)]:=by
 unfold stored
 rw[if_neg]
 intro q
 obtain⟨x,hx,e⟩:=List.any_eq_true.mp q
 exact h (y0n.mpr ⟨x,hx,by simpa using e⟩)
variable {R:Result->y04->Prop} {I:Addr} {fp wr:List Addr} {G:Array GenState->Array GenState->Prop} {St:Nat->y04->Prop} {items:Array Value}
variable {E:Value->y04->Prop} {s:y04}
end
end
section
variable [Tbl]
section
variable {X:Cx}
variable {a b e:Expr} {f g:Fe} {x y:Str} {p px py pos pos2:Pos}
end
end
section
variable [Tbl]
open AutoSeq1 (wpAny_loadPart')
section
variable {X:Cx} {es:List Expr} {k:Nat} {p pos p2:Pos} {a:Expr} {f:Fe}
end
end
section
variable [Tbl]
open AutoSeq1 (wpAny_loadPart')
section
variable {prog:y0r} {w:World} {A:Around} {E:Value->y04->Prop} {s:y04}
end
end
section
variable [Tbl]
section
variable {K:y00} {F:Addr->Prop} {H:Hp}
end
section
variable {X:Cx} {a e:Expr} {es:List Expr} {f:Fe} {fs:List Fe} {p p2 pos pos2:Pos}
end
end
section
variable [Tbl]
mutual
noncomputable def ltD:T->T->Option Bool
 | .int a,.int b=>some (decide (a<b))
 | .tuple xs,.tuple ys=>lexD xs ys
 | _,_=>none
noncomputable def lexD:List T->List T->Option Bool
 | [],[]=>some false
 | [],_::_=>some true
 | _::_,[]=>some false
 | x::xs,y::ys=>if y28 x y then lexD xs ys else ltD x y
end
noncomputable def LtAt (A:Around) (s:y04) (y x:Value) (b:Bool):Prop :=
 ∀(prog:y0r) (w:World) (E:Value->y04->Prop) (Q:Value->y04->Prop),Q (.bool b) s->y0v (model prog w) A (richCompare .Lt y x) Q E s
inductive GoodP (A:Around) (s:y04) (fin:Bool):List (Value×Value)->Bool->Prop
 | nil:GoodP A s fin [] fin
 | eq {y x:Value} {r:List (Value×Value)} {b:Bool}:SeqAt.EqAt A s y x true->GoodP A s fin r b->GoodP A s fin ((y,x)::r) b
 | lt {y x:Value} {r:List (Value×Value)} {b:Bool}:SeqAt.EqAt A s y x false->LtAt A s y x b->GoodP A s fin ((y,x)::r) b
section
open PySem.SeqAt
open PySem.AutoSeq1 (wpAny_loadPart')
open PySem.MeetsSeq PySem.MeetsSeq2 PySem.MeetsSeq3
theorem zh0 (l b:Addr) (items items2:Array Value) (n n2:Nat) (dd dd2:Option Addr) (sl sl2:Array (Option Value)) (z:Bool) :
  Meets (Builtin.«tuple.__lt__» ⟨[.ref l,.ref b],[]⟩)
   (fun A R s=>s.heap.get? l=some { cls:=.type "tuple",dict:=dd,data:=.seq items n,slots:=sl }/\s.heap.get? b=some { cls:=.type "tuple",dict:=dd2,data:=.seq items2 n2,slots:=sl2 } /\
    GoodP A.in1 s (decide (items.size<items2.size)) (items.toList.zip items2.toList) z/\R (.ok (.ret (.bool z))) s) :=
 .of_wp fun prog w A R s h=>by
  obtain⟨hp,g,d,tk,os⟩:=s;obtain⟨hl,hb,hg,h⟩:=h
  have f2:=AutoSeq1.sub_tuple_tuple
  wp_walk using wpAny_loadPart' hl,wpAny_loadPart' hb,wpAny_forIn_list _ (fun rest b s'=>b.1=none/\s'=⟨hp,g,d,tk,os⟩/\GoodP A.in1 ⟨hp,g,d,tk,os⟩ (decide (items.size<items2.size)) rest z) _
  case turn =>
   rintro⟨y,x⟩ rest b s' ⟨hb',rfl,hG⟩
   cases hG with
   | eq he hG =>
    refine y02 (he prog w _ _ ?_)
    wp_walk
    exact⟨rfl,rfl,hG⟩
   | lt he hlt =>
    refine y02 (he prog w _ _ ?_)
    have hri:=hlt prog w
    wp_walk using hri
    exact⟨_,rfl,h⟩
  case fin =>
   rintro⟨b1,b2⟩ s' ⟨hb',rfl,hG⟩
   simp only at hb'
   subst hb'
   cases hG
   wp_walk
   exact⟨_,rfl,by simpa [Builtin.Tuple.tupleCompareSizes] using h⟩
  case h =>
   exact⟨rfl,rfl,hg⟩
mutual
theorem zre:∀(da db:T) (A:Around) (s:y04) (a b:Value) (as bs:List Addr) (r:Bool),Reads s.heap a da as->Reads s.heap b db bs->da.canLay0=true->db.canLay0=true->A.units+min da.depth db.depth<cLine->ltD da db=some r->LtAt A s a b r
 | .int i,.int j,A,s,_,_,_,_,r,.int _ t,.int _ u,_,_,_,e=>by
  unfold ltD at e
  cases e
  exact fun prog w E Q q=>(PyProof.Rows.lt_int q:y0v (model prog w) A (compareOp .Lt (.int i t) (.int j u)) Q E s)
 | .tuple xs,.tuple ys,A,s,_,_,_,_,r,.tuple (a:=l) (o:=o) (vs:=vs) (n:=n) h1 h2 h3 h4,.tuple (a:=l') (o:=o') (vs:=vs') (n:=n') k1 k2 k3 k4,ha,hb,hu,e=>by
  unfold ltD at e
  simp only[PyData.canLay0] at ha hb
  simp only[y2d] at hu
  have hG:=zfm xs ys A.in1 s vs.toList vs'.toList _ _ r h4 k4 ha hb (room_in hu) e
  obtain⟨cls,dd,data,sl⟩:=o
  obtain⟨cls2,dd2,data2,sl2⟩:=o'
  simp only at h2 h3 k2 k3
  subst h2 h3 k2 k3
  rw[y27,y27] at hG
  exact fun prog w E Q q=>richCompare_meets_room (op:=.Lt) ⟨_,h1,rfl⟩ ⟨_,k1,rfl⟩ PySem.F.slot_tuple_lt PySem.F.entry_tuple_lt (PySem.F.args_tuple_lt_2 _ _) (zh0 l l' vs vs' n n' dd dd2 sl sl2 r)
   ⟨h1,k1,hG,show Value.bool r≠Value.notImplemented/\Q (.bool r) s from ⟨(fun x=>nomatch x),q⟩⟩ (by omega)
 | .none,_,_,_,_,_,_,_,_,_,_,_,_,_,e=>by simp[ltD] at e
 | .bool _,_,_,_,_,_,_,_,_,_,_,_,_,_,e=>by simp[ltD] at e
 | .str _,_,_,_,_,_,_,_,_,_,_,_,_,_,e=>by simp[ltD] at e
 | .list _,_,_,_,_,_,_,_,_,_,_,_,_,_,e=>by simp[ltD] at e
 | .dict _,_,_,_,_,_,_,_,_,_,_,_,_,_,e=>by simp[ltD] at e
 | .int _,.none,_,_,_,_,_,_,_,_,_,_,_,_,e=>by simp[ltD] at e
 | .int _,.bool _,_,_,_,_,_,_,_,_,_,_,_,_,e=>by simp[ltD] at e
 | .int _,.str _,_,_,_,_,_,_,_,_,_,_,_,_,e=>by simp[ltD] at e
 | .int _,.list _,_,_,_,_,_,_,_,_,_,_,_,_,e=>by simp[ltD] at e
 | .int _,.dict _,_,_,_,_,_,_,_,_,_,_,_,_,e=>by simp[ltD] at e
 | .int _,.tuple _,_,_,_,_,_,_,_,_,_,_,_,_,e=>by simp[ltD] at e
 | .tuple _,.none,_,_,_,_,_,_,_,_,_,_,_,_,e=>by simp[ltD] at e
 | .tuple _,.bool _,_,_,_,_,_,_,_,_,_,_,_,_,e=>by simp[ltD] at e
 | .tuple _,.str _,_,_,_,_,_,_,_,_,_,_,_,_,e=>by simp[ltD] at e
 | .tuple _,.list _,_,_,_,_,_,_,_,_,_,_,_,_,e=>by simp[ltD] at e
 | .tuple _,.dict _,_,_,_,_,_,_,_,_,_,_,_,_,e=>by simp[ltD] at e
 | .tuple _,.int _,_,_,_,_,_,_,_,_,_,_,_,_,e=>by simp[ltD] at e
theorem zfm:∀(xs ys:List T) (A:Around) (s:y04) (vs ws:List Value) (as bs:List Addr) (r:Bool),ReadsAll s.heap vs xs as->ReadsAll s.heap ws ys bs->y1j xs=true->y1j ys=true->A.units+min (y1h xs) (y1h ys)<cLine->lexD xs ys=some r->GoodP A s (decide (vs.length<ws.length)) (vs.zip ws) r
 | [],[],A,s,_,_,_,_,r,.nil,.nil,_,_,_,e=>by
  unfold lexD at e
  cases e
  exact .nil
 | [],_::_,A,s,_,_,_,_,r,.nil,.cons _ _,_,_,_,e=>by
  unfold lexD at e
  cases e
  exact GoodP.nil
 | _::_,[],A,s,_,_,_,_,r,.cons _ _,.nil,_,_,_,e=>by
  unfold lexD at e
  cases e
  exact GoodP.nil
 | x::xs,y::ys,A,s,_,_,_,_,r,.cons r1 r2,.cons q1 q2,ha,hb,hu,e=>by
  simp only[y1j,y1e] at ha hb
  simp only[y1h] at hu
  unfold lexD at e
  have he:=eqAt_reads x y A s _ _ _ _ r1 q1 ha.1 hb.1 (room_head hu)
  split at e
  next h =>
   rw[h] at he
   have ih:=zfm xs ys A s _ _ _ _ r r2 q2 ha.2 hb.2 (room_tail hu) e
   rw[y29]
   simp only[y0x,Nat.add_lt_add_iff_right]
   exact .eq he ih
  next h =>
   rw[Bool.not_eq_true] at h
   rw[h] at he
   rw[y29]
   exact .lt he (zre x y A s _ _ _ _ r r1 q1 ha.1 hb.1 (room_head hu) e)
end
end
section
variable {prog:y0r} {w:World} {A:Around} {R:Result->y04->Prop} {I:Addr} {fp wr:List Addr} {G:Array GenState->Array GenState->Prop} {St:Nat->y04->Prop} {items:Array Value}
variable {E:Value->y04->Prop} {s:y04}
end
section
variable {X:Cx} {e:Expr} {es:List Expr} {fs:List Fe} {p pos:Pos}
end
end
section
variable [Tbl]
end
end D
end
section
namespace D
open PySem
inductive Ag where
 | v (f:Fe)|o (i:Nat)
abbrev Fx:=Ev->Option (T×Ev)
abbrev Fo:=Ev->Option Sl
def objF (c i:Nat) (ε:Ev):Option (Md×List Sl):=match ε[i]? with
 | some (some (.obj m c' fs))=>if c'=c then some (m,fs) else none
 | _=>none
def fld (c i j:Nat):Fe:=fun ε=>(objF c i ε).bind fun o=>match o.2[j]? with
 | some (.imm t)=>some t
 | some (.own ts)=>some (.list ts)
 | _=>none
def fldV (c i j:Nat):Fe:=fun ε=>(objF c i ε).bind fun o=>match o.2[j]? with
 | some (.imm t)=>some t
 | _=>none
def fldD (c i j:Nat):Ev->Option (List (Key×T)):=fun ε=>(objF c i ε).bind fun o=>match o.2[j]? with
 | some (.dic kvs)=>some kvs
 | _=>none
def fldL (c i j:Nat):Ev->Option (List T):=fun ε=>(objF c i ε).bind fun o=>match o.2[j]? with
 | some (.own ts)=>some ts
 | _=>none
def fGet (c i j:Nat) (k:Fe):Fe:=fun ε=>(k ε).bind fun t=>(z6d t).bind fun k=>(fldD c i j ε).bind fun kvs=>getD kvs k
def zpl (c i j:Nat):Fe:=fun ε=>(fldD c i j ε).map fun kvs=>.tuple (kvs.map (·.2))
noncomputable def setF (c i j:Nat) (s:Sl) (ε:Ev):Option Ev:=(objF c i ε).bind fun o=>if o.1=.ro then none else
 if j<o.2.length then some (ε.set i (some (.obj o.1 c (o.2.set j s)))) else if j=o.2.length then some (ε.set i (some (.obj o.1 c (o.2++[s])))) else none
def asgF (c i j:Nat) (f:Fe):Fs:=fun ε=>(f ε).bind fun t=>(setF c i j (.imm t) ε).map .nx
def z8w (c i j:Nat) (f:Fe):Fs:=fun ε=>(f ε).bind fun t=>match t with
 | .list ts=>(setF c i j (.own ts) ε).map .nx
 | _=>none
def zgh:T->T->Option Int
 | .int i,.int j=>some (i+j)
 | _,_=>none
def augF (c i j:Nat) (f:Fe):Fs:=fun ε=>(fldV c i j ε).bind fun x=>(f ε).bind fun y=>(zgh x y).bind fun z=>(setF c i j (.imm (.int z)) ε).map .nx
def appF (c i j:Nat) (f:Fe):Fs:=fun ε=>(f ε).bind fun t=>(fldL c i j ε).bind fun ts=>if ts.length<big then (setF c i j (.own (ts++[t])) ε).map .nx else none
noncomputable def rmF (c i j:Nat) (f:Fe):Fs:=fun ε=>(f ε).bind fun t=>(fldL c i j ε).bind fun ts=>match t,zcu ts with
 | .str x,some ss=>if x∈ss then (setF c i j (.own ((ss.erase x).map .str)) ε).map .nx else none
 | _,_=>none
def zf9:T->Option T
 | .tuple xs=>some (.list xs)
 | .list xs=>some (.list xs)
 | _=>none
def zcg:T->Option T
 | .list xs=>if xs.length<64 then (zcu xs).map fun ss=>.list ((z85 ss).map .str) else none
 | _=>none
def popF (c i j:Nat):Fs:=fun ε=>(fldL c i j ε).bind fun ts=>(ts.getLast?).bind fun _=>(setF c i j (.own ts.dropLast) ε).map .nx
noncomputable def zhj (c i j:Nat) (k v:Fe):Fs:=fun ε=>(v ε).bind fun v=>(k ε).bind fun t=>(z6d t).bind fun k=>(fldD c i j ε).bind fun kvs=>if kvs.length<big then (setF c i j (.dic (putD kvs k v)) ε).map .nx else none
noncomputable def zj9 (c i j:Nat) (k v:Fe):Fs:=fun ε=>(k ε).bind fun t=>(z6d t).bind fun k=>(fldD c i j ε).bind fun kvs=>(getD kvs k).bind fun x=>(v ε).bind fun y=>(zgh x y).bind fun z=>if kvs.length<big then (setF c i j (.dic (putD kvs k (.int z))) ε).map .nx else none
def zipD:List T->List T->Option (List (Key×T))
 | [],_=>some []
 | _::_,[]=>some []
 | k::ks,v::vs=>(z6d k).bind fun k=>(zipD ks vs).map fun r=>(k,v)::r
noncomputable def znb (c i j:Nat) (ks vs:Fe):Fs:=fun ε=>(ks ε).bind fun tk=>(vs ε).bind fun tv=>match tk,tv with
 | .list lk,.tuple lv=>(zipD lk lv).bind fun kvs=>if (kvs.map (·.1)).Nodup/\kvs.length<=1000/\(∀t∈lk,(z6d t).isSome=true) then (setF c i j (.dic kvs) ε).map .nx else none
 | _,_=>none
def zrk (f g:Fi):Fi:=fun ε=>(f ε).bind fun a=>(g ε).map fun b=>List.zipWith (fun x y=>.tuple [x,y]) a b
def z2b (c:Nat) (d:List Sl->Option T) (i:Nat) (fs:List Fe):Fe:=fun ε=>(objF c i ε).bind fun o=>(args fs ε).bind fun ts=>d (.obj .ro c o.2::ts.map .imm)
noncomputable def z0t (c:Nat) (d:List Sl->Option (T×List Sl)) (i:Nat) (fs:List Fe):Fx:=fun ε=>(objF c i ε).bind fun o=>if o.1=.ro then none else (args fs ε).bind fun ts =>
 (d (.obj .lent c o.2::ts.map .imm)).map fun r=>(r.1,ε.set i (some (.obj o.1 c r.2)))
noncomputable def zit (c:Nat) (d:List Sl->Option (T×List Sl)) (fs:List Fe) (i:Nat) (gs:List Fe):Fx:=fun ε=>(objF c i ε).bind fun o=>if o.1=.ro then none else (args fs ε).bind fun ts=>(args gs ε).bind fun us =>
 (d (ts.map .imm++.obj .lent c o.2::us.map .imm)).map fun r=>(r.1,ε.set i (some (.obj o.1 c r.2)))
noncomputable def newO (c:Nat) (d:List Sl->Option (T×List Sl)) (fs:List Fe):Fo:=fun ε=>(args fs ε).bind fun ts=>(d (.obj .lent c []::ts.map .imm)).bind fun r=>match r.1 with
 | .none=>some (.obj .own c r.2)
 | _=>none
def zis (d:List T->Option Sl) (fs:List Fe):Fo:=fun ε=>(args fs ε).bind d
def za7 (c:Nat):Sl->Option (List Sl)
 | .obj .own c' fs=>if c'=c then some fs else none
 | _=>none
def ofO (c:Nat) (d:List Sl->Option T) (o:Fo) (fs:List Fe):Fe:=fun ε=>(o ε).bind fun s=>(za7 c s).bind fun os=>(args fs ε).bind fun ts=>d (.obj .ro c os::ts.map .imm)
def zbe (c j:Nat) (o:Fo):Fe:=fun ε=>(o ε).bind fun s=>(za7 c s).bind fun os=>match os[j]? with
 | some (.own ts)=>some (.list ts)
 | _=>none
def exX (f:Fx):Fs:=fun ε=>(f ε).map fun r=>.nx r.2
def rtnX (f:Fx):Fs:=fun ε=>(f ε).map fun r=>.rtm r.1 r.2
def rtnM (f:Fe):Fs:=fun ε=>(f ε).map fun t=>.rtm t ε
def asgX (i:Nat) (f:Fx):Fs:=fun ε=>(f ε).map fun r=>.nx (r.2.set i (some (.imm r.1)))
def asgO (i:Nat) (f:Fo):Fs:=fun ε=>(f ε).map fun s=>.nx (ε.set i (some s))
def rtnO (i:Nat):Fs:=fun ε=>match ε[i]? with
 | some (some (.obj .own c fs))=>some (.rto (.obj .own c fs))
 | _=>none
def zg7:Fs:=fun ε=>some (.rtm .none ε)
def zhu:Fs:=fun _=>none
def z5r (n:Nat) (ss:List Sl):Ev:=ss.map some++y0h (n - ss.length) none
def runR (b:Fs) (n:Nat) (ss:List Sl):Option T:=(b (z5r n ss)).bind fun o=>match o with
 | .rt t=>some t
 | .nx _=>some .none
 | _=>none
def z56 (c p:Nat) (ε:Ev):Option (List Sl):=match ε[p]? with
 | some (some (.obj .lent c' fs))=>if c'=c then some fs else none
 | _=>none
noncomputable def runM (c p:Nat) (b:Fs) (n:Nat) (ss:List Sl):Option (T×List Sl):=(b (z5r n ss)).bind fun o=>match o with
 | .rtm t ε=>(z56 c p ε).map fun fs=>(t,fs)
 | .nx ε=>(z56 c p ε).map fun fs=>(.none,fs)
 | _=>none
def ownS:Sl->Option Sl
 | .obj .own c fs=>some (.obj .own c fs)
 | _=>none
def runO (b:Fs) (n:Nat) (ts:List T):Option Sl:=(b ((ts.map fun t=>some (.imm t))++y0h (n - ts.length) none)).bind fun o=>match o with
 | .rto s=>ownS s
 | _=>none
end D
end
section
namespace D
open PySem PySem.Spec PyProof.Rows L2
section
variable [Tbl]
section
variable {K:y00} {F F' O:Addr->Prop} {H H':Hp} {E:En}
theorem RelF.length:∀{fs:List Sl} {vs:List V},RelF K F H fs vs->fs.length=vs.length
 | [],vs,r=>by
  have e:vs=[]:=r
  rw[e]
  rfl
 | s::ss,vs,r=>by
  obtain⟨v,z,rfl,_,r2⟩:=r
  simp[RelF.length r2]
theorem RelF.get:∀{fs:List Sl} {vs:List V} {j:Nat} {s:Sl},RelF K F H fs vs->fs[j]?=some s->∃v,vs[j]?=some v/\zb1 K F H s v
 | [],vs,j,s,r,e=>by simp at e
 | s::ss,vs,0,u,r,e=>by
  obtain⟨v,z,rfl,r1,_⟩:=r
  simp at e
  subst e
  exact⟨v,rfl,r1⟩
 | s::ss,vs,j+1,u,r,e=>by
  obtain⟨v,z,rfl,_,r2⟩:=r
  obtain⟨w,h1,h2⟩:=RelF.get (j:=j) (s:=u) r2 (by simpa using e)
  exact⟨w,by simpa using h1,h2⟩
theorem RelF.set:∀{fs:List Sl} {vs:List V} {j:Nat} {s:Sl} {v:V},RelF K F H fs vs->Kp K F H F' H'->(∀(k:Nat) (u:Sl) (w:V),k≠j->fs[k]?=some u->vs[k]?=some w->∀b∈fp0 u w,H' b=H b)->zb1 K F' H' s v->RelF K F' H' (fs.set j s) (vs.set j v)
 | [],vs,j,s,v,r,_,_,_=>by
  have e:vs=[]:=r
  subst e
  exact rfl
 | u::ss,vs,0,s,v,r,kp,hk,h=>by
  obtain⟨w,z,rfl,r1,r2⟩:=r
  refine⟨v,z,rfl,h,r2.keep kp fun b hb=>?_⟩
  have:∀{ss:List Sl} {z:List V} (n:Nat),(∀(k:Nat) (u:Sl) (w:V),ss[k]?=some u->z[k]?=some w->∀b∈fp0 u w,H' b=H b)->b∈fpF ss z->H' b=H b:=by
   intro ss
   induction ss with
   | nil=>intro z n _ hb;simp[fpF] at hb
   | cons s1 ss ih =>
    intro z n hk hb
    cases z with
    | nil=>simp[fpF] at hb
    | cons v1 z =>
     rw[show fpF (s1::ss) (v1::z)=fp0 s1 v1++fpF ss z from rfl] at hb
     rcases y13.mp hb with q|q
     ·exact hk 0 s1 v1 rfl rfl b q
     ·exact ih n (fun k u w e1 e2=>hk (k+1) u w (by simpa using e1) (by simpa using e2)) q
  exact this 0 (fun k u w e1 e2=>hk (k+1) u w (by omega) (by simpa using e1) (by simpa using e2)) hb
 | u::ss,vs,j+1,s,v,r,kp,hk,h=>by
  obtain⟨w,z,rfl,r1,r2⟩:=r
  exact⟨w,z.set j v,rfl,r1.keep kp fun b hb=>hk 0 u w (by omega) rfl rfl b hb,RelF.set r2 kp (fun k u w hkj e1 e2=>hk (k+1) u w (by omega) (by simpa using e1) (by simpa using e2)) h⟩
theorem RelF.snoc:∀{fs:List Sl} {vs:List V} {s:Sl} {v:V},RelF K F H fs vs->zb1 K F H s v->RelF K F H (fs++[s]) (vs++[v])
 | [],vs,s,v,r,h=>by
  have e:vs=[]:=r
  subst e
  exact⟨v,[],rfl,h,rfl⟩
 | u::ss,vs,s,v,r,h=>by
  obtain⟨w,z,rfl,r1,r2⟩:=r
  exact⟨w,z++[v],rfl,r1,RelF.snoc r2 h⟩
theorem zgr:∀{fs:List Sl} {vs:List V} {s:Sl} {v:V},fs.length=vs.length->fpF (fs++[s]) (vs++[v])=fpF fs vs++fp0 s v
 | [],[],s,v,_=>by simp[fpF]
 | u::ss,w::z,s,v,h=>by
  show fp0 u w++fpF (ss++[s]) (z++[v])=(fp0 u w++fpF ss z)++fp0 s v
  rw[zgr (by simpa using h),y2s]
 | [],w::z,_,_,h=>by simp at h
 | u::ss,[],_,_,h=>by simp at h
theorem z9u:∀{fs:List Sl} {vs:List V} {j:Nat} {s:Sl} {v:V} {b:Addr},fs[j]?=some s->vs[j]?=some v->b∈fp0 s v->b∈fpF fs vs
 | [],vs,j,s,v,b,e,_,_=>by simp at e
 | u::ss,[],j,s,v,b,_,e,_=>by simp at e
 | u::ss,w::z,0,s,v,b,e1,e2,h=>by
  simp at e1 e2
  subst e1 e2
  exact y13.mpr (.inl h)
 | u::ss,w::z,j+1,s,v,b,e1,e2,h=>y13.mpr (.inr (z9u (j:=j) (by simpa using e1) (by simpa using e2) h))
theorem zpk:∀{fs:List Sl} {vs:List V} {b:Addr},b∈fpF fs vs->∃(j:Nat) (s:Sl) (v:V),fs[j]?=some s/\vs[j]?=some v/\b∈fp0 s v
 | [],vs,b,h=>by simp[fpF] at h
 | u::ss,[],b,h=>by simp[fpF] at h
 | u::ss,w::z,b,h=>by
  rcases y13.mp (show b∈fp0 u w++fpF ss z from h) with q|q
  ·exact⟨0,u,w,rfl,rfl,q⟩
  ·obtain⟨j,s,v,e1,e2,h⟩:=zpk q
   exact⟨j+1,s,v,by simpa using e1,by simpa using e2,h⟩
theorem zgq:∀{fs:List Sl} {vs:List V} {j k:Nat} {s u:Sl} {v w:V} {b:Addr},(fpF fs vs).Nodup->j≠k->fs[j]?=some s->vs[j]?=some v->fs[k]?=some u->vs[k]?=some w->b∈fp0 s v->b∈fp0 u w->False
 | [],vs,j,k,s,u,v,w,b,_,_,e,_,_,_,_,_=>by simp at e
 | x::ss,[],j,k,s,u,v,w,b,_,_,_,e,_,_,_,_=>by simp at e
 | x::ss,y::z,j,k,s,u,v,w,b,nd,hjk,e1,e2,e3,e4,h1,h2=>by
  have nd':(fp0 x y++fpF ss z).Nodup:=nd
  rw[y1r] at nd'
  obtain⟨n1,n2,n3⟩:=nd'
  cases j with
  | zero =>
   cases k with
   | zero=>exact hjk rfl
   | succ k =>
    simp at e1 e2
    subst e1 e2
    exact n3 b h1 b (z9u (j:=k) (by simpa using e3) (by simpa using e4) h2) rfl
  | succ j =>
   cases k with
   | zero =>
    simp at e3 e4
    subst e3 e4
    exact n3 b h2 b (z9u (j:=j) (by simpa using e1) (by simpa using e2) h1) rfl
   | succ k=>exact zgq (j:=j) (k:=k) n2 (by omega) (by simpa using e1) (by simpa using e2) (by simpa using e3) (by simpa using e4) h1 h2
theorem z7i {fs:List Sl} {vs:List V} {j:Nat} {s:Sl} {v:V} {b:Addr} (h:b∈fpF (fs.set j s) (vs.set j v)):b∈fpF fs vs\/b∈fp0 s v:=by
 obtain⟨k,u,w,e1,e2,h⟩:=zpk h
 by_cases hk:j=k
 ·subst hk
  have l1:=(y0l.mp e1).1
  have l2:=(y0l.mp e2).1
  simp at l1 l2
  rw[y2g,if_pos rfl,if_pos l1] at e1
  rw[y2g,if_pos rfl,if_pos l2] at e2
  cases e1
  cases e2
  exact .inr h
 ·rw[y2g,if_neg hk] at e1 e2
  exact .inl (z9u e1 e2 h)
theorem z7h:∀{fs:List Sl} {vs:List V} {j:Nat} {s:Sl} {v:V},(fpF fs vs).Nodup->(fp0 s v).Nodup->(∀b∈fp0 s v,∀(k:Nat) (u:Sl) (w:V),k≠j->fs[k]?=some u->vs[k]?=some w->b∉fp0 u w)->(fpF (fs.set j s) (vs.set j v)).Nodup
 | [],vs,j,s,v,_,_,_=>by simp[fpF]
 | x::ss,[],j,s,v,_,_,_=>by cases j <;> simp[fpF]
 | x::ss,y::z,0,s,v,nd,n0,ha=>by
  have nd':(fp0 x y++fpF ss z).Nodup:=nd
  rw[y1r] at nd'
  show (fp0 s v++fpF ss z).Nodup
  rw[y1r]
  refine⟨n0,nd'.2.1,fun b hb c hc e=>?_⟩
  subst e
  obtain⟨k,u,w,e1,e2,h⟩:=zpk hc
  exact ha b hb (k+1) u w (by omega) (by simpa using e1) (by simpa using e2) h
 | x::ss,y::z,j+1,s,v,nd,n0,ha=>by
  have nd':(fp0 x y++fpF ss z).Nodup:=nd
  rw[y1r] at nd'
  show (fp0 x y++fpF (ss.set j s) (z.set j v)).Nodup
  rw[y1r]
  refine⟨nd'.1,z7h nd'.2.1 n0 fun b hb k u w hk e1 e2=>ha b hb (k+1) u w (by omega) (by simpa using e1) (by simpa using e2),fun b hb c hc e=>?_⟩
  subst e
  rcases z7i hc with q|q
  ·exact nd'.2.2 b hb b q rfl
  ·exact ha b q 0 x y (by omega) rfl rfl hb
theorem zqv (v:V):(rf v).Nodup:=by
 unfold rf
 split <;> simp
theorem zi6 (s:Sl) (v:V):(fp0 s v).Nodup:=by
 cases s <;> first|exact zqv v|simp[fp0]
theorem zb3:∀{ns:List Str} {vs:List V} {j:Nat} {f:Str} {v:V},ns.Nodup->ns[j]?=some f->vs[j]?=some v->(ns.zip vs).lookup f=some v
 | [],_,_,_,_,_,e,_=>by simp at e
 | _::_,[],_,_,_,_,_,e=>by simp at e
 | n::ns,w::vs,0,f,v,_,e1,e2=>by
  simp at e1 e2
  subst e1 e2
  simp[y1n]
 | n::ns,w::vs,j+1,f,v,nd,e1,e2=>by
  have ne:f≠n:=by
   rintro rfl
   exact (y0s.mp nd).1 (y21 (by simpa using e1))
  have hb:(f == n)=false:=beq_eq_false_iff_ne.mpr ne
  simp only[y29,y1n,hb]
  exact zb3 (j:=j) (y0s.mp nd).2 (by simpa using e1) (by simpa using e2)
theorem z2n:∀{ns:List Str} {vs:List V} {f:Str},f∉ns->(ns.zip vs).lookup f=none
 | [],_,_,_=>by simp
 | _::_,[],_,_=>by simp
 | n::ns,w::vs,f,h=>by
  have ne:f≠n:=fun e=>h (by simp[e])
  have hb:(f == n)=false:=beq_eq_false_iff_ne.mpr ne
  simp only[y29,y1n,hb]
  exact z2n fun z=>h (y05 _ z)
theorem znf:∀{ns:List Str} {vs:List V} {j:Nat} {f:Str} {v:V},ns.Nodup->ns[j]?=some f->j<vs.length->L2.putF f v (ns.zip vs)=ns.zip (vs.set j v)
 | [],_,_,_,_,_,e,_=>by simp at e
 | _::_,[],_,_,_,_,_,h=>by simp at h
 | n::ns,w::vs,0,f,v,_,e1,h=>by
  simp at e1
  subst e1
  simp[L2.putF]
 | n::ns,w::vs,j+1,f,v,nd,e1,h=>by
  have ne:n≠f:=by
   rintro rfl
   exact (y0s.mp nd).1 (y21 (by simpa using e1))
  simp only[y29,y1o,L2.putF,if_neg ne]
  rw[znf (j:=j) (y0s.mp nd).2 (by simpa using e1) (by simpa using h)]
theorem zco:∀{ns:List Str} {vs:List V} {f:Str} {v:V},ns.Nodup->ns[vs.length]?=some f->L2.putF f v (ns.zip vs)=ns.zip (vs++[v])
 | [],_,_,_,_,e=>by simp at e
 | n::ns,[],f,v,_,e1=>by
  simp at e1
  subst e1
  simp[L2.putF]
 | n::ns,w::vs,f,v,nd,e1=>by
  have ne:n≠f:=by
   rintro rfl
   exact (y0s.mp nd).1 (y21 (by simpa using e1))
  simp only[y29,y2u,L2.putF,if_neg ne]
  rw[zco (y0s.mp nd).2 (by simpa using e1)]
end
structure ClOk (K:y00) (c:Nat) (C:Addr) (ns:List Str):Prop where
 ck:Tbl.ck c=some C
 cn:Tbl.cn c=ns
 cls:Cls K C
 nd:ns.Nodup
 na:∀f∈ns,zb2 K C f
 few:ns.length<1000
section
variable {K:y00} {F₀ F F1 O:Addr->Prop} {H H1:Hp} {E:En} {ε ε':Ev} {σ:L2.St} {c C i j:Nat} {ns:List Str}
theorem z3a {m:Md} {fs:List Sl} (h:objF c i ε=some (m,fs)):ε[i]?=some (some (.obj m c fs)):=by
 unfold objF at h
 split at h
 next m' c' fs' e =>
  split at h
  next hc =>
   cases h
   rw[e,hc]
  next=>cases h
 next=>cases h
theorem z8h {m:Md} {fs:List Sl} (k:ClOk K c C ns) (r:RelE K F₀ E O F H ε σ) (h:objF c i ε=some (m,fs)) :
  ∃a vs dx,σ[i]?=some (some (.ref a))/\H a=some (.ins C dx (ns.zip vs))/\vs.length<=ns.length/\z6f H a c vs/\RelF K F H fs vs/\(a::fpF fs vs).Nodup/\(∀b∈a::fpF fs vs,OwnM E O F m b)/\(m=.lent->a=E.la):=by
 obtain⟨v,h1,a,vs,rfl,ha,hf,nd,ow,la⟩:=r.val i _ (z3a h)
 obtain⟨hl,hx⟩:=id ha
 rw[k.ck] at hx
 obtain⟨dx,hx⟩:=hx
 rw[k.cn] at hl hx
 exact⟨a,vs,dx,h1,hx,hl,ha,hf,nd,ow,la⟩
theorem zlc {m:Md} (hm:m≠.ro) {fs:List Sl}:(Sl.obj m c fs).isOwn=true:=by
 cases m with
 | ro=>exact absurd rfl hm
 | own=>rfl
 | lent=>rfl
theorem RelE.setFld {s:Sl} {v:V} {a dx:Addr} {vs:List V} (k:ClOk K c C ns) (r:RelE K F₀ E O F H ε σ) {m:Md} {fs:List Sl} (ho:objF c i ε=some (m,fs)) (h1:σ[i]?=some (some (.ref a))) (ha:z6f H a c vs) (he:setF c i j s ε=some ε')
  (rs:zb1 K F H s v) (own:∀b∈fp0 s v,¬F b/\O b/\b∉fpS H (.obj m c fs) (.ref a)/\∀(k:Nat) (u:Sl) (w:V),i≠k->ε[k]?=some (some u)->u.isOwn=true->σ[k]?=some (some w)->b∉fpS H u w) (hx:H a=some (.ins C dx (ns.zip vs)))
  {f:Str} (hj:ns[j]?=some f):Kp K F H F (upd H a (.ins C dx (L2.putF f v (ns.zip vs))))/\RelE K F₀ E O F (upd H a (.ins C dx (L2.putF f v (ns.zip vs)))) ε' σ:=by
 obtain⟨a',vs',dx',h1',hx',hl,ha',hf,nd,ow,la⟩:=z8h k r ho
 rw[h1] at h1'
 cases h1'
 have ev:vs'=vs:=by rw[<- ha.vals,<- ha'.vals]
 subst ev
 have hfp:fpS H (.obj m c fs) (.ref a)=a::fpF fs vs':=z3k ha
 rw[hfp] at own
 unfold setF at he
 rw[ho] at he
 simp only[y0q] at he
 split at he
 next=>cases he
 next hm =>
 have hlen:=hf.length
 have hown:(Sl.obj m c fs).isOwn=true:=zlc hm
 have ho0:∀b,OwnM E O F m b <-> ¬F b/\O b:=fun b=>by
  cases m with
  | ro=>exact absurd rfl hm
  | own=>exact Iff.rfl
  | lent=>exact Iff.rfl
 have na:∀b∈fpF fs vs',b≠a:=fun b hb z=>(y0s.mp nd).1 (z▸hb)
 split at he
 next hjl =>
  cases he
  have hjv:j<vs'.length:=by omega
  rw[znf k.nd hj hjv]
  have hm2:∀b∈a::fpF (fs.set j s) (vs'.set j v),b∈a::fpF fs vs'\/b∈fp0 s v:=fun b hb=>by
   rcases y09.mp hb with rfl|hb
   ·exact .inl y0f
   ·rcases z7i hb with q|q
    ·exact .inl (y05 _ q)
    ·exact .inr q
  have hat:∀o':Hp,o' a=some (.ins C dx (ns.zip (vs'.set j v)))->z6f o' a c (vs'.set j v):=fun o' e=>by
   refine⟨by rw[k.cn];simpa using hl,?_⟩
   rw[k.ck,k.cn]
   exact⟨dx,e⟩
  refine r.mutG (z3a ho) hown h1 (by rw[hfp];exact y0f) (fun kp=>⟨a,vs'.set j v,rfl,hat _ z0c,?_,?_,fun b hb=>?_,la⟩) fun b hb=>?_
  ·refine RelF.set hf kp (fun k u w _ e1 e2 b hb=>z0d (na b (z9u e1 e2 hb))) (rs.keep kp fun b hb=>z0d fun z=>(own b hb).2.2.1 (z▸y0f))
  ·refine y0s.mpr ⟨fun z=>?_,z7h (y0s.mp nd).2 (zi6 s v) fun b hb k u w _ e1 e2 q=>(own b hb).2.2.1 (y05 _ (z9u e1 e2 q))⟩
   rcases z7i z with q|q
   ·exact (y0s.mp nd).1 q
   ·exact (own a q).2.2.1 y0f
  ·rcases hm2 b hb with q|q
   ·exact ow b q
   ·exact (ho0 b).mpr ⟨(own b q).1,(own b q).2.1⟩
  ·rw[z3k (hat _ z0c)] at hb
   rcases hm2 b hb with q|q
   ·exact .inl (by rw[hfp];exact q)
   ·exact .inr (own b q).2.2.2
 next hjl =>
  split at he
  next hje =>
   cases he
   have hjv:j=vs'.length:=by omega
   rw[zco k.nd (by rw[<- hjv];exact hj)]
   have hjn:j<ns.length:=(y0l.mp hj).1
   have hm2:∀b∈a::fpF (fs++[s]) (vs'++[v]),b∈a::fpF fs vs'\/b∈fp0 s v:=fun b hb=>by
    rw[zgr hlen] at hb
    rcases y09.mp hb with rfl|hb
    ·exact .inl y0f
    ·rcases y13.mp hb with q|q
     ·exact .inl (y05 _ q)
     ·exact .inr q
   have hat:∀o':Hp,o' a=some (.ins C dx (ns.zip (vs'++[v])))->z6f o' a c (vs'++[v]):=fun o' e=>by
    refine⟨by rw[k.cn];simp;omega,?_⟩
    rw[k.ck,k.cn]
    exact⟨dx,e⟩
   refine r.mutG (z3a ho) hown h1 (by rw[hfp];exact y0f) (fun kp=>⟨a,vs'++[v],rfl,hat _ z0c,?_,?_,fun b hb=>?_,la⟩) fun b hb=>?_
   ·exact RelF.snoc (hf.keep kp fun b hb=>z0d (na b hb)) (rs.keep kp fun b hb=>z0d fun z=>(own b hb).2.2.1 (z▸y0f))
   ·rw[zgr hlen]
    refine y0s.mpr ⟨fun z=>?_,y1r.mpr ⟨(y0s.mp nd).2,zi6 s v,fun b hb d hd e=>?_⟩⟩
    ·rcases y13.mp z with q|q
     ·exact (y0s.mp nd).1 q
     ·exact (own a q).2.2.1 y0f
    ·subst e
     exact (own b hd).2.2.1 (y05 _ hb)
   ·rcases hm2 b hb with q|q
    ·exact ow b q
    ·exact (ho0 b).mpr ⟨(own b q).1,(own b q).2.1⟩
   ·rw[z3k (hat _ z0c)] at hb
    rcases hm2 b hb with q|q
    ·exact .inl (by rw[hfp];exact q)
    ·exact .inr (own b q).2.2.2
  next=>cases he
theorem RelE.mutFld {s s':Sl} {a b:Addr} {vs:List V} {o':HO} (r:RelE K F₀ E O F H ε σ) {m:Md} {fs:List Sl} (ho:objF c i ε=some (m,fs)) (h1:σ[i]?=some (some (.ref a))) (ha:z6f H a c vs) (he:setF c i j s' ε=some ε')
  (hs:fs[j]?=some s) (hv:vs[j]?=some (.ref b)) (hi:b∈fp0 s (.ref b)) (hi':fp0 s' (.ref b)=[b]) (rs:Kp K F H F (upd H b o')->zb1 K F (upd H b o') s' (.ref b)):Kp K F H F (upd H b o')/\RelE K F₀ E O F (upd H b o') ε' σ:=by
 obtain⟨v,h1',a',vs',ev,ha',hf,nd,ow,la⟩:=r.val i _ (z3a ho)
 rw[h1] at h1'
 cases h1'
 cases ev
 have ev:vs'=vs:=by rw[<- ha.vals,<- ha'.vals]
 subst ev
 have hfp:fpS H (.obj m c fs) (.ref a)=a::fpF fs vs':=z3k ha
 unfold setF at he
 rw[ho] at he
 simp only[y0q] at he
 split at he
 next=>cases he
 next hm =>
 have hjl:j<fs.length:=(y0l.mp hs).1
 rw[if_pos hjl] at he
 cases he
 have hbm:b∈fpF fs vs':=z9u hs hv hi
 have hba:a≠b:=fun z=>(y0s.mp nd).1 (z▸hbm)
 have hat:z6f (upd H b o') a c vs':=ha.keep (z0d hba)
 have eset:vs'.set j (.ref b)=vs':=by
  obtain⟨hl,e⟩:=y0l.mp hv
  rw[<- e]
  exact List.set_getElem_self hl
 have hfe:∀x∈fpF (fs.set j s') vs',x∈fpF fs vs':=fun x hx=>by
  rw[<- eset] at hx
  rcases z7i hx with q|q
  ·exact q
  ·rw[hi'] at q
   rw[y11.mp q]
   exact hbm
 refine r.mutG (z3a ho) (zlc hm) h1 (by rw[hfp];exact y05 _ hbm) (fun kp=>⟨a,vs',rfl,hat,?_,?_,fun x hx=>?_,la⟩) fun x hx=>?_
 ·rw[<- eset]
  exact RelF.set hf kp (fun k u w hk e1 e2 x hx=>z0d fun z=>zgq (y0s.mp nd).2 (Ne.symm hk) hs hv e1 e2 hi (z▸hx)) (rs kp)
 ·refine y0s.mpr ⟨fun z=>(y0s.mp nd).1 (hfe a z),?_⟩
  rw[<- eset]
  refine z7h (y0s.mp nd).2 (by rw[hi'];simp) fun x hx k u w hk e1 e2 q=>?_
  rw[hi'] at hx
  rw[y11.mp hx] at q
  exact zgq (y0s.mp nd).2 (Ne.symm hk) hs hv e1 e2 hi q
 ·rcases y09.mp hx with rfl|hx
  ·exact ow _ y0f
  ·exact ow x (y05 _ (hfe x hx))
 ·rw[z3k hat] at hx
  rw[hfp]
  rcases y09.mp hx with rfl|hx
  ·exact .inl y0f
  ·exact .inl (y05 _ (hfe x hx))
end
end
section
variable [Tbl]
section
variable {K:y00} {F₀ F O:Addr->Prop} {H:Hp} {E:En} {ε:Ev} {σ:L2.St} {c C i j:Nat} {ns:List Str} {f:Str}
theorem z7x {m:Md} {fs:List Sl} {s:Sl} (k:ClOk K c C ns) (r:RelE K F₀ E O F H ε σ) (h:objF c i ε=some (m,fs)) (hs:fs[j]?=some s) (hj:ns[j]?=some f) :
  ∃a vs dx v,σ[i]?=some (some (.ref a))/\H a=some (.ins C dx (ns.zip vs))/\(ns.zip vs).lookup f=some v/\z6f H a c vs/\vs[j]?=some v/\zb1 K F H s v/\(∀b∈fp0 s v,OwnM E O F m b/\b≠a):=by
 obtain⟨a,vs,dx,h1,hx,hl,ha,hf,nd,ow,la⟩:=z8h k r h
 obtain⟨v,hv,rv⟩:=hf.get hs
 refine⟨a,vs,dx,v,h1,hx,zb3 k.nd hj hv,ha,hv,rv,fun b hb=>⟨ow b (y05 _ (z9u hs hv hb)),fun z=>(y0s.mp nd).1 (z▸z9u hs hv hb)⟩⟩
theorem za1 (k:ClOk K c C ns) (hj:ns[j]?=some f):zb2 K C f:=k.na f (y21 hj)
end
section
variable {X:Cx} {c C i j:Nat} {ns:List Str} {f:Str} {o e a:Expr} {g h:Fe} {pos apos:Pos}
theorem z4r (k:ClOk X.K c C ns) (hn:PE X o (tVar i)) (hj:ns[j]?=some f:=by rfl) (hb:attributeBase o f X.env (eval o X.env)=eval o X.env:=by rfl):PEr X (.Attribute o f pos) (fld c i j) :=
 z17 (z9q hn hb) fun σ H Q ⟨F₀,H₀,O,F,ε,t,r,e,kk⟩=>by
 simp only[fld,y01] at e
 obtain⟨⟨m,fs⟩,ho,e⟩:=e
 split at e
 next t' hs =>
  cases e
  obtain⟨a,vs,dx,v,h1,hx,hl,ha,hv,rv,_⟩:=z7x k r ho hs hj
  exact⟨_,h1,a,C,dx,_,v,rfl,hx,k.cls,za1 k hj,hl,kk v F H (Ext.refl r.dom) (.inl rv)⟩
 next ts hs =>
  cases e
  obtain⟨a,vs,dx,v,h1,hx,hl,ha,hv,⟨b,us,eb,hb,rb⟩,_⟩:=z7x k r ho hs hj
  subst eb
  exact⟨_,h1,a,C,dx,_,_,rfl,hx,k.cls,za1 k hj,hl,kk _ F H (Ext.refl r.dom) (.inr ⟨ts,b,us,rfl,rfl,hb,rb⟩)⟩
 next=>cases e
theorem z46 (k:ClOk X.K c C ns) (hn:PE X o (tVar i)) (hj:ns[j]?=some f:=by rfl) (hb:attributeBase o f X.env (eval o X.env)=eval o X.env:=by rfl):PEv X (.Attribute o f pos) (fldV c i j) :=
 z17 (z9q hn hb) fun σ H Q ⟨F₀,H₀,O,F,ε,t,r,e,kk⟩=>by
 simp only[fldV,y01] at e
 obtain⟨⟨m,fs⟩,ho,e⟩:=e
 split at e
 next t' hs =>
  cases e
  obtain⟨a,vs,dx,v,h1,hx,hl,ha,hv,rv,_⟩:=z7x k r ho hs hj
  exact⟨_,h1,a,C,dx,_,v,rfl,hx,k.cls,za1 k hj,hl,kk v F H (Ext.refl r.dom) rv⟩
 next=>cases e
theorem zaq {ε:Ev} {kvs:List (D.Key×T)} (e:fldD c i j ε=some kvs):∃m fs,objF c i ε=some (m,fs)/\fs[j]?=some (.dic kvs):=by
 simp only[fldD,y01] at e
 obtain⟨⟨m,fs⟩,ho,e⟩:=e
 split at e
 ·cases e
  exact⟨m,fs,ho,by assumption⟩
 ·cases e
theorem zdy {ε:Ev} {ts:List T} (e:fldL c i j ε=some ts):∃m fs,objF c i ε=some (m,fs)/\fs[j]?=some (.own ts):=by
 simp only[fldL,y01] at e
 obtain⟨⟨m,fs⟩,ho,e⟩:=e
 split at e
 ·cases e
  exact⟨m,fs,ho,by assumption⟩
 ·cases e
theorem zo7 (k:ClOk X.K c C ns) (hu:X.A.units+1<cLine) (hn:PE X o (tVar i)) (ha:PEr X a g) (hj:ns[j]?=some f:=by rfl) (hb:attributeBase o f X.env (eval o X.env)=eval o X.env:=by rfl) (hs:NoSl a:=by intro _ _;rfl) :
  PEv X (.Subscript (.Attribute o f apos) a pos) (fGet c i j g):=z17 (zu3 hu (z9q hn hb) ha hs) fun σ H Q ⟨F₀,H₀,O,F,ε,t,r,e,kk⟩=>by
 simp only[fGet,y01] at e
 obtain⟨t',et,key,ek,kvs,ed,eg⟩:=e
 obtain⟨m,fs,ho,hs⟩:=zaq ed
 obtain⟨a,vs,dx,v,h1,hx,hl,ha,hv,⟨b,us,eb,hb,rb⟩,_⟩:=z7x k r ho hs hj
 subst eb
 refine⟨_,h1,a,C,dx,_,_,rfl,hx,k.cls,za1 k hj,hl,F₀,H₀,O,F,ε,t',r,et,fun v F1 H1 x1 q1=>?_⟩
 have hb1:=x1.same.get hb
 have rb1:=RepD.kp (x1.kp (K:=X.K)) rb
 obtain⟨w,hw,rw'⟩:=rb1.get eg
 refine⟨b,w,rfl,?_,kk w F1 H1 x1 rw'⟩
 rw[za3 ek q1,<- hw]
 exact DGet.k hb1
theorem zlp {K:y00} {F₀ F O F1:Addr->Prop} {H H1:Hp} {E:En} {ε:Ev} {σ:L2.St} {b:Addr} (r:RelE K F₀ E O F H ε σ) (x:Ext F H F1 H1) (hn:H b=none) :
  ∀(k:Nat) (u:Sl) (w:V),ε[k]?=some (some u)->σ[k]?=some (some w)->b∉fpS H1 u w:=fun k u w ek hk hb=>by
 obtain⟨w',h1,h2⟩:=r.val k u ek
 rw[hk] at h1
 cases h1
 rw[(h2.extP x).2] at hb
 obtain⟨o,e,_⟩:=h2.at hb
 rw[hn] at e
 cases e
theorem z2c (k:ClOk X.K c C ns) (hn:PE X o (tVar i)) (he:PEv X e g) (hj:ns[j]?=some f:=by rfl) (hs:swapsWith e (some (.Attribute o f apos)) pos.line X.env=pure false:=by rfl) :
  PSt X (.Assign [.Attribute o f apos] e pos) (asgF c i j g):=z36 (zob hn he hs) fun D σ H ⟨F₀,H₀,O,F,ε,o,r,e,kk⟩=>by
 simp only[asgF,y01,y07] at e
 obtain⟨t,et,ε',es,rfl⟩:=e
 refine⟨F₀,H₀,O,F,ε,t,r,et,fun v F1 H1 x1 q1=>?_⟩
 have r1:=r.ext x1
 have es':=es
 unfold setF at es'
 simp only[y01] at es'
 obtain⟨⟨m,fs⟩,ho,_⟩:=es'
 obtain⟨a,vs,dx,h1,hx,hl,ha,_⟩:=z8h k r1 ho
 obtain⟨kp,r2⟩:=r1.setFld (s:=.imm t) (v:=v) k ho h1 ha es q1 (fun b hb=>by simp[fp0] at hb) hx hj
 refine⟨_,h1,a,C,dx,_,rfl,hx,k.cls,za1 k hj,?_,kk σ F1 _ (x1.kp.trans kp) r2⟩
 have:=k.few
 simp only[List.length_zip]
 omega
theorem z8d (k:ClOk X.K c C ns) (hn:PE X o (tVar i)) (he:PEn X e g) (hj:ns[j]?=some f:=by rfl) (hs:swapsWith e (some (.Attribute o f apos)) pos.line X.env=pure false:=by rfl) :
  PSt X (.Assign [.Attribute o f apos] e pos) (z8w c i j g):=z36 (zob hn he hs) fun D σ H ⟨F₀,H₀,O,F,ε,o,r,e,kk⟩=>by
 simp only[z8w,y01] at e
 obtain⟨t,et,e⟩:=e
 split at e
 next ts =>
  simp only[y07] at e
  obtain⟨ε',es,rfl⟩:=e
  refine⟨F₀,H₀,O,F,ε,ts,r,et,fun b us F1 H1 x1 hnew nf hb q1=>?_⟩
  have r1:=r.ext x1
  have es':=es
  unfold setF at es'
  simp only[y01] at es'
  obtain⟨⟨m,fs⟩,ho,_⟩:=es'
  obtain⟨a,vs,dx,h1,hx,hl,ha,_⟩:=z8h k r1 ho
  have hold:=zlp r x1 hnew
  obtain⟨kp,r2⟩:=r1.setFld (s:=.own ts) (v:=.ref b) k ho h1 ha es ⟨b,us,rfl,hb,q1⟩ (fun d hd=>by
   have:d=b:=by simpa [fp0,rf] using hd
   subst this
   exact⟨nf,r.fr _ hnew,hold i _ _ (z3a ho) h1,fun k u w _ ek _ hk=>hold k u w ek hk⟩) hx hj
  refine⟨_,h1,a,C,dx,_,rfl,hx,k.cls,za1 k hj,?_,kk σ F1 _ (x1.kp.trans kp) r2⟩
  have:=k.few
  simp only[List.length_zip]
  omega
 next=>cases e
theorem zjb {x y:T} {z:Int} (h:zgh x y=some z):∃p q,x=.int p/\y=.int q/\z=p+q:=by
 unfold zgh at h
 split at h
 ·cases h
  exact⟨_,_,rfl,rfl,rfl⟩
 ·cases h
theorem zsk (k:ClOk X.K c C ns) (hn:PE X o (tVar i)) (he:PEv X e g) (hj:ns[j]?=some f:=by rfl):PSt X (.AugAssign (.Attribute o f apos) .Add e pos) (augF c i j g) :=
 z36 (zoa hn he zt4) fun D σ H ⟨F₀,H₀,O,F,ε,o,r,e,kk⟩=>by
 simp only[augF,y01,y07] at e
 obtain⟨x,ex,y,ey,z,ez,ε',es,rfl⟩:=e
 simp only[fldV,y01] at ex
 obtain⟨⟨m,fs⟩,ho,ex⟩:=ex
 split at ex
 next t' hs =>
  cases ex
  obtain⟨p,q,rfl,rfl,rfl⟩:=zjb ez
  obtain⟨a,vs,dx,v,h1,hx,hl,ha,hv,rv,_⟩:=z7x k r ho hs hj
  refine⟨_,h1,a,C,dx,_,v,rfl,hx,k.cls,za1 k hj,hl,F₀,H₀,O,F,ε,_,r,ey,fun w F1 H1 x1 q1=>?_⟩
  have r1:=r.ext x1
  have ev:v=.int p:=by simpa [zb1,Rep] using rv
  have ew:w=.int q:=by simpa [Rep] using q1
  obtain⟨a',vs',dx',h1',hx',hl',ha',_⟩:=z8h k r1 ho
  rw[h1] at h1'
  cases h1'
  obtain⟨kp,r2⟩:=r1.setFld (s:=.imm (.int (p+q))) (v:=.int (p+q)) k ho h1 ha' es (by simp[zb1,Rep]) (fun b hb=>by simp[fp0] at hb) hx' hj
  refine⟨p,q,ev,ew,dx',_,hx',?_,kk σ F1 _ (x1.kp.trans kp) r2⟩
  have:=k.few
  simp only[List.length_zip]
  omega
 next=>cases ex
theorem zl5 (k:ClOk X.K c C ns) (hn:PE X o (tVar i)) {bpos cpos:Pos} (he:PEv X e g) (hj:ns[j]?=some f:=by rfl) (hb:attributeBase o f X.env (eval o X.env)=eval o X.env:=by rfl)
  (hs1:y0a [e] X.env=(false,eval e X.env)::y0a [] X.env:=by rfl)
  (hbase:attributeBase (.Attribute o f apos) "append" X.env (eval (.Attribute o f apos) X.env)=eval (.Attribute o f apos) X.env:=by rfl)
  (hfew:((backTo cpos (y0a [e] X.env)).all (fun x=>!x.1) && (backToKw cpos (keywordEach [] X.env)).all (fun x=>x.1.isSome)
   && decide (([e]:List Expr).length+([]:List Keyword).length+(if ([]:List Keyword).isEmpty then 0 else 1)<30))=true:=by rfl)
  (hline:(bpos.endLine == cpos.line)=true:=by rfl) (hplain:(backTo cpos (y0a [] X.env)).any (·.1)=false:=by rfl)
  (hsw:swapsWith (.Call (.Attribute (.Attribute o f apos) "append" bpos) [e] [] cpos) none pos.line X.env=pure false:=by rfl) :
  PSt X (.Expr (.Call (.Attribute (.Attribute o f apos) "append" bpos) [e] [] cpos) pos) (appF c i j g) :=
 z36 (zd1 (zwc PySem.F.plainAttrs_list PySem.F.slot_list_append PySem.F.type_list_append zhx (z9q hn hb) (z35 he z6x hs1) hbase hfew hline hs1 hplain) hsw) fun D σ H ⟨F₀,H₀,O,F,ε,o,r,e,kk⟩=>by
 simp only[appF,y01] at e
 obtain⟨t,et,ts,el,e⟩:=e
 split at e
 next hz =>
  simp only[y07] at e
  obtain⟨ε',es,rfl⟩:=e
  obtain⟨m,fs,ho,hs⟩:=zdy el
  obtain⟨a,vs,dx,v,h1,hx,hl,ha,hv,⟨b,us,eb,hb,rb⟩,_⟩:=z7x k r ho hs hj
  subst eb
  refine⟨_,h1,a,C,dx,_,_,rfl,hx,k.cls,za1 k hj,hl,.inl ⟨rfl,_,SqL.of hb⟩,F₀,H₀,O,F,ε,t,r,et,fun v F1 H1 x1 q1=>?_⟩
  have r1:=r.ext x1
  obtain⟨a1,vs1,dx1,v1,h11,hx1,hl1,ha1,hv1,⟨b1,us1,eb1,hb1,rb1⟩,_⟩:=z7x k r1 ho hs hj
  rw[h1] at h11
  cases h11
  have ev:vs1=vs:=by rw[<- ha1.vals,<- (ha.keep ((x1.same.get hx).trans hx.symm)).vals]
  subst ev
  rw[hv] at hv1
  cases hv1
  cases eb1
  obtain⟨kp,r2⟩:=r1.mutFld (s':=.own (ts++[t])) (o':=.lst (us1++[v])) ho h1 ha1 es hs hv (by simp[fp0,rf]) rfl fun kp=>⟨b,_,rfl,z0c,(rb1.kp kp).append (RepL.cons (q1.kp kp) RepL.nil)⟩
  exact⟨b,us1,v,rfl,rfl,hb1,by rw[z9c,<- rb1.length];exact hz,kk σ F1 _ (x1.kp.trans kp) r2⟩
 next=>cases e
theorem zvk (k:ClOk X.K c C ns) (hu:X.A.units+1<cLine) (hn:PE X o (tVar i)) {spos:Pos} (ha:PEr X a h) (he:PEv X e g) (hj:ns[j]?=some f:=by rfl) (hb:attributeBase o f X.env (eval o X.env)=eval o X.env:=by rfl)
  (hs:swapsWith e (some (.Subscript (.Attribute o f apos) a spos)) pos.line X.env=pure false:=by rfl) :
  PSt X (.Assign [.Subscript (.Attribute o f apos) a spos] e pos) (zhj c i j h g):=z36 (ztw hu (z9q hn hb) ha he hs) fun D σ H ⟨F₀,H₀,O,F,ε,o,r,e,kk⟩=>by
 simp only[zhj,y01] at e
 obtain⟨v,ev,t,et,key,ek,kvs,ed,e⟩:=e
 split at e
 next hz =>
  simp only[y07] at e
  obtain⟨ε',es,rfl⟩:=e
  obtain⟨m,fs,ho,hs⟩:=zaq ed
  refine⟨F₀,H₀,O,F,ε,v,r,ev,fun vv F1 H1 x1 q1=>?_⟩
  have r1:=r.ext x1
  obtain⟨a,vs,dx,w,h1,hx,hl,ha,hv,⟨b,us,eb,hb,rb⟩,_⟩:=z7x k r1 ho hs hj
  subst eb
  refine⟨_,h1,a,C,dx,_,_,rfl,hx,k.cls,za1 k hj,hl,F₀,H₀,O,F1,ε,t,r1,et,fun vt F2 H2 x2 q2=>?_⟩
  have r2:=r1.ext x2
  have ha2:z6f H2 a c vs:=ha.keep ((x2.same.get hx).trans hx.symm)
  have rb2:=RepD.kp (x2.kp (K:=X.K)) rb
  obtain⟨kp,r3⟩:=r2.mutFld (s':=.dic (putD kvs key v)) (o':=.dK (putK us key vv)) ho h1 ha2 es hs hv (by simp[fp0,rf]) rfl fun kp=>⟨b,_,rfl,z0c,RepD.put (RepD.kp kp rb2) ((q1.ext x2).kp kp)⟩
  refine⟨b,_,rfl,?_,kk σ F2 _ ((x1.trans x2).kp.trans kp) r3⟩
  rw[za3 ek q2]
  exact DPut.k (x2.same.get hb) (by rw[z9c,<- rb.length];exact hz)
 next=>cases e
theorem ztm (k:ClOk X.K c C ns) (hu:X.A.units+1<cLine) (hn:PE X o (tVar i)) {spos:Pos} (ha:PEr X a h) (he:PEv X e g) (hj:ns[j]?=some f:=by rfl) (hb:attributeBase o f X.env (eval o X.env)=eval o X.env:=by rfl)
  (hag:∀ov iv new,augStore a ov iv new=(do holding [new,ov,iv] (setItem ov iv new);release [new,ov,iv] [];pure .next):=by intros;rfl) :
  PSt X (.AugAssign (.Subscript (.Attribute o f apos) a spos) .Add e pos) (zj9 c i j h g):=z36 (ztx hu (z9q hn hb) ha he zt4 hag) fun D σ H ⟨F₀,H₀,O,F,ε,o,r,e,kk⟩=>by
 simp only[zj9,y01] at e
 obtain⟨t,et,key,ek,kvs,ed,x,eg,y,ey,z,ez,e⟩:=e
 split at e
 next hz =>
  simp only[y07] at e
  obtain⟨ε',es,rfl⟩:=e
  obtain⟨p,q,rfl,rfl,rfl⟩:=zjb ez
  obtain⟨m,fs,ho,hs⟩:=zaq ed
  obtain⟨a,vs,dx,w,h1,hx,hl,ha,hv,⟨b,us,eb,hb,rb⟩,_⟩:=z7x k r ho hs hj
  subst eb
  refine⟨_,h1,a,C,dx,_,_,rfl,hx,k.cls,za1 k hj,hl,F₀,H₀,O,F,ε,t,r,et,fun vt F1 H1 x1 q1=>?_⟩
  have r1:=r.ext x1
  have rb1:=RepD.kp (x1.kp (K:=X.K)) rb
  have hb1:=x1.same.get hb
  obtain⟨w,hw,rw'⟩:=rb1.get eg
  have ew:w=.int p:=by simpa [Rep] using rw'
  subst ew
  refine⟨b,_,rfl,by rw[za3 ek q1,<- hw];exact DGet.k hb1,F₀,H₀,O,F1,ε,_,r1,ey,fun vv F2 H2 x2 q2=>?_⟩
  have ev:vv=.int q:=by simpa [Rep] using q2
  subst ev
  refine⟨p,q,rfl,rfl,?_⟩
  have r2:=r1.ext x2
  have x12:=x1.trans x2
  have ha2:z6f H2 a c vs:=ha.keep ((x12.same.get hx).trans hx.symm)
  have rb2:=RepD.kp (x12.kp (K:=X.K)) rb
  obtain⟨kp,r3⟩:=r2.mutFld (s':=.dic (putD kvs key (.int (p+q)))) (o':=.dK (putK us key (.int (p+q)))) ho h1 ha2 es hs hv (by simp[fp0,rf]) rfl fun kp=>⟨b,_,rfl,z0c,RepD.put (RepD.kp kp rb2) (by simp[Rep])⟩
  refine⟨_,?_,kk σ F2 _ (x12.kp.trans kp) r3⟩
  rw[za3 ek q1]
  exact DPut.k (x12.same.get hb) (by rw[z9c,<- rb.length];exact hz)
 next=>cases e
end
end
section
variable [Tbl]
section
variable {X:Cx} {e:Expr} {es:List Expr} {as:List Ag} {f:Fe} {i:Nat}
end
def zv8 (K:y00) (F:Addr->Prop) (H:Hp) (ss:List Sl) (vs:List V):Prop:=Paired (fun s v=>s.isOwn=false/\z2m K ⟨H,0⟩ (fun a=>H a=none) F H s v) ss vs
noncomputable def spR (K:y00) (n:Nat) (d:List Sl->Option T):Sp:=fun vs H Q _=>vs.length=n/\∃F ss t,Dom F H/\zv8 K F H ss vs/\d ss=some t/\∀v F' H',Ext F H F' H'->Rep K F' H' t v->Q v H'
section
variable {K:y00} {F F' F₀ O:Addr->Prop} {H H':Hp} {E E':En}
theorem Paired.get {α β:Type} {R:α->β->Prop}:∀{xs:List α} {ys:List β} {i:Nat} {x:α},Paired R xs ys->xs[i]?=some x->∃y,ys[i]?=some y/\R x y
 | _,_,i,x,.nil,e=>by simp at e
 | _,_,0,x,.cons r _,e=>by
  simp at e
  subst e
  exact⟨_,rfl,r⟩
 | _,_,i+1,x,.cons _ t,e=>by
  obtain⟨y,h1,h2⟩:=Paired.get (i:=i) (x:=x) t (by simpa using e)
  exact⟨y,by simpa using h1,h2⟩
theorem z84 {ss:List Sl} {n i:Nat} {s:Sl} (h:(z5r n ss)[i]?=some (some s)):ss[i]?=some s:=by
 unfold z5r at h
 by_cases hi:i<ss.length
 ·rw[y1s (by simpa using hi),y17,y0w hi] at h
  rw[y0w hi]
  simpa using h
 ·rw[y1p (by simpa using hi),List.getElem?_replicate] at h
  split at h <;> cases h
theorem zh6 {vs:List V} {n i:Nat} {v:V} (h:vs[i]?=some v):(vs.map some++y0h n none)[i]?=some (some v):=by
 have hi:=(y0l.mp h).1
 rw[y1s (by simpa using hi),y17,h]
 rfl
theorem zto {m:Md} {c:Nat} {fs:List Sl} {v:V} (r:z2m K E O F H (.obj m c fs) v) (E':En) (O':Addr->Prop) (he:∀b∈fpS H (.obj m c fs) v,E'.h b≠none):z2m K E' O' F H (.obj .ro c fs) v:=by
 have r':=r
 obtain⟨a,vs,rfl,ha,hf,nd,ow,la⟩:=r
 rw[z3k ha] at he
 exact⟨a,vs,rfl,ha,hf,nd,fun b hb=>⟨(ow b hb).1,he b hb⟩,fun z=>by cases z⟩
theorem zjv {ss:List Sl} {vs:List V} (dom:Dom F H) (q:zv8 K F H ss vs) (n:Nat):RelE K F ⟨H,0⟩ (fun a=>H a=none) F H (z5r n ss) (vs.map some++y0h (n - vs.length) none):=by
 have hl:ss.length=vs.length:=Paired.length q
 refine⟨by simp[z5r,hl],fun i s e=>?_,fun i j s u v w hij e1 e2 o1=>?_,Ext.refl dom,fun _ h=>h,fun _ h=>h⟩
 ·obtain⟨v,hv,_,rv⟩:=Paired.get q (z84 e)
  exact⟨v,zh6 hv,rv⟩
 ·obtain⟨_,_,z,_⟩:=Paired.get q (z84 e1)
  rw[z] at o1
  cases o1
theorem zo2:∀{ts:List T} {vs:List V},RepL K F H ts vs->zv8 K F H (ts.map .imm) vs
 | [],vs,h=>by
  simp only[RepL] at h
  subst h
  exact .nil
 | t::ts,vs,h=>by
  simp only[RepL] at h
  obtain⟨v,z,rfl,q,h⟩:=h
  exact .cons ⟨rfl,q⟩ (zo2 h)
end
section
variable {P:y0r} {w:World} {K:y00} {mg:Str->Option Value} {base:Heap}
theorem zus {x qual:Str} {st:Stmt} {f:Addr} {fd:y0b} {N ps:List Str} {k:Nat} {b:Fs} (F:Fun K x qual st f fd) (S:FnScope N ps (z01 st))
  (hb:∀(cdv:Value) (A:Around) (outer:List Env) (s:y04) (H:Hp) (E:XK),Room k (A.deeper (envOfC qual (z01 st) s.heap.objs.size f cdv)) ->
   PBt (cxOf CX0 P w K mg base N qual (z01 st) f cdv A outer s H E).nox (z06 st) b) :
  FnOk P w K mg base CX0 (k+1) f fd ps (spR K ps.length (runR b N.length)):=by
 refine F.ok S (fun vs H Q E h=>h.1) fun cdv A outer s H vs Q E hr h=>⟨_,hb cdv A outer s H E hr,?_⟩
 obtain⟨hl,F,ss,t,dom,q,e,kq⟩:=h
 simp only[runR,y01] at e
 obtain⟨o,eo,e⟩:=e
 refine⟨F,⟨H,0⟩,fun a=>H a=none,F,_,o,?_,eo,?_⟩
 ·unfold L2.start
  exact zjv dom q N.length
 ·cases o with
  | rt t' =>
   cases e
   exact fun v F' H' x q=>kq v F' H' x q
  | nx ε' =>
   cases e
   exact fun σ' F' H' _ r=>kq _ F' H' r.ent (by simp[Rep])
  | bk _=>cases e
  | ct _=>cases e
  | rtm _ _=>cases e
  | rto _=>cases e
structure MtRd (P:y0r) (w:World) (K:y00) (mg:Str->Option Value) (base:Heap) (C:Addr) (m:Str) (k n:Nat) (d:List Sl->Option T):Prop where
 ex:∃fa fd ps,FnOk P w K mg base CX0 k fa fd ps (spR K n d)/\Meth K C m fa/\z0p K fd ps []
theorem MtRd.mono {C:Addr} {m:Str} {k n j:Nat} {d:List Sl->Option T} (c:MtRd P w K mg base C m j n d) (h:j<=k):MtRd P w K mg base C m k n d:=by
 obtain⟨fa,fd,ps,F,r⟩:=c.ex
 exact⟨fa,fd,ps,F.mono h,r⟩
theorem z9s {C:Addr} {m qual:Str} {st:Stmt} {f:Addr} {fd:y0b} {N ps:List Str} {k:Nat} {b:Fs} (F:Fun K m qual st f fd) (S:FnScope N ps (z01 st)) (bd:z0p K fd ps []) (me:Meth K C m f)
  (hb:∀(cdv:Value) (A:Around) (outer:List Env) (s:y04) (H:Hp) (E:XK),Room k (A.deeper (envOfC qual (z01 st) s.heap.objs.size f cdv)) ->
   PBt (cxOf CX0 P w K mg base N qual (z01 st) f cdv A outer s H E).nox (z06 st) b):MtRd P w K mg base C m (k+1) ps.length (runR b N.length):=⟨f,fd,ps,zus F S hb,me,bd⟩
end
theorem z9b:∀{gs:List Fe} {ε:Ev} {us:List T},args gs ε=some us->us.length=gs.length
 | [],ε,us,e=>by
  cases e
  rfl
 | g::gs,ε,us,e=>by
  simp only[args,y01,y07] at e
  obtain⟨t,_,vs,ev,rfl⟩:=e
  simp[z9b ev]
section
variable {X:Cx} {k n c C i:Nat} {ns:List Str} {d:List Sl->Option T} {x m:Str} {p pos apos:Pos} {o e:Expr} {es:List Expr} {as:List Ag} {fs:List Fe}
theorem z9y (kc:ClOk X.K c C ns) (Dc:MtRd X.prog X.w X.K X.mg X.base C m k n d) (hr:Room k X.A) (hn:PE X o (tVar i)) (ha:PAv X (e::es) fs) {pl:Sem Bool} (hm:m∉ns:=by decide +kernel) (hl:fs.length+1=n:=by rfl)
  (hst:y0a (e::es) X.env=(false,eval e X.env)::y0a es X.env:=by rfl) (hpl:(backTo pos (y0a es X.env)).any (·.1)=false:=by rfl)
  (ht:eval (.Call (.Attribute o m apos) (e::es) [] pos) X.env=(do
   let ov <- eval o X.env
   standAt apos.atName
   let (f,first) <- holding [ov] (getMethod ov m pl)
   callWith pos f first (backTo pos (y0a (e::es) X.env)) (backToKw pos (keywordEach [] X.env))):=by rfl):PEv X (.Call (.Attribute o m apos) (e::es) [] pos) (z2b c d i fs):=by
 obtain⟨fa,fd,ps,F,me,b⟩:=Dc.ex
 refine z17 (zog hn kc.cls me F hr b .nil zge ha hst hpl ht) fun σ H Q ⟨F₀,E,O,F,ε,t,r,e,k⟩=>?_
 simp only[z2b,y01] at e
 obtain⟨⟨md,os⟩,ho,ts,et,ed⟩:=e
 obtain⟨a,vs,dx,h1,hx,_⟩:=z8h kc r ho
 refine⟨_,h1,a,dx,_,rfl,hx,z2n hm,F₀,E,O,F,ε,ts,r,et,fun ws F1 H1 x1 q=>⟨?_,F1,_,t,x1.dom,?_,ed,fun v F' H' x2 q2=>k v F' H' (x1.trans x2) q2⟩⟩
 ·rw[y26,y0x,<- q.length,z9b et,hl]
 ·rw[y26]
  have r1:=r.ext x1
  obtain⟨v',h1',rs⟩:=r1.val i _ (z3a ho)
  rw[h1] at h1'
  cases h1'
  refine .cons ⟨rfl,zto rs _ _ fun b hb=>?_⟩ (zo2 q)
  obtain⟨o,e,_⟩:=rs.at hb
  show H1 b≠none
  rw[e]
  exact fun z=>by cases z
theorem z2d (kc:ClOk X.K c C ns) (Dc:MtRd X.prog X.w X.K X.mg X.base C m k n d) (hr:Room k X.A) (hn:PE X o (tVar i)) {pl:Sem Bool} (hm:m∉ns:=by decide +kernel) (hl:1=n:=by rfl)
  (ht:eval (.Call (.Attribute o m apos) [] [] pos) X.env=(do
   let ov <- eval o X.env
   standAt apos.atName
   let (f,first) <- holding [ov] (getMethod ov m pl)
   callWith pos f first (backTo pos (y0a [] X.env)) (backToKw pos (keywordEach [] X.env))):=by rfl):PEv X (.Call (.Attribute o m apos) [] [] pos) (z2b c d i []):=by
 obtain⟨fa,fd,ps,F,me,b⟩:=Dc.ex
 refine z17 (zgc hn kc.cls me F hr b .nil zge ht) fun σ H Q ⟨F₀,E,O,F,ε,t,r,e,k⟩=>?_
 simp only[z2b,y01] at e
 obtain⟨⟨md,os⟩,ho,ts,et,ed⟩:=e
 cases et
 obtain⟨a,vs,dx,h1,hx,_⟩:=z8h kc r ho
 refine⟨_,h1,a,dx,_,rfl,hx,z2n hm,⟨?_,F,_,t,r.dom,?_,ed,fun v F' H' x2 q2=>k v F' H' x2 q2⟩⟩
 ·simp[hl]
 ·obtain⟨v',h1',rs⟩:=r.val i _ (z3a ho)
  rw[h1] at h1'
  cases h1'
  refine .cons ⟨rfl,zto rs _ _ fun b hb=>?_⟩ .nil
  obtain⟨o,e,_⟩:=rs.at hb
  show H b≠none
  rw[e]
  exact fun z=>by cases z
end
end
section
variable [Tbl]
open Classical in
noncomputable def z63 (H:Hp) (P:List Addr) (a:Addr):En:=⟨fun b=>if b∈P then none else H b,a⟩
section
variable {K:y00} {F F' F₀ O:Addr->Prop} {H H':Hp} {E:En} {P:List Addr} {a b:Addr} {o:HO} {ε:Ev} {σ:L2.St} {c i:Nat} {m:Md} {fs fs':List Sl}
theorem zch (h:b∈P):(z63 H P a).h b=none:=if_pos h
theorem z62 (h:b∉P):(z63 H P a).h b=H b:=if_neg h
theorem z93 (h:(z63 H P a).h b=none):b∈P\/H b=none:=by
 by_cases z:b∈P
 ·exact .inl z
 ·rw[z62 z] at h
  exact .inr h
theorem zmo (h:(z63 H P a).h b=some o):b∉P/\H b=some o:=by
 by_cases z:b∈P
 ·rw[zch z] at h
  cases h
 ·exact⟨z,by rw[z62 z] at h;exact h⟩
theorem zrf (d:Dom F H):Ext F (z63 H P a).h F H:=⟨fun _ _ q=>.inl (zmo q).2,fun _ h=>h,fun _ h=>.inl h,d⟩
theorem zug {v:V} (r:z2m K E O F H (.obj m c fs) (.ref a)):z2m K (z63 H (fpS H (.obj m c fs) (.ref a)) a) (fun b=>(z63 H (fpS H (.obj m c fs) (.ref a)) a).h b=none) F H (.obj .lent c fs) (.ref a):=by
 obtain⟨a',vs,e,ha,hf,nd,ow,la⟩:=r
 cases e
 rw[z3k ha]
 exact⟨a,vs,rfl,ha,hf,nd,fun b hb=>⟨(ow b hb).1,zch hb⟩,fun _=>rfl⟩
theorem RelE.back (r:RelE K F₀ E O F H ε σ) (e:ε[i]?=some (some (.obj m c fs))) (hm:m≠.ro) (h1:σ[i]?=some (some (.ref a))) (hP:P=fpS H (.obj m c fs) (.ref a)) (x:Ext F (z63 H P a).h F' H')
  (rs:z2m K (z63 H P a) (fun b=>(z63 H P a).h b=none) F' H' (.obj .lent c fs') (.ref a)):Kp K F H F' H'/\RelE K F₀ E O F' H' (ε.set i (some (.obj m c fs'))) σ:=by
 obtain⟨v,h1',r0⟩:=r.val i _ e
 rw[h1] at h1'
 cases h1'
 have hown:(Sl.obj m c fs).isOwn=true:=zlc hm
 have inP:∀b∈P,(∃o,H b=some o/\HoM o)/\¬F b/\O b:=fun b hb=>by
  rw[hP] at hb
  exact⟨r0.at hb,(r0.held hb).1,(r0.held hb).2.1 hown⟩
 have stay:∀b o,b∉P->H b=some o->(∀ps,o≠.tbl ps)->H' b=some o:=fun b o hb e n=>x.same.get (by rw[z62 hb];exact e) n
 have kp:Kp K F H F' H':=by
  refine⟨fun b xs q=>?_,fun b xs f q=>⟨x.sub b f,?_⟩⟩
  ·rcases q with q|q
   ·refine .inl ?_
    have nb:b∉P:=fun z=>by
     obtain⟨⟨o,eo,ho⟩,_⟩:=inP b z
     rcases q with q|⟨_,q⟩ <;> (rw[eo] at q;cases q;exact ho.cases (fun _ z=>by cases z) (fun _ z=>by cases z) (fun _ _ _ z=>by cases z))
    rcases q with q|⟨u,q⟩
    ·exact .inl (stay b _ nb q fun _ z=>by cases z)
    ·exact .inr ⟨u,stay b _ nb q fun _ z=>by cases z⟩
   ·exact .inr q
  ·have nb:b∉P:=fun z=>(inP b z).2.1 f
   rcases q with q|⟨u,q⟩
   ·exact .inl (stay b _ nb q fun _ z=>by cases z)
   ·exact .inr ⟨u,stay b _ nb q fun _ z=>by cases z⟩
 have newF:∀b,F' b->F b\/b∈P\/H b=none:=fun b f=>by
  rcases x.new b f with z|z
  ·exact .inl z
  ·exact .inr (z93 z)
 have keep:∀(j:Nat) (u:Sl) (w:V),i≠j->ε[j]?=some (some u)->σ[j]?=some (some w)->z2m K E O F H u w->(∀b∈fpS H u w,b∉P)/\z2m K E O F' H' u w/\fpS H' u w=fpS H u w:=by
  intro j u w hij ej hj ru
  have nP:∀b∈fpS H u w,b∉P:=fun b hb z=>by
   cases ou:u.isOwn with
   | true=>exact r.ne i j _ u _ w hij e ej hown ou h1 hj b (hP▸z) hb
   | false=>exact (ru.held hb).2.2 ou (r.o0 b (inP b z).2.2)
  refine⟨nP,ru.keep kp (fun b hb=>?_) (fun b hb f=>?_) fun _ _ o=>o⟩
  ·obtain⟨o,eo,ho⟩:=ru.at hb
   rw[eo]
   exact stay b o (nP b hb) eo fun ps z=>by subst z;exact ho.cases (fun _ z=>by cases z) (fun _ z=>by cases z) (fun _ _ _ z=>by cases z)
  ·rcases newF b f with z|z|z
   ·exact z
   ·exact absurd z (nP b hb)
   ·obtain⟨o,eo,_⟩:=ru.at hb
    rw[z] at eo
    cases eo
 obtain⟨a',vs,ea,ha,hf,nd,ow,_⟩:=rs
 cases ea
 have hO:∀b∈a::fpF fs' vs,¬F' b/\(b∈P\/H b=none):=fun b hb=>by
  obtain⟨n,q⟩:=ow b hb
  exact⟨n,z93 q⟩
 have hown':(Sl.obj m c fs').isOwn=true:=zlc hm
 have la0:m=.lent->a=E.la:=by
  obtain⟨_,_,e0,_,_,_,_,la⟩:=r0
  cases e0
  exact la
 have own2:∀b,¬F' b/\O b->OwnM E O F' m b:=fun b h=>by
  cases m with
  | ro=>exact absurd rfl hm
  | own=>exact h
  | lent=>exact h
 have rs':z2m K E O F' H' (.obj m c fs') (.ref a):=⟨a,vs,rfl,ha,hf,nd,fun b hb=>own2 b ⟨(hO b hb).1,by
  rcases (hO b hb).2 with z|z
  ·exact (inP b z).2.2
  ·exact r.fr b z⟩,la0⟩
 have hfp:fpS H' (.obj m c fs') (.ref a)=a::fpF fs' vs:=z3k ha
 have apart:∀(j:Nat) (u:Sl) (w:V),i≠j->ε[j]?=some (some u)->σ[j]?=some (some w)->z2m K E O F H u w->∀b∈fpS H' (.obj m c fs') (.ref a),b∉fpS H u w:=fun j u w hij ej hj ru b hb hb'=>by
  rw[hfp] at hb
  rcases (hO b hb).2 with z|z
  ·exact (keep j u w hij ej hj ru).1 b hb' z
  ·obtain⟨o,eo,_⟩:=ru.at hb'
   rw[z] at eo
   cases eo
 refine⟨kp,⟨by simp[r.len],fun j u e'=>?_,fun j k u w vu vw hjk e1 e2 o1 o2 q1 q2=>?_,⟨fun b o q=>?_,fun b f=>x.sub b (r.ent.sub b f),fun b f=>?_,x.dom⟩,r.o0,fun b e'=>?_⟩⟩
 ·rcases z5c e' with ⟨rfl,e'',hl⟩|⟨ne,e''⟩
  ·cases e''
   exact⟨_,h1,rs'⟩
  ·obtain⟨w,h2,ru⟩:=r.val j u e''
   exact⟨w,h2,(keep j u w ne e'' h2 ru).2.1⟩
 ·rcases z5c e1 with ⟨rfl,e',hl⟩|⟨ne1,e1'⟩
  ·rcases z5c e2 with ⟨rfl,_,_⟩|⟨ne2,e2'⟩
   ·exact absurd rfl hjk
   ·cases e'
    rw[h1] at q1
    cases q1
    obtain⟨w',h2,ru⟩:=r.val k w e2'
    rw[q2] at h2
    cases h2
    rw[(keep k w vw ne2 e2' q2 ru).2.2]
    exact apart k w vw ne2 e2' q2 ru
  ·obtain⟨v1,h2,r1⟩:=r.val j u e1'
   rw[q1] at h2
   cases h2
   rw[(keep j u vu ne1 e1' q1 r1).2.2]
   rcases z5c e2 with ⟨rfl,e',hl⟩|⟨ne2,e2'⟩
   ·cases e'
    rw[h1] at q2
    cases q2
    intro b hb hb'
    exact apart j u vu ne1 e1' q1 r1 b hb' hb
   ·obtain⟨w',h3,r2⟩:=r.val k w e2'
    rw[q2] at h3
    cases h3
    rw[(keep k w vw ne2 e2' q2 r2).2.2]
    exact r.ne j k u w vu vw hjk e1' e2' o1 o2 q1 q2
 ·have nb:b∉P:=fun z=>by
   rw[r.o0 b (inP b z).2.2] at q
   cases q
  rcases r.ent.same b o q with z|⟨ps,ps',e1,z⟩
  ·exact x.same b o (by rw[z62 nb];exact z)
  ·rcases x.same b _ (by rw[z62 nb];exact z) with z2|⟨_,ps2,_,z2⟩
   ·exact .inr ⟨ps,ps',e1,z2⟩
   ·exact .inr ⟨ps,ps2,e1,z2⟩
 ·rcases newF b f with z|z|z
  ·exact r.ent.new b z
  ·exact .inr (r.o0 b (inP b z).2.2)
  ·exact .inr (r.o0 b (r.fr b z))
 ·rcases z93 (x.same.none e') with z|z
  ·exact (inP b z).2.2
  ·exact r.fr b z
end
noncomputable def spM (K:y00) (n c p:Nat) (d:List Sl->Option (T×List Sl)):Sp:=fun vs H Q _=>vs.length=n/\∃(F:Addr->Prop) (ss:List Sl) (a:Addr) (P:List Addr) (fs:List Sl) (r:T×List Sl),Dom F H/\vs[p]?=some (.ref a)/\ss[p]?=some (.obj .lent c fs) /\
 Paired (fun s v=>z2m K (z63 H P a) (fun b=>(z63 H P a).h b=none) F H s v) ss vs/\(∀q s,q≠p->ss[q]?=some s->s.isOwn=false)/\d ss=some r /\
 ∀v F' H',Ext F (z63 H P a).h F' H'->Rep K F' H' r.1 v->z2m K (z63 H P a) (fun b=>(z63 H P a).h b=none) F' H' (.obj .lent c r.2) (.ref a)->Q v H'
section
variable {P:y0r} {w:World} {K:y00} {mg:Str->Option Value} {base:Heap}
theorem zk3 {c p:Nat} {ε:Ev} {fs:List Sl} (h:z56 c p ε=some fs):ε[p]?=some (some (.obj .lent c fs)):=by
 unfold z56 at h
 split at h
 next c' fs' e =>
  split at h
  next hc =>
   cases h
   rw[e,hc]
  next=>cases h
 next=>cases h
theorem zk6 {x qual:Str} {st:Stmt} {f:Addr} {fd:y0b} {N ps:List Str} {k c p:Nat} {b:Fs} (F:Fun K x qual st f fd) (S:FnScope N ps (z01 st))
  (hb:∀(cdv:Value) (A:Around) (outer:List Env) (s:y04) (H:Hp) (E:XK),Room k (A.deeper (envOfC qual (z01 st) s.heap.objs.size f cdv)) ->
   PBt (cxOf CX0 P w K mg base N qual (z01 st) f cdv A outer s H E).nox (z06 st) b) :
  FnOk P w K mg base CX0 (k+1) f fd ps (spM K ps.length c p (runM c p b N.length)):=by
 refine F.ok S (fun vs H Q E h=>h.1) fun cdv A outer s H vs Q E hr h=>⟨_,hb cdv A outer s H E hr,?_⟩
 obtain⟨hl,F,ss,a,P',fs,r,dom,hv,hs,q,ho,e,kq⟩:=h
 simp only[runM,y01] at e
 obtain⟨o,eo,e⟩:=e
 have hlen:ss.length=vs.length:=Paired.length q
 refine⟨F,z63 H P' a,fun b=>(z63 H P' a).h b=none,F,_,o,?_,eo,?_⟩
 ·unfold L2.start
  refine⟨by simp[z5r,hlen],fun i s e=>?_,fun i j s u v w hij e1 e2 o1 o2=>?_,zrf dom,fun _ h=>h,fun b hb=>?_⟩
  ·obtain⟨v,hv,rv⟩:=Paired.get q (z84 e)
   exact⟨v,zh6 hv,rv⟩
  ·by_cases hi:i=p
   ·subst hi
    rw[ho j u (Ne.symm hij) (z84 e2)] at o2
    cases o2
   ·rw[ho i s hi (z84 e1)] at o1
    cases o1
  ·by_cases z:b∈P'
   ·exact zch z
   ·exact (z62 z).trans hb
 ·have fin:∀{ε':Ev} {σ':L2.St} {F':Addr->Prop} {H':Hp} {fs':List Sl},RelE K F (z63 H P' a) (fun b=>(z63 H P' a).h b=none) F' H' ε' σ'->z56 c p ε'=some fs'->z2m K (z63 H P' a) (fun b=>(z63 H P' a).h b=none) F' H' (.obj .lent c fs') (.ref a):=fun r' el=>by
   obtain⟨v',_,rs⟩:=r'.val p _ (zk3 el)
   have rs':=rs
   obtain⟨a',_,rfl,_,_,_,_,la⟩:=rs
   have:a'=a:=la rfl
   subst this
   exact rs'
  cases o with
  | rt t'=>cases e
  | nx ε' =>
   simp only[y07] at e
   obtain⟨fs',el,rfl⟩:=e
   exact fun σ' F' H' _ r'=>kq _ F' H' r'.ent (by simp[Rep]) (fin r' el)
  | bk _=>cases e
  | ct _=>cases e
  | rtm t ε' =>
   simp only[y07] at e
   obtain⟨fs',el,rfl⟩:=e
   exact fun v σ' F' H' r' rv=>kq v F' H' r'.ent rv (fin r' el)
  | rto _=>cases e
structure MtMd (P:y0r) (w:World) (K:y00) (mg:Str->Option Value) (base:Heap) (C:Addr) (c:Nat) (m:Str) (k n:Nat) (d:List Sl->Option (T×List Sl)):Prop where
 ex:∃fa fd ps,FnOk P w K mg base CX0 k fa fd ps (spM K n c 0 d)/\Meth K C m fa/\z0p K fd ps []
theorem MtMd.mono {C:Addr} {c:Nat} {m:Str} {k n j:Nat} {d:List Sl->Option (T×List Sl)} (h:MtMd P w K mg base C c m j n d) (hj:j<=k):MtMd P w K mg base C c m k n d:=by
 obtain⟨fa,fd,ps,F,r⟩:=h.ex
 exact⟨fa,fd,ps,F.mono hj,r⟩
theorem z3b {C:Addr} {m qual:Str} {st:Stmt} {f:Addr} {fd:y0b} {N ps:List Str} {k c:Nat} {b:Fs} (F:Fun K m qual st f fd) (S:FnScope N ps (z01 st)) (bd:z0p K fd ps []) (me:Meth K C m f)
  (hb:∀(cdv:Value) (A:Around) (outer:List Env) (s:y04) (H:Hp) (E:XK),Room k (A.deeper (envOfC qual (z01 st) s.heap.objs.size f cdv)) ->
   PBt (cxOf CX0 P w K mg base N qual (z01 st) f cdv A outer s H E).nox (z06 st) b):MtMd P w K mg base C c m (k+1) ps.length (runM c 0 b N.length):=⟨f,fd,ps,zk6 F S hb,me,bd⟩
structure ClM (P:y0r) (w:World) (K:y00) (mg:Str->Option Value) (base:Heap) (x:Str) (c p k n:Nat) (d:List Sl->Option (T×List Sl)):Prop where
 ex:∃fa fd ps,FnOk P w K mg base CX0 k fa fd ps (spM K n c p d)/\mg x=some (.ref fa)/\y08 K (.ref fa)=true/\z0p K fd ps []
theorem ClM.mono {x:Str} {c p k n j:Nat} {d:List Sl->Option (T×List Sl)} (h:ClM P w K mg base x c p j n d) (hj:j<=k):ClM P w K mg base x c p k n d:=by
 obtain⟨fa,fd,ps,F,r⟩:=h.ex
 exact⟨fa,fd,ps,F.mono hj,r⟩
theorem zx3 {x:Str} {st:Stmt} {f:Addr} {fd:y0b} {N ps:List Str} {k c p:Nat} {b:Fs} (F:Fun K x x st f fd) (S:FnScope N ps (z01 st)) (bd:z0p K fd ps []) (m:mg x=some (.ref f))
  (hb:∀(cdv:Value) (A:Around) (outer:List Env) (s:y04) (H:Hp) (E:XK),Room k (A.deeper (envOfC x (z01 st) s.heap.objs.size f cdv)) ->
   PBt (cxOf CX0 P w K mg base N x (z01 st) f cdv A outer s H E).nox (z06 st) b):ClM P w K mg base x c p (k+1) ps.length (runM c p b N.length):=⟨f,fd,ps,zk6 F S hb,m,F.kp,bd⟩
end
def tX (K:y00) (f:Fx):TE:=fun σ H Q=>∃F₀ E O F ε t ε',RelE K F₀ E O F H ε σ/\f ε=some (t,ε')/\∀v F' H',Kp K F H F' H'->RelE K F₀ E O F' H' ε' σ->Rep K F' H' t v->Q v H'
abbrev PEx (X:Cx) (e:Expr) (f:Fx):Prop:=PE X e (tX X.K f)
section
variable {X:Cx} {k n c C i:Nat} {ns:List Str} {d:List Sl->Option (T×List Sl)} {x m:Str} {p pos apos:Pos} {o e:Expr} {es:List Expr} {fs gs:List Fe} {fx:Fx}
theorem zju {K:y00} {E:En} {O F:Addr->Prop} {H:Hp}:∀{ts:List T} {vs:List V},RepL K F H ts vs->Paired (fun s v=>z2m K E O F H s v) (ts.map .imm) vs
 | [],vs,h=>by
  simp only[RepL] at h
  subst h
  exact .nil
 | t::ts,vs,h=>by
  simp only[RepL] at h
  obtain⟨v,z,rfl,q,h⟩:=h
  exact .cons q (zju h)
theorem zpb {ts:List T} {q:Nat} {s:Sl} (h:(ts.map Sl.imm)[q]?=some s):s.isOwn=false:=by
 rw[y17] at h
 cases e:ts[q]? with
 | none=>rw[e] at h;cases h
 | some t=>rw[e] at h;cases h;rfl
theorem zgj {σ:L2.St} {H H1:Hp} {F₀ O F F1:Addr->Prop} {E:En} {ε:Ev} {md:Md} {os:List Sl} {a:Addr} {Q:VK} {ws:List V} {ts:List T} {r:T×List Sl} (rE:RelE X.K F₀ E O F H ε σ) (ho:objF c i ε=some (md,os)) (hm:md≠.ro) (h1:σ[i]?=some (some (.ref a)))
  (x1:Ext F H F1 H1) (q:RepL X.K F1 H1 ts ws) (ed:d (.obj .lent c os::ts.map .imm)=some r) (hl:ts.length+1=n)
  (kk:∀v F' H',Kp X.K F H F' H'->RelE X.K F₀ E O F' H' (ε.set i (some (.obj md c r.2))) σ->Rep X.K F' H' r.1 v->Q v H'):spM X.K n c 0 d (.ref a::ws) H1 Q E0:=by
 have r1:=rE.ext x1
 obtain⟨v',h1',rs⟩:=r1.val i _ (z3a ho)
 rw[h1] at h1'
 cases h1'
 refine⟨by simp[<- q.length,hl],F1,_,a,fpS H1 (.obj md c os) (.ref a),os,r,x1.dom,rfl,rfl,.cons (zug (v:=.ref a) rs) (zju q),fun j s hj hs=>?_,ed,fun v F' H' x2 rv rs2=>?_⟩
 ·cases j with
  | zero=>exact absurd rfl hj
  | succ j=>exact zpb (q:=j) (by simpa using hs)
 ·obtain⟨kp,r2⟩:=r1.back (z3a ho) hm h1 rfl x2 rs2
  exact kk v F' H' (x1.kp.trans kp) r2 rv
theorem z0n (kc:ClOk X.K c C ns) (Dc:MtMd X.prog X.w X.K X.mg X.base C c m k n d) (hr:Room k X.A) (hn:PE X o (tVar i)) (ha:PAv X (e::es) fs) {pl:Sem Bool} (hm:m∉ns:=by decide +kernel) (hl:fs.length+1=n:=by rfl)
  (hst:y0a (e::es) X.env=(false,eval e X.env)::y0a es X.env:=by rfl) (hpl:(backTo pos (y0a es X.env)).any (·.1)=false:=by rfl)
  (ht:eval (.Call (.Attribute o m apos) (e::es) [] pos) X.env=(do
   let ov <- eval o X.env
   standAt apos.atName
   let (f,first) <- holding [ov] (getMethod ov m pl)
   callWith pos f first (backTo pos (y0a (e::es) X.env)) (backToKw pos (keywordEach [] X.env))):=by rfl):PEx X (.Call (.Attribute o m apos) (e::es) [] pos) (z0t c d i fs):=by
 obtain⟨fa,fd,ps,F,me,b⟩:=Dc.ex
 refine z17 (zog hn kc.cls me F hr b .nil zge ha hst hpl ht) fun σ H Q ⟨F₀,E,O,F,ε,t,ε',r,e,kk⟩=>?_
 simp only[z0t,y01] at e
 obtain⟨⟨md,os⟩,ho,e⟩:=e
 split at e
 next=>cases e
 next hmd =>
  simp only[y01,y07] at e
  obtain⟨ts,et,r',ed,e⟩:=e
  cases e
  obtain⟨a,vs,dx,h1,hx,_⟩:=z8h kc r ho
  refine⟨_,h1,a,dx,_,rfl,hx,z2n hm,F₀,E,O,F,ε,ts,r,et,fun ws F1 H1 x1 q=>?_⟩
  show spM X.K n c 0 d (V.ref a::(ws++[])) H1 Q E0
  rw[y26]
  exact zgj r ho hmd h1 x1 q ed (by rw[z9b et,hl]) kk
theorem z5l (kc:ClOk X.K c C ns) (Dc:MtMd X.prog X.w X.K X.mg X.base C c m k n d) (hr:Room k X.A) (hn:PE X o (tVar i)) {pl:Sem Bool} (hm:m∉ns:=by decide +kernel) (hl:1=n:=by rfl)
  (ht:eval (.Call (.Attribute o m apos) [] [] pos) X.env=(do
   let ov <- eval o X.env
   standAt apos.atName
   let (f,first) <- holding [ov] (getMethod ov m pl)
   callWith pos f first (backTo pos (y0a [] X.env)) (backToKw pos (keywordEach [] X.env))):=by rfl):PEx X (.Call (.Attribute o m apos) [] [] pos) (z0t c d i []):=by
 obtain⟨fa,fd,ps,F,me,b⟩:=Dc.ex
 refine z17 (zgc hn kc.cls me F hr b .nil zge ht) fun σ H Q ⟨F₀,E,O,F,ε,t,ε',r,e,kk⟩=>?_
 simp only[z0t,y01] at e
 obtain⟨⟨md,os⟩,ho,e⟩:=e
 split at e
 next=>cases e
 next hmd =>
  simp only[y01,y07] at e
  obtain⟨ts,et,r',ed,e⟩:=e
  cases e
  cases et
  obtain⟨a,vs,dx,h1,hx,_⟩:=z8h kc r ho
  refine⟨_,h1,a,dx,_,rfl,hx,z2n hm,?_⟩
  exact zgj r ho hmd h1 (Ext.refl r.dom) RepL.nil ed (by simpa using hl) kk
theorem z2z (h:PEx X e fx) (hsw:swapsWith e none pos.line X.env=pure false:=by rfl):PSt X (.Expr e pos) (exX fx):=z36 (zd1 h hsw) fun D σ H ⟨F₀,E,O,F,ε,o,r,e,k⟩=>by
 simp only[exX,y07] at e
 obtain⟨⟨t,ε'⟩,et,rfl⟩:=e
 exact⟨F₀,E,O,F,ε,t,ε',r,et,fun v F' H' kp r' _=>k σ F' H' kp r'⟩
theorem zez (h:PEx X e fx):PSt X (.Return (some e) pos) (rtnX fx):=z36 (zf3 h) fun D σ H ⟨F₀,E,O,F,ε,o,r,e,k⟩=>by
 simp only[rtnX,y07] at e
 obtain⟨⟨t,ε'⟩,et,rfl⟩:=e
 exact⟨F₀,E,O,F,ε,t,ε',r,et,fun v F' H' kp r' rv=>k v σ F' H' r' rv⟩
theorem zvj {f:Fe} (h:PEv X e f):PSt X (.Return (some e) pos) (rtnM f):=z36 (zf3 h) fun D σ H ⟨F₀,E,O,F,ε,o,r,e,k⟩=>by
 simp only[rtnM,y07] at e
 obtain⟨t,et,rfl⟩:=e
 exact⟨F₀,E,O,F,ε,t,r,et,fun v F' H' x rv=>k v σ F' H' (r.ext x) rv⟩
theorem zjr:PSt X (.Return none pos) zg7:=z36 ztv fun D σ H ⟨F₀,E,O,F,ε,o,r,e,k⟩=>by
 cases e
 exact k .non σ F H r (by simp[Rep])
theorem znv {st:Stmt}:PSt X st zhu:=fun pins s σ H D I ⟨F₀,E,O,F,ε,o,r,e,k⟩=>by cases e
theorem zsl (j:Nat) {y:Str} {pos':Pos} (hN:X.N.Nodup) (h:PEx X e fx) (hi:X.N[j]?=some y:=by rfl) (hx:Loc X.env.scope y:=by first|exact Or.inl rfl|exact Or.inr rfl)
  (hs:swapsWith e (some (.Name y pos')) pos.line X.env=pure false:=by rfl) (hf:X.fn y=true\/X.env.scope.names.lookup y=some .local:=by first|exact .inl rfl|exact .inr rfl) :
  PSt X (.Assign [.Name y pos'] e pos) (asgX j fx):=z36 (zlb hN hi hx h hs hf) fun D σ H ⟨F₀,E,O,F,ε,o,r,e,k⟩=>by
 simp only[asgX,y07] at e
 obtain⟨⟨t,ε'⟩,et,rfl⟩:=e
 exact⟨F₀,E,O,F,ε,t,ε',r,et,fun v F' H' kp r' rv=>k _ F' H' kp (r'.set j rv)⟩
end
end
section
variable [Tbl]
noncomputable def tO (K:y00) (f:Fo):TE:=fun σ H Q=>∃F₀ E O F ε s,RelE K F₀ E O F H ε σ/\f ε=some s/\∀a F' H',Ext F H F' H'->z2m K E O F' H' s (.ref a)->(∀b∈fpS H' s (.ref a),H b=none)->Q (.ref a) H'
abbrev PEo (X:Cx) (e:Expr) (f:Fo):Prop:=PE X e (tO X.K f)
noncomputable def spO (K:y00) (n:Nat) (d:List T->Option Sl):Sp:=fun vs H Q _=>vs.length=n/\∃F ts s,Dom F H/\RepL K F H ts vs/\d ts=some s/\∀a F' H',Ext F H F' H'->z2m K ⟨H,0⟩ (fun b=>H b=none) F' H' s (.ref a)->Q (.ref a) H'
theorem zhl {s t:Sl} (h:ownS s=some t):∃c os,s=.obj .own c os/\t=.obj .own c os:=by
 unfold ownS at h
 split at h
 ·cases h
  exact⟨_,_,rfl,rfl⟩
 ·cases h
section
variable {P:y0r} {w:World} {K:y00} {mg:Str->Option Value} {base:Heap}
theorem zut {x qual:Str} {st:Stmt} {f:Addr} {fd:y0b} {N ps:List Str} {k:Nat} {b:Fs} (F:Fun K x qual st f fd) (S:FnScope N ps (z01 st))
  (hb:∀(cdv:Value) (A:Around) (outer:List Env) (s:y04) (H:Hp) (E:XK),Room k (A.deeper (envOfC qual (z01 st) s.heap.objs.size f cdv)) ->
   PBt (cxOf CX0 P w K mg base N qual (z01 st) f cdv A outer s H E).nox (z06 st) b) :
  FnOk P w K mg base CX0 (k+1) f fd ps (spO K ps.length (runO b N.length)):=by
 refine F.ok S (fun vs H Q E h=>h.1) fun cdv A outer s H vs Q E hr h=>⟨_,hb cdv A outer s H E hr,?_⟩
 obtain⟨hl,F,ts,t,dom,q,e,kq⟩:=h
 simp only[runO,y01] at e
 obtain⟨o,eo,e⟩:=e
 refine⟨F,⟨H,0⟩,fun a=>H a=none,F,_,o,?_,eo,?_⟩
 ·have:=zb9 (N:=N) dom q (N.length - ts.length)
  unfold L2.start
  rw[q.length] at this ⊢
  exact this
 ·cases o with
  | rto s =>
   obtain⟨c,os,rfl,rfl⟩:=zhl e
   exact fun a F' H' x rs=>kq a F' H' x rs
  | nx ε'=>cases e
  | bk _=>cases e
  | ct _=>cases e
  | rtm _ _=>cases e
  | rt _=>cases e
structure ClO (P:y0r) (w:World) (K:y00) (mg:Str->Option Value) (base:Heap) (x:Str) (k n:Nat) (d:List T->Option Sl):Prop where
 ex:∃fa fd ps,FnOk P w K mg base CX0 k fa fd ps (spO K n d)/\mg x=some (.ref fa)/\y08 K (.ref fa)=true/\z0p K fd ps []
theorem ClO.mono {x:Str} {k n j:Nat} {d:List T->Option Sl} (c:ClO P w K mg base x j n d) (h:j<=k):ClO P w K mg base x k n d:=by
 obtain⟨fa,fd,ps,F,r⟩:=c.ex
 exact⟨fa,fd,ps,F.mono h,r⟩
theorem zx2 {x:Str} {st:Stmt} {f:Addr} {fd:y0b} {N ps:List Str} {k:Nat} {b:Fs} (F:Fun K x x st f fd) (S:FnScope N ps (z01 st)) (bd:z0p K fd ps []) (m:mg x=some (.ref f))
  (hb:∀(cdv:Value) (A:Around) (outer:List Env) (s:y04) (H:Hp) (E:XK),Room k (A.deeper (envOfC x (z01 st) s.heap.objs.size f cdv)) ->
   PBt (cxOf CX0 P w K mg base N x (z01 st) f cdv A outer s H E).nox (z06 st) b):ClO P w K mg base x (k+1) ps.length (runO b N.length):=⟨f,fd,ps,zut F S hb,m,F.kp,bd⟩
structure ClNew (P:y0r) (w:World) (K:y00) (mg:Str->Option Value) (base:Heap) (x:Str) (C:Addr) (c k n:Nat) (d:List Sl->Option (T×List Sl)):Prop where
 ex:∃fa fd ps,FnOk P w K mg base CX0 k fa fd ps (spM K n c 0 d)/\Mk K C fa/\mg x=some (.ref C)/\z0p K fd ps []
theorem ClNew.mono {x:Str} {C:Addr} {c k n j:Nat} {d:List Sl->Option (T×List Sl)} (h:ClNew P w K mg base x C c j n d) (hj:j<=k):ClNew P w K mg base x C c k n d:=by
 obtain⟨fa,fd,ps,F,r⟩:=h.ex
 exact⟨fa,fd,ps,F.mono hj,r⟩
theorem zsy {x:Str} {C:Addr} {qual:Str} {st:Stmt} {f:Addr} {fd:y0b} {N ps:List Str} {k c:Nat} {b:Fs} (F:Fun K "__init__" qual st f fd) (S:FnScope N ps (z01 st)) (bd:z0p K fd ps []) (me:Mk K C f) (m:mg x=some (.ref C))
  (hb:∀(cdv:Value) (A:Around) (outer:List Env) (s:y04) (H:Hp) (E:XK),Room k (A.deeper (envOfC qual (z01 st) s.heap.objs.size f cdv)) ->
   PBt (cxOf CX0 P w K mg base N qual (z01 st) f cdv A outer s H E).nox (z06 st) b):ClNew P w K mg base x C c (k+1) ps.length (runM c 0 b N.length):=⟨f,fd,ps,zk6 F S hb,me,m,bd⟩
end
section
variable {X:Cx} {k n c C i j:Nat} {ns:List Str} {x m f:Str} {p pos apos:Pos} {o e:Expr} {es:List Expr} {fs:List Fe} {fo:Fo}
theorem zo3 {K:y00} {E E':En} {O O' F':Addr->Prop} {H':Hp} {m:Md} {c:Nat} {os:List Sl} {a:Addr} (rs:z2m K E' O' F' H' (.obj m c os) (.ref a)) (hm:m≠.ro) (h:∀b,O' b->O b):z2m K E O F' H' (.obj .own c os) (.ref a):=by
 obtain⟨a',vs,e,ha,hf,nd,ow,_⟩:=rs
 refine⟨a',vs,e,ha,hf,nd,fun b hb=>⟨(ow b hb).1,h b ?_⟩,fun z=>by cases z⟩
 have q:=(ow b hb).2
 cases m with
 | ro=>exact absurd rfl hm
 | own=>exact q
 | lent=>exact q
theorem zuc {d:List Sl->Option (T×List Sl)} (kc:ClOk X.K c C ns) (Dc:ClNew X.prog X.w X.K X.mg X.base x C c k n d) (hr:Room (k+1) X.A) (ha:PAv X (e::es) fs) (hg:Gl X x:=by rfl) (hl:fs.length+1=n:=by rfl) (hdb:(x == ("__debug__":Str))=false:=by decide)
  (he:y0a (e::es) X.env=(false,eval e X.env)::y0a es X.env:=by rfl) (hpl:(backTo pos (y0a es X.env)).any (·.1)=false:=by rfl):PEo X (.Call (.Name x p) (e::es) [] pos) (newO c d fs):=by
 obtain⟨fa,fd,ps,F,M,hm,b⟩:=Dc.ex
 refine z17 (zu2 M F hr hg hm b .nil zge ha hdb he hpl) fun σ H Q ⟨F₀,E,O,F,ε,s,r,e,kk⟩=>?_
 simp only[newO,y01] at e
 obtain⟨ts,et,r',ed,e⟩:=e
 refine⟨F₀,E,O,F,ε,ts,r,et,fun ws F1 H1 x1 q=>fun y dx hy hdx hne=>?_⟩
 rw[y26]
 have hy2:upd (upd H1 dx (.own y)) y (.ins C dx []) y=some (.ins C dx []):=z0c
 have hat:∀H2:Hp,H2 y=some (.ins C dx [])->z6f H2 y c []:=fun H2 e=>by
  refine⟨y2c _,?_⟩
  rw[kc.ck]
  exact⟨dx,by simpa using e⟩
 have nH:∀b,b≠y->b≠dx->upd (upd H1 dx (.own y)) y (.ins C dx []) b=H1 b:=fun b h1 h2=>by rw[z0d h1,z0d h2]
 have xa:Ext F1 H1 F1 (upd H1 dx (.own y)):=Ext.laid x1.dom hdx
 have hy1:upd H1 dx (.own y) y=none:=by rw[z0d (Ne.symm hne)];exact hy
 have xb:Ext F1 H1 F1 (upd (upd H1 dx (.own y)) y (.ins C dx [])):=xa.trans (Ext.laid xa.dom hy1)
 have nF:¬F1 y:=fun z=>by
  obtain⟨o,e⟩:=x1.dom y z
  rw[hy] at e
  cases e
 split at e
 next hr1 =>
  cases e
  refine⟨by simp[<- q.length,z9b et,hl],F1,.obj .lent c []::ts.map .imm,y,[y],[],r',xb.dom,rfl,rfl,.cons ⟨y,[],rfl,hat _ hy2,rfl,by simp[fpF],fun b hb=>?_,fun _=>rfl⟩ (zju (q.ext xb)),fun j s hj hs=>?_,ed,fun v F' H' x2 rv rs=>?_⟩
  ·have:b=y:=by simpa [fpF] using hb
   subst this
   exact⟨nF,zch (by simp)⟩
  ·cases j with
   | zero=>exact absurd rfl hj
   | succ j=>exact zpb (q:=j) (by simpa using hs)
  ·rw[hr1] at rv
   refine⟨by simpa [Rep] using rv,?_⟩
   have none0:∀b,(z63 (upd (upd H1 dx (.own y)) y (.ins C dx [])) [y] y).h b=none->H b=none:=fun b hb=>by
    rcases z93 hb with z|z
    ·have:b=y:=by simpa using z
     rw[this]
     exact x1.same.none hy
    ·exact x1.same.none (xb.same.none z)
   have xe:Ext F H F' H':=by
    refine⟨fun b o q=>?_,fun b z=>x2.sub b (x1.sub b z),fun b z=>?_,x2.dom⟩
    ·have step:∀u,H1 b=some u->(z63 (upd (upd H1 dx (.own y)) y (.ins C dx [])) [y] y).h b=some u:=fun u e1=>by
      have n1:b≠y:=fun z=>by rw[z,hy] at e1;cases e1
      have n2:b≠dx:=fun z=>by rw[z,hdx] at e1;cases e1
      rw[z62 (by simpa using n1),nH b n1 n2]
      exact e1
     rcases x1.same b o q with z|⟨ps,ps',e1,z⟩
     ·exact x2.same b o (step _ z)
     ·rcases x2.same b _ (step _ z) with z2|⟨_,ps2,_,z2⟩
      ·exact .inr ⟨ps,ps',e1,z2⟩
      ·exact .inr ⟨ps,ps2,e1,z2⟩
    ·rcases x2.new b z with z|z
     ·exact x1.new b z
     ·exact .inr (none0 b z)
   refine kk y F' H' xe (zo3 rs (by decide) fun b hb=>r.fr b (none0 b hb)) fun b hb=>?_
   obtain⟨a',vs,ea,ha',hf,nd,ow,_⟩:=rs
   cases ea
   rw[z3k ha'] at hb
   exact none0 b (ow b hb).2
 next=>cases e
theorem zoq {d:List T->Option Sl} (Dc:ClO X.prog X.w X.K X.mg X.base x k n d) (hd:∀ts s,d ts=some s->∃c os,s=.obj .own c os) (hr:Room k X.A) (ha:PAv X (e::es) fs) (hg:Gl X x:=by rfl) (hl:fs.length=n:=by rfl) (hdb:(x == ("__debug__":Str))=false:=by decide)
  (he:y0a (e::es) X.env=(false,eval e X.env)::y0a es X.env:=by rfl) (hpl:(backTo pos (y0a es X.env)).any (·.1)=false:=by rfl):PEo X (.Call (.Name x p) (e::es) [] pos) (zis d fs):=by
 obtain⟨fa,fd,ps,F,hm,kp,b⟩:=Dc.ex
 refine z17 (zjz F hr hg hm kp b .nil zge ha hdb he hpl) fun σ H Q ⟨F₀,E,O,F,ε,s,r,e,kk⟩=>?_
 simp only[zis,y01] at e
 obtain⟨ts,et,ed⟩:=e
 obtain⟨c,os,rfl⟩:=hd _ _ ed
 refine⟨F₀,E,O,F,ε,ts,r,et,fun ws F1 H1 x1 q=>⟨?_,F1,ts,_,x1.dom,by simpa using q,ed,fun a F' H' x2 rs=>?_⟩⟩
 ·rw[y26,<- q.length,z9b et,hl]
 ·refine kk a F' H' (x1.trans x2) (zo3 rs (by decide) fun b hb=>r.fr b (x1.same.none hb)) fun b hb=>?_
  obtain⟨a',vs,ea,ha',hf,nd,ow,_⟩:=rs
  cases ea
  rw[z3k ha'] at hb
  exact x1.same.none (ow b hb).2
theorem zqu {b:Fs} {n:Nat} {ts:List T} {s:Sl} (h:runO b n ts=some s):∃c os,s=.obj .own c os:=by
 simp only[runO,y01] at h
 obtain⟨o,eo,e⟩:=h
 cases o with
 | rto s' =>
  obtain⟨c,os,_,rfl⟩:=zhl e
  exact⟨c,os,rfl⟩
 | _=>cases e
theorem zvm (j:Nat) {y:Str} {pos':Pos} (hN:X.N.Nodup) (h:PEo X e fo) (hi:X.N[j]?=some y:=by rfl) (hx:Loc X.env.scope y:=by first|exact Or.inl rfl|exact Or.inr rfl)
  (hs:swapsWith e (some (.Name y pos')) pos.line X.env=pure false:=by rfl) (hf:X.fn y=true\/X.env.scope.names.lookup y=some .local:=by first|exact .inl rfl|exact .inr rfl) :
  PSt X (.Assign [.Name y pos'] e pos) (asgO j fo):=z36 (zlb hN hi hx h hs hf) fun D σ H ⟨F₀,E,O,F,ε,o,r,e,k⟩=>by
 simp only[asgO,y07] at e
 obtain⟨s,es,rfl⟩:=e
 exact⟨F₀,E,O,F,ε,s,r,es,fun a F' H' x rs hn=>k _ F' H' x.kp (r.setNew j x rs hn)⟩
theorem zvi (hn:PE X e (tVar i)):PSt X (.Return (some e) pos) (rtnO i):=z36 (zf3 hn) fun D σ H ⟨F₀,E,O,F,ε,o,r,e,k⟩=>by
 unfold rtnO at e
 split at e
 next c fs he =>
  cases e
  obtain⟨v,h1,rs⟩:=r.val i _ he
  have rs':=rs
  obtain⟨a,vs,rfl,_⟩:=rs
  exact⟨_,h1,k a F H r.ent rs'⟩
 next=>cases e
theorem zc4 {s:Sl} {os:List Sl} (h:za7 c s=some os):s=.obj .own c os:=by
 unfold za7 at h
 split at h
 next c' fs =>
  split at h
  next hc =>
   cases h
   rw[hc]
  next=>cases h
 next=>cases h
theorem zsz {K:y00} {E:En} {O F:Addr->Prop} {H:Hp} {os:List Sl} {a:Addr} (kc:ClOk K c C ns) (rs:z2m K E O F H (.obj .own c os) (.ref a)):∃dx vs,H a=some (.ins C dx (ns.zip vs))/\z6f H a c vs/\RelF K F H os vs:=by
 obtain⟨a',vs,ea,ha,hf,_⟩:=rs
 cases ea
 obtain⟨hl,hx⟩:=id ha
 rw[kc.ck] at hx
 obtain⟨dx,hx⟩:=hx
 rw[kc.cn] at hx
 exact⟨dx,vs,hx,ha,hf⟩
theorem zxr {d:List Sl->Option T} (kc:ClOk X.K c C ns) (Dc:MtRd X.prog X.w X.K X.mg X.base C m k n d) (hr:Room k X.A) (ho:PEo X o fo) {pl:Sem Bool} (hm:m∉ns:=by decide +kernel) (hl:1=n:=by rfl)
  (ht:eval (.Call (.Attribute o m apos) [] [] pos) X.env=(do
   let ov <- eval o X.env
   standAt apos.atName
   let (f,first) <- holding [ov] (getMethod ov m pl)
   callWith pos f first (backTo pos (y0a [] X.env)) (backToKw pos (keywordEach [] X.env))):=by rfl):PEv X (.Call (.Attribute o m apos) [] [] pos) (ofO c d fo []):=by
 obtain⟨fa,fd,ps,F,me,b⟩:=Dc.ex
 refine z17 (zgc ho kc.cls me F hr b .nil zge ht) fun σ H Q ⟨F₀,E,O,F,ε,t,r,e,k⟩=>?_
 simp only[ofO,y01] at e
 obtain⟨s,es,os,eo,ts,et,ed⟩:=e
 cases et
 have:=zc4 eo
 subst this
 refine⟨F₀,E,O,F,ε,_,r,es,fun a F1 H1 x1 rs hn=>?_⟩
 obtain⟨dx,vs,hx,ha,hf⟩:=zsz kc rs
 refine⟨a,dx,_,rfl,hx,z2n hm,⟨by simp[hl],F1,_,t,x1.dom,.cons ⟨rfl,zto rs _ _ fun b hb=>?_⟩ .nil,ed,fun v F' H' x2 q2=>k v F' H' (x1.trans x2) q2⟩⟩
 obtain⟨o,e,_⟩:=rs.at hb
 show H1 b≠none
 rw[e]
 exact fun z=>by cases z
theorem zhi (kc:ClOk X.K c C ns) (ho:PEo X o fo) (hj:ns[j]?=some f:=by rfl) (hb:attributeBase o f X.env (eval o X.env)=eval o X.env:=by rfl):PEv X (.Attribute o f pos) (zbe c j fo) :=
 z17 (z9q ho hb) fun σ H Q ⟨F₀,E,O,F,ε,t,r,e,k⟩=>by
 simp only[zbe,y01] at e
 obtain⟨s,es,os,eo,e⟩:=e
 have:=zc4 eo
 subst this
 split at e
 next ts hs =>
  cases e
  refine⟨F₀,E,O,F,ε,_,r,es,fun a F1 H1 x1 rs hn=>?_⟩
  obtain⟨dx,vs,hx,ha,hf⟩:=zsz kc rs
  obtain⟨v,hv,b,us,rfl,hb,rb⟩:=hf.get hs
  have hbn:H b=none:=hn b (by rw[z3k ha];exact y05 _ (z9u hs hv (by simp[fp0,rf])))
  refine⟨a,C,dx,_,_,rfl,hx,kc.cls,za1 kc hj,zb3 kc.nd hj hv,?_⟩
  have y:Ext F H (fun d=>F1 d\/d=b) H1:=⟨x1.same,fun d z=>.inl (x1.sub d z),fun d z=>by
   rcases z with z|rfl
   ·exact x1.new d z
   ·exact .inr hbn,⟨fun d z=>by
   rcases z with z|rfl
   ·exact x1.dom d z
   ·exact⟨_,hb⟩,x1.dom.tgs⟩⟩
  refine k _ _ H1 y ?_
  simp only[Rep]
  exact⟨b,us,rfl,.inr rfl,.inl hb,rb.keep (fun _ _ z=>z) fun _ _ z w=>⟨.inl z,w⟩⟩
 next=>cases e
theorem zxt {ct a b:Expr} {ft:Ft} {g h:Fe} (hc:PTt X ct ft) (ha:PEv X a g) (hb:PEv X b h):PEv X (.IfExp ct a b pos) (ifE ft g h):=z17 (zr4 hc ha hb) fun σ H Q ⟨F₀,E,O,F,ε,t,r,e,k⟩=>by
 simp only[ifE,y01] at e
 obtain⟨v,ev,e⟩:=e
 refine⟨F₀,E,O,F,ε,v,r,ev,fun F1 H1 x1=>?_⟩
 cases v with
 | true=>exact iteT ⟨F₀,E,O,F1,ε,t,r.ext x1,by simpa using e,fun v F' H' x2 q=>k v F' H' (x1.trans x2) q⟩
 | false=>exact iteF ⟨F₀,E,O,F1,ε,t,r.ext x1,by simpa using e,fun v F' H' x2 q=>k v F' H' (x1.trans x2) q⟩
def z80 (xs:List Str):List T:=xs.map .str
theorem q_gT {xs:List Str} {a:Addr} (hm:X.mg x=some (.ref a)) (hk:∃(o:Obj) (its:Array Value) (n:Nat),X.K.lookup a=some o/\o.cls=.type "tuple"/\o.data=.seq its n/\its.size<=y0k/\Vals (xs.map V.str) its.toList) (hg:Gl X x:=by rfl) (hd:(x == ("__debug__":Str))=false:=by decide):PEv X (.Name x pos) (cst (.tuple (z80 xs))) :=
 zmf (v:=.ref a) (zoh (v:=.ref a) hg hm rfl hd) fun F H=>by
  simp only[Rep]
  refine⟨a,xs.map V.str,rfl,.inr hk,?_⟩
  unfold z80
  clear hm hk hg hd
  induction xs with
  | nil=>exact RepL.nil
  | cons y ys ih=>exact RepL.cons (by simp[Rep]) ih
end
end
section
variable [Tbl]
open AutoSeq1 (wpAny_loadPart')
section
variable {X:Cx} {a e o:Expr} {f g:Fe} {p pos apos:Pos}
theorem zo5 (hm:X.mg "list"=none) (ha:PEr X a f) (hg:Gl X "list":=by rfl) (he:y0a [a] X.env=(false,eval a X.env)::y0a [] X.env:=by rfl) (hpl:(backTo pos (y0a [] X.env)).any (·.1)=false:=by rfl) :
  PEn X (.Call (.Name "list" p) [a] [] pos) (op1 zf9 f):=z17 (zd2 zio hg hm (by decide +kernel) (z35 ha z6x he) (he:=he) (hpl:=hpl)) fun σ H Q ⟨F₀,E,O,F,ε,ts,r,e,k⟩=>by
 simp only[op1,y01] at e
 obtain⟨t,et,e⟩:=e
 refine⟨F₀,E,O,F,ε,t,r,et,fun v F1 H1 x1 q1=>?_⟩
 have fin:∀(ws:List V),RepL X.K F1 H1 ts ws->∀l,H1 l=none->Q (.ref l) (upd H1 l (.lst ws)):=fun ws hr l hl=>by
  have x2:=Ext.laid (o:=.lst ws) x1.dom hl
  refine k l ws F1 _ (x1.trans x2) (x1.same.none hl) (fun z=>?_) z0c (hr.ext x2)
  obtain⟨o,e⟩:=x1.dom l z
  rw[hl] at e
  cases e
 unfold zf9 at e
 split at e
 ·cases e
  obtain⟨l0,ws,rfl,hl,hr⟩:=q1.tup
  exact⟨l0,ws,rfl,.inr hl,fin ws hr⟩
 ·cases e
  obtain⟨l0,ws,rfl,hl,hr⟩:=q1.lst
  exact⟨l0,ws,rfl,.inl (.inl hl),fin ws hr⟩
 ·cases e
theorem zo4 (hc:X.calm=true) (hm:X.mg "sorted"=none) (ha:PEr X a f) (hg:Gl X "sorted":=by rfl) (he:y0a [a] X.env=(false,eval a X.env)::y0a [] X.env:=by rfl) (hpl:(backTo pos (y0a [] X.env)).any (·.1)=false:=by rfl) :
  PEn X (.Call (.Name "sorted" p) [a] [] pos) (op1 zcg f):=z17 (zgd (zin hc) hg hm (by decide +kernel) (z35 ha z6x he) (he:=he) (hpl:=hpl)) fun σ H Q ⟨F₀,E,O,F,ε,ts,r,e,k⟩=>by
 simp only[op1,y01] at e
 obtain⟨t,et,e⟩:=e
 refine⟨F₀,E,O,F,ε,t,r,et,fun v F1 H1 x1 q1=>?_⟩
 unfold zcg at e
 split at e
 next xs =>
  split at e
  next hz =>
   simp only[y07] at e
   obtain⟨ss,hss,e⟩:=e
   cases e
   have hxs:=zct hss
   subst hxs
   obtain⟨l0,ws,rfl,hl,hr⟩:=q1.lst
   refine⟨l0,ss.map .inr,(z85 ss).map V.str,rfl,?_,by simpa using hz,.inr ⟨ss,rfl,rfl⟩,fun l hl1=>?_⟩
   ·have e1:ws=(ss.map (Sum.inr:Str->L2.Key)).map kV:=by rw[zb8 hr];simp[kV,y19]
    rw[<- e1]
    exact .inl hl
   ·have x2:=Ext.laid (o:=.lst ((z85 ss).map V.str)) x1.dom hl1
    refine k l _ F1 _ (x1.trans x2) (x1.same.none hl1) (fun z=>?_) z0c (zcz _)
    obtain⟨o,e⟩:=x1.dom l z
    rw[hl1] at e
    cases e
  next=>cases e
 next=>cases e
end
theorem zi9:entryFor table "list.remove.loop"=some Builtin.«list.remove.loop»:=entryFor_of_tree (by kernel_rfl)
theorem zaj:plainId "list.remove.loop"=true:=by decide +kernel
theorem ztp (l:Addr) (its:Array Value) (n:Nat) (x:Str) (t:Tok) (j:Nat) (hz:its.size<=y0k) (hj:j<its.size) (hit:∃u,its[j]=.str x u) (k:Nat) :
  ∀i:Nat,j - i=k->i<=j->(∀(m:Nat) (hm:m<its.size),i<=m->m<j->∃y u,its[m]=.str y u/\y≠x)->Meets (Builtin.«list.remove.loop» ⟨[.ref l,.str x t,rawInt i],[]⟩)
   (fun _ R s=>s.heap.get? l=some { cls:=.type "list",data:=.seq its n }/\R (.ok (.ret .none)) { s with heap:=s.heap.update l (Obj.mapSeq fun a=>a.eraseIdxIfInBounds j) }):=by
 induction k with
 | zero =>
  intro i hk hij _ prog w A R s h
  obtain⟨hp,g,d,tk,os⟩:=s
  obtain⟨hl,h⟩:=h
  obtain rfl:i=j:=by omega
  obtain⟨u,hu⟩:=hit
  wp_walk using wpAny_loadPart' hl
  rw[show its[((i:Nat):Int).toNat]?=some (.str x u) by simp[hj,hu]]
  refine y02 (wpAny_eqBool_str ?_)
  rw[decide_eq_true rfl]
  wp_walk using wpAny_loadPart' hl
  rw[show ((Obj.mapSeq (fun z=>z.eraseIdxIfInBounds ((i:Nat):Int).toNat) { cls:=.type "list",data:=.seq its n }:Obj).data.pastItsLine)=none from
   pastItsLine_seq (by
    have:(its.eraseIdxIfInBounds ((i:Nat):Int).toNat).size<=its.size:=by
     unfold Array.eraseIdxIfInBounds
     split
     ·rw[Array.size_eraseIdx]
      omega
     ·omega
    show (its.eraseIdxIfInBounds ((i:Nat):Int).toNat).size<=_
    omega)]
  wp_walk
  exact h
 | succ k ih =>
  intro i hk hij hno prog w A R s h
  obtain⟨hp,g,d,tk,os⟩:=s
  obtain⟨hl,h⟩:=h
  have hlt:i<its.size:=by omega
  obtain⟨y,u,hy,ne⟩:=hno i hlt (y0p _) (by omega)
  wp_walk using wpAny_loadPart' hl
  rw[show its[((i:Nat):Int).toNat]?=some (.str y u) by simp[hlt,hy]]
  refine y02 (wpAny_eqBool_str ?_)
  rw[decide_eq_false ne]
  wp_walk
  rw[show ((i:Int)+1)=((i+1:Nat):Int) by push_cast;rfl]
  exact⟨plainId_quiet zaj _,codeAny_builtin zi9 (by
   rw[y22 zaj _]
   exact ih (i+1) (by omega) (by omega) (fun m hm h1 h2=>hno m hm (by omega) h2) prog w A R _ ⟨hl,h⟩)⟩
theorem zhz (l:Addr) (its:Array Value) (n:Nat) (x:Str) (t:Tok) (j:Nat) (hz:its.size<=y0k) (hj:j<its.size) (hit:∃u,its[j]=.str x u) (hno:∀(m:Nat) (hm:m<its.size),m<j->∃y u,its[m]=.str y u/\y≠x) :
  Meets (Builtin.«list.remove» ⟨[.ref l,.str x t],[]⟩) (fun _ R s=>s.heap.get? l=some { cls:=.type "list",data:=.seq its n }/\R (.ok (.ret .none)) { s with heap:=s.heap.update l (Obj.mapSeq fun a=>a.eraseIdxIfInBounds j) }):=by
 intro prog w A R s h
 obtain⟨hp,g,d,tk,os⟩:=s
 obtain⟨hl,h⟩:=h
 wp_walk using wpAny_loadPart' hl
 exact⟨plainId_quiet zaj _,codeAny_builtin zi9 (by
  rw[y22 zaj _]
  exact ztp l its n x t j hz hj hit _ 0 rfl (y2c _) (fun m hm _ h2=>hno m hm h2) prog w A R _ ⟨hl,h⟩)⟩
noncomputable def ztq:V->List V->Hp->VK->Prop:=fun x vs H Q=>∃(l:Addr) (ss:List Str) (y:Str),x=.ref l/\vs=[.str y]/\H l=some (.lst (ss.map V.str))/\y∈ss/\Q .non (upd H l (.lst ((ss.erase y).map V.str)))
theorem zkz {ss:List Str} {its:List Value} (r:Vals (ss.map V.str) its) {m:Nat} {y:Str} (h:ss[m]?=some y):∃u,its[m]?=some (.str y u):=by
 obtain⟨v,hv,rv⟩:=r.get (i:=m) (x:=.str y) (by rw[y17,h];rfl)
 obtain⟨u,rfl⟩:=rv
 exact⟨u,hv⟩
theorem zlu {α:Type} [BEq α] [LawfulBEq α]:∀{ss:List α} {y:α},y∈ss->∃j,ss[j]?=some y/\(∀m z,m<j->ss[m]?=some z->z≠y)/\ss.erase y=ss.eraseIdx j
 | [],y,h=>by simp at h
 | x::ss,y,h=>by
  by_cases e:x=y
  ·subst e
   exact⟨0,rfl,fun m z hm=>by omega,by simp⟩
  ·have h':y∈ss:=by
    rcases y09.mp h with z|z
    ·exact absurd z.symm e
    ·exact z
   obtain⟨j,h1,h2,h3⟩:=zlu h'
   refine⟨j+1,by simpa using h1,fun m z hm hz=>?_,?_⟩
   ·cases m with
    | zero =>
     simp at hz
     exact hz▸e
    | succ m=>exact h2 m z (by omega) (by simpa using hz)
   ·rw[List.erase_cons_tail (by simpa using e),h3]
    rfl
theorem zao {α β:Type} (f:α->β):∀(l:List α) (j:Nat),(l.eraseIdx j).map f=(l.map f).eraseIdx j
 | [],_=>rfl
 | _::_,0=>rfl
 | a::l,j+1=>by simp[zao f l j]
theorem zot {X:Cx}:MtM X "list.remove" ztq:=by
 intro pins s σ H x vs v us Q I rx rv h
 obtain⟨l,ss,y,rfl,rfl,hH,hy,q⟩:=h
 cases rx
 obtain⟨u,rfl,ru⟩:=rv.one
 obtain⟨t,rfl⟩:=ru
 obtain⟨z,its,n,r,hl,e⟩:=I.lstM hH
 obtain⟨j,h1,h2,h3⟩:=zlu hy
 obtain⟨w,hw⟩:=zkz r h1
 have hj:j<its.length:=(y0l.mp hw).1
 refine call_meets F.slot_list_remove ⟨_,e,rfl⟩ F.entry_list_remove (F.args_list_remove_2 _ _) (zhz l its.toArray n y t j (by rw[y0i];omega) (by rw[y0i];exact hj) ⟨w,?_⟩ fun m hm hmj=>?_) ⟨e,?_⟩
 ·rw[y0w hj] at hw
  simpa using hw
 ·rw[y0i] at hm
  have hms:m<ss.length:=by rw[y16] at hl;omega
  obtain⟨u,hu⟩:=zkz r (y0w hms)
  rw[y0w hm] at hu
  exact⟨_,u,by simpa using hu,h2 m _ hmj (y0w hms)⟩
 ·rw[h3] at q
  have e2:(ss.eraseIdx j).map V.str=(ss.map V.str).eraseIdx j:=zao _ _ _
  rw[e2] at q
  refine⟨.non,_,I.lset (t':=s.toks) (its':=its.eraseIdx j) hH e ?_ (r.eraseIdx j) (y1u (zi0 _ _) z),rfl,q⟩
  unfold Array.eraseIdxIfInBounds
  rw[dif_pos (by rw[y0i];exact hj)]
  simp
section
variable {X:Cx} {c C i j:Nat} {ns:List Str} {f:Str} {o e:Expr} {g:Fe} {pos apos:Pos}
theorem zxk (k:ClOk X.K c C ns) (hn:PE X o (tVar i)) {bpos cpos:Pos} (he:PEv X e g) (hj:ns[j]?=some f:=by rfl) (hb:attributeBase o f X.env (eval o X.env)=eval o X.env:=by rfl)
  (hs1:y0a [e] X.env=(false,eval e X.env)::y0a [] X.env:=by rfl)
  (hbase:attributeBase (.Attribute o f apos) "remove" X.env (eval (.Attribute o f apos) X.env)=eval (.Attribute o f apos) X.env:=by rfl)
  (hfew:((backTo cpos (y0a [e] X.env)).all (fun x=>!x.1) && (backToKw cpos (keywordEach [] X.env)).all (fun x=>x.1.isSome)
   && decide (([e]:List Expr).length+([]:List Keyword).length+(if ([]:List Keyword).isEmpty then 0 else 1)<30))=true:=by rfl)
  (hline:(bpos.endLine == cpos.line)=true:=by rfl) (hplain:(backTo cpos (y0a [] X.env)).any (·.1)=false:=by rfl)
  (hsw:swapsWith (.Call (.Attribute (.Attribute o f apos) "remove" bpos) [e] [] cpos) none pos.line X.env=pure false:=by rfl) :
  PSt X (.Expr (.Call (.Attribute (.Attribute o f apos) "remove" bpos) [e] [] cpos) pos) (rmF c i j g) :=
 z36 (zd1 (zwc PySem.F.plainAttrs_list PySem.F.slot_list_remove PySem.F.type_list_remove zot (z9q hn hb) (z35 he z6x hs1) hbase hfew hline hs1 hplain) hsw) fun D σ H ⟨F₀,H₀,O,F,ε,o,r,e,kk⟩=>by
 simp only[rmF,y01] at e
 obtain⟨t,et,ts,el,e⟩:=e
 split at e
 next x ss hss =>
  split at e
  next hx =>
   simp only[y07] at e
   obtain⟨ε',es,rfl⟩:=e
   have hts:=zct hss
   subst hts
   obtain⟨m,fs,ho,hs⟩:=zdy el
   obtain⟨a,vs,dx,v,h1,hx0,hl,ha,hv,⟨b,us,eb,hb,rb⟩,_⟩:=z7x k r ho hs hj
   subst eb
   refine⟨_,h1,a,C,dx,_,_,rfl,hx0,k.cls,za1 k hj,hl,.inl ⟨rfl,_,SqL.of hb⟩,F₀,H₀,O,F,ε,_,r,et,fun v F1 H1 x1 q1=>?_⟩
   have r1:=r.ext x1
   have ha1:z6f H1 a c vs:=ha.keep ((x1.same.get hx0).trans hx0.symm)
   have ev:v=.str x:=by simpa [Rep] using q1
   subst ev
   have eu:=zb8 rb
   subst eu
   obtain⟨kp,r2⟩:=r1.mutFld (s':=.own ((ss.erase x).map .str)) (o':=.lst ((ss.erase x).map V.str)) ho h1 ha1 es hs hv (by simp[fp0,rf]) rfl fun kp=>⟨b,_,rfl,z0c,zcz _⟩
   exact⟨b,ss,x,rfl,rfl,x1.same.get hb,hx,kk σ F1 _ (x1.kp.trans kp) r2⟩
  next=>cases e
 next=>cases e
end
end
section
variable [Tbl]
open AutoSeq1 (wpAny_loadPart')
section
variable {prog:y0r} {w:World} {A:Around} {E:Value->y04->Prop} {s:y04} {T:String} {r d:Addr} {n:Nat} {P:Nat->Value->Prop} {OK:Heap->Prop}
theorem zdi (W:PySem.W.KdlSrc prog w T r d n P OK) (hn:n<=y0k) (o:Obj) (hc:o.cls=.type T) :
  MeetsIn prog w (Builtin.«tuple.__new__» ⟨[.type "tuple",.ref r],[]⟩)
   (fun A R s=>A.handled=none/\OK s.heap/\s.heap.get? r=some o/\∀(h':Heap) (tk:Nat) (acc:Array Value),(∀b o,s.heap.get? b=some o->h'.get? b=some o)->s.heap.objs.size<=h'.objs.size->ItemsOf P acc n->R (.ok (.ret (.ref h'.objs.size))) { s with heap:=h'.push { cls:=.type "tuple",data:=.seq acc },toks:=tk }) :=
 .of_wp fun A R s h=>by
  obtain⟨hp,g,dr,tk,os⟩:=s
  obtain⟨hh,hok,ho,h⟩:=h
  have hsub:=sub_tuple_self
  have hinit:=init_tuple_lookup
  have hmh:=madeHere_tuple
  have hT:Shared.TypeIs ⟨hp,g,dr,tk,os⟩ (.ref r) T:=W.type _ hok
  have n1:=W.notList
  have n2:=W.notTuple
  wp_walk using wpAny_loadPart' ho,wpAny_typeOf hT,zke W (by simpa using hh) hok hn
  intro h' tk' acc hk hsz hacc
  show y0v _ _ (y15 acc.toList.toArray >>= fun v=>ret v) _ _ _
  unfold y15
  have hz:acc.size<=y0k:=by rw[hacc.1];exact hn
  refine y02 (wpAny_newObj_type ?_ (by show acc.toList.toArray.size<=y0k;simpa using hz))
  refine y06 ⟨_,rfl,?_⟩
  rw[show acc.toList.toArray=acc by simp]
  exact h h' tk' acc hk hsz hacc
theorem zem {Q:Value->y04->Prop} (W:PySem.W.KdlSrc prog w T r d n P OK) (hn:n<=y0k) {o:Obj} (hc:o.cls=.type T) (hh:A.handled=none) (hok:OK s.heap) (ho:s.heap.get? r=some o)
  (h:∀(h':Heap) (tk:Nat) (acc:Array Value),(∀b o,s.heap.get? b=some o->h'.get? b=some o)->s.heap.objs.size<=h'.objs.size->ItemsOf P acc n->Q (.ref h'.objs.size) { s with heap:=h'.push { cls:=.type "tuple",data:=.seq acc },toks:=tk }) :
  y0v (model prog w) A (call (.type "tuple") [.ref r]) Q E s :=
 callType_newIn F.called_tuple (by decide) (F.typeCall_tuple_1 _) (F.newCall_tuple_1 _) (fun obj=>F.args_object_init_2 obj _) F.entry_tuple_new
  (zdi W hn o hc) ⟨by simpa using hh,hok,ho,fun h' tk acc hk hsz hacc=>⟨⟨_,y0m _ rfl,rfl⟩,h h' tk acc hk hsz hacc⟩⟩
end
def zqe (p d:Addr):HO:=.ext fun h=>h.IsValuesView p d
section
variable {X:Cx}
theorem zos:MtM X "dict.values" (fun x vs H Q=>∃d kvs,x=.ref d/\vs=[]/\H d=some (.dK kvs)/\∀p,H p=none->Q (.ref p) (upd H p (zqe p d))):=by
 intro pins s σ H x vs v us Q I rx rv h
 obtain⟨d,kvs,rfl,rfl,hH,q⟩:=h
 cases rx
 cases rv
 obtain⟨hz,hsm,ws,hkv,hd⟩:=I.hok d _ hH
 refine call_meetsIn PySem.F.slot_dict_values hd.typeIs PySem.F.entry_dict_values (PySem.F.args_dict_values_1 _) (meets_dict_values (z1u X.prog X.w) d hsm) ⟨⟨ws,hd⟩,?_⟩
 have hv:(s.heap.push { cls:=.type "dict_values",data:=.fields #[.ref d] }).IsValuesView s.heap.objs.size d:=⟨_,y0m _ rfl,rfl,rfl⟩
 refine⟨.ref s.heap.objs.size,upd H s.heap.objs.size (zqe s.heap.objs.size d),I.laid (t':=s.toks) (fun b u e=>y03 _ e) (y0p _) ⟨hv,⟨_,y0m _ rfl⟩,fun h1 h2 p k=>?_⟩,rfl,q _ I.fresh⟩
 obtain⟨o,ho,r⟩:=p
 exact⟨o,k o ho,r⟩
theorem zt1:∀{kvs:List (L2.Key×V)} {vs:List (L2.Key×Value)},KV kvs vs->Vals (kvs.map (·.2)) (vs.map (·.2))
 | _,_,.nil=>.nil
 | _,_,.cons a b=>.cons a.2 (zt1 b)
theorem ze3 (hc:X.calm=true):zbt X (.type "tuple") (fun xs H Q=>∃p d kvs,xs=[.ref p]/\H p=some (zqe p d)/\H d=some (.dK kvs)/\∀t,H t=none->Q (.ref t) (upd H t (.tup (kvs.map (·.2))))):=by
 intro pins s σ H xs us Q I r h
 obtain⟨p,d,kvs,rfl,hp,hq,q⟩:=h
 obtain⟨u,rfl,rx⟩:=zm4 r
 cases rx
 obtain⟨hz',hsm,vs,hkv,hd⟩:=I.hok d _ hq
 obtain⟨ep,hat⟩:=hd.dictAt
 have hl:vs.length=kvs.length:=(Paired.length hkv).symm
 have hv:s.heap.IsValuesView p d:=(I.hok p _ hp).1
 obtain⟨o,ho,hcl,hdat⟩:=id hv
 refine zem (PySem.W.kdl_values (knd:=z1u X.prog X.w) (kvs:=vs) (ep:=ep)) (by rw[hl];exact hz') hcl (I.ok.hd hc) ⟨hv,hat⟩ ho fun h' tk acc hk hsz hacc=>?_
 have hz2:(kvs.map (·.2)).length<=y0k:=by rw[y16];exact hz'
 have ea:acc.toList=vs.map (·.2):=by
  refine List.ext_getElem? fun i=>?_
  rw[y17]
  by_cases hi:i<acc.size
  ·obtain⟨k,hk⟩:=hacc.2 i acc[i] (by simp[hi])
   rw[hk]
   simp[hi]
  ·rw[List.getElem?_eq_none (by simpa using hi),List.getElem?_eq_none (by rw[hacc.1] at hi;omega)]
   rfl
 have hT:(h'.push { cls:=.type "tuple",data:=.seq acc }).get? h'.objs.size=some { cls:=.type "tuple",data:=.seq acc }:=y0m _ rfl
 refine⟨.ref h'.objs.size,_,zds I (o:=.tup (kvs.map (·.2))) (d':=s.drawn) (fun b u e=>y03 _ (hk b u e)) hsz ⟨hz2,vs.map (·.2),zt1 hkv,⟨_,hT,rfl,0,by rw[<- ea]⟩⟩,rfl,q _ (I.hok.fresh hsz)⟩
variable {c C i j:Nat} {ns:List Str} {f:Str} {o:Expr} {p pos apos bpos cpos:Pos}
theorem RepD.snd {K:y00} {F:Addr->Prop} {H:Hp}:∀{ts:List (D.Key×T)} {vs:List (D.Key×V)},RepD K F H ts vs->RepL K F H (ts.map (·.2)) (vs.map (·.2))
 | [],vs,h=>by
  have e:vs=[]:=h
  subst e
  exact RepL.nil
 | t::ts,vs,h=>by
  obtain⟨v,r,rfl,q,z⟩:=h
  exact RepL.cons q (RepD.snd z)
theorem zo6 (k:ClOk X.K c C ns) (hc:X.calm=true) (ht:X.mg "tuple"=none) (hn:PE X o (tVar i)) (hj:ns[j]?=some f:=by rfl) (hb:attributeBase o f X.env (eval o X.env)=eval o X.env:=by rfl)
  (hbase:attributeBase (.Attribute o f apos) "values" X.env (eval (.Attribute o f apos) X.env)=eval (.Attribute o f apos) X.env:=by rfl) (hline:(bpos.endLine == cpos.line)=true:=by rfl) (hg:Gl X "tuple":=by rfl)
  (he:y0a [.Call (.Attribute (.Attribute o f apos) "values" bpos) [] [] cpos] X.env=(false,eval (.Call (.Attribute (.Attribute o f apos) "values" bpos) [] [] cpos) X.env)::y0a [] X.env:=by rfl)
  (hpl:(backTo pos (y0a [] X.env)).any (·.1)=false:=by rfl) :
  PEv X (.Call (.Name "tuple" p) [.Call (.Attribute (.Attribute o f apos) "values" bpos) [] [] cpos] [] pos) (zpl c i j) :=
 z17 (zd2 (ze3 hc) hg ht (by decide +kernel) (z35 (zss PySem.F.plainAttrs_dict PySem.F.slot_dict_values PySem.F.type_dict_values zos (z9q hn hb) hbase hline) z6x he) (he:=he) (hpl:=hpl)) fun σ H Q ⟨F₀,E,O,F,ε,t,r,e,kk⟩=>by
 simp only[zpl,y07] at e
 obtain⟨kvs,ed,rfl⟩:=e
 obtain⟨m,fs,ho,hs⟩:=zaq ed
 obtain⟨a,vs,dx,v,h1,hx,hl,ha,hv,⟨b,us,eb,hb,rb⟩,_⟩:=z7x k r ho hs hj
 subst eb
 refine⟨_,h1,a,C,dx,_,_,rfl,hx,k.cls,za1 k hj,hl,.inr (.inr (.inl ⟨rfl,.inl ⟨_,hb⟩⟩)),b,us,rfl,rfl,hb,fun p hp=>?_⟩
 have x1:=Ext.laid (o:=zqe p b) r.dom hp
 refine⟨p,b,us,rfl,z0c,x1.same.get hb,fun t ht=>?_⟩
 have x2:=x1.trans (Ext.laid (o:=.tup (us.map (·.2))) x1.dom ht)
 refine kk _ F _ x2 ?_
 simp only[Rep]
 exact⟨t,_,rfl,SqT.of z0c,(rb.snd).ext x2⟩
end
end
section
variable [Tbl]
open AutoSeq1 (wpAny_loadPart')
def ZipR (h:Heap) (z TI TO:Addr) (f0 f1:Value):Prop:=h.get? z=some { cls:=.type "zip",dict:=none,data:=.fields #[f0,f1,.bool false,.ref TI,.ref TO],slots:=#[] }
section
variable {prog:y0r} {w:World} {A:Around} {E:Value->y04->Prop} {s:y04} {z TI TO i1 i2 l1 l2:Addr} {k n1 n2:Nat} {P1 P2:Nat->Value->Prop} {S1 S2:Nat->Heap->Prop} {a b f1:Value}
theorem zks {Q:Value->y04->Prop} (D:ZipApart z TI TO i1 i2 l1 l2) (D1:Draws prog w A i1 [i1,l1] n1 P1 S1) (D2:Draws prog w A i2 [i2,l2] n2 P2 S2) (hz:ZipR s.heap z TI TO .none f1) (hTI:IsPair s.heap TI (.ref i1) (.ref i2)) (hTO:IsPair s.heap TO a b)
  (s1:S1 k s.heap) (s2:S2 k s.heap) (h1:k<n1) (h2:k<n2)
  (hQ:∀h' x y tk,P1 k x->P2 k y->ZipR h' z TI TO (rawInt s.heap.objs.size) (.bool false)->IsPair h' TO x y->S1 (k+1) h'->S2 (k+1) h'->IsPair h' s.heap.objs.size x y->h'.objs.size=s.heap.objs.size+1 ->
   (∀c o,c≠z->c≠TO->c≠i1->c≠i2->s.heap.get? c=some o->h'.get? c=some o)->Q (.ref s.heap.objs.size) { s with heap:=h',toks:=tk }) :
  y0v (model prog w) A (Builtin.«zip.__next__» ⟨[.ref z],[]⟩) (fun fin s'=>∃v,fin=.done (.ret v)/\Q v s') E s:=by
 unfold ZipR at hz
 refine y02 (m:=field (.ref z) 2) (wpAny_field hz rfl (x:=.bool false) rfl (y02 (m:=field (.ref z) 3) (wpAny_field hz rfl (x:=.ref TI) rfl (y02 (wpAny_seqItems hTI rfl ?_)))))
 refine y02 (m:=y12 (.ref z)) ?_
 unfold y12
 refine y02 (wpAny_field hz rfl (x:=.none) rfl (y06 ?_))
 simp only[if_true]
 refine y02 (wpAny_rule (y02 (wpAny_field hz rfl (x:=.ref TO) rfl (y02 (wpAny_setField_rec hz (by simp) fun h₁ hz₁ e₁=>?_)))))
 replace hz₁:ZipR h₁ z TI TO .ellipsis f1:=hz₁
 refine y02 ?_
 simp only[List.zipIdx_cons,List.zipIdx_nil,List.forIn_cons,List.forIn_nil]
 have st1:S1 k h₁:=D1.frame k _ _ s1 fun c hc o e=>by
  rcases y09.mp hc with rfl|hc
  ·exact e₁.extBut _ _ D.i1z e
  ·rw[y11.mp hc] at e ⊢
   exact e₁.extBut _ _ D.l1z e
 refine y02 (y02 (wpAny_onRaise (y02 (m:=y0u (.ref i1)) (D1.item k _ _ _ h1 st1 fun x h₂ tk px t1 e₂=>y06 ?_))))
 have hTO₂:IsPair h₂ TO a b:=e₂.extBut _ _ D.TOi1 (e₁.extBut _ _ D.TOz hTO)
 refine y02 (wpAny_seqItems hTO₂ rfl (y02 (wpAny_updateSeq_pair hTO₂ fun h₃ hTO₃ e₃=>?_)))
 replace hTO₃:IsPair h₃ TO x b:=hTO₃
 refine y02 (wpAny_letGo (y06 ?_))
 have st2:S2 k h₃:=D2.frame k _ _ s2 fun c hc o e=>by
  rcases y09.mp hc with rfl|hc
  ·exact e₃.extBut _ _ D.TOi2.symm (e₂.extBut _ _ D.i12.symm (e₁.extBut _ _ D.i2z e))
  ·rw[y11.mp hc] at e ⊢
   exact e₃.extBut _ _ D.l2TO (e₂.extBut _ _ D.l2i1 (e₁.extBut _ _ D.l2z e))
 refine y02 (y02 (wpAny_onRaise (y02 (m:=y0u (.ref i2)) (D2.item k _ _ _ h2 st2 fun y h₄ tk2 py t2 e₄=>y06 ?_))))
 have hTO₄:IsPair h₄ TO x b:=e₄.extBut _ _ D.TOi2 hTO₃
 refine y02 (wpAny_seqItems hTO₄ rfl (y02 (wpAny_updateSeq_pair hTO₄ fun h₅ hTO₅ e₅=>?_)))
 replace hTO₅:IsPair h₅ TO x y:=hTO₅
 refine y02 (wpAny_letGo (y06 (y06 (y02 (wpAny_seqItems hTO₅ rfl (y02 (wpAny_newTuple ?_)))))))
 have sz5:h₅.objs.size=s.heap.objs.size:=by rw[e₅.1,e₄.1,e₃.1,e₂.1,e₁.1]
 have hz₅:ZipR h₅ z TI TO .ellipsis f1:=e₅.extBut _ _ D.TOz.symm (e₄.extBut _ _ D.i2z.symm (e₃.extBut _ _ D.TOz.symm (e₂.extBut _ _ D.i1z.symm hz₁)))
 have kp5:∀c o,c≠z->c≠TO->c≠i1->c≠i2->s.heap.get? c=some o->h₅.get? c=some o:=fun c o c1 c2 c3 c4 e=>e₅.extBut _ _ c2 (e₄.extBut _ _ c4 (e₃.extBut _ _ c2 (e₂.extBut _ _ c3 (e₁.extBut _ _ c1 e))))
 have u1:S1 (k+1) h₅:=D1.frame _ _ _ t1 fun c hc o e=>by
  rcases y09.mp hc with rfl|hc
  ·exact e₅.extBut _ _ D.TOi1.symm (e₄.extBut _ _ D.i12 (e₃.extBut _ _ D.TOi1.symm e))
  ·rw[y11.mp hc] at e ⊢
   exact e₅.extBut _ _ D.l1TO (e₄.extBut _ _ D.l1i2 (e₃.extBut _ _ D.l1TO e))
 have u2:S2 (k+1) h₅:=D2.frame _ _ _ t2 fun c hc o e=>by
  rcases y09.mp hc with rfl|hc
  ·exact e₅.extBut _ _ D.TOi2.symm e
  ·rw[y11.mp hc] at e ⊢
   exact e₅.extBut _ _ D.l2TO e
 have zlt:z<h₅.objs.size:=y0c hz₅
 refine y02 (m:=Builtin.SmallTypes.ownedTupleHandOut (.ref z) (.ref h₅.objs.size)) ?_
 unfold Builtin.SmallTypes.ownedTupleHandOut
 have hz₆:ZipR (h₅.push { cls:=.type "tuple",data:=.seq #[x,y] }) z TI TO .ellipsis f1:=y03 _ hz₅
 refine y02 (wpAny_setField_rec hz₆ (by simp) fun h₇ hz₇ e₇=>?_)
 replace hz₇:ZipR h₇ z TI TO (rawInt h₅.objs.size) f1:=hz₇
 refine wpAny_setField_rec hz₇ (by simp) fun h₈ hz₈ e₈=>?_
 replace hz₈:ZipR h₈ z TI TO (rawInt h₅.objs.size) (.bool false):=hz₈
 have up:∀c o,c≠z->h₅.get? c=some o->h₈.get? c=some o:=fun c o c1 e=>e₈.extBut _ _ c1 (e₇.extBut _ _ c1 (y03 _ e))
 have hT:IsPair h₈ h₅.objs.size x y:=e₈.extBut _ _ (y18 zlt) (e₇.extBut _ _ (y18 zlt) (y0m _ rfl))
 have sz8:h₈.objs.size=h₅.objs.size+1:=by rw[e₈.1,e₇.1,y1a]
 rw[sz5] at hz₈ hT sz8
 refine y06 ⟨_,rfl,?_⟩
 show Q (.ref h₅.objs.size) _
 rw[sz5]
 refine hQ h₈ x y _ px py hz₈ (up _ _ D.TOz hTO₅) (D1.frame _ _ _ u1 fun c hc o e=>?_) (D2.frame _ _ _ u2 fun c hc o e=>?_) hT sz8 fun c o c1 c2 c3 c4 e=>up c o c1 (kp5 c o c1 c2 c3 c4 e)
 ·refine up c o ?_ e
  rcases y09.mp hc with rfl|hc
  ·exact D.i1z
  ·rw[y11.mp hc]
   exact D.l1z
 ·refine up c o ?_ e
  rcases y09.mp hc with rfl|hc
  ·exact D.i2z
  ·rw[y11.mp hc]
   exact D.l2z
theorem zkr {Q:Fin->y04->Prop} (D:ZipApart z TI TO i1 i2 l1 l2) (D1:Draws prog w A i1 [i1,l1] n1 P1 S1) (D2:Draws prog w A i2 [i2,l2] n2 P2 S2) (hz:ZipR s.heap z TI TO .none f1) (hTI:IsPair s.heap TI (.ref i1) (.ref i2)) (hTO:IsPair s.heap TO a b)
  (s1:S1 k s.heap) (s2:S2 k s.heap) (hk:k=n1\/(k<n1/\k=n2))
  (hE:∀h' e tk,(∀c o,c≠z->c≠TO->c≠i1->c≠i2->s.heap.get? c=some o->h'.get? c=some o)->(∃o,h'.get? e=some o/\o.cls=.type "StopIteration")->E (.ref e) { s with heap:=h',toks:=tk }) :
  y0v (model prog w) A (Builtin.«zip.__next__» ⟨[.ref z],[]⟩) Q E s:=by
 unfold ZipR at hz
 refine y02 (m:=field (.ref z) 2) (wpAny_field hz rfl (x:=.bool false) rfl (y02 (m:=field (.ref z) 3) (wpAny_field hz rfl (x:=.ref TI) rfl (y02 (wpAny_seqItems hTI rfl ?_)))))
 refine y02 (m:=y12 (.ref z)) ?_
 unfold y12
 refine y02 (wpAny_field hz rfl (x:=.none) rfl (y06 ?_))
 simp only[if_true]
 refine y02 (wpAny_rule (y02 (wpAny_field hz rfl (x:=.ref TO) rfl (y02 (wpAny_setField_rec hz (by simp) fun h₁ hz₁ e₁=>?_)))))
 replace hz₁:ZipR h₁ z TI TO .ellipsis f1:=hz₁
 refine y02 ?_
 simp only[List.zipIdx_cons,List.zipIdx_nil,List.forIn_cons,List.forIn_nil]
 have st1:S1 k h₁:=D1.frame k _ _ s1 fun c hc o e=>by
  rcases y09.mp hc with rfl|hc
  ·exact e₁.extBut _ _ D.i1z e
  ·rw[y11.mp hc] at e ⊢
   exact e₁.extBut _ _ D.l1z e
 rcases hk with rfl|⟨h1,rfl⟩
 ·refine y02 (y02 (wpAny_onRaise (y02 (m:=y0u (.ref i1)) (D1.done _ _ _ st1 fun h₂ e e₂ he=>?_))))
  obtain⟨oe,hoe,hce⟩:=he
  have hz₂:ZipR h₂ z TI TO .ellipsis f1:=e₂ _ _ D.i1z.symm hz₁
  have ne:e≠z:=fun q=>by
   subst q
   unfold ZipR at hz₂
   rw[hz₂] at hoe
   cases hoe
   simp at hce
  exact wpAny_setField_rec hz₂ (by simp) fun h₃ _ e₃=>hE h₃ e _ (fun c o c1 _ c3 _ q=>e₃.extBut _ _ c1 (e₂ _ _ c3 (e₁.extBut _ _ c1 q))) ⟨oe,e₃.extBut _ _ ne hoe,hce⟩
 ·refine y02 (y02 (wpAny_onRaise (y02 (m:=y0u (.ref i1)) (D1.item k _ _ _ h1 st1 fun x h₂ tk px t1 e₂=>y06 ?_))))
  have hTO₂:IsPair h₂ TO a b:=e₂.extBut _ _ D.TOi1 (e₁.extBut _ _ D.TOz hTO)
  refine y02 (wpAny_seqItems hTO₂ rfl (y02 (wpAny_updateSeq_pair hTO₂ fun h₃ hTO₃ e₃=>?_)))
  refine y02 (wpAny_letGo (y06 ?_))
  have st2:S2 k h₃:=D2.frame k _ _ s2 fun c hc o e=>by
   rcases y09.mp hc with rfl|hc
   ·exact e₃.extBut _ _ D.TOi2.symm (e₂.extBut _ _ D.i12.symm (e₁.extBut _ _ D.i2z e))
   ·rw[y11.mp hc] at e ⊢
    exact e₃.extBut _ _ D.l2TO (e₂.extBut _ _ D.l2i1 (e₁.extBut _ _ D.l2z e))
  refine y02 (y02 (wpAny_onRaise (y02 (m:=y0u (.ref i2)) (D2.done _ _ _ st2 fun h₄ e e₄ he=>?_))))
  obtain⟨oe,hoe,hce⟩:=he
  have hz₄:ZipR h₄ z TI TO .ellipsis f1:=e₄ _ _ D.i2z.symm (e₃.extBut _ _ D.TOz.symm (e₂.extBut _ _ D.i1z.symm hz₁))
  have ne:e≠z:=fun q=>by
   subst q
   unfold ZipR at hz₄
   rw[hz₄] at hoe
   cases hoe
   simp at hce
  exact wpAny_setField_rec hz₄ (by simp) fun h₅ _ e₅=>hE h₅ e _ (fun c o c1 c2 c3 c4 q=>e₅.extBut _ _ c1 (e₄ _ _ c4 (e₃.extBut _ _ c2 (e₂.extBut _ _ c3 (e₁.extBut _ _ c1 q))))) ⟨oe,e₅.extBut _ _ ne hoe,hce⟩
theorem zs7 {c:Addr} {Q:Option Obj->y04->Prop} (h:Q (s.heap.get? c) s):y0v (model prog w) A (loadIfAlive c) Q E s:=fun Γ p _=>by
 unfold loadIfAlive
 rw[Sem.wp_loadIfAlive]
 simpa using h
theorem zf4 {T:Addr} {oT:Obj} {f:Bool} (hz:ZipR s.heap z TI TO (rawInt T) (.bool f)) (hT:s.heap.get? T=some oT) :
  y0v (model prog w) A (y12 (.ref z)) (fun c s'=>c=false/\∃h₁,s'={ s with heap:=h₁ }/\ZipR h₁ z TI TO (rawInt T) (.bool true)/\Heap.SameBut z s.heap h₁) E s:=by
 unfold ZipR at hz
 unfold y12
 refine y02 (wpAny_field hz rfl (x:=rawInt T) rfl ?_)
 refine y02 (m:=loadIfAlive ((T:Nat):Int).toNat) (zs7 ?_)
 rw[Int.toNat_natCast,hT]
 simp only[Option.isNone_some,y20,if_false]
 refine y02 (wpAny_field hz rfl (x:=.bool f) rfl ?_)
 cases f with
 | true =>
  simp only[bne_self_eq_false,y20,if_false]
  exact y06 ⟨rfl,s.heap,rfl,hz,Heap.SameBut.refl ..⟩
 | false =>
  rw[if_pos (by decide)]
  exact y02 (wpAny_setField_rec hz (by simp) fun h₁ hz₁ e₁=>y06 ⟨rfl,h₁,rfl,hz₁,e₁⟩)
theorem zqa {Q:Value->y04->Prop} {T:Addr} {oT:Obj} {f:Bool} (D:ZipApart z TI TO i1 i2 l1 l2) (D1:Draws prog w A i1 [i1,l1] n1 P1 S1) (D2:Draws prog w A i2 [i2,l2] n2 P2 S2) (hz:ZipR s.heap z TI TO (rawInt T) (.bool f)) (hT:s.heap.get? T=some oT) (hTI:IsPair s.heap TI (.ref i1) (.ref i2))
  (s1:S1 k s.heap) (s2:S2 k s.heap) (h1:k<n1) (h2:k<n2)
  (hQ:∀h' x y tk,P1 k x->P2 k y->ZipR h' z TI TO (rawInt T) (.bool true)->S1 (k+1) h'->S2 (k+1) h'->IsPair h' s.heap.objs.size x y->h'.objs.size=s.heap.objs.size+1 ->
   (∀c o,c≠z->c≠i1->c≠i2->s.heap.get? c=some o->h'.get? c=some o)->Q (.ref s.heap.objs.size) { s with heap:=h',toks:=tk }) :
  y0v (model prog w) A (Builtin.«zip.__next__» ⟨[.ref z],[]⟩) (fun fin s'=>∃v,fin=.done (.ret v)/\Q v s') E s:=by
 have hz0:=hz
 unfold ZipR at hz
 refine y02 (m:=field (.ref z) 2) (wpAny_field hz rfl (x:=.bool false) rfl (y02 (m:=field (.ref z) 3) (wpAny_field hz rfl (x:=.ref TI) rfl (y02 (wpAny_seqItems hTI rfl ?_)))))
 refine y02 (m:=y12 (.ref z)) (y1g (zf4 hz0 hT) (fun c s' ⟨ec,h₁,es,hz₁,e₁⟩=>?_) fun _ _ q=>q)
 subst ec es
 simp only[y20,if_false]
 refine y02 ?_
 rw[<- Array.forIn_toList]
 simp only[List.forIn_cons,List.forIn_nil]
 have st1:S1 k h₁:=D1.frame k _ _ s1 fun c hc o e=>by
  rcases y09.mp hc with rfl|hc
  ·exact e₁.extBut _ _ D.i1z e
  ·rw[y11.mp hc] at e ⊢
   exact e₁.extBut _ _ D.l1z e
 refine y02 (y02 (wpAny_holding (y02 (m:=y0u (.ref i1)) (D1.item k _ _ _ h1 st1 fun x h₂ tk px t1 e₂=>y06 (y06 ?_)))))
 have st2:S2 k h₂:=D2.frame k _ _ s2 fun c hc o e=>by
  rcases y09.mp hc with rfl|hc
  ·exact e₂.extBut _ _ D.i12.symm (e₁.extBut _ _ D.i2z e)
  ·rw[y11.mp hc] at e ⊢
   exact e₂.extBut _ _ D.l2i1 (e₁.extBut _ _ D.l2z e)
 refine y02 (y02 (wpAny_holding (y02 (m:=y0u (.ref i2)) (D2.item k _ _ _ h2 st2 fun y h₃ tk2 py t2 e₃=>y06 (y06 (y06 ?_))))))
 refine y02 (wpAny_newTuple (y06 ⟨_,rfl,?_⟩) (by show 2<=y0k;decide))
 have sz3:h₃.objs.size=s.heap.objs.size:=by rw[e₃.1,e₂.1,e₁.1]
 have t1':S1 (k+1) h₃:=D1.frame _ _ _ t1 fun c hc o e=>by
  rcases y09.mp hc with rfl|hc
  ·exact e₃.extBut _ _ D.i12 e
  ·rw[y11.mp hc] at e ⊢
   exact e₃.extBut _ _ D.l1i2 e
 have hz₃:ZipR h₃ z TI TO (rawInt T) (.bool true):=e₃.extBut _ _ D.i2z.symm (e₂.extBut _ _ D.i1z.symm hz₁)
 have hp:(h₃.push { cls:=.type "tuple",data:=.seq #[x,y] }).get? h₃.objs.size=some _:=y0m _ rfl
 show Q (.ref h₃.objs.size) _
 rw[sz3] at hp ⊢
 refine hQ (h₃.push { cls:=.type "tuple",data:=.seq #[x,y] }) x y _ px py (y03 _ hz₃) (D1.frame _ _ _ t1' fun c _ o e=>y03 _ e) (D2.frame _ _ _ t2 fun c _ o e=>y03 _ e) hp (by rw[y1a,sz3])
  fun c o c1 c3 c4 e=>y03 _ (e₃.extBut _ _ c4 (e₂.extBut _ _ c3 (e₁.extBut _ _ c1 e)))
theorem zfu {Q:Fin->y04->Prop} {T:Addr} {oT:Obj} {f:Bool} (D:ZipApart z TI TO i1 i2 l1 l2) (D1:Draws prog w A i1 [i1,l1] n1 P1 S1) (D2:Draws prog w A i2 [i2,l2] n2 P2 S2) (hz:ZipR s.heap z TI TO (rawInt T) (.bool f)) (hT:s.heap.get? T=some oT) (hTI:IsPair s.heap TI (.ref i1) (.ref i2))
  (s1:S1 k s.heap) (s2:S2 k s.heap) (hk:k=n1\/(k<n1/\k=n2))
  (hE:∀h' e tk,(∀c o,c≠z->c≠i1->c≠i2->s.heap.get? c=some o->h'.get? c=some o)->(∃o,h'.get? e=some o/\o.cls=.type "StopIteration")->E (.ref e) { s with heap:=h',toks:=tk }) :
  y0v (model prog w) A (Builtin.«zip.__next__» ⟨[.ref z],[]⟩) Q E s:=by
 have hz0:=hz
 unfold ZipR at hz
 refine y02 (m:=field (.ref z) 2) (wpAny_field hz rfl (x:=.bool false) rfl (y02 (m:=field (.ref z) 3) (wpAny_field hz rfl (x:=.ref TI) rfl (y02 (wpAny_seqItems hTI rfl ?_)))))
 refine y02 (m:=y12 (.ref z)) (y1g (zf4 hz0 hT) (fun c s' ⟨ec,h₁,es,hz₁,e₁⟩=>?_) fun _ _ q=>q)
 subst ec es
 simp only[y20,if_false]
 refine y02 ?_
 rw[<- Array.forIn_toList]
 simp only[List.forIn_cons,List.forIn_nil]
 have st1:S1 k h₁:=D1.frame k _ _ s1 fun c hc o e=>by
  rcases y09.mp hc with rfl|hc
  ·exact e₁.extBut _ _ D.i1z e
  ·rw[y11.mp hc] at e ⊢
   exact e₁.extBut _ _ D.l1z e
 rcases hk with rfl|⟨h1,rfl⟩
 ·refine y02 (y02 (wpAny_holding (y02 (m:=y0u (.ref i1)) (D1.done _ _ _ st1 fun h₂ e e₂ he=>?_))))
  exact hE h₂ e _ (fun c o c1 c3 _ q=>e₂ _ _ c3 (e₁.extBut _ _ c1 q)) he
 ·refine y02 (y02 (wpAny_holding (y02 (m:=y0u (.ref i1)) (D1.item k _ _ _ h1 st1 fun x h₂ tk px t1 e₂=>y06 (y06 ?_)))))
  have st2:S2 k h₂:=D2.frame k _ _ s2 fun c hc o e=>by
   rcases y09.mp hc with rfl|hc
   ·exact e₂.extBut _ _ D.i12.symm (e₁.extBut _ _ D.i2z e)
   ·rw[y11.mp hc] at e ⊢
    exact e₂.extBut _ _ D.l2i1 (e₁.extBut _ _ D.l2z e)
  refine y02 (y02 (wpAny_holding (y02 (m:=y0u (.ref i2)) (D2.done _ _ _ st2 fun h₃ e e₃ he=>?_))))
  exact hE h₃ e _ (fun c o c1 c3 c4 q=>e₃ _ _ c4 (e₂.extBut _ _ c3 (e₁.extBut _ _ c1 q))) he
end
end
section
variable [Tbl]
open AutoSeq1 (wpAny_loadPart')
def itN (b:Bool):String:=if b then "list_iterator" else "tuple_iterator"
def itK (b:Bool) (h:Heap) (it l:Addr) (i:Nat):Prop:=match b with
 | true=>h.IsListIter it l i
 | false=>h.IsTupleIter it l i
def sqK (b:Bool) (h:Heap) (l:Addr) (xs:Array Value):Prop:=match b with
 | true=>h.IsList l xs
 | false=>h.IsTuple l xs
theorem itK.at {b:Bool} {h h':Heap} {it l:Addr} {i:Nat} (x:itK b h it l i) (k:∀o,h.get? it=some o->h'.get? it=some o):itK b h' it l i:=by
 cases b with
 | true=>exact Heap.IsListIter.at x k
 | false =>
  obtain⟨o,ho,r⟩:=x
  exact⟨o,k o ho,r⟩
theorem itK.obj {b:Bool} {h:Heap} {it l:Addr} {i:Nat} (x:itK b h it l i):∃o,h.get? it=some o/\∀v,o.data≠.cell v:=by
 cases b with
 | true =>
  obtain⟨o,ho,hc,hd⟩:=x
  exact⟨o,ho,fun v z=>by rw[hd] at z;cases z⟩
 | false =>
  obtain⟨o,ho,hc,hd⟩:=x
  exact⟨o,ho,fun v z=>by rw[hd] at z;cases z⟩
theorem sqK.at {b:Bool} {h h':Heap} {l:Addr} {xs:Array Value} (x:sqK b h l xs) (k:∀o,h.get? l=some o->h'.get? l=some o):sqK b h' l xs:=by
 cases b with
 | true =>
  obtain⟨o,ho,r⟩:=x
  exact⟨o,k o ho,r⟩
 | false =>
  obtain⟨o,ho,r⟩:=x
  exact⟨o,k o ho,r⟩
theorem sqK.lt {b:Bool} {h:Heap} {l:Addr} {xs:Array Value} (x:sqK b h l xs):l<h.objs.size:=by
 cases b with
 | true =>
  obtain⟨o,ho,r⟩:=x
  exact y0c ho
 | false =>
  obtain⟨o,ho,r⟩:=x
  exact y0c ho
theorem z8m {prog:y0r} {w:World} {A:Around} (b:Bool) (hh:A.handled=none) (it l:Addr) (hne:l≠it) (xs:Array Value) :
  Draws prog w A it [it,l] xs.size (fun i v=>xs[i]?=some v) (fun i h=>itK b h it l i/\sqK b h l xs):=by
 cases b with
 | true=>exact Draws.list hh it l hne xs
 | false=>exact z4t hh it l hne xs
abbrev zp7 (b:Bool) (l:Addr):Obj:={ cls:=.type (itN b),data:=.fields #[.ref l,.int 0 0] }
abbrev zip3 (b1 b2:Bool) (h:Heap) (l1 l2:Addr):Heap:=((h.push (zp7 b1 l1)).push (zp7 b2 l2)).push { cls:=.type "tuple",data:=.seq #[.ref h.objs.size,.ref (h.objs.size+1)] }
abbrev zip4 (b1 b2:Bool) (h:Heap) (l1 l2:Addr):Heap:=(zip3 b1 b2 h l1 l2).push { cls:=.type "tuple",data:=.seq #[.none,.none] }
abbrev zip5 (b1 b2:Bool) (h:Heap) (l1 l2:Addr):Heap:=(zip4 b1 b2 h l1 l2).push { cls:=.type "zip",data:=.fields #[.none,.bool false,.bool false,.ref (h.objs.size+2),.ref (h.objs.size+3)] }
section
variable {prog:y0r} {w:World} {A:Around} {E:Value->y04->Prop} {s:y04}
theorem zt2 {b:Bool} {l:Addr} {xs:Array Value} {Q:Value->y04->Prop} (hl:sqK b s.heap l xs) (h:Q (.ref s.heap.objs.size) { s with heap:=s.heap.push (zp7 b l) }):y0v (model prog w) A (pyIter (.ref l)) Q E s:=by
 cases b with
 | true=>exact wpAny_pyIter_list hl h
 | false=>exact wpAny_pyIter_tuple hl h
theorem zml (b1 b2:Bool) (l1 l2:Addr) (xs ys:Array Value) :
  Meets (Builtin.«zip.__new__» ⟨[.type "zip",.ref l1,.ref l2],[]⟩) (fun _ R s=>sqK b1 s.heap l1 xs/\sqK b2 s.heap l2 ys /\
   R (.ok (.ret (.ref (s.heap.objs.size+4)))) { s with heap:=zip5 b1 b2 s.heap l1 l2 }) :=
 .of_wp fun prog w A R s h=>by
  obtain⟨hp,g,d,tk,os⟩:=s
  obtain⟨h1,h2,h⟩:=h
  have hsub:=sub_zip
  have h1':sqK b1 (Shared.heap ⟨hp,g,d,tk,os⟩) l1 xs:=h1
  have h2':sqK b2 (Shared.heap ⟨hp.push (zp7 b1 l1),g,d,tk,os⟩) l2 ys:=h2.at fun o e=>y03 _ e
  wp_walk using zt2 h1',zt2 h2'
  refine⟨_,rfl,?_⟩
  simp only[y1a] at h ⊢
  exact h
theorem zim {b1 b2:Bool} {l1 l2:Addr} {xs ys:Array Value} {Q:Value->y04->Prop} (h1:sqK b1 s.heap l1 xs) (h2:sqK b2 s.heap l2 ys)
  (h:∀h',ZipR h' (s.heap.objs.size+4) (s.heap.objs.size+2) (s.heap.objs.size+3) .none (.bool false)->IsPair h' (s.heap.objs.size+2) (.ref s.heap.objs.size) (.ref (s.heap.objs.size+1))->IsPair h' (s.heap.objs.size+3) .none .none ->
   itK b1 h' s.heap.objs.size l1 0->itK b2 h' (s.heap.objs.size+1) l2 0->h'.objs.size=s.heap.objs.size+5->(∀c o,s.heap.get? c=some o->h'.get? c=some o)->Q (.ref (s.heap.objs.size+4)) { s with heap:=h' }) :
  y0v (model prog w) A (call (.type "zip") [.ref l1,.ref l2]) Q E s:=by
 have hi:∀(b:Bool) (h':Heap) (it l:Addr),h'.get? it=some (zp7 b l)->itK b h' it l 0:=fun b h' it l e=>by
  cases b with
  | true=>exact⟨_,e,rfl,rfl⟩
  | false=>exact⟨_,e,rfl,rfl⟩
 refine callType_new F.called_zip (by decide) (F.typeCall_zip_2 _ _) (F.newCall_zip_2 _ _) (fun obj=>F.args_object_init_3 obj _ _) F.entry_zip_new (zml b1 b2 l1 l2 xs ys) ⟨h1,h2,?_⟩
 have at_:∀(hh:Heap) (n:Nat) (o o':Obj),hh.objs.size=n->o.isFreed=false->(hh.push o).get? n=some o:=fun hh n o o' e f=>by
  rw[<- e]
  exact y0m _ f
 have g5:(zip5 b1 b2 s.heap l1 l2).get? (s.heap.objs.size+4)=some _:=at_ (zip4 b1 b2 s.heap l1 l2) (s.heap.objs.size+4) _ default (by simp only[y1a]) rfl
 refine⟨⟨_,g5,rfl⟩,h _ g5 ?_ ?_ ?_ ?_ (by simp only[y1a]) fun c o e=>y03 _ (y03 _ (y03 _ (y03 _ (y03 _ e))))⟩
 ·exact y03 _ (y03 _ (at_ _ _ _ default (by simp only[y1a]) rfl))
 ·exact y03 _ (at_ _ _ _ default (by simp only[y1a]) rfl)
 ·exact hi b1 _ _ _ (y03 _ (y03 _ (y03 _ (y03 _ (y0m _ rfl)))))
 ·exact hi b2 _ _ _ (y03 _ (y03 _ (y03 _ (at_ _ _ _ default (by simp only[y1a]) rfl))))
end
end
section
variable [Tbl]
theorem zk1:typeLookup (.type "zip") "keys"=pure none:=by rw[typeLookup_type,builtinLookup_eq_fast];kernel_rfl
theorem zej:typeLookup (.type "zip") "__getattr__"=pure none:=by rw[typeLookup_type,builtinLookup_eq_fast];kernel_rfl
theorem zi8:entryFor table "zip.__getattribute__"=some Builtin.«object.__getattribute__»:=entryFor_alias (id':="object.__getattribute__") (by kernel_rfl) (by decide +kernel) (by decide +kernel) (by kernel_rfl)
theorem zei (a:Addr) (vs:Array Value) (name:Str) (u:Tok) (hmiss:typeLookup (.type "zip") name=pure none) (hname:(["__module__","__name__","__qualname__","__doc__","__annotations__"]:List Str).contains name=false) (hsz:name.length+100<=y0k) :
  Meets (Builtin.«object.__getattribute__» ⟨[.ref a,.str name u],[]⟩) (fun A R s=>s.heap.get? a=some { cls:=.type "zip",dict:=none,data:=.fields vs,slots:=#[] }/\raisesAttr (.ref a) name A R s) :=
 Meets.of_wp fun prog w A R s hs=>by
  obtain⟨hp,g,d,tk,os⟩:=s
  obtain⟨hx,hs⟩:=hs
  have ty:(⟨hp,g,d,tk,os⟩:y04).TypeIs (.ref a) "zip":=⟨_,hx,rfl⟩
  unfold Builtin.«object.__getattribute__»
  repeat (any_goals (first|assumption|wp_step))
  simp only[hname,y20,if_false]
  repeat (any_goals (first|assumption|wp_step))
  exact wpAny_raiseAttrError hs.1 hs.2 (attrMsg_fits (by decide +kernel) hsz)
theorem zrb {prog:y0r} {w:World} {A:Around} {E:Value->y04->Prop} {s:y04} {a:Addr} {vs:Array Value} {Q:Option Value->y04->Prop}
  (hx:s.heap.get? a=some { cls:=.type "zip",dict:=none,data:=.fields vs,slots:=#[] }) (hA:A.handled=none)
  (h:∀h' tk,(∀b o,s.heap.get? b=some o->h'.get? b=some o)->Q none { s with heap:=h',toks:=tk }) :
  y0v (model prog w) A (getAttr? (.ref a) "keys") Q E s:=by
 obtain⟨hp,g,d,tk,os⟩:=s
 have ty:∀tk',(⟨hp,g,d,tk',os⟩:y04).TypeIs (.ref a) "zip":=fun _=>⟨_,hx,rfl⟩
 have f1:=sub_AttributeError
 have f3:=F.slot_zip_getattribute.lookup
 have f4:=F.slot_zip_getattribute.bind (.ref a)
 have f5:=zej
 have nm:(["__module__","__name__","__qualname__","__doc__","__annotations__"]:List Str).contains ("keys":Str)=false:=by decide +kernel
 have sz:("keys":Str).length+100<=y0k:=by rw[sizeLine_eq];decide
 unfold getAttr? getAttrBy? getAttrBy
 repeat (any_goals (first|assumption|exact ty _|((with_reducible show y0v _ _ (call (Value.builtin "zip.__getattribute__") _ _) _ _ _);refine call_meets F.slot_zip_getattribute (ty _) zi8 (F.args_zip_getattribute_2 _ _) (zei a vs "keys" _ zk1 nm sz) ⟨hx,hA,fun h' tk' e hx'=>?_⟩)|wp_step))
 obtain⟨t',u',he⟩:=hx'.there
 show y0v _ _ (getattributeRaised _ _ _ _ _ _ _) _ _ _
 unfold getattributeRaised
 repeat (any_goals (first|assumption|wp_step))
 exact h _ _ hx'.keeps
section
variable {prog:y0r} {w:World} {K:Type} [DecidableEq K] {knd:PySem.KeyKind prog w K} {A:Around} {E:Value->y04->Prop} {s:y04} {R:Result->y04->Prop} {z TI TO i1 i2 l1 l2:Addr} {b1 b2:Bool} {xs ys:Array Value}
noncomputable def zjc (S z TI TO i1 i2 l1 l2:Addr) (b1 b2:Bool) (xs ys:Array Value) (i:Nat) (h:Heap):Prop:=IsPair h TI (.ref i1) (.ref i2)/\(∃a b,IsPair h TO a b)/\(itK b1 h i1 l1 i/\sqK b1 h l1 xs)/\(itK b2 h i2 l2 i/\sqK b2 h l2 ys) /\
 (ZipR h z TI TO .none (.bool false)\/∃(T:Nat) (oT:Obj) (f:Bool),ZipR h z TI TO (rawInt T) (.bool f)/\h.get? T=some oT/\T≠S/\T≠z/\T≠TO/\T≠i1/\T≠i2)
def Kept (S z TO i1 i2:Addr) (h h':Heap):Prop:=∀c o,c≠S->c≠z->c≠TO->c≠i1->c≠i2->h.get? c=some o->h'.get? c=some o
theorem zm2 {S:Addr} {i:Nat} {Q:Option Value->y04->Prop} (hh:A.handled=none) (D:ZipApart z TI TO i1 i2 l1 l2) (st:zjc S z TI TO i1 i2 l1 l2 b1 b2 xs ys i s.heap) (hS:∃o,s.heap.get? S=some o) (hSz:S≠z/\S≠TO/\S≠i1/\S≠i2)
  (hx:i<xs.size) (hy:i<ys.size)
  (hQ:∀h' tk,IsPair h' s.heap.objs.size xs[i] ys[i]->zjc S z TI TO i1 i2 l1 l2 b1 b2 xs ys (i+1) h'->(∀o,s.heap.get? S=some o->h'.get? S=some o)->Kept S z TO i1 i2 s.heap h'->s.heap.objs.size<=h'.objs.size->Q (some (.ref s.heap.objs.size)) { s with heap:=h',toks:=tk }) :
  y0v (model prog w) A (pyNext (.ref z)) Q E s:=by
 obtain⟨hTI,⟨a,b,hTO⟩,q1,q2,hz⟩:=st
 have zlt:∀{f0 f1:Value},ZipR s.heap z TI TO f0 f1->z<s.heap.objs.size:=fun h=>y0c h
 have hT:s.TypeIs (.ref z) "zip":=by
  rcases hz with h|⟨T,oT,f,h,_⟩
  ·exact⟨_,h,rfl⟩
  ·exact⟨_,h,rfl⟩
 have ilt:i1<s.heap.objs.size/\i2<s.heap.objs.size:=by
  obtain⟨o1,e1,_⟩:=q1.1.obj
  obtain⟨o2,e2,_⟩:=q2.1.obj
  exact⟨y0c e1,y0c e2⟩
 have Slt:S<s.heap.objs.size:=by
  obtain⟨o,e⟩:=hS
  exact y0c e
 have TOlt:TO<s.heap.objs.size:=y0c hTO
 unfold pyNext
 refine y02 (wpAny_attempt (wpAny_callSpecial?_slot (name:=Str.ofString "__next__") hT F.slot_zip_next (wpAny_call_entry F.slot_zip_next hT F.entry_zip_next ?_ (F.args_zip_next_1 _))))
 rcases hz with hz|⟨T,oT,f,hz,hTo,t1,t2,t3,t4,t5⟩
 ·refine zks (S1:=fun i h=>itK b1 h i1 l1 i/\sqK b1 h l1 xs) (S2:=fun i h=>itK b2 h i2 l2 i/\sqK b2 h l2 ys) D (z8m (A:=A.in1) b1 hh i1 l1 D.l1i1 xs) (z8m (A:=A.in1) b2 hh i2 l2 D.l2i2 ys) hz hTI hTO q1 q2 hx hy fun h' x y tk px py hz' hTO' s1 s2 hp hsz kp=>y06 ?_
  have ex:xs[i]=x:=y2n ((y1t hx).symm.trans px)
  have ey:ys[i]=y:=y2n ((y1t hy).symm.trans py)
  subst ex ey
  refine hQ h' tk hp ⟨kp _ _ D.TIz D.TITO D.TIi1 D.TIi2 hTI,⟨_,_,hTO'⟩,s1,s2,.inr ⟨_,_,false,hz',hp,?_⟩⟩ (fun o e=>kp _ _ hSz.1 hSz.2.1 hSz.2.2.1 hSz.2.2.2 e) (fun c o _ c2 c3 c4 c5 e=>kp c o c2 c3 c4 c5 e) (by omega)
  exact⟨y18 Slt,y18 (zlt hz),y18 TOlt,y18 ilt.1,y18 ilt.2⟩
 ·refine zqa (S1:=fun i h=>itK b1 h i1 l1 i/\sqK b1 h l1 xs) (S2:=fun i h=>itK b2 h i2 l2 i/\sqK b2 h l2 ys) D (z8m (A:=A.in1) b1 hh i1 l1 D.l1i1 xs) (z8m (A:=A.in1) b2 hh i2 l2 D.l2i2 ys) hz hTo hTI q1 q2 hx hy fun h' x y tk px py hz' s1 s2 hp hsz kp=>y06 ?_
  have ex:xs[i]=x:=y2n ((y1t hx).symm.trans px)
  have ey:ys[i]=y:=y2n ((y1t hy).symm.trans py)
  subst ex ey
  exact hQ h' tk hp ⟨kp _ _ D.TIz D.TIi1 D.TIi2 hTI,⟨a,b,kp _ _ D.TOz D.TOi1 D.TOi2 hTO⟩,s1,s2,.inr ⟨T,oT,true,hz',kp _ _ t2 t4 t5 hTo,t1,t2,t3,t4,t5⟩⟩ (fun o e=>kp _ _ hSz.1 hSz.2.2.1 hSz.2.2.2 e) (fun c o _ c2 c3 c4 c5 e=>kp c o c2 c4 c5 e) (by omega)
theorem zm3 {S:Addr} {i:Nat} {Q:Option Value->y04->Prop} (hh:A.handled=none) (D:ZipApart z TI TO i1 i2 l1 l2) (st:zjc S z TI TO i1 i2 l1 l2 b1 b2 xs ys i s.heap) (hSz:S≠z/\S≠TO/\S≠i1/\S≠i2) (hi:i=xs.size\/(i<xs.size/\i=ys.size))
  (hQ:∀h' tk,(∀o,s.heap.get? S=some o->h'.get? S=some o)->Kept S z TO i1 i2 s.heap h'->Q none { s with heap:=h',toks:=tk }) :
  y0v (model prog w) A (pyNext (.ref z)) Q E s:=by
 obtain⟨hTI,⟨a,b,hTO⟩,q1,q2,hz⟩:=st
 have hT:s.TypeIs (.ref z) "zip":=by
  rcases hz with h|⟨T,oT,f,h,_⟩
  ·exact⟨_,h,rfl⟩
  ·exact⟨_,h,rfl⟩
 unfold pyNext
 refine y02 (wpAny_attempt (wpAny_callSpecial?_slot (name:=Str.ofString "__next__") hT F.slot_zip_next (wpAny_call_entry F.slot_zip_next hT F.entry_zip_next ?_ (F.args_zip_next_1 _))))
 rcases hz with hz|⟨T,oT,f,hz,hTo,t1,t2,t3,t4,t5⟩
 ·refine zkr (S1:=fun i h=>itK b1 h i1 l1 i/\sqK b1 h l1 xs) (S2:=fun i h=>itK b2 h i2 l2 i/\sqK b2 h l2 ys) D (z8m (A:=A.in1) b1 hh i1 l1 D.l1i1 xs) (z8m (A:=A.in1) b2 hh i2 l2 D.l2i2 ys) hz hTI hTO q1 q2 hi fun h' e tk kp he=>?_
  obtain⟨o,ho,hc⟩:=he
  refine y02 (wpAny_isInstance (T:="StopIteration") (b:=true) ⟨o,ho,hc⟩ isSubtype_stop (y06 ?_))
  exact hQ h' tk (fun o e=>kp _ _ hSz.1 hSz.2.1 hSz.2.2.1 hSz.2.2.2 e) fun c o _ c2 c3 c4 c5 e=>kp c o c2 c3 c4 c5 e
 ·refine zfu (S1:=fun i h=>itK b1 h i1 l1 i/\sqK b1 h l1 xs) (S2:=fun i h=>itK b2 h i2 l2 i/\sqK b2 h l2 ys) D (z8m (A:=A.in1) b1 hh i1 l1 D.l1i1 xs) (z8m (A:=A.in1) b2 hh i2 l2 D.l2i2 ys) hz hTo hTI q1 q2 hi fun h' e tk kp he=>?_
  obtain⟨o,ho,hc⟩:=he
  refine y02 (wpAny_isInstance (T:="StopIteration") (b:=true) ⟨o,ho,hc⟩ isSubtype_stop (y06 ?_))
  exact hQ h' tk (fun o e=>kp _ _ hSz.1 hSz.2.2.1 hSz.2.2.2 e) fun c o _ c2 c3 c4 c5 e=>kp c o c2 c4 c5 e
theorem zjc.frame {S:Addr} {i:Nat} {h h':Heap} (st:zjc S z TI TO i1 i2 l1 l2 b1 b2 xs ys i h) (hS:∀c∈[z,TI,TO,i1,i2,l1,l2],S≠c) (k:∀c o,c≠S->h.get? c=some o->h'.get? c=some o):zjc S z TI TO i1 i2 l1 l2 b1 b2 xs ys i h':=by
 obtain⟨hTI,⟨a,b,hTO⟩,q1,q2,hz⟩:=st
 have ne:∀c∈[z,TI,TO,i1,i2,l1,l2],c≠S:=fun c hc=>(hS c hc).symm
 refine⟨k _ _ (ne _ (by simp)) hTI,⟨a,b,k _ _ (ne _ (by simp)) hTO⟩,⟨q1.1.at fun o e=>k _ _ (ne _ (by simp)) e,q1.2.at fun o e=>k _ _ (ne _ (by simp)) e⟩,⟨q2.1.at fun o e=>k _ _ (ne _ (by simp)) e,q2.2.at fun o e=>k _ _ (ne _ (by simp)) e⟩,?_⟩
 rcases hz with hz|⟨T,oT,f,hz,hT,t⟩
 ·exact .inl (k _ _ (ne z (by simp)) hz)
 ·exact .inr ⟨T,oT,f,k _ _ (ne z (by simp)) hz,k _ _ t.1 hT,t⟩
theorem zie (hh:A.handled=none) (D:ZipApart z TI TO i1 i2 l1 l2) (S:Addr) (hS:∀c∈[z,TI,TO,i1,i2,l1,l2],S≠c) (kvs:List (K×Value)) (hnd:(kvs.map (·.1)).Nodup) (hlen:kvs.length=min xs.size ys.size) (hz:kvs.length<=y0k)
  (hkv:∀(j:Nat) (kv:K×Value),kvs[j]?=some kv->∃key,xs[j]?=some key/\knd.is kv.1 key=true/\ys[j]?=some kv.2) :
  ∀(k i:Nat) (s:y04) (c:Int) (ct:Tok),kvs.length - i=k->i<=kvs.length->zjc S z TI TO i1 i2 l1 l2 b1 b2 xs ys i s.heap->s.heap.DictOf knd S (kvs.take i) ->
   (∀h' tk,Kept S z TO i1 i2 s.heap h'->h'.DictOf knd S kvs->R (.ok (.ret .none)) { s with heap:=h',toks:=tk }) ->
   codeAny (model prog w) A (.builtin "dict.update.loop" ⟨[.ref S,.ref z,.int c ct,.none],[]⟩) R s:=by
 have hSz:S≠z/\S≠TO/\S≠i1/\S≠i2:=⟨hS _ (by simp),hS _ (by simp),hS _ (by simp),hS _ (by simp)⟩
 intro k
 induction k with
 | zero =>
  intro i s c ct hk hi hst hd hR
  have hin:i=kvs.length:=by omega
  subst hin
  refine codeAny_builtin zia ?_
  rw[y22 zak _]
  refine y02 (m:=pyNext (.ref z)) (zm3 (A:=A.in1) hh D hst hSz (by omega) fun h' tk hSS kp=>?_)
  refine y02 (m:=Builtin.Dict.addKeywords S []) (y06 ?_)
  rw[List.take_of_length_le (y0p _)] at hd
  exact y06 (hR h' tk kp (hd.at fun o e=>hSS o e))
 | succ k ih =>
  intro i s c ct hk hi hst hd hR
  have hlt:i<kvs.length:=by omega
  have hx:i<xs.size:=by omega
  have hy:i<ys.size:=by omega
  have hSo:∃o,s.heap.get? S=some o:=by
   obtain⟨o,_,_,e,_⟩:=hd
   exact⟨o,e⟩
  refine codeAny_builtin zia ?_
  rw[y22 zak _]
  refine y02 (m:=pyNext (.ref z)) (zm2 (A:=A.in1) hh D hst hSo hSz hx hy fun h' tk hp st' hSS kp hsz=>?_)
  have hget:kvs[i]?=some kvs[i]:=y0w hlt
  obtain⟨key,e1,e2,e3⟩:=hkv i _ hget
  have ex:xs[i]=key:=y2n ((y1t hx).symm.trans e1)
  have ey:ys[i]=kvs[i].2:=y2n ((y1t hy).symm.trans e3)
  rw[ex,ey] at hp
  refine y02 (wpAny_holding (y02 (wpAny_tryCatch (zmi (s:={ s with heap:=h',toks:=tk }) hp rfl rfl ?_))))
  have hd1:h'.DictOf knd S (kvs.take i):=hd.at fun o e=>hSS o e
  refine wpAny_holding (wpAny_dictSet_pairs (s:={ s with heap:=h',toks:=tk }) e2 hd1 (fun h2 hd2 hsb=>?_) (by rw[List.length_take];omega))
  have hnew:kvs[i].1∉(kvs.take i).map (·.1):=fun q=>by
   rw[<- List.take_append_drop i kvs,List.map_append,y1r] at hnd
   refine hnd.2.2 _ q _ (y0n.mpr ⟨kvs[i],?_,rfl⟩) rfl
   rw[List.drop_eq_getElem_cons hlt]
   exact y0f
  rw[zm9 hnew,show kvs.take i++[(kvs[i].1,kvs[i].2)]=kvs.take (i+1) by rw[List.take_succ,hget];rfl] at hd2
  refine y06 ⟨plainId_quiet zak _,ih (i+1) _ _ _ (by omega) hlt (st'.frame hS fun c o hc e=>?_) hd2 fun h3 tk3 kp3 hd3=>hR h3 tk3 (fun c o c1 c2 c3 c4 c5 e=>kp3 c o c1 c2 c3 c4 c5 ?_) hd3⟩
  ·exact (hsb.2 c hc).trans e
  ·exact (hsb.2 c c1).trans (kp c o c1 c2 c3 c4 c5 e)
theorem zn2 {kvs:List (K×Value)} {Q:Value->y04->Prop} (hh:A.handled=none) (D:ZipApart z TI TO i1 i2 l1 l2) (st:zjc s.heap.objs.size z TI TO i1 i2 l1 l2 b1 b2 xs ys 0 s.heap) (hz:ZipR s.heap z TI TO .none (.bool false)) (hnd:(kvs.map (·.1)).Nodup) (hlen:kvs.length=min xs.size ys.size) (hsz:kvs.length<=y0k)
  (hkv:∀(j:Nat) (kv:K×Value),kvs[j]?=some kv->∃key,xs[j]?=some key/\knd.is kv.1 key=true/\ys[j]?=some kv.2)
  (h:∀(h':Heap) (tk:Nat),h'.DictOf knd s.heap.objs.size kvs->(∀c o,c≠z->c≠TO->c≠i1->c≠i2->s.heap.get? c=some o->h'.get? c=some o)->Q (.ref s.heap.objs.size) { s with heap:=h',toks:=tk }) :
  y0v (model prog w) A (call (.type "dict") [.ref z]) Q E s:=by
 obtain⟨hTI,⟨a,b,hTO⟩,q1,q2,_⟩:=id st
 have zlt:z<s.heap.objs.size:=y0c hz
 have hS:∀c∈[z,TI,TO,i1,i2,l1,l2],s.heap.objs.size≠c:=by
  obtain⟨o1,e1,_⟩:=q1.1.obj
  obtain⟨o2,e2,_⟩:=q2.1.obj
  have a1:=y0c hTI
  have a2:=y0c hTO
  have a3:=y0c e1
  have a4:=y0c e2
  have a5:=q1.2.lt
  have a6:=q2.2.lt
  intro c hc
  simp only[y09,y2j,or_false] at hc
  rcases hc with rfl|rfl|rfl|rfl|rfl|rfl|rfl
  ·exact y18 zlt
  ·exact y18 a1
  ·exact y18 a2
  ·exact y18 a3
  ·exact y18 a4
  ·exact y18 a5
  ·exact y18 a6
 refine callType_codes (Q₁:=fun obj s₁=>obj=.ref s.heap.objs.size/\s₁={ s with heap:=s.heap.push { cls:=.type "dict",data:=.dict #[] } }) F.kt_called_dict (F.kt_typeCall_dict_1 _) F.entry_dict_init (kt_code_dict_new _ ⟨rfl,rfl⟩) ?_
 rintro obj s₁ ⟨rfl,rfl⟩
 have d0:(s.heap.push { cls:=.type "dict",data:=.dict #[] }).DictOf knd s.heap.objs.size []:=Heap.DictOf.new s.heap
 have hz1:ZipR (s.heap.push { cls:=.type "dict",data:=.dict #[] }) z TI TO .none (.bool false):=y03 _ hz
 refine⟨d0.typeIs,F.args_dict_init_2 _ _,?_⟩
 unfold Builtin.«dict.__init__»
 refine y02 ?_
 unfold Builtin.Dict.selfAndRest
 refine y02 (wpAny_notOrdered_dict d0.typeIs ?_)
 show y0v _ _ (pure (s.heap.objs.size,[Value.ref z])) _ _ _
 refine y06 ?_
 show y0v _ _ (Builtin.Dict.updateFrom "dict.__init__" s.heap.objs.size (.ref z) [] .none) _ _ _
 unfold Builtin.Dict.updateFrom
 refine y02 (wpAny_typeOf (show Shared.TypeIs _ (.ref z) "zip" from ⟨_,hz1,rfl⟩) ?_)
 rw[if_pos (by decide)]
 refine y02 (zrb hz1 (by simp[hh]) fun h2 tk2 k2=>?_)
 have hz2:IsZip h2 z TI TO .none:=k2 _ _ hz1
 simp only[Option.isNone_none,if_true]
 refine y02 (wpAny_rule (y02 (wpAny_pyIter_zip (s:={ s with heap:=h2,toks:=tk2 }) hz2 (y06 ⟨plainId_quiet zak _,?_⟩))))
 have kp:∀c o,s.heap.get? c=some o->h2.get? c=some o:=fun c o e=>k2 _ _ (y03 _ e)
 refine zie (knd:=knd) (by simp[hh]) D s.heap.objs.size hS kvs hnd hlen hsz hkv (kvs.length - 0) 0 _ 0 _ (by omega) (y2c _) (st.frame hS fun c o _ e=>kp c o e) (by simpa using d0.at fun o e=>k2 _ _ e) fun h' tk kp3 hd3=>⟨rfl,h h' tk hd3 fun c o c2 c3 c4 c5 e=>?_⟩
 exact kp3 c o (y10 (y0c e)) c2 c3 c4 c5 (kp c o e)
end
end
section
variable [Tbl]
theorem zcp {n l1 l2:Nat} (h1:l1<n) (h2:l2<n):ZipApart (n+4) (n+2) (n+3) n (n+1) l1 l2:=by constructor <;> (show (_:Nat)≠_) <;> omega
section
variable {X:Cx} {a b:Expr} {f g:Fe} {p p2 pos pos2:Pos}
def zipV:List L2.Key->List V->List (L2.Key×V)
 | k::ks,v::vs=>(k,v)::zipV ks vs
 | _,_=>[]
theorem zkt:∀(ks:List L2.Key) (vs:List V),(zipV ks vs).length=min ks.length vs.length
 | [],vs=>by simp[zipV]
 | k::ks,[]=>by simp[zipV]
 | k::ks,v::vs=>by simp only[zipV,y0x,zkt ks vs];omega
theorem zje:∀{ks:List L2.Key} {vs:List V} {us:List Value},Vals vs us->KV (zipV ks vs) ((ks.zip us))
 | [],vs,us,_=>by
  rw[show zipV [] vs=[] from rfl,List.zip_nil_left]
  exact .nil
 | k::ks,_,_,.nil=>.nil
 | k::ks,_,_,.cons r t=>.cons ⟨rfl,r⟩ (zje t)
theorem zng (X:Cx) {ks:List L2.Key} {us:List Value} {xs:List Value} (hx:Vals (ks.map kV) xs) (j:Nat) (kv:L2.Key×Value) (h:(ks.zip us)[j]?=some kv):∃key,xs.toArray[j]?=some key/\zi2 kv.1 key=true/\us.toArray[j]?=some kv.2:=by
 rw[List.getElem?_zip_eq_some] at h
 obtain⟨h1,h2⟩:=h
 obtain⟨u,hu,ru⟩:=hx.get (i:=j) (x:=kV kv.1) (by rw[y17,h1];rfl)
 refine⟨u,by simpa using hu,zri (P:=X.prog) (w:=X.w) ru,by simpa using h2⟩
noncomputable def zx9 (K:y00) (ta:TA):TE:=fun σ H Q=>ta σ H fun vs H1=>∃l1 l2 ks ys,vs=[.ref l1,.ref l2]/\SqL K H1 l1 (ks.map kV)/\SqT K H1 l2 ys/\((zipV ks ys).map (·.1)).Nodup/\(zipV ks ys).length<=1000/\∀q,H1 q=none->Q (.ref q) (upd H1 q (.dK (zipV ks ys)))
theorem zmh {ta:TA} (hc:X.calm=true) (hd:X.mg "dict"=none) (hz:X.mg "zip"=none) (ha:PA X [a,b] ta) (hg:Gl X "dict") (hgz:Gl X "zip") (he2:y0a [a,b] X.env=(false,eval a X.env)::y0a [b] X.env) (hpl2:(backTo pos2 (y0a [b] X.env)).any (·.1)=false)
  (he:y0a [.Call (.Name "zip" p2) [a,b] [] pos2] X.env=(false,eval (.Call (.Name "zip" p2) [a,b] [] pos2) X.env)::y0a [] X.env) (hpl:(backTo pos (y0a [] X.env)).any (·.1)=false) :
  PE X (.Call (.Name "dict" p) [.Call (.Name "zip" p2) [a,b] [] pos2] [] pos) (zx9 X.K ta):=by
 intro pins s σ H Q I h
 refine wpAny_Call_Name_kw (zdn I hg hd PyProof.Rows.boot_dict ?_)
 refine y1z ?_ he hpl
 rw[he]
 show y0v _ _ (spliced ((false,eval (.Call (.Name "zip" p2) [a,b] [] pos2) X.env)::backTo pos (y0a [] X.env))) _ _ s
 refine Calls.spliced_cons (wpAny_Call_Name_kw (zdn I hgz hz PyProof.Rows.boot_zip (y1z (thn (ha pos2 pins s σ H _ I h) fun us s1 ⟨vs,H1,I1,r1,q1⟩=>?_) he2 hpl2)))
 obtain⟨l1,l2,ks,ys,rfl,hq1,hq2,hnd,hle,q⟩:=q1
 obtain⟨u1,u2,rfl,e1,e2⟩:=r1.two
 cases e1
 cases e2
 obtain⟨its,rv,pl,hz1⟩:=I1.list hq1
 obtain⟨its2,rv2,pl2,hz2⟩:=I1.tuple hq2
 have k1:sqK true s1.heap l1 its.toArray:=pl.isList
 have k2:sqK false s1.heap l2 its2.toArray:=pl2
 refine zim k1 k2 fun h' hzr hTI hTO hi1 hi2 hsz hk=>Calls.spliced_nil ?_
 have hl1:ks.length=its.length:=by have:=rv.length;simpa using this
 have hl2:ys.length=its2.length:=rv2.length
 have hlen:(ks.zip its2).length=(zipV ks ys).length:=by rw[zkt,List.length_zip,hl2]
 have hk1:(ks.zip its2).map (·.1)=(zipV ks ys).map (·.1):=(zoz (zje rv2)).symm
 have big:=I1.big
 have sz5:h'.objs.size=s1.heap.objs.size+5:=hsz
 refine zn2 (knd:=z1u X.prog X.w) (kvs:=ks.zip its2) (s:={ s1 with heap:=h' }) (I1.ok.hd hc) (zcp k1.lt k2.lt) ⟨hTI,⟨_,_,hTO⟩,⟨hi1,k1.at fun o e=>hk _ o e⟩,⟨hi2,k2.at fun o e=>hk _ o e⟩,.inl hzr⟩ hzr (by rw[hk1];exact hnd) (by rw[List.length_zip,y0i,y0i,hl1]) (by rw[hlen,sizeLine_eq];omega) (fun j kv e=>zng X rv j kv e) fun h2 tk hd2 kp2=>?_
 have keep:∀c o,s1.heap.get? c=some o->h2.get? c=some o:=fun c o e=>by
  have hc:c<s1.heap.objs.size:=y0c e
  have ne:∀m:Nat,c≠s1.heap.objs.size+m:=fun m=>y10 (y0y hc (Nat.le_add_right _ m))
  exact kp2 c o (ne 4) (ne 3) (ne 0) (ne 1) (hk c o e)
 have le5:s1.heap.objs.size<=h'.objs.size:=by rw[sz5];exact Nat.le_add_right _ _
 refine⟨.ref h'.objs.size,_,zds (s:=s1) I1 (o:=.dK (zipV ks ys)) (d':=s1.drawn) (t':=tk) keep le5 ⟨by rw[sizeLine_eq];omega,?_,ks.zip its2,zje rv2,hd2⟩,rfl,q _ (I1.hok.fresh le5)⟩
 rw[beq_eq_false_iff_ne]
 exact y18 (y0y big le5)
variable {c C i j:Nat} {ns:List Str} {fn:Str} {o:Expr} {apos:Pos}
theorem zku {K:y00} {F:Addr->Prop} {H:Hp}:∀{lk lv:List T} {kvs:List (D.Key×T)} {ws ys:List V},zipD lk lv=some kvs->RepL K F H lk ws->RepL K F H lv ys->(∀t∈lk,∃k,z6d t=some k)->∃ks:List L2.Key,ws=ks.map kV/\RepD K F H kvs (zipV ks ys)/\(zipV ks ys).map (·.1)=kvs.map (·.1)
 | [],lv,kvs,ws,ys,e,h1,h2,_=>by
  cases e
  simp only[RepL] at h1
  subst h1
  exact⟨[],rfl,rfl,rfl⟩
 | t::lk,[],kvs,ws,ys,e,h1,h2,ha=>by
  cases e
  simp only[RepL] at h1 h2
  subst h2
  obtain⟨v,r,rfl,q,z⟩:=h1
  obtain⟨k,hk⟩:=ha t (by simp)
  have hv:v=kV k:=za3 (O:=fun _=>False) hk (.inl q)
  have key:∀{lk:List T} {r:List V},RepL K F H lk r->(∀t∈lk,∃k,z6d t=some k)->∃ks:List L2.Key,r=ks.map kV:=by
   intro lk
   induction lk with
   | nil =>
    intro r h _
    simp only[RepL] at h
    exact⟨[],h⟩
   | cons t lk ih =>
    intro r h ha
    simp only[RepL] at h
    obtain⟨v,r',rfl,q,z⟩:=h
    obtain⟨k,hk⟩:=ha t (by simp)
    obtain⟨ks,rfl⟩:=ih z fun u hu=>ha u (y05 _ hu)
    exact⟨k::ks,by rw[za3 (O:=fun _=>False) hk (.inl q)];rfl⟩
  obtain⟨ks,rfl⟩:=key z fun u hu=>ha u (y05 _ hu)
  exact⟨k::ks,by rw[hv];rfl,rfl,rfl⟩
 | t::lk,u::lv,kvs,ws,ys,e,h1,h2,ha=>by
  simp only[zipD,y01,y07] at e
  obtain⟨k,hk,r,er,rfl⟩:=e
  simp only[RepL] at h1 h2
  obtain⟨v,r1,rfl,q1,z1⟩:=h1
  obtain⟨w,r2,rfl,q2,z2⟩:=h2
  obtain⟨ks,rfl,rd,rk⟩:=zku er z1 z2 fun u hu=>ha u (y05 _ hu)
  exact⟨k::ks,by rw[za3 (O:=fun _=>False) hk (.inl q1)];rfl,⟨w,_,rfl,q2,rd⟩,by simp[zipV,rk]⟩
theorem znw (k:ClOk X.K c C ns) (hc:X.calm=true) (hd:X.mg "dict"=none) (hz:X.mg "zip"=none) (hn:PE X o (tVar i)) (ha:PEr X a f) (hb:PEr X b g) {dpos:Pos} (hj:ns[j]?=some fn:=by rfl) (hg:Gl X "dict":=by rfl) (hgz:Gl X "zip":=by rfl)
  (he2:y0a [a,b] X.env=(false,eval a X.env)::y0a [b] X.env:=by rfl) (he3:y0a [b] X.env=(false,eval b X.env)::y0a [] X.env:=by rfl) (hpl2:(backTo pos2 (y0a [b] X.env)).any (·.1)=false:=by rfl)
  (he:y0a [.Call (.Name "zip" p2) [a,b] [] pos2] X.env=(false,eval (.Call (.Name "zip" p2) [a,b] [] pos2) X.env)::y0a [] X.env:=by rfl) (hpl:(backTo dpos (y0a [] X.env)).any (·.1)=false:=by rfl)
  (hs:swapsWith (.Call (.Name "dict" p) [.Call (.Name "zip" p2) [a,b] [] pos2] [] dpos) (some (.Attribute o fn apos)) pos.line X.env=pure false:=by rfl) :
  PSt X (.Assign [.Attribute o fn apos] (.Call (.Name "dict" p) [.Call (.Name "zip" p2) [a,b] [] pos2] [] dpos) pos) (znb c i j f g) :=
 z36 (zob hn (zmh hc hd hz (z35 ha (z35 hb z6x he3) he2) hg hgz he2 hpl2 he hpl) hs) fun D σ H ⟨F₀,E,O,F,ε,o,r,e,kk⟩=>by
 simp only[znb,y01] at e
 obtain⟨tk,etk,tv,etv,e⟩:=e
 split at e
 next lk lv =>
  simp only[y01] at e
  obtain⟨kvs,ez,e⟩:=e
  split at e
  next hcond =>
   simp only[y07] at e
   obtain⟨ε',es,rfl⟩:=e
   refine⟨F₀,E,O,F,ε,_,r,etk,fun v1 F1 H1 x1 q1=>⟨F₀,E,O,F1,ε,_,r.ext x1,etv,fun v2 F2 H2 x2 q2=>?_⟩⟩
   obtain⟨l1,ws,rfl,hl1,hr1⟩:=(q1.ext x2).lst
   obtain⟨l2,ys,rfl,hl2,hr2⟩:=q2.tup
   obtain⟨ks,rfl,rd,rk⟩:=zku ez hr1 hr2 fun t ht=>Option.isSome_iff_exists.mp (hcond.2.2 t ht)
   have x12:=x1.trans x2
   refine⟨l1,l2,ks,ys,rfl,.inl hl1,hl2,by rw[rk];exact hcond.1,by have:=congrArg List.length rk;simp only[y16] at this;omega,fun q hq=>?_⟩
   have x3:=Ext.laid (o:=.dK (zipV ks ys)) x12.dom hq
   have x13:=x12.trans x3
   have r1:=r.ext x13
   have hnew:H q=none:=x12.same.none hq
   have nf:¬F2 q:=fun z=>by
    obtain⟨o,e⟩:=x12.dom q z
    rw[hq] at e
    cases e
   have es':=es
   unfold setF at es'
   simp only[y01] at es'
   obtain⟨⟨m,fs⟩,ho,_⟩:=es'
   obtain⟨ao,vs,dx,h1,hx,hl,ha,_⟩:=z8h k r1 ho
   have hold:=zlp r x13 hnew
   obtain⟨kp,r2⟩:=r1.setFld (s:=.dic kvs) (v:=.ref q) k ho h1 ha es ⟨q,_,rfl,z0c,RepD.kp x3.kp rd⟩ (fun d hd=>by
    have:d=q:=by simpa [fp0,rf] using hd
    subst this
    exact⟨nf,r.fr _ hnew,hold i _ _ (z3a ho) h1,fun k u w _ ek _ hk=>hold k u w ek hk⟩) hx hj
   refine⟨_,h1,ao,C,dx,_,rfl,hx,k.cls,za1 k hj,?_,kk σ F2 _ (x13.kp.trans kp) r2⟩
   have:=k.few
   simp only[List.length_zip]
   omega
  next=>cases e
 next=>cases e
end
end
section
variable [Tbl]
open AutoSeq1 (wpAny_loadPart')
noncomputable def oRep:T->T->Option T
 | .tuple xs,.int k=>if 2<=k/\k<1000/\xs≠[]/\xs.length*k.toNat<=big then some (.tuple (y0h k.toNat xs).flatten) else none
 | .list xs,.int k=>if 0<=k/\k<1000/\xs.length*k.toNat<=big then some (.list (y0h k.toNat xs).flatten) else none
 | _,_=>none
theorem zbc:fillsNumberSlot (.type "tuple") "mul"=pure false :=
 PySem.fillsNumberSlot_seq (id:="tuple.__mul__") (r:=some (.builtin "tuple.__rmul__")) F.slot_tuple_mul.lookup (by decide +kernel) F.slot_tuple_rmul.lookup (by decide +kernel)
theorem zg9:seqRepeat? (.type "tuple")=pure (some (.builtin "tuple.__mul__")):=by
 unfold seqRepeat?
 rw[PySem.seqSlot_of (T:="tuple") (name:="__mul__") (id:="tuple.__mul__") F.slot_tuple_mul.lookup (by decide +kernel),PySem.seqSlot_of (T:="tuple") (name:="__rmul__") (id:="tuple.__rmul__") F.slot_tuple_rmul.lookup (by decide +kernel)]
 rfl
theorem zjt (a:Int) (t:Tok) (l:Addr) (its:Array Value) (n:Nat) (dd:Option Addr) (sl:Array (Option Value)):Meets (Builtin.«int.__rmul__» ⟨[.int a t,.ref l],[]⟩) (fun _ R s=>s.heap.get? l=some { cls:=.type "tuple",dict:=dd,data:=.seq its n,slots:=sl }/\R (.ok (.ret Value.notImplemented)) s) :=
 .of_wp fun prog w A R s h=>by
  obtain⟨hp,g,d,tk,os⟩:=s
  obtain⟨hl,h⟩:=h
  wp_walk
  exact⟨_,rfl,h⟩
theorem zmk (l:Addr) (its:Array Value) (n:Nat) (dd:Option Addr) (sl:Array (Option Value)) (k:Int) (t:Tok) (h1:2<=k) (h2:k<1000) (hne:its.isEmpty=false) (hz:its.size*k.toNat<=y0k) :
  Meets (Builtin.«tuple.__mul__» ⟨[.ref l,.int k t],[]⟩) (fun _ R s=>s.heap.get? l=some { cls:=.type "tuple",dict:=dd,data:=.seq its n,slots:=sl } /\
   R (.ok (.ret (.ref s.heap.objs.size))) { s with heap:=s.heap.push { cls:=.type "tuple",data:=.seq ((y0h k.toNat its).foldl (·++·) #[]) } }) :=
 .of_wp fun prog w A R s h=>by
  obtain⟨hp,g,d,tk,os⟩:=s
  obtain⟨hl,h⟩:=h
  have c1:¬(decide (k < -(2 ^ 63)) || decide (k >= 2 ^ 63))=true:=by simp;omega
  have c2:¬(its.isEmpty || k == 1)=true:=by simp[hne];omega
  have c3:¬(decide (k<=0) || its.isEmpty)=true:=by simp[hne];omega
  wp_walk using wpAny_loadPart' hl
  have hzk:(its.size:Int)*k=((its.size*k.toNat:Nat):Int):=by
   have:(k.toNat:Int)=k:=Int.toNat_of_nonneg (by omega)
   rw[<- this]
   push_cast
   simp
  have c4:¬((its.size:Int)*k > (2 ^ 63 - 1) / 8):=by
   rw[hzk]
   rw[sizeLine_eq] at hz
   omega
  have c5:¬Builtin.Tuple.tupleTooMany ((its.size:Int)*k)=true:=by
   unfold Builtin.Tuple.tupleTooMany
   rw[hzk,decide_eq_true_iff]
   omega
  rw[if_neg c1]
  wp_walk using wpAny_loadPart' hl
  rw[if_neg c2,if_neg c3,if_neg c4,if_neg c5]
  unfold y15
  refine y02 (wpAny_newObj_type (y06 ⟨_,rfl,h⟩) ?_)
  have e:=zap its.toList k.toNat []
  rw[y2t] at e
  show (List.foldl _ #[] (y0h k.toNat its)).size<=y0k
  have e':List.foldl (fun x1 x2=>x1++x2) #[] (y0h k.toNat its)=(y0h k.toNat its.toList).flatten.toArray:=by simpa using e
  rw[e',y0i,zk4,y27,Nat.mul_comm]
  exact hz
section
variable {X:Cx} {a b:Expr} {f g:Fe} {pos:Pos}
theorem zu7:OpR X (binaryOp .Mult) (fun x y H Q=>∃a k xs,x=.ref a/\y=.int k/\SqT X.K H a xs/\xs≠[]/\2<=k/\k<1000/\xs.length*k.toNat<=y0k/\∀p,H p=none->Q (.ref p) (upd H p (.tup (y0h k.toNat xs).flatten))):=by
 intro pins s σ H x y v u Q I rx ry h
 obtain⟨l,k,xs,rfl,rfl,hH,hne,h1,h2,hz,q⟩:=h
 cases rx
 obtain⟨t,rfl⟩:=ry
 obtain⟨its,r,pl,_⟩:=I.tuple hH
 have hl:=r.length
 obtain⟨⟨cls,dd,data,sl⟩,ho,hc,n,hd⟩:=id pl
 simp only at hc hd
 subst hc hd
 have hem:its.toArray.isEmpty=false:=by
  cases its with
  | nil =>
   cases xs with
   | nil=>exact absurd rfl hne
   | cons x xs=>simp at hl
  | cons=>rfl
 refine wpAny_binaryOp_repeat_ref (T:="tuple") (U:="int") (by decide) ⟨_,ho,rfl⟩ (fun s'=>typeIs_int s' k t) zbc F.fills_int_mul F.slot_int_rmul zg9 F.slot_int_index.lookup
  (call_meets F.slot_int_rmul (typeIs_int s k t) F.entry_int_rmul (F.args_int_rmul_2 _ _) (zjt k t l its.toArray n dd sl)
   ⟨ho,rfl,⟨_,ho,rfl⟩,call_meets F.slot_tuple_mul ⟨_,ho,rfl⟩ F.entry_tuple_mul (F.args_tuple_mul_2 _ _) (zmk l its.toArray n dd sl k t h1 h2 hem (by rw[y0i,<- hl];exact hz)) ⟨ho,?_⟩⟩)
 have e:List.foldl (fun x1 x2=>x1++x2) #[] (y0h k.toNat its.toArray)=(y0h k.toNat its).flatten.toArray:=by simpa using zap its k.toNat []
 have hz2:(y0h k.toNat xs).flatten.length<=y0k:=by rw[zk4,Nat.mul_comm];exact hz
 refine⟨.ref s.heap.objs.size,upd H s.heap.objs.size (.tup (y0h k.toNat xs).flatten),I.laid (t':=s.toks) (fun b u e=>y03 _ e) (y0p _) ⟨hz2,_,r.rep k.toNat,⟨_,y0m _ rfl,rfl,0,?_⟩⟩,rfl,q _ I.fresh⟩
 exact congrArg (fun z=>Data.seq z 0) e
theorem zu8:OpR X (binaryOp .Mult) (fun x y H Q=>∃l k xs,x=.ref l/\y=.int k/\Rd H l (.lst xs)/\0<=k/\k<1000/\xs.length*k.toNat<=y0k/\∀p,H p=none->Q (.ref p) (upd H p (.lst (y0h k.toNat xs).flatten))):=by
 intro pins s σ H x y v u Q I rx ry h
 obtain⟨l,k,xs,rfl,rfl,hH,h1,h2,hz,q⟩:=h
 cases rx
 obtain⟨t,rfl⟩:=ry
 obtain⟨z,its,n,r,hl,e⟩:=Inv.lstR I hH
 have hlen:its.toArray.size*k.toNat<=y0k:=by rw[y0i,<- hl];exact hz
 have hcap:¬its.toArray.size*k.toNat > (2 ^ 63 - 1) / 8:=by
  have:(y0k:Nat)<=(2 ^ 63 - 1) / 8:=by decide
  omega
 have hfit:¬(!Builtin.List.listFitsIndex k)=true:=by rw[fitsIndex_both (by omega) (by omega)];exact y2b
 have hlong:¬Builtin.List.listTooLong (its.toArray.size*k.toNat)=true:=by rw[zr9 hlen];exact y2b
 have f0:∀m:Nat,List.foldl (fun x1 x2=>x1++x2) #[] (y0h m its.toArray)=(y0h m its).flatten.toArray:=fun m=>by simpa using zap its m []
 have hnew:List.foldl (fun x1 x2=>x1++x2) #[] (y0h (if its.toArray.isEmpty=true then 0 else k.toNat) its.toArray)=(y0h k.toNat its).flatten.toArray:=by
  rw[f0]
  cases its with
  | nil=>simp
  | cons a r'=>rw[if_neg (by simp)]
 refine wpAny_binaryOp_repeat_ref (T:="list") (U:="int") (by decide) ⟨_,e,rfl⟩ (fun s'=>typeIs_int s' k t) noFill_list_mul F.fills_int_mul F.slot_int_rmul repeat_list F.slot_int_index.lookup
  (call_meets F.slot_int_rmul (typeIs_int s k t) F.entry_int_rmul (F.args_int_rmul_2 _ _) (int___rmul___int_list k t l its.toArray n) ⟨e,rfl,⟨_,e,rfl⟩,call_meets F.slot_list_mul ⟨_,e,rfl⟩ F.entry_list_mul (F.args_list_mul_2 _ _) (AutoListH.list___mul___list_int_3 l its.toArray n k t hfit hcap hlong) ⟨e,?_⟩⟩)
 rw[hnew]
 exact⟨.ref _,_,I.lnew (t':=s.toks) (r.rep k.toNat) (by rw[zk4,Nat.mul_comm];exact hz),rfl,q _ I.fresh⟩
theorem RepL.rep {K:y00} {F:Addr->Prop} {H:Hp} {ts:List T} {vs:List V} (h:RepL K F H ts vs):∀k:Nat,RepL K F H (y0h k ts).flatten (y0h k vs).flatten
 | 0=>RepL.nil
 | k+1=>by
  rw[y1y,y1y,y2h,y2h]
  exact h.append (RepL.rep h k)
theorem zxp (ha:PEr X a f) (hb:PEr X b g):PEv X (.BinOp a .Mult b pos) (op2 oRep f g):=z17 (zjy (zu7.or zu8) ha hb) (z7b (by
 intro O F H x y t vx vy Q d rx ry e k
 unfold oRep at e
 split at e
 next xs n =>
  split at e
  next hz =>
   cases e
   obtain⟨ax,vs,rfl,hs,hr⟩:=rx.tup
   rw[ry.int]
   refine .inl ⟨ax,_,vs,rfl,rfl,hs,fun z=>?_,hz.1,hz.2.1,by rw[z9c,<- hr.length];exact hz.2.2.2,fun p hp=>?_⟩
   ·subst z
    exact hz.2.2.1 (List.eq_nil_of_length_eq_zero (by rw[hr.length];rfl))
   ·have x1:=Ext.laid (o:=.tup (y0h n.toNat vs).flatten) d hp
    refine k _ F _ x1 ?_
    simp only[Rep]
    exact⟨p,_,rfl,SqT.of z0c,(hr.rep _).ext x1⟩
  next=>cases e
 next xs n =>
  split at e
  next hz =>
   cases e
   obtain⟨ax,vs,rfl,hs,hr⟩:=rx.lst
   rw[ry.int]
   refine .inr ⟨ax,_,vs,rfl,rfl,hs,hz.1,hz.2.1,by rw[z9c,<- hr.length];exact hz.2.2,fun p hp=>?_⟩
   have x1:=Ext.laidF (o:=.lst (y0h n.toNat vs).flatten) d hp
   refine k _ _ _ x1 ?_
   simp only[Rep]
   exact⟨p,_,rfl,.inr rfl,.inl z0c,(hr.rep _).ext x1⟩
  next=>cases e
 ·cases e))
end
end
section
variable [Tbl]
section
variable {X:Cx} {a b c:Expr} {f g h:Fe} {pos:Pos}
end
section
variable {X:Cx} {c C i j:Nat} {ns:List Str} {f:Str} {o:Expr} {pos apos:Pos}
theorem zsj (k:ClOk X.K c C ns) (hn:PE X o (tVar i)) {bpos cpos:Pos} (hj:ns[j]?=some f:=by rfl) (hb:attributeBase o f X.env (eval o X.env)=eval o X.env:=by rfl)
  (hbase:attributeBase (.Attribute o f apos) "pop" X.env (eval (.Attribute o f apos) X.env)=eval (.Attribute o f apos) X.env:=by rfl) (hline:(bpos.endLine == cpos.line)=true:=by rfl)
  (hsw:swapsWith (.Call (.Attribute (.Attribute o f apos) "pop" bpos) [] [] cpos) none pos.line X.env=pure false:=by rfl) :
  PSt X (.Expr (.Call (.Attribute (.Attribute o f apos) "pop" bpos) [] [] cpos) pos) (popF c i j) :=
 z36 (zd1 (zss PySem.F.plainAttrs_list PySem.F.slot_list_pop PySem.F.type_list_pop zwn (z9q hn hb) hbase hline) hsw) fun D σ H ⟨F₀,H₀,O,F,ε,o,r,e,kk⟩=>by
 simp only[popF,y01,y07] at e
 obtain⟨ts,el,t,et,ε',es,rfl⟩:=e
 obtain⟨m,fs,ho,hs⟩:=zdy el
 obtain⟨a,vs,dx,v,h1,hx,hl,ha,hv,⟨b,us,eb,hb,rb⟩,_⟩:=z7x k r ho hs hj
 subst eb
 rw[List.getLast?_eq_getElem?] at et
 obtain⟨w,hw,rw'⟩:=rb.get et
 refine⟨_,h1,a,C,dx,_,_,rfl,hx,k.cls,za1 k hj,hl,.inl ⟨rfl,_,SqL.of hb⟩,b,us,w,rfl,rfl,hb,by rw[<- rb.length];exact hw,?_⟩
 obtain⟨kp,r2⟩:=r.mutFld (s':=.own ts.dropLast) (o':=.lst us.dropLast) ho h1 ha es hs hv (by simp[fp0,rf]) rfl fun kp=>⟨b,_,rfl,z0c,by
  have:=(rb.kp kp).take (ts.length - 1)
  rw[<- List.dropLast_eq_take,rb.length,<- List.dropLast_eq_take] at this
  exact this⟩
 exact kk σ F _ kp r2
end
end
section
abbrev t0:Tbl:=⟨[],fun _=>[],fun _=>none⟩
def z0l (ns:List Int):T:=.list (ns.map .int)
def noL (K:y00):Bool:=K.all fun p=>match p.2.cls with
 | .type t=>t != "list"
 | _=>true
theorem zdk {α β:Type} [BEq α] [LawfulBEq α] {a:α} {b:β}:∀{l:List (α×β)},l.lookup a=some b->(a,b)∈l
  | [],h=>by cases h
  | (x,y)::l,h=>by
    rw[y1i] at h
    split at h
    next q =>
      cases h
      have:a=x:=by simpa using q
      subst this
      simp
    next=>exact y05 _ (zdk h)
end
section
section
variable [Tbl]
variable {X:Cx} {e:Expr} {es:List Expr} {fs:List Fe} {p pos:Pos}
end
end
section
variable [Tbl]
open AutoSeq1 (wpAny_loadPart')
section
variable {X:Cx} {a b:Expr} {f g:Fe} {pos:Pos}
end
end
section
variable [Tbl]
noncomputable def Itz (K:y00) (a b:Addr) (n m:Nat):It :=
 ⟨fun i H=>∃xs x ys y,SqT K H a xs/\xs[i]?=some x/\SqT K H b ys/\ys[i]?=some y/\xs.length=n/\ys.length=m,
  fun i H x H'=>∃p u v,H p=none/\x=.ref p/\H'=upd H p (.tup [u,v])/\(∀xs,SqT K H a xs->xs[i]?=some u)/\∀ys,SqT K H b ys->ys[i]?=some v,
  fun i H=>∃xs ys,SqT K H a xs/\SqT K H b ys/\xs.length=n/\ys.length=m/\(n<=i\/m<=i)⟩
noncomputable def TnZ (z TI TO i1 i2 l1 l2:Addr) (n m i:Nat) (h:Heap):Prop:=ZipR h z TI TO .none (.bool false)/\IsPair h TI (.ref i1) (.ref i2)/\(∃a b,IsPair h TO a b)/\h.IsTupleIter i1 l1 i/\h.IsTupleIter i2 l2 i/\i<=n/\i<=m
theorem zqf {P:y0r} {w:World} {K:y00} {es:List Expr} {k:Nat} {pos:Pos} {z TI TO i1 i2 l1 l2:Addr} {n m:Nat} (D:ZipApart z TI TO i1 i2 l1 l2):Turn P w K (.Tuple es k pos) (Itz K l1 l2 n m) [z,TI,TO,i1,i2] z (TnZ z TI TO i1 i2 l1 l2 n m) where
 mem:=by simp
 obj:=fun i h st b hb=>by
  obtain⟨hz,hTI,⟨a,c,hTO⟩,h1,h2,_⟩:=st
  simp only[y09,y2j,or_false] at hb
  rcases hb with rfl|rfl|rfl|rfl|rfl
  ·exact⟨_,hz,fun v q=>by cases (show Data.fields _=Data.cell v from q)⟩
  ·exact⟨_,hTI,fun v q=>by cases (show Data.seq _ _=Data.cell v from q)⟩
  ·exact⟨_,hTO,fun v q=>by cases (show Data.seq _ _=Data.cell v from q)⟩
  ·obtain⟨o,ho,_,hd⟩:=h1
   exact⟨o,ho,fun v q=>by rw[hd] at q;cases q⟩
  ·obtain⟨o,ho,_,hd⟩:=h2
   exact⟨o,ho,fun v q=>by rw[hd] at q;cases q⟩
 keep:=fun i h h' st kk=>by
  obtain⟨hz,hTI,⟨a,c,hTO⟩,h1,h2,hn⟩:=st
  exact⟨kk z (by simp) _ hz,kk TI (by simp) _ hTI,⟨a,c,kk TO (by simp) _ hTO⟩,h1.at fun o q=>kk i1 (by simp) o q,h2.at fun o q=>kk i2 (by simp) o q,hn⟩
 item:=by
  intro X hP hw hK hc i pins s σ H E I hf st hg
  subst hP hw hK
  obtain⟨xs,x,ys,y,hq1,hx,hq2,hy,hn,hm⟩:=hg
  obtain⟨its,rv,p1,_⟩:=I.tuple hq1
  obtain⟨its2,rv2,p2,_⟩:=I.tuple hq2
  obtain⟨u,hu,ru⟩:=rv.get hx
  obtain⟨v,hv,rv'⟩:=rv2.get hy
  obtain⟨hz,hTI,⟨a,c,hTO⟩,h1,h2,hin,him⟩:=st
  have hi:i<its.toArray.size:=by
   rw[y0i]
   exact (y0l.mp hu).1
  have hj:i<its2.toArray.size:=by
   rw[y0i]
   exact (y0l.mp hv).1
  have hlx:=rv.length
  have hly:=rv2.length
  have hT:s.TypeIs (.ref z) "zip":=⟨_,hz,rfl⟩
  have zlt:z<s.heap.objs.size:=y0c hz
  have TOlt:TO<s.heap.objs.size:=y0c hTO
  have TIlt:TI<s.heap.objs.size:=y0c hTI
  have i1lt:i1<s.heap.objs.size:=by obtain⟨o,e,_⟩:=h1;exact y0c e
  have i2lt:i2<s.heap.objs.size:=by obtain⟨o,e,_⟩:=h2;exact y0c e
  have hh:=I.ok.hd hc
  unfold pyNext
  refine y02 (wpAny_attempt (wpAny_callSpecial?_slot (name:=Str.ofString "__next__") hT F.slot_zip_next (wpAny_call_entry F.slot_zip_next hT F.entry_zip_next ?_ (F.args_zip_next_1 _))))
  refine zks (S1:=fun i h=>h.IsTupleIter i1 l1 i/\h.IsTuple l1 its.toArray) (S2:=fun i h=>h.IsTupleIter i2 l2 i/\h.IsTuple l2 its2.toArray) D (z4t (A:=X.A.in1) hh i1 l1 D.l1i1 its.toArray) (z4t (A:=X.A.in1) hh i2 l2 D.l2i2 its2.toArray) hz hTI hTO ⟨h1,p1⟩ ⟨h2,p2⟩ hi hj fun h' x' y' tk px py hz' hTO' s1 s2 hp hsz kp=>y06 ?_
  have ex:x'=u:=by
   rw[<- Array.getElem?_toList,show (its.toArray).toList=its from rfl,hu] at px
   exact (y2n px).symm
  have ey:y'=v:=by
   rw[<- Array.getElem?_toList,show (its2.toArray).toList=its2 from rfl,hv] at py
   exact (y2n py).symm
  subst ex ey
  refine⟨_,rfl,wpAny_letOwnedTupleGo_zip hz' fun h2' hz2 hs2=>?_⟩
  have k2:∀b o,b≠z->b≠TO->b≠i1->b≠i2->s.heap.get? b=some o->h2'.get? b=some o:=fun b o b1 b2 b3 b4 q=>hs2.extBut b o b1 (kp b o b1 b2 b3 b4 q)
  have fr:H s.heap.objs.size=none:=I.hok.fresh (y0p _)
  have hT2:h2'.get? s.heap.objs.size=some { cls:=.type "tuple",data:=.seq #[x',y'] }:=hs2.extBut _ _ (y18 zlt) hp
  obtain⟨z0,z1,z2,z3,z4,z5⟩:=hf z (by simp)
  obtain⟨o0,o1,o2,o3,o4,o5⟩:=hf TO (by simp)
  obtain⟨f0,f1,f2,f3,f4,f5⟩:=hf i1 (by simp)
  obtain⟨g0,g1,g2,g3,g4,g5⟩:=hf i2 (by simp)
  obtain⟨t0,_⟩:=hf TI (by simp)
  have nH:∀b o,H b=some o->b≠z/\b≠TO/\b≠i1/\b≠i2:=fun b o q=>⟨fun e=>(by rw[e,z0] at q;cases q),fun e=>(by rw[e,o0] at q;cases q),fun e=>(by rw[e,f0] at q;cases q),fun e=>(by rw[e,g0] at q;cases q)⟩
  have k3:∀b o,b∉[z,TO,i1,i2]->s.heap.get? b=some o->h2'.get? b=some o:=fun b o hb q=>by
   simp only[y09,y2j,or_false,not_or] at hb
   exact k2 b o hb.1 hb.2.1 hb.2.2.1 hb.2.2.2 q
  have nH3:∀b o,H b=some o->b∉[z,TO,i1,i2]:=fun b o q=>by
   simp only[y09,y2j,or_false,not_or]
   exact nH b o q
  have hok2:HOk X.prog X.w (upd H s.heap.objs.size (.tup [x,y])) h2':=by
   intro b o q
   by_cases hb:b=s.heap.objs.size
   ·subst hb
    rw[z0c] at q
    cases q
    exact⟨by show 2<=y0k;decide,[x',y'],.cons ru (.cons rv' .nil),⟨_,hT2,rfl,_,rfl⟩⟩
   ·rw[z0d hb] at q
    refine (I.hok b o q).stay (fun c v hc' q'=>k3 c v ?_ q') (fun c q'=>?_) fun c ys q'=>?_
    ·rcases hc' with rfl|hc'
     ·exact nH3 _ _ q
     ·exact nH3 _ _ hc'
    ·rw[z0d (z0q q' fr)]
     exact q'
    ·rw[z0d (z0q q' fr)]
     exact q'
  have I2:L2.Inv X pins σ (upd H s.heap.objs.size (.tup [x,y])) { s with heap:=h2',toks:=tk }:=by
   refine I.step (g':=s.gens) (d':=s.drawn) (ch:=[z,TO,i1,i2]) (fun b hb=>?_) (fun b o _ _ hc' q _=>k3 b o hc' q) (fun b o _ _ hc' q _=>⟨o.slots,k3 b o hc' q⟩) (fun b o _ q n=>?_)
    (fun b o hc' q=>⟨o,k3 b o hc' q⟩) (fun b ys q=>by rw[z0d (z0q q fr)];exact q) (fun b o u q=>by rw[z0d (z0q q fr)];exact q) (fun b ps q=>⟨#[],by rw[z0d (z0q q fr),q];simp⟩) (fun m hm=>?_) hok2 I.bare
   ·simp only[y09,y2j,or_false] at hb
    rcases hb with rfl|rfl|rfl|rfl
    ·exact⟨z3,z1,z4,z5⟩
    ·exact⟨o3,o1,o4,o5⟩
    ·exact⟨f3,f1,f4,f5⟩
    ·exact⟨g3,g1,g4,g5⟩
   ·rw[z0d (y10 (y0c q))]
    exact n
   ·obtain⟨o,es',ep,ho',r⟩:=hm
    exact⟨o,es',ep,k2 _ o (Ne.symm z1) (Ne.symm o1) (Ne.symm f1) (Ne.symm g1) ho',r⟩
  refine⟨.ref s.heap.objs.size,_,I2,rfl,⟨s.heap.objs.size,x,y,fr,rfl,rfl,fun ws hw=>by rw[I.tuple_inj hw hq1];exact hx,fun ws hw=>by rw[I.tuple_inj hw hq2];exact hy⟩,⟨hz2,hs2.extBut _ _ D.TIz (kp _ _ D.TIz D.TITO D.TIi1 D.TIi2 hTI),⟨_,_,hs2.extBut _ _ D.TOz hTO'⟩,s1.1.at fun o q=>hs2.extBut _ _ D.i1z q,s2.1.at fun o q=>hs2.extBut _ _ D.i2z q,?_,?_⟩,fun b hb=>?_⟩
  ·rw[y0i] at hi
   omega
  ·rw[y0i] at hj
   omega
  ·simp only[y09,y2j,or_false] at hb
   rcases hb with rfl|rfl|rfl|rfl|rfl
   ·rw[z0d (y10 zlt)]
    exact z0
   ·rw[z0d (y10 TIlt)]
    exact t0
   ·rw[z0d (y10 TOlt)]
    exact o0
   ·rw[z0d (y10 i1lt)]
    exact f0
   ·rw[z0d (y10 i2lt)]
    exact g0
 done:=by
  intro X hP hw hK hc i pins s σ H E I hf st hg
  subst hP hw hK
  obtain⟨xs,ys,hq1,hq2,hn,hm,hs⟩:=hg
  obtain⟨its,rv,p1,_⟩:=I.tuple hq1
  obtain⟨its2,rv2,p2,_⟩:=I.tuple hq2
  obtain⟨hz,hTI,⟨a,c,hTO⟩,h1,h2,hin,him⟩:=st
  have hlx:=rv.length
  have hly:=rv2.length
  have hT:s.TypeIs (.ref z) "zip":=⟨_,hz,rfl⟩
  have hh:=I.ok.hd hc
  have hk:i=its.toArray.size\/(i<its.toArray.size/\i=its2.toArray.size):=by
   rw[y0i,y0i]
   omega
  unfold pyNext
  refine y02 (wpAny_attempt (wpAny_callSpecial?_slot (name:=Str.ofString "__next__") hT F.slot_zip_next (wpAny_call_entry F.slot_zip_next hT F.entry_zip_next ?_ (F.args_zip_next_1 _))))
  refine zkr (S1:=fun i h=>h.IsTupleIter i1 l1 i/\h.IsTuple l1 its.toArray) (S2:=fun i h=>h.IsTupleIter i2 l2 i/\h.IsTuple l2 its2.toArray) D (z4t (A:=X.A.in1) hh i1 l1 D.l1i1 its.toArray) (z4t (A:=X.A.in1) hh i2 l2 D.l2i2 its2.toArray) hz hTI hTO ⟨h1,p1⟩ ⟨h2,p2⟩ hk fun h' e tk kp he=>?_
  obtain⟨o,ho,hc'⟩:=he
  refine y02 (wpAny_isInstance (T:="StopIteration") (b:=true) ⟨o,ho,hc'⟩ isSubtype_stop (y06 ⟨rfl,?_⟩))
  obtain⟨z0,z1,z2,z3,z4,z5⟩:=hf z (by simp)
  obtain⟨o0,o1,o2,o3,o4,o5⟩:=hf TO (by simp)
  obtain⟨f0,f1,f2,f3,f4,f5⟩:=hf i1 (by simp)
  obtain⟨g0,g1,g2,g3,g4,g5⟩:=hf i2 (by simp)
  have k3:∀b o,b∉[z,TO,i1,i2]->s.heap.get? b=some o->h'.get? b=some o:=fun b o hb q=>by
   simp only[y09,y2j,or_false,not_or] at hb
   exact kp b o hb.1 hb.2.1 hb.2.2.1 hb.2.2.2 q
  have nH3:∀b o,H b=some o->b∉[z,TO,i1,i2]:=fun b o q=>by
   simp only[y09,y2j,or_false,not_or]
   exact⟨fun e=>(by rw[e,z0] at q;cases q),fun e=>(by rw[e,o0] at q;cases q),fun e=>(by rw[e,f0] at q;cases q),fun e=>(by rw[e,g0] at q;cases q)⟩
  have hok2:HOk X.prog X.w H h':=by
   intro b o q
   refine (I.hok b o q).stay (fun c v hc' q'=>k3 c v ?_ q') (fun c q'=>q') fun c ys q'=>q'
   rcases hc' with rfl|hc'
   ·exact nH3 _ _ q
   ·exact nH3 _ _ hc'
  refine I.step (g':=s.gens) (d':=s.drawn) (ch:=[z,TO,i1,i2]) (fun b hb=>?_) (fun b o _ _ hc' q _=>k3 b o hc' q) (fun b o _ _ hc' q _=>⟨o.slots,k3 b o hc' q⟩) (fun b o _ q n=>n)
    (fun b o hc' q=>⟨o,k3 b o hc' q⟩) (fun b ys q=>q) (fun b o u q=>q) (fun b ps q=>⟨#[],by rw[q];simp⟩) (fun m hm=>?_) hok2 I.bare
  ·simp only[y09,y2j,or_false] at hb
   rcases hb with rfl|rfl|rfl|rfl
   ·exact⟨z3,z1,z4,z5⟩
   ·exact⟨o3,o1,o4,o5⟩
   ·exact⟨f3,f1,f4,f5⟩
   ·exact⟨g3,g1,g4,g5⟩
  ·obtain⟨o,es',ep,ho',r⟩:=hm
   exact⟨o,es',ep,kp _ o (Ne.symm z1) (Ne.symm o1) (Ne.symm f1) (Ne.symm g1) ho',r⟩
 self:=fun _ _ _ _ _ st h=>wpAny_pyIter_zip (f0:=.none) st.1 h
def iZp (K:y00) (ta:TA):TI:=fun σ H R=>ta σ H fun vs H1=>∃a b xs ys,vs=[.ref a,.ref b]/\SqT K H1 a xs/\SqT K H1 b ys/\R (Itz K a b xs.length ys.length) H1
section
variable {X:Cx} {es:List Expr} {k:Nat} {p pos p2:Pos} {a b:Expr} {f g:Fe}
theorem zw7 {ta:TA} (hg:Gl X "zip") (hm:X.mg "zip"=none) (ha:PA X [a,b] ta) (hs:y0a [a,b] X.env=(false,eval a X.env)::y0a [b] X.env) (hpl:(backTo pos (y0a [b] X.env)).any (·.1)=false):PI X (.Tuple es k p2) (.Call (.Name "zip" p) [a,b] [] pos) (iZp X.K ta):=by
 intro pins s σ H R I h
 refine Call_ (zdn I hg hm PyProof.Rows.boot_zip (y1z (thn (ha pos pins s σ H _ I h) fun us s1 ⟨vs,H1,I1,r1,q1⟩=>?_) hs hpl))
 obtain⟨l1,l2,xs,ys,rfl,hq1,hq2,q⟩:=q1
 obtain⟨u1,u2,rfl,e1,e2⟩:=r1.two
 cases e1
 cases e2
 obtain⟨its,rv,pl,_⟩:=I1.tuple hq1
 obtain⟨its2,rv2,pl2,_⟩:=I1.tuple hq2
 have k1:sqK false s1.heap l1 its.toArray:=pl
 have k2:sqK false s1.heap l2 its2.toArray:=pl2
 refine zim k1 k2 fun h' hzr hTI hTO hi1 hi2 hsz hk=>wpAny_pyIter_zip (f0:=.none) hzr ?_
 refine⟨s1.heap.objs.size+4,[s1.heap.objs.size+4,s1.heap.objs.size+2,s1.heap.objs.size+3,s1.heap.objs.size,s1.heap.objs.size+1],_,_,H1,rfl,I1.kept (t':=s1.toks) hk,zqf (zcp k1.lt k2.lt),⟨hzr,hTI,⟨_,_,hTO⟩,hi1,hi2,y2c _,y2c _⟩,fun b hb=>?_,q⟩
 have hb':s1.heap.objs.size<=b:=by
  simp only[y09,y2j,or_false] at hb
  rcases hb with rfl|rfl|rfl|rfl|rfl
  ·exact Nat.le_add_right _ _
  ·exact Nat.le_add_right _ _
  ·exact Nat.le_add_right _ _
  ·exact y0p _
  ·exact Nat.le_add_right _ _
 exact I1.fpOk hb' (I1.hok.fresh hb')
def zipT (ts us:List T):List T:=List.zipWith (fun x y=>.tuple [x,y]) ts us
theorem zrl {K:y00} {a b:Addr} {F1:Addr->Prop} {H1:Hp} {ts us:List T} {vs ws:List V} (hr:SqT K H1 a vs) (q:RepL K F1 H1 ts vs) (hr2:SqT K H1 b ws) (q2:RepL K F1 H1 us ws):ItOk K (Itz K a b vs.length ws.length) F1 H1 (zipT ts us) where
 go:=fun i F H t kp d e=>by
  have hi:=(y0l.mp e).1
  simp only[zipT,List.length_zipWith] at hi
  obtain⟨v,h1,_⟩:=q.get (y0w (show i<ts.length by omega))
  obtain⟨v2,h2,_⟩:=q2.get (y0w (show i<us.length by omega))
  exact⟨vs,v,ws,v2,kp.tup _ _ hr,h1,kp.tup _ _ hr2,h2,rfl,rfl⟩
 yld:=fun i F H t x H' kp d e y=>by
  obtain⟨p,v,v2,hp,rfl,rfl,y1,y2⟩:=y
  have hi:=(y0l.mp e).1
  simp only[zipT,List.length_zipWith] at hi
  have hi1:i<ts.length:=by omega
  have hi2:i<us.length:=by omega
  obtain⟨v',h1,h2⟩:=(q.kp kp).get (y0w hi1)
  obtain⟨v2',h3,h4⟩:=(q2.kp kp).get (y0w hi2)
  have h5:=y1 vs (kp.tup _ _ hr)
  rw[h1] at h5
  cases h5
  have h6:=y2 ws (kp.tup _ _ hr2)
  rw[h3] at h6
  cases h6
  have x1:=Ext.laid (o:=.tup [v,v2]) d hp
  refine⟨F,x1,?_⟩
  have et:t=.tuple [ts[i],us[i]]:=by
   rw[zipT,List.getElem?_zipWith,y0w hi1,y0w hi2] at e
   exact (y2n e).symm
  subst et
  simp only[Rep]
  exact⟨p,_,rfl,SqT.of z0c,RepL.cons (h2.ext x1) (RepL.cons (h4.ext x1) RepL.nil)⟩
 stop:=fun i F H kp hl=>⟨vs,ws,kp.tup _ _ hr,kp.tup _ _ hr2,rfl,rfl,by
  simp only[zipT,List.length_zipWith] at hl
  rw[<- q.length,<- q2.length]
  omega⟩
theorem zww (hm:X.mg "zip"=none) (ha:PEv X a f) (hb:PEv X b g) (hg:Gl X "zip":=by rfl) (hs:y0a [a,b] X.env=(false,eval a X.env)::y0a [b] X.env:=by rfl) (hs2:y0a [b] X.env=(false,eval b X.env)::y0a [] X.env:=by rfl) (hpl:(backTo pos (y0a [b] X.env)).any (·.1)=false:=by rfl) :
  PIt X (.Tuple es k p2) (.Call (.Name "zip" p) [a,b] [] pos) (zrk (z7g f) (z7g g)):=zm0 (zw7 hg hm (z35 ha (z35 hb z6x hs2) hs) hs hpl) fun σ H R ⟨F₀,H₀,O,F,ε,ts,r,e,k⟩=>by
 simp only[zrk,z7g,y07,y01] at e
 obtain⟨xs,⟨t,et,e1⟩,ys,⟨u,eu,e2⟩,rfl⟩:=e
 split at e1
 ·cases e1
  split at e2
  ·cases e2
   refine⟨F₀,H₀,O,F,ε,_,r,et,fun v F1 H1 x1 q1=>⟨F₀,H₀,O,F1,ε,_,r.ext x1,eu,fun w F2 H2 x2 q2=>?_⟩⟩
   have q1':=q1.ext x2
   simp only[Rep] at q1' q2
   obtain⟨a1,vs,rfl,hs1,hr1⟩:=q1'
   obtain⟨a2,ws,rfl,hs2,hr2⟩:=q2
   exact⟨a1,a2,vs,ws,rfl,hs1,hs2,k _ F2 H2 (x1.trans x2) (zrl hs1 hr1 hs2 hr2)⟩
  ·cases e2
 ·cases e1
end
end
section
section
variable [Tbl]
variable {X:Cx} {a b:Expr} {f g:Fe} {pos:Pos}
end
end
section
section
variable [Tbl]
variable {X:Cx} {e:Expr} {f:Fe} {pos:Pos}
end
end
section
variable [Tbl]
section
variable {X:Cx} {a b c:Expr} {f g h:Fe} {pos:Pos}
end
section
variable {X:Cx} {pos:Pos}
end
section
variable {X:Cx} {a:Expr} {f:Fe} {p px pos pos2:Pos}
end
end
section
section
variable {X:Cx} {pins:List (Addr×Obj)} {σ:L2.St} {H:Hp} {s:y04} {a:Addr} {d:V} {r:Value} {A:Around} {E:Value->y04->Prop}
end
section
variable {X:Cx} {o e f:Expr} {apos cpos:Pos} {td ty tx:TE}
end
variable [Tbl]
section
variable {X:Cx} {a b:Expr} {f g:Fe} {x:Str} {px apos cpos pos:Pos}
end
section
variable {X:Cx} {a b:Expr} {f g:Fe} {p p2 pos pos2:Pos}
variable {x:Str} {px dpos:Pos}
end
end
section
variable [Tbl]
open PySem.W (kas_ask kas_sort kat_run kat_snds kat_lt kat_kind KatTups KatLex KatGo kas_item KasT)
def hT (x:Str×List T):T:=.tuple (.str x.1::x.2)
section
variable {prog:y0r} {w:World} {A:Around} {s:y04}
end
section
variable {X:Cx}
variable {e:Expr} {es:List Expr} {fs:List Fe} {p pos:Pos}
end
section
variable {X:Cx} {o e:Expr} {f g:Fe} {apos cpos:Pos}
end
section
variable {X:Cx} {a b:Expr} {f g:Fe} {pos:Pos}
end
end
section
section
variable {prog:y0r} {w:World} {A:Around} {E:Value->y04->Prop} {s:y04} {ar:Array Keyed}
end
variable [Tbl]
section
variable {X:Cx}
variable {e:Expr} {es:List Expr} {fs:List Fe} {p pos:Pos}
end
end
section
open AutoSeq1 (wpAny_loadPart')
section
variable {prog:y0r} {w:World} {A:Around} {E:Value->y04->Prop} {s:y04}
end
end
section
variable [Tbl]
section
variable {M:Model} {A:Around} {E:Value->y04->Prop} {s:y04} {env:Env}
end
section
variable {prog:y0r} {w:World} {A:Around} {E:Value->y04->Prop} {s:y04}
end
section
variable {X:Cx} {es:List Expr} {k kc:Nat} {p pos p2 pc pk:Pos} {a:Expr} {f:Fe}
end
section
variable {X:Cx} {e:Expr} {f:Fe} {pos:Pos}
end
end
section
variable [Tbl]
section
variable {X:Cx} {e:Expr} {f:Fe} {te:TE} {pos p p2 p3:Pos}
end
section
variable {X:Cx} {e st:Expr} {te:TE} {tl:TO} {f:Fe} {pos p2:Pos} {lo:Option Expr}
end
end
section
variable [Tbl]
def exE (f:Fe):Fs:=fun ε=>(f ε).map fun _=>.nx ε
theorem zx1 {P:y0r} {w:World} {K:y00} {mg:Str->Option Value} {base:Heap} {x y:Str} {st:Stmt} {f:Addr} {fd:y0b} {N ps:List Str} {k:Nat} {b:Fs} (F:Fun K x x st f fd) (S:FnScope N ps (z01 st)) (bd:z0p K fd ps []) (m:mg y=some (.ref f))
  (hb:∀(cdv:Value) (A:Around) (outer:List Env) (s:y04) (H:Hp) (E:XK),Room k (A.deeper (envOfC x (z01 st) s.heap.objs.size f cdv)) ->
   PBt (cxOf CX0 P w K mg base N x (z01 st) f cdv A outer s H E).nox (z06 st) b):Cl P w K mg base y (k+1) ps.length (runF b N.length):=.mk' (zt7 F S hb) m F.kp bd
section
variable {X:Cx} {k n c C i:Nat} {ns:List Str} {d:List Sl->Option (T×List Sl)} {x:Str} {p pos:Pos} {o e:Expr} {es:List Expr} {fs:List Fe} {f:Fe}
theorem znj (kc:ClOk X.K c C ns) (Dc:ClM X.prog X.w X.K X.mg X.base x c 0 k n d) (hr:Room k X.A) (hn:PE X o (tVar i)) (ha:PAv X es fs) (hg:Gl X x:=by rfl) (hl:fs.length+1=n:=by rfl) (hdb:(x == ("__debug__":Str))=false:=by decide)
  (he:y0a (o::es) X.env=(false,eval o X.env)::y0a es X.env:=by rfl) (hpl:(backTo pos (y0a es X.env)).any (·.1)=false:=by rfl):PEx X (.Call (.Name x p) (o::es) [] pos) (zit c d [] i fs):=by
 obtain⟨fa,fd,ps,F,m,kp,b⟩:=Dc.ex
 refine z17 (zjz F hr hg m kp b .nil zge (z35 hn ha he) hdb he hpl) fun σ H Q ⟨F₀,E,O,F,ε,t,ε',r,e,kk⟩=>?_
 simp only[zit,y01] at e
 obtain⟨⟨md,os⟩,ho,e⟩:=e
 split at e
 next=>cases e
 next hmd =>
  simp only[args,y01,y07,Option.some.injEq,exists_eq_left'] at e
  obtain⟨ts,et,r',ed,e⟩:=e
  cases e
  obtain⟨a,vs,dx,h1,hx,_⟩:=z8h kc r ho
  refine⟨_,h1,F₀,E,O,F,ε,ts,r,et,fun ws F1 H1 x1 q=>?_⟩
  show spM X.K n c 0 d (V.ref a::ws++[]) H1 Q E0
  rw[y26]
  exact zgj r ho hmd h1 x1 q ed (by rw[z9b et,hl]) kk
theorem ztl (h:PEv X e f) (hsw:swapsWith e none pos.line X.env=pure false:=by rfl):PSt X (.Expr e pos) (exE f):=z36 (zd1 h hsw) fun D σ H ⟨F₀,E,O,F,ε,o,r,e,k⟩=>by
 simp only[exE,y07] at e
 obtain⟨t,et,rfl⟩:=e
 exact⟨F₀,E,O,F,ε,t,r,et,fun v F' H' x _=>k σ F' H' x.kp (r.ext x)⟩
end
end
section
variable [Tbl]
end
section
theorem znc {pos:Pos} {c cv:Value} {a b:Int} (l:List Value) (h:TriplesOk l) (e:codeAmong pos (l++[rawInt a,rawInt b,c])=some cv):codeAmong pos l=some cv\/cv=c:=by
 fun_induction TriplesOk l with
 | case1 =>
  simp only[y2t,codeAmong,rawInt] at e
  split at e
  ·exact .inr (y2n e).symm
  ·cases e
 | case2 a' t b' u x rest ih =>
  simp only[y2u,codeAmong] at e ⊢
  split at e
  next hc=>rw[if_pos hc];exact .inl e
  next hc=>rw[if_neg hc];exact ih h e
 | case3 _ _ _=>exact h.elim
noncomputable def BM (mg:Str->Option Value) (h:Heap):Prop:=∃bm ob,mg "__builtins__"=some (.ref bm)/\bm≠builtinsNs/\h.get? bm=some ob/\ob.cls=.type "module"/\ob.dict=some builtinsNs/\ob.data=.plain
def lamO (o:Obj) (q:Addr):HO:=.ext fun h=>h.get? q=some o
def codO (c:Addr) (q:Str):HO:=.ext fun h=>h.CodeRec (.ref c) q
variable [Tbl]
theorem zrh {X:Cx} {pins:List (Addr×Obj)} {σ:L2.St} {H:Hp} {s:y04} {params:Arguments} {body:Expr} {scope:Scope} {lpos:Pos} {c P:Addr} {clos:List (Str×Addr)} {Q:Value->y04->Prop} (I:Inv X pins σ H s)
  (hcode:X.env.code=.ref c) (C:PySem.W.CodeHd X.base c P) (hbm:BM X.mg X.base) (hdef:defaultsOf params X.env=([],[])) (hcl:closureFor scope X.env=pure clos)
  (d:TbS H) (tb:(P,X.env.qual++"<lambda>")∈Tbl.tb) (un:∀p∈Tbl.tb,p.1=P->p.2=X.env.qual++"<lambda>")
  (h:∀(q c':Addr) (ctv:Value) (H':Hp) (s':y04),Inv X pins σ H' s'->z83 H H'->TbS H'->H q=none->H' q=some (lamO (PySem.W.kla_obj "<lambda>" (X.env.qual++"<lambda>") params body scope clos ((X.mg "__name__").getD .none) c' ctv) q) ->
   H' c'=some (codO c' (X.env.qual++"<lambda>"))->Q (.ref q) s') :
  y0v (model X.prog X.w) X.A (eval (.Lambda params body scope lpos) X.env) Q X.xe s:=by
 obtain⟨ps,hH,ht,hg⟩:=d _ tb
 have hP:s.heap.get? P=some (PySem.W.tabObj ps):=I.hok P _ hH
 have ns:s.heap.Ns y0o X.mg:=I.ok.mod.glob.keeps I.bk
 obtain⟨bm,ob,b1,b2,b3,b4,b5,b6⟩:=hbm
 have b3':=I.bk _ _ b3
 have hgP:y0o≠P:=fun z=>by
  obtain⟨o,es,ep,e,hd,_⟩:=ns
  rw[z,hP] at e;cases e;cases hd
 have hbP:bm≠P:=fun z=>by
  rw[z,hP] at b3';cases b3';cases b4
 have hbG:bm≠y0o:=fun z=>by
  obtain⟨o,es,ep,e,hd,_⟩:=ns
  rw[z,e] at b3';cases b3';rw[hd] at b6;cases b6
 have hb:s.heap.BuiltinsAt X.mg P:=⟨bm,ob,b1,b2,hbG,hbP,b3',b4,b5,b6⟩
 have C':=C.keeps I.bk
 refine PySem.W.kla_eval hdef ?_
 cases hf:codeAmong lpos ps.toList with
 | some cv =>
  obtain⟨c',rfl,hc'⟩:=hg lpos cv hf
  refine PySem.W.kla_makeFunctionHit hcl I.ok.glob ns hcode C' hP ht hf hb fun ctv h' tk k hsz=>?_
  have fr:H h'.objs.size=none:=I.hok.fresh hsz
  refine h h'.objs.size c' ctv (upd H h'.objs.size (lamO _ h'.objs.size)) _ (I.laid (t':=tk) (fun b u e=>y03 _ (k b u e)) hsz ⟨y0m _ rfl,⟨_,y0m _ rfl⟩,fun h1 h2 e1 e2=>e2 _ e1⟩)
   (fun b o e=>.inl (by rw[z0d (z0q e fr)];exact e)) (d.new fr) fr z0c (by rw[z0d (z0q hc' fr)];exact hc')
 | none =>
  refine PySem.W.kla_makeFunction hcl I.ok.glob ns hcode C' hP ht hf hgP hb fun c' ctv h' tk hx hge hlt hrec htb=>?_
  have frq:H h'.objs.size=none:=I.hok.fresh (y1u hge (Nat.le_of_lt hlt))
  have frc:H c'=none:=I.hok.fresh hge
  have cq:c'≠h'.objs.size:=y10 hlt
  have neC:∀b o,H b=some o->b≠c':=fun b o e=>z0q e frc
  have neQ:∀b o,H b=some o->b≠h'.objs.size:=fun b o e=>z0q e frq
  have Pc:=neC P _ hH
  have Pq:=neQ P _ hH
  let H':Hp:=upd (upd (upd H P (.tbl (ps++#[rawInt lpos.line,rawInt lpos.col,.ref c']))) c' (codO c' (X.env.qual++"<lambda>"))) h'.objs.size (lamO (PySem.W.kla_obj "<lambda>" (X.env.qual++"<lambda>") params body scope clos ((X.mg "__name__").getD .none) c' ctv) h'.objs.size)
  have eq0:H' h'.objs.size=some (lamO (PySem.W.kla_obj "<lambda>" (X.env.qual++"<lambda>") params body scope clos ((X.mg "__name__").getD .none) c' ctv) h'.objs.size):=z0c
  have ec0:H' c'=some (codO c' (X.env.qual++"<lambda>")):=by show upd _ _ _ _=_;rw[z0d cq,z0c]
  have eP0:H' P=some (.tbl (ps++#[rawInt lpos.line,rawInt lpos.col,.ref c'])):=by show upd _ _ _ _=_;rw[z0d Pq,z0d Pc,z0c]
  have eO:∀b,b≠P->b≠c'->b≠h'.objs.size->H' b=H b:=fun b n1 n2 n3=>by show upd _ _ _ _=_;rw[z0d n3,z0d n2,z0d n1]
  have eS:∀b o,H b=some o->b≠P->H' b=some o:=fun b o e n=>by rw[eO b n (neC b o e) (neQ b o e)];exact e
  have kp:∀b o,b≠P->s.heap.get? b=some o->(h'.push (PySem.W.kla_obj "<lambda>" (X.env.qual++"<lambda>") params body scope clos ((X.mg "__name__").getD .none) c' ctv)).get? b=some o:=fun b o n e=>y03 _ (hx b o n e)
  have nP:∀b,H b=none->b≠P:=fun b e z=>by rw[z,hH] at e;cases e
  have sm:z83 H H':=fun b o e=>by
   by_cases z:b=P
   ·subst z
    rw[hH] at e;cases e
    exact .inr ⟨_,_,rfl,eP0⟩
   ·exact .inl (eS b o e z)
  refine h h'.objs.size c' ctv H' _ (I.un (t':=tk) ⟨fun b o e n _ _=>kp b o (nP b n) e,fun b o e n _ _=>⟨o.slots,kp b o (nP b n) e⟩,fun b o e n _=>?_,fun b o e _=>?_,fun b xs e=>eS b _ e fun z=>by (rw[z,hH] at e;cases e),fun b o u e=>eS b _ e fun z=>by (rw[z,hH] at e;cases e),fun b qs e=>?_⟩ fun a o e=>?_) sm (fun p hp=>?_) frq eq0 ec0
  ·have lt:=y0c e
   rw[eO b (nP b n) (y10 (y0y lt hge)) (y10 (Nat.lt_trans (y0y lt hge) hlt))]
   exact n
  ·by_cases z:b=P
   ·subst z
    exact⟨_,y03 _ htb⟩
   ·exact⟨o,kp b o z e⟩
  ·by_cases z:b=P
   ·subst z
    rw[hH] at e;cases e
    exact⟨_,eP0⟩
   ·exact⟨#[],by rw[eS b _ e z];simp⟩
  ·by_cases z1:a=h'.objs.size
   ·subst z1
    rw[eq0] at e;cases e
    exact⟨y0m _ rfl,⟨_,y0m _ rfl⟩,fun h1 h2 e1 e2=>e2 _ e1⟩
   by_cases z2:a=c'
   ·subst z2
    rw[ec0] at e;cases e
    refine⟨hrec.at fun o e=>y03 _ e,?_,fun h1 h2 e1 e2=>e1.at e2⟩
    obtain⟨c2,o,vs,t,e2,ho,_⟩:=hrec
    cases e2
    exact⟨o,y03 _ ho⟩
   by_cases z3:a=P
   ·subst z3
    rw[eP0] at e;cases e
    exact y03 _ htb
   ·rw[eO a z3 z2 z1] at e
    refine (I.hok a o e).stay (fun b u hb q=>kp b u ?_ q) (fun b q=>eS b _ q fun z=>by (rw[z,hH] at q;cases q)) fun b xs q=>eS b _ q fun z=>by (rw[z,hH] at q;cases q)
    rcases hb with rfl|hb
    ·exact z3
    ·exact fun z=>by rw[z,hH] at hb;cases hb
  ·by_cases z:p.1=P
   ·have e2:=un p hp z
    obtain⟨p1,p2⟩:=p
    simp only at z e2
    subst z e2
    refine⟨_,eP0,by rw[Array.toList_append];exact TriplesOk_snoc _ _ _ _ ht,fun pos cv e=>?_⟩
    rw[Array.toList_append] at e
    rcases znc _ ht e with e|e
    ·obtain⟨c2,e1,e2⟩:=hg pos cv e
     exact⟨c2,e1,eS _ _ e2 fun z=>by (rw[z,hH] at e2;cases e2)⟩
    ·exact⟨c',e,ec0⟩
   ·obtain⟨qs,q1,q2,q3⟩:=d p hp
    refine⟨qs,eS _ _ q1 z,q2,fun pos cv e=>?_⟩
    obtain⟨c2,e1,e2⟩:=q3 pos cv e
    exact⟨c2,e1,eS _ _ e2 fun z=>by (rw[z,hH] at e2;cases e2)⟩
end
section
variable [Tbl]
end
section
variable [Tbl]
noncomputable def envL (qual:Str) (scope:Scope) (L q:Addr) (cd:Value) (cl:List (Str×Addr)):Env :=
 { scope:=scope,locals:=L,globals:=y0o,cells:=cl,qual:=qual++".<locals>.",func:=some q,code:=cd,frame:=some L,builtins:=builtinsNs }
noncomputable def cxL (P:y0r) (w:World) (K:y00) (mg:Str->Option Value) (base:Heap) (N:List Str) (qual:Str) (scope:Scope) (q:Addr) (cd:Value) (cl:List (Str×Addr)) (A:Around) (outer:List Env) (s:y04) (H:Hp):Cx where
 prog:=P
 w:=w
 K:=K
 mg:=mg
 base:=base
 A:=A.deeper (envL qual scope s.heap.objs.size q cd cl)
 N:=N
 s₀:=s
 H₀:=H
 env:=envL qual scope s.heap.objs.size q cd cl
 outer:=outer
 stack:=envL qual scope s.heap.objs.size q cd cl::outer
 ex:=[]
 calm:=true
 fn:=fun _=>false
 pn:=[]
 xe:=fun _ _=>False
structure Caps (N:List Str) (scope:Scope) (cl:List (Str×Addr)) (σ:L2.St) (H:Hp) (h:Heap):Prop where
 inj:∀x y c,cl.lookup x=some c->cl.lookup y=some c->x=y
 has:∀x,(scope.names.lookup x=some .cell\/scope.names.lookup x=some .free)->∃c,cl.lookup x=some c
 cel:∀x c,cl.lookup x=some c->(∃v,h.IsCell c v)/\H c=none
 len:σ.length=N.length
 val:∀(i:Nat) (x:Str) (v:V),N[i]?=some x->σ[i]?=some (some v)->Vis scope x->∃u c,RelV v u/\scope.names.lookup x=some .free/\cl.lookup x=some c/\h.IsCell c (some u)
theorem zdr {h h':Heap} {c:Addr} {v:Option Value} (x:h.IsCell c v) (k:∀b o,h.get? b=some o->h'.get? b=some o):h'.IsCell c v:=by
 obtain⟨o,ho,hd⟩:=x
 exact⟨o,k _ _ ho,hd⟩
section
variable {P:y0r} {w:World} {K:y00} {mg:Str->Option Value} {base:Heap} {k:Nat} {q c':Addr} {N:List Str} {qual:Str} {scope:Scope} {cd:Value} {cl:List (Str×Addr)} {A:Around} {outer:List Env} {s:y04} {H:Hp} {σ:L2.St}
theorem zmq {h1:Heap} {tk:Nat} {m:Str->Option Value} (hk:scope.kind=.function) (hd:A.handled=none) (e0:Env0 P w K mg base A outer s H) (C:Caps N scope cl σ H s.heap) (hns:h1.Ns s.heap.objs.size m) (kp:∀b o,s.heap.get? b=some o->h1.get? b=some o) :
  Inv (cxL P w K mg base N qual scope q cd cl A outer s H) [] σ H { s with heap:=h1,toks:=tk }:=by
 have noA:∀b:Addr,b∉(cxL P w K mg base N qual scope q cd cl A outer s H).ex:=fun b z=>absurd (show b∈([]:List Addr) from z) (by simp)
 refine⟨⟨e0.mod,hk,rfl,rfl,y0p _,C.inj,C.has,fun y c hf _=>(by cases hf),fun _=>hd,Around.frames_deeper e0.frames,.inr ⟨rfl,rfl⟩,fun b z=>absurd z (noA b),e0.bs,e0.bsz,fun b _ _=>noA b,fun b z=>absurd z (noA b),e0.funs,e0.frf⟩,
  rfl,e0.bare,Un.kept kp,⟨m,hns,fun i y v h1 h2 h3=>?_⟩,fun y c h=>?_,e0.hok.fresh (y0p _),fun y c h=>(C.cel y c h).2,fun p hp=>absurd (show p∈([]:List (Addr×Obj)) from hp) (by simp),e0.hok.kept kp,C.len⟩
 ·obtain⟨u,c,ru,hf,hc,hx⟩:=C.val i y v h1 h2 h3
  exact⟨u,ru,.inr ⟨.inr hf,c,hc,zdr hx kp⟩⟩
 ·obtain⟨⟨v,hv⟩,_⟩:=C.cel y c h
  exact⟨v,zdr hv kp⟩
theorem zoy {params:Arguments} {body:Expr} {pm ctv:Value} {f:Fx} {Q:VK} {E:XK} (hk:scope.kind=.function) (hco:scope.isCoroutine=false) (hgen:scope.isGenerator=false) (hnc:∀x∈scope.names,x.2≠.cell)
  (hb:∀(A:Around) (outer:List Env) (s:y04) (H:Hp),Room k (A.deeper (envL qual scope s.heap.objs.size q (.ref c') cl))->PEx (cxL P w K mg base N qual scope q (.ref c') cl A outer s H) body f)
  (bd:bindArgs (PySem.W.kla_fn "<lambda>" qual params body scope cl pm (.ref c') ctv) ⟨[],[]⟩=pure [])
  (hr:Room (k+1) A) (e0:Env0 P w K mg base A outer s H) (hq:H q=some (lamO (PySem.W.kla_obj "<lambda>" qual params body scope cl pm c' ctv) q)) (hc:H c'=some (codO c' qual)) (C:Caps N scope cl σ H s.heap)
  (h:tX K f σ H Q):codeAny (model P w) A (.call (.ref q) ⟨[],[]⟩) (CR CX0 outer P w H s Q E) s:=by
 have nolim:s.heap.NoLimit:=e0.mod.nolimit.keeps fun b o e=>(e0.bs b o e).1
 refine PySem.W.kla_callFunE hr.depth (e0.hok q _ hq).1 rfl hco hgen rfl (e0.hok c' _ hc).1 ?_
 rw[bd]
 refine y06 (wpAny_newFunctionEnv hnc (fun x hx=>by cases hx) (fun h₁ hns hsb=>⟨nolim.fresh _ hsb,?_⟩) hk)
 have kp:∀b o,s.heap.get? b=some o->h₁.get? b=some o:=fun b o e=>hsb.extBut b o (y10 (y0c e)) (y03 _ e)
 show codeAny _ _ (.expr body (envL qual scope s.heap.objs.size q (.ref c') cl)) _ _
 refine PySem.W.kla_codeExpr ?_
 have I:Inv (cxL P w K mg base N qual scope q (.ref c') cl A outer s H) [] σ H { s with heap:=h₁,toks:=s.toks+([]:List (Str×Value)).length }:=zmq hk hr.hd e0 C hns kp
 refine y1g (hb A outer s H (hr.deeper _) [] _ σ H (fun v H'=>Q v H') I h) (fun u s' hs=>?_) fun e s' hs=>(show False from hs).elim
 obtain⟨v,H',J,rv,qv⟩:=hs
 exact⟨v,H',J.os,J.bare,J.base,J.hok,rv,qv⟩
end
end
section
variable [Tbl]
theorem zrq {P:y0r} {w:World} {K:y00} {mg:Str->Option Value} {base:Heap} {k:Nat} {x qual:Str} {st:Stmt} {f:Addr} {fd:y0b} {N ps:List Str} {A:Around} {outer:List Env} {s:y04} {H:Hp} {us:List Value} {vs:List V} {Q:VK} {E:XK}
  (F:Fun K x qual st f fd) (S:FnScope N ps (z01 st)) (bd:z0p K fd ps []) (hr:Room (k+1) A) (e0:Env0 P w K mg base A outer s H) (r:Vals vs us) (hl:vs.length=ps.length)
  (hbody:∀cdv:Value,Room k (A.deeper (envOfC qual (z01 st) s.heap.objs.size f cdv))->∃t,PSs (cxOf CX0 P w K mg base N qual (z01 st) f cdv A outer s H E).nox (z06 st) t/\t { nx:=fun _ H'=>Q .non H',rt:=Q } (start N vs) H) :
  codeAny (model P w) A (.call (.ref f) ⟨us,[]⟩) (CR CX0 outer P w H s Q E) s:=by
 obtain⟨oc,od,kV,doc,pm,an,cdv,ct,osl,rfl,lk,hcd⟩:=F.ex
 have hul:us.length=ps.length:=by rw[<- r.length];exact hl
 have KX:K.In s.heap:=e0.mod.kin.keeps fun b o e=>(e0.bs b o e).1
 have lim:s.heap.NoLimit:=e0.mod.nolimit.keeps fun b o e=>(e0.bs b o e).1
 have hb:=bd s us KX (by rw[y26];exact hul)
 rw[y26] at hb
 have hkind:∀y∈ps.zip us,(z01 st).names.lookup y.1=some .local\/((z01 st).names.lookup y.1=some .cell/\((cellsFrom (s.heap.objs.size+1) (z01 st).names []).lookup y.1).isSome=true):=fun⟨n,v⟩ hy=>by
  rcases S.par n (List.of_mem_zip hy).1 with q|q
  ·exact .inl q
  ·exact .inr ⟨q,PySem.W.cellsFrom_some _ _ _ (.inl q)⟩
 refine codeAny_call_function hr.depth (KX _ _ lk) rfl S.co S.gen rfl (PySem.W.codeRec_of KX hcd) (hb _ _ _ _ ?_)
 refine wpAny_newFunctionEnv_cells S.kind hkind fun env he s1 x=>?_
 subst he
 refine⟨lim.keeps x.toInCall.keep,codeAny_func ?_⟩
 obtain⟨t,ht,hq⟩:=hbody cdv (hr.deeper _)
 have I:Inv (cxOf CX0 P w K mg base N qual (z01 st) f cdv A outer s H E) [] (start N vs) H s1:=zi4 S hr.hd e0 hl r x
 refine y1g (ht.nox [] s1 (start N vs) H _ I hq) (fun fl s' hs=>?_) fun e s' hs=>hs
 have fin:∀{σ':L2.St} {H':Hp} {v:V} {u:Value},Inv (cxOf CX0 P w K mg base N qual (z01 st) f cdv A outer s H E) [] σ' H' s'->RelV v u->Q v H'->CE outer P w H s Q u s' :=
  fun {σ' H' v u} J rv q=>⟨v,H',J.os,J.bare,J.base,J.hok,rv,q⟩
 cases fl with
 | ret u =>
  obtain⟨v,σ',H',J,rv,q⟩:=hs
  exact fin J rv q
 | next =>
  obtain⟨σ',H',J,q⟩:=hs
  exact fin (v:=V.non) (u:=Value.none) J rfl q
 | brk =>
  obtain⟨_,_,_,q⟩:=hs
  exact y24 q
 | cont =>
  obtain⟨_,_,_,q⟩:=hs
  exact y24 q
noncomputable def zvg (X:Cx) (i:Nat):TE:=fun σ H Q=>∃q,σ[i]?=some (some (.ref q))/\(∃(o:Obj) (fd:y0b),H q=some (lamO o q)/\o.data=.func fd) /\
 ∀(pins:List (Addr×Obj)) (s:y04),Inv X pins σ H s->codeAny (model X.prog X.w) X.A (.call (.ref q) ⟨[],[]⟩) (CR CX0 X.stack X.prog X.w H s Q E0) s
theorem zu4 {X:Cx} {i:Nat} {x:Str} {p pos:Pos} (hn:PE X (.Name x p) (tVar i)):PE X (.Call (.Name x p) [] [] pos) (zvg X i):=by
 intro pins s σ H Q I ⟨q,hq,⟨o,fd,ho,hfd⟩,hc⟩
 refine wpAny_Call_Name_kw (thn (hn pins s σ H (fun v H1=>v=.ref q/\H1=H) I ⟨.ref q,hq,rfl,rfl⟩) fun v s1 ⟨y,H1,I1,ry,ey,eh⟩=>?_)
 subst ey
 subst eh
 cases ry
 have fa:PySem.W.FnAt q s1.heap:=by
  have h1:s1.heap.get? q=some o:=(I1.hok q _ ho).1
  obtain⟨c,dct,dt,sl⟩:=o
  cases hfd
  exact⟨_,_,_,_,h1⟩
 refine PySem.W.callWith_F0 fa ?_
 refine wpAny_call (codeAny_mono (hc pins s1 I1) fun r s' hq=>?_)
 cases r with
 | error e=>exact y24 hq
 | ok fl =>
  cases fl with
  | ret u=>exact I1.after hq
  | next=>exact y24 hq
  | brk=>exact y24 hq
  | cont=>exact y24 hq
end
section
variable [Tbl]
theorem zw3 {X:Cx} {body:List Stmt} {h₀:ExceptHandler} {hs:List ExceptHandler} {pos:Pos} {t:TS} (hb:PSs X body t) (hx:X.xe=fun _ _=>False:=by rfl):PS X (.Try body (h₀::hs) [] [] pos) t:=by
 intro pins s σ H D I h
 refine wpAny_Try_except (y1g (hb pins s σ H D I h) (fun f s1 hs=>?_) fun e s1 he=>?_)
 ·cases f with
  | next=>exact wpAny_execs_nil hs
  | ret u=>exact hs
  | brk=>exact hs
  | cont=>exact hs
 ·rw[hx] at he
  exact he.elim
theorem zp8 {fs ex:List Addr} {H H':Hp} {h h':Heap} {c:Addr} {v:Option Value} (u:Un fs ex H H' h h') (x:h.IsCell c v) (hc:H c=none) (he:c∉ex):h'.IsCell c v:=by
 obtain⟨o,ho,hd⟩:=x
 by_cases hf:c∈fs
 ·obtain⟨sl,e⟩:=u.slot c o ho hc hf he
  exact⟨_,e,hd⟩
 ·exact⟨o,u.keep c o ho hc hf he,hd⟩
theorem zv2 {X:Cx} {pins:List (Addr×Obj)} {σ:L2.St} {H:Hp} {s:y04} {scope:Scope} (I:Inv X pins σ H s) (hnc:∀x∈scope.names,x.2≠.cell/\x.2≠.local) (hfr:∀x∈scope.names,x.2=.free->X.env.scope.names.lookup x.1=some .cell) :
  Caps X.N scope (clos X.env scope.names []) σ H s.heap:=by
 have hl:∀x∈scope.names,x.2=.free->∃c,X.env.cells.lookup x.1=some c:=fun x hx hf=>I.ok.has x.1 (.inl (hfr x hx hf))
 have fr:∀x c,(clos X.env scope.names []).lookup x=some c->X.env.cells.lookup x=some c:=z8r hl fun x c e=>by cases e
 refine⟨fun x y c h1 h2=>I.ok.inj x y c (fr x c h1) (fr y c h2),fun x h=>?_,fun x c h=>⟨I.cell x c (fr x c h),I.freeC x c (fr x c h)⟩,I.len,fun i x v h1 h2 h3=>?_⟩
 ·rcases h with h|h
  ·obtain⟨y,hy,e1,e2⟩:=z4s h
   exact absurd e1 (hnc y hy).1
  ·obtain⟨y,hy,e1,e2⟩:=z4s h
   exact z94 (.inl ⟨y,hy,e1,e2⟩)
 ·have hf:scope.names.lookup x=some .free:=by
   rcases h3 with h|h|h
   ·obtain⟨y,hy,e1,_⟩:=z4s h
    exact absurd e1 (hnc y hy).2
   ·obtain⟨y,hy,e1,_⟩:=z4s h
    exact absurd e1 (hnc y hy).1
   ·exact h
  obtain⟨y,hy,e1,e2⟩:=z4s hf
  have hk:X.env.scope.names.lookup x=some .cell:=by rw[<- e2];exact hfr y hy e1
  obtain⟨m,_,hv⟩:=I.loc
  obtain⟨u,ru,lk⟩:=hv i x v h1 h2 (.inr (.inl hk))
  obtain⟨c,hc⟩:=z94 (env:=X.env) (l:=scope.names) (cs:=[]) (x:=x) (.inl ⟨y,hy,e1,e2⟩)
  refine⟨u,c,ru,hf,hc,?_⟩
  rcases lk with ⟨hk2,_⟩|⟨_,c2,hc2,hx⟩
  ·have:X.env.scope.names.lookup x=some .local:=hk2
   rw[hk] at this
   cases this
  ·rw[fr x c hc] at hc2
   cases hc2
   exact hx
def zh3 (f:Fx):Fx:=fun ε=>(f ε).map fun r=>(.tuple [.str "told",r.1],r.2)
def ztd (Y:Cx):TS:=tSeq (tAsg (tTup (ztf (tC (.str "told")) (ztf (zvg Y 0) tNil))) (zur 1)) (tRet (tVar 1))
theorem zva {X:Cx} {k:Nat} {x:Str} {st:Stmt} {fa:Addr} {fd:y0b} {y0 y1:Str} {NT:List Str} {params:Arguments} {body:Expr} {scope:Scope} {lpos p pos:Pos} {c Pt:Addr} {f:Fx}
  (F:Fun X.K x x st fa fd) (S:FnScope (y0::y1::NT) [y0] (z01 st)) (bd:z0p X.K fd [y0] []) (hm:X.mg x=some (.ref fa))
  (ht:∀(cdv:Value) (A:Around) (outer:List Env) (s:y04) (H:Hp),PSs (cxOf CX0 X.prog X.w X.K X.mg X.base (y0::y1::NT) x (z01 st) fa cdv A outer s H E0).nox (z06 st) (ztd (cxOf CX0 X.prog X.w X.K X.mg X.base (y0::y1::NT) x (z01 st) fa cdv A outer s H E0).nox))
  (hcode:X.env.code=.ref c) (C:PySem.W.CodeHd X.base c Pt) (hbm:BM X.mg X.base) (tb:(Pt,X.env.qual++"<lambda>")∈Tbl.tb) (un:∀p∈Tbl.tb,p.1=Pt->p.2=X.env.qual++"<lambda>")
  (hk:scope.kind=.function) (hco:scope.isCoroutine=false) (hgen:scope.isGenerator=false) (hnc:∀x∈scope.names,x.2≠.cell/\x.2≠.local) (hfr:∀x∈scope.names,x.2=.free->X.env.scope.names.lookup x.1=some .cell)
  (bdl:∀(cl:List (Str×Addr)) (pm:Value) (c':Addr) (ctv:Value),bindArgs (PySem.W.kla_fn "<lambda>" (X.env.qual++"<lambda>") params body scope cl pm (.ref c') ctv) ⟨[],[]⟩=pure [])
  (hr:Room (k+2) X.A)
  (hb:∀(q c':Addr) (cl:List (Str×Addr)) (A:Around) (outer:List Env) (s:y04) (H:Hp),Room k (A.deeper (envL (X.env.qual++"<lambda>") scope s.heap.objs.size q (.ref c') cl))->PEx (cxL X.prog X.w X.K X.mg X.base X.N (X.env.qual++"<lambda>") scope q (.ref c') cl A outer s H) body f)
  (hg:Gl X x:=by rfl) (hdb:(x == ("__debug__":Str))=false:=by decide) (hdef:defaultsOf params X.env=([],[]):=by rfl)
  (he:y0a [.Lambda params body scope lpos] X.env=(false,eval (.Lambda params body scope lpos) X.env)::y0a [] X.env:=by rfl) :
  PEx X (.Call (.Name x p) [.Lambda params body scope lpos] [] pos) (zh3 f):=by
 intro pins s σ H Q I ⟨F₀,E,O,F',ε,t,ε',r,e,kk⟩
 simp only[zh3,y07] at e
 obtain⟨⟨t0,ε1⟩,ef,e⟩:=e
 cases e
 refine wpAny_Call_Name_kw (zgl I hg hm ?_ hdb)
 refine PySem.W.callWith_K (h₀:=X.base) I.ok.mod.kin F.kp ?_ he rfl
 rw[he]
 show y0v _ _ (spliced ((false,eval (.Lambda params body scope lpos) X.env)::[])) _ _ s
 have hl:∀x∈scope.names,x.2=.free->∃c,X.env.cells.lookup x.1=some c:=fun x hx hf=>I.ok.has x.1 (.inl (hfr x hx hf))
 refine Calls.spliced_cons (zrh I hcode C hbm hdef (zas hl) r.dom.tgs tb un fun q c' ctv H1 s1 I1 sm tb1 hqn hq hc=>Calls.spliced_nil ⟨I1.kIn,?_⟩)
 have x1:Ext F' H F' H1:=⟨sm,fun _ h=>h,fun _ h=>.inl h,⟨fun a ha=>by
  obtain⟨o,ho⟩:=r.dom.dm a ha
  exact sm.ne ho,tb1⟩⟩
 have fin:codeAny (model X.prog X.w) X.A (.call (.ref fa) ⟨[.ref q],[]⟩) (CR CX0 X.stack X.prog X.w H1 s1 Q E0) s1:=by
  refine zrq (k:=k+1) (vs:=[.ref q]) F S bd hr I1.env0 (.cons rfl .nil) rfl fun cdv hr2=>⟨_,ht cdv X.A X.stack s1 H1,?_⟩
  refine⟨q,rfl,⟨_,_,hq,rfl⟩,fun pins2 s2 I2=>?_⟩
  have caps:Caps X.N scope (clos X.env scope.names []) σ H1 s2.heap:=by
   have c1:=zv2 I1 hnc hfr
   have kp:∀{a:Addr} {v:Option Value},s1.heap.IsCell a v->H1 a=none->s2.heap.IsCell a v:=fun {a v} z n=>zp8 I2.base z n (by intro z;exact absurd (show a∈([]:List Addr) from z) (by simp))
   refine⟨c1.inj,c1.has,fun x c h=>?_,c1.len,fun i x v h1 h2 h3=>?_⟩
   ·obtain⟨⟨v,hv⟩,hn⟩:=c1.cel x c h
    exact⟨⟨v,kp hv hn⟩,hn⟩
   ·obtain⟨u,c,ru,hf,hc2,hx⟩:=c1.val i x v h1 h2 h3
    exact⟨u,c,ru,hf,hc2,kp hx (c1.cel x c hc2).2⟩
  refine zoy hk hco hgen (fun x hx=>(hnc x hx).1) (hb q c' _) (bdl _ _ _ _) hr2 I2.env0 hq hc caps ?_
  refine⟨F₀,E,O,F',ε,t0,ε1,r.ext x1,ef,fun v F2 H2 kp2 r2 rv=>?_⟩
  refine⟨by show 2<=y0k;decide,fun pp hp=>⟨.ref pp,rfl,?_⟩⟩
  have x3:=Ext.laid (o:=.tup [.str "told",v]) r2.dom hp
  refine kk _ F2 _ ((x1.kp.trans kp2).trans x3.kp) (r2.ext x3) ?_
  simp only[Rep]
  exact⟨pp,_,rfl,SqT.of z0c,RepL.cons (by simp[Rep]) (RepL.cons (rv.ext x3) RepL.nil)⟩
 refine wpAny_call (codeAny_mono fin fun r s' hq=>?_)
 cases r with
 | error e=>exact y24 hq
 | ok fl =>
  cases fl with
  | ret u=>exact I1.after hq
  | next=>exact y24 hq
  | brk=>exact y24 hq
  | cont=>exact y24 hq
end
section
def zs8 (ts:List Addr) (H:Hp):Prop:=(∀b,H b=none\/(∃o xs,H b=some (.frz o (.lst xs)))\/(b∈ts/\H b=some (.tbl #[])))/\∀b∈ts,H b=some (.tbl #[])
theorem zox {P:y0r} {w:World} {K:y00} {mg mb:Str->Option Value} {CX:CXT} {k:Nat} {fa a:Addr} {fd:y0b} {x:Str} {sp:Sp} {s₁:y04} {vs:List Value} {ns:List Int} {ts:List Addr}
  (KX:K.In s₁.heap) (hts:∀b∈ts,s₁.heap.get? b=some (PySem.W.tabObj #[])) (hK0:∀b∈ts,K.lookup b=none) (hcd:∀b∈ts,∃c,PySem.W.codeHdIn K c b=true)
  (hns:s₁.heap.Ns y0o mg) (hb:s₁.heap.Ns builtinsNs mb) (hbb:∀x:Str,x≠"__name__"->mb x=bootBuiltins x) (hlim:s₁.heap.NoLimit) (hg:s₁.gens=#[])
  (ha:s₁.heap.get? a=some { cls:=.type "list",data:=.seq vs.toArray }) (hi:IntsAre vs ns) (hl:ns.length<=y0k) (hr:Room k callerA)
  (hbm:BM mg s₁.heap) (F:∀base:Heap,K.In base->base.Ns y0o mg->BM mg base->FnOk P w K mg base CX k fa fd [x] sp) (hbind:∀(s:y04) (u:Value),BindsTo s fd ⟨[u],[]⟩ [(x,u)])
  (hsp:∀H:Hp,zs8 ts H->SqL K H a (ns.map V.int)->sp [.ref a] H (fun v _=>v=.bl true) fun _ _ _=>False)
  (hCX:∀H e s',CX [] H s₁ (fun _ _ _=>False) e s'->False) :
  codeAny (model P w) callerA (.call (.ref fa) ⟨[.ref a],[]⟩) (fun r s'=>r=.ok (.ret (.bool true))/\OldK s₁.heap s'.heap/\s'.os=s₁.os/\AllBare s'.gens) s₁:=by
 have rv:=zgz hi
 have lenV:=hi.length
 have nat:a∉ts:=fun z=>by
  have:=hts a z
  rw[ha] at this
  cases this
 have core:∀H:Hp,zs8 ts H->SqL K H a (ns.map V.int)->HOk P w H s₁.heap->(∀b,H b≠none->b=a\/b∈ts)->(H a≠none->K.lookup a=none) ->
   codeAny (model P w) callerA (.call (.ref fa) ⟨[.ref a],[]⟩) (fun r s'=>r=.ok (.ret (.bool true))/\OldK s₁.heap s'.heap/\s'.os=s₁.os/\AllBare s'.gens) s₁:=by
  intro H hO hS hok hA hK
  have base_of:∀{b:Addr} {o:Obj},s₁.heap.get? b=some o->H b=none->(hidT s₁.heap H).get? b=some o:=fun e n=>zro e n
  have noA:∀{b:Addr} {o:Obj} {es:Array DictEntry} {ep:Nat},s₁.heap.get? b=some o->o.data=.dict es ep->H b=none:=fun {b o es ep} e d=>by
   cases q:H b with
   | none=>rfl
   | some u =>
    rcases hA b (by rw[q];simp) with e'|e'
    ·subst e'
     rw[ha] at e;cases e
     have d':Data.seq vs.toArray _=Data.dict es ep:=d
     cases d'
    ·rw[hts b e'] at e;cases e
     have d':Data.fields _=Data.dict es ep:=d
     cases d'
  have nsK:∀{b:Addr} {m:Str->Option Value},s₁.heap.Ns b m->(hidT s₁.heap H).Ns b m:=fun {b m} ⟨o,es,ep,e,d,r⟩=>⟨o,es,ep,base_of e (noA e d),d,r⟩
  have hKb:K.In (hidT s₁.heap H):=fun b o e=>base_of (KX b o e) (by
   cases q:H b with
   | none=>rfl
   | some u =>
    rcases hA b (by rw[q];simp) with e'|e'
    ·subst e'
     rw[hK (by rw[q];simp)] at e;cases e
    ·rw[hK0 b e'] at e;cases e)
  have hbm':BM mg (hidT s₁.heap H):=by
   obtain⟨bm,ob,b1,b2,b3,b4,b5,b6⟩:=hbm
   refine⟨bm,ob,b1,b2,base_of b3 ?_,b4,b5,b6⟩
   cases q:H bm with
   | none=>rfl
   | some u =>
    rcases hA bm (by rw[q];simp) with e'|e'
    ·subst e'
     rw[ha] at b3
     cases b3
     cases b6
    ·rw[hts bm e'] at b3
     cases b3
     cases b6
  have hM:Mod K mg (hidT s₁.heap H):=⟨hKb,nsK hns,⟨mb,nsK hb,hbb⟩,let ⟨mc,h1,h2⟩:=hlim;⟨mc,nsK h1,h2⟩⟩
  have e0:Env0 P w K mg (hidT s₁.heap H) callerA [] s₁ H:=⟨rfl,hM,fun b o e=>zub e,Nat.le_of_eq (zpd _ _),trivial,fun b hb=>absurd (show b∈([]:List Addr) from hb) (by simp),hok,.of_eq hg⟩
  refine codeAny_mono ((F _ hKb (nsK hns) hbm').run callerA [] s₁ H ⟨[.ref a],[]⟩ [.ref a] [.ref a] _ _ hr e0 (hbind s₁ (.ref a)) (.cons rfl .nil) (hsp H hO hS)) fun r s' h=>?_
  cases r with
  | error e=>exact (hCX H e s' h).elim
  | ok fl =>
   cases fl with
   | next=>exact y24 h
   | brk=>exact y24 h
   | cont=>exact y24 h
   | ret u =>
    obtain⟨v,H',os,bare,un,hok',r',q⟩:=h
    have q':v=.bl true:=q
    subst q'
    obtain rfl:u=Value.bool true:=r'
    refine⟨rfl,⟨fun b o e=>?_,fun b o e=>un.there b o e (by simp)⟩,os,bare⟩
    cases q:H b with
    | none=>exact .inl (un.keep b o e q (by intro z;exact absurd (show b∈([]:List Addr) from z) (by simp)) (by simp))
    | some u =>
     rcases hO.1 b with z|⟨ob,xs,z⟩|⟨hbt,z⟩
     ·rw[q] at z;cases z
     ·have z2:=un.frzs b ob _ z
      obtain⟨e1,_⟩:=hok b _ z
      obtain⟨e2,_⟩:=hok' b _ z2
      rw[e] at e1;cases e1
      exact .inl e2
     ·obtain⟨more,z2⟩:=un.tbls b _ z
      have e2:s'.heap.get? b=some (PySem.W.tabObj (#[]++more)):=hok' b _ z2
      have e1:=hts b hbt
      rw[e] at e1
      cases e1
      obtain⟨c,hc⟩:=hcd b hbt
      exact .inr (.inl ⟨((PySem.W.codeHd_of_K KX hc).tab e).isCodeTable,rfl,#[],more,rfl,e2⟩)
 cases hk:K.lookup a with
 | some o =>
  have e:=KX a o hk
  rw[ha] at e
  cases e
  refine core (fun b=>if b∈ts then some (.tbl #[]) else none) ⟨fun b=>?_,fun b hb=>if_pos hb⟩ (.inr ⟨_,vs.toArray,_,hk,rfl,rfl,rfl,by rw[y0i,lenV];exact hl,by simpa using rv⟩) (fun b u z=>?_) (fun b z=>?_) fun z=>?_
  ·by_cases hb:b∈ts
   ·exact .inr (.inr ⟨hb,if_pos hb⟩)
   ·exact .inl (if_neg hb)
  ·by_cases hb:b∈ts
   ·have z':=(if_pos hb).symm.trans z
    cases z'
    exact hts b hb
   ·have z':=(if_neg hb).symm.trans z
    cases z'
  ·by_cases hb:b∈ts
   ·exact .inr hb
   ·exact absurd (if_neg hb) z
  ·exact absurd (if_neg nat) z
 | none =>
  refine core (fun b=>if b=a then some (.frz { cls:=.type "list",data:=.seq vs.toArray } (.lst (ns.map V.int))) else if b∈ts then some (.tbl #[]) else none) ⟨fun b=>?_,fun b hb=>?_⟩ (.inl (.inr ⟨{ cls:=.type "list",data:=.seq vs.toArray },if_pos rfl⟩)) (fun b u z=>?_) (fun b z=>?_) fun _=>hk
  ·by_cases hb:b=a
   ·exact .inr (.inl ⟨_,_,if_pos hb⟩)
   ·by_cases hb2:b∈ts
    ·exact .inr (.inr ⟨hb2,(if_neg hb).trans (if_pos hb2)⟩)
    ·exact .inl ((if_neg hb).trans (if_neg hb2))
  ·have ne:b≠a:=fun z=>nat (z▸hb)
   exact (if_neg ne).trans (if_pos hb)
  ·by_cases hb:b=a
   ·have z':=(if_pos hb).symm.trans z
    cases z'
    subst hb
    exact⟨ha,by rw[y16];exact hl,vs,_,rv,ha⟩
   ·by_cases hb2:b∈ts
    ·have z':=((if_neg hb).trans (if_pos hb2)).symm.trans z
     cases z'
     exact hts b hb2
    ·have z':=((if_neg hb).trans (if_neg hb2)).symm.trans z
     cases z'
  ·by_cases hb:b=a
   ·exact .inl hb
   ·by_cases hb2:b∈ts
    ·exact .inr hb2
    ·exact absurd ((if_neg hb).trans (if_neg hb2)) z
theorem zqc {l:PySem.W.OpenLaw} {n k:Nat} {q:y0r} {loose:List Str} {XP:(Str->Option Value)->Heap->Prop} {YP:World->Heap->Prop} {d:DefRec} {K:Params->y00} {CX:World->CXT} {sp:World->Sp} {x:Str} {ts:List Addr}
  (hn:l.most=some n) (hn2:n<=y0k) (hdf:d.params.defaults=[]) (hr:Room k callerA)
  (hY:∀(w:World) (h:Heap),YP w h->(K w.params).In h) (hT:∀(w:World) (h:Heap),YP w h->∀b∈ts,h.get? b=some (PySem.W.tabObj #[]))
  (hK0:∀(w:World),∀b∈ts,(K w.params).lookup b=none) (hcd:∀(w:World),∀b∈ts,∃c,PySem.W.codeHdIn (K w.params) c b=true)
  (F:∀(w:World) (mg:Str->Option Value) (fa:Addr) (h:Heap),(K w.params).In h->h.Ns y0o mg->mg d.name=some (.ref fa) ->
   ∃fd:y0b,(∀(s:y04) (u:Value),BindsTo s fd ⟨[u],[]⟩ [(x,u)]) /\
    ∀base:Heap,(K w.params).In base->base.Ns y0o mg->BM mg base->FnOk l.prog w (K w.params) mg base (CX w) k fa fd [x] (sp w))
  (hsp:∀(w:World) (H:Hp) (a:Addr) (ns:List Int),ns.length<=n->zs8 ts H->SqL (K w.params) H a (ns.map V.int)->sp w [.ref a] H (fun v _=>v=.bl true) fun _ _ _=>False)
  (hCX:∀(w:World) (H:Hp) (s:y04) (e:Value) (s':y04),CX w [] H s (fun _ _ _=>False) e s'->False) :
  PySem.W.WalkO q loose XP YP l.row.toRowW d [] (fun f vs=>PySem.call f vs):=by
 refine Att.attach_call hn hdf fun w s₀ s₁ mg mb fa o pm cd doc a vs ns G Y ho hd hcd' hmg hobj hints hlen hg=>?_
 have KX:=hY w _ Y
 obtain⟨fd,hb,hF⟩:=F w mg fa _ KX G.T.g hmg
 exact zox KX (hT w _ Y) (hK0 w) (hcd w) G.T.g G.T.b G.T.builtins G.T.nolimit hg hobj hints (y1u hlen hn2) hr G.T.bmain hF hb (fun H hO hS=>hsp w H a ns hlen hO hS) fun H e s'=>hCX w H s₁ e s'
theorem znp {t:Tbl} {K:y00} {H:Hp} {a:Addr} {ns:List Int} {d:List T->Option T} {ts:List Addr} (hts:∀p∈t.tb,p.1∈ts) (hO:zs8 ts H) (hL:noL K=true) (hd:d [z0l ns]=some (.bool true)) (hS:SqL K H a (ns.map V.int)):spT K 1 d [.ref a] H (fun v _=>v=.bl true) fun _ _ _=>False:=by
 rcases hS with hS|⟨o,its,n,hk,hc,_⟩
 ·refine⟨rfl,fun b=>b=a,[z0l ns],.bool true,⟨?_,fun p hp=>⟨#[],hO.2 p.1 (hts p hp),trivial,fun pos cv e=>by cases e⟩⟩,RepL.cons ?_ RepL.nil,hd,fun v F' H' x r=>by simpa [Rep] using r⟩
  ·rintro b rfl
   rcases hS with q|⟨u,q⟩
   ·exact⟨_,q⟩
   ·exact⟨_,q⟩
  ·simp only[z0l,Rep]
   exact⟨a,_,rfl,rfl,hS,zhf ns⟩
 ·have:=List.all_eq_true.mp hL _ (zdk hk)
  simp[hc] at this
end
section
variable [Tbl]
def zeh (f:Fe):Fx:=fun ε=>(f ε).map fun t=>(t,ε)
def op2X (o:T->T->Option T) (f g:Fx):Fx:=fun ε=>(f ε).bind fun r=>(g r.2).bind fun s=>(o r.1 s.1).map fun z=>(z,s.2)
abbrev Ftx:=Ev->Option (Bool×Ev)
def tstX (f:Fx):Ftx:=fun ε=>(f ε).bind fun r=>match r.1 with
 | .bool b=>some (b,r.2)
 | _=>none
def zr0 (f:Ft):Ftx:=fun ε=>(f ε).map fun b=>(b,ε)
def orX (f g:Ftx):Ftx:=fun ε=>(f ε).bind fun r=>if r.1 then some (true,r.2) else g r.2
def iffX (c:Ftx) (a b:Fs):Fs:=fun ε=>(c ε).bind fun r=>if r.1 then a r.2 else b r.2
def tTX (K:y00) (f:Ftx):TT:=fun σ H Q=>∃F₀ E O F ε b ε',RelE K F₀ E O F H ε σ/\f ε=some (b,ε')/\∀F' H',Kp K F H F' H'->RelE K F₀ E O F' H' ε' σ->Q b H'
abbrev PTx (X:Cx) (e:Expr) (f:Ftx):Prop:=PT X e (tTX X.K f)
abbrev PWx (X:Cx) (e:Expr) (f:Ftx):Prop:=PW X e (tTX X.K f)
section
variable {X:Cx} {a b e:Expr} {es:List Expr} {f g:Fx} {fe:Fe} {ft:Ft} {c d:Ftx} {pos:Pos}
theorem zni (h:PEv X e fe):PEx X e (zeh fe):=z17 h fun σ H Q ⟨F₀,E,O,F,ε,t,ε',r,e,k⟩=>by
 simp only[zeh,y07] at e
 obtain⟨t',et,e⟩:=e
 cases e
 exact⟨F₀,E,O,F,ε,t,r,et,fun v F' H' x rv=>k v F' H' x.kp (r.ext x) rv⟩
theorem zle {o:T->T->Option T} {R:R2} (h:Op2 X.K o R):∀σ H Q,tX X.K (op2X o f g) σ H Q->tOp R (tX X.K f) (tX X.K g) σ H Q:=by
 rintro σ H Q ⟨F₀,E,O,F,ε,t,ε',r,e,k⟩
 simp only[op2X,y01,y07] at e
 obtain⟨⟨x,ε1⟩,ex,⟨y,ε2⟩,ey,z,eo,e⟩:=e
 cases e
 refine⟨F₀,E,O,F,ε,x,ε1,r,ex,fun vx F1 H1 kp1 r1 rx=>⟨F₀,E,O,F1,ε1,y,ε2,r1,ey,fun vy F2 H2 kp2 r2 ry=>?_⟩⟩
 exact h O F2 H2 x y t vx vy Q r2.dom (.inl (rx.kp kp2)) (.inl ry) eo fun v F' H' x3 q3=>k v F' H' ((kp1.trans kp2).trans x3.kp) (r2.ext x3) q3
theorem ztc {op:CmpOp} {R:R2} {o:T->T->Option T} (ho:OpR X (compareOp op) R) (h2:Op2 X.K o R) (ha:PEx X a f) (hb:PEx X b g) (hm:behindInMarks op b=false:=by first|exact zor _|rfl):PTx X (.Compare a [op] [b] pos) (tstX (op2X o f g)) :=
 zc6 (zo9 ho ha hb hm) fun σ H Q ⟨F₀,E,O,F,ε,b,ε',r,e,k⟩=>by
 simp only[tstX,y01] at e
 obtain⟨⟨t,ε1⟩,et,e⟩:=e
 split at e
 next z hz =>
  cases e
  subst hz
  refine zle h2 σ H _ ⟨F₀,E,O,F,ε,_,_,r,et,fun v F' H' kp r' q=>?_⟩
  simp only[Rep] at q
  exact⟨_,q,k F' H' kp r'⟩
 next=>cases e
theorem zv9 (h:PTt X e ft):PTx X e (zr0 ft):=zc6 h fun σ H Q ⟨F₀,E,O,F,ε,b,ε',r,e,k⟩=>by
 simp only[zr0,y07] at e
 obtain⟨t',et,e⟩:=e
 cases e
 exact⟨F₀,E,O,F,ε,_,r,et,fun F' H' x=>k F' H' x.kp (r.ext x)⟩
theorem zx5 (h:PTx X e c):PWx X (.BoolOp .Or [e] pos) c:=zsn h
theorem y_or (h:PTx X a c) (h2:PWx X (.BoolOp .Or (b::es) pos) d):PWx X (.BoolOp .Or (a::b::es) pos) (orX c d):=zq7 (zvx h h2) fun σ H Q ⟨F₀,E,O,F,ε,b,ε',r,e,k⟩=>by
 simp only[orX,y01] at e
 obtain⟨⟨z,ε1⟩,ec,e⟩:=e
 refine⟨F₀,E,O,F,ε,z,ε1,r,ec,fun F1 H1 kp1 r1=>?_⟩
 cases z with
 | true =>
  simp only[if_true,Option.some.injEq,Prod.mk.injEq] at e
  obtain⟨e1,e2⟩:=e
  subst e1 e2
  exact iteT (k F1 H1 kp1 r1)
 | false=>exact iteF ⟨F₀,E,O,F1,ε1,b,ε',r1,by simpa using e,fun F2 H2 kp2 r2=>k F2 H2 (kp1.trans kp2) r2⟩
theorem y_t (h:PWx X e c):PTx X e c:=h.pt
theorem ztk {g1 g2:Fs} {rest els:List Stmt} (hc:PTx X e c) (ha:PBt X rest g1) (hb:PBt X els g2):PSt X (.If e rest els pos) (iffX c g1 g2):=z36 (zw4 hc ha hb) fun D σ H ⟨F₀,E,O,F,ε,o,r,e,k⟩=>by
 simp only[iffX,y01] at e
 obtain⟨⟨z,ε1⟩,ec,e⟩:=e
 refine⟨F₀,E,O,F,ε,z,ε1,r,ec,fun F1 H1 kp1 r1=>?_⟩
 cases z with
 | true=>exact iteT ⟨F₀,E,O,F1,ε1,o,r1,by simpa using e,k.kp kp1⟩
 | false=>exact iteF ⟨F₀,E,O,F1,ε1,o,r1,by simpa using e,k.kp kp1⟩
theorem zx6 (ha:PEx X a f) (hb:PEx X b g):PEx X (.BinOp a .Add b pos) (op2X oAdd f g) :=
 z17 (zjy (zsu.or (zf5.or (zld.or (zoj.or zok)))) ha hb) (zle (by
  intro O F H x y t vx vy Q d rx ry e k
  unfold oAdd at e
  split at e
  ·cases e
   rw[rx.int,ry.int]
   exact .inl ⟨_,_,rfl,rfl,k _ F H (Ext.refl d) (by simp[Rep])⟩
  ·split at e
   next hz =>
    cases e
    rw[rx.str,ry.str]
    exact .inr (.inl ⟨_,_,rfl,rfl,by rw[z9c];exact hz,k _ F H (Ext.refl d) (by simp[Rep])⟩)
   next=>cases e
  ·split at e
   next xs ys hz =>
    cases e
    obtain⟨ax,vs,rfl,hs,hr⟩:=rx.tup
    obtain⟨ay,ws,rfl,hs',hr'⟩:=ry.tup
    cases xs with
    | nil =>
     simp only[RepL] at hr
     subst hr
     refine .inr (.inr (.inl ⟨_,_,_,rfl,rfl,hs,hs',k _ F H (Ext.refl d) ?_⟩))
     simp only[Rep]
     exact⟨_,_,rfl,hs',by simpa using hr'⟩
    | cons x0 xr =>
     refine .inr (.inr (.inr (.inl ⟨_,_,_,_,rfl,rfl,hs,hs',?_,?_,fun e0=>?_,fun e0 p hp=>?_⟩)))
     ·intro z
      subst z
      have:=hr.length
      simp at this
     ·rw[z9c,<- hr.length,<- hr'.length]
      exact hz
     ·refine k _ F H (Ext.refl d) ?_
      subst e0
      have e1:ys=[]:=List.eq_nil_of_length_eq_zero (by rw[hr'.length];rfl)
      subst e1
      simp only[Rep]
      exact⟨_,_,rfl,hs,by simpa using hr⟩
     ·have x1:=Ext.laid (o:=.tup (vs++ws)) d hp
      refine k _ F _ x1 ?_
      simp only[Rep]
      exact⟨p,_,rfl,SqT.of z0c,(hr.append hr').ext x1⟩
   next=>cases e
  ·split at e
   next xs ys hz =>
    cases e
    obtain⟨ax,vs,rfl,hs,hr⟩:=rx.lst
    obtain⟨ay,ws,rfl,hs',hr'⟩:=ry.lst
    refine .inr (.inr (.inr (.inr ⟨_,_,_,_,rfl,rfl,hs,hs',by rw[z9c,<- hr.length,<- hr'.length];exact hz,fun p hp=>?_⟩)))
    have x1:=Ext.laidF (o:=.lst (vs++ws)) d hp
    refine k _ _ _ x1 ?_
    simp only[Rep]
    exact⟨p,_,rfl,.inr rfl,.inl z0c,(hr.append hr').ext x1⟩
   next=>cases e
  ·cases e))
end
end
section
variable [Tbl]
def parO (i j:Nat) (f g:Fo):Fs:=fun ε=>(f ε).bind fun s=>(g ε).map fun u=>.nx ((ε.set i (some s)).set j (some u))
section
variable {X:Cx} {a b:Expr} {f g:Fo} {pos:Pos}
theorem zvl {x y:Str} {px py:Pos} (i j:Nat) {kt k2:Nat} {pt pt2:Pos} (hN:X.N.Nodup) (ha:PEo X a f) (hb:PEo X b g) (hc:X.calm=true:=by rfl) (hi:X.N[i]?=some x:=by rfl) (hj:X.N[j]?=some y:=by rfl)
  (hx:Loc X.env.scope x:=by first|exact Or.inl rfl|exact Or.inr rfl) (hy:Loc X.env.scope y:=by first|exact Or.inl rfl|exact Or.inr rfl)
  (fx:X.fn x=true\/X.env.scope.names.lookup x=some .local:=by first|exact .inl rfl|exact .inr rfl) (fy:X.fn y=true\/X.env.scope.names.lookup y=some .local:=by first|exact .inl rfl|exact .inr rfl)
  (he1:y0a [a,b] X.env=(false,eval a X.env)::y0a [b] X.env:=by rfl) (he2:y0a [b] X.env=(false,eval b X.env)::y0a [] X.env:=by rfl)
  (hs:swapsWithSole [.Tuple [.Name x px,.Name y py] kt pt] (.Tuple [a,b] k2 pt2) pos.line X.env=pure false:=by rfl)
  (hw:swappedStores [.Tuple [.Name x px,.Name y py] kt pt] (.Tuple [a,b] k2 pt2) X.env=pure none:=by rfl)
  (h1:(assignEach [.Tuple [.Name x px,.Name y py] kt pt] X.env).map (·.2)=[assign (.Tuple [.Name x px,.Name y py] kt pt) X.env]:=by rfl) :
  PSt X (.Assign [.Tuple [.Name x px,.Name y py] kt pt] (.Tuple [a,b] k2 pt2) pos) (parO i j f g) :=
 z36 (zw6 (zof (z35 ha (z35 hb z6x he2) he1)) (zsp hc (zgb (zjx hN hi hx fx) (zgb (zjx hN hj hy fy) zoe))) hs hw h1) fun D σ H ⟨F₀,E,O,F,ε,o,r,e,k⟩=>by
 simp only[parO,y01,y07] at e
 obtain⟨s,es,u,eu,rfl⟩:=e
 refine⟨F₀,E,O,F,ε,s,r,es,fun a1 F1 H1 x1 rs1 hn1=>?_⟩
 refine⟨F₀,E,O,F1,ε,u,r.ext x1,eu,fun a2 F2 H2 x2 rs2 hn2=>?_⟩
 refine⟨by show 2<=y0k;decide,fun p hp=>?_⟩
 have r2:=(r.setNew i x1 rs1 hn1).setNew j x2 rs2 hn2
 have x3:=Ext.laid (o:=.tup [.ref a1,.ref a2]) x2.dom hp
 refine⟨p,_,rfl,SqT.of z0c,rfl,_,_,rfl,_,_,rfl,rfl,?_⟩
 exact k _ F2 _ ((x1.trans x2).trans x3).kp (r2.ext x3)
end
end
section
variable [Tbl]
theorem zuu {P:y0r} {w:World} {K:y00} {mg:Str->Option Value} {base:Heap} {x qual:Str} {st:Stmt} {f:Addr} {oc:Value} {od an:Option Addr} {osl:Array (Option Value)} {kV doc pm cdv ct:Value} {N ps:List Str} {k:Nat} {b:Fs}
  (l:K.lookup f=some ⟨oc,od,.func (y0j x qual (z09 st) (z06 st) (z01 st) .none kV doc pm an cdv ct),osl⟩) (hcd:y0g K cdv qual=true) (S:FnScope N ps (z01 st))
  (hb:∀(A:Around) (outer:List Env) (s:y04) (H:Hp) (E:XK),Room k (A.deeper (envOfC qual (z01 st) s.heap.objs.size f cdv)) ->
   PBt (cxOf CX0 P w K mg base N qual (z01 st) f cdv A outer s H E).nox (z06 st) b) :
  FnOk P w K mg base CX0 (k+1) f (y0j x qual (z09 st) (z06 st) (z01 st) .none kV doc pm an cdv ct) ps (spT K ps.length (runF b N.length)):=by
 refine zwx l hcd S (fun vs H Q E h=>h.1) fun A outer s H vs Q E hr h=>⟨_,(hb A outer s H E hr).nox,?_⟩
 obtain⟨hl,F,ts,t,dom,q,e,kq⟩:=h
 simp only[runF,y01] at e
 obtain⟨o,eo,e⟩:=e
 refine⟨F,⟨H,0⟩,fun a=>H a=none,F,_,o,?_,eo,?_⟩
 ·have:=zb9 (N:=N) dom q (N.length - ts.length)
  unfold L2.start
  rw[q.length] at this ⊢
  exact this
 ·cases o with
  | rt t' =>
   cases e
   exact fun v F' H' x q=>kq v F' H' x q
  | nx ε' =>
   cases e
   exact fun σ' F' H' _ r=>kq _ F' H' r.ent (by simp[Rep])
  | bk _=>cases e
  | ct _=>cases e
  | rtm _ _=>cases e
  | rto _=>cases e
theorem znh {X:Cx} {k:Nat} {x:Str} {st:Stmt} {fa:Addr} {fd:y0b} {y0 y1:Str} {NT:List Str} {params:Arguments} {body:Expr} {scope:Scope} {lpos p pos:Pos} {c Pt:Addr} {f:Fx}
  (F:Fun X.K x x st fa fd) (S:FnScope (y0::y1::NT) [y0] (z01 st)) (bd:z0p X.K fd [y0] []) (hm:X.mg x=some (.ref fa))
  (ht:∀(cdv:Value) (A:Around) (outer:List Env) (s:y04) (H:Hp),PSs (cxOf CX0 X.prog X.w X.K X.mg X.base (y0::y1::NT) x (z01 st) fa cdv A outer s H E0).nox (z06 st) (ztd (cxOf CX0 X.prog X.w X.K X.mg X.base (y0::y1::NT) x (z01 st) fa cdv A outer s H E0).nox))
  (hcode:X.env.code=.ref c) (hcd:PySem.W.codeHdIn X.K c Pt=true) (hbm:BM X.mg X.base) (htb:Tbl.tb=[(Pt,X.env.qual++"<lambda>")])
  (hr:Room (k+2) X.A)
  (hb:∀(q c':Addr) (cl:List (Str×Addr)) (A:Around) (outer:List Env) (s:y04) (H:Hp),Room k (A.deeper (envL (X.env.qual++"<lambda>") scope s.heap.objs.size q (.ref c') cl))->PEx (cxL X.prog X.w X.K X.mg X.base X.N (X.env.qual++"<lambda>") scope q (.ref c') cl A outer s H) body f)
  (hsc:(decide (scope.kind=.function) && !scope.isCoroutine && !scope.isGenerator && scope.names.all fun y=>decide (y.2≠.cell) && decide (y.2≠.local))=true:=by rfl)
  (hfr:(scope.names.all fun y=>decide (y.2≠.free) || decide (X.env.scope.names.lookup y.1=some .cell))=true:=by rfl)
  (bdl:∀(cl:List (Str×Addr)) (pm:Value) (c':Addr) (ctv:Value),bindArgs (PySem.W.kla_fn "<lambda>" (X.env.qual++"<lambda>") params body scope cl pm (.ref c') ctv) ⟨[],[]⟩=pure []:=by intros;rfl)
  (hg:Gl X x:=by rfl) (hdb:(x == ("__debug__":Str))=false:=by decide) (hdef:defaultsOf params X.env=([],[]):=by rfl)
  (he:y0a [.Lambda params body scope lpos] X.env=(false,eval (.Lambda params body scope lpos) X.env)::y0a [] X.env:=by rfl) :
  PEx X (.Call (.Name x p) [.Lambda params body scope lpos] [] pos) (zh3 f):=by
 simp only[y1e,Bool.not_eq_true',decide_eq_true_eq,List.all_eq_true] at hsc
 obtain⟨⟨⟨h1,h2⟩,h3⟩,h4⟩:=hsc
 simp only[List.all_eq_true,Bool.or_eq_true,decide_eq_true_eq] at hfr
 intro pins s σ H Q I h
 refine zva F S bd hm ht hcode (PySem.W.codeHd_of_K I.ok.mod.kin hcd) hbm (by rw[htb];exact y0f) (fun p hp _=>?_) h1 h2 h3 (fun y hy=>h4 y hy) (fun y hy hf=>?_) bdl hr hb hg hdb hdef he pins s σ H Q I h
 ·rw[htb] at hp
  have:p=(Pt,X.env.qual++"<lambda>"):=by simpa using hp
  rw[this]
 ·rcases hfr y hy with z|z
  ·exact absurd hf z
  ·exact z
end
section
abbrev tOf (tb:List (Addr×Str)):Tbl:=⟨tb,fun _=>[],fun _=>none⟩
theorem zuv {t:Tbl} {tb:List (Addr×Str)} (ht:t.tb=tb) {P:y0r} {w:World} {K:y00} {mg:Str->Option Value} {base:Heap} {k n:Nat} {f:Addr} {fd:y0b} {ps:List Str} {d:List T->Option T} (F:FnOk P w K mg base CX0 k f fd ps (@spT t K n d)):FnOk P w K mg base CX0 k f fd ps (@spT (tOf tb) K n d):=by
 subst ht
 have d1:∀{F:Addr->Prop} {H:Hp},@Dom (tOf t.tb) F H->@Dom t F H:=fun {F H} h=>@Dom.mk t F H (@Dom.dm (tOf t.tb) F H h) (@Dom.tgs (tOf t.tb) F H h)
 have d2:∀{F:Addr->Prop} {H:Hp},@Dom t F H->@Dom (tOf t.tb) F H:=fun {F H} h=>@Dom.mk (tOf t.tb) F H (@Dom.dm t F H h) (@Dom.tgs t F H h)
 refine F.imp fun vs H Q E h=>?_
 obtain⟨hl,F,ts,r,dom,q,e,kq⟩:=h
 exact⟨hl,F,ts,r,d1 dom,q,e,fun v F' H' x rv=>kq v F' H' (@Ext.mk (tOf t.tb) F H F' H' (@Ext.same t F H F' H' x) (@Ext.sub t F H F' H' x) (@Ext.new t F H F' H' x) (d2 (@Ext.dom t F H F' H' x))) rv⟩
end
end D
end
section
namespace Co
open D
def zj7:Fs :=
  (seq (for_ (z4d (op2 oIx (nm 0) (cst (.int 0)))) (gNm 2)
  (iff (tstB (op2 oEq (op2 oIx (nm 2) (cst (.int 0))) (nm 1))) (rtn (op2 oIx (nm 2) (cst (.int 1)))) skip))
  zhu)
def z4e:List T->Option T:=runF zj7 3
noncomputable def zq4:Fs :=
  (seq (asg 1 (opN z30 [(comp 1 [] (z4d (op2 oIx (nm 0) (cst (.int 0)))) (gNm 0) (cstT true) (cst (.str "shut")))]))
  (seq (asg 2 (opN z30 [(comp 1 [] (z4d (op2 oIx (nm 0) (cst (.int 1)))) (gNm 0) (cstT true) (cst (.int 0)))]))
  (rtn (z0g [(cst (.str "off")),(cst (.int 0)),(cst .none),(nmV 1),(z0g []),(cst (.int 0)),(z0g []),(cst (.int 0)),(cst (.int 0)),(nmV 2)]))))
def ze1:List T->Option T:=runF zq4 3
def zj8:Fs :=
  (seq (for_ (z4d (op2 oIx (nm 0) (cst (.int 1)))) (gNm 2)
  (iff (tstB (op2 oEq (op2 oIx (nm 2) (cst (.int 0))) (nm 1))) (rtn (nm 2)) skip))
  (rtn (cst .none)))
def z8n:List T->Option T:=runF zj8 3
def zfs:Fs :=
  (rtn (opN oMax [(op2 oSub (nm 0) (nm 1)),(cst (.int 0))]))
def z4u:List T->Option T:=runF zfs 2
noncomputable def z76:Fs :=
  (seq (asgF 0 0 0 (nmV 1))
  (seq (asgF 0 0 1 (op2 oIx (nm 2) (cst (.int 0))))
  (seq (asgF 0 0 2 (op2 oIx (nm 2) (cst (.int 1))))
  (seq (asgF 0 0 3 (op2 oIx (nm 2) (cst (.int 2))))
  (seq (znb 0 0 4 (comp 1 [] (z4d (op2 oIx (nm 1) (cst (.int 0)))) (gNm 0) (cstT true) (op2 oIx (nm 0) (cst (.int 0)))) (op2 oIx (nm 2) (cst (.int 3))))
  (seq (z8w 0 0 5 (op1 zf9 (op2 oIx (nm 2) (cst (.int 4)))))
  (seq (asgF 0 0 6 (op2 oIx (nm 2) (cst (.int 5))))
  (seq (z8w 0 0 7 (op1 zf9 (op2 oIx (nm 2) (cst (.int 6)))))
  (seq (asgF 0 0 8 (op2 oIx (nm 2) (cst (.int 7))))
  (seq (asgF 0 0 9 (op2 oIx (nm 2) (cst (.int 8))))
  (seq (znb 0 0 10 (comp 1 [] (z4d (op2 oIx (nm 1) (cst (.int 1)))) (gNm 0) (cstT true) (op2 oIx (nm 0) (cst (.int 0)))) (op2 oIx (nm 2) (cst (.int 9))))
  (seq (asgF 0 0 11 (cst (.int 0)))
  (z8w 0 0 12 (z5b []))))))))))))))
def z2r:List Sl->Option (T×List Sl):=runM 0 0 z76 3
noncomputable def z9w:Fs :=
  (seq (asg 1 (zpl 0 0 4))
  (seq (asg 2 (opN z30 [(fld 0 0 5)]))
  (seq (asg 3 (opN z30 [(fld 0 0 7)]))
  (seq (asg 4 (zpl 0 0 10))
  (rtn (z0g [(fldV 0 0 1),(fldV 0 0 2),(fldV 0 0 3),(nmV 1),(nmV 2),(fldV 0 0 6),(nmV 3),(fldV 0 0 8),(fldV 0 0 9),(nmV 4)]))))))
def z3o:List Sl->Option T:=runR z9w 5
def zax:Fs :=
  (appF 0 0 12 (z0g [(fldV 0 0 11),(nmV 1),(nmV 2)]))
def z07:List Sl->Option (T×List Sl):=runM 0 0 zax 3
def z7z:Fs :=
  (asgF 0 0 6 (op2 oIx (op2 oIx (fld 0 0 0) (cst (.int 2))) (cst (.int 2))))
def z1p:List Sl->Option (T×List Sl):=runM 0 0 z7z 1
noncomputable def z6u:Fs :=
  (seq (exX (z0t 0 z1p 0 []))
  (iff (tstB (op2 (oIn true) (nm 1) (fld 0 0 7))) (seq (appF 0 0 7 (nmV 1))
  (exX (z0t 0 z07 0 [(cst (.str "alarm")),(nmV 1)]))) skip))
def z0k:List Sl->Option (T×List Sl):=runM 0 0 z6u 2
noncomputable def z3r:Fs :=
  (seq (iff (orT (tstB (op2 oNe (nm 2) (cst (.str "way")))) (tstB (op2 oLe (op2 oIx (op2 oIx (fld 0 0 0) (cst (.int 2))) (cst (.int 1))) (cst (.int 0))))) (seq (exX (z0t 0 z0k 0 [(nmV 1)]))
  zg7) skip)
  (seq (asgF 0 0 1 (cst (.str "coming")))
  (seq (asgF 0 0 2 (op2 oIx (op2 oIx (fld 0 0 0) (cst (.int 2))) (cst (.int 1))))
  (seq (asgF 0 0 3 (nmV 1))
  (exX (z0t 0 z07 0 [(cst (.str "coming")),(nmV 1)]))))))
def z1o:List Sl->Option (T×List Sl):=runM 0 0 z3r 3
noncomputable def z7y:Fs :=
  (seq (asg 3 (opN z4e [(fldV 0 0 0),(nmV 1)]))
  (iff (tstB (op2 oEq (nm 3) (cst (.str "day")))) (exX (z0t 0 z0k 0 [(nmV 1)])) (iff (tstB (op2 oEq (fld 0 0 1) (cst (.str "off")))) (iff (tstB (op2 oEq (nm 2) (cst (.str "cut")))) (exX (z0t 0 z07 0 [(cst (.str "fault")),(nmV 1)])) skip) (iff (orT (tstB (op2 oEq (nm 2) (cst (.str "cut")))) (tstB (op2 oEq (nm 3) (cst (.str "once"))))) (exX (z0t 0 z0k 0 [(nmV 1)])) (iff (tstB (op2 oEq (fld 0 0 1) (cst (.str "on")))) (exX (z0t 0 z1o 0 [(nmV 1),(nmV 3)])) skip)))))
def z31:List Sl->Option (T×List Sl):=runM 0 0 z7y 4
noncomputable def zay:Fs :=
  (seq (asg 3 (fGet 0 0 4 (nm 1)))
  (seq (iff (tstB (op2 oEq (nm 2) (nm 3))) zg7 skip)
  (seq (zhj 0 0 4 (nm 1) (nmV 2))
  (iff (tstB (op2 oEq (nm 2) (cst (.str "shut")))) (iff (tstB (op2 oEq (nm 3) (cst (.str "cut")))) (exX (z0t 0 z07 0 [(cst (.str "mended")),(nmV 1)])) skip) (iff (tstB (op2 (oIn true) (nm 1) (fld 0 0 5))) (exX (z0t 0 z31 0 [(nmV 1),(nmV 2)])) skip)))))
def z4f:List Sl->Option (T×List Sl):=runM 0 0 zay 4
def z45:Fs :=
  (rtn (andV (op2 oNe (op2 oIx (nm 1) (cst (.int 3))) (cst (.int 0))) (op2 oGe (fGet 0 0 10 (op2 oIx (nm 1) (cst (.int 0)))) (op2 oIx (nm 1) (cst (.int 3))))))
def z1h:List Sl->Option T:=runR z45 2
noncomputable def z43:Fs :=
  (seq (exX (z0t 0 z07 0 [(cst (.str "wrong")),(cst .none)]))
  (seq (augF 0 0 8 (cst (.int 1)))
  (iff (tstB (op2 oGe (fld 0 0 8) (cst (.int 3)))) (seq (asgF 0 0 8 (cst (.int 0)))
  (seq (asgF 0 0 9 (cst (.int 90)))
  (seq (exX (z0t 0 z1p 0 []))
  (exX (z0t 0 z07 0 [(cst (.str "attack")),(cst .none)]))))) skip)))
def z1f:List Sl->Option (T×List Sl):=runM 0 0 z43 1
noncomputable def z0y:Fs :=
  (seq (iff (tstB (op2 oEq (nm 1) (cst (.str "unset")))) (rtn (cst (.bool false))) skip)
  (seq (iff (tstB (op2 oNe (fld 0 0 1) (cst (.str "off")))) (rtn (cst (.bool true))) skip)
  (seq (iff (tstB (op2 oEq (nm 1) (cst (.str "shunt")))) (rtn (orV (op2 oEq (opN z4e [(fldV 0 0 0),(nmV 2)]) (cst (.str "day"))) (op2 (oIn false) (nm 2) (fld 0 0 5)))) skip)
  (rtn (andV (op2 oEq (nm 1) (cst (.str "free"))) (op2 (oIn true) (nm 2) (fld 0 0 5)))))))
def z0h:List Sl->Option T:=runR z0y 3
noncomputable def z6b:Fs :=
  (seq (asg 2 (comp 1 [1] (z4d (op2 oIx (fld 0 0 0) (cst (.int 0)))) (gNm 0) (tstB (op2 (oIn false) (op2 oIx (nm 0) (cst (.int 1))) (nm 1))) (op2 oIx (nm 0) (cst (.int 0)))))
  (rtn (comp 1 [0] (z4d (nmV 2)) (gNm 0) (andT (tstB (op2 oNe (fGet 0 1 4 (nm 0)) (cst (.str "shut")))) (tstB (op2 (oIn true) (nm 0) (fld 0 1 5)))) (nmV 0))))
def z15:List Sl->Option T:=runR z6b 3
noncomputable def z49:Fs :=
  (seq (asg 4 (ifE (tstB (op2 oEq (nm 2) (cst (.str "free")))) (cst (.str "shunt")) (nmV 2)))
  (seq (iff (tstB (op2 (oIn true) (nm 4) (op2 oIx (nm 1) (cst (.int 2))))) (rtn (z0g [(cst (.str "denied")),(op2 oIx (nm 1) (cst (.int 1)))])) skip)
  (seq (iff (tstB (z2b 0 z0h 0 [(nmV 2),(nmV 3)])) (rtn (z0g [(cst (.str "no")),(op2 oIx (nm 1) (cst (.int 1)))])) skip)
  (seq (asg 5 (z2b 0 z15 0 [(cst (.tuple (z80 ["day","once"])))]))
  (seq (iff (andT (tstB (op2 oEq (nm 2) (cst (.str "set")))) (tstL (nm 5))) (rtn (z0g [(cst (.str "open")),(op2 oIx (nm 5) (cst (.int 0)))])) skip)
  (rtn (cst .none)))))))
def z16:List Sl->Option T:=runR z49 6
noncomputable def z5j:Fs :=
  (seq (asgF 0 0 1 (cst (.str "on")))
  (seq (asgF 0 0 2 (cst (.int 0)))
  (seq (exX (z0t 0 z07 0 [(cst (.str "on")),(cst .none)]))
  (for_ (z4d (z2b 0 z15 0 [(cst (.tuple (z80 ["inner","way"])))])) (gNm 1)
  (exX (z0t 0 z0k 0 [(nmV 1)]))))))
def z0x:List Sl->Option (T×List Sl):=runM 0 0 z5j 2
noncomputable def z69:Fs :=
  (seq (z8w 0 0 7 (z5b []))
  (seq (asgF 0 0 6 (cst (.int 0)))
  (seq (asgF 0 0 1 (cst (.str "leaving")))
  (seq (asgF 0 0 2 (op2 oIx (op2 oIx (fld 0 0 0) (cst (.int 2))) (cst (.int 0))))
  (seq (exX (z0t 0 z07 0 [(cst (.str "set")),(nmV 1)]))
  (iff (tstB (op2 oLe (fld 0 0 2) (cst (.int 0)))) (exX (z0t 0 z0x 0 [])) skip))))))
def z2q:List Sl->Option (T×List Sl):=runM 0 0 z69 2
noncomputable def z75:Fs :=
  (seq (asgF 0 0 1 (cst (.str "off")))
  (seq (asgF 0 0 2 (cst (.int 0)))
  (seq (asgF 0 0 6 (cst (.int 0)))
  (seq (asgF 0 0 3 (cst .none))
  (seq (z8w 0 0 5 (z5b []))
  (exX (z0t 0 z07 0 [(cst (.str "unset")),(nmV 1)])))))))
def z2p:List Sl->Option (T×List Sl):=runM 0 0 z75 2
noncomputable def z33:Fs :=
  (iff (tstB (op2 oEq (nm 2) (cst (.str "set")))) (exX (z0t 0 z2q 0 [(nmV 1)])) (iff (tstB (op2 oEq (nm 2) (cst (.str "unset")))) (exX (z0t 0 z2p 0 [(nmV 1)])) (iff (tstB (op2 oEq (nm 2) (cst (.str "shunt")))) (seq (z8w 0 0 5 (op1 zcg (op2 oAdd (fld 0 0 5) (z5b [(nmV 3)]))))
  (exX (z0t 0 z07 0 [(cst (.str "shunt")),(nmV 3)]))) (seq (rmF 0 0 5 (nmV 3))
  (exX (z0t 0 z07 0 [(cst (.str "free")),(nmV 3)]))))))
def z1b:List Sl->Option (T×List Sl):=runM 0 0 z33 4
noncomputable def z44:Fs :=
  (seq (asg 4 (z2b 0 z16 0 [(nmV 1),(nmV 2),(nmV 3)]))
  (iff (tstB (op1 oIsN (nm 4))) (seq (zj9 0 0 10 (op2 oIx (nm 1) (cst (.int 0))) (cst (.int 1)))
  (exX (z0t 0 z1b 0 [(op2 oIx (nm 1) (cst (.int 1))),(nmV 2),(nmV 3)]))) (exX (z0t 0 z07 0 [(op2 oIx (nm 4) (cst (.int 0))),(op2 oIx (nm 4) (cst (.int 1)))]))))
def z1g:List Sl->Option (T×List Sl):=runM 0 0 z44 5
noncomputable def z4i:Fs :=
  (seq (asg 4 (opN z8n [(fldV 0 0 0),(nmV 1)]))
  (iff (tstB (op2 oGt (fld 0 0 9) (cst (.int 0)))) (exX (z0t 0 z07 0 [(cst (.str "locked")),(cst .none)])) (iff (orT (tstB (op1 oIsN (nm 4))) (tstB (z2b 0 z1h 0 [(nmV 4)]))) (exX (z0t 0 z1f 0 [])) (seq (asgF 0 0 8 (cst (.int 0)))
  (exX (z0t 0 z1g 0 [(nmV 4),(nmV 2),(nmV 3)]))))))
def z2e:List Sl->Option (T×List Sl):=runM 0 0 z4i 5
noncomputable def z6a:Fs :=
  (seq (augF 0 0 11 (nmV 1))
  (seq (asgF 0 0 9 (opN z4u [(fldV 0 0 9),(nmV 1)]))
  (seq (asgF 0 0 6 (opN z4u [(fldV 0 0 6),(nmV 1)]))
  (asgF 0 0 2 (opN z4u [(fldV 0 0 2),(nmV 1)])))))
def z14:List Sl->Option (T×List Sl):=runM 0 0 z6a 2
def z68:Fs :=
  (seq (asg 1 (fldV 0 0 3))
  (seq (asgF 0 0 1 (cst (.str "on")))
  (seq (asgF 0 0 3 (cst .none))
  (exX (z0t 0 z0k 0 [(nmV 1)])))))
def z28:List Sl->Option (T×List Sl):=runM 0 0 z68 2
def z4z:Fs :=
  (iff (tstB (op2 oEq (fld 0 0 1) (cst (.str "leaving")))) (exX (z0t 0 z0x 0 [])) (exX (z0t 0 z28 0 [])))
def z1z:List Sl->Option (T×List Sl):=runM 0 0 z4z 1
noncomputable def z3q:Fs :=
  (seq (iff (tstB (op2 oLt (nm 1) (cst (.int 1)))) zg7 skip)
  (iff (andT (tstB (op2 (oIn false) (fld 0 0 1) (z0g [(cst (.str "leaving")),(cst (.str "coming"))]))) (tstB (op2 oLe (fld 0 0 2) (nm 1)))) (seq (asg 2 (op2 oSub (nm 1) (fld 0 0 2)))
  (seq (exX (z0t 0 z14 0 [(fldV 0 0 2)]))
  (seq (exX (z0t 0 z1z 0 []))
  (exX (z0t 0 z14 0 [(nmV 2)]))))) (exX (z0t 0 z14 0 [(nmV 1)]))))
def z1x:List Sl->Option (T×List Sl):=runM 0 0 z3q 3
noncomputable def z4h:Fs :=
  (iff (tstB (op2 oEq (op2 oIx (nm 1) (cst (.int 0))) (cst (.str "line")))) (exX (z0t 0 z4f 0 [(op2 oIx (nm 1) (cst (.int 1))),(op2 oIx (nm 1) (cst (.int 2)))])) (iff (tstB (op2 oEq (op2 oIx (nm 1) (cst (.int 0))) (cst (.str "code")))) (exX (z0t 0 z2e 0 [(op2 oIx (nm 1) (cst (.int 1))),(op2 oIx (nm 1) (cst (.int 2))),(op2 oIx (nm 1) (cst (.int 3)))])) (exX (z0t 0 z1x 0 [(op2 oIx (nm 1) (cst (.int 1)))]))))
def z1i:List Sl->Option (T×List Sl):=runM 0 0 z4h 2
def zaa:Fs :=
  (seq (asgO 3 (newO 0 z2r [(nmV 0),(nmV 1)]))
  (seq (for_ (z4d (nmV 2)) (gNm 4)
  (exX (z0t 0 z1i 3 [(nmV 4)])))
  (rtnO 3)))
def z2k:List T->Option Sl:=runO zaa 5
def zq3:Fs :=
  (rtn (opN z30 [(zbe 0 12 (zis z2k [(nmV 0),(nmV 1),(nmV 2)]))]))
def ze0:List T->Option T:=runF zq3 3
noncomputable def zkp:Fs :=
  (seq (asg 2 (comp 2 [] (zrk (z7g (op2 oIx (nm 0) (cst (.int 0)))) (z7g (op2 oIx (nm 1) (cst (.int 3))))) (gTu [(gNm 0),(gNm 1)]) (tstB (op2 oNe (nm 1) (cst (.str "shut")))) (op2 oIx (nm 0) (cst (.int 0)))))
  (rtn (z0g [(op2 oIx (nm 1) (cst (.int 0))),(op2 oGt (op2 oIx (nm 1) (cst (.int 5))) (cst (.int 0))),(opN z30 [(nm 2)])])))
def zbh:List T->Option T:=runF zkp 3
end Co
end
section
namespace Co
open D Co
def zt9:Fs :=
  (rtn (ofO 0 z3o (zis z2k [(nmV 0),(nmV 1),(z0g [(nmV 2)])]) []))
def zig:List T->Option T:=runF zt9 3
noncomputable def zq2:Fs :=
  (rtn (opN z30 [(comp 3 [] (z4d (zbe 0 12 (zis z2k [(nmV 0),(nmV 1),(z0g [(nmV 2)])]))) (gTu [(gNm 0),(gNm 1),(gNm 2)]) (cstT true) (z0g [(nmV 1),(nmV 2)]))]))
def zdz:List T->Option T:=runF zq2 3
def za9:Fs :=
  (seq (iff (tstB (op2 oLt (nm 1) (opN oLen [(nm 0)]))) (rtn (op2 oIx (nm 0) (nm 1))) skip)
  (rtn (cst (.int 0))))
def z3x:List T->Option T:=runF za9 2
noncomputable def zea:Fs :=
  (seq (asg 2 (op2 oMod (op2 oMul (op2 oAdd (op2 oAdd (opN z3x [(nmV 0),(nmV 1)]) (op2 oMul (cst (.int 7919)) (nm 1))) (cst (.int 1))) (cst (.int 48271))) (cst (.int 2147483647))))
  (rtn (op2 oMod (op2 oAdd (op2 oAdd (op2 oMul (nm 2) (nm 2)) (op2 oMul (cst (.int 7)) (nm 2))) (nm 1)) (cst (.int 2147483629)))))
def z3c:List T->Option T:=runF zea 3
noncomputable def zeb:Fs :=
  (seq (asg 2 (op2 oMod (op2 oMul (op2 oAdd (op2 oAdd (nm 0) (op2 oMul (cst (.int 104729)) (nm 1))) (cst (.int 17))) (cst (.int 69621))) (cst (.int 2147483647))))
  (rtn (op2 oMod (op2 oAdd (op2 oAdd (op2 oMul (nm 2) (nm 2)) (op2 oMul (cst (.int 3)) (nm 2))) (nm 1)) (cst (.int 2147483629)))))
def z27:List T->Option T:=runF zeb 3
noncomputable def zs6:Fs :=
  (seq (asg 1 (z0g []))
  (seq (for_ (z7w (z7g (z0g [(cst (.str "a")),(cst (.str "b")),(cst (.str "back")),(cst (.str "d")),(cst (.str "hall")),(cst (.str "r")),(cst (.str "win")),(cst (.str "z"))]))) (gTu [(gNm 2),(gNm 3)])
  (seq (asg 4 (op2 oDiv (opN z27 [(nmV 0),(nmV 2)]) (cst (.int 4))))
  (iff (orT (tstB (op2 oLt (op2 oMod (nm 4) (cst (.int 8))) (op2 oAdd (cst (.int 3)) (op2 oMod (nm 0) (cst (.int 5)))))) (tstB (op2 oEq (nm 2) (op2 oMod (op2 oDiv (nm 0) (cst (.int 8))) (cst (.int 8)))))) (asg 1 (op2 oAdd (nm 1) (z0g [(z0g [(nmV 3),(op2 oIx (z0g [(cst (.str "day")),(cst (.str "inner")),(cst (.str "once")),(cst (.str "way")),(cst (.str "way"))]) (op2 oMod (op2 oDiv (nm 4) (cst (.int 8))) (cst (.int 5))))])]))) skip)))
  (seq (asg 5 (z0g []))
  (seq (for_ (z7w (z7g (z0g [(cst (.str "0000")),(cst (.str "1234")),(cst (.str "4321")),(cst (.str "7777")),(cst (.str "9990")),(cst (.str "9999"))]))) (gTu [(gNm 2),(gNm 6)])
  (seq (asg 4 (op2 oDiv (opN z27 [(nmV 0),(op2 oAdd (cst (.int 10)) (nm 2))]) (cst (.int 4))))
  (iff (orT (tstB (op2 oGt (op2 oMod (nm 4) (cst (.int 3))) (cst (.int 0)))) (tstB (op2 oEq (nm 2) (cst (.int 1))))) (seq (asg 7 (opN z30 [(comp 1 [4] (z4k (cst (.int 3))) (gNm 0) (tstB (op2 oGt (op2 oMod (op2 oDiv (nm 1) (op2 oIx (z0g [(cst (.int 4)),(cst (.int 16)),(cst (.int 64))]) (nm 0))) (cst (.int 4))) (cst (.int 0)))) (op2 oIx (z0g [(cst (.str "set")),(cst (.str "shunt")),(cst (.str "unset"))]) (nm 0)))]))
  (seq (asg 8 (op2 oIx (z0g [(cst (.str "ann")),(cst (.str "bo")),(cst (.str "cy"))]) (op2 oMod (op2 oDiv (nm 4) (cst (.int 256))) (cst (.int 3)))))
  (asg 5 (op2 oAdd (nm 5) (z0g [(z0g [(nmV 6),(nmV 8),(nmV 7),(op2 oIx (z0g [(cst (.int 0)),(cst (.int 0)),(cst (.int 1)),(cst (.int 2)),(cst (.int 9))]) (op2 oMod (op2 oDiv (nm 4) (cst (.int 1024))) (cst (.int 5))))])]))))) skip)))
  (seq (asg 4 (op2 oDiv (opN z27 [(nmV 0),(cst (.int 20))]) (cst (.int 4))))
  (seq (asg 9 (z0g [(op2 oIx (z0g [(cst (.int 0)),(cst (.int 5)),(cst (.int 30)),(cst (.int 60))]) (op2 oMod (nm 4) (cst (.int 4)))),(op2 oIx (z0g [(cst (.int 0)),(cst (.int 4)),(cst (.int 20)),(cst (.int 60))]) (op2 oMod (op2 oDiv (nm 4) (cst (.int 4))) (cst (.int 4)))),(op2 oIx (z0g [(cst (.int 1)),(cst (.int 9)),(cst (.int 120)),(cst (.int 300))]) (op2 oMod (op2 oDiv (nm 4) (cst (.int 16))) (cst (.int 4))))]))
  (rtn (z0g [(nmV 1),(nmV 5),(nmV 9)]))))))))
def zcj:List T->Option T:=runF zs6 10
noncomputable def zj6:Fs :=
  (seq (asg 2 (op2 oIx (op2 oIx (op2 oIx (nm 0) (cst (.int 0))) (op2 oMod (op2 oDiv (nm 1) (cst (.int 8))) (opN oLen [(op2 oIx (nm 0) (cst (.int 0)))]))) (cst (.int 0))))
  (seq (asg 3 (op2 oMod (nm 1) (cst (.int 10))))
  (seq (iff (tstB (op2 oLt (nm 3) (cst (.int 5)))) (rtn (z0g [(cst (.str "line")),(nmV 2),(op2 oIx (z0g [(cst (.str "shut")),(cst (.str "open")),(cst (.str "open")),(cst (.str "cut"))]) (op2 oMod (op2 oDiv (nm 1) (cst (.int 512))) (cst (.int 4))))])) skip)
  (seq (iff (tstB (op2 oLt (nm 3) (cst (.int 7)))) (rtn (z0g [(cst (.str "ticks")),(op2 oAdd (cst (.int 1)) (op2 oMod (op2 oDiv (nm 1) (cst (.int 64))) (op2 oIx (z0g [(cst (.int 3)),(cst (.int 40)),(cst (.int 200))]) (op2 oMod (op2 oDiv (nm 1) (cst (.int 4096))) (cst (.int 3))))))])) skip)
  (seq (asg 4 (op2 oIx (op2 oIx (op2 oIx (nm 0) (cst (.int 1))) (op2 oMod (op2 oDiv (nm 1) (cst (.int 64))) (opN oLen [(op2 oIx (nm 0) (cst (.int 1)))]))) (cst (.int 0))))
  (seq (iff (tstB (op2 oEq (op2 oMod (op2 oDiv (nm 1) (cst (.int 65536))) (cst (.int 4))) (cst (.int 0)))) (asg 4 (op2 oIx (z0g [(cst (.str "0001")),(cst (.str "1111")),(cst (.str "9999")),(cst (.str "0000"))]) (op2 oMod (op2 oDiv (nm 1) (cst (.int 512))) (cst (.int 4))))) skip)
  (seq (asg 5 (op2 oIx (z0g [(cst (.str "set")),(cst (.str "set")),(cst (.str "unset")),(cst (.str "shunt")),(cst (.str "free")),(cst (.str "shunt"))]) (op2 oMod (op2 oDiv (nm 1) (cst (.int 4096))) (cst (.int 6)))))
  (seq (iff (tstB (op2 (oIn false) (nm 5) (z0g [(cst (.str "set")),(cst (.str "unset"))]))) (rtn (z0g [(cst (.str "code")),(nmV 4),(nmV 5),(cst .none)])) skip)
  (rtn (z0g [(cst (.str "code")),(nmV 4),(nmV 5),(nmV 2)]))))))))))
def z57:List T->Option T:=runF zj6 6
noncomputable def zgw:Fs :=
  (seq (asg 3 (opN z30 [(comp 1 [0,1] (z4k (op2 oMod (nm 1) (op2 oAdd (nm 2) (cst (.int 1))))) (gNm 0) (cstT true) (opN z57 [(nmV 1),(op2 oDiv (opN z27 [(nmV 2),(op2 oAdd (cst (.int 30)) (nm 0))]) (cst (.int 4)))]))]))
  (seq (iff (andT (tstB (op2 oEq (op2 oMod (op2 oDiv (nm 1) (cst (.int 64))) (cst (.int 5))) (cst (.int 0)))) (tstB (op2 oGt (opN oLen [(nm 3)]) (cst (.int 2))))) (asg 3 (op2 oAdd (slice (nm 3) optN (opt (op1 oNeg (cst (.int 3))))) (op2 oRep (z0g [(z0g [(cst (.str "code")),(cst (.str "5555")),(cst (.str "unset")),(cst .none)])]) (cst (.int 3))))) skip)
  (rtn (nm 3))))
def zbi:List T->Option T:=runF zgw 4
end Co
end
section
namespace Bo
open D Co
def z51:Fs :=
  (seq (asgF 1 0 0 (nmV 1))
  (seq (z8w 1 0 1 (z5b []))
  (z8w 1 0 2 (z5b [(opN ze1 [(nmV 1)])]))))
def z34:List Sl->Option (T×List Sl):=runM 1 0 z51 2
def z7q:Fs :=
  (rtn (op2 oIx (fld 1 0 2) (op1 oNeg (cst (.int 1)))))
def z0s:List Sl->Option T:=runR z7q 1
noncomputable def z6o:Fs :=
  (seq (asg 2 (opN zdz [(fldV 1 0 0),(z2b 1 z0s 0 []),(nmV 1)]))
  (seq (asg 3 (opN zig [(fldV 1 0 0),(z2b 1 z0s 0 []),(nmV 1)]))
  (seq (appF 1 0 1 (nmV 1))
  (seq (appF 1 0 2 (nmV 3))
  (rtnM (nmV 2))))))
def z1y:List Sl->Option (T×List Sl):=runM 1 0 z6o 4
def z4j:Fs :=
  (exE (opN z4e [(fldV 1 0 0),(nmV 1)]))
def z1j:List Sl->Option T:=runR z4j 2
def z99:Fs :=
  (seq (exE (z2b 1 z1j 0 [(nmV 1)]))
  (rtnX (z0t 1 z1y 0 [(z0g [(cst (.str "line")),(nmV 1),(nmV 2)])])))
def z70:List Sl->Option (T×List Sl):=runM 1 0 z99 3
noncomputable def z9a:Fs :=
  (seq (iff (orT (tstB (op1 z82 (nm 3))) (tstB (op2 (oIn false) (nm 2) (cst (.tuple (z80 ["shunt","free"])))))) (exE (z2b 1 z1j 0 [(nmV 3)])) skip)
  (rtnX (z0t 1 z1y 0 [(z0g [(cst (.str "code")),(nmV 1),(nmV 2),(nmV 3)])])))
def z71:List Sl->Option (T×List Sl):=runM 1 0 z9a 4
def z7p:Fs :=
  (rtnX (z0t 1 z1y 0 [(z0g [(cst (.str "ticks")),(nmV 1)])]))
def z2l:List Sl->Option (T×List Sl):=runM 1 0 z7p 2
def z7r:Fs :=
  (rtn (opN zbh [(fldV 1 0 0),(z2b 1 z0s 0 [])]))
def z4v:List Sl->Option T:=runR z7r 1
def zaz:Fs :=
  (rtn (opN z30 [(fld 1 0 1)]))
def z3p:List Sl->Option T:=runR zaz 1
def zb0:Fs :=
  (rtn (opN ze0 [(fldV 1 0 0),(op2 oIx (fld 1 0 2) (cst (.int 0))),(z2b 1 z3p 0 [])]))
def z2s:List Sl->Option T:=runR zb0 1
def z98:Fs :=
  (seq (iff (notT (tstL (fld 1 0 1))) zhu skip)
  (seq (popF 1 0 1)
  (popF 1 0 2)))
def z48:List Sl->Option (T×List Sl):=runM 1 0 z98 1
noncomputable def z97:Fs :=
  (seq (iff (tstB (op2 oEq (op2 oIx (nm 1) (cst (.int 0))) (cst (.str "line")))) (rtnX (z0t 1 z70 0 [(op2 oIx (nm 1) (cst (.int 1))),(op2 oIx (nm 1) (cst (.int 2)))])) skip)
  (seq (iff (tstB (op2 oEq (op2 oIx (nm 1) (cst (.int 0))) (cst (.str "code")))) (rtnX (z0t 1 z71 0 [(op2 oIx (nm 1) (cst (.int 1))),(op2 oIx (nm 1) (cst (.int 2))),(op2 oIx (nm 1) (cst (.int 3)))])) skip)
  (rtnX (z0t 1 z2l 0 [(op2 oIx (nm 1) (cst (.int 1)))]))))
def z3i:List Sl->Option (T×List Sl):=runM 1 0 z97 2
end Bo
end
section
namespace K43
open D Co Bo
noncomputable def zv5:Fs :=
  (seq (asg 1 (opN zcj [(opN z3c [(nmV 0),(cst (.int 0))])]))
  (seq (parO 2 3 (newO 1 z34 [(nmV 1)]) (newO 1 z34 [(nmV 1)]))
  (seq (for_ (z4d (opN zbi [(nmV 1),(opN z3c [(nmV 0),(cst (.int 1))]),(cst (.int 10))])) (gNm 4)
  (iffX (tstX (op2X oNe (zit 1 z3i [] 2 [(nmV 4)]) (zit 1 z3i [] 3 [(nmV 4)]))) (rtn (cst (.bool false))) skip))
  (seq (asg 5 (z2b 1 z0s 2 []))
  (seq (asg 6 (op2 oAdd (cst (.int 1)) (op2 oMod (opN z3c [(nmV 0),(cst (.int 2))]) (cst (.int 130)))))
  (seq (asgX 7 (z0t 1 z2l 2 [(nmV 6)]))
  (seq (asg 8 (z0g []))
  (seq (for_ (z4k (nm 6)) (gNm 9)
  (asgX 8 (op2X oAdd (zeh (nmV 8)) (z0t 1 z2l 3 [(cst (.int 1))]))))
  (seq (iff (orT (tstB (op2 oNe (nm 8) (nm 7))) (orT (tstB (op2 oNe (z2b 1 z0s 2 []) (z2b 1 z0s 3 []))) (orT (tstB (op2 oNe (z2b 1 z2s 2 []) (z2b 1 z2s 3 []))) (tstB (op2 oNe (z2b 1 z4v 2 []) (z2b 1 z4v 3 [])))))) (rtn (cst (.bool false))) skip)
  (seq (iffX (orX (tstX (op2X oNe (zh3 (z0t 1 z48 2 [])) (zeh (z0g [(cst (.str "told")),(cst .none)])))) (zr0 (tstB (op2 oNe (z2b 1 z0s 2 []) (nm 5))))) (rtn (cst (.bool false))) skip)
  (seq (for_ (z4k (nm 6)) (gNm 9)
  (iffX (tstX (op2X oNe (zh3 (z0t 1 z48 3 [])) (zeh (z0g [(cst (.str "told")),(cst .none)])))) (rtn (cst (.bool false))) skip))
  (rtn (andV (op2 oEq (z2b 1 z0s 3 []) (nm 5)) (andV (op2 oEq (z2b 1 z2s 3 []) (z2b 1 z2s 2 [])) (op2 oEq (z2b 1 z3p 3 []) (z2b 1 z3p 2 []))))))))))))))))
def zmy:List T->Option T:=runF zv5 10
end K43
end
section
namespace K43
open PySem PySem.Spec PyProof.Rows L2 D Co Bo
variable [Tbl]
def top (i:Nat):Stmt:=PySem.Challenge.pw_doorwatch_k43_whole_boxes_tick_by_tick.main.body.getD i (.Pass ⟨0,0,0,0⟩)
section
variable {P:y0r} {w:World} {K:y00} {mg:Str->Option Value} {base:Heap} {CCourse CBox:Addr}
abbrev z5v:Stmt:=top 8
theorem zex:FnScope ["plan","name","zone"] ["plan","name"] (z01 z5v):=⟨rfl,rfl,rfl,by decide +kernel,rfl,by decide +kernel,by decide +kernel⟩
theorem zn7 {K:y00} {f:Addr} {fd:y0b} (F:Fun K "kind_of" "kind_of" z5v f fd):z0p K fd ["plan","name"] []:=F.binds (ps:=["plan","name"]) fun _ _ _ _ _ _ us hl=>match us,hl with|[_,_],_=>rfl
theorem z65 {k:Nat} {f:Addr} {fd:y0b} (F:Fun K "kind_of" "kind_of" z5v f fd) (m:mg "kind_of"=some (.ref f)) :Cl P w K mg base "kind_of" (k+1) 2 z4e :=
 zat F zex (zn7 F) m fun cdv A outer s H E hr =>
  (z05 (zg5 y2e (zcb (q_ix (q_nm 0) (v2r z04))) (g_nm 2 zex.nd)
  (z0a (s_if (z1a (z1v (by exact hr.units)) z1w (v2r (q_ix (q_nm 2) (v2r z04))) (q_nm 1)) (z0a (z2y (q_ix (q_nm 2) (v2r z04)))) z3j)))
  (z0a znv))
abbrev z7a:Stmt:=top 9
theorem zg4:FnScope ["plan","lines","used"] ["plan"] (z01 z7a):=⟨rfl,rfl,rfl,by decide +kernel,rfl,by decide +kernel,by decide +kernel⟩
theorem zs5 {K:y00} {f:Addr} {fd:y0b} (F:Fun K "begun" "begun" z7a f fd):z0p K fd ["plan"] []:=F.binds (ps:=["plan"]) fun _ _ _ _ _ _ us hl=>match us,hl with|[_],_=>rfl
theorem zki {k:Nat} {f:Addr} {fd:y0b} (F:Fun K "begun" "begun" z7a f fd) (m:mg "begun"=some (.ref f)) (z_tuple:mg "tuple"=none):Cl P w K mg base "begun" (k+1) 1 ze1 :=
 zat F zg4 (zs5 F) m fun cdv A outer s H E hr =>
  (z05 (z2u 1 zg4.nd (z5z z_tuple (z3f (v2r (z8e (own:=["zone"]) (caps:=[]) (z8q (sc:=z01 z7a) ["plan","lines","used"] rfl rfl rfl (by decide +kernel)) (zcb (q_ix (q_nm 0) (v2r z04))) (fun _ _ _ _ _ _=>(g_nm 0 (show y1v (["zone"]:List Str) by decide +kernel))) (fun _ _ _ _ _ _=>zer) (fun _ _ _ _ _ _=>z0e))) z5k)))
  (z05 (z2u 2 zg4.nd (z5z z_tuple (z3f (v2r (z8e (own:=["code"]) (caps:=[]) (z8q (sc:=z01 z7a) ["plan","lines","used"] rfl rfl rfl (by decide +kernel)) (zcb (q_ix (q_nm 0) (v2r z04))) (fun _ _ _ _ _ _=>(g_nm 0 (show y1v (["code"]:List Str) by decide +kernel))) (fun _ _ _ _ _ _=>zer) (fun _ _ _ _ _ _=>z04))) z5k)))
  (z0a (z2y (z1t (z00 z0e (z00 z04 (z00 zba (z00 (z0b 1) (z00 (z1t z03) (z00 z04 (z00 (z1t z03) (z00 z04 (z00 z04 (z00 (z0b 2) z03)))))))))))))))
abbrev z5w:Stmt:=top 15
theorem zey:FnScope ["plan","figures","code"] ["plan","figures"] (z01 z5w):=⟨rfl,rfl,rfl,by decide +kernel,rfl,by decide +kernel,by decide +kernel⟩
theorem zn8 {K:y00} {f:Addr} {fd:y0b} (F:Fun K "code_of" "code_of" z5w f fd):z0p K fd ["plan","figures"] []:=F.binds (ps:=["plan","figures"]) fun _ _ _ _ _ _ us hl=>match us,hl with|[_,_],_=>rfl
theorem ze5 {k:Nat} {f:Addr} {fd:y0b} (F:Fun K "code_of" "code_of" z5w f fd) (m:mg "code_of"=some (.ref f)) :Cl P w K mg base "code_of" (k+1) 2 z8n :=
 zat F zey (zn8 F) m fun cdv A outer s H E hr =>
  (z05 (zg5 y2e (zcb (q_ix (q_nm 0) (v2r z04))) (g_nm 2 zey.nd)
  (z0a (s_if (z1a (z1v (by exact hr.units)) z1w (v2r (q_ix (q_nm 2) (v2r z04))) (q_nm 1)) (z0a (zsi 2)) z3j)))
  (z0a (z2y zba)))
abbrev z4l:Stmt:=top 16
theorem zjm:FnScope ["ticks","many"] ["ticks","many"] (z01 z4l):=⟨rfl,rfl,rfl,by decide +kernel,rfl,by decide +kernel,by decide +kernel⟩
theorem zkk {K:y00} {f:Addr} {fd:y0b} (F:Fun K "lessened" "lessened" z4l f fd):z0p K fd ["ticks","many"] []:=F.binds (ps:=["ticks","many"]) fun _ _ _ _ _ _ us hl=>match us,hl with|[_,_],_=>rfl
theorem z72 {k:Nat} {f:Addr} {fd:y0b} (F:Fun K "lessened" "lessened" z4l f fd) (m:mg "lessened"=some (.ref f)) (z_max:mg "max"=none):Cl P w K mg base "lessened" (k+1) 2 z4u :=
 zat F zjm (zkk F) m fun cdv A outer s H E hr =>
  (z0a (z2y (zxs z_max (z3f (v2r (zvs (q_nm 0) (q_nm 1))) (z3f (v2r z04) z5k)))))
abbrev z0u:Stmt:=z0r (top 17) 0
theorem zag:FnScope ["self","plan","state"] ["self","plan","state"] (z01 z0u):=⟨rfl,rfl,rfl,by decide +kernel,rfl,by decide +kernel,by decide +kernel⟩
theorem zaw {K:y00} {f:Addr} {fd:y0b} (F:Fun K "__init__" "Course.__init__" z0u f fd):z0p K fd ["self","plan","state"] []:=F.binds (ps:=["self","plan","state"]) fun _ _ _ _ _ _ us hl=>match us,hl with|[_,_,_],_=>rfl
theorem zbl {k:Nat} {f:Addr} {fd:y0b} (F:Fun K "__init__" "Course.__init__" z0u f fd) (me:Mk K CCourse f) (m:mg "Course"=some (.ref CCourse)) (kcCourse:ClOk K 0 CCourse ["plan","mode","left","came","lines","shunts","siren","alarms","tries","locked","used","past","told"]) (z_dict:mg "dict"=none) (z_list:mg "list"=none) (z_zip:mg "zip"=none):ClNew P w K mg base "Course" CCourse 0 (k+1) 3 z2r :=
 zsy F zag (zaw F) me m fun cdv A outer s H E hr =>
  (z05 (z2c (j:=0) kcCourse (pv 0) (z0b 1))
  (z05 (z2c (j:=1) kcCourse (pv 0) (q_ix (q_nm 2) (v2r z04)))
  (z05 (z2c (j:=2) kcCourse (pv 0) (q_ix (q_nm 2) (v2r z04)))
  (z05 (z2c (j:=3) kcCourse (pv 0) (q_ix (q_nm 2) (v2r z04)))
  (z05 (znw (j:=4) kcCourse rfl z_dict z_zip (pv 0) (v2r (z8e (own:=["zone"]) (caps:=[]) (z8q (sc:=z01 z0u) ["self","plan","state"] rfl rfl rfl (by decide +kernel)) (zcb (q_ix (q_nm 1) (v2r z04))) (fun _ _ _ _ _ _=>(g_nm 0 (show y1v (["zone"]:List Str) by decide +kernel))) (fun _ _ _ _ _ _=>zer) (fun _ _ _ _ _ _=>(q_ix (q_nm 0) (v2r z04))))) (v2r (q_ix (q_nm 2) (v2r z04))))
  (z05 (z8d (j:=5) kcCourse (pv 0) (zo5 z_list (v2r (q_ix (q_nm 2) (v2r z04)))))
  (z05 (z2c (j:=6) kcCourse (pv 0) (q_ix (q_nm 2) (v2r z04)))
  (z05 (z8d (j:=7) kcCourse (pv 0) (zo5 z_list (v2r (q_ix (q_nm 2) (v2r z04)))))
  (z05 (z2c (j:=8) kcCourse (pv 0) (q_ix (q_nm 2) (v2r z04)))
  (z05 (z2c (j:=9) kcCourse (pv 0) (q_ix (q_nm 2) (v2r z04)))
  (z05 (znw (j:=10) kcCourse rfl z_dict z_zip (pv 0) (v2r (z8e (own:=["code"]) (caps:=[]) (z8q (sc:=z01 z0u) ["self","plan","state"] rfl rfl rfl (by decide +kernel)) (zcb (q_ix (q_nm 1) (v2r z04))) (fun _ _ _ _ _ _=>(g_nm 0 (show y1v (["code"]:List Str) by decide +kernel))) (fun _ _ _ _ _ _=>zer) (fun _ _ _ _ _ _=>(q_ix (q_nm 0) (v2r z04))))) (v2r (q_ix (q_nm 2) (v2r z04))))
  (z05 (z2c (j:=11) kcCourse (pv 0) z04)
  (z0a (z8d (j:=12) kcCourse (pv 0) (zme z03)))))))))))))))
abbrev z2h:Stmt:=z0r (top 17) 1
theorem z37:FnScope ["self","lines","shunts","alarms","used"] ["self"] (z01 z2h):=⟨rfl,rfl,rfl,by decide +kernel,rfl,by decide +kernel,by decide +kernel⟩
theorem ze7 {K:y00} {f:Addr} {fd:y0b} (F:Fun K "state" "Course.state" z2h f fd):z0p K fd ["self"] []:=F.binds (ps:=["self"]) fun _ _ _ _ _ _ us hl=>match us,hl with|[_],_=>rfl
theorem z6s {k:Nat} {f:Addr} {fd:y0b} (F:Fun K "state" "Course.state" z2h f fd) (m:Meth K CCourse "state" f) (kcCourse:ClOk K 0 CCourse ["plan","mode","left","came","lines","shunts","siren","alarms","tries","locked","used","past","told"]) (z_tuple:mg "tuple"=none):MtRd P w K mg base CCourse "state" (k+1) 1 z3o :=
 z9s F z37 (ze7 F) m fun cdv A outer s H E hr =>
  (z05 (z2u 1 z37.nd (zo6 (j:=4) kcCourse rfl z_tuple (pv 0)))
  (z05 (z2u 2 z37.nd (z5z z_tuple (z3f (z4r (j:=5) kcCourse (pv 0)) z5k)))
  (z05 (z2u 3 z37.nd (z5z z_tuple (z3f (z4r (j:=7) kcCourse (pv 0)) z5k)))
  (z05 (z2u 4 z37.nd (zo6 (j:=10) kcCourse rfl z_tuple (pv 0)))
  (z0a (z2y (z1t (z00 (z46 (j:=1) kcCourse (pv 0)) (z00 (z46 (j:=2) kcCourse (pv 0)) (z00 (z46 (j:=3) kcCourse (pv 0)) (z00 (z0b 1) (z00 (z0b 2) (z00 (z46 (j:=6) kcCourse (pv 0)) (z00 (z0b 3) (z00 (z46 (j:=8) kcCourse (pv 0)) (z00 (z46 (j:=9) kcCourse (pv 0)) (z00 (z0b 4) z03)))))))))))))))))
abbrev z2v:Stmt:=z0r (top 17) 3
theorem zeg:FnScope ["self","word","name"] ["self","word","name"] (z01 z2v):=⟨rfl,rfl,rfl,by decide +kernel,rfl,by decide +kernel,by decide +kernel⟩
theorem zeo {K:y00} {f:Addr} {fd:y0b} (F:Fun K "tell" "Course.tell" z2v f fd):z0p K fd ["self","word","name"] []:=F.binds (ps:=["self","word","name"]) fun _ _ _ _ _ _ us hl=>match us,hl with|[_,_,_],_=>rfl
theorem z08 {k:Nat} {f:Addr} {fd:y0b} (F:Fun K "tell" "Course.tell" z2v f fd) (m:Meth K CCourse "tell" f) (kcCourse:ClOk K 0 CCourse ["plan","mode","left","came","lines","shunts","siren","alarms","tries","locked","used","past","told"]):MtMd P w K mg base CCourse 0 "tell" (k+1) 3 z07 :=
 z3b F zeg (zeo F) m fun cdv A outer s H E hr =>
  (z0a (zl5 (j:=12) kcCourse (pv 0) (z1t (z00 (z46 (j:=11) kcCourse (pv 0)) (z00 (z0b 1) (z00 (z0b 2) z03))))))
abbrev z1n:Stmt:=z0r (top 17) 4
theorem zb7:FnScope ["self"] ["self"] (z01 z1n):=⟨rfl,rfl,rfl,by decide +kernel,rfl,by decide +kernel,by decide +kernel⟩
theorem zbs {K:y00} {f:Addr} {fd:y0b} (F:Fun K "be_loud" "Course.be_loud" z1n f fd):z0p K fd ["self"] []:=F.binds (ps:=["self"]) fun _ _ _ _ _ _ us hl=>match us,hl with|[_],_=>rfl
theorem z32 {k:Nat} {f:Addr} {fd:y0b} (F:Fun K "be_loud" "Course.be_loud" z1n f fd) (m:Meth K CCourse "be_loud" f) (kcCourse:ClOk K 0 CCourse ["plan","mode","left","came","lines","shunts","siren","alarms","tries","locked","used","past","told"]):MtMd P w K mg base CCourse 0 "be_loud" (k+1) 1 z1p :=
 z3b F zb7 (zbs F) m fun cdv A outer s H E hr =>
  (z0a (z2c (j:=6) kcCourse (pv 0) (q_ix (v2r (q_ix (z4r (j:=0) kcCourse (pv 0)) (v2r z04))) (v2r z04))))
abbrev z2i:Stmt:=z0r (top 17) 5
theorem zcw:FnScope ["self","zone"] ["self","zone"] (z01 z2i):=⟨rfl,rfl,rfl,by decide +kernel,rfl,by decide +kernel,by decide +kernel⟩
theorem ze8 {K:y00} {f:Addr} {fd:y0b} (F:Fun K "alarm" "Course.alarm" z2i f fd):z0p K fd ["self","zone"] []:=F.binds (ps:=["self","zone"]) fun _ _ _ _ _ _ us hl=>match us,hl with|[_,_],_=>rfl
theorem z18 {k:Nat} {f:Addr} {fd:y0b} (F:Fun K "alarm" "Course.alarm" z2i f fd) (m:Meth K CCourse "alarm" f) (kcCourse:ClOk K 0 CCourse ["plan","mode","left","came","lines","shunts","siren","alarms","tries","locked","used","past","told"]) (z32:MtMd P w K mg base CCourse 0 "be_loud" k 1 z1p) (z08:MtMd P w K mg base CCourse 0 "tell" k 3 z07):MtMd P w K mg base CCourse 0 "alarm" (k+1) 2 z0k :=
 z3b F zcw (ze8 F) m fun cdv A outer s H E hr =>
  (z05 (z2z (z5l kcCourse z32 hr (pv 0)))
  (z0a (s_if (z1a (z8f (by exact hr.units)) z9r (q_nm 1) (z4r (j:=7) kcCourse (pv 0))) (z05 (zl5 (j:=7) kcCourse (pv 0) (z0b 1))
  (z0a (z2z (z0n kcCourse z08 hr (pv 0) (z00 z0e (z00 (z0b 1) z03)))))) z3j)))
abbrev z1m:Stmt:=z0r (top 17) 9
theorem zb6:FnScope ["self","zone","kind"] ["self","zone","kind"] (z01 z1m):=⟨rfl,rfl,rfl,by decide +kernel,rfl,by decide +kernel,by decide +kernel⟩
theorem zbr {K:y00} {f:Addr} {fd:y0b} (F:Fun K "come_in" "Course.come_in" z1m f fd):z0p K fd ["self","zone","kind"] []:=F.binds (ps:=["self","zone","kind"]) fun _ _ _ _ _ _ us hl=>match us,hl with|[_,_,_],_=>rfl
theorem z5f {k:Nat} {f:Addr} {fd:y0b} (F:Fun K "come_in" "Course.come_in" z1m f fd) (m:Meth K CCourse "come_in" f) (kcCourse:ClOk K 0 CCourse ["plan","mode","left","came","lines","shunts","siren","alarms","tries","locked","used","past","told"]) (z08:MtMd P w K mg base CCourse 0 "tell" k 3 z07) (z18:MtMd P w K mg base CCourse 0 "alarm" k 2 z0k):MtMd P w K mg base CCourse 0 "come_in" (k+1) 3 z1o :=
 z3b F zb6 (zbr F) m fun cdv A outer s H E hr =>
  (z05 (s_if (w_t (w_or (z1a (z6i (by exact hr.units)) z6j (q_nm 2) (v2r z0e)) (zjg (z1a (zu9.or zd3) zol (v2r (q_ix (v2r (q_ix (z4r (j:=0) kcCourse (pv 0)) (v2r z04))) (v2r z04))) (v2r z04))))) (z05 (z2z (z0n kcCourse z18 hr (pv 0) (z00 (z0b 1) z03)))
  (z0a zjr)) z3j)
  (z05 (z2c (j:=1) kcCourse (pv 0) z0e)
  (z05 (z2c (j:=2) kcCourse (pv 0) (q_ix (v2r (q_ix (z4r (j:=0) kcCourse (pv 0)) (v2r z04))) (v2r z04)))
  (z05 (z2c (j:=3) kcCourse (pv 0) (z0b 1))
  (z0a (z2z (z0n kcCourse z08 hr (pv 0) (z00 z0e (z00 (z0b 1) z03)))))))))
abbrev z1l:Stmt:=z0r (top 17) 8
theorem z6v:FnScope ["self","zone","what","kind"] ["self","zone","what"] (z01 z1l):=⟨rfl,rfl,rfl,by decide +kernel,rfl,by decide +kernel,by decide +kernel⟩
theorem zbq {K:y00} {f:Addr} {fd:y0b} (F:Fun K "disturb" "Course.disturb" z1l f fd):z0p K fd ["self","zone","what"] []:=F.binds (ps:=["self","zone","what"]) fun _ _ _ _ _ _ us hl=>match us,hl with|[_,_,_],_=>rfl
theorem z5e {k:Nat} {f:Addr} {fd:y0b} (F:Fun K "disturb" "Course.disturb" z1l f fd) (m:Meth K CCourse "disturb" f) (kcCourse:ClOk K 0 CCourse ["plan","mode","left","came","lines","shunts","siren","alarms","tries","locked","used","past","told"]) (z65:Cl P w K mg base "kind_of" k 2 z4e) (z18:MtMd P w K mg base CCourse 0 "alarm" k 2 z0k) (z08:MtMd P w K mg base CCourse 0 "tell" k 3 z07) (z5f:MtMd P w K mg base CCourse 0 "come_in" k 3 z1o):MtMd P w K mg base CCourse 0 "disturb" (k+1) 3 z31 :=
 z3b F z6v (zbq F) m fun cdv A outer s H E hr =>
  (z05 (z2u 3 z6v.nd (z24 z65 hr (z00 (z46 (j:=0) kcCourse (pv 0)) (z00 (z0b 1) z03))))
  (z0a (s_if (z1a (z1v (by exact hr.units)) z1w (q_nm 3) (v2r z0e)) (z0a (z2z (z0n kcCourse z18 hr (pv 0) (z00 (z0b 1) z03)))) (z0a (s_if (z1a (z1v (by exact hr.units)) z1w (z4r (j:=1) kcCourse (pv 0)) (v2r z0e)) (z0a (s_if (z1a (z1v (by exact hr.units)) z1w (q_nm 2) (v2r z0e)) (z0a (z2z (z0n kcCourse z08 hr (pv 0) (z00 z0e (z00 (z0b 1) z03))))) z3j)) (z0a (s_if (w_t (w_or (z1a (z1v (by exact hr.units)) z1w (q_nm 2) (v2r z0e)) (zjg (z1a (z1v (by exact hr.units)) z1w (q_nm 3) (v2r z0e))))) (z0a (z2z (z0n kcCourse z18 hr (pv 0) (z00 (z0b 1) z03)))) (z0a (s_if (z1a (z1v (by exact hr.units)) z1w (z4r (j:=1) kcCourse (pv 0)) (v2r z0e)) (z0a (z2z (z0n kcCourse z5f hr (pv 0) (z00 (z0b 1) (z00 (z0b 3) z03))))) z3j)))))))))
abbrev z2w:Stmt:=z0r (top 17) 7
theorem z9o:FnScope ["self","zone","what","before"] ["self","zone","what"] (z01 z2w):=⟨rfl,rfl,rfl,by decide +kernel,rfl,by decide +kernel,by decide +kernel⟩
theorem zep {K:y00} {f:Addr} {fd:y0b} (F:Fun K "line" "Course.line" z2w f fd):z0p K fd ["self","zone","what"] []:=F.binds (ps:=["self","zone","what"]) fun _ _ _ _ _ _ us hl=>match us,hl with|[_,_,_],_=>rfl
theorem z7m {k:Nat} {f:Addr} {fd:y0b} (F:Fun K "line" "Course.line" z2w f fd) (m:Meth K CCourse "line" f) (kcCourse:ClOk K 0 CCourse ["plan","mode","left","came","lines","shunts","siren","alarms","tries","locked","used","past","told"]) (z08:MtMd P w K mg base CCourse 0 "tell" k 3 z07) (z5e:MtMd P w K mg base CCourse 0 "disturb" k 3 z31):MtMd P w K mg base CCourse 0 "line" (k+1) 3 z4f :=
 z3b F z9o (zep F) m fun cdv A outer s H E hr =>
  (z05 (z2u 3 z9o.nd (zo7 (j:=4) kcCourse (zpc hr) (pv 0) (q_nm 1)))
  (z05 (s_if (z1a (z1v (by exact hr.units)) z1w (q_nm 2) (q_nm 3)) (z0a zjr) z3j)
  (z05 (zvk (j:=4) kcCourse (zpc hr) (pv 0) (q_nm 1) (z0b 2))
  (z0a (s_if (z1a (z1v (by exact hr.units)) z1w (q_nm 2) (v2r z0e)) (z0a (s_if (z1a (z1v (by exact hr.units)) z1w (q_nm 3) (v2r z0e)) (z0a (z2z (z0n kcCourse z08 hr (pv 0) (z00 z0e (z00 (z0b 1) z03))))) z3j)) (z0a (s_if (z1a (z8f (by exact hr.units)) z9r (q_nm 1) (z4r (j:=5) kcCourse (pv 0))) (z0a (z2z (z0n kcCourse z5e hr (pv 0) (z00 (z0b 1) (z00 (z0b 2) z03))))) z3j)))))))
abbrev z11:Stmt:=z0r (top 17) 16
theorem z9e:FnScope ["self","code"] ["self","code"] (z01 z11):=⟨rfl,rfl,rfl,by decide +kernel,rfl,by decide +kernel,by decide +kernel⟩
theorem z9k {K:y00} {f:Addr} {fd:y0b} (F:Fun K "is_used_up" "Course.is_used_up" z11 f fd):z0p K fd ["self","code"] []:=F.binds (ps:=["self","code"]) fun _ _ _ _ _ _ us hl=>match us,hl with|[_,_],_=>rfl
theorem z41 {k:Nat} {f:Addr} {fd:y0b} (F:Fun K "is_used_up" "Course.is_used_up" z11 f fd) (m:Meth K CCourse "is_used_up" f) (kcCourse:ClOk K 0 CCourse ["plan","mode","left","came","lines","shunts","siren","alarms","tries","locked","used","past","told"]):MtRd P w K mg base CCourse "is_used_up" (k+1) 2 z1h :=
 z9s F z9e (z9k F) m fun cdv A outer s H E hr =>
  (z0a (z2y (zqz (zd0 (z6i (by exact hr.units)) z6j (v2r (q_ix (q_nm 1) (v2r z04))) (v2r z04)) (zo8 (zd0 (zwi.or zhn) zsv (v2r (zo7 (j:=10) kcCourse (zpc hr) (pv 0) (v2r (q_ix (q_nm 1) (v2r z04))))) (v2r (q_ix (q_nm 1) (v2r z04))))))))
abbrev z0z:Stmt:=z0r (top 17) 17
theorem z9d:FnScope ["self"] ["self"] (z01 z0z):=⟨rfl,rfl,rfl,by decide +kernel,rfl,by decide +kernel,by decide +kernel⟩
theorem z9i {K:y00} {f:Addr} {fd:y0b} (F:Fun K "take_wrong" "Course.take_wrong" z0z f fd):z0p K fd ["self"] []:=F.binds (ps:=["self"]) fun _ _ _ _ _ _ us hl=>match us,hl with|[_],_=>rfl
theorem z3z {k:Nat} {f:Addr} {fd:y0b} (F:Fun K "take_wrong" "Course.take_wrong" z0z f fd) (m:Meth K CCourse "take_wrong" f) (kcCourse:ClOk K 0 CCourse ["plan","mode","left","came","lines","shunts","siren","alarms","tries","locked","used","past","told"]) (z08:MtMd P w K mg base CCourse 0 "tell" k 3 z07) (z32:MtMd P w K mg base CCourse 0 "be_loud" k 1 z1p) {t_WRONG_IN_A_ROW:Tok} (g_WRONG_IN_A_ROW:mg "WRONG_IN_A_ROW"=some (.int 3 t_WRONG_IN_A_ROW)) {t_TICKS_LOCKED:Tok} (g_TICKS_LOCKED:mg "TICKS_LOCKED"=some (.int 90 t_TICKS_LOCKED)):MtMd P w K mg base CCourse 0 "take_wrong" (k+1) 1 z1f :=
 z3b F z9d (z9i F) m fun cdv A outer s H E hr =>
  (z05 (z2z (z0n kcCourse z08 hr (pv 0) (z00 z0e (z00 zba z03))))
  (z05 (zsk (j:=8) kcCourse (pv 0) z04)
  (z0a (s_if (z1a (zwi.or zhn) zsv (z4r (j:=8) kcCourse (pv 0)) (v2r (q_gI g_WRONG_IN_A_ROW))) (z05 (z2c (j:=8) kcCourse (pv 0) z04)
  (z05 (z2c (j:=9) kcCourse (pv 0) (q_gI g_TICKS_LOCKED))
  (z05 (z2z (z5l kcCourse z32 hr (pv 0)))
  (z0a (z2z (z0n kcCourse z08 hr (pv 0) (z00 z0e (z00 zba z03)))))))) z3j))))
abbrev z0v:Stmt:=z0r (top 17) 20
theorem z8a:FnScope ["self","deed","zone"] ["self","deed","zone"] (z01 z0v):=⟨rfl,rfl,rfl,by decide +kernel,rfl,by decide +kernel,by decide +kernel⟩
theorem z8u {K:y00} {f:Addr} {fd:y0b} (F:Fun K "is_untimely" "Course.is_untimely" z0v f fd):z0p K fd ["self","deed","zone"] []:=F.binds (ps:=["self","deed","zone"]) fun _ _ _ _ _ _ us hl=>match us,hl with|[_,_,_],_=>rfl
theorem z3l {k:Nat} {f:Addr} {fd:y0b} (F:Fun K "is_untimely" "Course.is_untimely" z0v f fd) (m:Meth K CCourse "is_untimely" f) (kcCourse:ClOk K 0 CCourse ["plan","mode","left","came","lines","shunts","siren","alarms","tries","locked","used","past","told"]) (z65:Cl P w K mg base "kind_of" k 2 z4e):MtRd P w K mg base CCourse "is_untimely" (k+1) 3 z0h :=
 z9s F z8a (z8u F) m fun cdv A outer s H E hr =>
  (z05 (s_if (z1a (z1v (by exact hr.units)) z1w (q_nm 1) (v2r z0e)) (z0a (z2y q_bl)) z3j)
  (z05 (s_if (z1a (z6i (by exact hr.units)) z6j (z4r (j:=1) kcCourse (pv 0)) (v2r z0e)) (z0a (z2y q_bl)) z3j)
  (z05 (s_if (z1a (z1v (by exact hr.units)) z1w (q_nm 1) (v2r z0e)) (z0a (z2y (q_or (zd0 (z1v (by exact hr.units)) z1w (v2r (z24 z65 hr (z00 (z46 (j:=0) kcCourse (pv 0)) (z00 (z0b 2) z03)))) (v2r z0e)) (zxq (zd0 (zhm (by exact hr.units)) z9r (q_nm 2) (z4r (j:=5) kcCourse (pv 0))))))) z3j)
  (z0a (z2y (zqz (zd0 (z1v (by exact hr.units)) z1w (q_nm 1) (v2r z0e)) (zo8 (zd0 (z8f (by exact hr.units)) z9r (q_nm 2) (z4r (j:=5) kcCourse (pv 0))))))))))
abbrev z0o:Stmt:=z0r (top 17) 6
theorem z5i:FnScope ["self","kinds","zones"] ["self","kinds"] (z01 z0o):=⟨rfl,rfl,rfl,by decide +kernel,rfl,by decide +kernel,by decide +kernel⟩
theorem z9n {K:y00} {f:Addr} {fd:y0b} (F:Fun K "bare_zones" "Course.bare_zones" z0o f fd):z0p K fd ["self","kinds"] []:=F.binds (ps:=["self","kinds"]) fun _ _ _ _ _ _ us hl=>match us,hl with|[_,_],_=>rfl
theorem z2a {k:Nat} {f:Addr} {fd:y0b} (F:Fun K "bare_zones" "Course.bare_zones" z0o f fd) (m:Meth K CCourse "bare_zones" f) (kcCourse:ClOk K 0 CCourse ["plan","mode","left","came","lines","shunts","siren","alarms","tries","locked","used","past","told"]):MtRd P w K mg base CCourse "bare_zones" (k+1) 2 z15 :=
 z9s F z5i (z9n F) m fun cdv A outer s H E hr =>
  (z05 (znx 2 z5i.nd (own:=["zone"]) (caps:=[(1,"kinds")]) (z8q (sc:=z01 z0o) ["self","kinds","zones"] rfl rfl rfl (by decide +kernel)) (zcb (q_ix (z4r (j:=0) kcCourse (pv 0)) (v2r z04))) (fun _ _ _ _ _ _=>(g_nm 0 (show y1v (["zone","kinds"]:List Str) by decide +kernel))) (fun _ _ _ _ _ _=>(zh2 (z1a (zhm (by exact hr.units)) z9r (v2r (q_ix (q_nm 0) (v2r z04))) (q_nm 1)))) (fun _ _ _ _ _ _=>(q_ix (q_nm 0) (v2r z04))))
  (z0a (z2y (z8e (own:=["zone"]) (caps:=[(0,"self")]) (z8q (sc:=z01 z0o) ["self","kinds","zones"] rfl rfl rfl (by decide +kernel)) (zcb (z0b 2)) (fun _ _ _ _ _ _=>(g_nm 0 (show y1v (["zone","self"]:List Str) by decide +kernel))) (fun _ _ _ _ _ _=>(zh2 (w_t (zqd (z1a (z6i (by exact hr.units)) z6j (v2r (zo7 (j:=4) (by exact kcCourse) (by exact zpc hr) (pv 1) (q_nm 0))) (v2r z0e)) (zkv (z1a (z8f (by exact hr.units)) z9r (q_nm 0) (z4r (j:=5) (by exact kcCourse) (pv 1)))))))) (fun _ _ _ _ _ _=>(z0b 0))))))
abbrev z0j:Stmt:=z0r (top 17) 19
theorem z2f:FnScope ["self","code","deed","zone","right","bare"] ["self","code","deed","zone"] (z01 z0j):=⟨rfl,rfl,rfl,by decide +kernel,rfl,by decide +kernel,by decide +kernel⟩
theorem z6t {K:y00} {f:Addr} {fd:y0b} (F:Fun K "what_is_against" "Course.what_is_against" z0j f fd):z0p K fd ["self","code","deed","zone"] []:=F.binds (ps:=["self","code","deed","zone"]) fun _ _ _ _ _ _ us hl=>match us,hl with|[_,_,_,_],_=>rfl
theorem z2t {k:Nat} {f:Addr} {fd:y0b} (F:Fun K "what_is_against" "Course.what_is_against" z0j f fd) (m:Meth K CCourse "what_is_against" f) (kcCourse:ClOk K 0 CCourse ["plan","mode","left","came","lines","shunts","siren","alarms","tries","locked","used","past","told"]) (z3l:MtRd P w K mg base CCourse "is_untimely" k 3 z0h) (z2a:MtRd P w K mg base CCourse "bare_zones" k 2 z15) {a_KINDS_SHUT_TO_SET:Addr} (m_KINDS_SHUT_TO_SET:mg "KINDS_SHUT_TO_SET"=some (.ref a_KINDS_SHUT_TO_SET)) (t_KINDS_SHUT_TO_SET:∃(o:Obj) (its:Array Value) (n:Nat),K.lookup a_KINDS_SHUT_TO_SET=some o/\o.cls=.type "tuple"/\o.data=.seq its n/\its.size<=y0k/\Vals ((["day","once"]:List Str).map V.str) its.toList):MtRd P w K mg base CCourse "what_is_against" (k+1) 4 z16 :=
 z9s F z2f (z6t F) m fun cdv A outer s H E hr =>
  (z05 (z2u 4 z2f.nd (zxt (z1a (z1v (by exact hr.units)) z1w (q_nm 2) (v2r z0e)) z0e (z0b 2)))
  (z05 (s_if (z1a (z8f (by exact hr.units)) z9r (q_nm 4) (v2r (q_ix (q_nm 1) (v2r z04)))) (z0a (z2y (z1t (z00 z0e (z00 (q_ix (q_nm 1) (v2r z04)) z03))))) z3j)
  (z05 (s_if (zsh (v2r (z9y kcCourse z3l hr (pv 0) (z00 (z0b 2) (z00 (z0b 3) z03))))) (z0a (z2y (z1t (z00 z0e (z00 (q_ix (q_nm 1) (v2r z04)) z03))))) z3j)
  (z05 (z2u 5 z2f.nd (z9y kcCourse z2a hr (pv 0) (z00 (q_gT m_KINDS_SHUT_TO_SET t_KINDS_SHUT_TO_SET) z03)))
  (z05 (s_if (w_t (zqd (z1a (z1v (by exact hr.units)) z1w (q_nm 2) (v2r z0e)) (zkv (zsg (q_nm 5))))) (z0a (z2y (z1t (z00 z0e (z00 (q_ix (q_nm 5) (v2r z04)) z03))))) z3j)
  (z0a (z2y zba)))))))
abbrev z0w:Stmt:=z0r (top 17) 13
theorem z52:FnScope ["self","zone"] ["self"] (z01 z0w):=⟨rfl,rfl,rfl,by decide +kernel,rfl,by decide +kernel,by decide +kernel⟩
theorem z8v {K:y00} {f:Addr} {fd:y0b} (F:Fun K "end_leaving" "Course.end_leaving" z0w f fd):z0p K fd ["self"] []:=F.binds (ps:=["self"]) fun _ _ _ _ _ _ us hl=>match us,hl with|[_],_=>rfl
theorem z1s {k:Nat} {f:Addr} {fd:y0b} (F:Fun K "end_leaving" "Course.end_leaving" z0w f fd) (m:Meth K CCourse "end_leaving" f) (kcCourse:ClOk K 0 CCourse ["plan","mode","left","came","lines","shunts","siren","alarms","tries","locked","used","past","told"]) (z08:MtMd P w K mg base CCourse 0 "tell" k 3 z07) (z2a:MtRd P w K mg base CCourse "bare_zones" k 2 z15) (z18:MtMd P w K mg base CCourse 0 "alarm" k 2 z0k) {a_KINDS_LEFT_BY:Addr} (m_KINDS_LEFT_BY:mg "KINDS_LEFT_BY"=some (.ref a_KINDS_LEFT_BY)) (t_KINDS_LEFT_BY:∃(o:Obj) (its:Array Value) (n:Nat),K.lookup a_KINDS_LEFT_BY=some o/\o.cls=.type "tuple"/\o.data=.seq its n/\its.size<=y0k/\Vals ((["inner","way"]:List Str).map V.str) its.toList):MtMd P w K mg base CCourse 0 "end_leaving" (k+1) 1 z0x :=
 z3b F z52 (z8v F) m fun cdv A outer s H E hr =>
  (z05 (z2c (j:=1) kcCourse (pv 0) z0e)
  (z05 (z2c (j:=2) kcCourse (pv 0) z04)
  (z05 (z2z (z0n kcCourse z08 hr (pv 0) (z00 z0e (z00 zba z03))))
  (z0a (zg5 y2e (zcb (z9y kcCourse z2a hr (pv 0) (z00 (q_gT m_KINDS_LEFT_BY t_KINDS_LEFT_BY) z03))) (g_nm 1 z52.nd)
  (z0a (z2z (z0n kcCourse z18 hr (pv 0) (z00 (z0b 1) z03)))))))))
abbrev z22:Stmt:=z0r (top 17) 22
theorem zc9:FnScope ["self","who"] ["self","who"] (z01 z22):=⟨rfl,rfl,rfl,by decide +kernel,rfl,by decide +kernel,by decide +kernel⟩
theorem zcd {K:y00} {f:Addr} {fd:y0b} (F:Fun K "do_set" "Course.do_set" z22 f fd):z0p K fd ["self","who"] []:=F.binds (ps:=["self","who"]) fun _ _ _ _ _ _ us hl=>match us,hl with|[_,_],_=>rfl
theorem z67 {k:Nat} {f:Addr} {fd:y0b} (F:Fun K "do_set" "Course.do_set" z22 f fd) (m:Meth K CCourse "do_set" f) (kcCourse:ClOk K 0 CCourse ["plan","mode","left","came","lines","shunts","siren","alarms","tries","locked","used","past","told"]) (z08:MtMd P w K mg base CCourse 0 "tell" k 3 z07) (z1s:MtMd P w K mg base CCourse 0 "end_leaving" k 1 z0x):MtMd P w K mg base CCourse 0 "do_set" (k+1) 2 z2q :=
 z3b F zc9 (zcd F) m fun cdv A outer s H E hr =>
  (z05 (z8d (j:=7) kcCourse (pv 0) (zme z03))
  (z05 (z2c (j:=6) kcCourse (pv 0) z04)
  (z05 (z2c (j:=1) kcCourse (pv 0) z0e)
  (z05 (z2c (j:=2) kcCourse (pv 0) (q_ix (v2r (q_ix (z4r (j:=0) kcCourse (pv 0)) (v2r z04))) (v2r z04)))
  (z05 (z2z (z0n kcCourse z08 hr (pv 0) (z00 z0e (z00 (z0b 1) z03))))
  (z0a (s_if (z1a (zu9.or zd3) zol (z4r (j:=2) kcCourse (pv 0)) (v2r z04)) (z0a (z2z (z5l kcCourse z1s hr (pv 0)))) z3j)))))))
abbrev z1e:Stmt:=z0r (top 17) 23
theorem zaf:FnScope ["self","who"] ["self","who"] (z01 z1e):=⟨rfl,rfl,rfl,by decide +kernel,rfl,by decide +kernel,by decide +kernel⟩
theorem zav {K:y00} {f:Addr} {fd:y0b} (F:Fun K "do_unset" "Course.do_unset" z1e f fd):z0p K fd ["self","who"] []:=F.binds (ps:=["self","who"]) fun _ _ _ _ _ _ us hl=>match us,hl with|[_,_],_=>rfl
theorem z4x {k:Nat} {f:Addr} {fd:y0b} (F:Fun K "do_unset" "Course.do_unset" z1e f fd) (m:Meth K CCourse "do_unset" f) (kcCourse:ClOk K 0 CCourse ["plan","mode","left","came","lines","shunts","siren","alarms","tries","locked","used","past","told"]) (z08:MtMd P w K mg base CCourse 0 "tell" k 3 z07):MtMd P w K mg base CCourse 0 "do_unset" (k+1) 2 z2p :=
 z3b F zaf (zav F) m fun cdv A outer s H E hr =>
  (z05 (z2c (j:=1) kcCourse (pv 0) z0e)
  (z05 (z2c (j:=2) kcCourse (pv 0) z04)
  (z05 (z2c (j:=6) kcCourse (pv 0) z04)
  (z05 (z2c (j:=3) kcCourse (pv 0) zba)
  (z05 (z8d (j:=5) kcCourse (pv 0) (zme z03))
  (z0a (z2z (z0n kcCourse z08 hr (pv 0) (z00 z0e (z00 (z0b 1) z03))))))))))
abbrev z1k:Stmt:=z0r (top 17) 21
theorem zb5:FnScope ["self","who","deed","zone"] ["self","who","deed","zone"] (z01 z1k):=⟨rfl,rfl,rfl,by decide +kernel,rfl,by decide +kernel,by decide +kernel⟩
theorem zbp {K:y00} {f:Addr} {fd:y0b} (F:Fun K "do_deed" "Course.do_deed" z1k f fd):z0p K fd ["self","who","deed","zone"] []:=F.binds (ps:=["self","who","deed","zone"]) fun _ _ _ _ _ _ us hl=>match us,hl with|[_,_,_,_],_=>rfl
theorem z5d {k:Nat} {f:Addr} {fd:y0b} (F:Fun K "do_deed" "Course.do_deed" z1k f fd) (m:Meth K CCourse "do_deed" f) (kcCourse:ClOk K 0 CCourse ["plan","mode","left","came","lines","shunts","siren","alarms","tries","locked","used","past","told"]) (z67:MtMd P w K mg base CCourse 0 "do_set" k 2 z2q) (z4x:MtMd P w K mg base CCourse 0 "do_unset" k 2 z2p) (z_sorted:mg "sorted"=none) (z08:MtMd P w K mg base CCourse 0 "tell" k 3 z07):MtMd P w K mg base CCourse 0 "do_deed" (k+1) 4 z1b :=
 z3b F zb5 (zbp F) m fun cdv A outer s H E hr =>
  (z0a (s_if (z1a (z1v (by exact hr.units)) z1w (q_nm 2) (v2r z0e)) (z0a (z2z (z0n kcCourse z67 hr (pv 0) (z00 (z0b 1) z03)))) (z0a (s_if (z1a (z1v (by exact hr.units)) z1w (q_nm 2) (v2r z0e)) (z0a (z2z (z0n kcCourse z4x hr (pv 0) (z00 (z0b 1) z03)))) (z0a (s_if (z1a (z1v (by exact hr.units)) z1w (q_nm 2) (v2r z0e)) (z05 (z8d (j:=5) kcCourse (pv 0) (zo4 rfl z_sorted (v2r (z81 (z4r (j:=5) kcCourse (pv 0)) (v2r (zvu (z00 (z0b 3) z03)))))))
  (z0a (z2z (z0n kcCourse z08 hr (pv 0) (z00 z0e (z00 (z0b 3) z03)))))) (z05 (zxk (j:=5) kcCourse (pv 0) (z0b 3))
  (z0a (z2z (z0n kcCourse z08 hr (pv 0) (z00 z0e (z00 (z0b 3) z03))))))))))))
abbrev z10:Stmt:=z0r (top 17) 18
theorem z5g:FnScope ["self","code","deed","zone","against"] ["self","code","deed","zone"] (z01 z10):=⟨rfl,rfl,rfl,by decide +kernel,rfl,by decide +kernel,by decide +kernel⟩
theorem z9j {K:y00} {f:Addr} {fd:y0b} (F:Fun K "take_right" "Course.take_right" z10 f fd):z0p K fd ["self","code","deed","zone"] []:=F.binds (ps:=["self","code","deed","zone"]) fun _ _ _ _ _ _ us hl=>match us,hl with|[_,_,_,_],_=>rfl
theorem z40 {k:Nat} {f:Addr} {fd:y0b} (F:Fun K "take_right" "Course.take_right" z10 f fd) (m:Meth K CCourse "take_right" f) (kcCourse:ClOk K 0 CCourse ["plan","mode","left","came","lines","shunts","siren","alarms","tries","locked","used","past","told"]) (z2t:MtRd P w K mg base CCourse "what_is_against" k 4 z16) (z5d:MtMd P w K mg base CCourse 0 "do_deed" k 4 z1b) (z08:MtMd P w K mg base CCourse 0 "tell" k 3 z07):MtMd P w K mg base CCourse 0 "take_right" (k+1) 4 z1g :=
 z3b F z5g (z9j F) m fun cdv A outer s H E hr =>
  (z05 (z2u 4 z5g.nd (z9y kcCourse z2t hr (pv 0) (z00 (z0b 1) (z00 (z0b 2) (z00 (z0b 3) z03)))))
  (z0a (s_if (zve (q_nm 4)) (z05 (ztm (j:=10) kcCourse (zpc hr) (pv 0) (v2r (q_ix (q_nm 1) (v2r z04))) z04)
  (z0a (z2z (z0n kcCourse z5d hr (pv 0) (z00 (q_ix (q_nm 1) (v2r z04)) (z00 (z0b 2) (z00 (z0b 3) z03))))))) (z0a (z2z (z0n kcCourse z08 hr (pv 0) (z00 (q_ix (q_nm 4) (v2r z04)) (z00 (q_ix (q_nm 4) (v2r z04)) z03))))))))
abbrev z2x:Stmt:=z0r (top 17) 15
theorem z9p:FnScope ["self","figures","deed","zone","code"] ["self","figures","deed","zone"] (z01 z2x):=⟨rfl,rfl,rfl,by decide +kernel,rfl,by decide +kernel,by decide +kernel⟩
theorem zeq {K:y00} {f:Addr} {fd:y0b} (F:Fun K "code" "Course.code" z2x f fd):z0p K fd ["self","figures","deed","zone"] []:=F.binds (ps:=["self","figures","deed","zone"]) fun _ _ _ _ _ _ us hl=>match us,hl with|[_,_,_,_],_=>rfl
theorem z7n {k:Nat} {f:Addr} {fd:y0b} (F:Fun K "code" "Course.code" z2x f fd) (m:Meth K CCourse "code" f) (kcCourse:ClOk K 0 CCourse ["plan","mode","left","came","lines","shunts","siren","alarms","tries","locked","used","past","told"]) (ze5:Cl P w K mg base "code_of" k 2 z8n) (z08:MtMd P w K mg base CCourse 0 "tell" k 3 z07) (z41:MtRd P w K mg base CCourse "is_used_up" k 2 z1h) (z3z:MtMd P w K mg base CCourse 0 "take_wrong" k 1 z1f) (z40:MtMd P w K mg base CCourse 0 "take_right" k 4 z1g):MtMd P w K mg base CCourse 0 "code" (k+1) 4 z2e :=
 z3b F z9p (zeq F) m fun cdv A outer s H E hr =>
  (z05 (z2u 4 z9p.nd (z24 ze5 hr (z00 (z46 (j:=0) kcCourse (pv 0)) (z00 (z0b 1) z03))))
  (z0a (s_if (z1a (zmj.or z6y) zf6 (z4r (j:=9) kcCourse (pv 0)) (v2r z04)) (z0a (z2z (z0n kcCourse z08 hr (pv 0) (z00 z0e (z00 zba z03))))) (z0a (s_if (w_t (w_or (zve (q_nm 4)) (zjg (zsh (v2r (z9y kcCourse z41 hr (pv 0) (z00 (z0b 4) z03))))))) (z0a (z2z (z5l kcCourse z3z hr (pv 0)))) (z05 (z2c (j:=8) kcCourse (pv 0) z04)
  (z0a (z2z (z0n kcCourse z40 hr (pv 0) (z00 (z0b 4) (z00 (z0b 2) (z00 (z0b 3) z03))))))))))))
abbrev z13:Stmt:=z0r (top 17) 11
theorem z9f:FnScope ["self","many"] ["self","many"] (z01 z13):=⟨rfl,rfl,rfl,by decide +kernel,rfl,by decide +kernel,by decide +kernel⟩
theorem z9m {K:y00} {f:Addr} {fd:y0b} (F:Fun K "count_down" "Course.count_down" z13 f fd):z0p K fd ["self","many"] []:=F.binds (ps:=["self","many"]) fun _ _ _ _ _ _ us hl=>match us,hl with|[_,_],_=>rfl
theorem z29 {k:Nat} {f:Addr} {fd:y0b} (F:Fun K "count_down" "Course.count_down" z13 f fd) (m:Meth K CCourse "count_down" f) (kcCourse:ClOk K 0 CCourse ["plan","mode","left","came","lines","shunts","siren","alarms","tries","locked","used","past","told"]) (z72:Cl P w K mg base "lessened" k 2 z4u):MtMd P w K mg base CCourse 0 "count_down" (k+1) 2 z14 :=
 z3b F z9f (z9m F) m fun cdv A outer s H E hr =>
  (z05 (zsk (j:=11) kcCourse (pv 0) (z0b 1))
  (z05 (z2c (j:=9) kcCourse (pv 0) (z24 z72 hr (z00 (z46 (j:=9) kcCourse (pv 0)) (z00 (z0b 1) z03))))
  (z05 (z2c (j:=6) kcCourse (pv 0) (z24 z72 hr (z00 (z46 (j:=6) kcCourse (pv 0)) (z00 (z0b 1) z03))))
  (z0a (z2c (j:=2) kcCourse (pv 0) (z24 z72 hr (z00 (z46 (j:=2) kcCourse (pv 0)) (z00 (z0b 1) z03))))))))
abbrev z12:Stmt:=z0r (top 17) 14
theorem z5h:FnScope ["self","zone"] ["self"] (z01 z12):=⟨rfl,rfl,rfl,by decide +kernel,rfl,by decide +kernel,by decide +kernel⟩
theorem z9l {K:y00} {f:Addr} {fd:y0b} (F:Fun K "end_coming" "Course.end_coming" z12 f fd):z0p K fd ["self"] []:=F.binds (ps:=["self"]) fun _ _ _ _ _ _ us hl=>match us,hl with|[_],_=>rfl
theorem z42 {k:Nat} {f:Addr} {fd:y0b} (F:Fun K "end_coming" "Course.end_coming" z12 f fd) (m:Meth K CCourse "end_coming" f) (kcCourse:ClOk K 0 CCourse ["plan","mode","left","came","lines","shunts","siren","alarms","tries","locked","used","past","told"]) (z18:MtMd P w K mg base CCourse 0 "alarm" k 2 z0k):MtMd P w K mg base CCourse 0 "end_coming" (k+1) 1 z28 :=
 z3b F z5h (z9l F) m fun cdv A outer s H E hr =>
  (z05 (z2u 1 z5h.nd (z46 (j:=3) kcCourse (pv 0)))
  (z05 (z2c (j:=1) kcCourse (pv 0) z0e)
  (z05 (z2c (j:=3) kcCourse (pv 0) zba)
  (z0a (z2z (z0n kcCourse z18 hr (pv 0) (z00 (z0b 1) z03)))))))
abbrev z1d:Stmt:=z0r (top 17) 12
theorem zae:FnScope ["self"] ["self"] (z01 z1d):=⟨rfl,rfl,rfl,by decide +kernel,rfl,by decide +kernel,by decide +kernel⟩
theorem zau {K:y00} {f:Addr} {fd:y0b} (F:Fun K "end_time" "Course.end_time" z1d f fd):z0p K fd ["self"] []:=F.binds (ps:=["self"]) fun _ _ _ _ _ _ us hl=>match us,hl with|[_],_=>rfl
theorem z4w {k:Nat} {f:Addr} {fd:y0b} (F:Fun K "end_time" "Course.end_time" z1d f fd) (m:Meth K CCourse "end_time" f) (kcCourse:ClOk K 0 CCourse ["plan","mode","left","came","lines","shunts","siren","alarms","tries","locked","used","past","told"]) (z1s:MtMd P w K mg base CCourse 0 "end_leaving" k 1 z0x) (z42:MtMd P w K mg base CCourse 0 "end_coming" k 1 z28):MtMd P w K mg base CCourse 0 "end_time" (k+1) 1 z1z :=
 z3b F zae (zau F) m fun cdv A outer s H E hr =>
  (z0a (s_if (z1a (z1v (by exact hr.units)) z1w (z4r (j:=1) kcCourse (pv 0)) (v2r z0e)) (z0a (z2z (z5l kcCourse z1s hr (pv 0)))) (z0a (z2z (z5l kcCourse z42 hr (pv 0))))))
abbrev z2g:Stmt:=z0r (top 17) 10
theorem z89:FnScope ["self","many","rest"] ["self","many"] (z01 z2g):=⟨rfl,rfl,rfl,by decide +kernel,rfl,by decide +kernel,by decide +kernel⟩
theorem ze6 {K:y00} {f:Addr} {fd:y0b} (F:Fun K "ticks" "Course.ticks" z2g f fd):z0p K fd ["self","many"] []:=F.binds (ps:=["self","many"]) fun _ _ _ _ _ _ us hl=>match us,hl with|[_,_],_=>rfl
theorem z6r {k:Nat} {f:Addr} {fd:y0b} (F:Fun K "ticks" "Course.ticks" z2g f fd) (m:Meth K CCourse "ticks" f) (kcCourse:ClOk K 0 CCourse ["plan","mode","left","came","lines","shunts","siren","alarms","tries","locked","used","past","told"]) (z29:MtMd P w K mg base CCourse 0 "count_down" k 2 z14) (z4w:MtMd P w K mg base CCourse 0 "end_time" k 1 z1z):MtMd P w K mg base CCourse 0 "ticks" (k+1) 2 z1x :=
 z3b F z89 (ze6 F) m fun cdv A outer s H E hr =>
  (z05 (s_if (z1a (zoi.or z8g) zho (q_nm 1) (v2r z04)) (z0a zjr) z3j)
  (z0a (s_if (w_t (zqd (z1a (zhm (by exact hr.units)) z9r (z4r (j:=1) kcCourse (pv 0)) (v2r (z1t (z00 z0e (z00 z0e z03))))) (zkv (z1a (zu9.or zd3) zol (z4r (j:=2) kcCourse (pv 0)) (q_nm 1))))) (z05 (z2u 2 z89.nd (zvs (q_nm 1) (z4r (j:=2) kcCourse (pv 0))))
  (z05 (z2z (z0n kcCourse z29 hr (pv 0) (z00 (z46 (j:=2) kcCourse (pv 0)) z03)))
  (z05 (z2z (z5l kcCourse z4w hr (pv 0)))
  (z0a (z2z (z0n kcCourse z29 hr (pv 0) (z00 (z0b 2) z03))))))) (z0a (z2z (z0n kcCourse z29 hr (pv 0) (z00 (z0b 1) z03)))))))
abbrev z21:Stmt:=z0r (top 17) 2
theorem zc8:FnScope ["self","event"] ["self","event"] (z01 z21):=⟨rfl,rfl,rfl,by decide +kernel,rfl,by decide +kernel,by decide +kernel⟩
theorem zcc {K:y00} {f:Addr} {fd:y0b} (F:Fun K "happen" "Course.happen" z21 f fd):z0p K fd ["self","event"] []:=F.binds (ps:=["self","event"]) fun _ _ _ _ _ _ us hl=>match us,hl with|[_,_],_=>rfl
theorem z66 {k:Nat} {f:Addr} {fd:y0b} (F:Fun K "happen" "Course.happen" z21 f fd) (m:Meth K CCourse "happen" f) (kcCourse:ClOk K 0 CCourse ["plan","mode","left","came","lines","shunts","siren","alarms","tries","locked","used","past","told"]) (z7m:MtMd P w K mg base CCourse 0 "line" k 3 z4f) (z7n:MtMd P w K mg base CCourse 0 "code" k 4 z2e) (z6r:MtMd P w K mg base CCourse 0 "ticks" k 2 z1x):MtMd P w K mg base CCourse 0 "happen" (k+1) 2 z1i :=
 z3b F zc8 (zcc F) m fun cdv A outer s H E hr =>
  (z0a (s_if (z1a (z1v (by exact hr.units)) z1w (v2r (q_ix (q_nm 1) (v2r z04))) (v2r z0e)) (z0a (z2z (z0n kcCourse z7m hr (pv 0) (z00 (q_ix (q_nm 1) (v2r z04)) (z00 (q_ix (q_nm 1) (v2r z04)) z03))))) (z0a (s_if (z1a (z1v (by exact hr.units)) z1w (v2r (q_ix (q_nm 1) (v2r z04))) (v2r z0e)) (z0a (z2z (z0n kcCourse z7n hr (pv 0) (z00 (q_ix (q_nm 1) (v2r z04)) (z00 (q_ix (q_nm 1) (v2r z04)) (z00 (q_ix (q_nm 1) (v2r z04)) z03)))))) (z0a (z2z (z0n kcCourse z6r hr (pv 0) (z00 (q_ix (q_nm 1) (v2r z04)) z03))))))))
abbrev z3t:Stmt:=top 18
theorem z88:FnScope ["plan","state","row","course","event"] ["plan","state","row"] (z01 z3t):=⟨rfl,rfl,rfl,by decide +kernel,rfl,by decide +kernel,by decide +kernel⟩
theorem zj2 {K:y00} {f:Addr} {fd:y0b} (F:Fun K "course_of" "course_of" z3t f fd):z0p K fd ["plan","state","row"] []:=F.binds (ps:=["plan","state","row"]) fun _ _ _ _ _ _ us hl=>match us,hl with|[_,_,_],_=>rfl
theorem za0 (ts:List T) (s:Sl) (h:z2k ts=some s):∃c os,s=.obj .own c os:=zqu (b:=zaa) h
theorem z3y {k:Nat} {f:Addr} {fd:y0b} (F:Fun K "course_of" "course_of" z3t f fd) (m:mg "course_of"=some (.ref f)) (kcCourse:ClOk K 0 CCourse ["plan","mode","left","came","lines","shunts","siren","alarms","tries","locked","used","past","told"]) (c_Course:ClNew P w K mg base "Course" CCourse 0 k 3 z2r) (z66:MtMd P w K mg base CCourse 0 "happen" k 2 z1i):ClO P w K mg base "course_of" (k+2) 3 z2k :=
 zx2 F z88 (zj2 F) m fun cdv A outer s H E hr =>
  (z05 (zvm 3 z88.nd (zuc kcCourse c_Course hr (z00 (z0b 0) (z00 (z0b 1) z03))))
  (z05 (zg5 y2e (zcb (z0b 2)) (g_nm 4 z88.nd)
  (z0a (z2z (z0n kcCourse z66 (hr.mono (y2p _)) (pv 3) (z00 (z0b 4) z03)))))
  (z0a (zvi (pv 3)))))
abbrev zcy:Stmt:=top 19
theorem ztj:FnScope ["plan","state","event"] ["plan","state","event"] (z01 zcy):=⟨rfl,rfl,rfl,by decide +kernel,rfl,by decide +kernel,by decide +kernel⟩
theorem zv4 {K:y00} {f:Addr} {fd:y0b} (F:Fun K "gone" "gone" zcy f fd):z0p K fd ["plan","state","event"] []:=F.binds (ps:=["plan","state","event"]) fun _ _ _ _ _ _ us hl=>match us,hl with|[_,_,_],_=>rfl
theorem zpx {k:Nat} {f:Addr} {fd:y0b} (F:Fun K "gone" "gone" zcy f fd) (m:mg "gone"=some (.ref f)) (kcCourse:ClOk K 0 CCourse ["plan","mode","left","came","lines","shunts","siren","alarms","tries","locked","used","past","told"]) (z6s:MtRd P w K mg base CCourse "state" k 1 z3o) (z3y:ClO P w K mg base "course_of" k 3 z2k):Cl P w K mg base "gone" (k+1) 3 zig :=
 zat F ztj (zv4 F) m fun cdv A outer s H E hr =>
  (z0a (z2y (zxr kcCourse z6s hr (zoq z3y za0 hr (z00 (z0b 0) (z00 (z0b 1) (z00 (z1t (z00 (z0b 2) z03)) z03)))))))
abbrev z8b:Stmt:=top 20
theorem zqq:FnScope ["plan","state","event"] ["plan","state","event"] (z01 z8b):=⟨rfl,rfl,rfl,by decide +kernel,rfl,by decide +kernel,by decide +kernel⟩
theorem zs2 {K:y00} {f:Addr} {fd:y0b} (F:Fun K "words" "words" z8b f fd):z0p K fd ["plan","state","event"] []:=F.binds (ps:=["plan","state","event"]) fun _ _ _ _ _ _ us hl=>match us,hl with|[_,_,_],_=>rfl
theorem zkf {k:Nat} {f:Addr} {fd:y0b} (F:Fun K "words" "words" z8b f fd) (m:mg "words"=some (.ref f)) (kcCourse:ClOk K 0 CCourse ["plan","mode","left","came","lines","shunts","siren","alarms","tries","locked","used","past","told"]) (z_tuple:mg "tuple"=none) (z3y:ClO P w K mg base "course_of" k 3 z2k):Cl P w K mg base "words" (k+1) 3 zdz :=
 zat F zqq (zs2 F) m fun cdv A outer s H E hr =>
  (z0a (z2y (z5z z_tuple (z3f (v2r (z8e (own:=["past","word","name"]) (caps:=[]) (z8q (sc:=z01 z8b) ["plan","state","event"] rfl rfl rfl (by decide +kernel)) (zcb (zhi (j:=12) kcCourse (zoq z3y za0 hr (z00 (z0b 0) (z00 (z0b 1) (z00 (z1t (z00 (z0b 2) z03)) z03)))))) (fun _ _ _ _ _ _=>(zpi (z8k (g_nm 0 (show y1v (["past","word","name"]:List Str) by decide +kernel)) (z8k (g_nm 1 (show y1v (["past","word","name"]:List Str) by decide +kernel)) (z8k (g_nm 2 (show y1v (["past","word","name"]:List Str) by decide +kernel)) zpj))))) (fun _ _ _ _ _ _=>zer) (fun _ _ _ _ _ _=>(z1t (z00 (z0b 1) (z00 (z0b 2) z03)))))) z5k))))
abbrev z9x:Stmt:=top 22
theorem zqr:FnScope ["plan","state","row"] ["plan","state","row"] (z01 z9x):=⟨rfl,rfl,rfl,by decide +kernel,rfl,by decide +kernel,by decide +kernel⟩
theorem zs3 {K:y00} {f:Addr} {fd:y0b} (F:Fun K "story" "story" z9x f fd):z0p K fd ["plan","state","row"] []:=F.binds (ps:=["plan","state","row"]) fun _ _ _ _ _ _ us hl=>match us,hl with|[_,_,_],_=>rfl
theorem zkg {k:Nat} {f:Addr} {fd:y0b} (F:Fun K "story" "story" z9x f fd) (m:mg "story"=some (.ref f)) (kcCourse:ClOk K 0 CCourse ["plan","mode","left","came","lines","shunts","siren","alarms","tries","locked","used","past","told"]) (z_tuple:mg "tuple"=none) (z3y:ClO P w K mg base "course_of" k 3 z2k):Cl P w K mg base "story" (k+1) 3 ze0 :=
 zat F zqr (zs3 F) m fun cdv A outer s H E hr =>
  (z0a (z2y (z5z z_tuple (z3f (v2r (zhi (j:=12) kcCourse (zoq z3y za0 hr (z00 (z0b 0) (z00 (z0b 1) (z00 (z0b 2) z03)))))) z5k))))
abbrev z6p:Stmt:=top 23
theorem zcf:FnScope ["plan","state","not_shut"] ["plan","state"] (z01 z6p):=⟨rfl,rfl,rfl,by decide +kernel,rfl,by decide +kernel,by decide +kernel⟩
theorem zly {K:y00} {f:Addr} {fd:y0b} (F:Fun K "shown" "shown" z6p f fd):z0p K fd ["plan","state"] []:=F.binds (ps:=["plan","state"]) fun _ _ _ _ _ _ us hl=>match us,hl with|[_,_],_=>rfl
theorem zv3 {k:Nat} {f:Addr} {fd:y0b} (F:Fun K "shown" "shown" z6p f fd) (m:mg "shown"=some (.ref f)) (z_tuple:mg "tuple"=none) (z_zip:mg "zip"=none):Cl P w K mg base "shown" (k+1) 2 zbh :=
 zat F zcf (zly F) m fun cdv A outer s H E hr =>
  (z05 (znx 2 zcf.nd (own:=["zone","line"]) (caps:=[]) (z8q (sc:=z01 z6p) ["plan","state","not_shut"] rfl rfl rfl (by decide +kernel)) (zww z_zip (q_ix (q_nm 0) (v2r z04)) (q_ix (q_nm 1) (v2r z04))) (fun _ _ _ _ _ _=>(zpi (z8k (g_nm 0 (show y1v (["zone","line"]:List Str) by decide +kernel)) (z8k (g_nm 1 (show y1v (["zone","line"]:List Str) by decide +kernel)) zpj)))) (fun _ _ _ _ _ _=>(zh2 (z1a (z6i (by exact hr.units)) z6j (q_nm 1) (v2r z0e)))) (fun _ _ _ _ _ _=>(q_ix (q_nm 0) (v2r z04))))
  (z0a (z2y (z1t (z00 (q_ix (q_nm 1) (v2r z04)) (z00 (zd0 (zmj.or z6y) zf6 (v2r (q_ix (q_nm 1) (v2r z04))) (v2r z04)) (z00 (z5z z_tuple (z3f (q_nm 2) z5k)) z03)))))))
abbrev z2j:Stmt:=z0r (top 26) 0
theorem zcx:FnScope ["self","plan"] ["self","plan"] (z01 z2j):=⟨rfl,rfl,rfl,by decide +kernel,rfl,by decide +kernel,by decide +kernel⟩
theorem ze9 {K:y00} {f:Addr} {fd:y0b} (F:Fun K "__init__" "Box.__init__" z2j f fd):z0p K fd ["self","plan"] []:=F.binds (ps:=["self","plan"]) fun _ _ _ _ _ _ us hl=>match us,hl with|[_,_],_=>rfl
theorem zen {k:Nat} {f:Addr} {fd:y0b} (F:Fun K "__init__" "Box.__init__" z2j f fd) (me:Mk K CBox f) (m:mg "Box"=some (.ref CBox)) (kcBox:ClOk K 1 CBox ["plan","events","states"]) (zki:Cl P w K mg base "begun" k 1 ze1):ClNew P w K mg base "Box" CBox 1 (k+1) 2 z34 :=
 zsy F zcx (ze9 F) me m fun cdv A outer s H E hr =>
  (z05 (z2c (j:=0) kcBox (pv 0) (z0b 1))
  (z05 (z8d (j:=1) kcBox (pv 0) (zme z03))
  (z0a (z8d (j:=2) kcBox (pv 0) (zme (z00 (z24 zki hr (z00 (z0b 1) z03)) z03))))))
abbrev z3v:Stmt:=z0r (top 26) 6
theorem zhb:FnScope ["self"] ["self"] (z01 z3v):=⟨rfl,rfl,rfl,by decide +kernel,rfl,by decide +kernel,by decide +kernel⟩
theorem zj4 {K:y00} {f:Addr} {fd:y0b} (F:Fun K "state" "Box.state" z3v f fd):z0p K fd ["self"] []:=F.binds (ps:=["self"]) fun _ _ _ _ _ _ us hl=>match us,hl with|[_],_=>rfl
theorem z1q {k:Nat} {f:Addr} {fd:y0b} (F:Fun K "state" "Box.state" z3v f fd) (m:Meth K CBox "state" f) (kcBox:ClOk K 1 CBox ["plan","events","states"]):MtRd P w K mg base CBox "state" (k+1) 1 z0s :=
 z9s F zhb (zj4 F) m fun cdv A outer s H E hr =>
  (z0a (z2y (q_ix (z4r (j:=2) kcBox (pv 0)) (v2r (zvt (v2r z04))))))
abbrev z38:Stmt:=z0r (top 26) 1
theorem z79:FnScope ["self","event","told","behind"] ["self","event"] (z01 z38):=⟨rfl,rfl,rfl,by decide +kernel,rfl,by decide +kernel,by decide +kernel⟩
theorem zgv {K:y00} {f:Addr} {fd:y0b} (F:Fun K "happen" "Box.happen" z38 f fd):z0p K fd ["self","event"] []:=F.binds (ps:=["self","event"]) fun _ _ _ _ _ _ us hl=>match us,hl with|[_,_],_=>rfl
theorem z3e {k:Nat} {f:Addr} {fd:y0b} (F:Fun K "happen" "Box.happen" z38 f fd) (m:Meth K CBox "happen" f) (kcBox:ClOk K 1 CBox ["plan","events","states"]) (zkf:Cl P w K mg base "words" k 3 zdz) (zpx:Cl P w K mg base "gone" k 3 zig) (z1q:MtRd P w K mg base CBox "state" k 1 z0s):MtMd P w K mg base CBox 1 "happen" (k+1) 2 z1y :=
 z3b F z79 (zgv F) m fun cdv A outer s H E hr =>
  (z05 (z2u 2 z79.nd (z24 zkf hr (z00 (z46 (j:=0) kcBox (pv 0)) (z00 (z2d kcBox z1q hr (pv 0)) (z00 (z0b 1) z03)))))
  (z05 (z2u 3 z79.nd (z24 zpx hr (z00 (z46 (j:=0) kcBox (pv 0)) (z00 (z2d kcBox z1q hr (pv 0)) (z00 (z0b 1) z03)))))
  (z05 (zl5 (j:=1) kcBox (pv 0) (z0b 1))
  (z05 (zl5 (j:=2) kcBox (pv 0) (z0b 3))
  (z0a (zvj (z0b 2)))))))
abbrev z23:Stmt:=z0r (top 26) 5
theorem zca:FnScope ["self","zone"] ["self","zone"] (z01 z23):=⟨rfl,rfl,rfl,by decide +kernel,rfl,by decide +kernel,by decide +kernel⟩
theorem zce {K:y00} {f:Addr} {fd:y0b} (F:Fun K "need_zone" "Box.need_zone" z23 f fd):z0p K fd ["self","zone"] []:=F.binds (ps:=["self","zone"]) fun _ _ _ _ _ _ us hl=>match us,hl with|[_,_],_=>rfl
theorem z3d {k:Nat} {f:Addr} {fd:y0b} (F:Fun K "need_zone" "Box.need_zone" z23 f fd) (m:Meth K CBox "need_zone" f) (kcBox:ClOk K 1 CBox ["plan","events","states"]) (z65:Cl P w K mg base "kind_of" k 2 z4e):MtRd P w K mg base CBox "need_zone" (k+1) 2 z1j :=
 z9s F zca (zce F) m fun cdv A outer s H E hr =>
  (z0a (ztl (z24 z65 hr (z00 (z46 (j:=0) kcBox (pv 0)) (z00 (z0b 1) z03)))))
abbrev z4o:Stmt:=z0r (top 26) 2
theorem zjp:FnScope ["self","zone","what"] ["self","zone","what"] (z01 z4o):=⟨rfl,rfl,rfl,by decide +kernel,rfl,by decide +kernel,by decide +kernel⟩
theorem zkn {K:y00} {f:Addr} {fd:y0b} (F:Fun K "line" "Box.line" z4o f fd):z0p K fd ["self","zone","what"] []:=F.binds (ps:=["self","zone","what"]) fun _ _ _ _ _ _ us hl=>match us,hl with|[_,_,_],_=>rfl
theorem zbm {k:Nat} {f:Addr} {fd:y0b} (F:Fun K "line" "Box.line" z4o f fd) (m:Meth K CBox "line" f) (kcBox:ClOk K 1 CBox ["plan","events","states"]) (z3d:MtRd P w K mg base CBox "need_zone" k 2 z1j) (z3e:MtMd P w K mg base CBox 1 "happen" k 2 z1y):MtMd P w K mg base CBox 1 "line" (k+1) 3 z70 :=
 z3b F zjp (zkn F) m fun cdv A outer s H E hr =>
  (z05 (ztl (z9y kcBox z3d hr (pv 0) (z00 (z0b 1) z03)))
  (z0a (zez (z0n kcBox z3e hr (pv 0) (z00 (z1t (z00 z0e (z00 (z0b 1) (z00 (z0b 2) z03)))) z03)))))
abbrev z4p:Stmt:=z0r (top 26) 3
theorem zjq:FnScope ["self","figures","deed","zone"] ["self","figures","deed","zone"] (z01 z4p):=⟨rfl,rfl,rfl,by decide +kernel,rfl,by decide +kernel,by decide +kernel⟩
theorem zko {K:y00} {f:Addr} {fd:y0b} (F:Fun K "code" "Box.code" z4p f fd):z0p K fd ["self","figures","deed","zone"] []:=F.binds (ps:=["self","figures","deed","zone"]) fun _ _ _ _ _ _ us hl=>match us,hl with|[_,_,_,_],_=>rfl
theorem zbn {k:Nat} {f:Addr} {fd:y0b} (F:Fun K "code" "Box.code" z4p f fd) (m:Meth K CBox "code" f) (kcBox:ClOk K 1 CBox ["plan","events","states"]) (z3e:MtMd P w K mg base CBox 1 "happen" k 2 z1y) (z3d:MtRd P w K mg base CBox "need_zone" k 2 z1j) {a_DEEDS_OF_ZONES:Addr} (m_DEEDS_OF_ZONES:mg "DEEDS_OF_ZONES"=some (.ref a_DEEDS_OF_ZONES)) (t_DEEDS_OF_ZONES:∃(o:Obj) (its:Array Value) (n:Nat),K.lookup a_DEEDS_OF_ZONES=some o/\o.cls=.type "tuple"/\o.data=.seq its n/\its.size<=y0k/\Vals ((["shunt","free"]:List Str).map V.str) its.toList):MtMd P w K mg base CBox 1 "code" (k+1) 4 z71 :=
 z3b F zjq (zko F) m fun cdv A outer s H E hr =>
  (z05 (s_if (w_t (w_or (zvd (q_nm 3)) (zjg (z1a (zhm (by exact hr.units)) z9r (q_nm 2) (v2r (q_gT m_DEEDS_OF_ZONES t_DEEDS_OF_ZONES)))))) (z0a (ztl (z9y kcBox z3d hr (pv 0) (z00 (z0b 3) z03)))) z3j)
  (z0a (zez (z0n kcBox z3e hr (pv 0) (z00 (z1t (z00 z0e (z00 (z0b 1) (z00 (z0b 2) (z00 (z0b 3) z03))))) z03)))))
abbrev z3u:Stmt:=z0r (top 26) 4
theorem zha:FnScope ["self","many"] ["self","many"] (z01 z3u):=⟨rfl,rfl,rfl,by decide +kernel,rfl,by decide +kernel,by decide +kernel⟩
theorem zj3 {K:y00} {f:Addr} {fd:y0b} (F:Fun K "ticks" "Box.ticks" z3u f fd):z0p K fd ["self","many"] []:=F.binds (ps:=["self","many"]) fun _ _ _ _ _ _ us hl=>match us,hl with|[_,_],_=>rfl
theorem z4y {k:Nat} {f:Addr} {fd:y0b} (F:Fun K "ticks" "Box.ticks" z3u f fd) (m:Meth K CBox "ticks" f) (kcBox:ClOk K 1 CBox ["plan","events","states"]) (z3e:MtMd P w K mg base CBox 1 "happen" k 2 z1y):MtMd P w K mg base CBox 1 "ticks" (k+1) 2 z2l :=
 z3b F zha (zj3 F) m fun cdv A outer s H E hr =>
  (z0a (zez (z0n kcBox z3e hr (pv 0) (z00 (z1t (z00 z0e (z00 (z0b 1) z03))) z03))))
theorem z8s {k:Nat} {f:Addr} {fd:y0b} (F:Fun K "shown" "shown" z6p f fd) (m:mg "shown_rows"=some (.ref f)) (z_tuple:mg "tuple"=none) (z_zip:mg "zip"=none):Cl P w K mg base "shown_rows" (k+1) 2 zbh :=
 zx1 F zcf (zly F) m fun cdv A outer s H E hr =>
  (z05 (znx 2 zcf.nd (own:=["zone","line"]) (caps:=[]) (z8q (sc:=z01 z6p) ["plan","state","not_shut"] rfl rfl rfl (by decide +kernel)) (zww z_zip (q_ix (q_nm 0) (v2r z04)) (q_ix (q_nm 1) (v2r z04))) (fun _ _ _ _ _ _=>(zpi (z8k (g_nm 0 (show y1v (["zone","line"]:List Str) by decide +kernel)) (z8k (g_nm 1 (show y1v (["zone","line"]:List Str) by decide +kernel)) zpj)))) (fun _ _ _ _ _ _=>(zh2 (z1a (z6i (by exact hr.units)) z6j (q_nm 1) (v2r z0e)))) (fun _ _ _ _ _ _=>(q_ix (q_nm 0) (v2r z04))))
  (z0a (z2y (z1t (z00 (q_ix (q_nm 1) (v2r z04)) (z00 (zd0 (zmj.or z6y) zf6 (v2r (q_ix (q_nm 1) (v2r z04))) (v2r z04)) (z00 (z5z z_tuple (z3f (q_nm 2) z5k)) z03)))))))
abbrev z3w:Stmt:=z0r (top 26) 7
theorem zhc:FnScope ["self"] ["self"] (z01 z3w):=⟨rfl,rfl,rfl,by decide +kernel,rfl,by decide +kernel,by decide +kernel⟩
theorem zj5 {K:y00} {f:Addr} {fd:y0b} (F:Fun K "shown" "Box.shown" z3w f fd):z0p K fd ["self"] []:=F.binds (ps:=["self"]) fun _ _ _ _ _ _ us hl=>match us,hl with|[_],_=>rfl
theorem z7o {k:Nat} {f:Addr} {fd:y0b} (F:Fun K "shown" "Box.shown" z3w f fd) (m:Meth K CBox "shown" f) (kcBox:ClOk K 1 CBox ["plan","events","states"]) (z8s:Cl P w K mg base "shown_rows" k 2 zbh) (z1q:MtRd P w K mg base CBox "state" k 1 z0s):MtRd P w K mg base CBox "shown" (k+1) 1 z4v :=
 z9s F zhc (zj5 F) m fun cdv A outer s H E hr =>
  (z0a (z2y (z24 z8s hr (z00 (z46 (j:=0) kcBox (pv 0)) (z00 (z2d kcBox z1q hr (pv 0)) z03)))))
abbrev z5x:Stmt:=z0r (top 26) 10
theorem zmb:FnScope ["self"] ["self"] (z01 z5x):=⟨rfl,rfl,rfl,by decide +kernel,rfl,by decide +kernel,by decide +kernel⟩
theorem zn9 {K:y00} {f:Addr} {fd:y0b} (F:Fun K "row" "Box.row" z5x f fd):z0p K fd ["self"] []:=F.binds (ps:=["self"]) fun _ _ _ _ _ _ us hl=>match us,hl with|[_],_=>rfl
theorem z73 {k:Nat} {f:Addr} {fd:y0b} (F:Fun K "row" "Box.row" z5x f fd) (m:Meth K CBox "row" f) (kcBox:ClOk K 1 CBox ["plan","events","states"]) (z_tuple:mg "tuple"=none):MtRd P w K mg base CBox "row" (k+1) 1 z3p :=
 z9s F zmb (zn9 F) m fun cdv A outer s H E hr =>
  (z0a (z2y (z5z z_tuple (z3f (z4r (j:=1) kcBox (pv 0)) z5k))))
abbrev z5y:Stmt:=z0r (top 26) 8
theorem zmc:FnScope ["self"] ["self"] (z01 z5y):=⟨rfl,rfl,rfl,by decide +kernel,rfl,by decide +kernel,by decide +kernel⟩
theorem zna {K:y00} {f:Addr} {fd:y0b} (F:Fun K "log" "Box.log" z5y f fd):z0p K fd ["self"] []:=F.binds (ps:=["self"]) fun _ _ _ _ _ _ us hl=>match us,hl with|[_],_=>rfl
theorem z74 {k:Nat} {f:Addr} {fd:y0b} (F:Fun K "log" "Box.log" z5y f fd) (m:Meth K CBox "log" f) (kcBox:ClOk K 1 CBox ["plan","events","states"]) (zkg:Cl P w K mg base "story" k 3 ze0) (z73:MtRd P w K mg base CBox "row" k 1 z3p):MtRd P w K mg base CBox "log" (k+1) 1 z2s :=
 z9s F zmc (zna F) m fun cdv A outer s H E hr =>
  (z0a (z2y (z24 zkg hr (z00 (z46 (j:=0) kcBox (pv 0)) (z00 (q_ix (z4r (j:=2) kcBox (pv 0)) (v2r z04)) (z00 (z2d kcBox z73 hr (pv 0)) z03))))))
abbrev z4n:Stmt:=z0r (top 26) 9
theorem zjo:FnScope ["self"] ["self"] (z01 z4n):=⟨rfl,rfl,rfl,by decide +kernel,rfl,by decide +kernel,by decide +kernel⟩
theorem zkm {K:y00} {f:Addr} {fd:y0b} (F:Fun K "undo" "Box.undo" z4n f fd):z0p K fd ["self"] []:=F.binds (ps:=["self"]) fun _ _ _ _ _ _ us hl=>match us,hl with|[_],_=>rfl
theorem z96 {k:Nat} {f:Addr} {fd:y0b} (F:Fun K "undo" "Box.undo" z4n f fd) (m:Meth K CBox "undo" f) (kcBox:ClOk K 1 CBox ["plan","events","states"]):MtMd P w K mg base CBox 1 "undo" (k+1) 1 z48 :=
 z3b F zjo (zkm F) m fun cdv A outer s H E hr =>
  (z05 (s_if (zx8 (zsg (z4r (j:=1) kcBox (pv 0)))) (z0a znv) z3j)
  (z05 (zsj (j:=1) kcBox (pv 0))
  (z0a (zsj (j:=2) kcBox (pv 0)))))
abbrev z3s:Stmt:=top 28
theorem zh9:FnScope ["_law_script","_law_k"] ["_law_script","_law_k"] (z01 z3s):=⟨rfl,rfl,rfl,by decide +kernel,rfl,by decide +kernel,by decide +kernel⟩
theorem zj1 {K:y00} {f:Addr} {fd:y0b} (F:Fun K "_law_cell_at" "_law_cell_at" z3s f fd):z0p K fd ["_law_script","_law_k"] []:=F.binds (ps:=["_law_script","_law_k"]) fun _ _ _ _ _ _ us hl=>match us,hl with|[_,_],_=>rfl
theorem za8 {k:Nat} {f:Addr} {fd:y0b} (F:Fun K "_law_cell_at" "_law_cell_at" z3s f fd) (m:mg "_law_cell_at"=some (.ref f)) (z_len:mg "len"=none):Cl P w K mg base "_law_cell_at" (k+1) 2 z3x :=
 zat F zh9 (zj1 F) m fun cdv A outer s H E hr =>
  (z05 (s_if (z1a (zoi.or z8g) zho (q_nm 1) (v2r (zqy z_len (z3f (q_nm 0) z5k)))) (z0a (z2y (q_ix (q_nm 0) (q_nm 1)))) z3j)
  (z0a (z2y z04)))
abbrev z5s:Stmt:=top 29
theorem zev:FnScope ["_law_script","_law_k","_law_drawn_here"] ["_law_script","_law_k"] (z01 z5s):=⟨rfl,rfl,rfl,by decide +kernel,rfl,by decide +kernel,by decide +kernel⟩
theorem zn4 {K:y00} {f:Addr} {fd:y0b} (F:Fun K "_law_mixed" "_law_mixed" z5s f fd):z0p K fd ["_law_script","_law_k"] []:=F.binds (ps:=["_law_script","_law_k"]) fun _ _ _ _ _ _ us hl=>match us,hl with|[_,_],_=>rfl
theorem z8t {k:Nat} {f:Addr} {fd:y0b} (F:Fun K "_law_mixed" "_law_mixed" z5s f fd) (m:mg "_law_mixed"=some (.ref f)) (za8:Cl P w K mg base "_law_cell_at" k 2 z3x):Cl P w K mg base "_law_mixed" (k+1) 2 z3c :=
 zat F zev (zn4 F) m fun cdv A outer s H E hr =>
  (z05 (z2u 2 zev.nd (z4q (v2r (zhh (v2r (z81 (v2r (z81 (v2r (z24 za8 hr (z00 (z0b 0) (z00 (z0b 1) z03)))) (v2r (zhh (v2r z04) (q_nm 1))))) (v2r z04))) (v2r z04))) (v2r z04)))
  (z0a (z2y (z4q (v2r (z81 (v2r (z81 (v2r (zhh (q_nm 2) (q_nm 2))) (v2r (zhh (v2r z04) (q_nm 2))))) (q_nm 1))) (v2r z04)))))
abbrev z5u:Stmt:=top 30
theorem zew:FnScope ["_law_number","_law_k","_law_drawn_here"] ["_law_number","_law_k"] (z01 z5u):=⟨rfl,rfl,rfl,by decide +kernel,rfl,by decide +kernel,by decide +kernel⟩
theorem zn6 {K:y00} {f:Addr} {fd:y0b} (F:Fun K "_law_drawn" "_law_drawn" z5u f fd):z0p K fd ["_law_number","_law_k"] []:=F.binds (ps:=["_law_number","_law_k"]) fun _ _ _ _ _ _ us hl=>match us,hl with|[_,_],_=>rfl
theorem z64 {k:Nat} {f:Addr} {fd:y0b} (F:Fun K "_law_drawn" "_law_drawn" z5u f fd) (m:mg "_law_drawn"=some (.ref f)) :Cl P w K mg base "_law_drawn" (k+1) 2 z27 :=
 zat F zew (zn6 F) m fun cdv A outer s H E hr =>
  (z05 (z2u 2 zew.nd (z4q (v2r (zhh (v2r (z81 (v2r (z81 (q_nm 0) (v2r (zhh (v2r z04) (q_nm 1))))) (v2r z04))) (v2r z04))) (v2r z04)))
  (z0a (z2y (z4q (v2r (z81 (v2r (z81 (v2r (zhh (q_nm 2) (q_nm 2))) (v2r (zhh (v2r z04) (q_nm 2))))) (q_nm 1))) (v2r z04)))))
abbrev z6g:Stmt:=top 31
theorem z20:FnScope ["_law_number","_law_zones","_law_k","_law_name","_law_drawn_here","_law_codes","_law_figures","_law_rights","_law_who","_law_times"] ["_law_number"] (z01 z6g):=⟨rfl,rfl,rfl,by decide +kernel,rfl,by decide +kernel,by decide +kernel⟩
theorem zq0 {K:y00} {f:Addr} {fd:y0b} (F:Fun K "_law_plan" "_law_plan" z6g f fd):z0p K fd ["_law_number"] []:=F.binds (ps:=["_law_number"]) fun _ _ _ _ _ _ us hl=>match us,hl with|[_],_=>rfl
theorem zgu {k:Nat} {f:Addr} {fd:y0b} (F:Fun K "_law_plan" "_law_plan" z6g f fd) (m:mg "_law_plan"=some (.ref f)) (z_enumerate:mg "enumerate"=none) (z64:Cl P w K mg base "_law_drawn" k 2 z27) (z_tuple:mg "tuple"=none) (z_range:mg "range"=none):Cl P w K mg base "_law_plan" (k+1) 1 zcj :=
 zat F z20 (zq0 F) m fun cdv A outer s H E hr =>
  (z05 (z2u 1 z20.nd (z1t z03))
  (z05 (zg5 y2e (zt5 z_enumerate (z1t (z00 z0e (z00 z0e (z00 z0e (z00 z0e (z00 z0e (z00 z0e (z00 z0e (z00 z0e z03)))))))))) (zpi (z8k (g_nm 2 z20.nd) (z8k (g_nm 3 z20.nd) zpj)))
  (z05 (z2u 4 z20.nd (z6w (v2r (z24 z64 hr (z00 (z0b 0) (z00 (z0b 2) z03)))) (v2r z04)))
  (z0a (s_if (w_t (w_or (z1a (zoi.or z8g) zho (v2r (z4q (q_nm 4) (v2r z04))) (v2r (z81 (v2r z04) (v2r (z4q (q_nm 0) (v2r z04)))))) (zjg (z1a (z1v (by exact hr.units)) z1w (q_nm 2) (v2r (z4q (v2r (z6w (q_nm 0) (v2r z04))) (v2r z04))))))) (z0a (z2u 1 z20.nd (z81 (q_nm 1) (v2r (z1t (z00 (z1t (z00 (z0b 3) (z00 (q_ix (v2r (z1t (z00 z0e (z00 z0e (z00 z0e (z00 z0e (z00 z0e z03))))))) (v2r (z4q (v2r (z6w (q_nm 4) (v2r z04))) (v2r z04)))) z03))) z03)))))) z3j))))
  (z05 (z2u 5 z20.nd (z1t z03))
  (z05 (zg5 y2e (zt5 z_enumerate (z1t (z00 z0e (z00 z0e (z00 z0e (z00 z0e (z00 z0e (z00 z0e z03)))))))) (zpi (z8k (g_nm 2 z20.nd) (z8k (g_nm 6 z20.nd) zpj)))
  (z05 (z2u 4 z20.nd (z6w (v2r (z24 z64 hr (z00 (z0b 0) (z00 (z81 (v2r z04) (q_nm 2)) z03)))) (v2r z04)))
  (z0a (s_if (w_t (w_or (z1a (zmj.or z6y) zf6 (v2r (z4q (q_nm 4) (v2r z04))) (v2r z04)) (zjg (z1a (z1v (by exact hr.units)) z1w (q_nm 2) (v2r z04))))) (z05 (z2u 7 z20.nd (z5z z_tuple (z3f (v2r (z8e (own:=["_law_j"]) (caps:=[(4,"_law_drawn_here")]) (z8q (sc:=z01 z6g) ["_law_number","_law_zones","_law_k","_law_name","_law_drawn_here","_law_codes","_law_figures","_law_rights","_law_who","_law_times"] rfl rfl rfl (by decide +kernel)) (zlo z_range (v2r z04)) (fun _ _ _ _ _ _=>(g_nm 0 (show y1v (["_law_j","_law_drawn_here"]:List Str) by decide +kernel))) (fun _ _ _ _ _ _=>(zh2 (z1a (zmj.or z6y) zf6 (v2r (z4q (v2r (z6w (q_nm 1) (v2r (q_ix (v2r (z1t (z00 z04 (z00 z04 (z00 z04 z03))))) (q_nm 0))))) (v2r z04))) (v2r z04)))) (fun _ _ _ _ _ _=>(q_ix (v2r (z1t (z00 z0e (z00 z0e (z00 z0e z03))))) (q_nm 0))))) z5k)))
  (z05 (z2u 8 z20.nd (q_ix (v2r (z1t (z00 z0e (z00 z0e (z00 z0e z03))))) (v2r (z4q (v2r (z6w (q_nm 4) (v2r z04))) (v2r z04)))))
  (z0a (z2u 5 z20.nd (z81 (q_nm 5) (v2r (z1t (z00 (z1t (z00 (z0b 6) (z00 (z0b 8) (z00 (z0b 7) (z00 (q_ix (v2r (z1t (z00 z04 (z00 z04 (z00 z04 (z00 z04 (z00 z04 z03))))))) (v2r (z4q (v2r (z6w (q_nm 4) (v2r z04))) (v2r z04)))) z03))))) z03)))))))) z3j))))
  (z05 (z2u 4 z20.nd (z6w (v2r (z24 z64 hr (z00 (z0b 0) (z00 z04 z03)))) (v2r z04)))
  (z05 (z2u 9 z20.nd (z1t (z00 (q_ix (v2r (z1t (z00 z04 (z00 z04 (z00 z04 (z00 z04 z03)))))) (v2r (z4q (q_nm 4) (v2r z04)))) (z00 (q_ix (v2r (z1t (z00 z04 (z00 z04 (z00 z04 (z00 z04 z03)))))) (v2r (z4q (v2r (z6w (q_nm 4) (v2r z04))) (v2r z04)))) (z00 (q_ix (v2r (z1t (z00 z04 (z00 z04 (z00 z04 (z00 z04 z03)))))) (v2r (z4q (v2r (z6w (q_nm 4) (v2r z04))) (v2r z04)))) z03)))))
  (z0a (z2y (z1t (z00 (z0b 1) (z00 (z0b 5) (z00 (z0b 9) z03))))))))))))
abbrev z5t:Stmt:=top 32
theorem z5p:FnScope ["_law_plan_here","_law_number","_law_zone","_law_kind","_law_figures","_law_deed"] ["_law_plan_here","_law_number"] (z01 z5t):=⟨rfl,rfl,rfl,by decide +kernel,rfl,by decide +kernel,by decide +kernel⟩
theorem zn5 {K:y00} {f:Addr} {fd:y0b} (F:Fun K "_law_event" "_law_event" z5t f fd):z0p K fd ["_law_plan_here","_law_number"] []:=F.binds (ps:=["_law_plan_here","_law_number"]) fun _ _ _ _ _ _ us hl=>match us,hl with|[_,_],_=>rfl
theorem ze4 {k:Nat} {f:Addr} {fd:y0b} (F:Fun K "_law_event" "_law_event" z5t f fd) (m:mg "_law_event"=some (.ref f)) (z_len:mg "len"=none):Cl P w K mg base "_law_event" (k+1) 2 z57 :=
 zat F z5p (zn5 F) m fun cdv A outer s H E hr =>
  (z05 (z2u 2 z5p.nd (q_ix (v2r (q_ix (v2r (q_ix (q_nm 0) (v2r z04))) (v2r (z4q (v2r (z6w (q_nm 1) (v2r z04))) (v2r (zqy z_len (z3f (v2r (q_ix (q_nm 0) (v2r z04))) z5k))))))) (v2r z04)))
  (z05 (z2u 3 z5p.nd (z4q (q_nm 1) (v2r z04)))
  (z05 (s_if (z1a (zoi.or z8g) zho (q_nm 3) (v2r z04)) (z0a (z2y (z1t (z00 z0e (z00 (z0b 2) (z00 (q_ix (v2r (z1t (z00 z0e (z00 z0e (z00 z0e (z00 z0e z03)))))) (v2r (z4q (v2r (z6w (q_nm 1) (v2r z04))) (v2r z04)))) z03)))))) z3j)
  (z05 (s_if (z1a (zoi.or z8g) zho (q_nm 3) (v2r z04)) (z0a (z2y (z1t (z00 z0e (z00 (z81 (v2r z04) (v2r (z4q (v2r (z6w (q_nm 1) (v2r z04))) (v2r (q_ix (v2r (z1t (z00 z04 (z00 z04 (z00 z04 z03))))) (v2r (z4q (v2r (z6w (q_nm 1) (v2r z04))) (v2r z04)))))))) z03))))) z3j)
  (z05 (z2u 4 z5p.nd (q_ix (v2r (q_ix (v2r (q_ix (q_nm 0) (v2r z04))) (v2r (z4q (v2r (z6w (q_nm 1) (v2r z04))) (v2r (zqy z_len (z3f (v2r (q_ix (q_nm 0) (v2r z04))) z5k))))))) (v2r z04)))
  (z05 (s_if (z1a (z1v (by exact hr.units)) z1w (v2r (z4q (v2r (z6w (q_nm 1) (v2r z04))) (v2r z04))) (v2r z04)) (z0a (z2u 4 z5p.nd (q_ix (v2r (z1t (z00 z0e (z00 z0e (z00 z0e (z00 z0e z03)))))) (v2r (z4q (v2r (z6w (q_nm 1) (v2r z04))) (v2r z04)))))) z3j)
  (z05 (z2u 5 z5p.nd (q_ix (v2r (z1t (z00 z0e (z00 z0e (z00 z0e (z00 z0e (z00 z0e (z00 z0e z03)))))))) (v2r (z4q (v2r (z6w (q_nm 1) (v2r z04))) (v2r z04)))))
  (z05 (s_if (z1a (zhm (by exact hr.units)) z9r (q_nm 5) (v2r (z1t (z00 z0e (z00 z0e z03))))) (z0a (z2y (z1t (z00 z0e (z00 (z0b 4) (z00 (z0b 5) (z00 zba z03))))))) z3j)
  (z0a (z2y (z1t (z00 z0e (z00 (z0b 4) (z00 (z0b 5) (z00 (z0b 2) z03)))))))))))))))
abbrev z8c:Stmt:=top 33
theorem zg3:FnScope ["_law_plan_here","_law_number","_law_most","_law_row_here"] ["_law_plan_here","_law_number","_law_most"] (z01 z8c):=⟨rfl,rfl,rfl,by decide +kernel,rfl,by decide +kernel,by decide +kernel⟩
theorem zs4 {K:y00} {f:Addr} {fd:y0b} (F:Fun K "_law_row" "_law_row" z8c f fd):z0p K fd ["_law_plan_here","_law_number","_law_most"] []:=F.binds (ps:=["_law_plan_here","_law_number","_law_most"]) fun _ _ _ _ _ _ us hl=>match us,hl with|[_,_,_],_=>rfl
theorem zkh {k:Nat} {f:Addr} {fd:y0b} (F:Fun K "_law_row" "_law_row" z8c f fd) (m:mg "_law_row"=some (.ref f)) (z_tuple:mg "tuple"=none) (ze4:Cl P w K mg base "_law_event" k 2 z57) (z_len:mg "len"=none) (z_range:mg "range"=none) (z64:Cl P w K mg base "_law_drawn" k 2 z27):Cl P w K mg base "_law_row" (k+1) 3 zbi :=
 zat F zg3 (zs4 F) m fun cdv A outer s H E hr =>
  (z05 (z2u 3 zg3.nd (z5z z_tuple (z3f (v2r (z8e (own:=["_law_k"]) (caps:=[(0,"_law_plan_here"),(1,"_law_number")]) (z8q (sc:=z01 z8c) ["_law_plan_here","_law_number","_law_most","_law_row_here"] rfl rfl rfl (by decide +kernel)) (zlo z_range (v2r (z4q (q_nm 1) (v2r (z81 (q_nm 2) (v2r z04)))))) (fun _ _ _ _ _ _=>(g_nm 0 (show y1v (["_law_k","_law_plan_here","_law_number"]:List Str) by decide +kernel))) (fun _ _ _ _ _ _=>zer) (fun _ _ _ _ _ _=>(z24 (by exact ze4) (by exact hr) (z00 (z0b 1) (z00 (z6w (v2r (z24 (by exact z64) (by exact hr) (z00 (z0b 2) (z00 (z81 (v2r z04) (q_nm 0)) z03)))) (v2r z04)) z03)))))) z5k)))
  (z05 (s_if (w_t (zqd (z1a (z1v (by exact hr.units)) z1w (v2r (z4q (v2r (z6w (q_nm 1) (v2r z04))) (v2r z04))) (v2r z04)) (zkv (z1a (zmj.or z6y) zf6 (v2r (zqy z_len (z3f (q_nm 3) z5k))) (v2r z04))))) (z0a (z2u 3 zg3.nd (z81 (v2r (zts (q_nm 3) zwl (zwk (v2r (zvt (v2r z04)))))) (v2r (zxp (v2r (z1t (z00 (z1t (z00 z0e (z00 z0e (z00 z0e (z00 zba z03))))) z03))) (v2r z04)))))) z3j)
  (z0a (zsi 3))))
abbrev z50:Stmt:=top 34
theorem zcv:FnScope ["_law_deed","_law_found","e","_law_kinds"] ["_law_deed"] (z01 z50):=⟨rfl,rfl,rfl,by decide +kernel,rfl,by decide +kernel,by decide +kernel⟩
theorem zj0 {K:y00} {f:Addr} {fd:y0b} (F:Fun K "_law_told" "_law_told" z50 f fd):z0p K fd ["_law_deed"] []:=F.binds (ps:=["_law_deed"]) fun _ _ _ _ _ _ us hl=>match us,hl with|[_],_=>rfl
theorem zi5 {f:Addr} (cdv:Value) (A:Around) (outer:List Env) (s:y04) (H:Hp):PSs (cxOf CX0 P w K mg base ["_law_deed","_law_found","e","_law_kinds"] "_law_told" (z01 z50) f cdv A outer s H E0).nox (z06 z50) (ztd (cxOf CX0 P w K mg base ["_law_deed","_law_found","e","_law_kinds"] "_law_told" (z01 z50) f cdv A outer s H E0).nox) :=
 zla (zw3 (zjw (zlb zcv.nd rfl (Or.inl rfl) (zof (z35 zsq (z35 (zu4 (pv 0)) z6x)))))) (zjw (zf3 (pv 1)))
abbrev z4m:Stmt:=top 35
theorem zjn:FnScope ["_law_box","_law_event_here"] ["_law_box","_law_event_here"] (z01 z4m):=⟨rfl,rfl,rfl,by decide +kernel,rfl,by decide +kernel,by decide +kernel⟩
theorem zkl {K:y00} {f:Addr} {fd:y0b} (F:Fun K "_law_box_do" "_law_box_do" z4m f fd):z0p K fd ["_law_box","_law_event_here"] []:=F.binds (ps:=["_law_box","_law_event_here"]) fun _ _ _ _ _ _ us hl=>match us,hl with|[_,_],_=>rfl
theorem z95 {k:Nat} {f:Addr} {fd:y0b} (F:Fun K "_law_box_do" "_law_box_do" z4m f fd) (m:mg "_law_box_do"=some (.ref f)) (kcBox:ClOk K 1 CBox ["plan","events","states"]) (z4y:MtMd P w K mg base CBox 1 "ticks" k 2 z2l) (zbm:MtMd P w K mg base CBox 1 "line" k 3 z70) (zbn:MtMd P w K mg base CBox 1 "code" k 4 z71):ClM P w K mg base "_law_box_do" 1 0 (k+1) 2 z3i :=
 zx3 F zjn (zkl F) m fun cdv A outer s H E hr =>
  (z05 (s_if (z1a (z1v (by exact hr.units)) z1w (v2r (q_ix (q_nm 1) (v2r z04))) (v2r z0e)) (z0a (zez (z0n kcBox zbm hr (pv 0) (z00 (q_ix (q_nm 1) (v2r z04)) (z00 (q_ix (q_nm 1) (v2r z04)) z03))))) z3j)
  (z05 (s_if (z1a (z1v (by exact hr.units)) z1w (v2r (q_ix (q_nm 1) (v2r z04))) (v2r z0e)) (z0a (zez (z0n kcBox zbn hr (pv 0) (z00 (q_ix (q_nm 1) (v2r z04)) (z00 (q_ix (q_nm 1) (v2r z04)) (z00 (q_ix (q_nm 1) (v2r z04)) z03)))))) z3j)
  (z0a (zez (z0n kcBox z4y hr (pv 0) (z00 (q_ix (q_nm 1) (v2r z04)) z03))))))
abbrev zah:Stmt:=top 36
theorem z87:FnScope ["_law_script","_law_plan_here","_law_one","_law_two","_law_event_here","_law_before","_law_many","_law_told_here","_law_found","_law_k"] ["_law_script"] (z01 zah):=⟨rfl,rfl,rfl,by decide +kernel,rfl,by decide +kernel,by decide +kernel⟩
theorem zy4 {k:Nat} {f cL Pt:Addr} {oc:Value} {od an:Option Addr} {osl:Array (Option Value)} {kV doc pm ct:Value} (l:K.lookup f=some ⟨oc,od,.func (y0j "law" "law" (z09 zah) (z06 zah) (z01 zah) .none kV doc pm an (.ref cL) ct),osl⟩) (hcd:y0g K (.ref cL) "law"=true) (hCH:PySem.W.codeHdIn K cL Pt=true) (hbm:BM mg base) (htb:Tbl.tb=[(Pt,(("law":Str)++".<locals>.")++"<lambda>")]) (kcBox:ClOk K 1 CBox ["plan","events","states"]) (zgu:Cl P w K mg base "_law_plan" k 1 zcj) (zkh:Cl P w K mg base "_law_row" k 3 zbi) (z1q:MtRd P w K mg base CBox "state" k 1 z0s) (z4y:MtMd P w K mg base CBox 1 "ticks" k 2 z2l) (z_range:mg "range"=none) (z8t:Cl P w K mg base "_law_mixed" k 2 z3c) (c_Box:ClNew P w K mg base "Box" CBox 1 k 2 z34) (z95:ClM P w K mg base "_law_box_do" 1 0 k 2 z3i) (z74:MtRd P w K mg base CBox "log" k 1 z2s) (z7o:MtRd P w K mg base CBox "shown" k 1 z4v) {f_l_told:Addr} {fd_l_told:y0b} (F_l_told:Fun K "_law_told" "_law_told" z50 f_l_told fd_l_told) (m_l_told:mg "_law_told"=some (.ref f_l_told)) (z73:MtRd P w K mg base CBox "row" k 1 z3p) (z96:MtMd P w K mg base CBox 1 "undo" k 1 z48):FnOk P w K mg base CX0 (k+3) f (y0j "law" "law" (z09 zah) (z06 zah) (z01 zah) .none kV doc pm an (.ref cL) ct) ["_law_script"] (spT K 1 zmy) :=
 zuu l hcd z87 fun A outer s H E hr =>
  (z05 (z2u 1 z87.nd (z24 zgu (hr.mono (Nat.le_add_right _ 2)) (z00 (z24 z8t (hr.mono (Nat.le_add_right _ 2)) (z00 (z0b 0) (z00 z04 z03))) z03)))
  (z05 (zvl 2 3 z87.nd (zuc kcBox c_Box (hr.mono (y2p _)) (z00 (z0b 1) z03)) (zuc kcBox c_Box (hr.mono (y2p _)) (z00 (z0b 1) z03)))
  (z05 (zg5 y2e (zcb (z24 zkh (hr.mono (Nat.le_add_right _ 2)) (z00 (z0b 1) (z00 (z24 z8t (hr.mono (Nat.le_add_right _ 2)) (z00 (z0b 0) (z00 z04 z03))) (z00 z04 z03))))) (g_nm 4 z87.nd)
  (z0a (ztk (ztc (z6i (by exact hr.units)) z6j (znj kcBox z95 (hr.mono (Nat.le_add_right _ 2)) (pv 2) (z00 (z0b 4) z03)) (znj kcBox z95 (hr.mono (Nat.le_add_right _ 2)) (pv 3) (z00 (z0b 4) z03))) (z0a (z2y q_bl)) z3j)))
  (z05 (z2u 5 z87.nd (z2d kcBox z1q (hr.mono (Nat.le_add_right _ 2)) (pv 2)))
  (z05 (z2u 6 z87.nd (z81 (v2r z04) (v2r (z4q (v2r (z24 z8t (hr.mono (Nat.le_add_right _ 2)) (z00 (z0b 0) (z00 z04 z03)))) (v2r z04)))))
  (z05 (zsl 7 z87.nd (z0n kcBox z4y (hr.mono (Nat.le_add_right _ 2)) (pv 2) (z00 (z0b 6) z03)))
  (z05 (z2u 8 z87.nd (z1t z03))
  (z05 (zg5 y2e (zlo z_range (q_nm 6)) (g_nm 9 z87.nd)
  (z0a (zsl 8 z87.nd (zx6 (zni (z0b 8)) (z0n kcBox z4y (hr.mono (Nat.le_add_right _ 2)) (pv 3) (z00 z04 z03))))))
  (z05 (s_if (w_t (w_or (z1a (z6i (by exact hr.units)) z6j (q_nm 8) (q_nm 7)) (w_or (z1a (z6i (by exact hr.units)) z6j (v2r (z2d kcBox z1q (hr.mono (Nat.le_add_right _ 2)) (pv 2))) (v2r (z2d kcBox z1q (hr.mono (Nat.le_add_right _ 2)) (pv 3)))) (w_or (z1a (z6i (by exact hr.units)) z6j (v2r (z2d kcBox z74 (hr.mono (Nat.le_add_right _ 2)) (pv 2))) (v2r (z2d kcBox z74 (hr.mono (Nat.le_add_right _ 2)) (pv 3)))) (zjg (z1a (z6i (by exact hr.units)) z6j (v2r (z2d kcBox z7o (hr.mono (Nat.le_add_right _ 2)) (pv 2))) (v2r (z2d kcBox z7o (hr.mono (Nat.le_add_right _ 2)) (pv 3))))))))) (z0a (z2y q_bl)) z3j)
  (z05 (ztk (y_t (y_or (ztc (z6i (by exact hr.units)) z6j (znh F_l_told zcv (zj0 F_l_told) m_l_told (fun cdv A outer s H=>zi5 cdv A outer s H) rfl hCH hbm htb hr (fun q c2 cl A2 o2 s2 H2 hrL=>(z5l kcBox z96 hrL (pv 2)))) (zni (z1t (z00 z0e (z00 zba z03))))) (zx5 (zv9 (z1a (z6i (by exact hr.units)) z6j (v2r (z2d kcBox z1q (hr.mono (Nat.le_add_right _ 2)) (pv 2))) (q_nm 5)))))) (z0a (z2y q_bl)) z3j)
  (z05 (zg5 y2e (zlo z_range (q_nm 6)) (g_nm 9 z87.nd)
  (z0a (ztk (ztc (z6i (by exact hr.units)) z6j (znh F_l_told zcv (zj0 F_l_told) m_l_told (fun cdv A outer s H=>zi5 cdv A outer s H) rfl hCH hbm htb hr (fun q c2 cl A2 o2 s2 H2 hrL=>(z5l kcBox z96 hrL (pv 3)))) (zni (z1t (z00 z0e (z00 zba z03))))) (z0a (z2y q_bl)) z3j)))
  (z0a (z2y (zqz (zd0 (z1v (by exact hr.units)) z1w (v2r (z2d kcBox z1q (hr.mono (Nat.le_add_right _ 2)) (pv 3))) (q_nm 5)) (zqz (zd0 (z1v (by exact hr.units)) z1w (v2r (z2d kcBox z74 (hr.mono (Nat.le_add_right _ 2)) (pv 3))) (v2r (z2d kcBox z74 (hr.mono (Nat.le_add_right _ 2)) (pv 2)))) (zo8 (zd0 (z1v (by exact hr.units)) z1w (v2r (z2d kcBox z73 (hr.mono (Nat.le_add_right _ 2)) (pv 3))) (v2r (z2d kcBox z73 (hr.mono (Nat.le_add_right _ 2)) (pv 2))))))))))))))))))))
end
end K43
end
section
namespace D
open PySem
theorem zr8 (ss:List Str) (h:∀x∈ss,(y23 x).canLay0=true):y1j (ss.map .str)=true/\y1h (ss.map .str)<=1:=by
 induction ss with
 | nil=>simp[y1j,y1h]
 | cons n ns ih =>
  have h1:=h n (by simp)
  have h2:=ih fun x hx=>h x (by simp[hx])
  simp[y1j,y1h,y2d,h1,h2]
theorem zgo (n:Str):∀ns:List Str,hasT (.str n) (ns.map .str)=decide (n∈ns)
 | []=>by simp[hasT]
 | m::ns=>by
  have ih:=zgo n ns
  unfold hasT at ih ⊢
  rw[y0e,List.any_cons,ih]
  simp[y28,Bool.beq_eq_decide_eq,eq_comm]
theorem zd4 (n:Int):okT (.int n)=true:=by simp[okT,PyData.canLay0,y2d]
theorem zbb {x:Str} (h:(y23 x).canLay0=true):okT (.str x)=true:=by simp[okT,y2d,h]
theorem zhq (ss:List Str) (h:∀x∈ss,(y23 x).canLay0=true):okL (ss.map .str)=true:=by
 have:=zr8 ss h
 simp[okL,this.1]
 omega
theorem zud (neg:Bool) (n:Str) (ns:List Str) (h0:(y23 n).canLay0=true) (h:∀x∈ns,(y23 x).canLay0=true):oIn neg (.str n) (.tuple (ns.map .str))=some (.bool (if neg then !decide (n∈ns) else decide (n∈ns))):=by
 simp only[oIn,zbb h0,zhq ns h,zgo,Bool.and_self,if_true]
end D
end
section
namespace Co
open D PySem
structure Cd where
 fig:Str
 who:Str
 rights:List Str
 uses:Int
structure Pl where
 zones:List (Str×Str)
 codes:List Cd
 leave:Int
 come:Int
 loud:Int
structure Cs where
 mode:Str
 left:Int
 came:Option Str
 lines:List (Str×Str)
 shunts:List Str
 siren:Int
 alarms:List Str
 tries:Int
 locked:Int
 used:List (Str×Int)
 past:Int
 told:List (Int×Str×Option Str)
def oS:Option Str->T
 | none=>.none
 | some x=>.str x
def encZ (z:Str×Str):T:=.tuple [.str z.1,.str z.2]
def z26 (c:Cd):T:=.tuple [.str c.fig,.str c.who,.tuple (c.rights.map .str),.int c.uses]
def encP (p:Pl):T:=.tuple [.tuple (p.zones.map encZ),.tuple (p.codes.map z26),.tuple [.int p.leave,.int p.come,.int p.loud]]
def encW (w:Int×Str×Option Str):T:=.tuple [.int w.1,.str w.2.1,oS w.2.2]
def dS (l:List (Str×Str)):List (D.Key×T):=l.map fun p=>(.inr p.1,.str p.2)
def dI (l:List (Str×Int)):List (D.Key×T):=l.map fun p=>(.inr p.1,.int p.2)
noncomputable def encC (p:Pl) (c:Cs):List Sl:=[.imm (encP p),.imm (.str c.mode),.imm (.int c.left),.imm (oS c.came),.dic (dS c.lines),.own (c.shunts.map .str),.imm (.int c.siren),.own (c.alarms.map .str),.imm (.int c.tries),.imm (.int c.locked),.dic (dI c.used),.imm (.int c.past),.own (c.told.map encW)]
theorem z5m:¬(("off":Str)="leaving"):=by decide +kernel
theorem zlm:¬(("off":Str)="on"):=by decide +kernel
theorem z47:¬(("off":Str)="coming"):=by decide +kernel
theorem zan:¬(("leaving":Str)="off"):=by decide +kernel
theorem zc0:¬(("leaving":Str)="on"):=by decide +kernel
theorem z5a:¬(("leaving":Str)="coming"):=by decide +kernel
theorem zll:¬(("on":Str)="off"):=by decide +kernel
theorem z8i:¬(("on":Str)="leaving"):=by decide +kernel
theorem z61:¬(("on":Str)="coming"):=by decide +kernel
theorem zc2:¬(("coming":Str)="off"):=by decide +kernel
theorem z7v:¬(("coming":Str)="leaving"):=by decide +kernel
theorem zdd:¬(("coming":Str)="on"):=by decide +kernel
theorem zd6:¬(("shut":Str)="open"):=by decide +kernel
theorem zfb:¬(("shut":Str)="cut"):=by decide +kernel
theorem zd8:¬(("open":Str)="shut"):=by decide +kernel
theorem zfc:¬(("open":Str)="cut"):=by decide +kernel
theorem zfg:¬(("cut":Str)="shut"):=by decide +kernel
theorem zfh:¬(("cut":Str)="open"):=by decide +kernel
theorem zdc:¬(("day":Str)="inner"):=by decide +kernel
theorem zff:¬(("day":Str)="once"):=by decide +kernel
theorem zhw:¬(("day":Str)="way"):=by decide +kernel
theorem zdb:¬(("inner":Str)="day"):=by decide +kernel
theorem zc1:¬(("inner":Str)="once"):=by decide +kernel
theorem zda:¬(("inner":Str)="way"):=by decide +kernel
theorem zfe:¬(("once":Str)="day"):=by decide +kernel
theorem zby:¬(("once":Str)="inner"):=by decide +kernel
theorem zfd:¬(("once":Str)="way"):=by decide +kernel
theorem zhv:¬(("way":Str)="day"):=by decide +kernel
theorem zd5:¬(("way":Str)="inner"):=by decide +kernel
theorem zfa:¬(("way":Str)="once"):=by decide +kernel
theorem zd7:¬(("set":Str)="unset"):=by decide +kernel
theorem za2:¬(("set":Str)="shunt"):=by decide +kernel
theorem z8z:¬(("set":Str)="free"):=by decide +kernel
theorem z7e:¬(("unset":Str)="set"):=by decide +kernel
theorem z7d:¬(("unset":Str)="shunt"):=by decide +kernel
theorem z6m:¬(("unset":Str)="free"):=by decide +kernel
theorem z7f:¬(("shunt":Str)="set"):=by decide +kernel
theorem z4c:¬(("shunt":Str)="unset"):=by decide +kernel
theorem zbx:¬(("shunt":Str)="free"):=by decide +kernel
theorem z90:¬(("free":Str)="set"):=by decide +kernel
theorem z54:¬(("free":Str)="unset"):=by decide +kernel
theorem z55:¬(("free":Str)="shunt"):=by decide +kernel
theorem zd9:¬(("line":Str)="code"):=by decide +kernel
theorem zbz:¬(("line":Str)="ticks"):=by decide +kernel
theorem zde:¬(("code":Str)="line"):=by decide +kernel
theorem zc3:¬(("code":Str)="ticks"):=by decide +kernel
theorem zbv:¬(("ticks":Str)="line"):=by decide +kernel
theorem zbw:¬(("ticks":Str)="code"):=by decide +kernel
def tell (w:Str) (n:Option Str) (c:Cs):Cs:={ c with told:=c.told++[(c.past,w,n)] }
def beLoud (p:Pl) (c:Cs):Cs:={ c with siren:=p.loud }
def alarm (p:Pl) (z:Str) (c:Cs):Cs:=if z∈c.alarms then beLoud p c else tell "alarm" (some z) { beLoud p c with alarms:=c.alarms++[z] }
section
variable (p:Pl) (c:Cs)
theorem zrt:(encC p c).length=13:=rfl
theorem e0:(encC p c)[0]?=some (.imm (encP p)):=rfl
theorem e1:(encC p c)[1]?=some (.imm (.str c.mode)):=rfl
theorem e2:(encC p c)[2]?=some (.imm (.int c.left)):=rfl
theorem e3:(encC p c)[3]?=some (.imm (oS c.came)):=rfl
theorem e4:(encC p c)[4]?=some (.dic (dS c.lines)):=rfl
theorem e5:(encC p c)[5]?=some (.own (c.shunts.map .str)):=rfl
theorem e6:(encC p c)[6]?=some (.imm (.int c.siren)):=rfl
theorem e7:(encC p c)[7]?=some (.own (c.alarms.map .str)):=rfl
theorem e8:(encC p c)[8]?=some (.imm (.int c.tries)):=rfl
theorem e9:(encC p c)[9]?=some (.imm (.int c.locked)):=rfl
theorem e10:(encC p c)[10]?=some (.dic (dI c.used)):=rfl
theorem e11:(encC p c)[11]?=some (.imm (.int c.past)):=rfl
theorem e12:(encC p c)[12]?=some (.own (c.told.map encW)):=rfl
theorem s1 (x:Str):(encC p c).set 1 (.imm (.str x))=encC p { c with mode:=x }:=rfl
theorem s2 (x:Int):(encC p c).set 2 (.imm (.int x))=encC p { c with left:=x }:=rfl
theorem s3 (x:Str):(encC p c).set 3 (.imm (.str x))=encC p { c with came:=some x }:=rfl
theorem s3n:(encC p c).set 3 (.imm .none)=encC p { c with came:=none }:=rfl
theorem s4 (l:List (Str×Str)):(encC p c).set 4 (.dic (dS l))=encC p { c with lines:=l }:=rfl
theorem s5 (l:List Str):(encC p c).set 5 (.own (l.map .str))=encC p { c with shunts:=l }:=rfl
theorem s5n:(encC p c).set 5 (.own [])=encC p { c with shunts:=[] }:=rfl
theorem s6 (x:Int):(encC p c).set 6 (.imm (.int x))=encC p { c with siren:=x }:=rfl
theorem s7 (l:List Str):(encC p c).set 7 (.own (l.map .str))=encC p { c with alarms:=l }:=rfl
theorem s7n:(encC p c).set 7 (.own [])=encC p { c with alarms:=[] }:=rfl
theorem s7a (l:List Str) (z:Str):(encC p c).set 7 (.own (l.map .str++[.str z]))=encC p { c with alarms:=l++[z] }:=by simp[encC]
theorem s8 (x:Int):(encC p c).set 8 (.imm (.int x))=encC p { c with tries:=x }:=rfl
theorem s9 (x:Int):(encC p c).set 9 (.imm (.int x))=encC p { c with locked:=x }:=rfl
theorem s10 (l:List (Str×Int)):(encC p c).set 10 (.dic (dI l))=encC p { c with used:=l }:=rfl
theorem s11 (x:Int):(encC p c).set 11 (.imm (.int x))=encC p { c with past:=x }:=rfl
theorem s12a (l:List (Int×Str×Option Str)) (i:Int) (w:Str) (n:Option Str):(encC p c).set 12 (.own (l.map encW++[.tuple [.int i,.str w,oS n]]))=encC p { c with told:=l++[(i,w,n)] }:=by simp[encC,encW]
end
end Co
open D Co
open PySem hiding run fresh code
local macro_rules
 | `(tactic| simp! [sp1,$xs,*] $[$l]?)=>`(tactic| simp[zrt,e0,e1,e2,e3,e4,e5,e6,e7,e8,e9,e10,e11,e12,s1,s2,s3,s3n,s4,s5,s5n,s6,s7,s7n,s7a,s8,s9,s10,s11,s12a,runM,runR,z5r,z56,exX,z0t,z2b,rtnM,zg7,rtnX,asgF,z8w,augF,appF,setF,objF,fld,fldV,fldD,fldL,fGet,zhj,zj9,zgh,zhu,asgX,ifE,z80,runF,seq,iff,tstB,tstL,andT,orT,notT,cstT,ofT,op1,op2,opN,args,cst,nm,nmV,rtn,skip,asg,asgN,asgT,par,z0g,z5b,oIsN,z82,oIx,atZ,ixOf,gNm,gTu,gAll,z4d,comp,z59,$xs,*] $[$l]?)
local macro_rules
 | `(tactic| simp! [sp2,$xs,*] $[$l]?)=>`(tactic| simp[runF,seq,iff,tstB,tstL,andT,orT,notT,cstT,ofT,op1,op2,opN,args,cst,nm,nmV,rtn,skip,asg,asgN,asgT,par,z0g,z5b,oIsN,z82,oIx,atZ,ixOf,gNm,gTu,gAll,z4d,comp,z59,$xs,*] $[$l]?)
 | `(tactic| simp! [sp2] $[$l]?)=>`(tactic| simp[runF,seq,iff,tstB,tstL,andT,orT,notT,cstT,ofT,op1,op2,opN,args,cst,nm,nmV,rtn,skip,asg,asgN,asgT,par,z0g,z5b,oIsN,z82,oIx,atZ,ixOf,gNm,gTu,gAll,z4d,comp,z59] $[$l]?)
local macro_rules
 | `(tactic| simp! [sp3,$xs,*] $[$l]?)=>`(tactic| simp[oAdd,oSub,oMul,oDiv,oMod,oNeg,oLen,oMin,oMax,z30,zwm,oInt,oLt,oLe,oGt,oGe,big,zrt,e0,e1,e2,e3,e4,e5,e6,e7,e8,e9,e10,e11,e12,s1,s2,s3,s3n,s4,s5,s5n,s6,s7,s7n,s7a,s8,s9,s10,s11,s12a,runM,runR,z5r,z56,exX,z0t,z2b,rtnM,zg7,rtnX,asgF,z8w,augF,appF,setF,objF,fld,fldV,fldD,fldL,fGet,zhj,zj9,zgh,zhu,asgX,ifE,z80,runF,seq,iff,tstB,tstL,andT,orT,notT,cstT,ofT,op1,op2,opN,args,cst,nm,nmV,rtn,skip,asg,asgN,asgT,par,z0g,z5b,oIsN,z82,oIx,atZ,ixOf,gNm,gTu,gAll,z4d,comp,z59,$xs,*] $[$l]?)
local macro_rules
 | `(tactic| simp! [sp4,$xs,*] $[$l]?)=>`(tactic| simp[runM,runR,z5r,z56,exX,z0t,z2b,rtnM,zg7,rtnX,asgF,z8w,augF,appF,setF,objF,fld,fldV,fldD,fldL,fGet,zhj,zj9,zgh,zhu,asgX,ifE,z80,runF,seq,iff,tstB,tstL,andT,orT,notT,cstT,ofT,op1,op2,opN,args,cst,nm,nmV,rtn,skip,asg,asgN,asgT,par,z0g,z5b,oIsN,z82,oIx,atZ,ixOf,gNm,gTu,gAll,z4d,comp,z59,$xs,*] $[$l]?)
local macro_rules
 | `(tactic| simp! [sp5,$xs,*] $[$l]?)=>`(tactic| simp[zrt,e0,e1,e2,e3,e4,e5,e6,e7,e8,e9,e10,e11,e12,s1,s2,s3,s3n,s4,s5,s5n,s6,s7,s7n,s7a,s8,s9,s10,s11,s12a,runM,runR,z5r,z56,exX,z0t,z2b,rtnM,zg7,rtnX,asgF,z8w,augF,appF,setF,objF,fld,fldV,fldD,fldL,fGet,zhj,zj9,zgh,zhu,asgX,ifE,z80,z5m,zlm,z47,zan,zc0,z5a,zll,z8i,z61,zc2,z7v,zdd,zd6,zfb,zd8,zfc,zfg,zfh,zdc,zff,zhw,zdb,zc1,zda,zfe,zby,zfd,zhv,zd5,zfa,zd7,za2,z8z,z7e,z7d,z6m,z7f,z4c,zbx,z90,z54,z55,zd9,zbz,zde,zc3,zbv,zbw,runF,seq,iff,tstB,tstL,andT,orT,notT,cstT,ofT,op1,op2,opN,args,cst,nm,nmV,rtn,skip,asg,asgN,asgT,par,z0g,z5b,oIsN,z82,oIx,atZ,ixOf,gNm,gTu,gAll,z4d,comp,z59,$xs,*] $[$l]?)
local macro_rules
 | `(tactic| simp! [sp6,$xs,*] $[$l]?)=>`(tactic| simp[oAdd,oSub,oMul,oDiv,oMod,oNeg,oLen,oMin,oMax,z30,zwm,oInt,oLt,oLe,oGt,oGe,big,runF,seq,iff,tstB,tstL,andT,orT,notT,cstT,ofT,op1,op2,opN,args,cst,nm,nmV,rtn,skip,asg,asgN,asgT,par,z0g,z5b,oIsN,z82,oIx,atZ,ixOf,gNm,gTu,gAll,z4d,comp,z59,$xs,*] $[$l]?)
local macro_rules
 | `(tactic| simp! [sp7,$xs,*] $[$l]?)=>`(tactic| simp[runM,runR,z5r,z56,exX,z0t,z2b,rtnM,zg7,rtnX,asgF,z8w,augF,appF,setF,objF,fld,fldV,fldD,fldL,fGet,zhj,zj9,zgh,zhu,asgX,ifE,z80,$xs,*] $[$l]?)
local macro_rules
 | `(tactic| simp! [sp8,$xs,*] $[$l]?)=>`(tactic| simp[zrt,e0,e1,e2,e3,e4,e5,e6,e7,e8,e9,e10,e11,e12,s1,s2,s3,s3n,s4,s5,s5n,s6,s7,s7n,s7a,s8,s9,s10,s11,s12a,$xs,*] $[$l]?)
local macro_rules
 | `(tactic| simp! [sp9,$xs,*] $[$l]?)=>`(tactic| simp[runF,seq,iff,tstB,tstL,andT,orT,notT,cstT,ofT,op1,op2,opN,args,cst,nm,nmV,rtn,skip,asg,asgN,asgT,par,z0g,z5b,oIsN,z82,gNm,gTu,gAll,z4d,comp,z59,$xs,*] $[$l]?)
 | `(tactic| simp! [sp9] $[$l]?)=>`(tactic| simp[runF,seq,iff,tstB,tstL,andT,orT,notT,cstT,ofT,op1,op2,opN,args,cst,nm,nmV,rtn,skip,asg,asgN,asgT,par,z0g,z5b,oIsN,z82,gNm,gTu,gAll,z4d,comp,z59] $[$l]?)
local macro_rules
 | `(tactic| simp! [sp10,$xs,*] $[$l]?)=>`(tactic| simp[z5m,zlm,z47,zan,zc0,z5a,zll,z8i,z61,zc2,z7v,zdd,zd6,zfb,zd8,zfc,zfg,zfh,zdc,zff,zhw,zdb,zc1,zda,zfe,zby,zfd,zhv,zd5,zfa,zd7,za2,z8z,z7e,z7d,z6m,z7f,z4c,zbx,z90,z54,z55,zd9,zbz,zde,zc3,zbv,zbw,runF,seq,iff,tstB,tstL,andT,orT,notT,cstT,ofT,op1,op2,opN,args,cst,nm,nmV,rtn,skip,asg,asgN,asgT,par,z0g,z5b,oIsN,z82,oIx,atZ,ixOf,gNm,gTu,gAll,z4d,comp,z59,$xs,*] $[$l]?)
namespace Co
open D PySem
def okS (x:Str):Prop:=(y23 x).canLay0=true
theorem z0f {x y:Str} (h1:okS x) (h2:okS y):oEq (.str x) (.str y)=some (.bool (decide (x=y))):=by
 unfold oEq
 rw[zbb h1,zbb h2]
 by_cases e:x=y <;> simp[y28,e]
theorem z60 {x y:Str} (h1:okS x) (h2:okS y):oNe (.str x) (.str y)=some (.bool (!decide (x=y))):=by
 unfold oNe
 rw[zbb h1,zbb h2]
 by_cases e:x=y <;> simp[y28,e]
theorem zam (neg:Bool) {n:Str} {ns:List Str} (h0:okS n) (h:∀x∈ns,okS x):oIn neg (.str n) (.list (ns.map .str))=some (.bool (if neg then !decide (n∈ns) else decide (n∈ns))):=by
 simp only[oIn,zbb h0,zhq ns h,zgo]
 rfl
theorem zal (neg:Bool) {n:Str} {ns:List Str} (h0:okS n) (h:∀x∈ns,okS x):oIn neg (.str n) (.tuple (ns.map .str))=some (.bool (if neg then !decide (n∈ns) else decide (n∈ns))):=zud neg n ns h0 h
theorem zno (p:Pl) (c:Cs) (w:Str) (n:Option Str) (h:c.told.length<big):z07 [.obj .lent 0 (encC p c),.imm (.str w),.imm (oS n)]=some (.none,encC p (tell w n c)):=by
 have h':c.told.length<16777216:=h
 simp! [sp1,z07,zax,tell,big,h']
theorem zad (p:Pl) (c:Cs) (w:Str) (h:c.told.length<big):z07 [.obj .lent 0 (encC p c),.imm (.str w),.imm .none]=some (.none,encC p (tell w none c)):=zno p c w none h
theorem z4b (p:Pl) (c:Cs) (w z:Str) (h:c.told.length<big):z07 [.obj .lent 0 (encC p c),.imm (.str w),.imm (.str z)]=some (.none,encC p (tell w (some z) c)):=zno p c w (some z) h
theorem zbo (p:Pl) (c:Cs):z1p [.obj .lent 0 (encC p c)]=some (.none,encC p (beLoud p c)):=by
 simp! [sp1,z1p,z7z,beLoud,encP]
structure Wf (p:Pl) (c:Cs):Prop where
 zn:∀z∈p.zones,okS z.1/\okS z.2
 cn:∀k∈p.codes,okS k.fig/\okS k.who/\∀r∈k.rights,okS r
 zl:p.zones.length<=40
 mo:okS c.mode
 ca:∀z,c.came=some z->okS z/\z∈p.zones.map (·.1)
 cm:c.mode="coming"->c.came≠none
 ln:c.lines.map (·.1)=p.zones.map (·.1)
 lo:∀l∈c.lines,okS l.2
 us:c.used.map (·.1)=p.codes.map (·.fig)
 sh:c.shunts.Nodup/\∀z∈c.shunts,z∈p.zones.map (·.1)
 al:c.alarms.Nodup/\∀z∈c.alarms,z∈p.zones.map (·.1)
theorem Wf.okz {p:Pl} {c:Cs} (h:Wf p c) {z:Str} (hz:z∈p.zones.map (·.1)):okS z:=by
 obtain⟨x,hx,rfl⟩:=y0n.mp hz
 exact (h.zn x hx).1
theorem Wf.oksh {p:Pl} {c:Cs} (h:Wf p c):∀z∈c.shunts,okS z:=fun z hz=>h.okz (h.sh.2 z hz)
theorem Wf.okal {p:Pl} {c:Cs} (h:Wf p c):∀z∈c.alarms,okS z:=fun z hz=>h.okz (h.al.2 z hz)
theorem zhs {α:Type} [BEq α] [LawfulBEq α] {l m:List α} (h:l.Nodup) (hs:∀x∈l,x∈m):l.length<=m.length:=by
 induction l generalizing m with
 | nil=>simp
 | cons x l ih =>
  obtain⟨h1,h2⟩:=y0s.mp h
  have hx:=hs x y0f
  have:=ih (m:=m.erase x) h2 fun y hy=>(List.mem_erase_of_ne (fun e:y=x=>h1 (e▸hy))).mpr (hs y (y05 _ hy))
  have hl:=List.length_erase_of_mem hx
  have:=List.length_pos_of_mem hx
  simp only[y0x]
  omega
theorem Wf.alLen {p:Pl} {c:Cs} (h:Wf p c):c.alarms.length<=40:=by
 have:=zhs h.al.1 h.al.2
 have:=h.zl
 simp at *
 omega
theorem Wf.shLen {p:Pl} {c:Cs} (h:Wf p c):c.shunts.length<=40:=by
 have:=zhs h.sh.1 h.sh.2
 have:=h.zl
 simp at *
 omega
theorem zcm (p:Pl) (c:Cs) (z:Str) (h:Wf p c) (hz:okS z) (ht:c.told.length<big):z0k [.obj .lent 0 (encC p c),.imm (.str z)]=some (.none,encC p (alarm p z c)):=by
 have ha:=h.alLen
 have hin:oIn true (.str z) (.list (c.alarms.map .str))=some (.bool (!decide (z∈c.alarms))):=by rw[zam true hz h.okal];rfl
 have hb:(beLoud p c).alarms=c.alarms:=rfl
 have hlt:c.alarms.length<16777216:=by omega
 by_cases hm:z∈c.alarms
 ·simp! [sp1,z0k,z6u,zbo,hb,hin,hm,alarm]
 ·have tl:({ beLoud p c with alarms:=c.alarms++[z] }:Cs).told.length<big:=ht
  simp! [sp1,z0k,z6u,zbo,hb,hin,hm,alarm,big,hlt,z4b p _ "alarm" z tl]
def kindOf (p:Pl) (z:Str):Str:=((p.zones.find? fun x=>decide (x.1=z)).map (·.2)).getD ""
def zfr (p:Pl) (f:Str):Option Cd:=p.codes.find? fun k=>decide (k.fig=f)
theorem zi1 {z:Str} (hz:okS z) (s0:Option Sl):∀(zs:List (Str×Str)) (t0:Option Sl),(∀x∈zs,okS x.1)->z∈zs.map (·.1)->forL (gNm 2) (iff (tstB (op2 oEq (op2 oIx (nm 2) (cst (.int 0))) (nm 1))) (rtn (op2 oIx (nm 2) (cst (.int 1)))) skip) (zs.map encZ) [s0,some (.imm (.str z)),t0]=some (.rt (.str (((zs.find? fun x=>decide (x.1=z)).map (·.2)).getD "")))
 | [],t0,_,h=>by simp at h
 | x::zs,t0,ho,h=>by
  have e:=z0f (ho x (by simp)) hz
  by_cases hx:x.1=z
  ·simp! [sp2,forL,encZ,hx,z0f hz hz]
  ·have h':z∈zs.map (·.1):=by
    rw[y0e] at h
    rcases y09.mp h with q|q
    ·exact absurd q.symm hx
    ·exact q
   have ih:=zi1 hz s0 zs (some (.imm (encZ x))) (fun y hy=>ho y (y05 _ hy)) h'
   simp[encZ] at ih
   simp! [sp2,forL,encZ,hx,e]
   simpa [runF,seq,iff,tstB,tstL,andT,orT,notT,cstT,ofT,op1,op2,opN,args,cst,nm,nmV,rtn,skip,asg,asgN,asgT,par,z0g,z5b,oIsN,z82,oIx,atZ,ixOf,gNm,gTu,gAll,z4d,comp,z59] using ih
theorem zbf {p:Pl} {z:Str} (ho:∀x∈p.zones,okS x.1/\okS x.2) (hz:z∈p.zones.map (·.1)):z4e [encP p,.str z]=some (.str (kindOf p z)):=by
 obtain⟨x,hx,rfl⟩:=y0n.mp hz
 have:=zi1 (ho x hx).1 (some (.imm (encP p))) p.zones none (fun y hy=>(ho y hy).1) hz
 simp! [sp2,z4e,zj7,for_,encP] at this ⊢
 simp[this,kindOf]
def encO:Option Cd->T
 | none=>.none
 | some k=>z26 k
theorem zik {f:Str} (hf:okS f) (s0:Option Sl):∀(ks:List Cd) (t0:Option Sl),(∀k∈ks,okS k.fig)->forL (gNm 2) (iff (tstB (op2 oEq (op2 oIx (nm 2) (cst (.int 0))) (nm 1))) (rtn (nm 2)) skip) (ks.map z26) [s0,some (.imm (.str f)),t0] =
   match ks.find? fun k=>decide (k.fig=f) with
   | some k=>some (.rt (z26 k))
   | none=>some (.nx [s0,some (.imm (.str f)),(ks.getLast?.map fun k=>Sl.imm (z26 k)).elim t0 some])
 | [],t0,_=>by simp[forL]
 | k::ks,t0,ho=>by
  have e:=z0f (ho k (by simp)) hf
  by_cases hx:k.fig=f
  ·simp! [sp2,forL,z26,hx,z0f hf hf]
  ·have ih:=zik hf s0 ks (some (.imm (z26 k))) (fun y hy=>ho y (y05 _ hy))
   simp only[y0e,forL]
   simp! [sp2,z26,hx,e] at ih ⊢
   rw[ih]
   cases ks with
   | nil=>simp
   | cons k' ks=>simp[List.getLast?_cons]
theorem zn1 {p:Pl} {f:Str} (ho:∀k∈p.codes,okS k.fig) (hf:okS f):z8n [encP p,.str f]=some (encO (zfr p f)):=by
 have:=zik hf (some (.imm (encP p))) p.codes none ho
 simp! [sp2,z8n,zj8,for_,encP] at this ⊢
 rw[this]
 unfold zfr
 cases e:p.codes.find? fun k=>decide (k.fig=f) with
 | none=>simp[encO]
 | some k=>simp[encO]
def z6z (c:Cs) (z:Str):Str:=(c.lines.lookup z).getD ""
def setL (l:List (Str×Str)) (z w:Str):List (Str×Str):=l.map fun p=>if p.1=z then (z,w) else p
def zsb (c:Cs) (f:Str):Int:=(c.used.lookup f).getD 0
def addU (l:List (Str×Int)) (f:Str):List (Str×Int):=l.map fun p=>if p.1=f then (f,p.2+1) else p
theorem zt6 {z:Str}:∀{l:List (Str×Str)},z∈l.map (·.1)->getD (dS l) (.inr z)=some (.str ((l.lookup z).getD ""))
  | [],h=>by simp at h
  | (k,v)::l,h=>by
    by_cases e:k=z
    · subst e
      simp[getD,dS,y1n]
    · have h':z∈l.map (·.1):=by
        rw[y0e] at h
        rcases y09.mp h with q|q
        · exact absurd q.symm e
        · exact q
      have ih:=zt6 h'
      have ne:(z == k)=false:=beq_eq_false_iff_ne.mpr (Ne.symm e)
      simp only[getD,dS,y0e,y1x] at ih ⊢
      rw[decide_eq_false (fun q=>e (Sum.inr.inj q))]
      simp only[y1n,ne]
      exact ih
theorem zph {z:Str}:∀{l:List (Str×Int)},z∈l.map (·.1)->getD (dI l) (.inr z)=some (.int ((l.lookup z).getD 0))
  | [],h=>by simp at h
  | (k,v)::l,h=>by
    by_cases e:k=z
    · subst e
      simp[getD,dI,y1n]
    · have h':z∈l.map (·.1):=by
        rw[y0e] at h
        rcases y09.mp h with q|q
        · exact absurd q.symm e
        · exact q
      have ih:=zph h'
      have ne:(z == k)=false:=beq_eq_false_iff_ne.mpr (Ne.symm e)
      simp only[getD,dI,y0e,y1x] at ih ⊢
      rw[decide_eq_false (fun q=>e (Sum.inr.inj q))]
      simp only[y1n,ne]
      exact ih
theorem zy7 {z:Str} {l:List (Str×Str)} (h:z∈l.map (·.1)):(dS l).any (fun p=>decide (p.1=(Sum.inr z:D.Key)))=true:=by
 obtain⟨x,hx,rfl⟩:=y0n.mp h
 rw[List.any_eq_true]
 exact⟨(.inr x.1,.str x.2),y0n.mpr ⟨x,hx,rfl⟩,by simp⟩
theorem zy8 {z:Str} {l:List (Str×Int)} (h:z∈l.map (·.1)):(dI l).any (fun p=>decide (p.1=(Sum.inr z:D.Key)))=true:=by
 obtain⟨x,hx,rfl⟩:=y0n.mp h
 rw[List.any_eq_true]
 exact⟨(.inr x.1,.int x.2),y0n.mpr ⟨x,hx,rfl⟩,by simp⟩
theorem zvz {z w:Str} {l:List (Str×Str)} (h:z∈l.map (·.1)):putD (dS l) (.inr z) (.str w)=dS (setL l z w):=by
 unfold putD
 rw[zy7 h,if_pos rfl]
 simp only[dS,setL,y2v]
 refine List.map_congr_left fun x _=>?_
 by_cases e:x.1=z
 ·simp[e]
 ·have:¬(Sum.inr x.1:D.Key)=Sum.inr z:=fun q=>e (Sum.inr.inj q)
  simp[e,this]
theorem zw0 {z:Str} {l:List (Str×Int)} (h:z∈l.map (·.1)) (nd:(l.map (·.1)).Nodup):putD (dI l) (.inr z) (.int ((l.lookup z).getD 0+1))=dI (addU l z):=by
 unfold putD
 rw[zy8 h,if_pos rfl]
 simp only[dI,addU,y2v]
 refine List.map_congr_left fun x hx=>?_
 by_cases e:x.1=z
 ·have:∀{l:List (Str×Int)},x∈l->(l.map (·.1)).Nodup->l.lookup x.1=some x.2:=by
   intro l
   induction l with
   | nil=>intro h;simp at h
   | cons y l ih =>
    intro h nd
    rcases y09.mp h with rfl|h
    ·simp[y1n]
    ·rw[y0e,y0s] at nd
     have ne:(x.1 == y.1)=false:=beq_eq_false_iff_ne.mpr fun q=>nd.1 (q▸y0n.mpr ⟨x,h,rfl⟩)
     simp only[y1n,ne]
     exact ih h nd.2
  have hl:=this hx nd
  subst e
  simp[hl]
 ·have:¬(Sum.inr x.1:D.Key)=Sum.inr z:=fun q=>e (Sum.inr.inj q)
  simp[e,this]
theorem zfp {α:Type} {cc:Ft} {ee:Fe} {caps:Ev} (enc:α->T) (q:α->Bool) (f:α->T):∀(ts:List α) (s0:Option Sl),(∀a∈ts,cc (some (.imm (enc a))::caps)=some (q a)/\(q a=true->ee (some (.imm (enc a))::caps)=some (f a)))->z58 (gNm 0) cc ee (ts.map enc) (s0::caps)=some ((ts.filter q).map f)
 | [],_,_=>rfl
 | a::ts,s0,h=>by
  obtain⟨h1,h2⟩:=h a (by simp)
  have ih:=zfp enc q f ts (some (.imm (enc a))) fun b hb=>h b (y05 _ hb)
  simp only[y0e,z58,gNm,y1l,y0q,h1]
  cases hq:q a with
  | false=>simp[ih,hq]
  | true=>simp[ih,hq,h2 hq]
def bare (p:Pl) (kinds:List Str) (c:Cs):List Str:=((p.zones.filter fun z=>decide (z.2∈kinds)).map (·.1)).filter fun z=>decide (z6z c z≠"shut") && !decide (z∈c.shunts)
theorem z02 (x:Str) (h:(y23 x).canLay0=true:=by decide +kernel):okS x:=h
theorem zfj {α:Type} {z:Str}:∀{l:List (Str×α)} {v:α},l.lookup z=some v->(z,v)∈l
  | [],v,h=>by cases h
  | (k,x)::l,v,h=>by
    rw[y1i] at h
    split at h
    next q =>
      cases h
      have:z=k:=by simpa using q
      subst this
      simp
    next=>exact y05 _ (zfj h)
theorem Wf.okl {p:Pl} {c:Cs} (h:Wf p c) (z:Str):okS (z6z c z):=by
 unfold z6z
 cases e:c.lines.lookup z with
 | none=>exact z02 ""
 | some v=>exact h.lo _ (zfj e)
theorem Wf.lin {p:Pl} {c:Cs} (h:Wf p c) {z:Str} (hz:z∈p.zones.map (·.1)):getD (dS c.lines) (.inr z)=some (.str (z6z c z)):=zt6 (by rw[h.ln];exact hz)
theorem zq1 (p:Pl) (c:Cs) (ks:List Str) (m:Md) (h:Wf p c) (hk:∀k∈ks,okS k):z15 [.obj m 0 (encC p c),.imm (.tuple (z80 ks))]=some (.list ((bare p ks c).map .str)):=by
 have hzl:=h.zl
 have c1:=zfp (cc:=tstB (op2 (oIn false) (op2 oIx (nm 0) (cst (.int 1))) (nm 1))) (ee:=op2 oIx (nm 0) (cst (.int 0))) (caps:=[some (.imm (.tuple (z80 ks)))]) encZ (fun z=>decide (z.2∈ks)) (fun z=>.str z.1) p.zones none fun z hz=>by
  have:=zal false (h.zn z hz).2 hk
  simp at this
  constructor
  ·simp! [sp2,encZ,z80,this]
  ·intro _
   simp! [sp2,encZ]
 have c2:=zfp (cc:=andT (tstB (op2 oNe (fGet 0 1 4 (nm 0)) (cst (.str "shut")))) (tstB (op2 (oIn true) (nm 0) (fld 0 1 5)))) (ee:=nmV 0) (caps:=[some (.obj m 0 (encC p c))]) y23 (fun z=>decide (z6z c z≠"shut") && !decide (z∈c.shunts)) y23 ((p.zones.filter fun z=>decide (z.2∈ks)).map (·.1)) none fun z hz=>by
  have hzn:z∈p.zones.map (·.1):=by
   obtain⟨x,hx,rfl⟩:=y0n.mp hz
   exact y0n.mpr ⟨x,(List.mem_filter.mp hx).1,rfl⟩
  have e1:=h.lin hzn
  have e2:=z60 (h.okl z) (z02 "shut")
  have e3:=zam true (h.okz hzn) h.oksh
  simp at e3
  constructor
  ·by_cases hs:z6z c z="shut"
   ·simp! [sp1,z6d,e1,e2,hs,z60 (z02 "shut") (z02 "shut")]
   ·simp! [sp1,z6d,e1,e2,e3,hs]
  ·intro _
   simp! [sp2]
 have l1:(p.zones.map encZ).length<=16777216:=by simp;omega
 have l2:(((p.zones.filter fun z=>decide (z.2∈ks)).map fun z=>y23 z.1)).length<=16777216:=by
  rw[y16]
  have:=y2f (fun z:Str×Str=>decide (z.2∈ks)) p.zones
  omega
 simp only[y2v,y19] at c2
 simp only[z15,z6b,runR,z5r]
 simp! [sp1,encP] at c1 c2 ⊢
 have hb1:p.zones.length<=big:=by unfold big;omega
 have hb2:(p.zones.filter fun z=>decide (z.2∈ks)).length<=big:=by
  have:=y2f (fun z:Str×Str=>decide (z.2∈ks)) p.zones
  omega
 rw[if_pos hb1,c1]
 simp only[y1w,y0q,y2m,y2l,Function.comp_apply,y16,hb2,if_true,Option.join_some]
 rw[c2]
 simp[bare]
def comeIn (p:Pl) (z k:Str) (c:Cs):Cs:=if k≠"way"\/p.come<=0 then alarm p z c else tell "coming" (some z) { c with mode:="coming",left:=p.come,came:=some z }
noncomputable def disturb (p:Pl) (z w:Str) (c:Cs):Cs :=
 if kindOf p z="day" then alarm p z c
 else if c.mode="off" then (if w="cut" then tell "fault" (some z) c else c)
 else if w="cut"\/kindOf p z="once" then alarm p z c
 else if c.mode="on" then comeIn p z (kindOf p z) c else c
noncomputable def line (p:Pl) (z w:Str) (c:Cs):Cs :=
 if w=z6z c z then c
 else if w="shut" then (if z6z c z="cut" then tell "mended" (some z) { c with lines:=setL c.lines z w } else { c with lines:=setL c.lines z w })
 else if z∈c.shunts then { c with lines:=setL c.lines z w } else disturb p z w { c with lines:=setL c.lines z w }
theorem zn0 (p:Pl) (c:Cs) (z k:Str) (h:Wf p c) (hz:okS z) (hk:okS k) (ht:c.told.length<big):z1o [.obj .lent 0 (encC p c),.imm (.str z),.imm (.str k)]=some (.none,encC p (comeIn p z k c)):=by
 have e:=z60 hk (z02 "way")
 have ea:=zcm p c z h hz ht
 by_cases h1:k="way"
 ·by_cases h2:p.come<=0
  ·simp! [sp3,z1o,z3r,encP,e,h1,h2,ea,comeIn]
   simp! [sp4,z60 (z02 "way") (z02 "way"),ea,h2]
  ·have et:=z4b p { c with mode:="coming",left:=p.come,came:=some z } "coming" z ht
   simp! [sp3,z1o,z3r,encP,h1,h2,comeIn]
   simp! [sp3,z60 (z02 "way") (z02 "way"),et,h2,encP]
 ·simp! [sp3,z1o,z3r,encP,e,h1,ea,comeIn]
theorem zmx (p:Pl) (c:Cs) (z w:Str) (h:Wf p c) (hz:z∈p.zones.map (·.1)) (hw:okS w) (ht:c.told.length<big):z31 [.obj .lent 0 (encC p c),.imm (.str z),.imm (.str w)]=some (.none,encC p (disturb p z w c)):=by
 have ek:=zbf h.zn hz
 have hkk:okS (kindOf p z):=by
  unfold kindOf
  cases e:p.zones.find? fun x=>decide (x.1=z) with
  | none=>exact z02 ""
  | some x=>exact (h.zn x (List.mem_of_find?_eq_some e)).2
 have ea:=zcm p c z h (h.okz hz) ht
 have et:=z4b p c "fault" z ht
 have ec:=zn0 p c z (kindOf p z) h (h.okz hz) hkk ht
 have q1:=z0f hkk (z02 "day")
 have q2:=z0f h.mo (z02 "off")
 have q3:=z0f hw (z02 "cut")
 have q4:=z0f hkk (z02 "once")
 have q5:=z0f h.mo (z02 "on")
 simp only[z31,z7y,disturb]
 by_cases h1:kindOf p z="day"
 ·simp! [sp5,ek,q1,h1,ea]
  simp! [sp4,z0f (z02 "day") (z02 "day"),ea]
 ·by_cases h2:c.mode="off"
  ·by_cases h3:w="cut"
   ·simp! [sp5,ek,q1,h1,q2,h2,q3,h3,et,z0f (z02 "off") (z02 "off"),z0f (z02 "cut") (z02 "cut")]
   ·simp! [sp5,ek,q1,h1,q2,h2,q3,h3,et,z0f (z02 "off") (z02 "off")]
  ·by_cases h3:w="cut"
   ·simp! [sp5,ek,q1,h1,q2,h2,q3,h3,ea,z0f (z02 "cut") (z02 "cut")]
   ·by_cases h4:kindOf p z="once"
    ·simp! [sp5,ek,q1,h1,q2,h2,q3,h3,q4,h4,ea,z0f (z02 "once") (z02 "once"),z0f (z02 "once") (z02 "day")]
    ·by_cases h5:c.mode="on"
     ·simp! [sp5,ek,q1,h1,q2,h2,q3,h3,q4,h4,q5,h5,ec,z0f (z02 "on") (z02 "on"),z0f (z02 "on") (z02 "off")]
     ·simp! [sp5,ek,q1,h1,q2,h2,q3,h3,q4,h4,q5,h5,ec]
theorem znt (l:List (Str×Str)) (z w:Str):(setL l z w).map (·.1)=l.map (·.1):=by
 unfold setL
 rw[y2v]
 refine List.map_congr_left fun x _=>?_
 by_cases e:x.1=z <;> simp[e]
theorem zq5 (l:List (Str×Int)) (z:Str):(addU l z).map (·.1)=l.map (·.1):=by
 unfold addU
 rw[y2v]
 refine List.map_congr_left fun x _=>?_
 by_cases e:x.1=z <;> simp[e]
theorem Wf.setLine {p:Pl} {c:Cs} (h:Wf p c) (z:Str) {w:Str} (hw:okS w):Wf p { c with lines:=setL c.lines z w } :=
 ⟨h.zn,h.cn,h.zl,h.mo,h.ca,h.cm,(znt _ _ _).trans h.ln,fun l hl=>by
  obtain⟨x,hx,rfl⟩:=y0n.mp hl
  by_cases e:x.1=z
  ·rw[if_pos e]
   exact hw
  ·rw[if_neg e]
   exact h.lo x hx,h.us,h.sh,h.al⟩
theorem Wf.tell {p:Pl} {c:Cs} (h:Wf p c) (w:Str) (n:Option Str):Wf p (Co.tell w n c):=⟨h.zn,h.cn,h.zl,h.mo,h.ca,h.cm,h.ln,h.lo,h.us,h.sh,h.al⟩
theorem Wf.loud {p:Pl} {c:Cs} (h:Wf p c):Wf p (beLoud p c):=⟨h.zn,h.cn,h.zl,h.mo,h.ca,h.cm,h.ln,h.lo,h.us,h.sh,h.al⟩
theorem Wf.alarm {p:Pl} {c:Cs} (h:Wf p c) {z:Str} (hz:z∈p.zones.map (·.1)):Wf p (Co.alarm p z c):=by
 unfold Co.alarm
 split
 ·exact h.loud
 next hm =>
  refine Wf.tell (c:={ beLoud p c with alarms:=c.alarms++[z] }) ⟨h.zn,h.cn,h.zl,h.mo,h.ca,h.cm,h.ln,h.lo,h.us,h.sh,?_,?_⟩ _ _
  ·show (c.alarms++[z]).Nodup
   rw[y1r]
   exact⟨h.al.1,by simp,fun a ha b hb e=>hm (by simp at hb;subst hb;exact e▸ha)⟩
  ·intro y hy
   rcases y13.mp hy with q|q
   ·exact h.al.2 y q
   ·simp at q
    exact q▸hz
theorem z77 (p:Pl) (z:Str) (c:Cs):(alarm p z c).told.length<=c.told.length+1:=by
 unfold alarm tell beLoud
 split <;> simp
theorem zuf (p:Pl) (c:Cs) (z w:Str) (h:Wf p c) (hz:z∈p.zones.map (·.1)) (hw:okS w) (ht:c.told.length<big):z4f [.obj .lent 0 (encC p c),.imm (.str z),.imm (.str w)]=some (.none,encC p (line p z w c)):=by
 have e1:=h.lin hz
 have hzl:z∈c.lines.map (·.1):=by rw[h.ln];exact hz
 have e2:=zvz (w:=w) hzl
 have q1:=z0f hw (h.okl z)
 have q2:=z0f hw (z02 "shut")
 have q3:=z0f (h.okl z) (z02 "cut")
 have q4:=zam true (h.okz hz) h.oksh
 simp at q4
 have hlen:(dS c.lines).length<16777216:=by
  have:=congrArg List.length h.ln
  have:=h.zl
  simp[dS] at *
  omega
 have hd:=zmx p _ z w (h.setLine z hw) hz hw ht
 have et:=z4b p { c with lines:=setL c.lines z w } "mended" z ht
 simp only[z4f,zay,line]
 by_cases h1:w=z6z c z
 ·simp! [sp5,z6d,e1,q1,h1,z0f (h.okl z) (h.okl z)]
 ·by_cases h2:w="shut"
  ·subst h2
   by_cases h3:z6z c z="cut"
   ·simp! [sp5,big,z6d,e1,e2,q1,h1,q2,q3,h3,hlen,et,z0f (z02 "cut") (z02 "cut"),z0f (z02 "shut") (z02 "shut"),z0f (z02 "shut") (z02 "cut")]
   ·simp! [sp5,big,z6d,e1,e2,q1,h1,q2,q3,h3,hlen,z0f (z02 "shut") (z02 "shut")]
  ·by_cases h4:z∈c.shunts
   ·simp! [sp5,big,z6d,e1,e2,q1,h1,q2,h2,q4,h4,hlen]
   ·simp! [sp5,big,z6d,e1,e2,q1,h1,q2,h2,q4,h4,hlen,hd]
def less (a n:Int):Int:=if 0 > a - n then 0 else a - n
def z0i (n:Int) (c:Cs):Cs:={ c with past:=c.past+n,locked:=less c.locked n,siren:=less c.siren n,left:=less c.left n }
theorem zk2 (a n:Int):z4u [.int a,.int n]=some (.int (less a n)):=by
 simp! [sp6,z4u,zfs,less]
theorem z7l (p:Pl) (c:Cs) (n:Int):z14 [.obj .lent 0 (encC p c),.imm (.int n)]=some (.none,encC p (z0i n c)):=by
 simp! [sp1,z14,z6a,zk2,z0i]
def alarms (p:Pl) (zs:List Str) (c:Cs):Cs:=zs.foldl (fun c z=>alarm p z c) c
def endLeaving (p:Pl) (c:Cs):Cs:=alarms p (bare p ["inner","way"] (tell "on" none { c with mode:="on",left:=0 })) (tell "on" none { c with mode:="on",left:=0 })
def endComing (p:Pl) (c:Cs):Cs:=alarm p (c.came.getD "") { c with mode:="on",came:=none }
def endTime (p:Pl) (c:Cs):Cs:=if c.mode="leaving" then endLeaving p c else endComing p c
noncomputable def ticks (p:Pl) (n:Int) (c:Cs):Cs :=
 if n<1 then c else if (c.mode="leaving"\/c.mode="coming")/\c.left<=n then z0i (n - c.left) (endTime p (z0i c.left c)) else z0i n c
theorem zft (p:Pl):∀(zs:List Str) (c:Cs) (s1:Option Sl),Wf p c->(∀z∈zs,z∈p.zones.map (·.1))->c.told.length+zs.length<big->∃s1',forL (gNm 1) (exX (z0t 0 z0k 0 [(nmV 1)])) (zs.map .str) [some (.obj .lent 0 (encC p c)),s1]=some (.nx [some (.obj .lent 0 (encC p (alarms p zs c))),s1'])
 | [],c,s1,_,_,_=>⟨s1,by simp[forL,alarms]⟩
 | z::zs,c,s1,h,hz,ht=>by
  have hzz:=hz z (by simp)
  have ea:=zcm p c z h (h.okz hzz) (by simp at ht;omega)
  have:=z77 p z c
  obtain⟨s1',ih⟩:=zft p zs (alarm p z c) (some (.imm (.str z))) (h.alarm hzz) (fun y hy=>hz y (y05 _ hy)) (by simp at ht;omega)
  refine⟨s1',?_⟩
  rw[y0e,forL]
  simp! [sp4,ea]
  simpa [runF,seq,iff,tstB,tstL,andT,orT,notT,cstT,ofT,op1,op2,opN,args,cst,nm,nmV,rtn,skip,asg,asgN,asgT,par,z0g,z5b,oIsN,z82,oIx,atZ,ixOf,gNm,gTu,gAll,z4d,comp,z59,alarms] using ih
theorem zck {p:Pl} {ks:List Str} {c:Cs} {z:Str} (h:z∈bare p ks c):z∈p.zones.map (·.1):=by
 unfold bare at h
 obtain⟨x,hx,rfl⟩:=y0n.mp (List.mem_filter.mp h).1
 exact y0n.mpr ⟨x,(List.mem_filter.mp hx).1,rfl⟩
theorem zlz (p:Pl) (ks:List Str) (c:Cs):(bare p ks c).length<=p.zones.length:=by
 unfold bare
 have h1:=y2f (fun z=>decide (z6z c z≠"shut") && !decide (z∈c.shunts)) ((p.zones.filter fun z=>decide (z.2∈ks)).map (·.1))
 have h2:=y2f (fun z:Str×Str=>decide (z.2∈ks)) p.zones
 rw[y16] at h1
 omega
theorem Wf.on {p:Pl} {c:Cs} (h:Wf p c) (x:Int):Wf p { c with mode:="on",left:=x }:=⟨h.zn,h.cn,h.zl,z02 "on",h.ca,fun e=>absurd e z61,h.ln,h.lo,h.us,h.sh,h.al⟩
theorem z9v (p:Pl) (c:Cs) (h:Wf p c) (ht:c.told.length+50<big):z0x [.obj .lent 0 (encC p c)]=some (.none,encC p (endLeaving p c)):=by
 have w1:=(h.on 0).tell "on" none
 have et:=zad p { c with mode:="on",left:=0 } "on" (by show c.told.length<big;omega)
 have eb:=zq1 p (tell "on" none { c with mode:="on",left:=0 }) ["inner","way"] .ro w1 (by
  intro k hk
  simp at hk
  rcases hk with rfl|rfl
  ·exact z02 "inner"
  ·exact z02 "way")
 have hl:=zlz p ["inner","way"] (tell "on" none { c with mode:="on",left:=0 })
 have hz:=h.zl
 obtain⟨s1',lp⟩:=zft p (bare p ["inner","way"] (tell "on" none { c with mode:="on",left:=0 })) (tell "on" none { c with mode:="on",left:=0 }) none w1 (fun z hz=>zck hz) (by
  have:(tell "on" none { c with mode:="on",left:=0 }:Cs).told.length=c.told.length+1:=by simp[tell]
  omega)
 simp only[z80,y0e,y1c] at eb
 simp! [sp1,z0x,z5j,et,eb,for_]
 rw[lp]
 simp! [sp7,endLeaving]
theorem Wf.onComing {p:Pl} {c:Cs} (h:Wf p c):Wf p { c with mode:="on",came:=none }:=⟨h.zn,h.cn,h.zl,z02 "on",fun z e=>(nomatch e),fun e=>absurd e z61,h.ln,h.lo,h.us,h.sh,h.al⟩
theorem zgs (p:Pl) (c:Cs) (h:Wf p c) (hc:c.came≠none) (ht:c.told.length<big):z28 [.obj .lent 0 (encC p c)]=some (.none,encC p (endComing p c)):=by
 obtain⟨z,hz⟩:=Option.ne_none_iff_exists'.mp hc
 have ea:=zcm p { c with mode:="on",came:=none } z h.onComing (h.ca z hz).1 ht
 simp! [sp1,z28,z68,hz,oS,ea,endComing]
theorem Wf.cd {p:Pl} {c:Cs} (h:Wf p c) (n:Int):Wf p (z0i n c):=⟨h.zn,h.cn,h.zl,h.mo,h.ca,h.cm,h.ln,h.lo,h.us,h.sh,h.al⟩
theorem zk9 (p:Pl) (c:Cs) (h:Wf p c) (hm:c.mode="leaving"\/c.mode="coming") (ht:c.told.length+50<big):z1z [.obj .lent 0 (encC p c)]=some (.none,encC p (endTime p c)):=by
 have e1_:=z9v p c h ht
 have q:=z0f h.mo (z02 "leaving")
 rcases hm with hm|hm
 ·simp! [sp5,z1z,z4z,hm,e1_,endTime,z0f (z02 "leaving") (z02 "leaving")]
 ·have e2_:=zgs p c h (h.cm hm) (by omega)
  simp! [sp5,z1z,z4z,hm,e2_,endTime,z0f (z02 "coming") (z02 "leaving")]
theorem zqh (p:Pl) (c:Cs) (n:Int) (h:Wf p c) (ht:c.told.length+50<big):z1x [.obj .lent 0 (encC p c),.imm (.int n)]=some (.none,encC p (ticks p n c)):=by
 have q:oIn false (.str c.mode) (.tuple [.str "leaving",.str "coming"])=some (.bool (decide (c.mode="leaving"\/c.mode="coming"))):=by
  have:=zal false (n:=c.mode) (ns:=["leaving","coming"]) h.mo (by
   intro k hk
   simp at hk
   rcases hk with rfl|rfl
   ·exact z02 "leaving"
   ·exact z02 "coming")
  simpa using this
 have e1_:=z7l p c c.left
 have e3_:=z7l p c n
 by_cases h1:n<1
 ·simp! [sp3,z1x,z3q,h1,ticks]
 ·by_cases h2:c.mode="leaving"\/c.mode="coming"
  ·by_cases h3:c.left<=n
   ·have e2_:=zk9 p (z0i c.left c) (h.cd _) h2 ht
    have e4_:=z7l p (endTime p (z0i c.left c)) (n - c.left)
    rw[decide_eq_true h2] at q
    simp only[ticks,if_neg h1,if_pos (And.intro h2 h3)]
    simp! [sp3,z1x,z3q,h1,q,h3,e1_,e2_,e4_]
   ·rw[decide_eq_true h2] at q
    simp only[ticks,if_neg h1,if_neg (fun z:(c.mode="leaving"\/c.mode="coming")/\c.left<=n=>h3 z.2)]
    simp! [sp3,z1x,z3q,h1,q,h3,e3_]
  ·rw[decide_eq_false h2] at q
   simp only[ticks,if_neg h1,if_neg (fun z:(c.mode="leaving"\/c.mode="coming")/\c.left<=n=>h2 z.1)]
   simp! [sp3,z1x,z3q,h1,q,e3_]
def zcr (k:Cd) (c:Cs):Bool:=decide (k.uses≠0) && decide (k.uses<=zsb c k.fig)
def wrong1 (c:Cs):Cs:={ tell "wrong" none c with tries:=c.tries+1 }
def takeWrong (p:Pl) (c:Cs):Cs:=if 3<=c.tries+1 then tell "attack" none (beLoud p { wrong1 c with tries:=0,locked:=90 }) else wrong1 c
noncomputable def z3g (p:Pl) (d:Str) (z:Option Str) (c:Cs):Bool :=
 if d="unset" then false else if c.mode≠"off" then true
 else if d="shunt" then decide (kindOf p (z.getD "")="day") || decide (z.getD ""∈c.shunts)
 else decide (d="free") && !decide (z.getD ""∈c.shunts)
noncomputable def against (p:Pl) (k:Cd) (d:Str) (z:Option Str) (c:Cs):Option (Str×Str) :=
 if (if d="free" then ("shunt":Str) else d)∉k.rights then some ("denied",k.who)
 else if z3g p d z c then some ("no",k.who)
 else if d="set"/\bare p ["day","once"] c≠[] then some ("open",(bare p ["day","once"] c).headD "") else none
def doSet (p:Pl) (who:Str) (c:Cs):Cs :=
 let c1:=tell "set" (some who) { c with alarms:=[],siren:=0,mode:="leaving",left:=p.leave }
 if p.leave<=0 then endLeaving p c1 else c1
def doUnset (who:Str) (c:Cs):Cs:=tell "unset" (some who) { c with mode:="off",left:=0,siren:=0,came:=none,shunts:=[] }
noncomputable def doDeed (p:Pl) (who d:Str) (z:Option Str) (c:Cs):Cs :=
 if d="set" then doSet p who c else if d="unset" then doUnset who c
 else if d="shunt" then tell "shunt" z { c with shunts:=z85 (c.shunts++[z.getD ""]) }
 else tell "free" z { c with shunts:=c.shunts.erase (z.getD "") }
noncomputable def takeRight (p:Pl) (k:Cd) (d:Str) (z:Option Str) (c:Cs):Cs:=match against p k d z c with
 | none=>doDeed p k.who d z { c with used:=addU c.used k.fig }
 | some (w,n)=>tell w (some n) c
noncomputable def code (p:Pl) (f d:Str) (z:Option Str) (c:Cs):Cs :=
 if 0<c.locked then tell "locked" none c else match zfr p f with
  | none=>takeWrong p c
  | some k=>if zcr k c then takeWrong p c else takeRight p k d z { c with tries:=0 }
theorem zm5 (p:Pl) (c:Cs) (k:Cd) (h:Wf p c) (hk:k∈p.codes) (m:Md):z1h [.obj m 0 (encC p c),.imm (z26 k)]=some (.bool (zcr k c)):=by
 have e:getD (dI c.used) (.inr k.fig)=some (.int (zsb c k.fig)):=zph (by rw[h.us];exact y0n.mpr ⟨k,hk,rfl⟩)
 have q:oNe (.int k.uses) (.int 0)=some (.bool (!decide (k.uses=0))):=by
  unfold oNe
  rw[zd4,zd4]
  by_cases e:k.uses=0 <;> simp[y28,e]
 by_cases h1:k.uses=0
 ·simp! [sp3,z1h,z45,z26,q,h1,andV,zcr]
  simp[oNe,zd4,y28]
 ·simp! [sp3,z1h,z45,z26,q,h1,andV,zcr,z6d,e]
theorem zfx (p:Pl) (c:Cs) (ht:c.told.length+2<big):z1f [.obj .lent 0 (encC p c)]=some (.none,encC p (takeWrong p c)):=by
 have e1_:=zad p c "wrong" (by omega)
 have e2_:=zbo p { wrong1 c with tries:=0,locked:=90 }
 have e3_:=zad p (beLoud p { wrong1 c with tries:=0,locked:=90 }) "attack" (by simp[beLoud,wrong1,tell];omega)
 have w:({ mode:=(tell "wrong" none c).mode,left:=(tell "wrong" none c).left,came:=(tell "wrong" none c).came,lines:=(tell "wrong" none c).lines,shunts:=(tell "wrong" none c).shunts,siren:=(tell "wrong" none c).siren,alarms:=(tell "wrong" none c).alarms,tries:=c.tries+1,locked:=(tell "wrong" none c).locked,used:=(tell "wrong" none c).used,past:=(tell "wrong" none c).past,told:=(tell "wrong" none c).told }:Cs)=wrong1 c:=rfl
 have ti:(tell "wrong" none c).tries=c.tries:=rfl
 by_cases h3:3<=c.tries+1
 ·simp! [sp3,z1f,z43,e1_,ti,h3,takeWrong]
  simp[wrong1] at e2_ e3_ ⊢
  simp[e2_,e3_]
 ·simp! [sp3,z1f,z43,e1_,ti,h3,takeWrong,wrong1]
end Co
section
namespace Co
open D PySem
theorem Wf.okk {p:Pl} {c:Cs} (h:Wf p c) (z:Str):okS (kindOf p z):=by
 unfold kindOf
 cases e:p.zones.find? fun x=>decide (x.1=z) with
 | none=>exact z02 ""
 | some x=>exact (h.zn x (List.mem_of_find?_eq_some e)).2
theorem z7t:(2<=big)=True:=by simp[big]
theorem zky:(10<=big)=True:=by simp[big]
def okZ (p:Pl) (d:Str) (z:Option Str):Prop:=(d="shunt"\/d="free")->∃x,z=some x/\x∈p.zones.map (·.1)
theorem zek (p:Pl) (c:Cs) (d:Str) (z:Option Str) (m:Md) (h:Wf p c) (hd:okS d) (hz:okZ p d z):z0h [.obj m 0 (encC p c),.imm (.str d),.imm (oS z)]=some (.bool (z3g p d z c)):=by
 have q1:=z0f hd (z02 "unset")
 have q2:=z60 h.mo (z02 "off")
 have q3:=z0f hd (z02 "shunt")
 have q4:=z0f hd (z02 "free")
 by_cases h1:d="unset"
 ·simp! [sp1,z0h,z0y,q1,h1,z3g]
  simp[z0f (z02 "unset") (z02 "unset")]
 ·by_cases h2:c.mode="off"
  ·by_cases h3:d="shunt"
   ·obtain⟨x,rfl,hx⟩:=hz (.inl h3)
    subst h3
    have ek:=zbf h.zn hx
    have q5:=z0f (h.okk x) (z02 "day")
    have q6:=zam false (h.okz hx) h.oksh
    simp at q6
    by_cases h4:kindOf p x="day"
    ·simp! [sp5,z0h,z0y,q1,h1,h2,z60 (z02 "off") (z02 "off"),q3,orV,oS,ek,q5,q6,h4,z3g]
     simp[z0f (z02 "day") (z02 "day")]
    ·simp! [sp5,z0h,z0y,q1,h1,h2,z60 (z02 "off") (z02 "off"),q3,orV,oS,ek,q5,q6,h4,z3g]
   ·by_cases h4:d="free"
    ·obtain⟨x,rfl,hx⟩:=hz (.inr h4)
     subst h4
     have q6:=zam true (h.okz hx) h.oksh
     simp at q6
     simp! [sp5,z0h,z0y,q1,h2,z60 (z02 "off") (z02 "off"),q3,q4,andV,oS,q6,z3g]
    ·simp! [sp5,z0h,z0y,q1,h1,h2,z60 (z02 "off") (z02 "off"),q3,h3,q4,h4,andV,z3g]
  ·simp! [sp1,z0h,z0y,q1,h1,q2,h2,z3g]
def encA:Option (Str×Str)->T
 | none=>.none
 | some (w,n)=>.tuple [.str w,.str n]
theorem zac (p:Pl) (c:Cs) (k:Cd) (d:Str) (z:Option Str) (m:Md) (h:Wf p c) (hk:k∈p.codes) (hd:okS d) (hz:okZ p d z):z16 [.obj m 0 (encC p c),.imm (z26 k),.imm (.str d),.imm (oS z)]=some (encA (against p k d z c)):=by
 have q1:=z0f hd (z02 "free")
 have q2:=z0f hd (z02 "set")
 have eu:=zek p c d z .ro h hd hz
 have eb:=zq1 p c ["day","once"] .ro h (by
  intro k hk
  simp at hk
  rcases hk with rfl|rfl
  ·exact z02 "day"
  ·exact z02 "once")
 simp only[z80,y0e,y1c] at eb
 have q3:=zal true (n:=if d="free" then ("shunt":Str) else d) (ns:=k.rights) (by
  split
  ·exact z02 "shunt"
  ·exact hd) (h.cn k hk).2.2
 simp at q3
 have qr:(ifE (tstB (op2 oEq (nm 2) (cst (.str "free")))) (cst (.str "shunt")) (nmV 2)) [some (.obj m 0 (encC p c)),some (.imm (z26 k)),some (.imm (.str d)),some (.imm (oS z)),none,none]=some (.str (if d="free" then ("shunt":Str) else d)):=by
  by_cases h0:d="free"
  ·simp! [sp4,q1,h0,z0f (z02 "free") (z02 "free")]
  ·simp! [sp4,q1,h0]
 simp only[z16,z49,runR,z5r,seq,asg,y0e,y1c,y0x,y2o,y0h,y2u,y2t,qr,y1w,y0q,y1o,y1l]
 generalize hr:(if d="free" then ("shunt":Str) else d)=r at q3 ⊢
 unfold against
 rw[hr]
 by_cases h1:r∈k.rights
 ·by_cases h2:z3g p d z c=true
  ·simp! [sp1,z26,z7t,q3,h1,eu,h2,encA]
  ·simp at h2
   by_cases h3:d="set"
   ·subst h3
    cases e:bare p ["day","once"] c with
    | nil =>
     rw[e] at eb
     simp! [sp1,z26,z7t,q3,h1,eu,h2,eb,q2,encA]
    | cons b bs =>
     rw[e] at eb
     simp! [sp1,z26,z7t,q3,h1,eu,h2,eb,q2,encA]
   ·simp! [sp1,z26,z7t,q3,h1,eu,h2,eb,q2,h3,encA]
 ·simp! [sp1,z26,z7t,q3,h1,encA]
theorem Wf.setAl {p:Pl} {c:Cs} (h:Wf p c) (x:Int):Wf p { c with alarms:=[],siren:=0,mode:="leaving",left:=x }:=⟨h.zn,h.cn,h.zl,z02 "leaving",h.ca,fun e=>absurd e z5a,h.ln,h.lo,h.us,h.sh,by simp⟩
theorem zpn (p:Pl) (c:Cs) (w:Str) (h:Wf p c) (ht:c.told.length+60<big):z2q [.obj .lent 0 (encC p c),.imm (.str w)]=some (.none,encC p (doSet p w c)):=by
 have e1_:=z4b p { c with alarms:=[],siren:=0,mode:="leaving",left:=p.leave } "set" w (by show c.told.length<big;omega)
 have e2_:=z9v p (tell "set" (some w) { c with alarms:=[],siren:=0,mode:="leaving",left:=p.leave }) ((h.setAl p.leave).tell _ _) (by
  have:(tell "set" (some w) { c with alarms:=[],siren:=0,mode:="leaving",left:=p.leave }:Cs).told.length=c.told.length+1:=by simp[tell]
  omega)
 have lf:(tell "set" (some w) { c with alarms:=[],siren:=0,mode:="leaving",left:=p.leave }:Cs).left=p.leave:=rfl
 by_cases h1:p.leave<=0
 ·simp! [sp3,z2q,z69,encP,e1_,lf,h1,e2_,doSet]
 ·simp! [sp3,z2q,z69,encP,e1_,lf,h1,doSet]
theorem zka (p:Pl) (c:Cs) (w:Str) (ht:c.told.length<big):z2p [.obj .lent 0 (encC p c),.imm (.str w)]=some (.none,encC p (doUnset w c)):=by
 have e1_:=z4b p { c with mode:="off",left:=0,siren:=0,came:=none,shunts:=[] } "unset" w ht
 simp! [sp3,z2p,z75,e1_,doUnset]
theorem zb4:∀l:List Str,zcu (l.map .str)=some l
 | []=>rfl
 | x::l=>by simp[zcu,zb4 l]
def okD (p:Pl) (d:Str) (z:Option Str) (c:Cs):Prop:=d="set"\/d="unset"\/(d="shunt"/\∃x,z=some x/\x∈p.zones.map (·.1))\/(d="free"/\∃x,z=some x/\x∈c.shunts)
theorem zmt (p:Pl) (c:Cs) (w d:Str) (z:Option Str) (h:Wf p c) (hd:okS d) (hz:okD p d z c) (ht:c.told.length+60<big):z1b [.obj .lent 0 (encC p c),.imm (.str w),.imm (.str d),.imm (oS z)]=some (.none,encC p (doDeed p w d z c)):=by
 have q1:=z0f hd (z02 "set")
 have q2:=z0f hd (z02 "unset")
 have q3:=z0f hd (z02 "shunt")
 have es:=zpn p c w h ht
 have eu:=zka p c w (by omega)
 rcases hz with rfl|rfl|⟨rfl,x,rfl,hx⟩|⟨rfl,x,rfl,hx⟩
 ·simp! [sp1,z1b,z33,q1,es,doDeed]
 ·simp! [sp5,z1b,z33,q1,q2,eu,doDeed]
 ·have hl:=h.shLen
  have e1_:=z4b p { c with shunts:=z85 (c.shunts++[x]) } "shunt" x (by show c.told.length<big;omega)
  have b1:c.shunts.length+1<=big:=by unfold big;omega
  have b2:c.shunts.length+1<64:=by omega
  have b0:1<=big:=by decide
  have b3:=zb4 (c.shunts++[x])
  simp at b3
  simp! [sp5,z1b,z33,q1,q2,q3,oS,oAdd,b0,b1,b2,zcg,b3,e1_,doDeed]
 ·have e1_:=z4b p { c with shunts:=c.shunts.erase x } "free" x (by show c.told.length<big;omega)
  simp! [sp5,z1b,z33,q1,q2,q3,oS,rmF,zb4,hx,e1_,doDeed]
structure Wp (p:Pl):Prop where
 cd:(p.codes.map (·.fig)).Nodup
 zd:(p.zones.map (·.1)).Nodup
 cl:p.codes.length<=40
 ti:0<=p.leave/\0<=p.come/\0<=p.loud
theorem Wf.add {p:Pl} {c:Cs} (h:Wf p c) (f:Str):Wf p { c with used:=addU c.used f }:=⟨h.zn,h.cn,h.zl,h.mo,h.ca,h.cm,h.ln,h.lo,(zq5 _ _).trans h.us,h.sh,h.al⟩
theorem Wf.tri {p:Pl} {c:Cs} (h:Wf p c) (n:Int):Wf p { c with tries:=n }:=⟨h.zn,h.cn,h.zl,h.mo,h.ca,h.cm,h.ln,h.lo,h.us,h.sh,h.al⟩
theorem zoo {p:Pl} {c:Cs} {k:Cd} {d:Str} {z:Option Str} (hd:d="set"\/d="unset"\/d="shunt"\/d="free") (hz:okZ p d z) (ha:against p k d z c=none):okD p d z c:=by
 rcases hd with rfl|rfl|rfl|rfl
 ·exact .inl rfl
 ·exact .inr (.inl rfl)
 ·exact .inr (.inr (.inl ⟨rfl,hz (.inl rfl)⟩))
 ·refine .inr (.inr (.inr ⟨rfl,?_⟩))
  obtain⟨x,rfl,hx⟩:=hz (.inr rfl)
  refine⟨x,rfl,?_⟩
  refine Classical.byContradiction fun hu=>?_
  have:z3g p "free" (some x) c=true:=by
   by_cases hm:c.mode="off" <;> simp[z3g,z54,z55,hu,hm]
  unfold against at ha
  rw[this] at ha
  by_cases hr:(if ("free":Str)="free" then ("shunt":Str) else "free")∈k.rights
  ·rw[if_neg (fun q=>q hr),if_pos rfl] at ha
   cases ha
  ·rw[if_pos hr] at ha
   cases ha
theorem zfy (p:Pl) (c:Cs) (k:Cd) (d:Str) (z:Option Str) (h:Wf p c) (hp:Wp p) (hk:k∈p.codes) (hd:d="set"\/d="unset"\/d="shunt"\/d="free") (hz:okZ p d z) (ht:c.told.length+60<big):z1g [.obj .lent 0 (encC p c),.imm (z26 k),.imm (.str d),.imm (oS z)]=some (.none,encC p (takeRight p k d z c)):=by
 have od:okS d:=by
  rcases hd with rfl|rfl|rfl|rfl
  ·exact z02 "set"
  ·exact z02 "unset"
  ·exact z02 "shunt"
  ·exact z02 "free"
 have ea:=zac p c k d z .ro h hk od hz
 have ku:k.fig∈c.used.map (·.1):=by rw[h.us];exact y0n.mpr ⟨k,hk,rfl⟩
 cases e:against p k d z c with
 | none =>
  have hD:=zoo hd hz e
  have g1:=zph ku
  have g2:=zw0 ku (by rw[h.us];exact hp.cd)
  have hl:(dI c.used).length<big:=by
   have:=congrArg List.length h.us
   have:=hp.cl
   simp[dI] at *
   unfold big
   omega
  have ed:=zmt p { c with used:=addU c.used k.fig } k.who d z (h.add _) od hD ht
  rw[e] at ea
  simp only[z26] at ea
  simp! [sp1,z1g,z44,ea,encA,z26,z6d,g1,g2,hl,ed,takeRight,e]
 | some wn =>
  obtain⟨w,n⟩:=wn
  have et:=z4b p c w n (by omega)
  rw[e] at ea
  simp only[z26] at ea
  simp! [sp1,z1g,z44,ea,encA,z26,et,takeRight,e]
theorem zfq {p:Pl} {f:Str} {k:Cd} (h:zfr p f=some k):k∈p.codes:=List.mem_of_find?_eq_some h
theorem zv0 (p:Pl) (c:Cs) (f d:Str) (z:Option Str) (h:Wf p c) (hp:Wp p) (hf:okS f) (hd:d="set"\/d="unset"\/d="shunt"\/d="free") (hz:okZ p d z) (ht:c.told.length+60<big):z2e [.obj .lent 0 (encC p c),.imm (.str f),.imm (.str d),.imm (oS z)]=some (.none,encC p (code p f d z c)):=by
 have ec:=zn1 (fun k hk=>(h.cn k hk).1) hf
 have et:=zad p c "locked" (by omega)
 have ew:=zfx p c (by omega)
 by_cases h1:0<c.locked
 ·simp! [sp3,z2e,z4i,ec,h1,et,code]
 ·cases e:zfr p f with
  | none =>
   rw[e] at ec
   simp! [sp3,z2e,z4i,ec,encO,h1,ew,code,e]
  | some k =>
   rw[e] at ec
   have hk:=zfq e
   have eu:=zm5 p c k h hk .ro
   have er:=zfy p { c with tries:=0 } k d z (h.tri 0) hp hk hd hz ht
   cases h2:zcr k c with
   | true =>
    rw[h2] at eu
    simp! [sp3,z2e,z4i,ec,encO,h1,eu,z26] at eu ⊢
    simp[eu,ew,code,e,h1,h2]
   | false =>
    rw[h2] at eu
    simp! [sp3,z2e,z4i,ec,encO,h1,eu,z26] at eu er ⊢
    simp! [sp8,eu,er,code,e,h1,h2]
inductive Et where
 | line (z w:Str)
 | code (f d:Str) (z:Option Str)
 | ticks (n:Int)
def encE:Et->T
 | .line z w=>.tuple [.str "line",.str z,.str w]
 | .code f d z=>.tuple [.str "code",.str f,.str d,oS z]
 | .ticks n=>.tuple [.str "ticks",.int n]
noncomputable def okE (p:Pl):Et->Prop
 | .line z w=>z∈p.zones.map (·.1)/\(w="shut"\/w="open"\/w="cut")
 | .code f d z=>okS f/\(d="set"\/d="unset"\/d="shunt"\/d="free")/\okZ p d z
 | .ticks n=>1<=n
def happen (p:Pl) (c:Cs):Et->Cs
 | .line z w=>line p z w c
 | .code f d z=>code p f d z c
 | .ticks n=>ticks p n c
theorem zpf (p:Pl) (c:Cs) (e:Et) (h:Wf p c) (hp:Wp p) (he:okE p e) (ht:c.told.length+60<big):z1i [.obj .lent 0 (encC p c),.imm (encE e)]=some (.none,encC p (happen p c e)):=by
 have q (x y:Str) (hx:okS x) (hy:okS y):=z0f hx hy
 cases e with
 | line z w =>
  have ow:okS w:=by
   rcases he.2 with rfl|rfl|rfl
   ·exact z02 "shut"
   ·exact z02 "open"
   ·exact z02 "cut"
  have el:=zuf p c z w h he.1 ow (by omega)
  simp! [sp1,z1i,z4h,encE,z0f (z02 "line") (z02 "line"),el,happen]
 | code f d z =>
  have el:=zv0 p c f d z h hp he.1 he.2.1 he.2.2 ht
  simp! [sp5,z1i,z4h,encE,z0f (z02 "code") (z02 "line"),z0f (z02 "code") (z02 "code"),el,happen]
 | ticks n =>
  have el:=zqh p c n h (by omega)
  simp! [sp5,z1i,z4h,encE,z0f (z02 "ticks") (z02 "line"),z0f (z02 "ticks") (z02 "code"),el,happen]
end Co
end
section
namespace Co
open D PySem
local instance:Tbl:=⟨[],fun _=>[],fun _=>none⟩
theorem z2o (w:Str) (n:Option Str) (c:Cs):(tell w n c).told.length=c.told.length+1:=by simp[tell]
theorem Wf.coming {p:Pl} {c:Cs} (h:Wf p c) (x:Int) {z:Str} (hz:z∈p.zones.map (·.1)):Wf p { c with mode:="coming",left:=x,came:=some z } :=
 ⟨h.zn,h.cn,h.zl,z02 "coming",fun y e=>y2n e▸⟨h.okz hz,hz⟩,fun _ e=>(nomatch e),h.ln,h.lo,h.us,h.sh,h.al⟩
theorem Wf.comeIn {p:Pl} {c:Cs} (h:Wf p c) {z:Str} (k:Str) (hz:z∈p.zones.map (·.1)):Wf p (comeIn p z k c):=by
 unfold Co.comeIn
 split
 ·exact h.alarm hz
 ·exact (h.coming p.come hz).tell _ _
theorem zkd (p:Pl) (z k:Str) (c:Cs):(comeIn p z k c).told.length<=c.told.length+1:=by
 unfold Co.comeIn
 split
 ·exact z77 p z c
 ·rw[z2o];exact y0p _
theorem Wf.disturb {p:Pl} {c:Cs} (h:Wf p c) {z:Str} (w:Str) (hz:z∈p.zones.map (·.1)):Wf p (disturb p z w c):=by
 unfold Co.disturb
 repeat' split
 all_goals first|exact h.alarm hz|exact h.tell _ _|exact h.comeIn _ hz|exact h
theorem zid (p:Pl) (z w:Str) (c:Cs):(disturb p z w c).told.length<=c.told.length+1:=by
 unfold Co.disturb
 repeat' split
 all_goals first|exact z77 p z c|exact zkd p z _ c|(rw[z2o];exact y0p _)|omega
theorem Wf.line {p:Pl} {c:Cs} (h:Wf p c) {z w:Str} (hz:z∈p.zones.map (·.1)) (hw:okS w):Wf p (line p z w c):=by
 have h':=h.setLine z hw
 unfold Co.line
 repeat' split
 all_goals first|exact h|exact h'|exact h'.tell _ _|exact h'.disturb _ hz
theorem zov (p:Pl) (z w:Str) (c:Cs):(line p z w c).told.length<=c.told.length+1:=by
 unfold Co.line
 repeat' split
 all_goals first|omega|(rw[z2o];exact y0p _)|exact zid p z w { c with lines:=setL c.lines z w }|exact y2p _
theorem Wf.alarms {p:Pl}:∀{zs:List Str} {c:Cs},Wf p c->(∀z∈zs,z∈p.zones.map (·.1))->Wf p (Co.alarms p zs c)
 | [],_,h,_=>h
 | z::zs,c,h,hz=>Wf.alarms (zs:=zs) (h.alarm (hz z y0f)) fun y hy=>hz y (y05 _ hy)
theorem zec (p:Pl):∀(zs:List Str) (c:Cs),(Co.alarms p zs c).told.length<=c.told.length+zs.length
 | [],c=>y0p _
 | z::zs,c=>by
  have h1:=zec p zs (alarm p z c)
  have h2:=z77 p z c
  simp only[y0x]
  show (Co.alarms p zs (alarm p z c)).told.length<=_
  omega
theorem Wf.endLeaving {p:Pl} {c:Cs} (h:Wf p c):Wf p (endLeaving p c):=Wf.alarms ((h.on 0).tell _ _) fun z hz=>zck hz
theorem z8l {p:Pl} {c:Cs} (h:Wf p c):(endLeaving p c).told.length<=c.told.length+41:=by
 have h1:=zec p (bare p ["inner","way"] (tell "on" none { c with mode:="on",left:=0 })) (tell "on" none { c with mode:="on",left:=0 })
 have h2:=zlz p ["inner","way"] (tell "on" none { c with mode:="on",left:=0 })
 have h3:=h.zl
 rw[z2o] at h1
 show (Co.alarms p _ _).told.length<=_
 have h4:({ c with mode:="on",left:=0 }:Cs).told.length=c.told.length:=rfl
 omega
theorem Wf.endComing {p:Pl} {c:Cs} (h:Wf p c) (hc:c.came≠none):Wf p (endComing p c):=by
 obtain⟨z,hz⟩:=Option.ne_none_iff_exists'.mp hc
 unfold Co.endComing
 rw[hz]
 exact h.onComing.alarm (h.ca z hz).2
theorem zel (p:Pl) (c:Cs):(endComing p c).told.length<=c.told.length+1:=z77 _ _ _
theorem Wf.endTime {p:Pl} {c:Cs} (h:Wf p c) (hm:c.mode="leaving"\/c.mode="coming"):Wf p (endTime p c):=by
 unfold Co.endTime
 split
 ·exact h.endLeaving
 next q=>exact h.endComing (h.cm (hm.resolve_left q))
theorem zib {p:Pl} {c:Cs} (h:Wf p c):(endTime p c).told.length<=c.told.length+41:=by
 unfold Co.endTime
 split
 ·exact z8l h
 ·have:=zel p c
  omega
theorem Wf.ticks {p:Pl} {c:Cs} (h:Wf p c) (n:Int):Wf p (ticks p n c):=by
 unfold Co.ticks
 split
 ·exact h
 ·split
  next q=>exact ((h.cd _).endTime q.1).cd _
  ·exact h.cd _
theorem zm8 {p:Pl} {c:Cs} (h:Wf p c) (n:Int):(ticks p n c).told.length<=c.told.length+41:=by
 unfold Co.ticks
 split
 ·omega
 ·split
  ·exact zib (h.cd c.left)
  ·exact Nat.le_add_right _ _
theorem Wf.takeWrong {p:Pl} {c:Cs} (h:Wf p c):Wf p (takeWrong p c):=by
 unfold Co.takeWrong
 split
 ·exact Wf.tell (Wf.loud (c:={ wrong1 c with tries:=0,locked:=90 }) ⟨h.zn,h.cn,h.zl,h.mo,h.ca,h.cm,h.ln,h.lo,h.us,h.sh,h.al⟩) _ _
 ·exact⟨h.zn,h.cn,h.zl,h.mo,h.ca,h.cm,h.ln,h.lo,h.us,h.sh,h.al⟩
theorem zee (p:Pl) (c:Cs):(takeWrong p c).told.length<=c.told.length+2:=by
 unfold Co.takeWrong
 split
 ·rw[z2o]
  show (tell _ _ c).told.length+1<=_
  rw[z2o]
  exact y0p _
 ·show (tell _ _ c).told.length<=_
  rw[z2o]
  omega
theorem Wf.doSet {p:Pl} {c:Cs} (h:Wf p c) (w:Str):Wf p (doSet p w c):=by
 unfold Co.doSet
 have h':=(h.setAl p.leave).tell "set" (some w)
 show Wf p (if p.leave<=0 then _ else _)
 split
 ·exact h'.endLeaving
 ·exact h'
theorem zmv {p:Pl} {c:Cs} (h:Wf p c) (w:Str):(doSet p w c).told.length<=c.told.length+42:=by
 unfold Co.doSet
 have h':=(h.setAl p.leave).tell "set" (some w)
 have e:=z2o "set" (some w) { c with alarms:=[],siren:=0,mode:="leaving",left:=p.leave }
 have e':({ c with alarms:=[],siren:=0,mode:="leaving",left:=p.leave }:Cs).told.length=c.told.length:=rfl
 show (if p.leave<=0 then endLeaving p _ else _:Cs).told.length<=_
 split
 ·have:=z8l h'
  omega
 ·omega
theorem Wf.doUnset {p:Pl} {c:Cs} (h:Wf p c) (w:Str):Wf p (doUnset w c) :=
 ⟨h.zn,h.cn,h.zl,z02 "off",fun z e=>(nomatch e),fun e=>absurd e z47,h.ln,h.lo,h.us,by simp[Co.doUnset,Co.tell],h.al⟩
theorem Wf.doDeed {p:Pl} {c:Cs} (h:Wf p c) (w:Str) {d:Str} {z:Option Str} (hz:okD p d z c) (hn:d="shunt"->z.getD ""∉c.shunts):Wf p (doDeed p w d z c):=by
 rcases hz with rfl|rfl|⟨rfl,x,rfl,hx⟩|⟨rfl,x,rfl,hx⟩
 ·simp only[Co.doDeed,if_true];exact h.doSet w
 ·simp only[Co.doDeed,if_neg z7e,if_true];exact h.doUnset w
 ·simp only[Co.doDeed,if_neg z7f,if_neg z4c,if_true]
  refine Wf.tell (c:={ c with shunts:=z85 (c.shunts++[x]) }) ⟨h.zn,h.cn,h.zl,h.mo,h.ca,h.cm,h.ln,h.lo,h.us,⟨?_,?_⟩,h.al⟩ _ _
  ·show (z85 (c.shunts++[x])).Nodup
   rw[(z5o _).nodup_iff,y1r]
   refine⟨h.sh.1,by simp,fun a ha b hb e=>?_⟩
   simp at hb
   exact hn rfl (by show x∈_;exact hb▸e▸ha)
  ·intro y hy
   have hy':=(z5o _).mem_iff.mp hy
   rcases y13.mp hy' with q|q
   ·exact h.sh.2 y q
   ·simp at q
    exact q▸hx
 ·simp only[Co.doDeed,if_neg z90,if_neg z54,if_neg z55]
  refine Wf.tell (c:={ c with shunts:=c.shunts.erase x }) ⟨h.zn,h.cn,h.zl,h.mo,h.ca,h.cm,h.ln,h.lo,h.us,⟨?_,?_⟩,h.al⟩ _ _
  ·exact h.sh.1.erase x
  ·exact fun y hy=>h.sh.2 y (List.mem_of_mem_erase hy)
theorem zkb {p:Pl} {c:Cs} (h:Wf p c) (w d:Str) (z:Option Str):(doDeed p w d z c).told.length<=c.told.length+42:=by
 unfold Co.doDeed
 split
 ·exact zmv h w
 ·split
  ·show (tell _ _ _).told.length<=_
   rw[z2o]
   show c.told.length+1<=_
   omega
  ·split
   ·rw[z2o]
    show c.told.length+1<=_
    omega
   ·rw[z2o]
    show c.told.length+1<=_
    omega
theorem zgx {p:Pl} {c:Cs} {k:Cd} {z:Option Str} (ha:against p k "shunt" z c=none):z.getD ""∉c.shunts/\c.mode="off"/\kindOf p (z.getD "")≠"day":=by
 have hu:z3g p "shunt" z c≠true:=by
  intro q
  unfold against at ha
  rw[q] at ha
  by_cases hr:(if ("shunt":Str)="free" then ("shunt":Str) else "shunt")∈k.rights
  ·rw[if_neg (fun q=>q hr),if_pos rfl] at ha
   cases ha
  ·rw[if_pos hr] at ha
   cases ha
 unfold z3g at hu
 rw[if_neg z4c] at hu
 by_cases hm:c.mode="off"
 ·rw[if_neg (fun q=>q hm),if_pos rfl] at hu
  simp at hu
  exact⟨hu.2,hm,hu.1⟩
 ·rw[if_pos hm] at hu
  exact absurd rfl hu
theorem Wf.takeRight {p:Pl} {c:Cs} (h:Wf p c) (k:Cd) {d:Str} {z:Option Str} (hd:d="set"\/d="unset"\/d="shunt"\/d="free") (hz:okZ p d z):Wf p (takeRight p k d z c):=by
 unfold Co.takeRight
 split
 next e =>
  refine (h.add _).doDeed _ (zoo hd hz e) fun q=>?_
  subst q
  exact (zgx e).1
 ·exact h.tell _ _
theorem zef {p:Pl} {c:Cs} (h:Wf p c) (k:Cd) (d:Str) (z:Option Str):(takeRight p k d z c).told.length<=c.told.length+42:=by
 unfold Co.takeRight
 split
 ·exact zkb (h.add k.fig) _ _ _
 ·rw[z2o];omega
theorem Wf.code {p:Pl} {c:Cs} (h:Wf p c) (f:Str) {d:Str} {z:Option Str} (hd:d="set"\/d="unset"\/d="shunt"\/d="free") (hz:okZ p d z):Wf p (code p f d z c):=by
 unfold Co.code
 split
 ·exact h.tell _ _
 ·split
  ·exact h.takeWrong
  ·split
   ·exact h.takeWrong
   ·exact (h.tri 0).takeRight _ hd hz
theorem zpu {p:Pl} {c:Cs} (h:Wf p c) (f d:Str) (z:Option Str):(code p f d z c).told.length<=c.told.length+42:=by
 have:=zee p c
 unfold Co.code
 split
 ·rw[z2o];omega
 ·split
  ·omega
  ·split
   ·omega
   ·exact zef (h.tri 0) _ _ _
theorem zxz {p:Pl} {z w:Str} (he:okE p (.line z w)):okS w:=by
 rcases he.2 with rfl|rfl|rfl
 ·exact z02 "shut"
 ·exact z02 "open"
 ·exact z02 "cut"
theorem Wf.happen {p:Pl} {c:Cs} (h:Wf p c) {e:Et} (he:okE p e):Wf p (happen p c e):=by
 cases e with
 | line z w=>exact h.line he.1 (zxz he)
 | code f d z=>exact h.code f he.2.1 he.2.2
 | ticks n=>exact h.ticks n
theorem za4 {p:Pl} {c:Cs} (h:Wf p c) (e:Et):(happen p c e).told.length<=c.told.length+50:=by
 cases e with
 | line z w=>have:=zov p z w c;show (line p z w c).told.length<=_;omega
 | code f d z=>have:=zpu h f d z;show (code p f d z c).told.length<=_;omega
 | ticks n=>have:=zm8 h n;show (ticks p n c).told.length<=_;omega
def run (p:Pl) (c:Cs) (es:List Et):Cs:=es.foldl (happen p) c
def fresh (c:Cs):Cs:={ c with past:=0,told:=[] }
theorem Wf.fresh {p:Pl} {c:Cs} (h:Wf p c):Wf p (fresh c):=⟨h.zn,h.cn,h.zl,h.mo,h.ca,h.cm,h.ln,h.lo,h.us,h.sh,h.al⟩
theorem Wf.run {p:Pl}:∀{es:List Et} {c:Cs},Wf p c->(∀e∈es,okE p e)->Wf p (run p c es)
 | [],_,h,_=>h
 | e::es,c,h,he=>Wf.run (es:=es) (h.happen (he e y0f)) fun y hy=>he y (y05 _ hy)
theorem zg6 {p:Pl}:∀{es:List Et} {c:Cs},Wf p c->(∀e∈es,okE p e)->(run p c es).told.length<=c.told.length+50*es.length
 | [],_,_,_=>y0p _
 | e::es,c,h,he=>by
  have h1:=zg6 (es:=es) (h.happen (he e y0f)) fun y hy=>he y (y05 _ hy)
  have h2:=za4 h e
  show (run p (happen p c e) es).told.length<=_
  simp only[y0x]
  omega
noncomputable def encS (c:Cs):T:=.tuple [.str c.mode,.int c.left,oS c.came,.tuple (c.lines.map fun l=>.str l.2),.tuple (c.shunts.map .str),.int c.siren,.tuple (c.alarms.map .str),.int c.tries,.int c.locked,.tuple (c.used.map fun u=>.int u.2)]
theorem zs9:∀(ks:List Str) (l:List (Str×Str)),l.map (·.1)=ks->zipD (ks.map .str) (l.map fun l=>.str l.2)=some (dS l)
 | [],[],_=>rfl
 | [],_::_,h=>by cases h
 | _::_,[],h=>by cases h
 | k::ks,x::l,h=>by
  simp at h
  simp[zipD,z6d,zs9 ks l h.2,dS,h.1]
theorem zsa:∀(ks:List Str) (l:List (Str×Int)),l.map (·.1)=ks->zipD (ks.map .str) (l.map fun l=>.int l.2)=some (dI l)
 | [],[],_=>rfl
 | [],_::_,h=>by cases h
 | _::_,[],h=>by cases h
 | k::ks,x::l,h=>by
  simp at h
  simp[zipD,z6d,zsa ks l h.2,dI,h.1]
theorem zht {l:List Str} (h:l.Nodup):(l.map (Sum.inr:Str->D.Key)).Nodup:=by
 rw[List.nodup_iff_pairwise_ne,List.pairwise_map]
 exact (List.nodup_iff_pairwise_ne.mp h).imp fun q e=>q (Sum.inr.inj e)
theorem zuh (l:List (Str×Str)):(dS l).map (·.1)=(l.map (·.1)).map Sum.inr:=by simp[dS,y19]
theorem zui (l:List (Str×Int)):(dI l).map (·.1)=(l.map (·.1)).map Sum.inr:=by simp[dI,y19]
theorem zlw {α:Type} (enc:α->T) (g:α->T) (caps:Ev) (ts:List α) (s0:Option Sl) (h:∀a∈ts,(op2 oIx (nm 0) (cst (.int 0))) (some (.imm (enc a))::caps)=some (g a)):z58 (gNm 0) (cstT true) (op2 oIx (nm 0) (cst (.int 0))) (ts.map enc) (s0::caps)=some (ts.map g):=by
 have:=zfp (cc:=cstT true) (ee:=op2 oIx (nm 0) (cst (.int 0))) (caps:=caps) enc (fun _=>true) g ts s0 fun a ha=>⟨rfl,fun _=>h a ha⟩
 rw[List.filter_eq_self.mpr (fun _ _=>rfl)] at this
 exact this
theorem zum (p:Pl) (c:Cs) (h:Wf p c) (hp:Wp p):z2r [.obj .lent 0 [],.imm (encP p),.imm (encS c)]=some (.none,encC p (fresh c)):=by
 have hz:=h.zl
 have hc:=hp.cl
 have c1:=zlw encZ (fun z=>.str z.1) [] p.zones none fun z hz=>by simp! [sp2,encZ]
 have c2:=zlw z26 (fun z=>.str z.fig) [] p.codes none fun z hz=>by simp! [sp2,z26]
 have z1:=zs9 (p.zones.map (·.1)) c.lines h.ln
 have z2:=zsa (p.codes.map (·.fig)) c.used h.us
 rw[y2v] at z1 z2
 have b1:p.zones.length<=big:=by unfold big;omega
 have b2:p.codes.length<=big:=by unfold big;omega
 have n1:((dS c.lines).map (·.1)).Nodup/\(dS c.lines).length<=1000/\∀t∈(p.zones.map fun z=>y23 z.1),(z6d t).isSome=true:=by
  refine⟨?_,?_,?_⟩
  ·rw[zuh,h.ln];exact zht hp.zd
  ·have:=congrArg List.length h.ln
   simp[dS] at *
   omega
  ·intro t ht
   obtain⟨z,_,rfl⟩:=y0n.mp ht
   rfl
 have n2:((dI c.used).map (·.1)).Nodup/\(dI c.used).length<=1000/\∀t∈(p.codes.map fun z=>y23 z.fig),(z6d t).isSome=true:=by
  refine⟨?_,?_,?_⟩
  ·rw[zui,h.us];exact zht hp.cd
  ·have:=congrArg List.length h.us
   simp[dI] at *
   omega
  ·intro t ht
   obtain⟨z,_,rfl⟩:=y0n.mp ht
   rfl
 have b0:(0<=big)=True:=by simp
 simp only[y19] at z1 z2
 simp only[z2r,z76,runM,z5r]
 simp! [sp4,encP,encS,znb,zf9,c1,c2,b1,b2,z1,z2]
 rw[if_pos n1]
 simp! [sp4,zf9,znb,c1,c2,b1,b2,z1,z2]
 rw[if_pos ⟨n2.1,n2.2.1,fun a ha=>rfl⟩]
 simp! [sp4,encC,fresh,encP]
theorem zqk (p:Pl) (c:Cs) (m:Md) (h:Wf p c):z3o [.obj m 0 (encC p c)]=some (encS c):=by
 have h1:=h.shLen
 have h2:=h.alLen
 have b1:c.shunts.length<=big:=by unfold big;omega
 have b2:c.alarms.length<=big:=by unfold big;omega
 simp! [sp1,z3o,z9w,zpl,z30,b1,b2,zky,encS,dS,dI,y19]
theorem zl7 (p:Pl) (hp:Wp p):∀(es:List Et) (c:Cs) (s0 s1 s2 s4:Option Sl),Wf p c->(∀e∈es,okE p e)->c.told.length+50*es.length+60<big->∃s4',forL (gNm 4) (exX (z0t 0 z1i 3 [(nmV 4)])) (es.map encE) [s0,s1,s2,some (.obj .own 0 (encC p c)),s4]=some (.nx [s0,s1,s2,some (.obj .own 0 (encC p (run p c es))),s4'])
 | [],c,s0,s1,s2,s4,_,_,_=>⟨s4,by simp[forL,run]⟩
 | e::es,c,s0,s1,s2,s4,h,he,ht=>by
  have hee:=he e y0f
  simp only[y0x] at ht
  have ea:=zpf p c e h hp hee (by omega)
  have:=za4 h e
  obtain⟨s1',ih⟩:=zl7 p hp es (happen p c e) s0 s1 s2 (some (.imm (encE e))) (h.happen hee) (fun y hy=>he y (y05 _ hy)) (by omega)
  refine⟨s1',?_⟩
  rw[y0e,forL]
  simp! [sp4,ea]
  simpa [runF,seq,iff,tstB,tstL,andT,orT,notT,cstT,ofT,op1,op2,opN,args,cst,nm,nmV,rtn,skip,asg,asgN,asgT,par,z0g,z5b,oIsN,z82,oIx,atZ,ixOf,gNm,gTu,gAll,z4d,comp,z59,run] using ih
theorem z8o (p:Pl) (c:Cs) (es:List Et) (h:Wf p c) (hp:Wp p) (he:∀e∈es,okE p e) (hl:es.length<=1000):z2k [encP p,encS c,.tuple (es.map encE)]=some (.obj .own 0 (encC p (run p (fresh c) es))):=by
 have ei:=zum p c h hp
 have hb:(fresh c).told.length=0:=rfl
 have b2:(60000<big):=by decide
 obtain⟨s4',el⟩:=zl7 p hp es (fresh c) (some (.imm (encP p))) (some (.imm (encS c))) (some (.imm (.tuple (es.map encE)))) none h.fresh he (by omega)
 simp only[z2k,zaa,runO]
 simp! [sp4,asgO,newO,ei,for_,rtnO]
 rw[el]
 simp[rtnO,ownS]
theorem zqj (p:Pl) (c:Cs) (es:List Et) (h:Wf p c) (hp:Wp p) (he:∀e∈es,okE p e) (hl:es.length<=1000):ze0 [encP p,encS c,.tuple (es.map encE)]=some (.tuple ((run p (fresh c) es).told.map encW)):=by
 have e1_:=z8o p c es h hp he hl
 have hb:=zg6 h.fresh he
 have b2:(60000<big):=by decide
 have h0:(fresh c).told.length=0:=rfl
 have b1:(run p (fresh c) es).told.length<=big:=by omega
 simp! [sp2,ze0,zq3,zis,zbe,e1_,za7,e12,z30,b1]
noncomputable def z19 (p:Pl):Cs:={ mode:="off",left:=0,came:=none,lines:=p.zones.map fun z=>(z.1,"shut"),shunts:=[],siren:=0,alarms:=[],tries:=0,locked:=0,used:=p.codes.map fun k=>(k.fig,0),past:=0,told:=[] }
theorem zs1 (p:Pl) (hz:p.zones.length<=40) (hp:Wp p):ze1 [encP p]=some (encS (z19 p)):=by
 have hc:=hp.cl
 have b1:p.zones.length<=big:=by unfold big;omega
 have b2:p.codes.length<=big:=by unfold big;omega
 have c1:=zfp (cc:=cstT true) (ee:=cst (.str "shut")) (caps:=[]) encZ (fun _=>true) (fun _=>.str "shut") p.zones none fun a ha=>⟨rfl,fun _=>rfl⟩
 have c2:=zfp (cc:=cstT true) (ee:=cst (.int 0)) (caps:=[]) z26 (fun _=>true) (fun _=>.int 0) p.codes none fun a ha=>⟨rfl,fun _=>rfl⟩
 rw[List.filter_eq_self.mpr (fun _ _=>rfl)] at c1 c2
 simp! [sp2,ze1,zq4,encP,z30,b1,b2,c1,c2,zky,encS,z19,oS,y19]
end Co
end
section
namespace Co
open D PySem
local instance:Tbl:=⟨[],fun _=>[],fun _=>none⟩
theorem zv1 (ns:List Int) (k:Nat):z3x [z0l ns,.int k]=some (.int (ns.getD k 0)):=by
 by_cases h:k<ns.length
 ·have h':(k:Int)<(ns.length:Int):=by omega
  simp! [sp6,z3x,za9,z0l,h,h',List.getD]
 ·have h':¬(k:Int)<(ns.length:Int):=by omega
  simp! [sp6,z3x,za9,z0l,h,h',List.getD]
theorem zdf {i j:Int} (h:-(2 ^ 64)<j/\j<2 ^ 64):oMul (.int i) (.int j)=some (.int (i*j)):=by
 unfold oMul zrc
 simp only[decide_eq_true h.1,decide_eq_true h.2,Bool.and_self,Bool.or_true,if_true]
theorem zhy {i j:Int} (h:0<j):oMod (.int i) (.int j)=some (.int (i % j)):=if_pos h
theorem zwz {i j:Int} (h:0<j/\j<1073741824):oDiv (.int i) (.int j)=some (.int (i / j)):=if_pos h
theorem z78 {i j:Int}:oAdd (.int i) (.int j)=some (.int (i+j)):=rfl
theorem z3m {a b:Fs} {ε ε':Ev} (h:a ε=some (.nx ε')):seq a b ε=b ε':=by
 unfold seq
 rw[h]
 rfl
theorem zgi (ns:List Int) (k:Nat):∃m:Int,0<=m/\z3c [z0l ns,.int k]=some (.int m):=by
 have hc:=zv1 ns k
 have hd:0<=(ns.getD k 0+7919*(k:Int)+1)*48271 % 2147483647/\(ns.getD k 0+7919*(k:Int)+1)*48271 % 2147483647<2147483647:=⟨y2q _ (by decide),y2r _ (by decide)⟩
 generalize hx:(ns.getD k 0+7919*(k:Int)+1)*48271 % 2147483647=d at hd
 refine⟨(d*d+7*d+k) % 2147483629,y2q _ (by decide),?_⟩
 have e0:z3c [z0l ns,.int k]=(zea [some (.imm (z0l ns)),some (.imm (.int k)),none]).bind fun o=>match o with|.rt t=>some t|.nx _=>some .none|_=>none:=rfl
 have m1:oMul (.int 7919) (.int k)=some (.int (7919*k)):=by
  unfold oMul zrc
  simp
 have n0:nmV 0 [some (.imm (z0l ns)),some (.imm (.int k)),none]=some (z0l ns):=rfl
 have n1:nmV 1 [some (.imm (z0l ns)),some (.imm (.int k)),none]=some (.int k):=rfl
 have n1':nm 1 [some (.imm (z0l ns)),some (.imm (.int k)),none]=some (.int k):=rfl
 have s1:asg 2 (op2 oMod (op2 oMul (op2 oAdd (op2 oAdd (opN z3x [(nmV 0),(nmV 1)]) (op2 oMul (cst (.int 7919)) (nm 1))) (cst (.int 1))) (cst (.int 48271))) (cst (.int 2147483647))) [some (.imm (z0l ns)),some (.imm (.int k)),none]=some (.nx [some (.imm (z0l ns)),some (.imm (.int k)),some (.imm (.int d))]):=by
  simp only[asg,op2,opN,args,n0,n1,n1',y0q,y1w,hc,cst,m1,z78,zdf (i:=ns.getD k 0+7919*(k:Int)+1) (j:=48271) (by decide),zhy (j:=2147483647) (by decide),hx]
  rfl
 have m2:oMul (.int d) (.int d)=some (.int (d*d)):=zdf (by omega)
 have m3:oMul (.int 7) (.int d)=some (.int (7*d)):=zdf (by omega)
 rw[e0]
 unfold zea
 rw[z3m s1]
 have q2:nm 2 [some (.imm (z0l ns)),some (.imm (.int k)),some (.imm (.int d))]=some (.int d):=rfl
 have q1:nm 1 [some (.imm (z0l ns)),some (.imm (.int k)),some (.imm (.int d))]=some (.int k):=rfl
 simp only[rtn,op2,q2,q1,y0q,y1w,cst,m2,m3,z78,zhy (j:=2147483629) (by decide)]
theorem zci (n k:Int) (hk:-(2 ^ 64)<k/\k<2 ^ 64):∃m:Int,0<=m/\z27 [.int n,.int k]=some (.int m):=by
 have hd:0<=(n+104729*k+17)*69621 % 2147483647/\(n+104729*k+17)*69621 % 2147483647<2147483647:=⟨y2q _ (by decide),y2r _ (by decide)⟩
 generalize hx:(n+104729*k+17)*69621 % 2147483647=d at hd
 refine⟨(d*d+3*d+k) % 2147483629,y2q _ (by decide),?_⟩
 have e0:z27 [.int n,.int k]=(zeb [some (.imm (.int n)),some (.imm (.int k)),none]).bind fun o=>match o with|.rt t=>some t|.nx _=>some .none|_=>none:=rfl
 have m1:oMul (.int 104729) (.int k)=some (.int (104729*k)):=zdf hk
 have n0:nm 0 [some (.imm (.int n)),some (.imm (.int k)),none]=some (.int n):=rfl
 have n1:nm 1 [some (.imm (.int n)),some (.imm (.int k)),none]=some (.int k):=rfl
 have s1:asg 2 (op2 oMod (op2 oMul (op2 oAdd (op2 oAdd (nm 0) (op2 oMul (cst (.int 104729)) (nm 1))) (cst (.int 17))) (cst (.int 69621))) (cst (.int 2147483647))) [some (.imm (.int n)),some (.imm (.int k)),none]=some (.nx [some (.imm (.int n)),some (.imm (.int k)),some (.imm (.int d))]):=by
  simp only[asg,op2,n0,n1,y0q,y1w,cst,m1,z78,zdf (i:=n+104729*k+17) (j:=69621) (by decide),zhy (j:=2147483647) (by decide),hx]
  rfl
 have m2:oMul (.int d) (.int d)=some (.int (d*d)):=zdf (by omega)
 have m3:oMul (.int 3) (.int d)=some (.int (3*d)):=zdf (by omega)
 rw[e0]
 unfold zeb
 rw[z3m s1]
 have q2:nm 2 [some (.imm (.int n)),some (.imm (.int k)),some (.imm (.int d))]=some (.int d):=rfl
 have q1:nm 1 [some (.imm (.int n)),some (.imm (.int k)),some (.imm (.int d))]=some (.int k):=rfl
 simp only[rtn,op2,q2,q1,y0q,y1w,cst,m2,m3,z78,zhy (j:=2147483629) (by decide)]
theorem z7c (a b:Int):oEq (.int a) (.int b)=some (.bool (decide (a=b))):=by
 unfold oEq
 rw[zd4,zd4]
 by_cases e:a=b <;> simp[y28,e]
theorem divQ (m:Int) (j:Int) (h:0<j/\j<1073741824:=by decide):∃q,q=m / j/\oDiv (.int m) (.int j)=some (.int q):=⟨_,rfl,zwz h⟩
theorem modQ (m:Int) (j:Int) (h:0<j:=by decide):∃q,q=m % j/\0<=q/\q<j/\oMod (.int m) (.int j)=some (.int q):=⟨_,rfl,y2q _ (by omega),y2r _ h,zhy h⟩
theorem ixT {ts:List T} {j:Int} (h0:0<=j) (h1:j<ts.length):∃t∈ts,oIx (.tuple ts) (.int j)=some t:=by
 have hj:j.toNat<ts.length:=by omega
 refine⟨ts[j.toNat],List.getElem_mem hj,?_⟩
 simp only[oIx,atZ,ixOf,if_pos h0,if_pos h1,y0q]
 exact y0w hj
theorem ixS (ss:List Str) {j:Int} (h0:0<=j) (h1:j<ss.length):∃s∈ss,oIx (.tuple (ss.map .str)) (.int j)=some (.str s):=by
 obtain⟨t,ht,e⟩:=ixT (ts:=ss.map .str) h0 (by simpa using h1)
 obtain⟨s,hs,rfl⟩:=y0n.mp ht
 exact⟨s,hs,e⟩
theorem ixI (ss:List Int) {j:Int} (h0:0<=j) (h1:j<ss.length):∃s∈ss,oIx (.tuple (ss.map .int)) (.int j)=some (.int s):=by
 obtain⟨t,ht,e⟩:=ixT (ts:=ss.map .int) h0 (by simpa using h1)
 obtain⟨s,hs,rfl⟩:=y0n.mp ht
 exact⟨s,hs,e⟩
theorem zk7:(5<=big)=True:=by simp[big]
theorem za6:(4<=big)=True:=by simp[big]
theorem z4a:(3<=big)=True:=by simp[big]
theorem zns:(6<=big)=True:=by simp[big]
theorem zrs:(8<=big)=True:=by simp[big]
theorem zf7:(1<=big)=True:=by simp[big]
noncomputable def bZ:Fs:=(seq (asg 4 (op2 oDiv (opN z27 [(nmV 0),(nmV 2)]) (cst (.int 4))))
  (iff (orT (tstB (op2 oLt (op2 oMod (nm 4) (cst (.int 8))) (op2 oAdd (cst (.int 3)) (op2 oMod (nm 0) (cst (.int 5)))))) (tstB (op2 oEq (nm 2) (op2 oMod (op2 oDiv (nm 0) (cst (.int 8))) (cst (.int 8)))))) (asg 1 (op2 oAdd (nm 1) (z0g [(z0g [(nmV 3),(op2 oIx (z0g [(cst (.str "day")),(cst (.str "inner")),(cst (.str "once")),(cst (.str "way")),(cst (.str "way"))]) (op2 oMod (op2 oDiv (nm 4) (cst (.int 8))) (cst (.int 5))))])]))) skip))
def encK (x:Int×Str):T:=.tuple [.int x.1,.str x.2]
def kinds:List Str:=["day","inner","once","way","way"]
theorem zcn (n:Int):∀(l:List (Int×Str)) (acc:List (Str×Str)) (s2 s3 s4:Option Sl),(∀x∈l,0<=x.1/\x.1<100)->acc.length+l.length<=20->∃zs s2' s3' s4',(zs.map (·.1)).Sublist (l.map (·.2))/\(∀z∈zs,z.2∈kinds)/\((∃x∈l,x.1=n / 8 % 8)->zs≠[]) /\
  forL (gTu [(gNm 2),(gNm 3)]) bZ (l.map encK) [some (.imm (.int n)),some (.imm (.tuple (acc.map encZ))),s2,s3,s4,none,none,none,none,none]=some (.nx [some (.imm (.int n)),some (.imm (.tuple ((acc++zs).map encZ))),s2',s3',s4',none,none,none,none,none])
 | [],acc,s2,s3,s4,_,_=>⟨[],s2,s3,s4,.refl _,by simp,by simp,by simp[forL]⟩
 | x::l,acc,s2,s3,s4,hx,hl=>by
  obtain⟨m,hm,e1_⟩:=zci n x.1 (by have:=hx x y0f;omega)
  obtain⟨q,hq,e2_⟩:=divQ m 4
  obtain⟨r,_,_,_,e3_⟩:=modQ q 8
  obtain⟨r',_,_,_,e4_⟩:=modQ n 5
  obtain⟨q1,hq1,e5_⟩:=divQ n 8
  obtain⟨r1,hr1,_,_,e6_⟩:=modQ q1 8
  obtain⟨q2,hq2,e7_⟩:=divQ q 8
  obtain⟨r2,_,h0,h1,e8_⟩:=modQ q2 5
  obtain⟨s,hs,e9_⟩:=ixS kinds h0 h1
  simp only[kinds,y0e,y1c] at e9_
  simp only[y0x] at hl
  have b1:acc.length+1<=big:=by unfold big;omega
  have hx':∀y∈l,0<=y.1/\y.1<100:=fun y hy=>hx y (y05 _ hy)
  by_cases hc:r<3+r'\/x.1=r1
  ·obtain⟨zs,s2',s3',s4',i1,i2,i3,i4⟩:=zcn n l (acc++[(x.2,s)]) (some (.imm (.int x.1))) (some (.imm (.str x.2))) (some (.imm (.int q))) hx' (by simp;omega)
   refine⟨(x.2,s)::zs,s2',s3',s4',by simpa using i1,fun z hz=>?_,fun _=>by simp,?_⟩
   ·rcases y09.mp hz with rfl|hz
    ·exact hs
    ·exact i2 z hz
   ·rw[y0e,forL]
    have:bZ [some (.imm (.int n)),some (.imm (.tuple (acc.map encZ))),some (.imm (.int x.1)),some (.imm (.str x.2)),s4,none,none,none,none,none]=some (.nx [some (.imm (.int n)),some (.imm (.tuple ((acc++[(x.2,s)]).map encZ))),some (.imm (.int x.1)),some (.imm (.str x.2)),some (.imm (.int q)),none,none,none,none,none]):=by
     by_cases hc':r<3+r'
     ·simp! [sp9,bZ,e1_,e2_,e3_,e4_,e5_,e6_,e7_,e8_,e9_,z78,oLt,hc',oAdd,b1,zk7,z7t,zf7,encZ]
     ·have e10_:oEq (.int x.1) (.int r1)=some (.bool true):=by rw[z7c,decide_eq_true (hc.resolve_left hc')]
      simp! [sp9,bZ,e1_,e2_,e3_,e4_,e5_,e6_,e7_,e8_,e9_,z78,oLt,hc',e10_,oAdd,b1,zk7,z7t,zf7,encZ]
    simp only[encK,gTu,gAll,gNm,y0q,y1o,y1l,this]
    simpa using i4
  ·obtain⟨zs,s2',s3',s4',i1,i2,i3,i4⟩:=zcn n l acc (some (.imm (.int x.1))) (some (.imm (.str x.2))) (some (.imm (.int q))) hx' (by omega)
   refine⟨zs,s2',s3',s4',i1.cons _,i2,fun⟨y,hy,e⟩=>i3 ?_,?_⟩
   ·rcases y09.mp hy with rfl|hy
    ·exact absurd (.inr (by rw[e,hr1,hq1])) hc
    ·exact⟨y,hy,e⟩
   ·rw[y0e,forL]
    have:bZ [some (.imm (.int n)),some (.imm (.tuple (acc.map encZ))),some (.imm (.int x.1)),some (.imm (.str x.2)),s4,none,none,none,none,none]=some (.nx [some (.imm (.int n)),some (.imm (.tuple (acc.map encZ))),some (.imm (.int x.1)),some (.imm (.str x.2)),some (.imm (.int q)),none,none,none,none,none]):=by
     have h1':¬r<3+r':=fun z=>hc (.inl z)
     have h2':¬x.1=r1:=fun z=>hc (.inr z)
     simp! [sp9,bZ,e1_,e2_,e3_,e4_,e5_,e6_,e7_,e8_,e9_,z78,oLt,h1',h2',z7c]
    simp only[encK,gTu,gAll,gNm,y0q,y1o,y1l,this]
    exact i4
theorem rng3:rng 0 3=[.int 0,.int 1,.int 2]:=by simp[rng,List.range_succ]
def cR:Ft:=tstB (op2 oGt (op2 oMod (op2 oDiv (nm 1) (op2 oIx (z0g [(cst (.int 4)),(cst (.int 16)),(cst (.int 64))]) (nm 0))) (cst (.int 4))) (cst (.int 0)))
def eR:Fe:=op2 oIx (z0g [(cst (.str "set")),(cst (.str "shunt")),(cst (.str "unset"))]) (nm 0)
def zg8:List Str:=["set","shunt","unset"]
theorem zo1 (q:Int) (ε:Ev) (h:(ε[4]?).join=some (.imm (.int q))):∃rs:List Str,rs.Sublist zg8/\comp 1 [4] (z4k (cst (.int 3))) (gNm 0) cR eR ε=some (.list (rs.map .str)):=by
 have key:∀j j':Int,oIx (.tuple [.int 4,.int 16,.int 64]) (.int j)=some (.int j')->0<j'->j'<1073741824->∃b,cR [some (.imm (.int j)),some (.imm (.int q))]=some b:=by
  intro j j' h1 h2 h3
  obtain⟨q1,_,e1_⟩:=divQ q j' ⟨h2,h3⟩
  obtain⟨r1,_,_,_,e2_⟩:=modQ q1 4
  exact⟨decide (0<r1),by simp! [sp9,cR,h1,e1_,e2_,oGt,z4a]⟩
 obtain⟨b0,k0⟩:=key 0 4 (by simp[oIx,atZ,ixOf]) (by decide) (by decide)
 obtain⟨b1,k1⟩:=key 1 16 (by simp[oIx,atZ,ixOf]) (by decide) (by decide)
 obtain⟨b2,k2⟩:=key 2 64 (by simp[oIx,atZ,ixOf]) (by decide) (by decide)
 have r0:eR [some (.imm (.int 0)),some (.imm (.int q))]=some (.str "set"):=by simp! [sp2,eR,z4a]
 have r1:eR [some (.imm (.int 1)),some (.imm (.int q))]=some (.str "shunt"):=by simp! [sp2,eR,z4a]
 have r2:eR [some (.imm (.int 2)),some (.imm (.int q))]=some (.str "unset"):=by simp! [sp2,eR,z4a]
 have c0:comp 1 [4] (z4k (cst (.int 3))) (gNm 0) cR eR ε=(z58 (gNm 0) cR eR [.int 0,.int 1,.int 2] [none,some (.imm (.int q))]).map .list:=by
  have s3:z86 3=true:=by decide
  simp[comp,z4k,cst,s3,rng3,z59,h,z4a]
 rw[c0]
 cases b0 <;> cases b1 <;> cases b2
 ·exact⟨[],by simp,by simp[z58,gNm,k0,k1,k2]⟩
 ·exact⟨["unset"],by decide,by simp[z58,gNm,k0,k1,k2,r0,r1,r2]⟩
 ·exact⟨["shunt"],by decide,by simp[z58,gNm,k0,k1,k2,r0,r1,r2]⟩
 ·exact⟨["shunt","unset"],by decide,by simp[z58,gNm,k0,k1,k2,r0,r1,r2]⟩
 ·exact⟨["set"],by decide,by simp[z58,gNm,k0,k1,k2,r0,r1,r2]⟩
 ·exact⟨["set","unset"],by decide,by simp[z58,gNm,k0,k1,k2,r0,r1,r2]⟩
 ·exact⟨["set","shunt"],by decide,by simp[z58,gNm,k0,k1,k2,r0,r1,r2]⟩
 ·exact⟨["set","shunt","unset"],by decide,by simp[z58,gNm,k0,k1,k2,r0,r1,r2]⟩
noncomputable def bC:Fs:=(seq (asg 4 (op2 oDiv (opN z27 [(nmV 0),(op2 oAdd (cst (.int 10)) (nm 2))]) (cst (.int 4))))
  (iff (orT (tstB (op2 oGt (op2 oMod (nm 4) (cst (.int 3))) (cst (.int 0)))) (tstB (op2 oEq (nm 2) (cst (.int 1))))) (seq (asg 7 (opN z30 [(comp 1 [4] (z4k (cst (.int 3))) (gNm 0) cR eR)]))
  (seq (asg 8 (op2 oIx (z0g [(cst (.str "ann")),(cst (.str "bo")),(cst (.str "cy"))]) (op2 oMod (op2 oDiv (nm 4) (cst (.int 256))) (cst (.int 3)))))
  (asg 5 (op2 oAdd (nm 5) (z0g [(z0g [(nmV 6),(nmV 8),(nmV 7),(op2 oIx (z0g [(cst (.int 0)),(cst (.int 0)),(cst (.int 1)),(cst (.int 2)),(cst (.int 9))]) (op2 oMod (op2 oDiv (nm 4) (cst (.int 1024))) (cst (.int 5))))])]))))) skip))
def whos:List Str:=["ann","bo","cy"]
theorem zbj (n:Int) (s1 s3:Option Sl):∀(l:List (Int×Str)) (acc:List Cd) (s2 s4 s6 s7 s8:Option Sl),(∀x∈l,0<=x.1/\x.1<100)->acc.length+l.length<=20->∃ks s2' s4' s6' s7' s8',(ks.map (·.fig)).Sublist (l.map (·.2))/\(∀k∈ks,k.who∈whos/\k.rights.Sublist zg8/\k.uses∈([0,0,1,2,9]:List Int))/\((∃x∈l,x.1=1)->ks≠[]) /\
  forL (gTu [(gNm 2),(gNm 6)]) bC (l.map encK) [some (.imm (.int n)),s1,s2,s3,s4,some (.imm (.tuple (acc.map z26))),s6,s7,s8,none]=some (.nx [some (.imm (.int n)),s1,s2',s3,s4',some (.imm (.tuple ((acc++ks).map z26))),s6',s7',s8',none])
 | [],acc,s2,s4,s6,s7,s8,_,_=>⟨[],s2,s4,s6,s7,s8,.refl _,by simp,by simp,by simp[forL]⟩
 | x::l,acc,s2,s4,s6,s7,s8,hx,hl=>by
  obtain⟨m,hm,e1_⟩:=zci n (10+x.1) (by have:=hx x y0f;omega)
  obtain⟨q,hq,e2_⟩:=divQ m 4
  obtain⟨r,_,_,_,e3_⟩:=modQ q 3
  obtain⟨q1,hq1,e5_⟩:=divQ q 256
  obtain⟨r1,hr1,h0,h1,e6_⟩:=modQ q1 3
  obtain⟨q2,hq2,e7_⟩:=divQ q 1024
  obtain⟨r2,_,h2,h3,e8_⟩:=modQ q2 5
  obtain⟨s,hs,e9_⟩:=ixS whos h0 h1
  obtain⟨u,hu,e10_⟩:=ixI [0,0,1,2,9] h2 h3
  simp only[whos,y0e,y1c] at e9_ e10_
  simp only[y0x] at hl
  have b1:acc.length+1<=big:=by unfold big;omega
  have hx':∀y∈l,0<=y.1/\y.1<100:=fun y hy=>hx y (y05 _ hy)
  obtain⟨rs,hrs,e11_⟩:=zo1 q [some (.imm (.int n)),s1,some (.imm (.int x.1)),s3,some (.imm (.int q)),some (.imm (.tuple (acc.map z26))),some (.imm (.str x.2)),s7,s8,none] rfl
  by_cases hc:0<r\/x.1=1
  ·obtain⟨ks,s2',s4',s6',s7',s8',i1,i2,i3,i4⟩:=zbj n s1 s3 l (acc++[(⟨x.2,s,rs,u⟩:Cd)]) (some (.imm (.int x.1))) (some (.imm (.int q))) (some (.imm (.str x.2))) (some (.imm (.tuple (rs.map .str)))) (some (.imm (.str s))) hx' (by simp;omega)
   refine⟨⟨x.2,s,rs,u⟩::ks,s2',s4',s6',s7',s8',by simpa using i1,fun z hz=>?_,fun _=>by simp,?_⟩
   ·rcases y09.mp hz with rfl|hz
    ·exact⟨hs,hrs,hu⟩
    ·exact i2 z hz
   ·rw[y0e,forL]
    have:bC [some (.imm (.int n)),s1,some (.imm (.int x.1)),s3,s4,some (.imm (.tuple (acc.map z26))),some (.imm (.str x.2)),s7,s8,none]=some (.nx [some (.imm (.int n)),s1,some (.imm (.int x.1)),s3,some (.imm (.int q)),some (.imm (.tuple ((acc++[(⟨x.2,s,rs,u⟩:Cd)]).map z26))),some (.imm (.str x.2)),some (.imm (.tuple (rs.map .str))),some (.imm (.str s)),none]):=by
     have s1':asg 4 (op2 oDiv (opN z27 [(nmV 0),(op2 oAdd (cst (.int 10)) (nm 2))]) (cst (.int 4))) [some (.imm (.int n)),s1,some (.imm (.int x.1)),s3,s4,some (.imm (.tuple (acc.map z26))),some (.imm (.str x.2)),s7,s8,none]=some (.nx [some (.imm (.int n)),s1,some (.imm (.int x.1)),s3,some (.imm (.int q)),some (.imm (.tuple (acc.map z26))),some (.imm (.str x.2)),s7,s8,none]):=by
      simp! [sp9,z78,e1_,e2_]
     have s2':asg 7 (opN z30 [(comp 1 [4] (z4k (cst (.int 3))) (gNm 0) cR eR)]) [some (.imm (.int n)),s1,some (.imm (.int x.1)),s3,some (.imm (.int q)),some (.imm (.tuple (acc.map z26))),some (.imm (.str x.2)),s7,s8,none]=some (.nx [some (.imm (.int n)),s1,some (.imm (.int x.1)),s3,some (.imm (.int q)),some (.imm (.tuple (acc.map z26))),some (.imm (.str x.2)),some (.imm (.tuple (rs.map .str))),s8,none]):=by
      simp only[asg,opN,args,e11_,y0q,y1w,z30]
      rfl
     unfold bC
     rw[z3m s1']
     have ct:orT (tstB (op2 oGt (op2 oMod (nm 4) (cst (.int 3))) (cst (.int 0)))) (tstB (op2 oEq (nm 2) (cst (.int 1)))) [some (.imm (.int n)),s1,some (.imm (.int x.1)),s3,some (.imm (.int q)),some (.imm (.tuple (acc.map z26))),some (.imm (.str x.2)),s7,s8,none]=some true:=by
      by_cases hc':0<r
      ·simp! [sp9,e3_,oGt,hc']
      ·have e12_:oEq (.int x.1) (.int 1)=some (.bool true):=by rw[z7c,decide_eq_true (hc.resolve_left hc')]
       simp! [sp9,e3_,oGt,hc',e12_]
     simp only[iff,ct,y0q,if_true]
     rw[z3m s2']
     simp! [sp9,e3_,e5_,e6_,e7_,e8_,e9_,e10_,oAdd,b1,zk7,za6,z4a,zf7,z26]
    simp only[encK,gTu,gAll,gNm,y0q,y1o,y1l,this]
    simpa using i4
  ·obtain⟨ks,s2',s4',s6',s7',s8',i1,i2,i3,i4⟩:=zbj n s1 s3 l acc (some (.imm (.int x.1))) (some (.imm (.int q))) (some (.imm (.str x.2))) s7 s8 hx' (by omega)
   refine⟨ks,s2',s4',s6',s7',s8',i1.cons _,i2,fun⟨y,hy,e⟩=>i3 ?_,?_⟩
   ·rcases y09.mp hy with rfl|hy
    ·exact absurd (.inr e) hc
    ·exact⟨y,hy,e⟩
   ·rw[y0e,forL]
    have:bC [some (.imm (.int n)),s1,some (.imm (.int x.1)),s3,s4,some (.imm (.tuple (acc.map z26))),some (.imm (.str x.2)),s7,s8,none]=some (.nx [some (.imm (.int n)),s1,some (.imm (.int x.1)),s3,some (.imm (.int q)),some (.imm (.tuple (acc.map z26))),some (.imm (.str x.2)),s7,s8,none]):=by
     have h1':¬0<r:=fun z=>hc (.inl z)
     have e12_:oEq (.int x.1) (.int 1)=some (.bool false):=by rw[z7c,decide_eq_false fun z=>hc (.inr z)]
     simp! [sp9,bC,e1_,e2_,e3_,z78,oGt,h1',e12_]
    simp only[encK,gTu,gAll,gNm,y0q,y1o,y1l,this]
    exact i4
def zN:List (Int×Str):=[(0,"a"),(1,"b"),(2,"back"),(3,"d"),(4,"hall"),(5,"r"),(6,"win"),(7,"z")]
def cN:List (Int×Str):=[(0,"0000"),(1,"1234"),(2,"4321"),(3,"7777"),(4,"9990"),(5,"9999")]
structure DP (p:Pl):Prop where
 zs:(p.zones.map (·.1)).Sublist (zN.map (·.2))
 zk:∀z∈p.zones,z.2∈kinds
 z0:p.zones≠[]
 cs:(p.codes.map (·.fig)).Sublist (cN.map (·.2))
 ck:∀k∈p.codes,k.who∈whos/\k.rights.Sublist zg8/\k.uses∈([0,0,1,2,9]:List Int)
 c0:p.codes≠[]
 tl:p.leave∈([0,5,30,60]:List Int)
 tc:p.come∈([0,4,20,60]:List Int)
 to:p.loud∈([1,9,120,300]:List Int)
theorem zu0 (n:Int):∃p,DP p/\zcj [.int n]=some (encP p):=by
 obtain⟨zs,s2,s3,s4,i1,i2,i3,i4⟩:=zcn n zN [] none none none (by decide) (by decide)
 have hz0:zs≠[]:=i3 (by
  have h1:0<=n / 8 % 8:=y2q _ (by decide)
  have h2:n / 8 % 8<8:=y2r _ (by decide)
  generalize n / 8 % 8=r at h1 h2
  have:r=0\/r=1\/r=2\/r=3\/r=4\/r=5\/r=6\/r=7:=by omega
  rcases this with rfl|rfl|rfl|rfl|rfl|rfl|rfl|rfl
  ·exact⟨(0,"a"),by simp[zN],rfl⟩
  ·exact⟨(1,"b"),by simp[zN],rfl⟩
  ·exact⟨(2,"back"),by simp[zN],rfl⟩
  ·exact⟨(3,"d"),by simp[zN],rfl⟩
  ·exact⟨(4,"hall"),by simp[zN],rfl⟩
  ·exact⟨(5,"r"),by simp[zN],rfl⟩
  ·exact⟨(6,"win"),by simp[zN],rfl⟩
  ·exact⟨(7,"z"),by simp[zN],rfl⟩)
 obtain⟨ks,t2,t4,t6,t7,t8,j1,j2,j3,j4⟩:=zbj n (some (.imm (.tuple (zs.map encZ)))) s3 cN [] s2 s4 none none none (by decide) (by decide)
 have hk0:ks≠[]:=j3 ⟨(1,"1234"),by simp[cN],rfl⟩
 obtain⟨m,hm,e1_⟩:=zci n 20 (by decide)
 obtain⟨q,hq,e2_⟩:=divQ m 4
 obtain⟨r,_,a0,a1,e3_⟩:=modQ q 4
 obtain⟨q1,hq1,e4_⟩:=divQ q 4
 obtain⟨r1,_,b0,b1,e5_⟩:=modQ q1 4
 obtain⟨q2,hq2,e6_⟩:=divQ q 16
 obtain⟨r2,_,c0,c1,e7_⟩:=modQ q2 4
 obtain⟨u,hu,e8_⟩:=ixI [0,5,30,60] a0 a1
 obtain⟨v,hv,e9_⟩:=ixI [0,4,20,60] b0 b1
 obtain⟨w,hw,e10_⟩:=ixI [1,9,120,300] c0 c1
 simp only[y0e,y1c] at e8_ e9_ e10_
 refine⟨⟨zs,ks,u,v,w⟩,⟨i1,i2,hz0,j1,j2,hk0,hu,hv,hw⟩,?_⟩
 have f1:for_ (z7w (z7g (z0g [(cst (.str "a")),(cst (.str "b")),(cst (.str "back")),(cst (.str "d")),(cst (.str "hall")),(cst (.str "r")),(cst (.str "win")),(cst (.str "z"))]))) (gTu [(gNm 2),(gNm 3)]) bZ [some (.imm (.int n)),some (.imm (.tuple [])),none,none,none,none,none,none,none,none]=some (.nx [some (.imm (.int n)),some (.imm (.tuple (zs.map encZ))),s2,s3,s4,none,none,none,none,none]):=by
  have:(z7w (z7g (z0g [(cst (.str "a")),(cst (.str "b")),(cst (.str "back")),(cst (.str "d")),(cst (.str "hall")),(cst (.str "r")),(cst (.str "win")),(cst (.str "z"))]))) [some (.imm (.int n)),some (.imm (.tuple [])),none,none,none,none,none,none,none,none]=some (zN.map encK):=by
   simp[z7w,z7g,z0g,args,cst,zrs,enum,zN,encK,List.zipIdx]
  unfold for_
  rw[this]
  exact i4
 have f2:for_ (z7w (z7g (z0g [(cst (.str "0000")),(cst (.str "1234")),(cst (.str "4321")),(cst (.str "7777")),(cst (.str "9990")),(cst (.str "9999"))]))) (gTu [(gNm 2),(gNm 6)]) bC [some (.imm (.int n)),some (.imm (.tuple (zs.map encZ))),s2,s3,s4,some (.imm (.tuple [])),none,none,none,none]=some (.nx [some (.imm (.int n)),some (.imm (.tuple (zs.map encZ))),t2,s3,t4,some (.imm (.tuple (ks.map z26))),t6,t7,t8,none]):=by
  have:(z7w (z7g (z0g [(cst (.str "0000")),(cst (.str "1234")),(cst (.str "4321")),(cst (.str "7777")),(cst (.str "9990")),(cst (.str "9999"))]))) [some (.imm (.int n)),some (.imm (.tuple (zs.map encZ))),s2,s3,s4,some (.imm (.tuple [])),none,none,none,none]=some (cN.map encK):=by
   simp[z7w,z7g,z0g,args,cst,zns,enum,cN,encK,List.zipIdx]
  unfold for_
  rw[this]
  exact j4
 show runF (seq (asg 1 (z0g [])) (seq (for_ (z7w (z7g (z0g [(cst (.str "a")),(cst (.str "b")),(cst (.str "back")),(cst (.str "d")),(cst (.str "hall")),(cst (.str "r")),(cst (.str "win")),(cst (.str "z"))]))) (gTu [(gNm 2),(gNm 3)]) bZ)
  (seq (asg 5 (z0g [])) (seq (for_ (z7w (z7g (z0g [(cst (.str "0000")),(cst (.str "1234")),(cst (.str "4321")),(cst (.str "7777")),(cst (.str "9990")),(cst (.str "9999"))]))) (gTu [(gNm 2),(gNm 6)]) bC) _)))) 10 [.int n]=_
 unfold runF
 have g0:seq (asg 1 (z0g []))=fun b=>seq (asg 1 (z0g [])) b:=rfl
 have h1:asg 1 (z0g []) [some (.imm (.int n)),none,none,none,none,none,none,none,none,none]=some (.nx [some (.imm (.int n)),some (.imm (.tuple [])),none,none,none,none,none,none,none,none]):=by simp[asg,z0g,args]
 have h5:asg 5 (z0g []) [some (.imm (.int n)),some (.imm (.tuple (zs.map encZ))),s2,s3,s4,none,none,none,none,none]=some (.nx [some (.imm (.int n)),some (.imm (.tuple (zs.map encZ))),s2,s3,s4,some (.imm (.tuple [])),none,none,none,none]):=by simp[asg,z0g,args]
 show (seq _ _ [some (.imm (.int n)),none,none,none,none,none,none,none,none,none]).bind _=_
 rw[z3m h1,z3m f1,z3m h5,z3m f2]
 simp! [sp9,e1_,e2_,e3_,e4_,e5_,e6_,e7_,e8_,e9_,e10_,za6,z4a,encP]
theorem DP.zl {p:Pl} (h:DP p):p.zones.length<=8:=by simpa [zN] using h.zs.length_le
theorem DP.cl {p:Pl} (h:DP p):p.codes.length<=6:=by simpa [cN] using h.cs.length_le
theorem z6k {l:List Str} (h:l.all (fun x=>(y23 x).canLay0)=true:=by decide +kernel) {x:Str} (hx:x∈l):okS x:=List.all_eq_true.mp h x hx
theorem DP.wp {p:Pl} (h:DP p):Wp p:=by
 refine⟨?_,?_,?_,?_⟩
 ·exact h.cs.nodup (by decide +kernel)
 ·exact h.zs.nodup (by decide +kernel)
 ·have:=h.cl
  omega
 ·have h1:=h.tl
  have h2:=h.tc
  have h3:=h.to
  simp at h1 h2 h3
  omega
theorem DP.okz {p:Pl} (h:DP p):∀z∈p.zones,okS z.1/\okS z.2:=fun z hz=>⟨z6k (l:=zN.map (·.2)) (hx:=h.zs.subset (y0n.mpr ⟨z,hz,rfl⟩)),z6k (l:=kinds) (hx:=h.zk z hz)⟩
theorem DP.okc {p:Pl} (h:DP p):∀k∈p.codes,okS k.fig/\okS k.who/\∀r∈k.rights,okS r:=fun k hk=>⟨z6k (l:=cN.map (·.2)) (hx:=h.cs.subset (y0n.mpr ⟨k,hk,rfl⟩)),z6k (l:=whos) (hx:=(h.ck k hk).1),fun r hr=>z6k (l:=zg8) (hx:=(h.ck k hk).2.1.subset hr)⟩
theorem DP.begun {p:Pl} (h:DP p):Wf p (z19 p):=by
 refine⟨h.okz,h.okc,?_,z02 "off",fun z e=>(nomatch e),fun e=>absurd e z47,?_,?_,?_,by simp[z19],by simp[z19]⟩
 ·have:=h.zl
  omega
 ·simp[z19,y19]
 ·intro l hl
  obtain⟨z,_,rfl⟩:=y0n.mp hl
  exact z02 "shut"
 ·simp[z19,y19]
end Co
end
section
namespace Co
open D PySem
theorem ix_z (p:Pl):oIx (encP p) (.int 0)=some (.tuple (p.zones.map encZ)):=by simp[oIx,atZ,ixOf,encP]
theorem ix_c (p:Pl):oIx (encP p) (.int 1)=some (.tuple (p.codes.map z26)):=by simp[oIx,atZ,ixOf,encP]
theorem zrj (z:Str×Str):oIx (encZ z) (.int 0)=some (.str z.1):=by simp[oIx,atZ,ixOf,encZ]
theorem zy1 (k:Cd):oIx (z26 k) (.int 0)=some (.str k.fig):=by simp[oIx,atZ,ixOf,z26]
theorem modL (m:Int) {l:List T} (h:l≠[]):∃q:Int,0<=q/\q<l.length/\oMod (.int m) (.int l.length)=some (.int q):=by
 have hl:0<(l.length:Int):=by
  have:=List.length_pos_iff.mpr h
  omega
 obtain⟨q,_,h1,h2,e⟩:=modQ m l.length hl
 exact⟨q,h1,h2,e⟩
def zk8:List Str:=["0000","1234","4321","7777","9990","9999","0001","1111","5555"]
noncomputable def DE (p:Pl):Et->Prop
 | .line z w=>z∈p.zones.map (·.1)/\w∈(["shut","open","open","cut"]:List Str)
 | .code f d z=>f∈zk8/\(((d="set"\/d="unset")/\z=none)\/((d="shunt"\/d="free")/\∃x,z=some x/\x∈p.zones.map (·.1)))
 | .ticks n=>1<=n/\n<=1000000000
theorem DE.ok {p:Pl} {e:Et} (h:DE p e):okE p e:=by
 cases e with
 | line z w =>
  obtain⟨h1,h2⟩:=h
  simp at h2
  exact⟨h1,h2⟩
 | ticks n=>exact h.1
 | code f d z =>
  obtain⟨h1,h2⟩:=h
  refine⟨z6k (l:=zk8) (hx:=h1),?_,?_⟩
  ·rcases h2 with ⟨h2|h2,_⟩|⟨h2|h2,_⟩
   ·exact .inl h2
   ·exact .inr (.inl h2)
   ·exact .inr (.inr (.inl h2))
   ·exact .inr (.inr (.inr h2))
  ·intro hd
   rcases h2 with ⟨h2|h2,_⟩|⟨_,h3⟩
   ·rcases hd with hd|hd
    ·exact absurd (h2.symm.trans hd) za2
    ·exact absurd (h2.symm.trans hd) z8z
   ·rcases hd with hd|hd
    ·exact absurd (h2.symm.trans hd) z7d
    ·exact absurd (h2.symm.trans hd) z6m
   ·exact h3
theorem zrr {p:Pl} (h:DP p) (n:Int):∃e,DE p e/\z57 [encP p,.int n]=some (encE e):=by
 obtain⟨q1,_,e1_⟩:=divQ n 8
 obtain⟨i,i0,i1,e2_⟩:=modL (l:=p.zones.map encZ) q1 (by simpa using h.z0)
 obtain⟨t,ht,e3_⟩:=ixT i0 i1
 obtain⟨z,hz,rfl⟩:=y0n.mp ht
 have hz1:z.1∈p.zones.map (·.1):=y0n.mpr ⟨z,hz,rfl⟩
 obtain⟨k,_,_,_,e4_⟩:=modQ n 10
 obtain⟨q2,_,e5_⟩:=divQ n 512
 obtain⟨r2,_,j0,j1,e6_⟩:=modQ q2 4
 obtain⟨w,hw,e7_⟩:=ixS ["shut","open","open","cut"] j0 j1
 obtain⟨f',hf',e8_⟩:=ixS ["0001","1111","9999","0000"] j0 j1
 obtain⟨q3,_,e9_⟩:=divQ n 64
 obtain⟨q4,_,e10_⟩:=divQ n 4096
 obtain⟨r4,_,k0,k1,e11_⟩:=modQ q4 3
 obtain⟨u,hu,e12_⟩:=ixI [3,40,200] k0 k1
 have hu':0<u/\u<=200:=by
  simp at hu
  omega
 obtain⟨r3,_,l0,l1,e13_⟩:=modQ q3 u hu'.1
 obtain⟨i',i0',i1',e14_⟩:=modL (l:=p.codes.map z26) q3 (by simpa using h.c0)
 obtain⟨t',ht',e15_⟩:=ixT i0' i1'
 obtain⟨c,hc,rfl⟩:=y0n.mp ht'
 have hcf:c.fig∈zk8:=by
  have:=h.cs.subset (y0n.mpr ⟨c,hc,rfl⟩)
  simp[cN,zk8] at this ⊢
  rcases this with q|q|q|q|q|q <;> simp[q]
 obtain⟨q5,_,e16_⟩:=divQ n 65536
 obtain⟨r5,_,_,_,e17_⟩:=modQ q5 4
 obtain⟨r6,_,m0,m1,e18_⟩:=modQ q4 6
 obtain⟨d,hd,e19_⟩:=ixS ["set","set","unset","shunt","free","shunt"] m0 m1
 simp only[y0e,y1c] at e7_ e8_ e12_ e19_
 simp only[y16] at e2_ e14_
 have L1:oLen [.tuple (p.zones.map encZ)]=some (.int p.zones.length):=by simp[oLen]
 have L2:oLen [.tuple (p.codes.map z26)]=some (.int p.codes.length):=by simp[oLen]
 simp only[z57,zj6,runF,y0e,y1c,y0x,y2o,y0h,y2u,y2t]
 by_cases h1:k<5
 ·exact⟨.line z.1 w,⟨hz1,hw⟩,by simp! [sp9,ix_z,zrj,e1_,L1,e2_,e3_,e4_,oLt,h1,e5_,e6_,e7_,za6,z4a,encE]⟩
 ·by_cases h2:k<7
  ·exact⟨.ticks (1+r3),⟨by omega,by omega⟩,by simp! [sp9,ix_z,zrj,e1_,L1,e2_,e3_,e4_,oLt,h1,h2,e9_,e10_,e11_,e12_,e13_,z78,z4a,z7t,encE]⟩
  ·have od:okS d:=z6k (l:=["set","set","unset","shunt","free","shunt"]) (hx:=hd)
   have qi:=zal false (n:=d) (ns:=["set","unset"]) od (by
    intro k hk
    exact z6k (l:=["set","unset"]) (hx:=hk))
   simp only[y0e,y1c] at qi
   obtain⟨f,hf,ef⟩:∃f∈zk8,(iff (tstB (op2 oEq (op2 oMod (op2 oDiv (nm 1) (cst (.int 65536))) (cst (.int 4))) (cst (.int 0)))) (asg 4 (op2 oIx (z0g [(cst (.str "0001")),(cst (.str "1111")),(cst (.str "9999")),(cst (.str "0000"))]) (op2 oMod (op2 oDiv (nm 1) (cst (.int 512))) (cst (.int 4))))) skip) [some (.imm (encP p)),some (.imm (.int n)),some (.imm (.str z.1)),some (.imm (.int k)),some (.imm (.str c.fig)),none]=some (.nx [some (.imm (encP p)),some (.imm (.int n)),some (.imm (.str z.1)),some (.imm (.int k)),some (.imm (.str f)),none]):=by
    by_cases h3:r5=0
    ·refine⟨f',?_,by simp! [sp9,e16_,e17_,z7c,h3,e5_,e6_,e8_,za6]⟩
     simp[zk8] at hf' ⊢
     rcases hf' with q|q|q|q <;> simp[q]
    ·exact⟨c.fig,hcf,by simp! [sp9,e16_,e17_,z7c,h3]⟩
   have sA:∀X:Fs,iff (tstB (op2 oLt (nm 3) (cst (.int 5)))) X skip [some (.imm (encP p)),some (.imm (.int n)),some (.imm (.str z.1)),some (.imm (.int k)),none,none]=some (.nx [some (.imm (encP p)),some (.imm (.int n)),some (.imm (.str z.1)),some (.imm (.int k)),none,none]):=fun X=>by simp! [sp9,oLt,h1]
   have sB:∀X:Fs,iff (tstB (op2 oLt (nm 3) (cst (.int 7)))) X skip [some (.imm (encP p)),some (.imm (.int n)),some (.imm (.str z.1)),some (.imm (.int k)),none,none]=some (.nx [some (.imm (encP p)),some (.imm (.int n)),some (.imm (.str z.1)),some (.imm (.int k)),none,none]):=fun X=>by simp! [sp9,oLt,h2]
   have sC:asg 4 (op2 oIx (op2 oIx (op2 oIx (nm 0) (cst (.int 1))) (op2 oMod (op2 oDiv (nm 1) (cst (.int 64))) (opN oLen [(op2 oIx (nm 0) (cst (.int 1)))]))) (cst (.int 0))) [some (.imm (encP p)),some (.imm (.int n)),some (.imm (.str z.1)),some (.imm (.int k)),none,none]=some (.nx [some (.imm (encP p)),some (.imm (.int n)),some (.imm (.str z.1)),some (.imm (.int k)),some (.imm (.str c.fig)),none]):=by simp! [sp9,ix_c,L2,e9_,e14_,e15_,zy1]
   by_cases h4:d="set"\/d="unset"
   ·refine⟨.code f d none,⟨hf,.inl ⟨h4,rfl⟩⟩,?_⟩
    have qi':oIn false (.str d) (.tuple [.str "set",.str "unset"])=some (.bool true):=by
     rw[qi]
     simp[h4]
    have pre:∀B:Fs,(seq (asg 2 (op2 oIx (op2 oIx (op2 oIx (nm 0) (cst (.int 0))) (op2 oMod (op2 oDiv (nm 1) (cst (.int 8))) (opN oLen [(op2 oIx (nm 0) (cst (.int 0)))]))) (cst (.int 0)))) (seq (asg 3 (op2 oMod (nm 1) (cst (.int 10)))) B)) [some (.imm (encP p)),some (.imm (.int n)),none,none,none,none]=B [some (.imm (encP p)),some (.imm (.int n)),some (.imm (.str z.1)),some (.imm (.int k)),none,none]:=by
     intro B
     simp! [sp9,ix_z,zrj,e1_,L1,e2_,e3_,e4_]
    rw[pre]
    rw[z3m (sA _),z3m (sB _),z3m sC,z3m ef]
    simp! [sp9,e10_,e18_,e19_,zns,z7t,qi',za6,encE,oS]
   ·refine⟨.code f d (some z.1),⟨hf,.inr ⟨?_,z.1,rfl,hz1⟩⟩,?_⟩
    ·simp at hd
     rcases hd with q|q|q|q|q
     ·exact absurd (.inl q) h4
     ·exact absurd (.inr q) h4
     ·exact .inl q
     ·exact .inr q
     ·exact .inl q
    have qi':oIn false (.str d) (.tuple [.str "set",.str "unset"])=some (.bool false):=by
     rw[qi]
     simp at h4
     simp[h4]
    have pre:∀B:Fs,(seq (asg 2 (op2 oIx (op2 oIx (op2 oIx (nm 0) (cst (.int 0))) (op2 oMod (op2 oDiv (nm 1) (cst (.int 8))) (opN oLen [(op2 oIx (nm 0) (cst (.int 0)))]))) (cst (.int 0)))) (seq (asg 3 (op2 oMod (nm 1) (cst (.int 10)))) B)) [some (.imm (encP p)),some (.imm (.int n)),none,none,none,none]=B [some (.imm (encP p)),some (.imm (.int n)),some (.imm (.str z.1)),some (.imm (.int k)),none,none]:=by
     intro B
     simp! [sp9,ix_z,zrj,e1_,L1,e2_,e3_,e4_]
    rw[pre]
    rw[z3m (sA _),z3m (sB _),z3m sC,z3m ef]
    simp! [sp9,e10_,e18_,e19_,zns,z7t,qi',za6,encE,oS]
def zes:List Et:=[.code "5555" "unset" none,.code "5555" "unset" none,.code "5555" "unset" none]
theorem zl8 {p:Pl} (h:DP p) (n:Int):∀(ks:List Int) (s0:Option Sl),(∀k∈ks,0<=k/\k<1000)->∃es:List Et,(∀e∈es,DE p e)/\es.length=ks.length/\z58 (gNm 0) (cstT true) (opN z57 [(nmV 1),(op2 oDiv (opN z27 [(nmV 2),(op2 oAdd (cst (.int 30)) (nm 0))]) (cst (.int 4)))]) (ks.map .int) [s0,some (.imm (encP p)),some (.imm (.int n))]=some (es.map encE)
 | [],s0,_=>⟨[],by simp,rfl,rfl⟩
 | k::ks,s0,hk=>by
  obtain⟨m,_,e1_⟩:=zci n (30+k) (by have:=hk k y0f;omega)
  obtain⟨q,_,e2_⟩:=divQ m 4
  obtain⟨e,he,e3_⟩:=zrr h q
  obtain⟨es,i1,i2,i3⟩:=zl8 h n ks (some (.imm (.int k))) fun y hy=>hk y (y05 _ hy)
  refine⟨e::es,fun x hx=>?_,by simp[i2],?_⟩
  ·rcases y09.mp hx with rfl|hx
   ·exact he
   ·exact i1 x hx
  ·have hc:opN z57 [(nmV 1),(op2 oDiv (opN z27 [(nmV 2),(op2 oAdd (cst (.int 30)) (nm 0))]) (cst (.int 4)))] [some (.imm (.int k)),some (.imm (encP p)),some (.imm (.int n))]=some (encE e):=by
    simp! [sp9,z78,e1_,e2_,e3_]
   rw[y0e]
   simp only[z58,gNm,y1l,y0q,cstT,if_true,hc]
   rw[i3]
   rfl
theorem zvp {p:Pl} (h:DP p) (n m:Int) (hn:0<=n) (hm:0<=m/\m<900):∃es:List Et,(∀e∈es,DE p e)/\(es.length:Int)<=m/\zbi [encP p,.int n,.int m]=some (.tuple (es.map encE)):=by
 obtain⟨r,_,r0,r1,e1_⟩:=modQ n (m+1) (by omega)
 have hks:rng 0 r=((List.range r.toNat).map fun (k:Nat)=>(k:Int)).map .int:=by
  simp[rng,y19]
 obtain⟨es,i1,i2,i3⟩:=zl8 h n ((List.range r.toNat).map fun (k:Nat)=>(k:Int)) none (by
  intro k hk
  obtain⟨j,hj,rfl⟩:=y0n.mp hk
  have:=List.mem_range.mp hj
  omega)
 have hl:(es.length:Int)=r:=by
  simp at i2
  omega
 obtain⟨q,_,e2_⟩:=divQ n 64
 obtain⟨r',_,_,_,e3_⟩:=modQ q 5
 have s62:z86 r=true:=by
  unfold z86
  simp
  omega
 have s1:asg 3 (opN z30 [(comp 1 [0,1] (z4k (op2 oMod (nm 1) (op2 oAdd (nm 2) (cst (.int 1))))) (gNm 0) (cstT true) (opN z57 [(nmV 1),(op2 oDiv (opN z27 [(nmV 2),(op2 oAdd (cst (.int 30)) (nm 0))]) (cst (.int 4)))]))]) [some (.imm (encP p)),some (.imm (.int n)),some (.imm (.int m)),none]=some (.nx [some (.imm (encP p)),some (.imm (.int n)),some (.imm (.int m)),some (.imm (.tuple (es.map encE)))]):=by
  have b1:((((List.range r.toNat).map fun (k:Nat)=>(k:Int)).map PyData.int).length<=big)=True:=by
   simp
   unfold big
   omega
  have it:(z4k (op2 oMod (nm 1) (op2 oAdd (nm 2) (cst (.int 1))))) [some (.imm (encP p)),some (.imm (.int n)),some (.imm (.int m)),none]=some (((List.range r.toNat).map fun (k:Nat)=>(k:Int)).map .int):=by
   rw[<- hks]
   simp[z4k,op2,nm,cst,z78,e1_,s62]
  simp only[asg,opN,args,comp,it,y0q,b1,if_true]
  show Option.map _ ((Option.bind (Option.map _ (z58 _ _ _ _ [none,some (.imm (encP p)),some (.imm (.int n))])) _).bind _)=_
  rw[i3]
  simp[z30]
 have e0:zbi [encP p,.int n,.int m]=(zgw [some (.imm (encP p)),some (.imm (.int n)),some (.imm (.int m)),none]).bind fun o=>match o with|.rt t=>some t|.nx _=>some .none|_=>none:=rfl
 by_cases hc:r'=0/\2<(es.length:Int)
 ·refine⟨es.take (es.length - 3)++zes,?_,?_,?_⟩
  ·intro e he
   rcases y13.mp he with q|q
   ·exact i1 e (List.mem_of_mem_take q)
   ·simp[zes] at q
    subst q
    exact⟨by simp[zk8],.inl ⟨.inr rfl,rfl⟩⟩
  ·simp[zes]
   omega
  ·rw[e0]
   unfold zgw
   rw[z3m s1]
   have b1:(es.length - 3+3<=big)=True:=by
    simp only[eq_iff_iff,iff_true]
    unfold big
    omega
   have b2:(max (-3+(es.length:Int)) 0).toNat=es.length - 3:=by omega
   have b3:min (es.length - 3) es.length=es.length - 3:=by omega
   have b4:oRep (.tuple [encE (.code "5555" "unset" none)]) (.int 3)=some (.tuple (zes.map encE)):=by
    simp[oRep,zes,y0h,z4a]
   simp only[encE,oS] at b4
   simp! [sp9,e2_,e3_,z7c,hc.1,hc.2,oLen,oGt,slice,optN,opt,oNeg,oSl,cutZ,sIx,b2,b3,b4,za6,zf7,oAdd,zes]
   rw[if_pos (b1▸trivial)]
   simp! [sp9]
 ·refine⟨es,i1,by omega,?_⟩
  rw[e0]
  unfold zgw
  rw[z3m s1]
  by_cases h1:r'=0
  ·have h2:¬2<(es.length:Int):=fun z=>hc ⟨h1,z⟩
   simp! [sp9,e2_,e3_,z7c,h1,oLen,oGt]
   rw[if_neg h2]
   simp! [sp9]
  ·simp! [sp9,e2_,e3_,z7c,h1]
end Co
end
section
namespace Co
open D PySem
def shW (k:Int) (w:Int×Str×Option Str):Int×Str×Option Str:=(k+w.1,w.2)
def sh (k:Int) (pre:List (Int×Str×Option Str)) (c:Cs):Cs:={ c with past:=k+c.past,told:=pre++c.told.map (shW k) }
section
variable (k:Int) (pre:List (Int×Str×Option Str)) (p:Pl)
theorem z5q (w:Str) (n:Option Str) (c:Cs):tell w n (sh k pre c)=sh k pre (tell w n c):=by simp[tell,sh,shW]
theorem zcl (z:Str) (c:Cs):alarm p z (sh k pre c)=sh k pre (alarm p z c):=by
 by_cases h:z∈c.alarms <;> simp[alarm,sh,h,tell,beLoud,shW]
theorem zja:∀(zs:List Str) (c:Cs),alarms p zs (sh k pre c)=sh k pre (alarms p zs c)
 | [],c=>rfl
 | z::zs,c=>by
  show alarms p zs (alarm p z (sh k pre c))=_
  rw[zcl,zja zs]
  rfl
theorem zpt (z x:Str) (c:Cs):comeIn p z x (sh k pre c)=sh k pre (comeIn p z x c):=by
 unfold comeIn
 by_cases h:x≠"way"\/p.come<=0
 ·rw[if_pos h,if_pos h,zcl]
 ·rw[if_neg h,if_neg h,<- z5q]
  rfl
theorem zmw (z w:Str) (c:Cs):disturb p z w (sh k pre c)=sh k pre (disturb p z w c):=by
 have hm:(sh k pre c).mode=c.mode:=rfl
 unfold disturb
 rw[hm,zcl,z5q,zpt]
 repeat' split
 all_goals rfl
theorem zue (z w:Str) (c:Cs):line p z w (sh k pre c)=sh k pre (line p z w c):=by
 show (if w=z6z c z then sh k pre c else if w="shut" then (if z6z c z="cut" then tell "mended" (some z) (sh k pre { c with lines:=setL c.lines z w }) else sh k pre { c with lines:=setL c.lines z w })
  else if z∈c.shunts then sh k pre { c with lines:=setL c.lines z w } else disturb p z w (sh k pre { c with lines:=setL c.lines z w }))=sh k pre (line p z w c)
 unfold line
 rw[z5q,zmw]
 repeat' split
 all_goals rfl
theorem z8p (n:Int) (c:Cs):z0i n (sh k pre c)=sh k pre (z0i n c):=by simp[z0i,sh,Int.add_assoc]
theorem zar (c:Cs):endLeaving p (sh k pre c)=sh k pre (endLeaving p c):=by
 show alarms p (bare p ["inner","way"] (tell "on" none { c with mode:="on",left:=0 })) (tell "on" none (sh k pre { c with mode:="on",left:=0 }))=_
 rw[z5q,zja]
 rfl
theorem zic (c:Cs):endComing p (sh k pre c)=sh k pre (endComing p c):=by
 unfold endComing
 rw[<- zcl]
 rfl
theorem zms (c:Cs):endTime p (sh k pre c)=sh k pre (endTime p c):=by
 have hm:(sh k pre c).mode=c.mode:=rfl
 unfold endTime
 rw[hm,zar,zic]
 split <;> rfl
theorem zqg (n:Int) (c:Cs):ticks p n (sh k pre c)=sh k pre (ticks p n c):=by
 have hm:(sh k pre c).mode=c.mode:=rfl
 have hl:(sh k pre c).left=c.left:=rfl
 unfold ticks
 rw[hm,hl,z8p,zms,z8p,z8p]
 repeat' split
 all_goals rfl
theorem zbu (c:Cs):takeWrong p (sh k pre c)=sh k pre (takeWrong p c):=by
 have ht:(sh k pre c).tries=c.tries:=rfl
 have h1:wrong1 (sh k pre c)=sh k pre (wrong1 c):=by simp[wrong1,tell,sh,shW]
 unfold takeWrong
 rw[ht,h1]
 split
 ·exact z5q k pre "attack" none (beLoud p { wrong1 c with tries:=0,locked:=90 })
 ·rfl
theorem zru (w:Str) (c:Cs):doSet p w (sh k pre c)=sh k pre (doSet p w c):=by
 show (if p.leave<=0 then endLeaving p (tell "set" (some w) (sh k pre { c with alarms:=[],siren:=0,mode:="leaving",left:=p.leave })) else tell "set" (some w) (sh k pre { c with alarms:=[],siren:=0,mode:="leaving",left:=p.leave }))=sh k pre (if p.leave<=0 then _ else _)
 rw[z5q,zar]
 split <;> rfl
theorem zmu (w:Str) (c:Cs):doUnset w (sh k pre c)=sh k pre (doUnset w c):=by
 unfold doUnset
 rw[<- z5q]
 rfl
theorem zpo (w d:Str) (z:Option Str) (c:Cs):doDeed p w d z (sh k pre c)=sh k pre (doDeed p w d z c):=by
 show (if d="set" then doSet p w (sh k pre c) else if d="unset" then doUnset w (sh k pre c) else if d="shunt" then tell "shunt" z (sh k pre { c with shunts:=z85 (c.shunts++[z.getD ""]) }) else tell "free" z (sh k pre { c with shunts:=c.shunts.erase (z.getD "") }))=sh k pre (doDeed p w d z c)
 unfold doDeed
 rw[z5q,z5q,zru,zmu]
 repeat' split
 all_goals rfl
theorem zh4 (x:Cd) (d:Str) (z:Option Str) (c:Cs):takeRight p x d z (sh k pre c)=sh k pre (takeRight p x d z c):=by
 have h0:against p x d z (sh k pre c)=against p x d z c:=rfl
 unfold takeRight
 rw[h0]
 cases against p x d z c with
 | none=>exact zpo k pre p _ _ _ { c with used:=addU c.used x.fig }
 | some wn=>exact z5q k pre _ _ _
theorem zuz (f d:Str) (z:Option Str) (c:Cs):code p f d z (sh k pre c)=sh k pre (code p f d z c):=by
 have h0:(sh k pre c).locked=c.locked:=rfl
 unfold code
 rw[h0,z5q]
 split
 ·rfl
 ·cases zfr p f with
  | none=>exact zbu k pre p c
  | some x =>
   show (if zcr x c=true then takeWrong p (sh k pre c) else takeRight p x d z (sh k pre { c with tries:=0 }))=sh k pre (if zcr x c=true then _ else _)
   rw[zbu,zh4]
   split <;> rfl
theorem zpe (e:Et) (c:Cs):happen p (sh k pre c) e=sh k pre (happen p c e):=by
 cases e with
 | line z w=>exact zue k pre p z w c
 | code f d z=>exact zuz k pre p f d z c
 | ticks n=>exact zqg k pre p n c
theorem znz:∀(es:List Et) (c:Cs),run p (sh k pre c) es=sh k pre (run p c es)
 | [],c=>rfl
 | e::es,c=>by
  show run p (happen p (sh k pre c) e) es=_
  rw[zpe,znz es]
  rfl
end
theorem zl3 (c:Cs):c=sh c.past c.told (fresh c):=by simp[sh,fresh]
theorem zf0 (p:Pl) (c:Cs) (xs ys:List Et):run p c (xs++ys)=run p (run p c xs) ys:=by simp[run]
theorem zow {x a b:Int} (hb:0<=b):less (less x a) b=less x (a+b):=by
 unfold less
 repeat' split
 all_goals omega
theorem z92 (a n:Int):less a n=max (a - n) 0:=by
 unfold less
 split <;> omega
theorem z5n (c:Cs) (a b:Int) (hb:0<=b):z0i b (z0i a c)=z0i (a+b) c:=by
 simp[z0i,zow hb,Int.add_assoc]
theorem zab (p:Pl) (z:Str) (c:Cs):(alarm p z c).mode=c.mode/\(alarm p z c).left=c.left/\(alarm p z c).came=c.came/\(alarm p z c).lines=c.lines/\(alarm p z c).shunts=c.shunts/\(alarm p z c).tries=c.tries/\(alarm p z c).locked=c.locked/\(alarm p z c).used=c.used/\(alarm p z c).past=c.past/\(alarm p z c).siren=p.loud:=by
 unfold alarm
 split <;> simp[tell,beLoud]
theorem zc5 (p:Pl):∀(zs:List Str) (c:Cs),(alarms p zs c).mode=c.mode/\(alarms p zs c).left=c.left/\(alarms p zs c).came=c.came/\(alarms p zs c).lines=c.lines/\(alarms p zs c).shunts=c.shunts/\(alarms p zs c).tries=c.tries/\(alarms p zs c).locked=c.locked/\(alarms p zs c).used=c.used/\(alarms p zs c).past=c.past/\((alarms p zs c).siren=p.loud\/(alarms p zs c).siren=c.siren)
 | [],c=>by simp[alarms]
 | z::zs,c=>by
  have h1:=zab p z c
  have h2:=zc5 p zs (alarm p z c)
  have e:alarms p (z::zs) c=alarms p zs (alarm p z c):=rfl
  rw[e]
  obtain⟨a1,a2,a3,a4,a5,a6,a7,a8,a9,a10⟩:=h1
  obtain⟨b1,b2,b3,b4,b5,b6,b7,b8,b9,b10⟩:=h2
  refine⟨b1.trans a1,b2.trans a2,b3.trans a3,b4.trans a4,b5.trans a5,b6.trans a6,b7.trans a7,b8.trans a8,b9.trans a9,?_⟩
  rcases b10 with q|q
  ·exact .inl q
  ·exact .inl (q.trans a10)
theorem z7k (p:Pl) (c:Cs):(endTime p c).mode="on"/\(c.left=0->(endTime p c).left=0)/\(endTime p c).lines=c.lines/\(endTime p c).shunts=c.shunts/\(endTime p c).tries=c.tries/\(endTime p c).locked=c.locked/\(endTime p c).used=c.used/\(endTime p c).past=c.past/\((endTime p c).siren=p.loud\/(endTime p c).siren=c.siren):=by
 unfold endTime
 split
 ·obtain⟨a1,a2,a3,a4,a5,a6,a7,a8,a9,a10⟩:=zc5 p (bare p ["inner","way"] (tell "on" none { c with mode:="on",left:=0 })) (tell "on" none { c with mode:="on",left:=0 })
  exact⟨a1,fun _=>a2,a4,a5,a6,a7,a8,a9,a10⟩
 ·obtain⟨a1,a2,a3,a4,a5,a6,a7,a8,a9,a10⟩:=zab p (c.came.getD "") { c with mode:="on",came:=none }
  exact⟨a1,fun h=>a2.trans h,a4,a5,a6,a7,a8,a9,.inl a10⟩
def zc7 (c:Cs):Prop:=c.mode="leaving"\/c.mode="coming"
theorem z53 {c:Cs} (h:c.mode="on"):¬(c.mode="leaving"\/c.mode="coming"):=by
 rw[h]
 simp[z8i,z61]
theorem znn (p:Pl) (c:Cs) (h:zc7 c->1<=c.left) {a b:Int} (ha:1<=a) (hb:1<=b):ticks p b (ticks p a c)=ticks p (a+b) c:=by
 have na:¬a<1:=by omega
 have nb:¬b<1:=by omega
 have nab:¬a+b<1:=by omega
 by_cases ht:c.mode="leaving"\/c.mode="coming"
 ·have hl:=h ht
  by_cases h1:c.left<=a
  ·have e1:ticks p a c=z0i (a - c.left) (endTime p (z0i c.left c)):=by
    unfold ticks
    rw[if_neg na,if_pos ⟨ht,h1⟩]
   have m:(z0i (a - c.left) (endTime p (z0i c.left c))).mode="on":=(z7k p _).1
   have e2:ticks p (a+b) c=z0i (a+b - c.left) (endTime p (z0i c.left c)):=by
    unfold ticks
    rw[if_neg nab,if_pos ⟨ht,by omega⟩]
   rw[e1,e2]
   unfold ticks
   rw[if_neg nb,if_neg (fun z=>z53 m z.1),z5n _ _ _ (by omega)]
   congr 1
   omega
  ·have e1:ticks p a c=z0i a c:=by
    unfold ticks
    rw[if_neg na,if_neg (fun z=>h1 z.2)]
   rw[e1]
   have hm:(z0i a c).mode=c.mode:=rfl
   have hl':(z0i a c).left=c.left - a:=by
    show less c.left a=_
    rw[z92]
    omega
   by_cases h2:c.left<=a+b
   ·unfold ticks
    rw[if_neg nb,if_neg nab,hm,hl',if_pos ⟨ht,by omega⟩,if_pos ⟨ht,h2⟩,z5n _ _ _ (by omega)]
    have x1:a+(c.left - a)=c.left:=by omega
    have x2:b - (c.left - a)=a+b - c.left:=by omega
    rw[x1,x2]
   ·unfold ticks
    rw[if_neg nb,if_neg nab,hm,hl',if_neg (fun z=>by have:=z.2;omega),if_neg (fun z=>h2 z.2),z5n _ _ _ (by omega)]
 ·have e1:ticks p a c=z0i a c:=by
   unfold ticks
   rw[if_neg na,if_neg (fun z=>ht z.1)]
  rw[e1]
  have hm:(z0i a c).mode=c.mode:=rfl
  unfold ticks
  rw[if_neg nb,if_neg nab,hm,if_neg (fun z=>ht z.1),if_neg (fun z=>ht z.1),z5n _ _ _ (by omega)]
theorem zjh (p:Pl) (c:Cs) (h:zc7 c->1<=c.left) (n:Int):zc7 (ticks p n c)->1<=(ticks p n c).left:=by
 unfold ticks
 split
 ·exact h
 next nn =>
  split
  next q =>
   intro t
   exact absurd t (z53 (z7k p _).1)
  next q =>
   intro t
   have t':c.mode="leaving"\/c.mode="coming":=t
   have:¬c.left<=n:=fun z=>q ⟨t',z⟩
   show 1<=less c.left n
   rw[z92]
   omega
theorem zhe (p:Pl):∀(ns:List Int) (c:Cs),(zc7 c->1<=c.left)->(∀n∈ns,1<=n)->ns≠[]->run p c (ns.map .ticks)=ticks p ns.sum c
 | [],_,_,_,h=>absurd rfl h
 | [n],c,_,_,_=>by simp[run,happen]
 | n::m::ns,c,h,hn,_=>by
  have h1:=hn n y0f
  have ih:=zhe p (m::ns) (ticks p n c) (zjh p c h n) (fun x hx=>hn x (y05 _ hx)) (by simp)
  show run p (ticks p n c) ((m::ns).map .ticks)=_
  have hs:1<=(m::ns).sum:=by
   have h2:=hn m (by simp)
   have h3:∀l:List Int,(∀x∈l,1<=x)->0<=l.sum:=by
    intro l
    induction l with
    | nil=>simp
    | cons x l ih =>
     intro hx
     have:=ih fun y hy=>hx y (y05 _ hy)
     have:=hx x y0f
     simp only[List.sum_cons]
     omega
   have:=h3 ns fun x hx=>hn x (by simp[hx])
   simp only[List.sum_cons]
   omega
  rw[ih,znn p c h h1 hs]
  rfl
structure Iv (c:Cs):Prop where
 md:c.mode="off"\/c.mode="leaving"\/c.mode="on"\/c.mode="coming"
 t1:zc7 c->1<=c.left/\c.left<=60
 t0:¬zc7 c->c.left=0
 si:0<=c.siren/\c.siren<=300
 lo:0<=c.locked/\c.locked<=90
 tr:0<=c.tries/\c.tries<=2
theorem Iv.begun (p:Pl):Iv (z19 p):=⟨.inl rfl,fun h=>by rcases h with h|h;exact absurd h z5m;exact absurd h z47,fun _=>rfl,by simp[z19],by simp[z19],by simp[z19]⟩
theorem DP.loud {p:Pl} (h:DP p):1<=p.loud/\p.loud<=300:=by
 have:=h.to
 simp at this
 omega
theorem DP.leave {p:Pl} (h:DP p):0<=p.leave/\p.leave<=60:=by
 have:=h.tl
 simp at this
 omega
theorem DP.come {p:Pl} (h:DP p):0<=p.come/\p.come<=60:=by
 have:=h.tc
 simp at this
 omega
theorem Iv.tell {c:Cs} (h:Iv c) (w:Str) (n:Option Str):Iv (Co.tell w n c):=⟨h.md,h.t1,h.t0,h.si,h.lo,h.tr⟩
theorem Iv.alarm {p:Pl} (hp:DP p) {c:Cs} (h:Iv c) (z:Str):Iv (Co.alarm p z c):=by
 obtain⟨a1,a2,a3,a4,a5,a6,a7,a8,a9,a10⟩:=zab p z c
 have:=hp.loud
 refine⟨by rw[a1];exact h.md,?_,?_,by rw[a10];omega,by rw[a7];exact h.lo,by rw[a6];exact h.tr⟩
 ·unfold zc7
  rw[a1,a2]
  exact h.t1
 ·unfold zc7
  rw[a1,a2]
  exact h.t0
theorem Iv.alarms {p:Pl} (hp:DP p):∀{zs:List Str} {c:Cs},Iv c->Iv (Co.alarms p zs c)
 | [],_,h=>h
 | z::zs,c,h=>Iv.alarms hp (zs:=zs) (h.alarm hp z)
theorem Iv.comeIn {p:Pl} (hp:DP p) {c:Cs} (h:Iv c) (z k:Str):Iv (Co.comeIn p z k c):=by
 have:=hp.come
 unfold Co.comeIn
 split
 ·exact h.alarm hp z
 next q =>
  have:¬p.come<=0:=fun z=>q (.inr z)
  exact⟨.inr (.inr (.inr rfl)),fun _=>by show 1<=p.come/\p.come<=60;omega,fun t=>absurd (.inr rfl) t,h.si,h.lo,h.tr⟩
theorem Iv.disturb {p:Pl} (hp:DP p) {c:Cs} (h:Iv c) (z w:Str):Iv (Co.disturb p z w c):=by
 unfold Co.disturb
 repeat' split
 all_goals first|exact h.alarm hp z|exact h.tell _ _|exact h.comeIn hp z _|exact h
theorem Iv.line {p:Pl} (hp:DP p) {c:Cs} (h:Iv c) (z w:Str):Iv (Co.line p z w c):=by
 have h':Iv { c with lines:=setL c.lines z w }:=⟨h.md,h.t1,h.t0,h.si,h.lo,h.tr⟩
 unfold Co.line
 repeat' split
 all_goals first|exact h|exact h'|exact h'.tell _ _|exact h'.disturb hp z w
theorem zgk {x n m:Int} (hn:0<=n) (h:0<=x/\x<=m):0<=less x n/\less x n<=m:=by
 rw[z92]
 omega
theorem Iv.endLeaving {p:Pl} (hp:DP p) {c:Cs} (h:0<=c.siren/\c.siren<=300) (h2:0<=c.locked/\c.locked<=90) (h3:0<=c.tries/\c.tries<=2):Iv (Co.endLeaving p c) :=
 Iv.alarms hp (Iv.tell (c:={ c with mode:="on",left:=0 }) ⟨.inr (.inr (.inl rfl)),fun t=>absurd t (z53 rfl),fun _=>rfl,h,h2,h3⟩ _ _)
theorem Iv.endComing {p:Pl} (hp:DP p) {c:Cs} (h0:c.left=0) (h:0<=c.siren/\c.siren<=300) (h2:0<=c.locked/\c.locked<=90) (h3:0<=c.tries/\c.tries<=2):Iv (Co.endComing p c) :=
 Iv.alarm hp (c:={ c with mode:="on",came:=none }) ⟨.inr (.inr (.inl rfl)),fun t=>absurd t (z53 rfl),fun _=>h0,h,h2,h3⟩ _
theorem Iv.cd {c:Cs} (h:Iv c) {n:Int} (hn:0<=n) (ht:zc7 c->n<c.left):Iv (z0i n c):=by
 refine⟨h.md,fun t=>?_,fun t=>?_,zgk hn h.si,zgk hn h.lo,h.tr⟩
 ·have:=h.t1 t
  have:=ht t
  show 1<=less c.left n/\less c.left n<=60
  rw[z92]
  omega
 ·have:=h.t0 t
  show less c.left n=0
  rw[z92]
  omega
theorem Iv.ticks {p:Pl} (hp:DP p) {c:Cs} (h:Iv c) (n:Int):Iv (Co.ticks p n c):=by
 unfold Co.ticks
 split
 ·exact h
 ·split
  next q =>
   obtain⟨q1,q2⟩:=q
   have hl:=h.t1 q1
   have hl0:(z0i c.left c).left=0:=by
    show less c.left c.left=0
    rw[z92]
    omega
   have e:Iv (Co.endTime p (z0i c.left c)):=by
    have s:=zgk (n:=c.left) (by omega) h.si
    have l:=zgk (n:=c.left) (by omega) h.lo
    unfold Co.endTime
    split
    ·exact Iv.endLeaving hp s l h.tr
    ·exact Iv.endComing hp hl0 s l h.tr
   exact e.cd (by omega) fun t=>absurd t (z53 (z7k p _).1)
  next q =>
   refine h.cd (by omega) fun t=>?_
   have:¬c.left<=n:=fun z=>q ⟨t,z⟩
   omega
theorem Iv.takeWrong {p:Pl} (hp:DP p) {c:Cs} (h:Iv c):Iv (Co.takeWrong p c):=by
 have:=hp.loud
 have:=h.tr
 unfold Co.takeWrong
 split
 ·exact⟨h.md,h.t1,h.t0,by show 0<=p.loud/\p.loud<=300;omega,by show (0:Int)<=90/\(90:Int)<=90;omega,by show (0:Int)<=0/\(0:Int)<=2;omega⟩
 ·exact⟨h.md,h.t1,h.t0,h.si,h.lo,by show 0<=c.tries+1/\c.tries+1<=2;omega⟩
theorem Iv.doSet {p:Pl} (hp:DP p) {c:Cs} (h:Iv c) (w:Str):Iv (Co.doSet p w c):=by
 have:=hp.leave
 show Iv (if p.leave<=0 then Co.endLeaving p (Co.tell "set" (some w) { c with alarms:=[],siren:=0,mode:="leaving",left:=p.leave }) else Co.tell "set" (some w) { c with alarms:=[],siren:=0,mode:="leaving",left:=p.leave })
 split
 ·exact Iv.endLeaving hp (by show (0:Int)<=0/\(0:Int)<=300;omega) h.lo h.tr
 ·exact⟨.inr (.inl rfl),fun _=>by show 1<=p.leave/\p.leave<=60;omega,fun t=>absurd (.inl rfl) t,by show (0:Int)<=0/\(0:Int)<=300;omega,h.lo,h.tr⟩
theorem Iv.doDeed {p:Pl} (hp:DP p) {c:Cs} (h:Iv c) (w d:Str) (z:Option Str):Iv (Co.doDeed p w d z c):=by
 unfold Co.doDeed
 split
 ·exact h.doSet hp w
 ·split
  ·exact⟨.inl rfl,fun t=>(by rcases t with t|t;exact absurd t z5m;exact absurd t z47),fun _=>rfl,by show (0:Int)<=0/\(0:Int)<=300;omega,h.lo,h.tr⟩
  ·split
   ·exact⟨h.md,h.t1,h.t0,h.si,h.lo,h.tr⟩
   ·exact⟨h.md,h.t1,h.t0,h.si,h.lo,h.tr⟩
theorem Iv.code {p:Pl} (hp:DP p) {c:Cs} (h:Iv c) (f d:Str) (z:Option Str):Iv (Co.code p f d z c):=by
 unfold Co.code
 split
 ·exact h.tell _ _
 ·split
  ·exact h.takeWrong hp
  ·split
   ·exact h.takeWrong hp
   ·have h0:Iv { c with tries:=0 }:=⟨h.md,h.t1,h.t0,h.si,h.lo,by show (0:Int)<=0/\(0:Int)<=2;omega⟩
    unfold Co.takeRight
    split
    ·refine Iv.doDeed hp ?_ _ _ _
     exact⟨h0.md,h0.t1,h0.t0,h0.si,h0.lo,h0.tr⟩
    ·exact h0.tell _ _
theorem Iv.happen {p:Pl} (hp:DP p) {c:Cs} (h:Iv c) (e:Et):Iv (Co.happen p c e):=by
 cases e with
 | line z w=>exact h.line hp z w
 | code f d z=>exact h.code hp f d z
 | ticks n=>exact h.ticks hp n
theorem Iv.run {p:Pl} (hp:DP p):∀{es:List Et} {c:Cs},Iv c->Iv (Co.run p c es)
 | [],_,h=>h
 | e::es,c,h=>Iv.run hp (es:=es) (h.happen hp e)
end Co
end
section
namespace Co
open D PySem
def okN (d:Nat) (t:T):Prop:=t.canLay0=true/\t.depth<=d
theorem okN.okT {d:Nat} {t:T} (h:okN d t) (hd:d<=60:=by decide):okT t=true:=by
 unfold D.okT
 rw[h.1,decide_eq_true (y1u h.2 hd)]
 rfl
theorem zon {d:Nat}:∀{ts:List T},(∀t∈ts,okN d t)->y1j ts=true/\y1h ts<=d
 | [],_=>by simp[y1j,y1h]
 | t::ts,h=>by
  obtain⟨h1,h2⟩:=zon fun x hx=>h x (y05 _ hx)
  obtain⟨h3,h4⟩:=h t y0f
  constructor
  ·rw[y1j,h3,h1]
   rfl
  ·rw[y1h]
   omega
theorem z1r {d:Nat} {ts:List T} (h:∀t∈ts,okN d t):okN (d+1) (.tuple ts):=by
 obtain⟨h1,h2⟩:=zon h
 constructor
 ·rw[PyData.canLay0];exact h1
 ·rw[y2d];omega
theorem z9z (d:Nat) (n:Int):okN d (.int n):=⟨rfl,by rw[y2d];omega⟩
theorem zli (d:Nat):okN d .none:=⟨rfl,by rw[y2d];omega⟩
theorem zr7 (d:Nat) (b:Bool):okN d (.bool b):=⟨rfl,by rw[y2d];omega⟩
theorem z39 (d:Nat) {x:Str} (h:okS x):okN d (.str x):=⟨h,by rw[y2d];omega⟩
theorem zlh (d:Nat) {x:Option Str} (h:∀z,x=some z->okS z):okN d (oS x):=by
 cases x with
 | none=>exact zli d
 | some z=>exact z39 d (h z rfl)
theorem z6l {d:Nat} {t:T} (h:okN d t) (hd:d<=60:=by decide):oNe t t=some (.bool false):=by
 unfold oNe
 rw[h.okT hd,PySem.SeqAt.eqv_refl t h.1]
 rfl
theorem zgg {d:Nat} {t:T} (h:okN d t) (hd:d<=60:=by decide):oEq t t=some (.bool true):=by
 unfold oEq
 rw[h.okT hd,PySem.SeqAt.eqv_refl t h.1]
 rfl
theorem zgf {p:Pl} {c:Cs} (h:Wf p c):okN 2 (encS c):=by
 refine z1r fun t ht=>?_
 simp only[y09,y2j,or_false] at ht
 rcases ht with rfl|rfl|rfl|rfl|rfl|rfl|rfl|rfl|rfl|rfl
 ·exact z39 _ h.mo
 ·exact z9z _ _
 ·exact zlh _ fun z hz=>(h.ca z hz).1
 ·refine z1r (d:=0) fun t ht=>?_
  obtain⟨l,hl,rfl⟩:=y0n.mp ht
  exact z39 _ (h.lo l hl)
 ·refine z1r (d:=0) fun t ht=>?_
  obtain⟨l,hl,rfl⟩:=y0n.mp ht
  exact z39 _ (h.oksh l hl)
 ·exact z9z _ _
 ·refine z1r (d:=0) fun t ht=>?_
  obtain⟨l,hl,rfl⟩:=y0n.mp ht
  exact z39 _ (h.okal l hl)
 ·exact z9z _ _
 ·exact z9z _ _
 ·refine z1r (d:=0) fun t ht=>?_
  obtain⟨l,hl,rfl⟩:=y0n.mp ht
  exact z9z _ _
def Tw (c:Cs):Prop:=∀w∈c.told,okS w.2.1/\∀n,w.2.2=some n->okS n
theorem Tw.tell {c:Cs} (h:Tw c) {w:Str} {n:Option Str} (hw:okS w) (hn:∀x,n=some x->okS x):Tw (Co.tell w n c):=by
 intro x hx
 rcases y13.mp hx with q|q
 ·exact h x q
 ·simp at q
  subst q
  exact⟨hw,hn⟩
theorem Tw.alarm {p:Pl} {c:Cs} (h:Tw c) {z:Str} (hz:okS z):Tw (Co.alarm p z c):=by
 unfold Co.alarm
 split
 ·exact h
 ·exact Tw.tell (c:={ beLoud p c with alarms:=c.alarms++[z] }) h (z02 "alarm") fun x e=>y2n e▸hz
theorem Tw.alarms {p:Pl}:∀{zs:List Str} {c:Cs},Tw c->(∀z∈zs,okS z)->Tw (Co.alarms p zs c)
 | [],_,h,_=>h
 | z::zs,c,h,hz=>Tw.alarms (zs:=zs) (h.alarm (hz z y0f)) fun y hy=>hz y (y05 _ hy)
theorem Tw.comeIn {p:Pl} {c:Cs} (h:Tw c) {z k:Str} (hz:okS z):Tw (Co.comeIn p z k c):=by
 unfold Co.comeIn
 split
 ·exact h.alarm hz
 ·exact Tw.tell (c:={ c with mode:="coming",left:=p.come,came:=some z }) h (z02 "coming") fun x e=>y2n e▸hz
theorem Tw.disturb {p:Pl} {c:Cs} (h:Tw c) {z w:Str} (hz:okS z):Tw (Co.disturb p z w c):=by
 unfold Co.disturb
 repeat' split
 all_goals first|exact h.alarm hz|exact h.tell (z02 "fault") fun x e=>y2n e▸hz|exact h.comeIn hz|exact h
theorem Tw.line {p:Pl} {c:Cs} (h:Tw c) {z w:Str} (hz:okS z):Tw (Co.line p z w c):=by
 have h':Tw { c with lines:=setL c.lines z w }:=h
 unfold Co.line
 repeat' split
 all_goals first|exact h|exact h'|exact h'.tell (z02 "mended") fun x e=>y2n e▸hz|exact h'.disturb hz
theorem Tw.endLeaving {p:Pl} {c:Cs} (h:Tw c) (hw:Wf p c):Tw (Co.endLeaving p c) :=
 Tw.alarms (Tw.tell (c:={ c with mode:="on",left:=0 }) h (z02 "on") fun x e=>(nomatch e)) fun z hz=>hw.okz (zck hz)
theorem Tw.endTime {p:Pl} {c:Cs} (h:Tw c) (hw:Wf p c) (hm:zc7 c):Tw (Co.endTime p c):=by
 unfold Co.endTime
 split
 ·exact h.endLeaving hw
 next q =>
  obtain⟨z,hz⟩:=Option.ne_none_iff_exists'.mp (hw.cm (hm.resolve_left q))
  unfold Co.endComing
  rw[hz]
  exact Tw.alarm (c:={ c with mode:="on",came:=none }) h (hw.ca z hz).1
theorem Tw.ticks {p:Pl} {c:Cs} (h:Tw c) (hw:Wf p c) (n:Int):Tw (Co.ticks p n c):=by
 unfold Co.ticks
 split
 ·exact h
 ·split
  next q=>exact Tw.endTime (c:=z0i c.left c) h (hw.cd _) q.1
  ·exact h
theorem Tw.takeWrong {p:Pl} {c:Cs} (h:Tw c):Tw (Co.takeWrong p c):=by
 have h1:Tw (wrong1 c):=Tw.tell h (z02 "wrong") fun x e=>(nomatch e)
 unfold Co.takeWrong
 split
 ·exact Tw.tell (c:=beLoud p { wrong1 c with tries:=0,locked:=90 }) h1 (z02 "attack") fun x e=>(nomatch e)
 ·exact h1
theorem znd {p:Pl} {c:Cs} (hw:Wf p c) {k:Cd} (hk:k∈p.codes) {d:Str} {z:Option Str} {x:Str×Str} (h:against p k d z c=some x):okS x.1/\okS x.2:=by
 have hwho:=(hw.cn k hk).2.1
 unfold against at h
 by_cases h1:(if d="free" then ("shunt":Str) else d)∈k.rights
 ·rw[if_neg (fun q=>q h1)] at h
  split at h
  ·cases h
   exact⟨z02 "no",hwho⟩
  ·split at h
   next q =>
    cases h
    refine⟨z02 "open",?_⟩
    have hb:=q.2
    cases e:bare p ["day","once"] c with
    | nil=>exact absurd e hb
    | cons b bs =>
     have:b∈bare p ["day","once"] c:=by rw[e];simp
     simpa using hw.okz (zck this)
   ·cases h
 ·rw[if_pos h1] at h
  cases h
  exact⟨z02 "denied",hwho⟩
theorem Tw.doDeed {p:Pl} {c:Cs} (h:Tw c) (hw:Wf p c) {w d:Str} {z:Option Str} (how:okS w) (hz:okD p d z c):Tw (Co.doDeed p w d z c):=by
 rcases hz with rfl|rfl|⟨rfl,x,rfl,hx⟩|⟨rfl,x,rfl,hx⟩
 ·simp only[Co.doDeed,if_true]
  have h':Tw (Co.tell "set" (some w) { c with alarms:=[],siren:=0,mode:="leaving",left:=p.leave }):=Tw.tell (c:={ c with alarms:=[],siren:=0,mode:="leaving",left:=p.leave }) h (z02 "set") fun x e=>y2n e▸how
  show Tw (if p.leave<=0 then Co.endLeaving p (Co.tell "set" (some w) { c with alarms:=[],siren:=0,mode:="leaving",left:=p.leave }) else Co.tell "set" (some w) { c with alarms:=[],siren:=0,mode:="leaving",left:=p.leave })
  split
  ·exact h'.endLeaving ((hw.setAl p.leave).tell _ _)
  ·exact h'
 ·simp only[Co.doDeed,if_neg z7e,if_true]
  exact Tw.tell (c:={ c with mode:="off",left:=0,siren:=0,came:=none,shunts:=[] }) h (z02 "unset") fun x e=>y2n e▸how
 ·simp only[Co.doDeed,if_neg z7f,if_neg z4c,if_true]
  exact Tw.tell (c:={ c with shunts:=z85 (c.shunts++[x]) }) h (z02 "shunt") fun y e=>y2n e▸hw.okz hx
 ·simp only[Co.doDeed,if_neg z90,if_neg z54,if_neg z55]
  exact Tw.tell (c:={ c with shunts:=c.shunts.erase x }) h (z02 "free") fun y e=>y2n e▸hw.oksh x hx
theorem Tw.happen {p:Pl} {c:Cs} (h:Tw c) (hw:Wf p c) {e:Et} (he:okE p e):Tw (Co.happen p c e):=by
 cases e with
 | line z w=>exact h.line (hw.okz he.1)
 | ticks n=>exact h.ticks hw n
 | code f d z =>
  show Tw (Co.code p f d z c)
  unfold Co.code
  split
  ·exact h.tell (z02 "locked") fun x e=>(nomatch e)
  ·split
   ·exact h.takeWrong
   next k ek =>
    have hk:=zfq ek
    split
    ·exact h.takeWrong
    ·have w0:=hw.tri 0
     have h0:Tw { c with tries:=0 }:=h
     unfold Co.takeRight
     split
     next ea=>exact Tw.doDeed (c:={ c with tries:=0,used:=addU c.used k.fig }) h (w0.add k.fig) (hw.cn k hk).2.1 (zoo he.2.1 he.2.2 ea)
     next ea =>
      have:=znd w0 hk ea
      exact h0.tell this.1 fun x e=>y2n e▸this.2
theorem Tw.run {p:Pl}:∀{es:List Et} {c:Cs},Tw c->Wf p c->(∀e∈es,okE p e)->Tw (Co.run p c es)
 | [],_,h,_,_=>h
 | e::es,c,h,hw,he=>Tw.run (es:=es) (h.happen hw (he e y0f)) (hw.happen (he e y0f)) fun y hy=>he y (y05 _ hy)
theorem Tw.fresh (c:Cs):Tw (Co.fresh c):=fun w hw=>by cases hw
theorem zlg {c:Cs} (h:Tw c):okN 2 (.tuple (c.told.map encW)):=by
 refine z1r fun t ht=>?_
 obtain⟨w,hw,rfl⟩:=y0n.mp ht
 refine z1r fun t ht=>?_
 simp only[y09,y2j,or_false] at ht
 rcases ht with rfl|rfl|rfl
 ·exact z9z _ _
 ·exact z39 _ (h w hw).1
 ·exact zlh _ (h w hw).2
theorem zun (p:Pl) (c:Cs) (e:Et) (h:Wf p c) (hp:Wp p) (he:okE p e):zig [encP p,encS c,encE e]=some (encS (happen p (fresh c) e)):=by
 have e1_:=z8o p c [e] h hp (by simpa using he) (by simp)
 have e2_:=zqk p (run p (fresh c) [e]) .ro (h.fresh.run (by simpa using he))
 simp only[y0e,y1c] at e1_
 simp! [sp9,zig,zt9,zis,ofO,zf7,e1_,za7,e2_]
 rfl
def z1c (w:Int×Str×Option Str):T:=.tuple [.str w.2.1,oS w.2.2]
theorem zt8 (caps:Ev):∀(ws:List (Int×Str×Option Str)) (s0 s1 s2:Option Sl),z58 (gTu [(gNm 0),(gNm 1),(gNm 2)]) (cstT true) (z0g [(nmV 1),(nmV 2)]) (ws.map encW) (s0::s1::s2::caps)=some (ws.map z1c)
 | [],_,_,_=>rfl
 | w::ws,s0,s1,s2=>by
  have ih:=zt8 caps ws (some (.imm (.int w.1))) (some (.imm (.str w.2.1))) (some (.imm (oS w.2.2)))
  simp only[y0e,z58,encW,gTu,gAll,gNm,y0q,y1l,y1o,cstT,if_true] at ih ⊢
  simp only[z0g,args,nmV,y2m,y2l,y0q,y1w,y0x,y2o,z7t,if_true] at ih ⊢
  simp[z7t,z1c]
  simpa [encW,z1c] using ih
theorem zqb (p:Pl) (c:Cs) (e:Et) (h:Wf p c) (hp:Wp p) (he:okE p e):zdz [encP p,encS c,encE e]=some (.tuple ((happen p (fresh c) e).told.map z1c)):=by
 have e1_:=z8o p c [e] h hp (by simpa using he) (by simp)
 have hb:=zg6 (es:=[e]) h.fresh (by simpa using he)
 have b2:(60000<big):=by decide
 have h0:(fresh c).told.length=0:=rfl
 have b1:(run p (fresh c) [e]).told.length<=big:=by simp at hb;omega
 have c3:=zt8 [] (run p (fresh c) [e]).told none none none
 simp only[y0e,y1c] at e1_
 simp! [sp9,zdz,zq2,zis,zbe,zf7,e1_,za7,e12,b1]
 rw[c3]
 simp[z30]
 rfl
end Co
end
section
namespace Co
open D PySem
theorem z7s {i:Nat} {f:Fe} {b:Fs} {ε:Ev} {t:T} {r:Option Out} (h:f ε=some t) (h2:b (ε.set i (some (.imm t)))=r):seq (asg i f) b ε=r:=by
 rw[z3m (ε':=ε.set i (some (.imm t))),h2]
 unfold asg
 rw[h]
 rfl
theorem zln {c:Ft} {a b:Fs} {ε:Ev} {r:Option Out} (h:c ε=some false) (h2:b ε=r):seq (iff c a skip) b ε=r:=by
 rw[z3m (ε':=ε),h2]
 unfold iff
 rw[h]
 rfl
theorem z3h {a b:Fs} {ε ε':Ev} {r:Option Out} (h:a ε=some (.nx ε')) (h2:b ε'=r):seq a b ε=r:=by rw[z3m h,h2]
theorem denied {p:Pl} {c:Cs} {k:Cd} {d:Str} (hd:d="set"\/d="unset") (hr:d∉k.rights):takeRight p k d none c=tell "denied" (some k.who) c:=by
 have:against p k d none c=some (("denied":Str),k.who):=by
  rcases hd with rfl|rfl <;> simp[against,z8z,z6m,hr]
 unfold takeRight
 rw[this]
theorem zr6 (d:Nat) {w:Str} {n:Option Str} (hw:okS w) (hn:∀x,n=some x->okS x):okN (d+1) (.tuple [.str w,oS n]):=z1r fun x hx=>by
 simp only[y09,y2j,or_false] at hx
 rcases hx with rfl|rfl
 ·exact z39 _ hw
 ·exact zlh _ hn
end Co
end
section
namespace Co
open D PySem
theorem zps {α:Type} {enc x y g:α->T} {q:α->Bool} {cc:Ft} {ee:Fe} {caps:Ev} (he:∀a,enc a=.tuple [x a,y a]):∀(ts:List α) (s0 s1:Option Sl),(∀a∈ts,cc (some (.imm (x a))::some (.imm (y a))::caps)=some (q a)/\(q a=true->ee (some (.imm (x a))::some (.imm (y a))::caps)=some (g a)))->z58 (gTu [(gNm 0),(gNm 1)]) cc ee (ts.map enc) (s0::s1::caps)=some ((ts.filter q).map g)
 | [],_,_,_=>rfl
 | a::ts,s0,s1,h=>by
  have ih:=zps he ts (some (.imm (x a))) (some (.imm (y a))) fun b hb=>h b (y05 _ hb)
  obtain⟨h0,h1⟩:=h a (by simp)
  rw[y0e,z58,he a]
  simp only[gTu,gAll,gNm,y0q,y1l,y1o,h0]
  cases hq:q a with
  | true=>simp only[if_true,h1 hq,y0q,ih,y1w,List.filter_cons,hq,y0e]
  | false=>simp only[y20,if_false,ih,List.filter_cons,hq]
def z6q (p:Pl) (c:Cs):List Str:=((p.zones.zip c.lines).filter fun x=>!decide (x.2.2=("shut":Str))).map fun x=>x.1.1
theorem zqp (p:Pl) (c:Cs) (h:Wf p c):zbh [encP p,encS c]=some (.tuple [.str c.mode,.bool (decide (c.siren > 0)),.tuple ((z6q p c).map .str)]):=by
 have hzl:(p.zones.zip c.lines).length<=big:=by
  have:=h.zl
  rw[List.length_zip]
  unfold big
  omega
 have zw:List.zipWith (fun x y=>PyData.tuple [x,y]) (p.zones.map encZ) (c.lines.map fun l=>.str l.2)=(p.zones.zip c.lines).map fun x=>.tuple [encZ x.1,.str x.2.2]:=by
  rw[List.zipWith_map,List.zip,List.map_zipWith]
 have hc:=zps (enc:=fun x:(Str×Str)×(Str×Str)=>.tuple [encZ x.1,.str x.2.2]) (x:=fun x=>encZ x.1) (y:=fun x=>.str x.2.2) (g:=fun x=>.str x.1.1) (q:=fun x=>!decide (x.2.2=("shut":Str))) (cc:=tstB (op2 oNe (nm 1) (cst (.str "shut")))) (ee:=op2 oIx (nm 0) (cst (.int 0))) (caps:=[]) (fun _=>rfl) (p.zones.zip c.lines) none none (fun x hx=>by
  have hx2:=(List.of_mem_zip hx).2
  have q:=z60 (h.lo _ hx2) (z02 "shut")
  refine⟨by simp! [sp9,q],fun _=>?_⟩
  simp! [sp2,encZ])
 have b:zkp [some (.imm (encP p)),some (.imm (encS c)),none]=some (.rt (.tuple [.str c.mode,.bool (decide (c.siren > 0)),.tuple ((z6q p c).map .str)])):=by
  unfold zkp
  refine z7s (t:=.list ((z6q p c).map .str)) ?_ ?_
  ·have it:zrk (z7g (op2 oIx (nm 0) (cst (.int 0)))) (z7g (op2 oIx (nm 1) (cst (.int 3)))) [some (.imm (encP p)),some (.imm (encS c)),none]=some ((p.zones.zip c.lines).map fun x=>.tuple [encZ x.1,.str x.2.2]):=by
    rw[<- zw]
    rfl
   unfold comp
   rw[it]
   simp only[y0q,y16]
   rw[if_pos hzl]
   show (z58 _ _ _ _ [none,none]).map _=_
   rw[hc]
   simp[z6q,y19]
  simp only[y1o,y1l]
  simp! [sp2,encS,oGt,z30,z4a]
 unfold zbh runF
 simp only[y0e,y1c,y0x,y2o,y2u,y2t]
 exact congrArg (fun o=>Option.bind o _) b
theorem zom (d:Nat) {p:Pl} {c:Cs} (h:Wf p c) (b:Bool):okN (d+2) (.tuple [.str c.mode,.bool b,.tuple ((z6q p c).map .str)]):=z1r fun x hx=>by
 simp only[y09,y2j,or_false] at hx
 rcases hx with rfl|rfl|rfl
 ·exact z39 _ h.mo
 ·exact zr7 _ _
 ·refine z1r fun x hx=>?_
  obtain⟨y,hy,rfl⟩:=y0n.mp hx
  obtain⟨w,hw,rfl⟩:=y0n.mp hy
  exact z39 _ (h.zn _ (List.of_mem_zip (List.mem_filter.mp hw).1).1).1
end Co
end
section
namespace Bo
open D Co
open PySem hiding run fresh code
local instance:Tbl:=⟨[],fun _=>[],fun _=>none⟩
def nxt (p:Pl) (c:Cs) (e:Et):Cs:=happen p (fresh c) e
def encB (p:Pl) (es:List Et) (pre:List Cs) (c:Cs):List Sl:=[.imm (encP p),.own (es.map encE),.own ((pre++[c]).map encS)]
def okB (p:Pl) (e:Et):Prop:=okE p e/\match e with
 | .code _ _ z=>∀x,z=some x->x∈p.zones.map (·.1)
 | _=>True
section
variable {p:Pl} {es:List Et} {pre:List Cs} {c:Cs} {md:Md}
theorem zuk (xs:List T) (x:T):oIx (.list (xs++[x])) (.int (-1))=some x:=by
 have h1:¬((0:Int)<=-1):=by omega
 have h2:-(((xs++[x]).length:Nat):Int)<=-1:=by simp only[y2a,y0x,y2o];omega
 have h3:(-1+(((xs++[x]).length:Nat):Int)).toNat=xs.length:=by simp only[y2a,y0x,y2o];omega
 simp only[oIx,atZ,ixOf]
 rw[if_neg h1,if_pos h2,h3]
 simp
theorem zpy:z0s [.obj md 1 (encB p es pre c)]=some (encS c):=by
 have hs:z7q [some (.obj md 1 (encB p es pre c))]=some (.rt (encS c)):=by
  have e1_:fld 1 0 2 [some (.obj md 1 (encB p es pre c))]=some (.list (pre.map encS++[encS c])):=by
   simp[fld,objF,encB]
  have e2_:op1 oNeg (cst (.int 1)) [some (.obj md 1 (encB p es pre c))]=some (.int (-1)):=rfl
  unfold z7q rtn op2
  rw[e1_,e2_]
  simp only[y0q,zuk]
  rfl
 unfold z0s runR
 show Option.bind (z7q [some (.obj md 1 (encB p es pre c))]) _=_
 rw[hs]
 rfl
theorem z8j {ε:Ev} {i:Nat} (h:ε[i]?=some (some (.obj md 1 (encB p es pre c)))):z2b 1 z0s i [] ε=some (encS c):=by
 have:objF 1 i ε=some (md,encB p es pre c):=by simp[objF,h]
 simp only[z2b,this,y0q,args,y1c,zpy]
theorem zi7 {ε:Ev} {i:Nat} (h:ε[i]?=some (some (.obj md 1 (encB p es pre c)))):fldV 1 i 0 ε=some (encP p):=by
 have:objF 1 i ε=some (md,encB p es pre c):=by simp[objF,h]
 simp only[fldV,this,y0q]
 rfl
theorem zn3 (wp:Wp p) (hw:Wf p c) {e:Et} (he:okE p e) (hl:es.length<10000) (hp:pre.length<10000) :
  z1y [.obj .lent 1 (encB p es pre c),.imm (encE e)]=some (.tuple ((nxt p c e).told.map z1c),encB p (es++[e]) (pre++[c]) (nxt p c e)):=by
 have xw:=zqb p c e hw wp he
 have xg:=zun p c e hw wp he
 have b1:(es.map encE).length<big:=by rw[y16];unfold big;omega
 have b2:((pre++[c]).map encS).length<big:=by simp only[y16,y2a,y0x,y2o];unfold big;omega
 have hs:z6o [some (.obj .lent 1 (encB p es pre c)),some (.imm (encE e)),none,none]=some (.rtm (.tuple ((nxt p c e).told.map z1c)) [some (.obj .lent 1 (encB p (es++[e]) (pre++[c]) (nxt p c e))),some (.imm (encE e)),some (.imm (.tuple ((nxt p c e).told.map z1c))),some (.imm (encS (nxt p c e)))]):=by
  unfold z6o
  refine z7s (t:=.tuple ((nxt p c e).told.map z1c)) (by
   simp only[opN,args,zi7 (i:=0) (ε:=[some (.obj .lent 1 (encB p es pre c)),some (.imm (encE e)),none,none]) rfl,z8j (i:=0) (ε:=[some (.obj .lent 1 (encB p es pre c)),some (.imm (encE e)),none,none]) rfl,nmV,y2m,y2l,y0q,y1w,xw]
   rfl) ?_
  simp only[y1o,y1l]
  refine z7s (t:=encS (nxt p c e)) (by
   simp only[opN,args,zi7 (i:=0) (ε:=[some (.obj .lent 1 (encB p es pre c)),some (.imm (encE e)),some (.imm (.tuple ((nxt p c e).told.map z1c))),none]) rfl,z8j (i:=0) (ε:=[some (.obj .lent 1 (encB p es pre c)),some (.imm (encE e)),some (.imm (.tuple ((nxt p c e).told.map z1c))),none]) rfl,nmV,y2m,y2l,y0q,y1w,xg]
   rfl) ?_
  simp only[y1o,y1l]
  refine z3h (ε':=[some (.obj .lent 1 [.imm (encP p),.own ((es++[e]).map encE),.own ((pre++[c]).map encS)]),some (.imm (encE e)),some (.imm (.tuple ((nxt p c e).told.map z1c))),some (.imm (encS (nxt p c e)))]) ?_ ?_
  ·simp only[appF,fldL,setF,objF,encB,nmV,y2m,y2l,y0q,y1w,if_true,if_pos b1]
   have em:(es++[e]).map encE=es.map encE++[encE e]:=by simp
   rw[em]
   rfl
  refine z3h (ε':=[some (.obj .lent 1 (encB p (es++[e]) (pre++[c]) (nxt p c e))),some (.imm (encE e)),some (.imm (.tuple ((nxt p c e).told.map z1c))),some (.imm (encS (nxt p c e)))]) ?_ rfl
  simp only[appF,fldL,setF,objF,encB,nmV,y2m,y2l,y0q,y1w,if_true,if_pos b2]
  have em:((pre++[c])++[nxt p c e]).map encS=(pre++[c]).map encS++[encS (nxt p c e)]:=by simp
  rw[em]
  rfl
 unfold z1y runM
 show Option.bind (z6o [some (.obj .lent 1 (encB p es pre c)),some (.imm (encE e)),none,none]) _=_
 rw[hs]
 simp[z56]
theorem zgp (wp:Wp p) (hw:Wf p c) {e:Et} (he:okE p e) (hl:es.length<10000) (hp:pre.length<10000) {ε:Ev} {i:Nat} {md:Md} (hm:md≠.ro) (h:ε[i]?=some (some (.obj md 1 (encB p es pre c)))) {f:Fe} (hf:f ε=some (encE e)) :
  z0t 1 z1y i [f] ε=some (.tuple ((nxt p c e).told.map z1c),ε.set i (some (.obj md 1 (encB p (es++[e]) (pre++[c]) (nxt p c e))))):=by
 have h1:objF 1 i ε=some (md,encB p es pre c):=by simp[objF,h]
 simp only[z0t,h1,y0q,if_neg hm,args,hf,y1w,y0e,y1c,zn3 wp hw he hl hp]
theorem need_zone (hz:∀x∈p.zones,okS x.1/\okS x.2) {z:Str} (h:z∈p.zones.map (·.1)):z1j [.obj .ro 1 (encB p es pre c),.imm (.str z)]=some .none:=by
 have ek:=zbf hz h
 have hs:z4j [some (.obj .ro 1 (encB p es pre c)),some (.imm (.str z))]=some (.nx [some (.obj .ro 1 (encB p es pre c)),some (.imm (.str z))]):=by
  unfold z4j
  simp only[exE,opN,args,zi7 (i:=0) (ε:=[some (.obj .ro 1 (encB p es pre c)),some (.imm (.str z))]) rfl,nmV,y2m,y2l,y0q,y1w,ek]
 unfold z1j runR
 show Option.bind (z4j [some (.obj .ro 1 (encB p es pre c)),some (.imm (.str z))]) _=_
 rw[hs]
 rfl
theorem zt0 (hz:∀x∈p.zones,okS x.1/\okS x.2) {z:Str} (h:z∈p.zones.map (·.1)) {ε:Ev} {i:Nat} (hi:ε[i]?=some (some (.obj md 1 (encB p es pre c)))) {f:Fe} (hf:f ε=some (.str z)):exE (z2b 1 z1j i [f]) ε=some (.nx ε):=by
 have h1:objF 1 i ε=some (md,encB p es pre c):=by simp[objF,hi]
 simp only[exE,z2b,h1,y0q,args,hf,y1w,y0e,y1c,need_zone hz h]
def Did (p:Pl) (es:List Et) (pre:List Cs) (c:Cs) (e:Et):T×List Sl:=(.tuple ((nxt p c e).told.map z1c),encB p (es++[e]) (pre++[c]) (nxt p c e))
theorem zry (wp:Wp p) (hw:Wf p c) {z w:Str} (he:okE p (.line z w)) (hl:es.length<10000) (hp:pre.length<10000) :
  z70 [.obj .lent 1 (encB p es pre c),.imm (.str z),.imm (.str w)]=some (Did p es pre c (.line z w)):=by
 have b3:(3:Nat)<=big:=by unfold big;omega
 have hs:z99 [some (.obj .lent 1 (encB p es pre c)),some (.imm (.str z)),some (.imm (.str w))]=some (.rtm (Did p es pre c (.line z w)).1 [some (.obj .lent 1 (Did p es pre c (.line z w)).2),some (.imm (.str z)),some (.imm (.str w))]):=by
  unfold z99
  refine z3h (zt0 hw.zn he.1 (i:=0) rfl rfl) ?_
  unfold rtnX
  rw[zgp wp hw he hl hp (by decide) (i:=0) rfl (by simp[z0g,args,cst,nmV,b3,encE])]
  rfl
 unfold z70 runM
 show Option.bind (z99 [some (.obj .lent 1 (encB p es pre c)),some (.imm (.str z)),some (.imm (.str w))]) _=_
 rw[hs]
 simp[z56]
theorem ziu (wp:Wp p) (hw:Wf p c) {n:Int} (he:okE p (.ticks n)) (hl:es.length<10000) (hp:pre.length<10000) :
  z2l [.obj .lent 1 (encB p es pre c),.imm (.int n)]=some (Did p es pre c (.ticks n)):=by
 have b3:(2:Nat)<=big:=by unfold big;omega
 have hs:z7p [some (.obj .lent 1 (encB p es pre c)),some (.imm (.int n))]=some (.rtm (Did p es pre c (.ticks n)).1 [some (.obj .lent 1 (Did p es pre c (.ticks n)).2),some (.imm (.int n))]):=by
  unfold z7p rtnX
  rw[zgp wp hw he hl hp (by decide) (i:=0) rfl (by simp[z0g,args,cst,nmV,b3,encE])]
  rfl
 unfold z2l runM
 show Option.bind (z7p [some (.obj .lent 1 (encB p es pre c)),some (.imm (.int n))]) _=_
 rw[hs]
 simp[z56]
theorem zs0 (wp:Wp p) (hw:Wf p c) {f d:Str} {z:Option Str} (he:okB p (.code f d z)) (hl:es.length<10000) (hp:pre.length<10000) :
  z71 [.obj .lent 1 (encB p es pre c),.imm (.str f),.imm (.str d),.imm (oS z)]=some (Did p es pre c (.code f d z)):=by
 have b3:(4:Nat)<=big:=by unfold big;omega
 have hd:okS d:=by
  rcases he.1.2.1 with h|h|h|h <;> (rw[h];exact z02 _)
 have oi:=zal false (n:=d) (ns:=["shunt","free"]) hd (fun x hx=>by
  simp only[y09,y2j,or_false] at hx
  rcases hx with h|h <;> (rw[h];exact z02 _))
 have hs:z9a [some (.obj .lent 1 (encB p es pre c)),some (.imm (.str f)),some (.imm (.str d)),some (.imm (oS z))]=some (.rtm (Did p es pre c (.code f d z)).1 [some (.obj .lent 1 (Did p es pre c (.code f d z)).2),some (.imm (.str f)),some (.imm (.str d)),some (.imm (oS z))]):=by
  unfold z9a
  refine z3h (ε':=[some (.obj .lent 1 (encB p es pre c)),some (.imm (.str f)),some (.imm (.str d)),some (.imm (oS z))]) ?_ ?_
  ·cases z with
   | some x =>
    have hx:x∈p.zones.map (·.1):=he.2 x rfl
    unfold iff
    have t:orT (tstB (op1 z82 (nm 3))) (tstB (op2 (oIn false) (nm 2) (cst (.tuple (z80 ["shunt","free"]))))) [some (.obj .lent 1 (encB p es pre c)),some (.imm (.str f)),some (.imm (.str d)),some (.imm (oS (some x)))]=some true:=rfl
    rw[t]
    exact zt0 hw.zn hx (i:=0) rfl rfl
   | none =>
    have nd:¬(d∈(["shunt","free"]:List Str)):=fun hm=>by
     simp only[y09,y2j,or_false] at hm
     obtain⟨x,hx,_⟩:=he.1.2.2 hm
     cases hx
    simp only[y20,if_false,decide_eq_false nd] at oi
    have oi':oIn false (.str d) (.tuple (z80 ["shunt","free"]))=some (.bool false):=oi
    unfold iff
    have t:orT (tstB (op1 z82 (nm 3))) (tstB (op2 (oIn false) (nm 2) (cst (.tuple (z80 ["shunt","free"]))))) [some (.obj .lent 1 (encB p es pre c)),some (.imm (.str f)),some (.imm (.str d)),some (.imm (oS none))]=some false:=by
     simp only[orT,tstB,op1,op2,nm,cst,y2m,y2l,y0q,oi']
     rfl
    rw[t]
    rfl
  unfold rtnX
  rw[zgp (e:=.code f d z) wp hw he.1 hl hp (by decide) (i:=0) rfl (by simp[z0g,args,cst,nmV,b3,encE])]
  rfl
 unfold z71 runM
 show Option.bind (z9a [some (.obj .lent 1 (encB p es pre c)),some (.imm (.str f)),some (.imm (.str d)),some (.imm (oS z))]) _=_
 rw[hs]
 simp[z56]
theorem zx4 (wp:Wp p) (hw:Wf p c) {e:Et} (he:okB p e) (hl:es.length<10000) (hp:pre.length<10000) :
  z3i [.obj .lent 1 (encB p es pre c),.imm (encE e)]=some (Did p es pre c e):=by
 have fin:z97 [some (.obj .lent 1 (encB p es pre c)),some (.imm (encE e))]=some (.rtm (Did p es pre c e).1 [some (.obj .lent 1 (Did p es pre c e).2),some (.imm (encE e))]):=by
  have hm:¬(Md.lent=Md.ro):=by decide
  have ob:∀s:Option Sl,objF 1 0 [some (.obj .lent 1 (encB p es pre c)),s]=some (.lent,encB p es pre c):=fun s=>rfl
  unfold z97
  cases e with
  | line z w =>
   have x:=zry wp hw he.1 hl hp
   have q:=z0f (z02 "line") (z02 "line")
   simp! [sp2,encE,q,rtnX,z0t,ob,x]
  | code f d z =>
   have x:=zs0 wp hw he hl hp
   have q1:=z0f (z02 "code") (z02 "line")
   have q2:=z0f (z02 "code") (z02 "code")
   simp! [sp10,encE,q1,q2,rtnX,z0t,ob,x]
  | ticks n =>
   have x:=ziu wp hw he.1 hl hp
   have q1:=z0f (z02 "ticks") (z02 "line")
   have q2:=z0f (z02 "ticks") (z02 "code")
   simp! [sp10,encE,q1,q2,rtnX,z0t,ob,x]
 unfold z3i runM
 show Option.bind (z97 [some (.obj .lent 1 (encB p es pre c)),some (.imm (encE e))]) _=_
 rw[fin]
 simp[z56,Did]
theorem do_m (wp:Wp p) (hw:Wf p c) {e:Et} (he:okB p e) (hl:es.length<10000) (hp:pre.length<10000) {ε:Ev} {i:Nat} {md:Md} (hm:md≠.ro) (h:ε[i]?=some (some (.obj md 1 (encB p es pre c)))) {f:Fe} (hf:f ε=some (encE e)) :
  zit 1 z3i [] i [f] ε=some (.tuple ((nxt p c e).told.map z1c),ε.set i (some (.obj md 1 (encB p (es++[e]) (pre++[c]) (nxt p c e))))):=by
 have h1:objF 1 i ε=some (md,encB p es pre c):=by simp[objF,h]
 simp only[zit,h1,y0q,if_neg hm,args,hf,y1w,y0e,y1c,y2t,zx4 wp hw he hl hp]
 rfl
theorem zrx (e:Et) (c':Cs):z48 [.obj .lent 1 (encB p (es++[e]) (pre++[c]) c')]=some (.none,encB p es pre c):=by
 have hs:z98 [some (.obj .lent 1 (encB p (es++[e]) (pre++[c]) c'))]=some (.nx [some (.obj .lent 1 (encB p es pre c))]):=by
  have e1_:encB p (es++[e]) (pre++[c]) c'=[.imm (encP p),.own (es.map encE++[encE e]),.own ((pre++[c]).map encS++[encS c'])]:=by simp[encB]
  rw[e1_]
  unfold z98
  refine zln ?_ ?_
  ·have t:tstL (fld 1 0 1) [some (.obj .lent 1 [.imm (encP p),.own (es.map encE++[encE e]),.own ((pre++[c]).map encS++[encS c'])])]=some true:=by
    simp[tstL,fld,objF]
   unfold notT
   rw[t]
   rfl
  refine z3h (ε':=[some (.obj .lent 1 [.imm (encP p),.own (es.map encE),.own ((pre++[c]).map encS++[encS c'])])]) ?_ ?_
  ·simp only[popF,fldL,setF,objF,y2m,y2l,y0q,if_true,List.getLast?_concat,List.dropLast_concat]
   rfl
  ·simp only[popF,fldL,setF,objF,y2m,y2l,y0q,if_true,List.getLast?_concat,List.dropLast_concat]
   rfl
 unfold z48 runM
 show Option.bind (z98 [some (.obj .lent 1 (encB p (es++[e]) (pre++[c]) c'))]) _=_
 rw[hs]
 simp[z56]
def heC (pre:List Cs) (c:Cs):Cs:=(pre++[c]).headD c
theorem ziv (hw:Wf p c):z4v [.obj .ro 1 (encB p es pre c)]=some (.tuple [.str c.mode,.bool (decide (c.siren > 0)),.tuple ((z6q p c).map .str)]):=by
 have xs:=zqp p c hw
 have hs:z7r [some (.obj .ro 1 (encB p es pre c))]=some (.rt (.tuple [.str c.mode,.bool (decide (c.siren > 0)),.tuple ((z6q p c).map .str)])):=by
  unfold z7r
  simp only[rtn,opN,args,zi7 (i:=0) (ε:=[some (.obj .ro 1 (encB p es pre c))]) rfl,z8j (i:=0) (ε:=[some (.obj .ro 1 (encB p es pre c))]) rfl,y0q,y1w,xs]
 unfold z4v runR
 show Option.bind (z7r [some (.obj .ro 1 (encB p es pre c))]) _=_
 rw[hs]
 rfl
theorem zpz (hl:es.length<10000):z3p [.obj .ro 1 (encB p es pre c)]=some (.tuple (es.map encE)):=by
 have b1:es.length<=big:=by unfold big;omega
 have hs:zaz [some (.obj .ro 1 (encB p es pre c))]=some (.rt (.tuple (es.map encE))):=by
  unfold zaz
  simp[rtn,opN,args,fld,objF,encB,z30,b1]
 unfold z3p runR
 show Option.bind (zaz [some (.obj .ro 1 (encB p es pre c))]) _=_
 rw[hs]
 rfl
theorem zp4 (x:T) (xs:List T):oIx (.list (x::xs)) (.int 0)=some x:=by
 have h:(0:Int)<(((x::xs).length:Nat):Int):=by simp only[y0x];omega
 simp only[oIx,atZ,ixOf,Int.le_refl,if_true,if_pos h]
 rfl
theorem zkj (wp:Wp p) (hh:Wf p (heC pre c)) (he:∀e∈es,okE p e) (hl:es.length<=1000):z2s [.obj .ro 1 (encB p es pre c)]=some (.tuple ((run p (fresh (heC pre c)) es).told.map encW)):=by
 have xs:=zqj p (heC pre c) es hh wp he hl
 have xr:=zpz (p:=p) (pre:=pre) (c:=c) (es:=es) (by omega)
 have e1_:op2 oIx (fld 1 0 2) (cst (.int 0)) [some (.obj .ro 1 (encB p es pre c))]=some (encS (heC pre c)):=by
  have e2_:fld 1 0 2 [some (.obj .ro 1 (encB p es pre c))]=some (.list ((pre++[c]).map encS)):=by
   simp[fld,objF,encB]
  unfold op2
  rw[e2_]
  have e3_:cst (.int 0) [some (.obj .ro 1 (encB p es pre c))]=some (.int 0):=rfl
  rw[e3_]
  simp only[y0q]
  cases pre with
  | nil=>exact zp4 _ _
  | cons x pre=>exact zp4 _ _
 have hs:zb0 [some (.obj .ro 1 (encB p es pre c))]=some (.rt (.tuple ((run p (fresh (heC pre c)) es).told.map encW))):=by
  have ob:objF 1 0 [some (.obj .ro 1 (encB p es pre c))]=some (.ro,encB p es pre c):=rfl
  unfold zb0
  simp only[rtn,opN,args,zi7 (i:=0) (ε:=[some (.obj .ro 1 (encB p es pre c))]) rfl,e1_,z2b,ob,y0q,y1w,y1c,xr,xs]
 unfold z2s runR
 show Option.bind (zb0 [some (.obj .ro 1 (encB p es pre c))]) _=_
 rw[hs]
 rfl
end
end Bo
end
section
namespace Bo
open D Co
open PySem hiding run fresh code
local instance:Tbl:=⟨[],fun _=>[],fun _=>none⟩
def chain (p:Pl):Cs->List Et->List Cs
 | _,[]=>[]
 | c,e::es=>c::chain p (nxt p c e) es
def endS (p:Pl) (c:Cs) (es:List Et):Cs:=es.foldl (nxt p) c
def zmd (p:Pl):Cs->List Et->List (Int×Str×Option Str)
 | _,[]=>[]
 | c,e::es=>(nxt p c e).told++zmd p (nxt p c e) es
theorem zlj {p:Pl} {c:Cs} (hw:Wf p c) {e:Et} (he:okE p e):Wf p (nxt p c e):=hw.fresh.happen he
theorem zpm {p:Pl}:∀{es:List Et} {c:Cs},Wf p c->(∀e∈es,okE p e)->Wf p (endS p c es)
 | [],_,h,_=>h
 | e::es,c,h,he=>zpm (es:=es) (zlj h (he e (by simp))) fun y hy=>he y (y05 _ hy)
theorem z6n (p:Pl):∀(xs ys:List Et) (c:Cs),chain p c (xs++ys)=chain p c xs++chain p (endS p c xs) ys
 | [],ys,c=>rfl
 | x::xs,ys,c=>by
  show c::chain p (nxt p c x) (xs++ys)=c::(chain p (nxt p c x) xs++chain p (endS p (nxt p c x) xs) ys)
  rw[z6n p xs ys]
theorem zbg (p:Pl) (xs ys:List Et) (c:Cs):endS p c (xs++ys)=endS p (endS p c xs) ys:=by simp[endS]
theorem zil (p:Pl):∀(xs:List Et) (c:Cs),(chain p c xs).length=xs.length
 | [],c=>rfl
 | x::xs,c=>by simp[chain,zil p xs]
theorem zgn (p:Pl):∀(xs:List Et) (c:Cs),heC (chain p c xs) (endS p c xs)=c
 | [],c=>rfl
 | x::xs,c=>rfl
theorem zdx (p:Pl):∀(es:List Et) (c:Cs),fresh (endS p c es)=fresh (run p (fresh c) es)
 | [],c=>rfl
 | e::es,c=>by
  have ih:=zdx p es (nxt p c e)
  have h:=znz (nxt p c e).past (nxt p c e).told p es (fresh (nxt p c e))
  rw[<- zl3] at h
  show fresh (endS p (nxt p c e) es)=fresh (run p (nxt p c e) es)
  rw[ih,h]
  rfl
theorem zl4 (p:Pl):∀(es:List Et) (c:Cs),(zmd p c es).map (·.2)=((run p (fresh c) es).told).map (·.2)
 | [],c=>rfl
 | e::es,c=>by
  have ih:=zl4 p es (nxt p c e)
  have h:=znz (nxt p c e).past (nxt p c e).told p es (fresh (nxt p c e))
  rw[<- zl3] at h
  show (((nxt p c e).told++zmd p (nxt p c e) es).map (·.2))=((run p (nxt p c e) es).told).map (·.2)
  rw[h,List.map_append,ih]
  show _=(((nxt p c e).told++(run p (fresh (nxt p c e)) es).told.map (shW (nxt p c e).past))).map (·.2)
  rw[List.map_append,y2v]
  rfl
end Bo
end
section
namespace K43
open D Co Bo
open PySem hiding run fresh code
local instance:Tbl:=⟨[],fun _=>[],fun _=>none⟩
theorem DE.okB {p:Pl} {e:Et} (h:DE p e):okB p e:=by
 refine⟨h.ok,?_⟩
 cases e with
 | line _ _=>trivial
 | ticks _=>trivial
 | code f d z =>
  intro x hx
  rcases h.2 with ⟨_,q⟩|⟨_,y,q,hy⟩
  ·rw[q] at hx
   cases hx
  ·rw[q] at hx
   cases hx
   exact hy
theorem zhp {ws:List (Int×Str×Option Str)} (h:∀w∈ws,okS w.2.1/\∀n,w.2.2=some n->okS n):okN 2 (.tuple (ws.map z1c)):=z1r fun x hx=>by
 obtain⟨w,hw,rfl⟩:=y0n.mp hx
 exact zr6 0 (h w hw).1 (h w hw).2
theorem zuw {xs ys:List (Int×Str×Option Str)} (h:xs.map (·.2)=ys.map (·.2)):xs.map z1c=ys.map z1c:=by
 have e:∀l:List (Int×Str×Option Str),l.map z1c=(l.map (·.2)).map fun q=>.tuple [.str q.1,oS q.2]:=fun l=>by
  rw[y2v]
  rfl
 rw[e,e,h]
def bR:Fs:=(iffX (tstX (op2X oNe (zit 1 z3i [] 2 [(nmV 4)]) (zit 1 z3i [] 3 [(nmV 4)]))) (rtn (cst (.bool false))) skip)
section
variable {p:Pl} (wp:Wp p)
include wp
theorem zsm (s0 s1 s5 s6 s7 s8 s9:Option Sl):∀(evs es:List Et) (pre:List Cs) (c:Cs) (s4:Option Sl),Wf p c->(∀e∈evs,okB p e)->es.length+evs.length<=5000->pre.length+evs.length<=5000 ->
  ∃s4',forL (gNm 4) bR (evs.map encE) [s0,s1,some (.obj .own 1 (encB p es pre c)),some (.obj .own 1 (encB p es pre c)),s4,s5,s6,s7,s8,s9] =
   some (.nx [s0,s1,some (.obj .own 1 (encB p (es++evs) (pre++chain p c evs) (endS p c evs))),some (.obj .own 1 (encB p (es++evs) (pre++chain p c evs) (endS p c evs))),s4',s5,s6,s7,s8,s9])
 | [],es,pre,c,s4,_,_,_,_=>⟨s4,by simp[forL,Bo.chain,endS]⟩
 | e::evs,es,pre,c,s4,hw,he,h1,h2=>by
  have hee:=he e (by simp)
  simp only[y0x] at h1 h2
  obtain⟨s4',ih⟩:=zsm s0 s1 s5 s6 s7 s8 s9 evs (es++[e]) (pre++[c]) (nxt p c e) (some (.imm (encE e))) (zlj hw hee.1) (fun y hy=>he y (y05 _ hy)) (by simp only[y2a,y0x,y2o];omega) (by simp only[y2a,y0x,y2o];omega)
  refine⟨s4',?_⟩
  have x1:=do_m wp hw hee (by omega) (by omega) (md:=.own) (by decide) (i:=2) (ε:=[s0,s1,some (.obj .own 1 (encB p es pre c)),some (.obj .own 1 (encB p es pre c)),some (.imm (encE e)),s5,s6,s7,s8,s9]) rfl (f:=nmV 4) rfl
  simp only[y1o,y1l] at x1
  have x2:=do_m wp hw hee (by omega) (by omega) (md:=.own) (by decide) (i:=3) (ε:=[s0,s1,some (.obj .own 1 (encB p (es++[e]) (pre++[c]) (nxt p c e))),some (.obj .own 1 (encB p es pre c)),some (.imm (encE e)),s5,s6,s7,s8,s9]) rfl (f:=nmV 4) rfl
  simp only[y1o,y1l] at x2
  have tw:Tw (nxt p c e):=(Tw.fresh c).happen hw.fresh hee.1
  have q:=z6l (zhp tw)
  have step:bR [s0,s1,some (.obj .own 1 (encB p es pre c)),some (.obj .own 1 (encB p es pre c)),some (.imm (encE e)),s5,s6,s7,s8,s9] =
    some (.nx [s0,s1,some (.obj .own 1 (encB p (es++[e]) (pre++[c]) (nxt p c e))),some (.obj .own 1 (encB p (es++[e]) (pre++[c]) (nxt p c e))),some (.imm (encE e)),s5,s6,s7,s8,s9]):=by
   unfold bR iffX tstX op2X
   rw[x1]
   simp only[y0q]
   rw[x2]
   simp only[y0q,q,y1w,y20,if_false]
   rfl
  rw[y0e,forL]
  simp only[gNm,y1o,y1l,y0q,step]
  rw[ih,y2s,y2s]
  rfl
theorem znm {es:List Et} {pre:List Cs} {c:Cs} (hw:Wf p c) {n:Int} (hn:1<=n) (hl:es.length<10000) (hp:pre.length<10000) {ε:Ev} {i:Nat} {md:Md} (hm:md≠.ro) (h:ε[i]?=some (some (.obj md 1 (encB p es pre c)))) {f:Fe} (hf:f ε=some (.int n)) :
  z0t 1 z2l i [f] ε=some (.tuple ((nxt p c (.ticks n)).told.map z1c),ε.set i (some (.obj md 1 (encB p (es++[.ticks n]) (pre++[c]) (nxt p c (.ticks n)))))):=by
 have h1:objF 1 i ε=some (md,encB p es pre c):=by simp[objF,h]
 simp only[z0t,h1,y0q,if_neg hm,args,hf,y1w,y0e,y1c,ziu wp hw (show okE p (.ticks n) from hn) hl hp]
 rfl
def bT:Fs:=(asgX 8 (op2X oAdd (zeh (nmV 8)) (z0t 1 z2l 3 [(cst (.int 1))])))
theorem zsf (s0 s1 s2 s4 s5 s6 s7:Option Sl):∀(l:List T) (es:List Et) (pre:List Cs) (c:Cs) (ws:List (Int×Str×Option Str)) (s9:Option Sl),Wf p c->es.length+l.length<=5000->pre.length+l.length<=5000->ws.length+100*l.length<=100000 ->
  ∃s9',forL (gNm 9) bT l [s0,s1,s2,some (.obj .own 1 (encB p es pre c)),s4,s5,s6,s7,some (.imm (.tuple (ws.map z1c))),s9] =
   some (.nx [s0,s1,s2,some (.obj .own 1 (encB p (es++y0h l.length (.ticks 1)) (pre++chain p c (y0h l.length (.ticks 1))) (endS p c (y0h l.length (.ticks 1))))),s4,s5,s6,s7,some (.imm (.tuple ((ws++zmd p c (y0h l.length (.ticks 1))).map z1c))),s9'])
 | [],es,pre,c,ws,s9,_,_,_,_=>⟨s9,by simp[forL,Bo.chain,endS,zmd]⟩
 | t::l,es,pre,c,ws,s9,hw,h1,h2,h3=>by
  simp only[y0x] at h1 h2 h3
  have ok1:okE p (.ticks 1):=show (1:Int)<=1 by omega
  have tl:=za4 hw.fresh (.ticks 1)
  have z0:(fresh c).told.length=0:=rfl
  have tl':(nxt p c (.ticks 1)).told.length<=50:=by
   have:(nxt p c (.ticks 1)).told.length<=(fresh c).told.length+50:=tl
   omega
  obtain⟨s9',ih⟩:=zsf s0 s1 s2 s4 s5 s6 s7 l (es++[.ticks 1]) (pre++[c]) (nxt p c (.ticks 1)) (ws++(nxt p c (.ticks 1)).told) (some (.imm t)) (zlj hw ok1) (by simp only[y2a,y0x,y2o];omega) (by simp only[y2a,y0x,y2o];omega) (by simp only[y2a];omega)
  refine⟨s9',?_⟩
  have x1:=znm wp hw (n:=1) (by omega) (by omega) (by omega) (md:=.own) (by decide) (i:=3) (ε:=[s0,s1,s2,some (.obj .own 1 (encB p es pre c)),s4,s5,s6,s7,some (.imm (.tuple (ws.map z1c))),some (.imm t)]) rfl (f:=cst (.int 1)) rfl
  simp only[y1o,y1l] at x1
  have hb:ws.length+(nxt p c (.ticks 1)).told.length<=big:=by unfold big;omega
  have ad:oAdd (.tuple (ws.map z1c)) (.tuple ((nxt p c (.ticks 1)).told.map z1c))=some (.tuple ((ws++(nxt p c (.ticks 1)).told).map z1c)):=by
   simp[oAdd,List.map_append,hb]
  have step:bT [s0,s1,s2,some (.obj .own 1 (encB p es pre c)),s4,s5,s6,s7,some (.imm (.tuple (ws.map z1c))),some (.imm t)] =
    some (.nx [s0,s1,s2,some (.obj .own 1 (encB p (es++[.ticks 1]) (pre++[c]) (nxt p c (.ticks 1)))),s4,s5,s6,s7,some (.imm (.tuple ((ws++(nxt p c (.ticks 1)).told).map z1c))),some (.imm t)]):=by
   have e0:zeh (nmV 8) [s0,s1,s2,some (.obj .own 1 (encB p es pre c)),s4,s5,s6,s7,some (.imm (.tuple (ws.map z1c))),some (.imm t)]=some (.tuple (ws.map z1c),[s0,s1,s2,some (.obj .own 1 (encB p es pre c)),s4,s5,s6,s7,some (.imm (.tuple (ws.map z1c))),some (.imm t)]):=rfl
   unfold bT asgX op2X
   rw[e0]
   simp only[y0q]
   rw[x1]
   simp only[y0q,ad,y1w,y1o,y1l]
  rw[forL]
  simp only[gNm,y1o,y1l,y0q,step]
  rw[ih,y2s,y2s,y2s]
  rfl
omit wp in
theorem zsc {es:List Et} {pre:List Cs} {c:Cs} (e:Et) (c':Cs) {ε:Ev} {i:Nat} {md:Md} (hm:md≠.ro) (h:ε[i]?=some (some (.obj md 1 (encB p (es++[e]) (pre++[c]) c')))) :
  zh3 (z0t 1 z48 i []) ε=some (.tuple [.str "told",.none],ε.set i (some (.obj md 1 (encB p es pre c)))):=by
 have h1:objF 1 i ε=some (md,encB p (es++[e]) (pre++[c]) c'):=by simp[objF,h]
 simp only[zh3,z0t,h1,y0q,if_neg hm,args,y1w,y1c,zrx]
def tN:T:=.tuple [.str "told",.none]
omit wp in
theorem zsw:okN 1 tN:=z1r fun x hx=>by
 simp only[y09,y2j,or_false] at hx
 rcases hx with rfl|rfl
 ·exact z39 0 (z02 "told")
 ·exact zli 0
omit wp in
theorem zwo (ε:Ev):zeh (z0g [(cst (.str "told")),(cst .none)]) ε=some (tN,ε):=by
 have tb1:(2:Nat)<=big:=by unfold big;omega
 simp[zeh,z0g,args,cst,tb1,tN]
def bU:Fs:=(iffX (tstX (op2X oNe (zh3 (z0t 1 z48 3 [])) (zeh (z0g [(cst (.str "told")),(cst .none)])))) (rtn (cst (.bool false))) skip)
omit wp in
theorem zsd (es:List Et) (pre:List Cs) (c:Cs) (s0 s1 s2 s4 s5 s6 s7 s8:Option Sl):∀(l:List T) (evs:List Et) (s9:Option Sl),l.length=evs.length ->
  ∃s9',forL (gNm 9) bU l [s0,s1,s2,some (.obj .own 1 (encB p (es++evs) (pre++Bo.chain p c evs) (endS p c evs))),s4,s5,s6,s7,s8,s9] =
   some (.nx [s0,s1,s2,some (.obj .own 1 (encB p es pre c)),s4,s5,s6,s7,s8,s9'])
 | [],evs,s9,h=>by
  have:evs=[]:=List.length_eq_zero_iff.mp h.symm
  subst this
  exact⟨s9,by simp[forL,Bo.chain,endS]⟩
 | t::l,evs,s9,h=>by
  rcases List.eq_nil_or_concat evs with rfl|⟨evs',e,rfl⟩
  ·cases h
  rw[List.concat_eq_append] at h ⊢
  obtain⟨s9',ih⟩:=zsd es pre c s0 s1 s2 s4 s5 s6 s7 s8 l evs' (some (.imm t)) (by simpa using h)
  refine⟨s9',?_⟩
  have xu:=zsc (p:=p) (es:=es++evs') (pre:=pre++Bo.chain p c evs') (c:=endS p c evs') e (nxt p (endS p c evs') e) (md:=.own) (by decide) (i:=3) (ε:=[s0,s1,s2,some (.obj .own 1 (encB p ((es++evs')++[e]) ((pre++Bo.chain p c evs')++[endS p c evs']) (nxt p (endS p c evs') e))),s4,s5,s6,s7,s8,some (.imm t)]) rfl
  simp only[y1o,y1l] at xu
  have c1:Bo.chain p c (evs'++[e])=Bo.chain p c evs'++[endS p c evs']:=z6n p evs' [e] c
  have c2:endS p c (evs'++[e])=nxt p (endS p c evs') e:=zbg p evs' [e] c
  have q:=z6l zsw
  have step:bU [s0,s1,s2,some (.obj .own 1 (encB p ((es++evs')++[e]) ((pre++Bo.chain p c evs')++[endS p c evs']) (nxt p (endS p c evs') e))),s4,s5,s6,s7,s8,some (.imm t)] =
    some (.nx [s0,s1,s2,some (.obj .own 1 (encB p (es++evs') (pre++Bo.chain p c evs') (endS p c evs'))),s4,s5,s6,s7,s8,some (.imm t)]):=by
   unfold bU iffX tstX op2X
   rw[xu]
   simp only[y0q]
   rw[zwo]
   simp only[y0q]
   have q':oNe (.tuple [.str "told",.none]) tN=some (.bool false):=q
   rw[q']
   rfl
  rw[c1,c2,<- y2s,<- y2s,forL]
  simp only[gNm,y1o,y1l,y0q,step]
  exact ih
end
theorem zr5 (n:Nat):(y0h n (1:Int)).map Et.ticks=y0h n (.ticks 1):=by simp
theorem zlf:∀n:Nat,(y0h n (1:Int)).sum=(n:Int)
 | 0=>rfl
 | n+1=>by
  rw[y1y,List.sum_cons,zlf n]
  omega
theorem zl6 (p:Pl) (c:Cs) (h:zc7 c->1<=c.left) {n:Nat} (hn:1<=n):run p c (y0h n (.ticks 1))=run p c [.ticks (n:Int)]:=by
 have ne:y0h n (1:Int)≠[]:=by
  cases n with
  | zero=>omega
  | succ m=>simp[y1y]
 have:=zhe p (y0h n 1) c h (fun x hx=>by rw[List.eq_of_mem_replicate hx];omega) ne
 rw[zr5,zlf] at this
 rw[this]
 rfl
theorem zjf {p:Pl} {c d:Cs} (h:fresh c=fresh d):c.mode=d.mode/\c.left=d.left/\c.siren=d.siren/\c.lines=d.lines/\encS c=encS d/\z6q p c=z6q p d:=by
 have e1:(fresh c).mode=(fresh d).mode:=congrArg Cs.mode h
 have e2:(fresh c).left=(fresh d).left:=congrArg Cs.left h
 have e3:(fresh c).siren=(fresh d).siren:=congrArg Cs.siren h
 have e4:(fresh c).lines=(fresh d).lines:=congrArg Cs.lines h
 have e5:encS (fresh c)=encS (fresh d):=congrArg encS h
 have e6:c.lines=d.lines:=e4
 exact⟨e1,e2,e3,e4,e5,by unfold z6q;rw[e6]⟩
theorem zrz {p:Pl} (wp:Wp p) (zl:p.zones.length<=40):z34 [.obj .lent 1 [],.imm (encP p)]=some (.none,encB p [] [] (z19 p)):=by
 have eb:=zs1 p zl wp
 have tb1:(1:Nat)<=big:=by unfold big;omega
 have hs:z51 [some (.obj .lent 1 []),some (.imm (encP p))]=some (.nx [some (.obj .lent 1 (encB p [] [] (z19 p))),some (.imm (encP p))]):=by
  unfold z51
  refine z3h (ε':=[some (.obj .lent 1 [.imm (encP p)]),some (.imm (encP p))]) rfl ?_
  refine z3h (ε':=[some (.obj .lent 1 [.imm (encP p),.own []]),some (.imm (encP p))]) ?_ ?_
  ·simp[z8w,z5b,args,setF,objF]
  ·simp[z8w,z5b,args,setF,objF,opN,nmV,eb,tb1,encB]
 unfold z34 runM
 show Option.bind (z51 [some (.obj .lent 1 []),some (.imm (encP p))]) _=_
 rw[hs]
 simp[z56]
theorem zqn {j:Int} (h0:0<=j) (h1:j<=1000):z86 j=true:=by
 unfold z86
 simp
 omega
theorem zt3 {f:Fe} {ε:Ev} {j:Int} (h:f ε=some (.int j)) (h0:0<=j) (h1:j<=1000):z4k f ε=some (rng 0 j):=by
 unfold z4k
 rw[h]
 simp only[y0q]
 rw[if_pos (zqn h0 h1)]
theorem zh1 {a:Fe} {ε:Ev} {v:Bool} (h:a ε=some (.bool v)):tstB a ε=some v:=by
 unfold tstB
 rw[h]
 rfl
theorem zhr {o:T->T->Option T} {a b:Fe} {ε:Ev} {x y z:T} (ha:a ε=some x) (hb:b ε=some y) (h:o x y=some z):op2 o a b ε=some z:=by
 unfold op2
 rw[ha,hb]
 exact h
section
variable {p:Pl} {es:List Et} {pre:List Cs} {c:Cs} {ε:Ev} {i:Nat} {md:Md}
theorem r_m (d:List Sl->Option T) (h:ε[i]?=some (some (.obj md 1 (encB p es pre c)))):z2b 1 d i [] ε=d [.obj .ro 1 (encB p es pre c)]:=by
 have h1:objF 1 i ε=some (md,encB p es pre c):=by simp[objF,h]
 simp only[z2b,h1,y0q,args,y1c]
end
theorem zwj {p:Pl} {e:Et} (hz:∀z∈p.zones,okS z.1/\okS z.2) (h:okB p e):okN 1 (encE e):=by
 have zk:∀z,z∈p.zones.map (·.1)->okS z:=fun z hm=>by
  obtain⟨x,hx,rfl⟩:=y0n.mp hm
  exact (hz x hx).1
 cases e with
 | line z w =>
  have ow:okS w:=by rcases h.1.2 with q|q|q <;> (rw[q];exact z02 _)
  exact z1r fun x hx=>by
   simp only[y09,y2j,or_false] at hx
   rcases hx with rfl|rfl|rfl
   ·exact z39 0 (z02 "line")
   ·exact z39 0 (zk z h.1.1)
   ·exact z39 0 ow
 | code f d z =>
  have od:okS d:=by rcases h.1.2.1 with q|q|q|q <;> (rw[q];exact z02 _)
  exact z1r fun x hx=>by
   simp only[y09,y2j,or_false] at hx
   rcases hx with rfl|rfl|rfl|rfl
   ·exact z39 0 (z02 "code")
   ·exact z39 0 h.1.1
   ·exact z39 0 od
   ·exact zlh 0 fun y hy=>zk y (h.2 y hy)
 | ticks n =>
  exact z1r fun x hx=>by
   simp only[y09,y2j,or_false] at hx
   rcases hx with rfl|rfl
   ·exact z39 0 (z02 "ticks")
   ·exact z9z 0 n
theorem zrg (ns:List Int) (h:ns.length<=63):zmy [z0l ns]=some (.bool true):=by
 obtain⟨m0,hm0,x0⟩:=zgi ns 0
 obtain⟨m1,hm1,x1⟩:=zgi ns 1
 obtain⟨m2,hm2,x2⟩:=zgi ns 2
 obtain⟨p,hp,xp⟩:=zu0 m0
 obtain⟨es,hes0,hel,xr⟩:=zvp hp m1 10 hm1 (by decide)
 have hes:∀e∈es,okB p e:=fun e he=>DE.okB (hes0 e he)
 have wp:=hp.wp
 have wb:=hp.begun
 have zl:=hp.zl
 have xi:=zrz wp (by omega)
 obtain⟨r2,_,r20,r21,y2⟩:=modQ m2 130
 have we:=zpm wb fun e he=>(hes e he).1
 have hh:=zgn p es (z19 p)
 have cl:=zil p es (z19 p)
 obtain⟨t4,xR⟩:=zsm wp (some (.imm (z0l ns))) (some (.imm (encP p))) none none none none none es [] [] (z19 p) none wb hes (by simp;omega) (by simp;omega)
 simp only[y2t] at xR
 have fb:fresh (z19 p)=z19 p:=rfl
 have iv:=Iv.run hp (es:=es) (Iv.begun p)
 have fe:=zdx p es (z19 p)
 rw[fb] at fe
 have whh:Wf p (heC (Bo.chain p (z19 p) es) (endS p (z19 p) es)):=by rw[hh];exact wb
 generalize hpre:Bo.chain p (z19 p) es=pre at xR cl whh hh
 generalize hc:endS p (z19 p) es=c at xR we fe whh hh
 obtain⟨n,hn⟩:∃n:Nat,1+r2=(n:Int):=⟨(1+r2).toNat,by omega⟩
 have n1:1<=n:=by omega
 have n2:n<=130:=by omega
 have tc:zc7 (fresh c)->1<=(fresh c).left:=by
  rw[fe]
  exact fun t=>(iv.t1 t).1
 have ro:=zl6 p (fresh c) tc n1
 have eq1:run p (fresh c) [.ticks (n:Int)]=nxt p c (.ticks (n:Int)):=rfl
 have fE:fresh (endS p c (y0h n (.ticks 1)))=fresh (nxt p c (.ticks (n:Int))):=by
  rw[zdx,ro,eq1]
 have sE:(zmd p c (y0h n (.ticks 1))).map z1c=(nxt p c (.ticks (n:Int))).told.map z1c:=by
  refine zuw ?_
  rw[zl4,ro,eq1]
 have okn:okE p (.ticks (n:Int)):=show (1:Int)<=(n:Int) by omega
 have wn:=zlj we okn
 have wr:Wf p (endS p c (y0h n (.ticks 1))):=zpm we fun e he=>by
  rw[List.eq_of_mem_replicate he]
  exact show (1:Int)<=1 by omega
 obtain⟨f1,f2,f3,f4,f5,f6⟩:=zjf (p:=p) fE
 have lE:run p (z19 p) (es++y0h n (.ticks 1))=run p (z19 p) (es++[.ticks (n:Int)]):=by
  rw[zf0,zf0]
  exact zl6 p _ (fun t=>(iv.t1 t).1) n1
 have tw:Tw (nxt p c (.ticks (n:Int))):=(Tw.fresh c).happen we.fresh okn
 have x0':z3c [z0l ns,.int 0]=some (.int m0):=x0
 have x1':z3c [z0l ns,.int 1]=some (.int m1):=x1
 have x2':z3c [z0l ns,.int 2]=some (.int m2):=x2
 have hel':es.length<=10:=by omega
 suffices hs:zv5 [some (.imm (z0l ns)),none,none,none,none,none,none,none,none,none]=some (.rt (.bool true)) by
  unfold zmy runF
  simp only[y0e,y1c,y0x,y2o,y2u,y2t]
  exact congrArg (fun o=>Option.bind o _) hs
 unfold zv5
 refine z7s (t:=encP p) (by simp only[opN,args,nmV,cst,y2l,y0q,y1w,x0',xp]) ?_
 simp only[y1o,y1l]
 refine z3h (ε':=[some (.imm (z0l ns)),some (.imm (encP p)),some (.obj .own 1 (encB p [] [] (z19 p))),some (.obj .own 1 (encB p [] [] (z19 p))),none,none,none,none,none,none]) ?_ ?_
 ·simp only[parO,newO,args,nmV,y2m,y2l,y0q,y1w,y0e,y1c,xi,y1o,y1l]
 refine z3h (ε':=[some (.imm (z0l ns)),some (.imm (encP p)),some (.obj .own 1 (encB p es pre c)),some (.obj .own 1 (encB p es pre c)),t4,none,none,none,none,none]) ?_ ?_
 ·have it:z4d (opN zbi [(nmV 1),(opN z3c [(nmV 0),(cst (.int 1))]),(cst (.int 10))]) [some (.imm (z0l ns)),some (.imm (encP p)),some (.obj .own 1 (encB p [] [] (z19 p))),some (.obj .own 1 (encB p [] [] (z19 p))),none,none,none,none,none,none]=some (es.map encE):=by
   simp only[z4d,opN,args,nmV,cst,y2m,y2l,y0q,y1w,x1',xr]
  show for_ _ (gNm 4) bR _=_
  unfold for_
  rw[it]
  exact xR
 refine z7s (t:=encS c) (z8j (i:=2) (md:=.own) (p:=p) (es:=es) (pre:=pre) rfl) ?_
 simp only[y1o,y1l]
 refine z7s (t:=.int (n:Int)) (by
  simp only[op2,opN,args,nmV,cst,y2m,y2l,y0q,y1w,x2',y2,z78,hn]) ?_
 simp only[y1o,y1l]
 refine z3h (ε':=[some (.imm (z0l ns)),some (.imm (encP p)),some (.obj .own 1 (encB p (es++[.ticks (n:Int)]) (pre++[c]) (nxt p c (.ticks (n:Int))))),some (.obj .own 1 (encB p es pre c)),t4,some (.imm (encS c)),some (.imm (.int (n:Int))),some (.imm (.tuple ((nxt p c (.ticks (n:Int))).told.map z1c))),none,none]) ?_ ?_
 ·have xt:=znm wp we (n:=(n:Int)) (by omega) (es:=es) (pre:=pre) (by omega) (by omega) (md:=.own) (by decide) (i:=2) (ε:=[some (.imm (z0l ns)),some (.imm (encP p)),some (.obj .own 1 (encB p es pre c)),some (.obj .own 1 (encB p es pre c)),t4,some (.imm (encS c)),some (.imm (.int (n:Int))),none,none,none]) rfl (f:=nmV 6) rfl
  simp only[y1o,y1l] at xt
  unfold asgX
  rw[xt]
  rfl
 refine z7s (t:=.tuple []) (by simp[z0g,args]) ?_
 simp only[y1o,y1l]
 have lr:((List.range n).map fun (k:Nat)=>PyData.int (k:Int)).length=n:=by simp
 have rg:rng 0 (n:Int)=(List.range n).map fun (k:Nat)=>PyData.int (k:Int):=by
  unfold rng
  simp
 obtain⟨t9,xT⟩:=zsf wp (some (.imm (z0l ns))) (some (.imm (encP p))) (some (.obj .own 1 (encB p (es++[.ticks (n:Int)]) (pre++[c]) (nxt p c (.ticks (n:Int)))))) t4 (some (.imm (encS c))) (some (.imm (.int (n:Int)))) (some (.imm (.tuple ((nxt p c (.ticks (n:Int))).told.map z1c)))) ((List.range n).map fun (k:Nat)=>PyData.int (k:Int)) es pre c [] none we (by rw[lr];omega) (by rw[lr];omega) (by rw[lr];simp;omega)
 rw[lr] at xT
 simp only[y2t,sE] at xT
 refine z3h (ε':=[some (.imm (z0l ns)),some (.imm (encP p)),some (.obj .own 1 (encB p (es++[.ticks (n:Int)]) (pre++[c]) (nxt p c (.ticks (n:Int))))),some (.obj .own 1 (encB p (es++y0h n (.ticks 1)) (pre++Bo.chain p c (y0h n (.ticks 1))) (endS p c (y0h n (.ticks 1))))),t4,some (.imm (encS c)),some (.imm (.int (n:Int))),some (.imm (.tuple ((nxt p c (.ticks (n:Int))).told.map z1c))),some (.imm (.tuple ((nxt p c (.ticks (n:Int))).told.map z1c))),t9]) ?_ ?_
 ·have it:z4k (nm 6) [some (.imm (z0l ns)),some (.imm (encP p)),some (.obj .own 1 (encB p (es++[.ticks (n:Int)]) (pre++[c]) (nxt p c (.ticks (n:Int))))),some (.obj .own 1 (encB p es pre c)),t4,some (.imm (encS c)),some (.imm (.int (n:Int))),some (.imm (.tuple ((nxt p c (.ticks (n:Int))).told.map z1c))),some (.imm (.tuple [])),none]=some ((List.range n).map fun (k:Nat)=>PyData.int (k:Int)):=by
   rw[<- rg]
   exact zt3 rfl (by omega) (by omega)
  show for_ _ (gNm 9) bT _=_
  unfold for_
  rw[it]
  exact xT
 have hB2:heC (pre++[c]) (nxt p c (.ticks (n:Int)))=z19 p:=by
  have:=zgn p (es++[.ticks (n:Int)]) (z19 p)
  rw[z6n,zbg,hpre,hc] at this
  exact this
 have hB3:heC (pre++Bo.chain p c (y0h n (.ticks 1))) (endS p c (y0h n (.ticks 1)))=z19 p:=by
  have:=zgn p (es++y0h n (.ticks 1)) (z19 p)
  rw[z6n,zbg,hpre,hc] at this
  exact this
 have ok2:∀e∈es++[.ticks (n:Int)],okE p e:=fun e he=>by
  rcases y13.mp he with q|q
  ·exact (hes e q).1
  ·rw[y11.mp q]
   exact okn
 have ok3:∀e∈es++y0h n (.ticks 1),okE p e:=fun e he=>by
  rcases y13.mp he with q|q
  ·exact (hes e q).1
  ·rw[List.eq_of_mem_replicate q]
   exact show (1:Int)<=1 by omega
 have g2:z2s [.obj .ro 1 (encB p (es++[.ticks (n:Int)]) (pre++[c]) (nxt p c (.ticks (n:Int))))]=some (.tuple ((run p (z19 p) (es++[.ticks (n:Int)])).told.map encW)):=by
  have:=zkj (p:=p) (es:=es++[.ticks (n:Int)]) (pre:=pre++[c]) (c:=nxt p c (.ticks (n:Int))) wp (by rw[hB2];exact wb) ok2 (by simp;omega)
  rw[hB2] at this
  exact this
 have g3:z2s [.obj .ro 1 (encB p (es++y0h n (.ticks 1)) (pre++Bo.chain p c (y0h n (.ticks 1))) (endS p c (y0h n (.ticks 1))))]=some (.tuple ((run p (z19 p) (es++[.ticks (n:Int)])).told.map encW)):=by
  have:=zkj (p:=p) (es:=es++y0h n (.ticks 1)) (pre:=pre++Bo.chain p c (y0h n (.ticks 1))) (c:=endS p c (y0h n (.ticks 1))) wp (by rw[hB3];exact wb) ok3 (by simp;omega)
  rw[hB3,fb,lE] at this
  exact this
 have gl:=zlg (Tw.run (Tw.fresh (z19 p)) wb.fresh ok2)
 rw[fb] at gl
 have sh2:=ziv (p:=p) (es:=es++[.ticks (n:Int)]) (pre:=pre++[c]) wn
 have sh3:=ziv (p:=p) (es:=es++y0h n (.ticks 1)) (pre:=pre++Bo.chain p c (y0h n (.ticks 1))) wr
 rw[f1,f3,f6] at sh3
 have or_ff:∀{a b:Ft} {ε:Ev},a ε=some false->b ε=some false->orT a b ε=some false:=fun {a b ε} ha hb=>by
  unfold orT
  rw[ha]
  exact hb
 refine zln ?_ ?_
 ·refine or_ff (zh1 (zhr rfl rfl (z6l (zhp tw)))) (or_ff (zh1 (zhr (z8j (i:=2) (md:=.own) rfl) (z8j (i:=3) (md:=.own) rfl) ?_)) (or_ff (zh1 (zhr ((r_m (i:=2) (md:=.own) _ rfl).trans g2) ((r_m (i:=3) (md:=.own) _ rfl).trans g3) (z6l gl))) (zh1 (zhr ((r_m (i:=2) (md:=.own) _ rfl).trans sh2) ((r_m (i:=3) (md:=.own) _ rfl).trans sh3) (z6l (zom 0 wn _))))))
  rw[f5]
  exact z6l (zgf wn)
 refine z3h (ε':=[some (.imm (z0l ns)),some (.imm (encP p)),some (.obj .own 1 (encB p es pre c)),some (.obj .own 1 (encB p (es++y0h n (.ticks 1)) (pre++Bo.chain p c (y0h n (.ticks 1))) (endS p c (y0h n (.ticks 1))))),t4,some (.imm (encS c)),some (.imm (.int (n:Int))),some (.imm (.tuple ((nxt p c (.ticks (n:Int))).told.map z1c))),some (.imm (.tuple ((nxt p c (.ticks (n:Int))).told.map z1c))),t9]) ?_ ?_
 ·have xu:=zsc (p:=p) (es:=es) (pre:=pre) (c:=c) (.ticks (n:Int)) (nxt p c (.ticks (n:Int))) (md:=.own) (by decide) (i:=2) (ε:=[some (.imm (z0l ns)),some (.imm (encP p)),some (.obj .own 1 (encB p (es++[.ticks (n:Int)]) (pre++[c]) (nxt p c (.ticks (n:Int))))),some (.obj .own 1 (encB p (es++y0h n (.ticks 1)) (pre++Bo.chain p c (y0h n (.ticks 1))) (endS p c (y0h n (.ticks 1))))),t4,some (.imm (encS c)),some (.imm (.int (n:Int))),some (.imm (.tuple ((nxt p c (.ticks (n:Int))).told.map z1c))),some (.imm (.tuple ((nxt p c (.ticks (n:Int))).told.map z1c))),t9]) rfl
  simp only[y1o,y1l] at xu
  have q:oNe (.tuple [.str "told",.none]) tN=some (.bool false):=z6l zsw
  have q2:tstB (op2 oNe (z2b 1 z0s 2 []) (nm 5)) [some (.imm (z0l ns)),some (.imm (encP p)),some (.obj .own 1 (encB p es pre c)),some (.obj .own 1 (encB p (es++y0h n (.ticks 1)) (pre++Bo.chain p c (y0h n (.ticks 1))) (endS p c (y0h n (.ticks 1))))),t4,some (.imm (encS c)),some (.imm (.int (n:Int))),some (.imm (.tuple ((nxt p c (.ticks (n:Int))).told.map z1c))),some (.imm (.tuple ((nxt p c (.ticks (n:Int))).told.map z1c))),t9]=some false:=zh1 (zhr (z8j (i:=2) (md:=.own) rfl) rfl (z6l (zgf we)))
  unfold iffX orX tstX op2X
  rw[xu]
  simp only[y0q]
  rw[zwo]
  simp only[y0q,q,y1w,y20,if_false]
  unfold zr0
  rw[q2]
  rfl
 obtain⟨u9,xU⟩:=zsd (p:=p) es pre c (some (.imm (z0l ns))) (some (.imm (encP p))) (some (.obj .own 1 (encB p es pre c))) t4 (some (.imm (encS c))) (some (.imm (.int (n:Int)))) (some (.imm (.tuple ((nxt p c (.ticks (n:Int))).told.map z1c)))) (some (.imm (.tuple ((nxt p c (.ticks (n:Int))).told.map z1c)))) ((List.range n).map fun (k:Nat)=>PyData.int (k:Int)) (y0h n (.ticks 1)) t9 (by simp)
 refine z3h (ε':=[some (.imm (z0l ns)),some (.imm (encP p)),some (.obj .own 1 (encB p es pre c)),some (.obj .own 1 (encB p es pre c)),t4,some (.imm (encS c)),some (.imm (.int (n:Int))),some (.imm (.tuple ((nxt p c (.ticks (n:Int))).told.map z1c))),some (.imm (.tuple ((nxt p c (.ticks (n:Int))).told.map z1c))),u9]) ?_ ?_
 ·have it:z4k (nm 6) [some (.imm (z0l ns)),some (.imm (encP p)),some (.obj .own 1 (encB p es pre c)),some (.obj .own 1 (encB p (es++y0h n (.ticks 1)) (pre++Bo.chain p c (y0h n (.ticks 1))) (endS p c (y0h n (.ticks 1))))),t4,some (.imm (encS c)),some (.imm (.int (n:Int))),some (.imm (.tuple ((nxt p c (.ticks (n:Int))).told.map z1c))),some (.imm (.tuple ((nxt p c (.ticks (n:Int))).told.map z1c))),t9]=some ((List.range n).map fun (k:Nat)=>PyData.int (k:Int)):=by
   rw[<- rg]
   exact zt3 rfl (by omega) (by omega)
  show for_ _ (gNm 9) bU _=_
  unfold for_
  rw[it]
  exact xU
 have hb0:heC pre c=z19 p:=hh
 have lg:z2s [.obj .ro 1 (encB p es pre c)]=some (.tuple ((run p (z19 p) es).told.map encW)):=by
  have:=zkj (p:=p) (es:=es) (pre:=pre) (c:=c) wp (by rw[hb0];exact wb) (fun e he=>(hes e he).1) (by omega)
  rw[hb0,fb] at this
  exact this
 have gl0:=zlg (Tw.run (Tw.fresh (z19 p)) wb.fresh fun e he=>(hes e he).1)
 rw[fb] at gl0
 have rw0:=zpz (p:=p) (es:=es) (pre:=pre) (c:=c) (by omega)
 have okr:okN 2 (.tuple (es.map encE)):=z1r fun x hx=>by
  obtain⟨e,he,rfl⟩:=y0n.mp hx
  exact zwj wb.zn (hes e he)
 have v1:op2 oEq (z2b 1 z0s 3 []) (nm 5) [some (.imm (z0l ns)),some (.imm (encP p)),some (.obj .own 1 (encB p es pre c)),some (.obj .own 1 (encB p es pre c)),t4,some (.imm (encS c)),some (.imm (.int (n:Int))),some (.imm (.tuple ((nxt p c (.ticks (n:Int))).told.map z1c))),some (.imm (.tuple ((nxt p c (.ticks (n:Int))).told.map z1c))),u9]=some (.bool true):=zhr (z8j (i:=3) (md:=.own) rfl) rfl (zgg (zgf we))
 have v2:op2 oEq (z2b 1 z2s 3 []) (z2b 1 z2s 2 []) [some (.imm (z0l ns)),some (.imm (encP p)),some (.obj .own 1 (encB p es pre c)),some (.obj .own 1 (encB p es pre c)),t4,some (.imm (encS c)),some (.imm (.int (n:Int))),some (.imm (.tuple ((nxt p c (.ticks (n:Int))).told.map z1c))),some (.imm (.tuple ((nxt p c (.ticks (n:Int))).told.map z1c))),u9]=some (.bool true):=zhr ((r_m (i:=3) (md:=.own) _ rfl).trans lg) ((r_m (i:=2) (md:=.own) _ rfl).trans lg) (zgg gl0)
 have v3:op2 oEq (z2b 1 z3p 3 []) (z2b 1 z3p 2 []) [some (.imm (z0l ns)),some (.imm (encP p)),some (.obj .own 1 (encB p es pre c)),some (.obj .own 1 (encB p es pre c)),t4,some (.imm (encS c)),some (.imm (.int (n:Int))),some (.imm (.tuple ((nxt p c (.ticks (n:Int))).told.map z1c))),some (.imm (.tuple ((nxt p c (.ticks (n:Int))).told.map z1c))),u9]=some (.bool true):=zhr ((r_m (i:=3) (md:=.own) _ rfl).trans rw0) ((r_m (i:=2) (md:=.own) _ rfl).trans rw0) (zgg okr)
 unfold rtn andV
 rw[v1]
 simp only[y0q]
 rw[v2]
 simp only[y0q]
 rw[v3]
 rfl
end K43
end
end
section
namespace K43
open PySem PySem.Spec PyProof.Rows L2 D Co Bo
theorem all_mk {l:PySem.W.OpenLaw} {w:World} {K:y00} {h:Heap} {mg:Str->Option Value} {fa CCourse CBox f1 f2 f3 f4 f5 f6 f7 f8 f9 f10 f11 f12 f13 f14 f15 f16 f17 f18 f19 f20 f21 f22 f23 f24 f25 f26 f27 f28 f29 f30 f31 f32 f33 f34 f35 f36 f37 f38 f39 f40 f42 f43 f44 f45 f46 f47 f48 f49 f50 f51 f52 f53 f54 a_KINDS_SHUT_TO_SET a_KINDS_LEFT_BY a_DEEDS_OF_ZONES cL:Addr} {od1 an1 od2 an2 od3 an3 od4 an4 od5 an5 od6 an6 od7 an7 od8 an8 od9 an9 od10 an10 od11 an11 od12 an12 od13 an13 od14 an14 od15 an15 od16 an16 od17 an17 od18 an18 od19 an19 od20 an20 od21 an21 od22 an22 od23 an23 od24 an24 od25 an25 od26 an26 od27 an27 od28 an28 od29 an29 od30 an30 od31 an31 od32 an32 od33 an33 od34 an34 od35 an35 od36 an36 od37 an37 od38 an38 od39 an39 od40 an40 od42 an42 od43 an43 od44 an44 od45 an45 od46 an46 od47 an47 od48 an48 od49 an49 od50 an50 od51 an51 od52 an52 od53 an53 od54 an54 od_KINDS_SHUT_TO_SET od_KINDS_LEFT_BY od_DEEDS_OF_ZONES:Option Addr} {sl1 sl2 sl3 sl4 sl5 sl6 sl7 sl8 sl9 sl10 sl11 sl12 sl13 sl14 sl15 sl16 sl17 sl18 sl19 sl20 sl21 sl22 sl23 sl24 sl25 sl26 sl27 sl28 sl29 sl30 sl31 sl32 sl33 sl34 sl35 sl36 sl37 sl38 sl39 sl40 sl42 sl43 sl44 sl45 sl46 sl47 sl48 sl49 sl50 sl51 sl52 sl53 sl54 sl_KINDS_SHUT_TO_SET sl_KINDS_LEFT_BY sl_DEEDS_OF_ZONES:Array (Option Value)} {oc1 kV1 dc1 pm1 cd1 ct1 oc2 kV2 dc2 pm2 cd2 ct2 oc3 kV3 dc3 pm3 cd3 ct3 oc4 kV4 dc4 pm4 cd4 ct4 oc5 kV5 dc5 pm5 cd5 ct5 oc6 kV6 dc6 pm6 cd6 ct6 oc7 kV7 dc7 pm7 cd7 ct7 oc8 kV8 dc8 pm8 cd8 ct8 oc9 kV9 dc9 pm9 cd9 ct9 oc10 kV10 dc10 pm10 cd10 ct10 oc11 kV11 dc11 pm11 cd11 ct11 oc12 kV12 dc12 pm12 cd12 ct12 oc13 kV13 dc13 pm13 cd13 ct13 oc14 kV14 dc14 pm14 cd14 ct14 oc15 kV15 dc15 pm15 cd15 ct15 oc16 kV16 dc16 pm16 cd16 ct16 oc17 kV17 dc17 pm17 cd17 ct17 oc18 kV18 dc18 pm18 cd18 ct18 oc19 kV19 dc19 pm19 cd19 ct19 oc20 kV20 dc20 pm20 cd20 ct20 oc21 kV21 dc21 pm21 cd21 ct21 oc22 kV22 dc22 pm22 cd22 ct22 oc23 kV23 dc23 pm23 cd23 ct23 oc24 kV24 dc24 pm24 cd24 ct24 oc25 kV25 dc25 pm25 cd25 ct25 oc26 kV26 dc26 pm26 cd26 ct26 oc27 kV27 dc27 pm27 cd27 ct27 oc28 kV28 dc28 pm28 cd28 ct28 oc29 kV29 dc29 pm29 cd29 ct29 oc30 kV30 dc30 pm30 cd30 ct30 oc31 kV31 dc31 pm31 cd31 ct31 oc32 kV32 dc32 pm32 cd32 ct32 oc33 kV33 dc33 pm33 cd33 ct33 oc34 kV34 dc34 pm34 cd34 ct34 oc35 kV35 dc35 pm35 cd35 ct35 oc36 kV36 dc36 pm36 cd36 ct36 oc37 kV37 dc37 pm37 cd37 ct37 oc38 kV38 dc38 pm38 cd38 ct38 oc39 kV39 dc39 pm39 cd39 ct39 oc40 kV40 dc40 pm40 cd40 ct40 oc42 kV42 dc42 pm42 cd42 ct42 oc43 kV43 dc43 pm43 cd43 ct43 oc44 kV44 dc44 pm44 cd44 ct44 oc45 kV45 dc45 pm45 cd45 ct45 oc46 kV46 dc46 pm46 cd46 ct46 oc47 kV47 dc47 pm47 cd47 ct47 oc48 kV48 dc48 pm48 cd48 ct48 oc49 kV49 dc49 pm49 cd49 ct49 oc50 kV50 dc50 pm50 cd50 ct50 oc51 kV51 dc51 pm51 cd51 ct51 oc52 kV52 dc52 pm52 cd52 ct52 oc53 kV53 dc53 pm53 cd53 ct53 oc54 kV54 dc54 pm54 ct54:Value} {t_WRONG_IN_A_ROW t_TICKS_LOCKED t_KINDS_SHUT_TO_SET0 t_KINDS_SHUT_TO_SET1 t_KINDS_LEFT_BY0 t_KINDS_LEFT_BY1 t_DEEDS_OF_ZONES0 t_DEEDS_OF_ZONES1:Tok} {n_KINDS_SHUT_TO_SET n_KINDS_LEFT_BY n_DEEDS_OF_ZONES:Nat} (X:K.In h) (G:h.Ns y0o mg) (hfa:mg "law"=some (.ref fa))
  (aCCourse:y0t K y0o "Course"=some (some (.ref CCourse)))
  (pgCourse:PySem.W.plainGet K CCourse Str.empty=true)
  (hdCourse:PySem.W.hasDictIn K CCourse=true)
  (poCourse:PySem.W.plainOver K CCourse=true)
  (saCourse:y0d K (.ref CCourse) "__setattr__"=some (some (.builtin "object.__setattr__")))
  (mkCourse:PySem.W.makesIn K CCourse=true)
  (kpCourse:y08 K (.ref CCourse)=true)
  (naCourse0:y0d K (.ref CCourse) "plan"=some none)
  (naCourse1:y0d K (.ref CCourse) "mode"=some none)
  (naCourse2:y0d K (.ref CCourse) "left"=some none)
  (naCourse3:y0d K (.ref CCourse) "came"=some none)
  (naCourse4:y0d K (.ref CCourse) "lines"=some none)
  (naCourse5:y0d K (.ref CCourse) "shunts"=some none)
  (naCourse6:y0d K (.ref CCourse) "siren"=some none)
  (naCourse7:y0d K (.ref CCourse) "alarms"=some none)
  (naCourse8:y0d K (.ref CCourse) "tries"=some none)
  (naCourse9:y0d K (.ref CCourse) "locked"=some none)
  (naCourse10:y0d K (.ref CCourse) "used"=some none)
  (naCourse11:y0d K (.ref CCourse) "past"=some none)
  (naCourse12:y0d K (.ref CCourse) "told"=some none)
  (aCBox:y0t K y0o "Box"=some (some (.ref CBox)))
  (pgBox:PySem.W.plainGet K CBox Str.empty=true)
  (hdBox:PySem.W.hasDictIn K CBox=true)
  (poBox:PySem.W.plainOver K CBox=true)
  (saBox:y0d K (.ref CBox) "__setattr__"=some (some (.builtin "object.__setattr__")))
  (mkBox:PySem.W.makesIn K CBox=true)
  (kpBox:y08 K (.ref CBox)=true)
  (naBox0:y0d K (.ref CBox) "plan"=some none)
  (naBox1:y0d K (.ref CBox) "events"=some none)
  (naBox2:y0d K (.ref CBox) "states"=some none)
  (a1:y0t K y0o "kind_of"=some (some (.ref f1)))
  (l1:K.lookup f1=some ⟨oc1,od1,.func (y0j "kind_of" "kind_of" (z09 z5v) (z06 z5v) (z01 z5v) .none kV1 dc1 pm1 an1 cd1 ct1),sl1⟩)
  (c1:y0g K cd1 "kind_of"=true)
  (k1:y08 K (.ref f1)=true)
  (a2:y0t K y0o "begun"=some (some (.ref f2)))
  (l2:K.lookup f2=some ⟨oc2,od2,.func (y0j "begun" "begun" (z09 z7a) (z06 z7a) (z01 z7a) .none kV2 dc2 pm2 an2 cd2 ct2),sl2⟩)
  (c2:y0g K cd2 "begun"=true)
  (k2:y08 K (.ref f2)=true)
  (a3:y0t K y0o "code_of"=some (some (.ref f3)))
  (l3:K.lookup f3=some ⟨oc3,od3,.func (y0j "code_of" "code_of" (z09 z5w) (z06 z5w) (z01 z5w) .none kV3 dc3 pm3 an3 cd3 ct3),sl3⟩)
  (c3:y0g K cd3 "code_of"=true)
  (k3:y08 K (.ref f3)=true)
  (a4:y0t K y0o "lessened"=some (some (.ref f4)))
  (l4:K.lookup f4=some ⟨oc4,od4,.func (y0j "lessened" "lessened" (z09 z4l) (z06 z4l) (z01 z4l) .none kV4 dc4 pm4 an4 cd4 ct4),sl4⟩)
  (c4:y0g K cd4 "lessened"=true)
  (k4:y08 K (.ref f4)=true)
  (a5:y0d K (.ref CCourse) "__init__"=some (some (.ref f5)))
  (i5:y0z K (.ref f5)=true)
  (l5:K.lookup f5=some ⟨oc5,od5,.func (y0j "__init__" "Course.__init__" (z09 z0u) (z06 z0u) (z01 z0u) .none kV5 dc5 pm5 an5 cd5 ct5),sl5⟩)
  (c5:y0g K cd5 "Course.__init__"=true)
  (k5:y08 K (.ref f5)=true)
  (a6:y0d K (.ref CCourse) "state"=some (some (.ref f6)))
  (i6:y0z K (.ref f6)=true)
  (l6:K.lookup f6=some ⟨oc6,od6,.func (y0j "state" "Course.state" (z09 z2h) (z06 z2h) (z01 z2h) .none kV6 dc6 pm6 an6 cd6 ct6),sl6⟩)
  (c6:y0g K cd6 "Course.state"=true)
  (k6:y08 K (.ref f6)=true)
  (a7:y0d K (.ref CCourse) "tell"=some (some (.ref f7)))
  (i7:y0z K (.ref f7)=true)
  (l7:K.lookup f7=some ⟨oc7,od7,.func (y0j "tell" "Course.tell" (z09 z2v) (z06 z2v) (z01 z2v) .none kV7 dc7 pm7 an7 cd7 ct7),sl7⟩)
  (c7:y0g K cd7 "Course.tell"=true)
  (k7:y08 K (.ref f7)=true)
  (a8:y0d K (.ref CCourse) "be_loud"=some (some (.ref f8)))
  (i8:y0z K (.ref f8)=true)
  (l8:K.lookup f8=some ⟨oc8,od8,.func (y0j "be_loud" "Course.be_loud" (z09 z1n) (z06 z1n) (z01 z1n) .none kV8 dc8 pm8 an8 cd8 ct8),sl8⟩)
  (c8:y0g K cd8 "Course.be_loud"=true)
  (k8:y08 K (.ref f8)=true)
  (a9:y0d K (.ref CCourse) "alarm"=some (some (.ref f9)))
  (i9:y0z K (.ref f9)=true)
  (l9:K.lookup f9=some ⟨oc9,od9,.func (y0j "alarm" "Course.alarm" (z09 z2i) (z06 z2i) (z01 z2i) .none kV9 dc9 pm9 an9 cd9 ct9),sl9⟩)
  (c9:y0g K cd9 "Course.alarm"=true)
  (k9:y08 K (.ref f9)=true)
  (a10:y0d K (.ref CCourse) "come_in"=some (some (.ref f10)))
  (i10:y0z K (.ref f10)=true)
  (l10:K.lookup f10=some ⟨oc10,od10,.func (y0j "come_in" "Course.come_in" (z09 z1m) (z06 z1m) (z01 z1m) .none kV10 dc10 pm10 an10 cd10 ct10),sl10⟩)
  (c10:y0g K cd10 "Course.come_in"=true)
  (k10:y08 K (.ref f10)=true)
  (a11:y0d K (.ref CCourse) "disturb"=some (some (.ref f11)))
  (i11:y0z K (.ref f11)=true)
  (l11:K.lookup f11=some ⟨oc11,od11,.func (y0j "disturb" "Course.disturb" (z09 z1l) (z06 z1l) (z01 z1l) .none kV11 dc11 pm11 an11 cd11 ct11),sl11⟩)
  (c11:y0g K cd11 "Course.disturb"=true)
  (k11:y08 K (.ref f11)=true)
  (a12:y0d K (.ref CCourse) "line"=some (some (.ref f12)))
  (i12:y0z K (.ref f12)=true)
  (l12:K.lookup f12=some ⟨oc12,od12,.func (y0j "line" "Course.line" (z09 z2w) (z06 z2w) (z01 z2w) .none kV12 dc12 pm12 an12 cd12 ct12),sl12⟩)
  (c12:y0g K cd12 "Course.line"=true)
  (k12:y08 K (.ref f12)=true)
  (a13:y0d K (.ref CCourse) "is_used_up"=some (some (.ref f13)))
  (i13:y0z K (.ref f13)=true)
  (l13:K.lookup f13=some ⟨oc13,od13,.func (y0j "is_used_up" "Course.is_used_up" (z09 z11) (z06 z11) (z01 z11) .none kV13 dc13 pm13 an13 cd13 ct13),sl13⟩)
  (c13:y0g K cd13 "Course.is_used_up"=true)
  (k13:y08 K (.ref f13)=true)
  (a14:y0d K (.ref CCourse) "take_wrong"=some (some (.ref f14)))
  (i14:y0z K (.ref f14)=true)
  (l14:K.lookup f14=some ⟨oc14,od14,.func (y0j "take_wrong" "Course.take_wrong" (z09 z0z) (z06 z0z) (z01 z0z) .none kV14 dc14 pm14 an14 cd14 ct14),sl14⟩)
  (c14:y0g K cd14 "Course.take_wrong"=true)
  (k14:y08 K (.ref f14)=true)
  (a15:y0d K (.ref CCourse) "is_untimely"=some (some (.ref f15)))
  (i15:y0z K (.ref f15)=true)
  (l15:K.lookup f15=some ⟨oc15,od15,.func (y0j "is_untimely" "Course.is_untimely" (z09 z0v) (z06 z0v) (z01 z0v) .none kV15 dc15 pm15 an15 cd15 ct15),sl15⟩)
  (c15:y0g K cd15 "Course.is_untimely"=true)
  (k15:y08 K (.ref f15)=true)
  (a16:y0d K (.ref CCourse) "bare_zones"=some (some (.ref f16)))
  (i16:y0z K (.ref f16)=true)
  (l16:K.lookup f16=some ⟨oc16,od16,.func (y0j "bare_zones" "Course.bare_zones" (z09 z0o) (z06 z0o) (z01 z0o) .none kV16 dc16 pm16 an16 cd16 ct16),sl16⟩)
  (c16:y0g K cd16 "Course.bare_zones"=true)
  (k16:y08 K (.ref f16)=true)
  (a17:y0d K (.ref CCourse) "what_is_against"=some (some (.ref f17)))
  (i17:y0z K (.ref f17)=true)
  (l17:K.lookup f17=some ⟨oc17,od17,.func (y0j "what_is_against" "Course.what_is_against" (z09 z0j) (z06 z0j) (z01 z0j) .none kV17 dc17 pm17 an17 cd17 ct17),sl17⟩)
  (c17:y0g K cd17 "Course.what_is_against"=true)
  (k17:y08 K (.ref f17)=true)
  (a18:y0d K (.ref CCourse) "end_leaving"=some (some (.ref f18)))
  (i18:y0z K (.ref f18)=true)
  (l18:K.lookup f18=some ⟨oc18,od18,.func (y0j "end_leaving" "Course.end_leaving" (z09 z0w) (z06 z0w) (z01 z0w) .none kV18 dc18 pm18 an18 cd18 ct18),sl18⟩)
  (c18:y0g K cd18 "Course.end_leaving"=true)
  (k18:y08 K (.ref f18)=true)
  (a19:y0d K (.ref CCourse) "do_set"=some (some (.ref f19)))
  (i19:y0z K (.ref f19)=true)
  (l19:K.lookup f19=some ⟨oc19,od19,.func (y0j "do_set" "Course.do_set" (z09 z22) (z06 z22) (z01 z22) .none kV19 dc19 pm19 an19 cd19 ct19),sl19⟩)
  (c19:y0g K cd19 "Course.do_set"=true)
  (k19:y08 K (.ref f19)=true)
  (a20:y0d K (.ref CCourse) "do_unset"=some (some (.ref f20)))
  (i20:y0z K (.ref f20)=true)
  (l20:K.lookup f20=some ⟨oc20,od20,.func (y0j "do_unset" "Course.do_unset" (z09 z1e) (z06 z1e) (z01 z1e) .none kV20 dc20 pm20 an20 cd20 ct20),sl20⟩)
  (c20:y0g K cd20 "Course.do_unset"=true)
  (k20:y08 K (.ref f20)=true)
  (a21:y0d K (.ref CCourse) "do_deed"=some (some (.ref f21)))
  (i21:y0z K (.ref f21)=true)
  (l21:K.lookup f21=some ⟨oc21,od21,.func (y0j "do_deed" "Course.do_deed" (z09 z1k) (z06 z1k) (z01 z1k) .none kV21 dc21 pm21 an21 cd21 ct21),sl21⟩)
  (c21:y0g K cd21 "Course.do_deed"=true)
  (k21:y08 K (.ref f21)=true)
  (a22:y0d K (.ref CCourse) "take_right"=some (some (.ref f22)))
  (i22:y0z K (.ref f22)=true)
  (l22:K.lookup f22=some ⟨oc22,od22,.func (y0j "take_right" "Course.take_right" (z09 z10) (z06 z10) (z01 z10) .none kV22 dc22 pm22 an22 cd22 ct22),sl22⟩)
  (c22:y0g K cd22 "Course.take_right"=true)
  (k22:y08 K (.ref f22)=true)
  (a23:y0d K (.ref CCourse) "code"=some (some (.ref f23)))
  (i23:y0z K (.ref f23)=true)
  (l23:K.lookup f23=some ⟨oc23,od23,.func (y0j "code" "Course.code" (z09 z2x) (z06 z2x) (z01 z2x) .none kV23 dc23 pm23 an23 cd23 ct23),sl23⟩)
  (c23:y0g K cd23 "Course.code"=true)
  (k23:y08 K (.ref f23)=true)
  (a24:y0d K (.ref CCourse) "count_down"=some (some (.ref f24)))
  (i24:y0z K (.ref f24)=true)
  (l24:K.lookup f24=some ⟨oc24,od24,.func (y0j "count_down" "Course.count_down" (z09 z13) (z06 z13) (z01 z13) .none kV24 dc24 pm24 an24 cd24 ct24),sl24⟩)
  (c24:y0g K cd24 "Course.count_down"=true)
  (k24:y08 K (.ref f24)=true)
  (a25:y0d K (.ref CCourse) "end_coming"=some (some (.ref f25)))
  (i25:y0z K (.ref f25)=true)
  (l25:K.lookup f25=some ⟨oc25,od25,.func (y0j "end_coming" "Course.end_coming" (z09 z12) (z06 z12) (z01 z12) .none kV25 dc25 pm25 an25 cd25 ct25),sl25⟩)
  (c25:y0g K cd25 "Course.end_coming"=true)
  (k25:y08 K (.ref f25)=true)
  (a26:y0d K (.ref CCourse) "end_time"=some (some (.ref f26)))
  (i26:y0z K (.ref f26)=true)
  (l26:K.lookup f26=some ⟨oc26,od26,.func (y0j "end_time" "Course.end_time" (z09 z1d) (z06 z1d) (z01 z1d) .none kV26 dc26 pm26 an26 cd26 ct26),sl26⟩)
  (c26:y0g K cd26 "Course.end_time"=true)
  (k26:y08 K (.ref f26)=true)
  (a27:y0d K (.ref CCourse) "ticks"=some (some (.ref f27)))
  (i27:y0z K (.ref f27)=true)
  (l27:K.lookup f27=some ⟨oc27,od27,.func (y0j "ticks" "Course.ticks" (z09 z2g) (z06 z2g) (z01 z2g) .none kV27 dc27 pm27 an27 cd27 ct27),sl27⟩)
  (c27:y0g K cd27 "Course.ticks"=true)
  (k27:y08 K (.ref f27)=true)
  (a28:y0d K (.ref CCourse) "happen"=some (some (.ref f28)))
  (i28:y0z K (.ref f28)=true)
  (l28:K.lookup f28=some ⟨oc28,od28,.func (y0j "happen" "Course.happen" (z09 z21) (z06 z21) (z01 z21) .none kV28 dc28 pm28 an28 cd28 ct28),sl28⟩)
  (c28:y0g K cd28 "Course.happen"=true)
  (k28:y08 K (.ref f28)=true)
  (a29:y0t K y0o "course_of"=some (some (.ref f29)))
  (l29:K.lookup f29=some ⟨oc29,od29,.func (y0j "course_of" "course_of" (z09 z3t) (z06 z3t) (z01 z3t) .none kV29 dc29 pm29 an29 cd29 ct29),sl29⟩)
  (c29:y0g K cd29 "course_of"=true)
  (k29:y08 K (.ref f29)=true)
  (a30:y0t K y0o "gone"=some (some (.ref f30)))
  (l30:K.lookup f30=some ⟨oc30,od30,.func (y0j "gone" "gone" (z09 zcy) (z06 zcy) (z01 zcy) .none kV30 dc30 pm30 an30 cd30 ct30),sl30⟩)
  (c30:y0g K cd30 "gone"=true)
  (k30:y08 K (.ref f30)=true)
  (a31:y0t K y0o "words"=some (some (.ref f31)))
  (l31:K.lookup f31=some ⟨oc31,od31,.func (y0j "words" "words" (z09 z8b) (z06 z8b) (z01 z8b) .none kV31 dc31 pm31 an31 cd31 ct31),sl31⟩)
  (c31:y0g K cd31 "words"=true)
  (k31:y08 K (.ref f31)=true)
  (a32:y0t K y0o "story"=some (some (.ref f32)))
  (l32:K.lookup f32=some ⟨oc32,od32,.func (y0j "story" "story" (z09 z9x) (z06 z9x) (z01 z9x) .none kV32 dc32 pm32 an32 cd32 ct32),sl32⟩)
  (c32:y0g K cd32 "story"=true)
  (k32:y08 K (.ref f32)=true)
  (a33:y0t K y0o "shown"=some (some (.ref f33)))
  (l33:K.lookup f33=some ⟨oc33,od33,.func (y0j "shown" "shown" (z09 z6p) (z06 z6p) (z01 z6p) .none kV33 dc33 pm33 an33 cd33 ct33),sl33⟩)
  (c33:y0g K cd33 "shown"=true)
  (k33:y08 K (.ref f33)=true)
  (a34:y0d K (.ref CBox) "__init__"=some (some (.ref f34)))
  (i34:y0z K (.ref f34)=true)
  (l34:K.lookup f34=some ⟨oc34,od34,.func (y0j "__init__" "Box.__init__" (z09 z2j) (z06 z2j) (z01 z2j) .none kV34 dc34 pm34 an34 cd34 ct34),sl34⟩)
  (c34:y0g K cd34 "Box.__init__"=true)
  (k34:y08 K (.ref f34)=true)
  (a35:y0d K (.ref CBox) "state"=some (some (.ref f35)))
  (i35:y0z K (.ref f35)=true)
  (l35:K.lookup f35=some ⟨oc35,od35,.func (y0j "state" "Box.state" (z09 z3v) (z06 z3v) (z01 z3v) .none kV35 dc35 pm35 an35 cd35 ct35),sl35⟩)
  (c35:y0g K cd35 "Box.state"=true)
  (k35:y08 K (.ref f35)=true)
  (a36:y0d K (.ref CBox) "happen"=some (some (.ref f36)))
  (i36:y0z K (.ref f36)=true)
  (l36:K.lookup f36=some ⟨oc36,od36,.func (y0j "happen" "Box.happen" (z09 z38) (z06 z38) (z01 z38) .none kV36 dc36 pm36 an36 cd36 ct36),sl36⟩)
  (c36:y0g K cd36 "Box.happen"=true)
  (k36:y08 K (.ref f36)=true)
  (a37:y0d K (.ref CBox) "need_zone"=some (some (.ref f37)))
  (i37:y0z K (.ref f37)=true)
  (l37:K.lookup f37=some ⟨oc37,od37,.func (y0j "need_zone" "Box.need_zone" (z09 z23) (z06 z23) (z01 z23) .none kV37 dc37 pm37 an37 cd37 ct37),sl37⟩)
  (c37:y0g K cd37 "Box.need_zone"=true)
  (k37:y08 K (.ref f37)=true)
  (a38:y0d K (.ref CBox) "line"=some (some (.ref f38)))
  (i38:y0z K (.ref f38)=true)
  (l38:K.lookup f38=some ⟨oc38,od38,.func (y0j "line" "Box.line" (z09 z4o) (z06 z4o) (z01 z4o) .none kV38 dc38 pm38 an38 cd38 ct38),sl38⟩)
  (c38:y0g K cd38 "Box.line"=true)
  (k38:y08 K (.ref f38)=true)
  (a39:y0d K (.ref CBox) "code"=some (some (.ref f39)))
  (i39:y0z K (.ref f39)=true)
  (l39:K.lookup f39=some ⟨oc39,od39,.func (y0j "code" "Box.code" (z09 z4p) (z06 z4p) (z01 z4p) .none kV39 dc39 pm39 an39 cd39 ct39),sl39⟩)
  (c39:y0g K cd39 "Box.code"=true)
  (k39:y08 K (.ref f39)=true)
  (a40:y0d K (.ref CBox) "ticks"=some (some (.ref f40)))
  (i40:y0z K (.ref f40)=true)
  (l40:K.lookup f40=some ⟨oc40,od40,.func (y0j "ticks" "Box.ticks" (z09 z3u) (z06 z3u) (z01 z3u) .none kV40 dc40 pm40 an40 cd40 ct40),sl40⟩)
  (c40:y0g K cd40 "Box.ticks"=true)
  (k40:y08 K (.ref f40)=true)
  (a41:y0t K y0o "shown_rows"=some (some (.ref f33)))
  (a42:y0d K (.ref CBox) "shown"=some (some (.ref f42)))
  (i42:y0z K (.ref f42)=true)
  (l42:K.lookup f42=some ⟨oc42,od42,.func (y0j "shown" "Box.shown" (z09 z3w) (z06 z3w) (z01 z3w) .none kV42 dc42 pm42 an42 cd42 ct42),sl42⟩)
  (c42:y0g K cd42 "Box.shown"=true)
  (k42:y08 K (.ref f42)=true)
  (a43:y0d K (.ref CBox) "row"=some (some (.ref f43)))
  (i43:y0z K (.ref f43)=true)
  (l43:K.lookup f43=some ⟨oc43,od43,.func (y0j "row" "Box.row" (z09 z5x) (z06 z5x) (z01 z5x) .none kV43 dc43 pm43 an43 cd43 ct43),sl43⟩)
  (c43:y0g K cd43 "Box.row"=true)
  (k43:y08 K (.ref f43)=true)
  (a44:y0d K (.ref CBox) "log"=some (some (.ref f44)))
  (i44:y0z K (.ref f44)=true)
  (l44:K.lookup f44=some ⟨oc44,od44,.func (y0j "log" "Box.log" (z09 z5y) (z06 z5y) (z01 z5y) .none kV44 dc44 pm44 an44 cd44 ct44),sl44⟩)
  (c44:y0g K cd44 "Box.log"=true)
  (k44:y08 K (.ref f44)=true)
  (a45:y0d K (.ref CBox) "undo"=some (some (.ref f45)))
  (i45:y0z K (.ref f45)=true)
  (l45:K.lookup f45=some ⟨oc45,od45,.func (y0j "undo" "Box.undo" (z09 z4n) (z06 z4n) (z01 z4n) .none kV45 dc45 pm45 an45 cd45 ct45),sl45⟩)
  (c45:y0g K cd45 "Box.undo"=true)
  (k45:y08 K (.ref f45)=true)
  (a46:y0t K y0o "_law_cell_at"=some (some (.ref f46)))
  (l46:K.lookup f46=some ⟨oc46,od46,.func (y0j "_law_cell_at" "_law_cell_at" (z09 z3s) (z06 z3s) (z01 z3s) .none kV46 dc46 pm46 an46 cd46 ct46),sl46⟩)
  (c46:y0g K cd46 "_law_cell_at"=true)
  (k46:y08 K (.ref f46)=true)
  (a47:y0t K y0o "_law_mixed"=some (some (.ref f47)))
  (l47:K.lookup f47=some ⟨oc47,od47,.func (y0j "_law_mixed" "_law_mixed" (z09 z5s) (z06 z5s) (z01 z5s) .none kV47 dc47 pm47 an47 cd47 ct47),sl47⟩)
  (c47:y0g K cd47 "_law_mixed"=true)
  (k47:y08 K (.ref f47)=true)
  (a48:y0t K y0o "_law_drawn"=some (some (.ref f48)))
  (l48:K.lookup f48=some ⟨oc48,od48,.func (y0j "_law_drawn" "_law_drawn" (z09 z5u) (z06 z5u) (z01 z5u) .none kV48 dc48 pm48 an48 cd48 ct48),sl48⟩)
  (c48:y0g K cd48 "_law_drawn"=true)
  (k48:y08 K (.ref f48)=true)
  (a49:y0t K y0o "_law_plan"=some (some (.ref f49)))
  (l49:K.lookup f49=some ⟨oc49,od49,.func (y0j "_law_plan" "_law_plan" (z09 z6g) (z06 z6g) (z01 z6g) .none kV49 dc49 pm49 an49 cd49 ct49),sl49⟩)
  (c49:y0g K cd49 "_law_plan"=true)
  (k49:y08 K (.ref f49)=true)
  (a50:y0t K y0o "_law_event"=some (some (.ref f50)))
  (l50:K.lookup f50=some ⟨oc50,od50,.func (y0j "_law_event" "_law_event" (z09 z5t) (z06 z5t) (z01 z5t) .none kV50 dc50 pm50 an50 cd50 ct50),sl50⟩)
  (c50:y0g K cd50 "_law_event"=true)
  (k50:y08 K (.ref f50)=true)
  (a51:y0t K y0o "_law_row"=some (some (.ref f51)))
  (l51:K.lookup f51=some ⟨oc51,od51,.func (y0j "_law_row" "_law_row" (z09 z8c) (z06 z8c) (z01 z8c) .none kV51 dc51 pm51 an51 cd51 ct51),sl51⟩)
  (c51:y0g K cd51 "_law_row"=true)
  (k51:y08 K (.ref f51)=true)
  (a52:y0t K y0o "_law_told"=some (some (.ref f52)))
  (l52:K.lookup f52=some ⟨oc52,od52,.func (y0j "_law_told" "_law_told" (z09 z50) (z06 z50) (z01 z50) .none kV52 dc52 pm52 an52 cd52 ct52),sl52⟩)
  (c52:y0g K cd52 "_law_told"=true)
  (k52:y08 K (.ref f52)=true)
  (a53:y0t K y0o "_law_box_do"=some (some (.ref f53)))
  (l53:K.lookup f53=some ⟨oc53,od53,.func (y0j "_law_box_do" "_law_box_do" (z09 z4m) (z06 z4m) (z01 z4m) .none kV53 dc53 pm53 an53 cd53 ct53),sl53⟩)
  (c53:y0g K cd53 "_law_box_do"=true)
  (k53:y08 K (.ref f53)=true)
  (a54:y0t K y0o "law"=some (some (.ref f54)))
  (l54:K.lookup f54=some ⟨oc54,od54,.func (y0j "law" "law" (z09 zah) (z06 zah) (z01 zah) .none kV54 dc54 pm54 an54 (.ref cL) ct54),sl54⟩)
  (c54:y0g K (.ref cL) "law"=true)
  (k54:y08 K (.ref f54)=true)
  (z_tuple:y0t K y0o "tuple"=some none)
  (z_max:y0t K y0o "max"=some none)
  (z_dict:y0t K y0o "dict"=some none)
  (z_list:y0t K y0o "list"=some none)
  (z_zip:y0t K y0o "zip"=some none)
  (z_sorted:y0t K y0o "sorted"=some none)
  (z_len:y0t K y0o "len"=some none)
  (z_enumerate:y0t K y0o "enumerate"=some none)
  (z_range:y0t K y0o "range"=some none)
  (g_WRONG_IN_A_ROW:y0t K y0o "WRONG_IN_A_ROW"=some (some (.int 3 t_WRONG_IN_A_ROW)))
  (g_TICKS_LOCKED:y0t K y0o "TICKS_LOCKED"=some (some (.int 90 t_TICKS_LOCKED)))
  (g_KINDS_SHUT_TO_SET:y0t K y0o "KINDS_SHUT_TO_SET"=some (some (.ref a_KINDS_SHUT_TO_SET)))
  (q_KINDS_SHUT_TO_SET:K.lookup a_KINDS_SHUT_TO_SET=some ⟨.type "tuple",od_KINDS_SHUT_TO_SET,.seq #[.str "day" t_KINDS_SHUT_TO_SET0,.str "once" t_KINDS_SHUT_TO_SET1] n_KINDS_SHUT_TO_SET,sl_KINDS_SHUT_TO_SET⟩)
  (g_KINDS_LEFT_BY:y0t K y0o "KINDS_LEFT_BY"=some (some (.ref a_KINDS_LEFT_BY)))
  (q_KINDS_LEFT_BY:K.lookup a_KINDS_LEFT_BY=some ⟨.type "tuple",od_KINDS_LEFT_BY,.seq #[.str "inner" t_KINDS_LEFT_BY0,.str "way" t_KINDS_LEFT_BY1] n_KINDS_LEFT_BY,sl_KINDS_LEFT_BY⟩)
  (g_DEEDS_OF_ZONES:y0t K y0o "DEEDS_OF_ZONES"=some (some (.ref a_DEEDS_OF_ZONES)))
  (q_DEEDS_OF_ZONES:K.lookup a_DEEDS_OF_ZONES=some ⟨.type "tuple",od_DEEDS_OF_ZONES,.seq #[.str "shunt" t_DEEDS_OF_ZONES0,.str "free" t_DEEDS_OF_ZONES1] n_DEEDS_OF_ZONES,sl_DEEDS_OF_ZONES⟩)
  (hCH:PySem.W.codeHdIn K cL 458=true) :
  ∃fd:y0b,(∀(s:y04) (v:Value),BindsTo s fd ⟨[v],[]⟩ [("_law_script",v)])/\∀base:Heap,K.In base->base.Ns y0o mg->BM mg base->FnOk l.prog w K mg base CX0 17 fa fd ["_law_script"] (@spT (tOf [(458,(("law":Str)++".<locals>.")++"<lambda>")]) K 1 zmy):=by
 have e:=hfa.symm.trans (y14 X G a54)
 cases e
 refine⟨y0j "law" "law" (z09 zah) (z06 zah) (z01 zah) .none kV54 dc54 pm54 an54 (.ref cL) ct54,fun s v=>.of_eq rfl,fun base _ _ hbm=>?_⟩
 letI tt:Tbl:=⟨[(458,(("law":Str)++".<locals>.")++"<lambda>")],fun c=>match c with|0=>["plan","mode","left","came","lines","shunts","siren","alarms","tries","locked","used","past","told"]|1=>["plan","events","states"]|_=>[],fun c=>match c with|0=>some CCourse|1=>some CBox|_=>none⟩
 have kcCourse:ClOk K 0 CCourse ["plan","mode","left","came","lines","shunts","siren","alarms","tries","locked","used","past","told"]:=⟨rfl,rfl,⟨pgCourse,hdCourse,poCourse,saCourse⟩,by decide +kernel,fun f hf=>by
  simp only[y09,y2j,or_false] at hf
  rcases hf with rfl|rfl|rfl|rfl|rfl|rfl|rfl|rfl|rfl|rfl|rfl|rfl|rfl
  ·exact naCourse0
  ·exact naCourse1
  ·exact naCourse2
  ·exact naCourse3
  ·exact naCourse4
  ·exact naCourse5
  ·exact naCourse6
  ·exact naCourse7
  ·exact naCourse8
  ·exact naCourse9
  ·exact naCourse10
  ·exact naCourse11
  ·exact naCourse12,by decide⟩
 have kcBox:ClOk K 1 CBox ["plan","events","states"]:=⟨rfl,rfl,⟨pgBox,hdBox,poBox,saBox⟩,by decide +kernel,fun f hf=>by
  simp only[y09,y2j,or_false] at hf
  rcases hf with rfl|rfl|rfl
  ·exact naBox0
  ·exact naBox1
  ·exact naBox2,by decide⟩
 replace z_tuple:=y1f X G z_tuple
 replace z_max:=y1f X G z_max
 replace z_dict:=y1f X G z_dict
 replace z_list:=y1f X G z_list
 replace z_zip:=y1f X G z_zip
 replace z_sorted:=y1f X G z_sorted
 replace z_len:=y1f X G z_len
 replace z_enumerate:=y1f X G z_enumerate
 replace z_range:=y1f X G z_range
 replace g_WRONG_IN_A_ROW:=y14 X G g_WRONG_IN_A_ROW
 replace g_TICKS_LOCKED:=y14 X G g_TICKS_LOCKED
 replace g_KINDS_SHUT_TO_SET:=y14 X G g_KINDS_SHUT_TO_SET
 have tt_KINDS_SHUT_TO_SET:∃(o:Obj) (its:Array Value) (n:Nat),K.lookup a_KINDS_SHUT_TO_SET=some o/\o.cls=.type "tuple"/\o.data=.seq its n/\its.size<=y0k/\Vals ((["day","once"]:List Str).map V.str) its.toList:=⟨_,_,_,q_KINDS_SHUT_TO_SET,rfl,rfl,by show 2<=y0k;decide,(.cons ⟨_,rfl⟩ (.cons ⟨_,rfl⟩ .nil))⟩
 replace g_KINDS_LEFT_BY:=y14 X G g_KINDS_LEFT_BY
 have tt_KINDS_LEFT_BY:∃(o:Obj) (its:Array Value) (n:Nat),K.lookup a_KINDS_LEFT_BY=some o/\o.cls=.type "tuple"/\o.data=.seq its n/\its.size<=y0k/\Vals ((["inner","way"]:List Str).map V.str) its.toList:=⟨_,_,_,q_KINDS_LEFT_BY,rfl,rfl,by show 2<=y0k;decide,(.cons ⟨_,rfl⟩ (.cons ⟨_,rfl⟩ .nil))⟩
 replace g_DEEDS_OF_ZONES:=y14 X G g_DEEDS_OF_ZONES
 have tt_DEEDS_OF_ZONES:∃(o:Obj) (its:Array Value) (n:Nat),K.lookup a_DEEDS_OF_ZONES=some o/\o.cls=.type "tuple"/\o.data=.seq its n/\its.size<=y0k/\Vals ((["shunt","free"]:List Str).map V.str) its.toList:=⟨_,_,_,q_DEEDS_OF_ZONES,rfl,rfl,by show 2<=y0k;decide,(.cons ⟨_,rfl⟩ (.cons ⟨_,rfl⟩ .nil))⟩
 have F1:=z0m (st:=z5v) l1 c1 k1
 have C_kind_of:=z65 (P:=l.prog) (w:=w) (base:=base) (k:=0) F1 (y14 X G a1)
 have F2:=z0m (st:=z7a) l2 c2 k2
 have C_begun:=zki (P:=l.prog) (w:=w) (base:=base) (k:=0) F2 (y14 X G a2) z_tuple
 have F3:=z0m (st:=z5w) l3 c3 k3
 have C_code_of:=ze5 (P:=l.prog) (w:=w) (base:=base) (k:=0) F3 (y14 X G a3)
 have F4:=z0m (st:=z4l) l4 c4 k4
 have C_lessened:=z72 (P:=l.prog) (w:=w) (base:=base) (k:=0) F4 (y14 X G a4) z_max
 have F5:=z0m (st:=z0u) l5 c5 k5
 have C_Course:=zbl (P:=l.prog) (w:=w) (base:=base) (k:=0) F5 ⟨mkCourse,a5,i5,kpCourse⟩ (y14 X G aCCourse) kcCourse z_dict z_list z_zip
 have F6:=z0m (st:=z2h) l6 c6 k6
 have C_Course_state:=z6s (P:=l.prog) (w:=w) (mg:=mg) (base:=base) (k:=0) F6 (⟨a6,i6,k6⟩) kcCourse z_tuple
 have F7:=z0m (st:=z2v) l7 c7 k7
 have C_Course_tell:=z08 (P:=l.prog) (w:=w) (mg:=mg) (base:=base) (k:=0) F7 (⟨a7,i7,k7⟩) kcCourse
 have F8:=z0m (st:=z1n) l8 c8 k8
 have C_Course_be_loud:=z32 (P:=l.prog) (w:=w) (mg:=mg) (base:=base) (k:=0) F8 (⟨a8,i8,k8⟩) kcCourse
 have F9:=z0m (st:=z2i) l9 c9 k9
 have C_Course_alarm:=z18 (P:=l.prog) (w:=w) (mg:=mg) (base:=base) (k:=1) F9 (⟨a9,i9,k9⟩) kcCourse (C_Course_be_loud.mono (by decide)) (C_Course_tell.mono (by decide))
 have F10:=z0m (st:=z1m) l10 c10 k10
 have C_Course_come_in:=z5f (P:=l.prog) (w:=w) (mg:=mg) (base:=base) (k:=2) F10 (⟨a10,i10,k10⟩) kcCourse (C_Course_tell.mono (by decide)) (C_Course_alarm.mono (by decide))
 have F11:=z0m (st:=z1l) l11 c11 k11
 have C_Course_disturb:=z5e (P:=l.prog) (w:=w) (mg:=mg) (base:=base) (k:=3) F11 (⟨a11,i11,k11⟩) kcCourse (C_kind_of.mono (by decide)) (C_Course_alarm.mono (by decide)) (C_Course_tell.mono (by decide)) (C_Course_come_in.mono (by decide))
 have F12:=z0m (st:=z2w) l12 c12 k12
 have C_Course_line:=z7m (P:=l.prog) (w:=w) (mg:=mg) (base:=base) (k:=4) F12 (⟨a12,i12,k12⟩) kcCourse (C_Course_tell.mono (by decide)) (C_Course_disturb.mono (by decide))
 have F13:=z0m (st:=z11) l13 c13 k13
 have C_Course_is_used_up:=z41 (P:=l.prog) (w:=w) (mg:=mg) (base:=base) (k:=0) F13 (⟨a13,i13,k13⟩) kcCourse
 have F14:=z0m (st:=z0z) l14 c14 k14
 have C_Course_take_wrong:=z3z (P:=l.prog) (w:=w) (mg:=mg) (base:=base) (k:=1) F14 (⟨a14,i14,k14⟩) kcCourse (C_Course_tell.mono (by decide)) (C_Course_be_loud.mono (by decide)) g_WRONG_IN_A_ROW g_TICKS_LOCKED
 have F15:=z0m (st:=z0v) l15 c15 k15
 have C_Course_is_untimely:=z3l (P:=l.prog) (w:=w) (mg:=mg) (base:=base) (k:=1) F15 (⟨a15,i15,k15⟩) kcCourse (C_kind_of.mono (by decide))
 have F16:=z0m (st:=z0o) l16 c16 k16
 have C_Course_bare_zones:=z2a (P:=l.prog) (w:=w) (mg:=mg) (base:=base) (k:=0) F16 (⟨a16,i16,k16⟩) kcCourse
 have F17:=z0m (st:=z0j) l17 c17 k17
 have C_Course_what_is_against:=z2t (P:=l.prog) (w:=w) (mg:=mg) (base:=base) (k:=2) F17 (⟨a17,i17,k17⟩) kcCourse (C_Course_is_untimely.mono (by decide)) (C_Course_bare_zones.mono (by decide)) g_KINDS_SHUT_TO_SET tt_KINDS_SHUT_TO_SET
 have F18:=z0m (st:=z0w) l18 c18 k18
 have C_Course_end_leaving:=z1s (P:=l.prog) (w:=w) (mg:=mg) (base:=base) (k:=2) F18 (⟨a18,i18,k18⟩) kcCourse (C_Course_tell.mono (by decide)) (C_Course_bare_zones.mono (by decide)) (C_Course_alarm.mono (by decide)) g_KINDS_LEFT_BY tt_KINDS_LEFT_BY
 have F19:=z0m (st:=z22) l19 c19 k19
 have C_Course_do_set:=z67 (P:=l.prog) (w:=w) (mg:=mg) (base:=base) (k:=3) F19 (⟨a19,i19,k19⟩) kcCourse (C_Course_tell.mono (by decide)) (C_Course_end_leaving.mono (by decide))
 have F20:=z0m (st:=z1e) l20 c20 k20
 have C_Course_do_unset:=z4x (P:=l.prog) (w:=w) (mg:=mg) (base:=base) (k:=1) F20 (⟨a20,i20,k20⟩) kcCourse (C_Course_tell.mono (by decide))
 have F21:=z0m (st:=z1k) l21 c21 k21
 have C_Course_do_deed:=z5d (P:=l.prog) (w:=w) (mg:=mg) (base:=base) (k:=4) F21 (⟨a21,i21,k21⟩) kcCourse (C_Course_do_set.mono (by decide)) (C_Course_do_unset.mono (by decide)) z_sorted (C_Course_tell.mono (by decide))
 have F22:=z0m (st:=z10) l22 c22 k22
 have C_Course_take_right:=z40 (P:=l.prog) (w:=w) (mg:=mg) (base:=base) (k:=5) F22 (⟨a22,i22,k22⟩) kcCourse (C_Course_what_is_against.mono (by decide)) (C_Course_do_deed.mono (by decide)) (C_Course_tell.mono (by decide))
 have F23:=z0m (st:=z2x) l23 c23 k23
 have C_Course_code:=z7n (P:=l.prog) (w:=w) (mg:=mg) (base:=base) (k:=6) F23 (⟨a23,i23,k23⟩) kcCourse (C_code_of.mono (by decide)) (C_Course_tell.mono (by decide)) (C_Course_is_used_up.mono (by decide)) (C_Course_take_wrong.mono (by decide)) (C_Course_take_right.mono (by decide))
 have F24:=z0m (st:=z13) l24 c24 k24
 have C_Course_count_down:=z29 (P:=l.prog) (w:=w) (mg:=mg) (base:=base) (k:=1) F24 (⟨a24,i24,k24⟩) kcCourse (C_lessened.mono (by decide))
 have F25:=z0m (st:=z12) l25 c25 k25
 have C_Course_end_coming:=z42 (P:=l.prog) (w:=w) (mg:=mg) (base:=base) (k:=2) F25 (⟨a25,i25,k25⟩) kcCourse (C_Course_alarm.mono (by decide))
 have F26:=z0m (st:=z1d) l26 c26 k26
 have C_Course_end_time:=z4w (P:=l.prog) (w:=w) (mg:=mg) (base:=base) (k:=3) F26 (⟨a26,i26,k26⟩) kcCourse (C_Course_end_leaving.mono (by decide)) (C_Course_end_coming.mono (by decide))
 have F27:=z0m (st:=z2g) l27 c27 k27
 have C_Course_ticks:=z6r (P:=l.prog) (w:=w) (mg:=mg) (base:=base) (k:=4) F27 (⟨a27,i27,k27⟩) kcCourse (C_Course_count_down.mono (by decide)) (C_Course_end_time.mono (by decide))
 have F28:=z0m (st:=z21) l28 c28 k28
 have C_Course_happen:=z66 (P:=l.prog) (w:=w) (mg:=mg) (base:=base) (k:=7) F28 (⟨a28,i28,k28⟩) kcCourse (C_Course_line.mono (by decide)) (C_Course_code.mono (by decide)) (C_Course_ticks.mono (by decide))
 have F29:=z0m (st:=z3t) l29 c29 k29
 have C_course_of:=z3y (P:=l.prog) (w:=w) (base:=base) (k:=8) F29 (y14 X G a29) kcCourse (C_Course.mono (by decide)) (C_Course_happen.mono (by decide))
 have F30:=z0m (st:=zcy) l30 c30 k30
 have C_gone:=zpx (P:=l.prog) (w:=w) (base:=base) (k:=10) F30 (y14 X G a30) kcCourse (C_Course_state.mono (by decide)) (C_course_of.mono (by decide))
 have F31:=z0m (st:=z8b) l31 c31 k31
 have C_words:=zkf (P:=l.prog) (w:=w) (base:=base) (k:=10) F31 (y14 X G a31) kcCourse z_tuple (C_course_of.mono (by decide))
 have F32:=z0m (st:=z9x) l32 c32 k32
 have C_story:=zkg (P:=l.prog) (w:=w) (base:=base) (k:=10) F32 (y14 X G a32) kcCourse z_tuple (C_course_of.mono (by decide))
 have F33:=z0m (st:=z6p) l33 c33 k33
 have C_shown:=zv3 (P:=l.prog) (w:=w) (base:=base) (k:=0) F33 (y14 X G a33) z_tuple z_zip
 have F34:=z0m (st:=z2j) l34 c34 k34
 have C_Box:=zen (P:=l.prog) (w:=w) (base:=base) (k:=1) F34 ⟨mkBox,a34,i34,kpBox⟩ (y14 X G aCBox) kcBox (C_begun.mono (by decide))
 have F35:=z0m (st:=z3v) l35 c35 k35
 have C_Box_state:=z1q (P:=l.prog) (w:=w) (mg:=mg) (base:=base) (k:=0) F35 (⟨a35,i35,k35⟩) kcBox
 have F36:=z0m (st:=z38) l36 c36 k36
 have C_Box_happen:=z3e (P:=l.prog) (w:=w) (mg:=mg) (base:=base) (k:=11) F36 (⟨a36,i36,k36⟩) kcBox (C_words.mono (by decide)) (C_gone.mono (by decide)) (C_Box_state.mono (by decide))
 have F37:=z0m (st:=z23) l37 c37 k37
 have C_Box_need_zone:=z3d (P:=l.prog) (w:=w) (mg:=mg) (base:=base) (k:=1) F37 (⟨a37,i37,k37⟩) kcBox (C_kind_of.mono (by decide))
 have F38:=z0m (st:=z4o) l38 c38 k38
 have C_Box_line:=zbm (P:=l.prog) (w:=w) (mg:=mg) (base:=base) (k:=12) F38 (⟨a38,i38,k38⟩) kcBox (C_Box_need_zone.mono (by decide)) (C_Box_happen.mono (by decide))
 have F39:=z0m (st:=z4p) l39 c39 k39
 have C_Box_code:=zbn (P:=l.prog) (w:=w) (mg:=mg) (base:=base) (k:=12) F39 (⟨a39,i39,k39⟩) kcBox (C_Box_happen.mono (by decide)) (C_Box_need_zone.mono (by decide)) g_DEEDS_OF_ZONES tt_DEEDS_OF_ZONES
 have F40:=z0m (st:=z3u) l40 c40 k40
 have C_Box_ticks:=z4y (P:=l.prog) (w:=w) (mg:=mg) (base:=base) (k:=12) F40 (⟨a40,i40,k40⟩) kcBox (C_Box_happen.mono (by decide))
 have C_shown_rows:=z8s (P:=l.prog) (w:=w) (base:=base) (k:=0) F33 (y14 X G a41) z_tuple z_zip
 have F42:=z0m (st:=z3w) l42 c42 k42
 have C_Box_shown:=z7o (P:=l.prog) (w:=w) (mg:=mg) (base:=base) (k:=1) F42 (⟨a42,i42,k42⟩) kcBox (C_shown_rows.mono (by decide)) (C_Box_state.mono (by decide))
 have F43:=z0m (st:=z5x) l43 c43 k43
 have C_Box_row:=z73 (P:=l.prog) (w:=w) (mg:=mg) (base:=base) (k:=0) F43 (⟨a43,i43,k43⟩) kcBox z_tuple
 have F44:=z0m (st:=z5y) l44 c44 k44
 have C_Box_log:=z74 (P:=l.prog) (w:=w) (mg:=mg) (base:=base) (k:=11) F44 (⟨a44,i44,k44⟩) kcBox (C_story.mono (by decide)) (C_Box_row.mono (by decide))
 have F45:=z0m (st:=z4n) l45 c45 k45
 have C_Box_undo:=z96 (P:=l.prog) (w:=w) (mg:=mg) (base:=base) (k:=0) F45 (⟨a45,i45,k45⟩) kcBox
 have F46:=z0m (st:=z3s) l46 c46 k46
 have C_l_cell_at:=za8 (P:=l.prog) (w:=w) (base:=base) (k:=0) F46 (y14 X G a46) z_len
 have F47:=z0m (st:=z5s) l47 c47 k47
 have C_l_mixed:=z8t (P:=l.prog) (w:=w) (base:=base) (k:=1) F47 (y14 X G a47) (C_l_cell_at.mono (by decide))
 have F48:=z0m (st:=z5u) l48 c48 k48
 have C_l_drawn:=z64 (P:=l.prog) (w:=w) (base:=base) (k:=0) F48 (y14 X G a48)
 have F49:=z0m (st:=z6g) l49 c49 k49
 have C_l_plan:=zgu (P:=l.prog) (w:=w) (base:=base) (k:=1) F49 (y14 X G a49) z_enumerate (C_l_drawn.mono (by decide)) z_tuple z_range
 have F50:=z0m (st:=z5t) l50 c50 k50
 have C_l_event:=ze4 (P:=l.prog) (w:=w) (base:=base) (k:=0) F50 (y14 X G a50) z_len
 have F51:=z0m (st:=z8c) l51 c51 k51
 have C_l_row:=zkh (P:=l.prog) (w:=w) (base:=base) (k:=1) F51 (y14 X G a51) z_tuple (C_l_event.mono (by decide)) z_len z_range (C_l_drawn.mono (by decide))
 have F52:=z0m (st:=z50) l52 c52 k52
 have F53:=z0m (st:=z4m) l53 c53 k53
 have C_l_box_do:=z95 (P:=l.prog) (w:=w) (base:=base) (k:=13) F53 (y14 X G a53) kcBox (C_Box_ticks.mono (by decide)) (C_Box_line.mono (by decide)) (C_Box_code.mono (by decide))
 have F54:=z0m (st:=zah) l54 c54 k54
 exact zuv rfl (zy4 (k:=14) l54 c54 hCH hbm rfl kcBox (C_l_plan.mono (by decide)) (C_l_row.mono (by decide)) (C_Box_state.mono (by decide)) (C_Box_ticks.mono (by decide)) z_range (C_l_mixed.mono (by decide)) (C_Box.mono (by decide)) (C_l_box_do.mono (by decide)) (C_Box_log.mono (by decide)) (C_Box_shown.mono (by decide)) F52 (y14 X G a52) (C_Box_row.mono (by decide)) (C_Box_undo.mono (by decide)))
theorem walk {l:PySem.W.OpenLaw} {q:y0r} {loose:List Str} {XP:(Str->Option Value)->Heap->Prop} {YP:World->Heap->Prop} {d:DefRec} {K:Params->y00} (hn:l.most=some 63) (hdf:d.params.defaults=[])
  (hL:∀w:World,noL (K w.params)=true) (hY:∀(w:World) (h:Heap),YP w h->(K w.params).In h) (hT:∀(w:World) (h:Heap),YP w h->∀b∈[458],h.get? b=some (PySem.W.tabObj #[]))
  (hK0:∀w:World,((K w.params).lookup 458).isNone=true) (hcd:∀w:World,((K w.params).any fun p=>PySem.W.codeHdIn (K w.params) p.1 458)=true)
  (F:∀(w:World) (mg:Str->Option Value) (fa:Addr) (h:Heap),(K w.params).In h->h.Ns y0o mg->mg d.name=some (.ref fa) ->
   ∃fd:y0b,(∀(s:y04) (u:Value),BindsTo s fd ⟨[u],[]⟩ [("_law_script",u)])/\∀base:Heap,(K w.params).In base->base.Ns y0o mg->BM mg base->FnOk l.prog w (K w.params) mg base CX0 17 fa fd ["_law_script"] (@spT (tOf [(458,(("law":Str)++".<locals>.")++"<lambda>")]) (K w.params) 1 zmy)) :
  PySem.W.WalkO q loose XP YP l.row.toRowW d [] (fun f vs=>PySem.call f vs) :=
 zqc (n:=63) (k:=17) (x:="_law_script") (ts:=[458]) (CX:=fun _=>CX0) (sp:=fun w=>@spT (tOf [(458,(("law":Str)++".<locals>.")++"<lambda>")]) (K w.params) 1 zmy) hn (by decide) hdf ⟨rfl,by decide,by decide⟩ hY hT (fun w b hb=>by
  have e:b=458:=by simpa using hb
  subst e
  exact Option.isNone_iff_eq_none.mp (hK0 w)) (fun w b hb=>by
  have e:b=458:=by simpa using hb
  subst e
  obtain⟨p,_,hp⟩:=List.any_eq_true.mp (hcd w)
  exact⟨p.1,hp⟩) F (fun w H a ns hl hO hS=>znp (t:=tOf [(458,(("law":Str)++".<locals>.")++"<lambda>")]) (fun p hp=>by rw[y11.mp hp];exact y0f) hO (hL w) (zrg ns hl) hS) fun _ _ _ _ _ z=>z
end K43
open PySem PySem.W PyProof.Rows
set_option maxRecDepth 100000 in
set_option maxHeartbeats 0 in
theorem PySem.Challenge.cw_doorwatch_k43_whole_boxes_tick_by_tick_holds : PySem.Challenge.rw_doorwatch_k43_whole_boxes_tick_by_tick.Holds := by
 w_on;o_law;k_head;(case hw=>w_witness2)
 k_fill
 refine K43.walk (l:=PySem.Challenge.rw_doorwatch_k43_whole_boxes_tick_by_tick) rfl rfl ?L (fun w h Y=>PySem.W.km_in_of Y) (fun w h Y=>PySem.W.km_tabs_of Y) ?K0 ?CD ?F
 case L =>
  intro w
  first|rfl|(with_unfolding_all rfl)|kernel_rfl
 case K0 =>
  intro w
  first|rfl|(with_unfolding_all rfl)|kernel_rfl
 case CD =>
  intro w
  first|rfl|(with_unfolding_all rfl)|kernel_rfl
 case F =>
  intro w mg fa h KX G hmg
  refine' K43.all_mk KX G hmg ?aCCourse ?pgCourse ?hdCourse ?poCourse ?saCourse ?mkCourse ?kpCourse ?naCourse0 ?naCourse1 ?naCourse2 ?naCourse3 ?naCourse4 ?naCourse5 ?naCourse6 ?naCourse7 ?naCourse8 ?naCourse9 ?naCourse10 ?naCourse11 ?naCourse12 ?aCBox ?pgBox ?hdBox ?poBox ?saBox ?mkBox ?kpBox ?naBox0 ?naBox1 ?naBox2 ?a1 ?l1 ?c1 ?k1 ?a2 ?l2 ?c2 ?k2 ?a3 ?l3 ?c3 ?k3 ?a4 ?l4 ?c4 ?k4 ?a5 ?i5 ?l5 ?c5 ?k5 ?a6 ?i6 ?l6 ?c6 ?k6 ?a7 ?i7 ?l7 ?c7 ?k7 ?a8 ?i8 ?l8 ?c8 ?k8 ?a9 ?i9 ?l9 ?c9 ?k9 ?a10 ?i10 ?l10 ?c10 ?k10 ?a11 ?i11 ?l11 ?c11 ?k11 ?a12 ?i12 ?l12 ?c12 ?k12 ?a13 ?i13 ?l13 ?c13 ?k13 ?a14 ?i14 ?l14 ?c14 ?k14 ?a15 ?i15 ?l15 ?c15 ?k15 ?a16 ?i16 ?l16 ?c16 ?k16 ?a17 ?i17 ?l17 ?c17 ?k17 ?a18 ?i18 ?l18 ?c18 ?k18 ?a19 ?i19 ?l19 ?c19 ?k19 ?a20 ?i20 ?l20 ?c20 ?k20 ?a21 ?i21 ?l21 ?c21 ?k21 ?a22 ?i22 ?l22 ?c22 ?k22 ?a23 ?i23 ?l23 ?c23 ?k23 ?a24 ?i24 ?l24 ?c24 ?k24 ?a25 ?i25 ?l25 ?c25 ?k25 ?a26 ?i26 ?l26 ?c26 ?k26 ?a27 ?i27 ?l27 ?c27 ?k27 ?a28 ?i28 ?l28 ?c28 ?k28 ?a29 ?l29 ?c29 ?k29 ?a30 ?l30 ?c30 ?k30 ?a31 ?l31 ?c31 ?k31 ?a32 ?l32 ?c32 ?k32 ?a33 ?l33 ?c33 ?k33 ?a34 ?i34 ?l34 ?c34 ?k34 ?a35 ?i35 ?l35 ?c35 ?k35 ?a36 ?i36 ?l36 ?c36 ?k36 ?a37 ?i37 ?l37 ?c37 ?k37 ?a38 ?i38 ?l38 ?c38 ?k38 ?a39 ?i39 ?l39 ?c39 ?k39 ?a40 ?i40 ?l40 ?c40 ?k40 ?a41 ?a42 ?i42 ?l42 ?c42 ?k42 ?a43 ?i43 ?l43 ?c43 ?k43 ?a44 ?i44 ?l44 ?c44 ?k44 ?a45 ?i45 ?l45 ?c45 ?k45 ?a46 ?l46 ?c46 ?k46 ?a47 ?l47 ?c47 ?k47 ?a48 ?l48 ?c48 ?k48 ?a49 ?l49 ?c49 ?k49 ?a50 ?l50 ?c50 ?k50 ?a51 ?l51 ?c51 ?k51 ?a52 ?l52 ?c52 ?k52 ?a53 ?l53 ?c53 ?k53 ?a54 ?l54 ?c54 ?k54 ?z_tuple ?z_max ?z_dict ?z_list ?z_zip ?z_sorted ?z_len ?z_enumerate ?z_range ?g_WRONG_IN_A_ROW ?g_TICKS_LOCKED ?g_KINDS_SHUT_TO_SET ?q_KINDS_SHUT_TO_SET ?g_KINDS_LEFT_BY ?q_KINDS_LEFT_BY ?g_DEEDS_OF_ZONES ?q_DEEDS_OF_ZONES ?hCH
  (case aCCourse=>k_is)
  (case pgCourse=>k_is)
  (case hdCourse=>k_is)
  (case poCourse=>k_is)
  (case saCourse=>k_is)
  (case mkCourse=>k_is)
  (case kpCourse=>k_is)
  (case naCourse0=>k_is)
  (case naCourse1=>k_is)
  (case naCourse2=>k_is)
  (case naCourse3=>k_is)
  (case naCourse4=>k_is)
  (case naCourse5=>k_is)
  (case naCourse6=>k_is)
  (case naCourse7=>k_is)
  (case naCourse8=>k_is)
  (case naCourse9=>k_is)
  (case naCourse10=>k_is)
  (case naCourse11=>k_is)
  (case naCourse12=>k_is)
  (case aCBox=>k_is)
  (case pgBox=>k_is)
  (case hdBox=>k_is)
  (case poBox=>k_is)
  (case saBox=>k_is)
  (case mkBox=>k_is)
  (case kpBox=>k_is)
  (case naBox0=>k_is)
  (case naBox1=>k_is)
  (case naBox2=>k_is)
  (case a1=>k_is)
  (case l1=>k_is)
  (case c1=>k_is)
  (case k1=>k_is)
  (case a2=>k_is)
  (case l2=>k_is)
  (case c2=>k_is)
  (case k2=>k_is)
  (case a3=>k_is)
  (case l3=>k_is)
  (case c3=>k_is)
  (case k3=>k_is)
  (case a4=>k_is)
  (case l4=>k_is)
  (case c4=>k_is)
  (case k4=>k_is)
  (case a5=>k_is)
  (case i5=>k_is)
  (case l5=>k_is)
  (case c5=>k_is)
  (case k5=>k_is)
  (case a6=>k_is)
  (case i6=>k_is)
  (case l6=>k_is)
  (case c6=>k_is)
  (case k6=>k_is)
  (case a7=>k_is)
  (case i7=>k_is)
  (case l7=>k_is)
  (case c7=>k_is)
  (case k7=>k_is)
  (case a8=>k_is)
  (case i8=>k_is)
  (case l8=>k_is)
  (case c8=>k_is)
  (case k8=>k_is)
  (case a9=>k_is)
  (case i9=>k_is)
  (case l9=>k_is)
  (case c9=>k_is)
  (case k9=>k_is)
  (case a10=>k_is)
  (case i10=>k_is)
  (case l10=>k_is)
  (case c10=>k_is)
  (case k10=>k_is)
  (case a11=>k_is)
  (case i11=>k_is)
  (case l11=>k_is)
  (case c11=>k_is)
  (case k11=>k_is)
  (case a12=>k_is)
  (case i12=>k_is)
  (case l12=>k_is)
  (case c12=>k_is)
  (case k12=>k_is)
  (case a13=>k_is)
  (case i13=>k_is)
  (case l13=>k_is)
  (case c13=>k_is)
  (case k13=>k_is)
  (case a14=>k_is)
  (case i14=>k_is)
  (case l14=>k_is)
  (case c14=>k_is)
  (case k14=>k_is)
  (case a15=>k_is)
  (case i15=>k_is)
  (case l15=>k_is)
  (case c15=>k_is)
  (case k15=>k_is)
  (case a16=>k_is)
  (case i16=>k_is)
  (case l16=>k_is)
  (case c16=>k_is)
  (case k16=>k_is)
  (case a17=>k_is)
  (case i17=>k_is)
  (case l17=>k_is)
  (case c17=>k_is)
  (case k17=>k_is)
  (case a18=>k_is)
  (case i18=>k_is)
  (case l18=>k_is)
  (case c18=>k_is)
  (case k18=>k_is)
  (case a19=>k_is)
  (case i19=>k_is)
  (case l19=>k_is)
  (case c19=>k_is)
  (case k19=>k_is)
  (case a20=>k_is)
  (case i20=>k_is)
  (case l20=>k_is)
  (case c20=>k_is)
  (case k20=>k_is)
  (case a21=>k_is)
  (case i21=>k_is)
  (case l21=>k_is)
  (case c21=>k_is)
  (case k21=>k_is)
  (case a22=>k_is)
  (case i22=>k_is)
  (case l22=>k_is)
  (case c22=>k_is)
  (case k22=>k_is)
  (case a23=>k_is)
  (case i23=>k_is)
  (case l23=>k_is)
  (case c23=>k_is)
  (case k23=>k_is)
  (case a24=>k_is)
  (case i24=>k_is)
  (case l24=>k_is)
  (case c24=>k_is)
  (case k24=>k_is)
  (case a25=>k_is)
  (case i25=>k_is)
  (case l25=>k_is)
  (case c25=>k_is)
  (case k25=>k_is)
  (case a26=>k_is)
  (case i26=>k_is)
  (case l26=>k_is)
  (case c26=>k_is)
  (case k26=>k_is)
  (case a27=>k_is)
  (case i27=>k_is)
  (case l27=>k_is)
  (case c27=>k_is)
  (case k27=>k_is)
  (case a28=>k_is)
  (case i28=>k_is)
  (case l28=>k_is)
  (case c28=>k_is)
  (case k28=>k_is)
  (case a29=>k_is)
  (case l29=>k_is)
  (case c29=>k_is)
  (case k29=>k_is)
  (case a30=>k_is)
  (case l30=>k_is)
  (case c30=>k_is)
  (case k30=>k_is)
  (case a31=>k_is)
  (case l31=>k_is)
  (case c31=>k_is)
  (case k31=>k_is)
  (case a32=>k_is)
  (case l32=>k_is)
  (case c32=>k_is)
  (case k32=>k_is)
  (case a33=>k_is)
  (case l33=>k_is)
  (case c33=>k_is)
  (case k33=>k_is)
  (case a34=>k_is)
  (case i34=>k_is)
  (case l34=>k_is)
  (case c34=>k_is)
  (case k34=>k_is)
  (case a35=>k_is)
  (case i35=>k_is)
  (case l35=>k_is)
  (case c35=>k_is)
  (case k35=>k_is)
  (case a36=>k_is)
  (case i36=>k_is)
  (case l36=>k_is)
  (case c36=>k_is)
  (case k36=>k_is)
  (case a37=>k_is)
  (case i37=>k_is)
  (case l37=>k_is)
  (case c37=>k_is)
  (case k37=>k_is)
  (case a38=>k_is)
  (case i38=>k_is)
  (case l38=>k_is)
  (case c38=>k_is)
  (case k38=>k_is)
  (case a39=>k_is)
  (case i39=>k_is)
  (case l39=>k_is)
  (case c39=>k_is)
  (case k39=>k_is)
  (case a40=>k_is)
  (case i40=>k_is)
  (case l40=>k_is)
  (case c40=>k_is)
  (case k40=>k_is)
  (case a41=>k_is)
  (case a42=>k_is)
  (case i42=>k_is)
  (case l42=>k_is)
  (case c42=>k_is)
  (case k42=>k_is)
  (case a43=>k_is)
  (case i43=>k_is)
  (case l43=>k_is)
  (case c43=>k_is)
  (case k43=>k_is)
  (case a44=>k_is)
  (case i44=>k_is)
  (case l44=>k_is)
  (case c44=>k_is)
  (case k44=>k_is)
  (case a45=>k_is)
  (case i45=>k_is)
  (case l45=>k_is)
  (case c45=>k_is)
  (case k45=>k_is)
  (case a46=>k_is)
  (case l46=>k_is)
  (case c46=>k_is)
  (case k46=>k_is)
  (case a47=>k_is)
  (case l47=>k_is)
  (case c47=>k_is)
  (case k47=>k_is)
  (case a48=>k_is)
  (case l48=>k_is)
  (case c48=>k_is)
  (case k48=>k_is)
  (case a49=>k_is)
  (case l49=>k_is)
  (case c49=>k_is)
  (case k49=>k_is)
  (case a50=>k_is)
  (case l50=>k_is)
  (case c50=>k_is)
  (case k50=>k_is)
  (case a51=>k_is)
  (case l51=>k_is)
  (case c51=>k_is)
  (case k51=>k_is)
  (case a52=>k_is)
  (case l52=>k_is)
  (case c52=>k_is)
  (case k52=>k_is)
  (case a53=>k_is)
  (case l53=>k_is)
  (case c53=>k_is)
  (case k53=>k_is)
  (case a54=>k_is)
  (case l54=>k_is)
  (case c54=>k_is)
  (case k54=>k_is)
  (case z_tuple=>k_is)
  (case z_max=>k_is)
  (case z_dict=>k_is)
  (case z_list=>k_is)
  (case z_zip=>k_is)
  (case z_sorted=>k_is)
  (case z_len=>k_is)
  (case z_enumerate=>k_is)
  (case z_range=>k_is)
  (case g_WRONG_IN_A_ROW=>k_is)
  (case g_TICKS_LOCKED=>k_is)
  (case g_KINDS_SHUT_TO_SET=>k_is)
  (case q_KINDS_SHUT_TO_SET=>k_is)
  (case g_KINDS_LEFT_BY=>k_is)
  (case q_KINDS_LEFT_BY=>k_is)
  (case g_DEEDS_OF_ZONES=>k_is)
  (case q_DEEDS_OF_ZONES=>k_is)
  (case hCH=>first|rfl|(with_unfolding_all rfl)|kernel_rfl)
end
end
