import PyProof.Rows.All
import Wide.All
import OpenK.AllK
import Wide.FinOn
import Lean
import PyProof.EqAt
import PyProof.EqKinds
import PyProof.TupleCall
import PyProof.P3Statements
import KE.KSortTup
import PyProof.AttrMissHeap
import PyProof.ZipIter
import PyProof.Draws
import PyProof.ListMulRoad
import Wide.Seal
import KE.KLam
import KE.KNest
import KE.KNestM
import KE.KIsAll
import PyProof.ExcArgs
import PyProof.ReprStr
import PyProof.FString
import PyProof.FitsInt
import KE.KMinKey
import KE.KIntText
import KE.IntTextText
import PySem.Challenge.RW_doorwatch_k01_plans_and_events
set_option Elab.async false
set_option linter.all false
set_option maxRecDepth 100000
set_option maxHeartbeats 0
open PySem.W renaming Frag → y00, keepIn → y08, codeIn → y0f, fnOf → y0i, nsIn → y0s, mg_of → y12, mg_none_of → y1d, kitOne → y2z
open Option renaming bind_eq_some_iff → y01, map_eq_some_iff → y07, bind_some → y0p, map_some → y1r
open PySem renaming wpAny_bind → y02, Shared → y04, wpAny_pure → y06, starEach → y0a, FuncData → y0b, sizeLine → y0j, mainGlobals → y0n, Program → y0q, wpAny → y0u, wpAny_mono → y1e, mem_of_lookup → y26, wpAny_holding → y2f, backTo → y2g, wpAny_field → y2h, wpAny_callSpecial?_slot → y2i, wpAny_seqItems → y2j, wpAny_pyIter_tuple → y2k, compareOp → y2l, codeAny_builtin → y2m, wpAny_newObj_type → y2n, codeAny_mono → y2o, wpAny_call_entry → y2p, wpAny_setField_rec → y2q, behindInMarks → y2r, wpAny_truthy_bool → y2s, assignEach → y2t, binaryOp → y2u, NameKind → y2v, model → y2w, foldedSetIterable → y2x, rawInt → y2y
open PySem.Heap renaming get?_push_of_some → y03, lt_size → y0c, get?_push_size → y0l, size_push → y18, get?_update_other → y31
open List renaming mem_cons_of_mem → y05, mem_cons → y09, map_cons → y0d, mem_cons_self → y0e, replicate → y0g, size_toArray → y0h, getElem?_eq_some_iff → y0k, mem_map → y0m, nodup_cons → y0r, getElem?_eq_getElem → y0v, length_cons → y0w, mem_singleton → y0z, mem_append → y11, length_map → y14, getElem?_map → y15, pairwise_cons → y19, map_nil → y1a, mem_append_right → y1b, lookup_cons → y1g, set_cons_zero → y1j, set_cons_succ → y1l, getElem?_append_right → y1m, getElem?_append_left → y1n, Nodup → y1q, zip_cons_cons → y1z, length_append → y20, not_mem_nil → y25, getElem?_cons_zero → y27, getElem?_cons_succ → y28, length_nil → y2a, map_map → y2e
open Nat renaming le_refl → y0o, lt_of_lt_of_le → y0x, ne_of_lt → y0y, ne_of_gt → y16, le_trans → y1p, zero_le → y21, le_succ → y2b, le_add_right → y30
open PySem.Builtin.SmallTypes renaming nextOf → y0t, ownedTupleIsFree → y10
open PySem.Builtin.Tuple renaming tupleExact → y13
open Function renaming comp_def → y17
open Bool renaming and_eq_true → y1c, false_eq_true → y1t
open PySem.PyData renaming depthAll → y1f, canLayAll0 → y1h, str → y1v, eqv → y1y, depth → y22
open PyProof.Rows renaming slot_tuple_getitem → y1i, callWith_type1 → y1s
open PySem.Builtin.Slice renaming slicePlaces → y1k
open Array renaming getElem?_eq_getElem → y1o, length_toList → y1x
open PySem.Around renaming under_plainId → y1u
open False renaming elim → y1w
open PySem.PassesOwn renaming never → y23
open PySem.F renaming slot_tuple_iterator_next → y24
open Option.some renaming inj → y29
open Int renaming emod_nonneg → y2c, emod_lt_of_pos → y2d
namespace PySem.W.Fast
def tw15831379834553992331:=0
def tw696974085580781716:=0
def tw14367289265548363521:=0
def tw14883647813994783695:=0
def tw7974758676020822800:=0
def tw17635982697799632744:=0
def tw2764410973804232133:=0
def tw9729351569967095427:=0
def tw16137451169964283721:=0
def tw4001128966541723308:=0
def tw9523486171146367758:=0
def tw10746952991423921381:=0
def tw9789340585892098332:=0
def tw13215741829142208928:=0
def tw635210860114431832:=0
def tw10946889624035221941:=0
def tw59440301785252811:=0
def tw1440505025287573910:=0
def tw2312150719708783397:=0
def tw4052287700496129363:=0
def tw15480200342077388929:=0
def tw1458714230426930392:=0
def tw11055803563809787017:=0
def tw15361367115820405133:=0
def tw14781757400005351503:=0
def tw1531442452577555923:=0
def tw16595563543652945499:=0
def tw10536716170750097177:=0
def tw5653885654955342425:=0
def tw8898388534244894743:=0
def tw2544426727089478531:=0
def tw6584533930233517910:=0
def tw18174829095978437624:=0
def tw16964923306337750107:=0
def tw15027344553632370704:=0
def tw16880182025919598987:=0
def tw1102106215444251295:=0
def tw12264734274072494223:=0
def tw6565970371188734241:=0
def tw11989674568408018356:=0
def tw6676848569465907707:=0
def tw9902596084971685247:=0
def tw2827399552349357822:=0
def tw6335886592970925068:=0
def tw18280789745976103082:=0
def tw1809715754563343061:=0
def tw1470983533818774276:=0
def tw12772970423620753364:=0
def tw10886302276220224056:=0
def tw12920468836842674253:=0
def tw6332467384451134364:=0
def tw6674827683852307850:=0
def tw3817824398075592518:=0
def tw10903570275176183137:=0
def tw10885503093269776:=0
def tw17578203848856653778:=0
def tw5883498614218798482:=0
def tw17277082899057816324:=0
def tw7557324077019517610:=0
def tw8479389454171455625:=0
def tw49799316156504986:=0
def tw15547520346191299324:=0
def tw1587498252218909418:=0
def tw13588410028713020658:=0
def tw1056263401485440559:=0
def tw8391987775168475612:=0
def tw5029702353088488381:=0
def tw9939248609013292619:=0
def tw7206902761811879366:=0
def tw7267147305637244724:=0
def tw6442777817500625878:=0
def tw5316987335830823209:=0
def tw6079662175650363140:=0
def tw10878363728996822254:=0
def tw7045399489257356157:=0
def tw7982983000275630761:=0
def tw5517080150968716837:=0
def tw7680226870231004382:=0
def tw11223127086361053304:=0
def tw12737750587564776910:=0
def tw16278722372538895847:=0
def tw6865633454931604770:=0
def tw14064781495968170473:=0
def tw8815969751715560841:=0
def tw17054777290868673971:=0
end PySem.W.Fast
noncomputable section
section
namespace L2
open PySem PySem.Spec PyProof.Rows
abbrev Key:=Sum Int Str
def zfb:Key->Value->Bool
 | .inl k,v=>Value.isInt k v
 | .inr x,v=>Value.isStrOf x v
def keyH (w:World):Key->Int
 | .inl k=>hashInt k
 | .inr x=>hashStr w x
theorem z16:∀{k:Key} {v:Value},zfb k v=true->(∃i t,k=Sum.inl i/\v=Value.int i t)\/(∃x t,k=Sum.inr x/\v=Value.str x t)
 | .inl i,v,h=>by
  obtain⟨t,e⟩:=Value.isInt_shape (k:=i) (v:=v) h
  exact .inl ⟨i,t,rfl,e⟩
 | .inr x,v,h=>by
  obtain⟨t,e⟩:=Value.isStrOf_shape (x:=x) (v:=v) h
  exact .inr ⟨x,t,rfl,e⟩
theorem zkf (i:Int) (t:Tok):zfb (.inl i) (.int i t)=true:=by simp[zfb,Value.isInt]
theorem zke (x:Str) (t:Tok):zfb (.inr x) (.str x t)=true:=by simp[zfb,Value.isStrOf]
theorem zry (a b:Int):decide ((Sum.inl a:Key)=Sum.inl b)=(a == b):=by
 by_cases e:a=b
 ·subst e;simp
 ·have h:¬(Sum.inl a:Key)=Sum.inl b:=fun q=>e (Sum.inl.inj q)
  rw[decide_eq_false h]
  exact (beq_eq_false_iff_ne.mpr e).symm
theorem zrv (a b:Str):decide ((Sum.inr a:Key)=Sum.inr b)=decide (a=b):=by
 by_cases e:a=b
 ·subst e;simp
 ·have h:¬(Sum.inr a:Key)=Sum.inr b:=fun q=>e (Sum.inr.inj q)
  rw[decide_eq_false h,decide_eq_false e]
theorem zrx (a:Int) (b:Str):decide ((Sum.inl a:Key)=Sum.inr b)=false:=decide_eq_false (fun q=>nomatch q)
theorem zrw (a:Str) (b:Int):decide ((Sum.inr a:Key)=Sum.inl b)=false:=decide_eq_false (fun q=>nomatch q)
noncomputable def z2o (prog:y0q) (w:World):PySem.KeyKind prog w Key where
 is:=zfb
 hash:=keyH w
 inj:=fun v a b ha hb=>by
  rcases z16 ha with ⟨i,t,rfl,rfl⟩|⟨x,t,rfl,rfl⟩
  ·rcases z16 hb with ⟨j,u,rfl,e⟩|⟨y,u,rfl,e⟩
   ·injection e with e1 _;rw[e1]
   ·exact nomatch e
  ·rcases z16 hb with ⟨j,u,rfl,e⟩|⟨y,u,rfl,e⟩
   ·exact nomatch e
   ·injection e with e1 _;rw[e1]
 byValue:=fun k v h=>by
  rcases z16 h with ⟨i,t,rfl,rfl⟩|⟨x,t,rfl,rfl⟩ <;> rfl
 pyHash:=fun hv h=>by
  rcases z16 hv with ⟨i,t,rfl,rfl⟩|⟨x,t,rfl,rfl⟩
  ·exact wpAny_pyHash_int h
  ·exact wpAny_pyHash_str h
 eqBool:=fun hu hv h=>by
  rcases z16 hu with ⟨i,t,rfl,rfl⟩|⟨x,t,rfl,rfl⟩
  ·rcases z16 hv with ⟨j,u,rfl,rfl⟩|⟨y,u,rfl,rfl⟩
   ·rw[zry] at h;exact wpAny_eqBool_int h
   ·rw[zrx] at h;exact SeqAt.EqAt.int_str i t y u _ _ _ _ h
  ·rcases z16 hv with ⟨j,u,rfl,rfl⟩|⟨y,u,rfl,rfl⟩
   ·rw[zrw] at h;exact SeqAt.EqAt.str_int x t j u _ _ _ _ h
   ·rw[zrv] at h;exact wpAny_eqBool_str h
 «strs»:=fun k x t v h=>by
  rcases z16 h with ⟨i,u,rfl,e⟩|⟨y,u,rfl,e⟩
  ·exact nomatch e
  ·injection e with e1 _
   subst e1
   cases v <;> rfl
theorem zae (prog:y0q) (w:World) (k:Key) (v:Value):(z2o prog w).is k v=zfb k v:=rfl
theorem zfa (prog:y0q) (w:World) (i:Int) (t:Tok):(z2o prog w).is (.inl i) (.int i t)=true:=zkf i t
theorem zf9 (prog:y0q) (w:World) (x:Str) (t:Tok):(z2o prog w).is (.inr x) (.str x t)=true:=zke x t
end L2
namespace L2
open PySem PySem.Spec PyProof.Rows
inductive V where
 | non|bl (b:Bool)|int (i:Int)|str (x:Str)|byt (b:Array UInt8)|flt (b:UInt64)|ref (a:Addr)|ty (n:String)
 deriving DecidableEq
noncomputable def RelV:V->Value->Prop
 | .non,u=>u=Value.none
 | .bl b,u=>u=Value.bool b
 | .int i,u=>∃t,u=Value.int i t
 | .str x,u=>∃t,u=Value.str x t
 | .byt b,u=>∃t,u=Value.bytes b t
 | .flt b,u=>∃t,u=Value.float b t
 | .ref a,u=>u=Value.ref a
 | .ty n,u=>u=Value.type n
abbrev Vals:List V->List Value->Prop:=Paired RelV
theorem Vals.length {xs:List V} {us:List Value} (r:Vals xs us):xs.length=us.length:=Paired.length r
theorem Vals.get:∀{xs:List V} {us:List Value} {i:Nat} {x:V},Vals xs us->xs[i]?=some x->∃u,us[i]?=some u/\RelV x u
 | _,_,_,_,.nil,e=>by simp at e
 | _,_,0,_,.cons r _,e=>by simp at e;subst e;exact⟨_,rfl,r⟩
 | _,_,i+1,x,.cons _ t,e=>by
  obtain⟨u,h1,h2⟩:=Vals.get (i:=i) (x:=x) t (by simpa using e)
  exact⟨u,by simpa using h1,h2⟩
theorem Vals.append:∀{xs ys:List V} {us ws:List Value},Vals xs us->Vals ys ws->Vals (xs++ys) (us++ws)
 | _,_,_,_,.nil,s=>s
 | _,_,_,_,.cons r t,s=>.cons r (Vals.append t s)
theorem Vals.take:∀{xs:List V} {us:List Value} (n:Nat),Vals xs us->Vals (xs.take n) (us.take n)
 | _,_,0,_=>.nil
 | _,_,_+1,.nil=>.nil
 | _,_,n+1,.cons r t=>.cons r (Vals.take n t)
theorem Vals.drop:∀{xs:List V} {us:List Value} (n:Nat),Vals xs us->Vals (xs.drop n) (us.drop n)
 | _,_,0,r=>r
 | _,_,_+1,.nil=>.nil
 | _,_,n+1,.cons _ t=>Vals.drop n t
def RelO:Option V->Option Value->Prop
 | some v,some u=>RelV v u
 | none,none=>True
 | _,_=>False
def KV {κ:Type}:List (κ×V)->List (κ×Value)->Prop:=Paired fun (p:κ×V) (q:κ×Value)=>p.1=q.1/\RelV p.2 q.2
def kV:Key->V
 | .inl i=>.int i
 | .inr x=>.str x
inductive HO where
 | lst (xs:List V)
 | tup (xs:List V)
 | dK (kvs:List (Key×V))|dT (kvs:List (List Key×V))
 | set (S:Int->Bool) (n:Nat)
 | ins (C dx:Addr) (fs:List (Str×V))
 | own (x:Addr)
 | xd (fs:List (Str×V))
 | met (f x:Addr)
 | rng (lo hi:Int)
 | frz (o:Obj) (u:HO)
 | tbl (ps:Array Value)
 | ext (φ:Heap->Prop)
abbrev Hp:=Addr->Option HO
def upd (H:Hp) (a:Addr) (o:HO):Hp:=fun b=>if b=a then some o else H b
theorem z0h {H:Hp} {a:Addr} {o:HO}:upd H a o a=some o:=by unfold upd;rw[if_pos rfl]
theorem z0f {H:Hp} {a b:Addr} {o:HO} (h:b≠a):upd H a o b=H b:=by unfold upd;rw[if_neg h]
theorem z0o {H:Hp} {a b:Addr} {o:HO} (h:H a=some o) (h':H b=none):a≠b:=by
 intro e;subst e;rw[h] at h';cases h'
section
variable (P:y0q) (w:World)
noncomputable def z6q (H:Hp) (h:Heap) (a:Addr):HO->Prop
 | .lst xs=>xs.length<=y0j/\∃(its:List Value) (n:Nat),Vals xs its/\h.get? a=some { cls:=.type "list",data:=.seq its.toArray n }
 | .tup xs=>xs.length<=y0j/\∃its:List Value,Vals xs its/\IsTup h a its.toArray
 | .dK kvs=>kvs.length<=y0j/\(a == sysModules)=false/\∃vs,KV kvs vs/\h.DictOf (z2o P w) a vs
 | .dT kvs=>kvs.length<=y0j/\(a == sysModules)=false/\∃xs:List (List Key×Addr×Value),
   Paired (fun (p:List Key×V) (q:List Key×Addr×Value)=>p.1=q.1/\H q.2.1=some (.tup (p.1.map kV))/\RelV p.2 q.2.2) kvs xs /\
   ∃o es ep,h.get? a=some o/\o.ExactDict/\o.data=.dict es ep/\es.toList=xs.map (entryOfKey (tupleKind (z2o P w)))/\(xs.map (·.1)).Nodup
 | .set S n=>h.SetOf (intKind P w) a S n
 | .ins C dx fs=>H dx=some (.own a)/\fs.length<=1000/\dx≠a/\h.get? a=some (PySem.W.instObj C dx) /\
   ∃mA,h.Ns1 dx mA/\(∀f,RelO (fs.lookup f) (mA f))/\PySem.Within mA (fs.map (·.1))
 | .own _=>∃o,h.get? a=some o
 | .xd fs=>∃mA,h.Ns1 a mA/\∀f,RelO (fs.lookup f) (mA f)
 | .rng lo hi=>∃t u v,h.get? a=some { cls:=.type "range",data:=.fields #[.int lo t,.int hi u,.int 1 v] }
 | .frz o u=>h.get? a=some o/\z6q H h a u
 | .tbl ps=>h.get? a=some { cls:=.none,data:=.fields ps }
 | .met f x=>h.get? a=some (PySem.W.methodObj (.ref f) (.ref x))
 | .ext φ=>φ h/\(∃o,h.get? a=some o)/\∀h1 h2:Heap,φ h1->(∀o,h1.get? a=some o->h2.get? a=some o)->φ h2
def HOk (H:Hp) (h:Heap):Prop:=∀a o,H a=some o->z6q P w H h a o
end
section
variable {P:y0q} {w:World} {H H':Hp} {h h':Heap} {a:Addr} {o:HO}
theorem z6q.lt (x:z6q P w H h a o):a<h.objs.size:=by
 cases o with
 | lst xs=>obtain⟨_,_,_,_,e⟩:=x;exact y0c e
 | tup xs=>obtain⟨_,_,_,p⟩:=x;exact p.lt
 | dK kvs=>obtain⟨_,_,_,_,o,_,_,e,_⟩:=x;exact y0c e
 | dT kvs=>obtain⟨_,_,_,_,o,_,_,e,_⟩:=x;exact y0c e
 | set S n=>obtain⟨o,_,_,_,e,_⟩:=x;exact y0c e
 | ins C dx fs=>obtain⟨_,_,_,e,_⟩:=x;exact y0c e
 | own y=>obtain⟨_,e⟩:=x;exact y0c e
 | xd fs=>obtain⟨_,⟨_,_,_,e,_⟩,_⟩:=x;exact y0c e
 | rng lo hi=>obtain⟨_,_,_,e⟩:=x;exact y0c e
 | frz ob u=>obtain⟨e,_⟩:=x;exact y0c e
 | tbl ps=>exact y0c (show h.get? a=some _ from x)
 | met f y=>exact y0c (show h.get? a=some _ from x)
 | ext φ=>obtain⟨_,⟨_,e⟩,_⟩:=x;exact y0c e
theorem Paired.mapP {α β:Type} {F G:α->β->Prop}:∀{l₁:List α} {l₂:List β},Paired F l₁ l₂->(∀a b,F a b->G a b)->Paired G l₁ l₂
 | _,_,.nil,_=>.nil
 | _,_,.cons r t,f=>.cons (f _ _ r) (Paired.mapP t f)
theorem z6q.stay (x:z6q P w H h a o) (k:∀b u,(b=a\/H b=some (.own a))->h.get? b=some u->h'.get? b=some u)
  (ho:∀b,H b=some (.own a)->H' b=some (.own a)) (ht:∀b xs,H b=some (.tup xs)->H' b=some (.tup xs)):z6q P w H' h' a o:=by
 induction o with
 | lst xs=>obtain⟨z,its,n,r,e⟩:=x;exact⟨z,its,n,r,k _ _ (.inl rfl) e⟩
 | tup xs=>obtain⟨z,its,r,ob,e,c⟩:=x;exact⟨z,its,r,ob,k _ _ (.inl rfl) e,c⟩
 | dK kvs=>obtain⟨z,y,vs,r,ob,es,ep,e,c⟩:=x;exact⟨z,y,vs,r,ob,es,ep,k _ _ (.inl rfl) e,c⟩
 | dT kvs =>
  obtain⟨z,y,xs,r,ob,es,ep,e,c⟩:=x
  exact⟨z,y,xs,Paired.mapP r fun p q z=>⟨z.1,ht _ _ z.2.1,z.2.2⟩,ob,es,ep,k _ _ (.inl rfl) e,c⟩
 | set S n=>obtain⟨ob,es,ep,t,e,c⟩:=x;exact⟨ob,es,ep,t,k _ _ (.inl rfl) e,c⟩
 | ins C dx fs =>
  obtain⟨d,z,ne,e,mA,⟨od,es,ep,e2,c⟩,r⟩:=x
  exact⟨ho _ d,z,ne,k _ _ (.inl rfl) e,mA,⟨od,es,ep,k _ _ (.inr d) e2,c⟩,r⟩
 | own y=>obtain⟨ob,e⟩:=x;exact⟨ob,k _ _ (.inl rfl) e⟩
 | xd fs=>obtain⟨mA,⟨od,es,ep,e,c⟩,r⟩:=x;exact⟨mA,⟨od,es,ep,k _ _ (.inl rfl) e,c⟩,r⟩
 | rng lo hi=>obtain⟨t,u,v,e⟩:=x;exact⟨t,u,v,k _ _ (.inl rfl) e⟩
 | frz ob u ih=>obtain⟨e,q⟩:=x;exact⟨k _ _ (.inl rfl) e,ih q⟩
 | tbl ps =>
  have e:h.get? a=some { cls:=.none,data:=.fields ps }:=x
  show h'.get? a=some { cls:=.none,data:=.fields ps }
  exact k a _ (.inl rfl) e
 | met f y =>
  have e:h.get? a=some (PySem.W.methodObj (.ref f) (.ref y)):=x
  show h'.get? a=some (PySem.W.methodObj (.ref f) (.ref y))
  exact k a _ (.inl rfl) e
 | ext φ=>obtain⟨p,⟨o,e⟩,st⟩:=x;exact⟨st _ _ p fun o q=>k _ _ (.inl rfl) q,⟨o,k _ _ (.inl rfl) e⟩,st⟩
theorem HOk.lt (x:HOk P w H h) (e:H a=some o):a<h.objs.size:=(x a o e).lt
theorem HOk.fresh (x:HOk P w H h) (e:h.objs.size<=a):H a=none:=by
 cases q:H a with
 | none=>rfl
 | some u=>exact absurd (y0x (x.lt q) e) (Nat.lt_irrefl _)
theorem HOk.kept (x:HOk P w H h) (k:∀b u,h.get? b=some u->h'.get? b=some u):HOk P w H h':=fun a o e =>
 (x a o e).stay (fun b u _ q=>k b u q) (fun _ q=>q) fun _ _ q=>q
theorem HOk.laid (x:HOk P w H h) (k:∀b u,h.get? b=some u->h'.get? b=some u) (hp:h.objs.size<=a) (new:z6q P w (upd H a o) h' a o):HOk P w (upd H a o) h':=fun b u e=>by
 have hn:=x.fresh hp
 by_cases hb:b=a
 ·subst hb;rw[z0h] at e;cases e;exact new
 ·rw[z0f hb] at e
  exact (x b u e).stay (fun c v _ q=>k c v q) (fun c q=>by rw[z0f (z0o q hn)];exact q) fun c xs q=>by rw[z0f (z0o q hn)];exact q
end
def Rd (H:Hp) (a:Addr) (u:HO):Prop:=H a=some u\/∃o,H a=some (.frz o u)
theorem Rd.ok {P:y0q} {w:World} {H:Hp} {h:Heap} {a:Addr} {u:HO} (r:Rd H a u) (x:HOk P w H h):z6q P w H h a u:=by
 rcases r with r|⟨o,r⟩
 ·exact x a u r
 ·obtain⟨_,q⟩:=x a _ r
  exact q
def Mut:Option HO->Prop
 | some (.lst _)=>True
 | some (.dK _)=>True
 | some (.dT _)=>True
 | some (.set _ _)=>True
 | some (.ins _ _ _)=>True
 | some (.ext _)=>True
 | _=>False
section
variable {P:y0q} {w:World} {H:Hp} {h h':Heap} {x e:Addr} {o':HO}
theorem HOk.write (ok:HOk P w H h) (mu:Mut (H x)) (he:e=x\/H e=some (.own x)) (k:∀b u,b≠e->h.get? b=some u->h'.get? b=some u) (heo:∃u,h'.get? e=some u)
  (new:z6q P w (upd H x o') h' x o'):HOk P w (upd H x o') h':=fun b u q=>by
 have nown:∀c y,H c=some (.own y)->c≠x:=fun c y r z=>by subst z;rw[r] at mu;exact mu
 have ntup:∀c xs,H c=some (.tup xs)->c≠x:=fun c xs r z=>by subst z;rw[r] at mu;exact mu
 by_cases hb:b=x
 ·subst hb;rw[z0h] at q;cases q;exact new
 ·rw[z0f hb] at q
  by_cases hbe:b=e
  ·have q':H b=some (.own x):=by
    rcases he with z|z
    ·exact absurd (hbe.trans z) hb
    ·rw[hbe];exact z
   rw[q] at q';cases q'
   obtain⟨v,hv⟩:=heo
   exact⟨v,by rw[hbe];exact hv⟩
  ·refine (ok b u q).stay (fun c v hc r=>k c v ?_ r) (fun c r=>by rw[z0f (nown c b r)];exact r) fun c xs r=>by rw[z0f (ntup c xs r)];exact r
   rcases hc with rfl|hc
   ·exact hbe
   ·rintro rfl
    rcases he with z|z
    ·exact nown c b hc z
    ·rw[hc] at z;cases z;exact hb rfl
end
structure Un (fs ex:List Addr) (H H':Hp) (h h':Heap):Prop where
 keep:∀b o,h.get? b=some o->H b=none->b∉fs->b∉ex->h'.get? b=some o
 slot:∀b o,h.get? b=some o->H b=none->b∈fs->b∉ex->∃sl,h'.get? b=some { o with slots:=sl }
 free:∀b o,h.get? b=some o->H b=none->b∉ex->H' b=none
 there:∀b o,h.get? b=some o->b∉ex->∃o',h'.get? b=some o'
 tups:∀b xs,H b=some (.tup xs)->H' b=some (.tup xs)
 frzs:∀b o u,H b=some (.frz o u)->H' b=some (.frz o u)
 tbls:∀b ps,H b=some (.tbl ps)->∃more,H' b=some (.tbl (ps++more))
section
variable {fs fs' ex ex':List Addr} {H H1 H2:Hp} {h h1 h2 h':Heap} {a x e:Addr} {o:HO}
theorem Un.any (u:Un fs ex H H1 h h1) {b:Addr} {ob:Obj} (q:h.get? b=some ob) (n:H b=none) (hx:b∉ex):∃sl,h1.get? b=some { ob with slots:=sl }:=by
 by_cases hb:b∈fs
 ·exact u.slot b ob q n hb hx
 ·exact⟨ob.slots,u.keep b ob q n hb hx⟩
theorem Un.kept (k:∀b u,h.get? b=some u->h'.get? b=some u):Un fs ex H H h h' :=
 ⟨fun b ob q _ _ _=>k b ob q,fun b ob q _ _ _=>⟨ob.slots,k b ob q⟩,fun _ _ _ n _=>n,fun b ob q _=>⟨ob,k b ob q⟩,fun _ _ q=>q,fun _ _ _ q=>q,fun _ ps q=>⟨#[],by rw[q];simp⟩⟩
theorem Un.refl:Un fs ex H H h h:=Un.kept fun _ _ q=>q
theorem Un.laid (k:∀b u,h.get? b=some u->h'.get? b=some u) (hp:h.objs.size<=a) (hn:H a=none):Un fs ex H (upd H a o) h h' where
 keep:=fun b u q _ _ _=>k b u q
 slot:=fun b u q _ _ _=>⟨u.slots,k b u q⟩
 free:=fun b u q n _=>by rw[z0f (y0y (y0x (y0c q) hp))];exact n
 there:=fun b u q _=>⟨u,k b u q⟩
 tups:=fun b xs q=>by rw[z0f (z0o q hn)];exact q
 frzs:=fun b u xs q=>by rw[z0f (z0o q hn)];exact q
 tbls:=fun b ps q=>⟨#[],by rw[z0f (z0o q hn),q];simp⟩
theorem Un.write (mu:Mut (H x)) (he:e=x\/H e=some (.own x)) (k:∀b u,b≠e->h.get? b=some u->h'.get? b=some u) (heo:∃u,h'.get? e=some u):Un fs ex H (upd H x o) h h':=by
 have hx:∀b,H b=none->b≠x:=fun b n z=>by subst z;rw[n] at mu;exact mu
 have hb:∀b,H b=none->b≠e:=fun b n z=>by
  subst z
  rcases he with r|r
  ·exact hx b n r
  ·rw[n] at r;cases r
 have hm:∀b u,H b=some u->¬Mut (some u)->b≠x:=fun b u q nm z=>by subst z;rw[q] at mu;exact nm mu
 refine⟨fun b u q n _ _=>k b u (hb b n) q,fun b u q n _ _=>⟨u.slots,k b u (hb b n) q⟩,fun b u q n _=>by rw[z0f (hx b n)];exact n,fun b u q _=>?_,
  fun b xs q=>by rw[z0f (hm b _ q fun z=>z)];exact q,fun b u xs q=>by rw[z0f (hm b _ q fun z=>z)];exact q,fun b ps q=>⟨#[],by rw[z0f (hm b _ q fun z=>z),q];simp⟩⟩
 by_cases hbe:b=e
 ·subst hbe;exact heo
 ·exact⟨u,k b u hbe q⟩
end
def trk (h:Heap) (H:Hp):List Addr:=(List.range h.objs.size).filter fun a=>(H a).isSome
def hidT (h:Heap) (H:Hp):Heap:=PySem.W.hideAll h (trk h H)
theorem zks (h:Heap) (H:Hp):(hidT h H).objs.size=h.objs.size:=PySem.W.hideAll_size _ _
theorem zna {h:Heap} {H:Hp} {b:Addr} {o:Obj} (e:h.get? b=some o) (n:H b=none):(hidT h H).get? b=some o :=
 PySem.W.hideAll_get _ e fun hm=>by
  have q:(H b).isSome=true:=(List.mem_filter.mp hm).2
  rw[n] at q;simp at q
theorem zpj {h:Heap} {H:Hp} {b:Addr} {o:Obj} (e:(hidT h H).get? b=some o):h.get? b=some o/\H b=none:=by
 have e':h.get? b=some o:=PySem.W.of_hideAll (trk h H) e
 refine⟨e',?_⟩
 cases q:H b with
 | none=>rfl
 | some x =>
  have hm:b∈trk h H:=List.mem_filter.mpr ⟨List.mem_range.mpr (y0c e'),by simp[q]⟩
  have z:(hidT h H).get? b=none:=PySem.W.hideAll_none (trk h H) hm
  rw[z] at e;cases e
def zq2 (g h:Heap) (L:Addr):List (Addr×Obj):=(List.range h.objs.size).filterMap fun a=>if a=L\/(g.get? a).isSome=true then none else (h.get? a).map fun o=>(a,o)
def rest (g h:Heap) (L d:Addr):List (Addr×Obj):=(zq2 g h L).filter fun p=>decide (p.1≠d)
end L2
namespace L2
open PySem PySem.Spec PyProof.Rows
structure Mod (K:y00) (mg:Str->Option Value) (base:Heap):Prop where
 kin:K.In base
 glob:base.Ns y0n mg
 blt:∃mb,base.Ns builtinsNs mb/\∀x:Str,x≠"__name__"->mb x=bootBuiltins x
 nolimit:base.NoLimit
structure Cx where
 prog:y0q
 w:World
 K:y00
 mg:Str->Option Value
 base:Heap
 A:Around
 N:List Str
 s₀:y04
 H₀:Hp
 env:Env
 outer:List Env
 stack:List Env
 ex:List Addr
 fn:Str->Bool
 calm:Bool
 pn:List (Addr×Obj)
 xe:Value->y04->Prop
def frs (l:List Env):List Addr:=l.filterMap (·.frame)
abbrev Cx.fs (X:Cx):List Addr:=frs X.outer
def Vis (sc:Scope) (x:Str):Prop:=sc.names.lookup x=some .local\/sc.names.lookup x=some .cell\/sc.names.lookup x=some .free
def Loc (sc:Scope) (x:Str):Prop:=sc.names.lookup x=some .local\/sc.names.lookup x=some .cell
noncomputable def Look (env:Env) (h:Heap) (m:Str->Option Value) (x:Str) (u:Value):Prop :=
 (env.kindOf x=some .local/\m x=some u)\/((env.kindOf x=some .cell\/env.kindOf x=some .free)/\∃c,env.cells.lookup x=some c/\h.IsCell c (some u))
structure Cx.Ok (X:Cx):Prop where
 mod:Mod X.K X.mg X.base
 kind:X.env.scope.kind=.function
 glob:X.env.globals=y0n
 blt:X.env.builtins=builtinsNs
 above:X.s₀.heap.objs.size<=X.env.locals
 inj:∀x y c,X.env.cells.lookup x=some c->X.env.cells.lookup y=some c->x=y
 has:∀x,(X.env.kindOf x=some .cell\/X.env.kindOf x=some .free)->∃c,X.env.cells.lookup x=some c
 cab:∀x c,X.fn x=true->X.env.cells.lookup x=some c->X.s₀.heap.objs.size<=c
 hd:X.calm=true->X.A.handled=none
 frames:X.A.frames=some X.stack
 stk:X.stack=X.outer\/(X.stack=X.env::X.outer/\X.env.frame=some X.env.locals)
 exf:∀b∈X.ex,b≠X.env.locals/\∀x c,X.env.cells.lookup x=some c->c≠b
 bs:∀b o,X.base.get? b=some o->X.s₀.heap.get? b=some o/\X.H₀ b=none
 bsz:X.base.objs.size<=X.s₀.heap.objs.size
 noex:∀b o,X.base.get? b=some o->b∉X.ex
 exfs:∀b∈X.ex,b∉X.fs
 funs:X.s₀.heap.FunFrames X.base X.outer
 frf:∀b∈X.fs,X.H₀ b=none
structure Inv (X:Cx) (pins:List (Addr×Obj)) (σ:List (Option V)) (H:Hp) (s:y04):Prop where
 ok:X.Ok
 os:s.os=X.s₀.os
 bare:AllBare s.gens
 base:Un X.fs X.ex X.H₀ H X.s₀.heap s.heap
 loc:∃m,s.heap.Ns X.env.locals m/\∀(i:Nat) (x:Str) (v:V),X.N[i]?=some x->σ[i]?=some (some v)->Vis X.env.scope x->∃u,RelV v u/\Look X.env s.heap m x u
 cell:∀x c,X.env.cells.lookup x=some c->∃v,s.heap.IsCell c v
 free:H X.env.locals=none
 freeC:∀x c,X.env.cells.lookup x=some c->H c=none
 pin:∀p∈X.pn++pins,s.heap.get? p.1=some p.2/\H p.1=none/\p.1≠X.env.locals/\p.1∉X.fs/\∀v,p.2.data≠.cell v
 hok:HOk X.prog X.w H s.heap
 len:σ.length=X.N.length
section
variable {X:Cx} {pins:List (Addr×Obj)} {σ:List (Option V)} {H H':Hp} {s:y04} {h':Heap}
theorem Cx.Ok.nofr (ok:X.Ok) {b:Addr} {o:Obj} (e:X.base.get? b=some o):b∉X.fs:=fun hb=>by
 have:=(ok.funs.mem hb).1
 rw[e] at this;cases this
theorem Inv.bs (I:Inv X pins σ H s):∀b o,X.base.get? b=some o->s.heap.get? b=some o/\H b=none:=fun b o e =>
 ⟨I.base.keep b o (I.ok.bs b o e).1 (I.ok.bs b o e).2 (I.ok.nofr e) (I.ok.noex b o e),I.base.free b o (I.ok.bs b o e).1 (I.ok.bs b o e).2 (I.ok.noex b o e)⟩
theorem Inv.bk (I:Inv X pins σ H s):∀b o,X.base.get? b=some o->s.heap.get? b=some o:=fun b o e=>(I.bs b o e).1
theorem Inv.mod (I:Inv X pins σ H s):Mod X.K X.mg X.base:=I.ok.mod
theorem Inv.kIn (I:Inv X pins σ H s):X.K.In s.heap:=I.ok.mod.kin.keeps I.bk
theorem Inv.lt (I:Inv X pins σ H s):X.env.locals<s.heap.objs.size:=let ⟨_,hn,_⟩:=I.loc;hn.lt
theorem Inv.sz (I:Inv X pins σ H s):X.s₀.heap.objs.size<=s.heap.objs.size:=y1p I.ok.above (Nat.le_of_lt I.lt)
theorem Inv.nofs (I:Inv X pins σ H s) {a:Addr} (h:s.heap.objs.size<=a):a∉X.fs:=fun hb=>by
 obtain⟨_,o,ho,_⟩:=I.ok.funs.mem hb
 exact absurd (y0x (y0c ho) (y1p I.sz h)) (Nat.lt_irrefl _)
theorem Inv.cne (I:Inv X pins σ H s):∀x c,X.env.cells.lookup x=some c->c≠X.env.locals:=fun x c e z=>by
 obtain⟨v,o,ho,hd⟩:=I.cell x c e
 obtain⟨m,⟨o',es,ep,ho',hd',_⟩,_⟩:=I.loc
 rw[z,ho'] at ho;cases ho;rw[hd'] at hd;cases hd
theorem Inv.funs (I:Inv X pins σ H s):s.heap.FunFrames X.base X.outer:=by
 have all:∀(l:List Env),(∀b∈frs l,b∈X.fs)->X.s₀.heap.FunFrames X.base l->s.heap.FunFrames X.base l:=by
  intro l
  induction l with
  | nil=>intro _ _;trivial
  | cons env r ih =>
   intro hs hl
   obtain⟨hk,⟨L,o,hf,hn,ho,hd⟩,hr⟩:=hl
   have hL:L∈X.fs:=hs L (by unfold frs;rw[List.filterMap_cons,hf];exact y0e)
   obtain⟨sl,e⟩:=I.base.slot L o ho (I.ok.frf L hL) hL fun z=>I.ok.exfs L z hL
   exact⟨hk,⟨L,_,hf,hn,e,hd⟩,ih (fun b hb=>hs b (by unfold frs;rw[List.filterMap_cons,hf];exact y05 _ hb)) hr⟩
 exact all X.outer (fun _ hb=>hb) I.ok.funs
theorem Inv.stack (I:Inv X pins σ H s):s.heap.FunFrames X.base X.stack:=by
 rcases I.ok.stk with e|⟨e,hf⟩
 ·rw[e];exact I.funs
 ·rw[e]
  obtain⟨m,hn,_⟩:=I.loc
  refine .cons (by rw[I.ok.kind];decide) hf hn ?_ I.funs
  exact Heap.get?_none_of_le (y1p I.ok.bsz I.ok.above)
theorem Inv.stkSub (I:Inv X pins σ H s):∀b∈frs X.stack,b∈X.env.locals::X.fs:=fun b hb=>by
 rcases I.ok.stk with e|⟨e,hf⟩
 ·rw[e] at hb;exact y05 _ hb
 ·rw[e] at hb
  unfold frs at hb
  rw[List.filterMap_cons,hf] at hb
  exact hb
theorem Inv.stkFree (I:Inv X pins σ H s):∀b∈frs X.stack,H b=none:=fun b hb=>by
 rcases y09.mp (I.stkSub b hb) with e|hb
 ·rw[e];exact I.free
 ·obtain⟨_,o,ho,_⟩:=I.ok.funs.mem hb
  exact I.base.free b o ho (I.ok.frf b hb) fun z=>I.ok.exfs b z hb
theorem Inv.step {g':Array GenState} {t':Nat} {d':Drawn} {ch:List Addr} (I:Inv X pins σ H s)
  (hch:∀b∈ch,(b∈X.ex\/X.s₀.heap.objs.size<=b)/\b≠X.env.locals/\(∀x c,X.env.cells.lookup x=some c->c≠b)/\∀p∈X.pn++pins,p.1≠b)
  (keep:∀b o,b≠X.env.locals->b∉X.fs->b∉ch->s.heap.get? b=some o->H b=none->h'.get? b=some o)
  (slot:∀b o,b≠X.env.locals->b∈X.fs->b∉ch->s.heap.get? b=some o->H b=none->∃sl,h'.get? b=some { o with slots:=sl }) (free:∀b o,b∉ch->s.heap.get? b=some o->H b=none->H' b=none)
  (there:∀b o,b∉ch->s.heap.get? b=some o->∃o',h'.get? b=some o')
  (tups:∀b xs,H b=some (.tup xs)->H' b=some (.tup xs)) (frzs:∀b o u,H b=some (.frz o u)->H' b=some (.frz o u)) (tbls:∀b ps,H b=some (.tbl ps)->∃more,H' b=some (.tbl (ps++more)))
  (ns:∀m,s.heap.Ns X.env.locals m->h'.Ns X.env.locals m) (hok:HOk X.prog X.w H' h') (hg:AllBare g') :
  Inv X pins σ H' { s with heap:=h',gens:=g',drawn:=d',toks:=t' }:=by
 have neL:∀b o,X.s₀.heap.get? b=some o->b≠X.env.locals:=fun b o e=>y0y (y0x (y0c e) I.ok.above)
 have neC:∀b o,X.s₀.heap.get? b=some o->b∉X.ex->b∉ch:=fun b o e hx hb=>by
  rcases (hch b hb).1 with z|z
  ·exact hx z
  ·exact absurd (y0x (y0c e) z) (Nat.lt_irrefl _)
 have cellK:∀x c,X.env.cells.lookup x=some c->∀v,s.heap.IsCell c v->h'.IsCell c v:=fun x c e v ⟨o,ho,hd⟩=>by
  have nch:c∉ch:=fun z=>(hch c z).2.2.1 x c e rfl
  by_cases hc:c∈X.fs
  ·obtain⟨sl,q⟩:=slot c o (I.cne x c e) hc nch ho (I.freeC x c e)
   exact⟨_,q,hd⟩
  ·exact⟨o,keep c o (I.cne x c e) hc nch ho (I.freeC x c e),hd⟩
 refine⟨I.ok,I.os,hg,⟨fun b o e n hb hx=>?_,fun b o e n hb hx=>?_,fun b o e n hx=>?_,fun b o e hx=>?_,fun b xs e=>tups b xs (I.base.tups b xs e),fun b o xs e=>frzs b o xs (I.base.frzs b o xs e),fun b ps e=>?_⟩,?_,fun x c e=>?_,?_,fun x c e=>?_,fun p hp=>?_,hok,I.len⟩
 ·exact keep b o (neL b o e) hb (neC b o e hx) (I.base.keep b o e n hb hx) (I.base.free b o e n hx)
 ·obtain⟨sl,e1⟩:=I.base.slot b o e n hb hx
  obtain⟨sl',e2⟩:=slot b _ (neL b o e) hb (neC b o e hx) e1 (I.base.free b o e n hx)
  exact⟨sl',e2⟩
 ·obtain⟨o',e1⟩:=I.base.there b o e hx
  exact free b o' (neC b o e hx) e1 (I.base.free b o e n hx)
 ·obtain⟨o',e1⟩:=I.base.there b o e hx
  exact there b o' (neC b o e hx) e1
 ·obtain⟨m1,e1⟩:=I.base.tbls b ps e
  obtain⟨m2,e2⟩:=tbls b _ e1
  exact⟨m1++m2,by rw[e2,Array.append_assoc]⟩
 ·obtain⟨m,hn,hl⟩:=I.loc
  refine⟨m,ns m hn,fun i x v e1 e2 e3=>?_⟩
  obtain⟨u,r,l⟩:=hl i x v e1 e2 e3
  refine⟨u,r,?_⟩
  rcases l with l|⟨k,c,e,z⟩
  ·exact .inl l
  ·exact .inr ⟨k,c,e,cellK x c e _ z⟩
 ·obtain⟨v,z⟩:=I.cell x c e
  exact⟨v,cellK x c e v z⟩
 ·obtain⟨m,⟨o,_,_,ho,_⟩,_⟩:=I.loc
  exact free _ o (fun z=>(hch _ z).2.1 rfl) ho I.free
 ·obtain⟨v,o,ho,hd⟩:=I.cell x c e
  exact free c o (fun z=>(hch c z).2.2.1 x c e rfl) ho (I.freeC x c e)
 ·obtain⟨e,n,ne,nf,d⟩:=I.pin p hp
  have nch:p.1∉ch:=fun z=>(hch p.1 z).2.2.2 p hp rfl
  exact⟨keep p.1 p.2 ne nf nch e n,free p.1 p.2 nch e n,ne,nf,d⟩
theorem Inv.un {t':Nat} (I:Inv X pins σ H s) (u:Un X.fs [] H H' s.heap h') (hok:HOk X.prog X.w H' h'):Inv X pins σ H' { s with heap:=h',toks:=t' }:=by
 obtain⟨m,⟨o,es,ep,ho,r⟩,_⟩:=id I.loc
 obtain⟨sl,hL⟩:=u.any ho I.free (by simp)
 exact I.step (g':=s.gens) (d':=s.drawn) (ch:=[]) (fun _ z=>nomatch z) (fun b o _ hb _ e n=>u.keep b o e n hb (by simp)) (fun b o _ hb _ e n=>u.slot b o e n hb (by simp)) (fun b o _ e n=>u.free b o e n (by simp)) (fun b o _ e=>u.there b o e (by simp)) u.tups u.frzs u.tbls (fun m' hm=>by
  obtain⟨o',es',ep',ho',r'⟩:=hm
  rw[ho] at ho';cases ho'
  exact⟨_,es',ep',hL,r'⟩) hok I.bare
theorem Inv.call {g':Array GenState} {t':Nat} {d':Drawn} {ch:List Addr} (I:Inv X pins σ H s) (u:Un (frs X.stack) ch H H' s.heap h') (hok:HOk X.prog X.w H' h') (hg:AllBare g')
  (hch:∀b∈ch,(b∈X.ex\/X.s₀.heap.objs.size<=b)/\b≠X.env.locals/\(∀x c,X.env.cells.lookup x=some c->c≠b)/\∀p∈X.pn++pins,p.1≠b) :
  Inv X pins σ H' { s with heap:=h',gens:=g',drawn:=d',toks:=t' }:=by
 obtain⟨m,⟨o,es,ep,ho,r⟩,_⟩:=id I.loc
 obtain⟨sl,hL⟩:=u.any ho I.free fun z=>(hch _ z).2.1 rfl
 exact I.step (ch:=ch) hch (fun b o hL hb hc e n=>u.keep b o e n (fun z=>(y09.mp (I.stkSub b z)).elim hL hb) hc) (fun b o _ _ hc e n=>u.any e n hc) (fun b o hc e n=>u.free b o e n hc) (fun b o hc e=>u.there b o e hc) u.tups u.frzs u.tbls (fun m' hm=>by
  obtain⟨o',es',ep',ho',r'⟩:=hm
  rw[ho] at ho';cases ho'
  exact⟨_,es',ep',hL,r'⟩) hok hg
theorem Inv.turned {t':Nat} {it:Addr} (I:Inv X pins σ H s) (k:∀b o,b≠it->s.heap.get? b=some o->h'.get? b=some o) (hn:H it=none) (hL:it≠X.env.locals)
  (h1:it∈X.ex\/X.s₀.heap.objs.size<=it) (h2:∀x c,X.env.cells.lookup x=some c->c≠it) (h3:∀p∈X.pn++pins,p.1≠it):Inv X pins σ H { s with heap:=h',toks:=t' }:=by
 have nit:∀b u,H b=some u->b≠it:=fun b u e z=>by rw[z,hn] at e;cases e
 refine I.step (g':=s.gens) (d':=s.drawn) (ch:=[it]) (fun b hb=>?_) (fun b o _ _ hc e _=>k b o (fun z=>hc (by simp[z])) e) (fun b o _ _ hc e _=>⟨o.slots,k b o (fun z=>hc (by simp[z])) e⟩) (fun _ _ _ _ n=>n)
  (fun b o hc e=>⟨o,k b o (fun z=>hc (by simp[z])) e⟩) (fun _ _ e=>e) (fun _ _ _ e=>e) (fun b ps e=>⟨#[],by rw[e];simp⟩) (fun m hm=>?_) (fun b u e=>?_) I.bare
 ·have e:b=it:=by simpa using hb
  subst e
  exact⟨h1,hL,h2,h3⟩
 ·obtain⟨o,es,ep,ho,r⟩:=hm
  exact⟨o,es,ep,k _ o (Ne.symm hL) ho,r⟩
 ·refine (I.hok b u e).stay (fun c v hc q=>k c v ?_ q) (fun _ q=>q) fun _ _ q=>q
  rcases hc with z|z
  ·rw[z];exact nit b u e
  ·exact nit c _ z
theorem Inv.tok (I:Inv X pins σ H s) (t:Nat):Inv X pins σ H { s with toks:=t }:=I.un (h':=s.heap) (t':=t) Un.refl I.hok
theorem Inv.kept {t':Nat} (I:Inv X pins σ H s) (k:∀b u,s.heap.get? b=some u->h'.get? b=some u):Inv X pins σ H { s with heap:=h',toks:=t' }:=I.un (Un.kept k) (I.hok.kept k)
theorem Inv.laid {a:Addr} {o:HO} {t':Nat} (I:Inv X pins σ H s) (k:∀b u,s.heap.get? b=some u->h'.get? b=some u) (hp:s.heap.objs.size<=a) (new:z6q X.prog X.w (upd H a o) h' a o) :
  Inv X pins σ (upd H a o) { s with heap:=h',toks:=t' }:=I.un (Un.laid k hp (I.hok.fresh hp)) (I.hok.laid k hp new)
theorem Inv.write {x e:Addr} {o:HO} {t':Nat} (I:Inv X pins σ H s) (mu:Mut (H x)) (he:e=x\/H e=some (.own x)) (k:∀b u,b≠e->s.heap.get? b=some u->h'.get? b=some u) (heo:∃u,h'.get? e=some u)
  (new:z6q X.prog X.w (upd H x o) h' x o):Inv X pins σ (upd H x o) { s with heap:=h',toks:=t' }:=I.un (Un.write mu he k heo) (I.hok.write mu he k heo new)
theorem Inv.pins_of {pins':List (Addr×Obj)} (I:Inv X pins σ H s) (h:∀p∈pins',s.heap.get? p.1=some p.2/\H p.1=none/\p.1≠X.env.locals/\p.1∉X.fs/\∀v,p.2.data≠.cell v):Inv X pins' σ H s :=
 ⟨I.ok,I.os,I.bare,I.base,I.loc,I.cell,I.free,I.freeC,fun p hp=>(y11.mp hp).elim (fun z=>I.pin p (List.mem_append_left _ z)) (h p),I.hok,I.len⟩
theorem zgi {N:List Str} (hN:N.Nodup) {i j:Nat} {x:Str} (a:N[i]?=some x) (b:N[j]?=some x):i=j:=by
 obtain⟨h1,e1⟩:=y0k.mp a
 obtain⟨h2,e2⟩:=y0k.mp b
 exact (List.getElem_inj hN).mp (e1.trans e2.symm)
theorem zby {M:Model} {A:Around} {E:Value->y04->Prop} {i:Nat} {x:Str} {v:V} {u:Value} {Q:Unit->y04->Prop} (I:Inv X pins σ H s) (hN:X.N.Nodup) (hi:X.N[i]?=some x) (hx:Loc X.env.scope x) (r:RelV v u)
  (h:∀s',Inv X pins (σ.set i (some v)) H s'->(∃a,Heap.SameBut a s.heap s'.heap/\(a=X.env.locals\/X.env.cells.lookup x=some a))->Q () s') (hf:X.fn x=true\/X.env.scope.names.lookup x=some .local:=by first|exact .inl rfl|exact .inr rfl|assumption):y0u M A (storeName X.env x u) Q E s:=by
 obtain⟨m,hn,hl⟩:=id I.loc
 have hcls:(X.env.scope.kind == .class || (X.env.scope.kind == .module && X.env.locals != X.env.globals))=false:=by rw[I.ok.kind];rfl
 have hiσ:i<σ.length:=by rw[I.len];exact (y0k.mp hi).1
 have cne:=I.cne
 have tracked:∀{a:Addr} {h':Heap},(∃o,s.heap.get? a=some o/\H a=none)->Heap.SameBut a s.heap h'->HOk X.prog X.w H h':=fun {a h'} ha hs b ob e=>by
  obtain⟨_,_,hfree⟩:=ha
  refine (I.hok b ob e).stay (fun c w' hc q=>(hs.2 c ?_).trans q) (fun _ q=>q) fun _ _ q=>q
  rintro rfl
  rcases hc with rfl|hc
  ·rw[hfree] at e;cases e
  ·rw[hfree] at hc;cases hc
 rcases hx with hk|hk
 ·refine wpAny_storeName_local hk hn (fun h' hn' hs=>?_) hcls
  obtain⟨oL,_,_,hoL,_⟩:=id hn
  refine h _ ⟨I.ok,I.os,I.bare,⟨fun b o e n hb hx=>?_,fun b o e n hb hx=>?_,I.base.free,fun b o e hx=>?_,I.base.tups,I.base.frzs,I.base.tbls⟩,⟨_,hn',fun j y v' e1 e2 e3=>?_⟩,fun y c e=>?_,I.free,I.freeC,fun p hp=>?_,tracked ⟨oL,hoL,I.free⟩ hs,by simpa using I.len⟩ ⟨_,hs,.inl rfl⟩
  ·exact (hs.2 b (y0y (y0x (y0c e) I.ok.above))).trans (I.base.keep b o e n hb hx)
  ·obtain⟨sl,e1⟩:=I.base.slot b o e n hb hx
   exact⟨sl,(hs.2 b (y0y (y0x (y0c e) I.ok.above))).trans e1⟩
  ·obtain⟨o',e1⟩:=I.base.there b o e hx
   exact⟨o',(hs.2 b (y0y (y0x (y0c e) I.ok.above))).trans e1⟩
  ·by_cases hj:j=i
   ·subst hj
    rw[hi] at e1;cases e1
    rw[List.getElem?_set_self hiσ] at e2
    cases e2
    exact⟨u,r,.inl ⟨hk,by simp⟩⟩
   ·rw[List.getElem?_set_ne (Ne.symm hj)] at e2
    obtain⟨u',r',q⟩:=hl j y v' e1 e2 e3
    refine⟨u',r',?_⟩
    rcases q with ⟨k,e⟩|⟨k,c,e,z⟩
    ·refine .inl ⟨k,?_⟩
     have:y≠x:=fun e=>hj (zgi hN e1 (e▸hi))
     simp[this,e]
    ·exact .inr ⟨k,c,e,z.sameBut hs (cne y c e)⟩
  ·obtain⟨w',z⟩:=I.cell y c e
   exact⟨w',z.sameBut hs (cne y c e)⟩
  ·obtain⟨e,n,ne,nf,d⟩:=I.pin p hp
   exact⟨(hs.2 p.1 ne).trans e,n,ne,nf,d⟩
 ·have hfn:X.fn x=true:=by
   rcases hf with z|z
   ·exact z
   ·rw[z] at hk;cases hk
  obtain⟨c,hc⟩:=I.ok.has x (.inl hk)
  obtain⟨w',z⟩:=I.cell x c hc
  refine wpAny_storeName_cell I.ok.kind hk hc z (fun h' hc' hs=>?_)
  obtain⟨oc,hoc,hocd⟩:=id z
  refine h { s with heap:=h' } ⟨I.ok,I.os,I.bare,⟨fun b o e n hb hx=>?_,fun b o e n hb hx=>?_,I.base.free,fun b o e hx=>?_,I.base.tups,I.base.frzs,I.base.tbls⟩,⟨m,hn.sameBut hs (Ne.symm (cne x c hc)),fun j y v' e1 e2 e3=>?_⟩,fun y c' e=>?_,I.free,I.freeC,fun p hp=>?_,tracked ⟨oc,hoc,I.freeC x c hc⟩ hs,by simpa using I.len⟩ ⟨c,hs,.inr hc⟩
  ·exact (hs.2 b (y0y (y0x (y0c e) (I.ok.cab x c hfn hc)))).trans (I.base.keep b o e n hb hx)
  ·obtain⟨sl,e1⟩:=I.base.slot b o e n hb hx
   exact⟨sl,(hs.2 b (y0y (y0x (y0c e) (I.ok.cab x c hfn hc)))).trans e1⟩
  ·obtain⟨o',e1⟩:=I.base.there b o e hx
   exact⟨o',(hs.2 b (y0y (y0x (y0c e) (I.ok.cab x c hfn hc)))).trans e1⟩
  ·by_cases hj:j=i
   ·subst hj
    rw[hi] at e1;cases e1
    rw[List.getElem?_set_self hiσ] at e2
    cases e2
    exact⟨u,r,.inr ⟨.inl hk,c,hc,hc'⟩⟩
   ·rw[List.getElem?_set_ne (Ne.symm hj)] at e2
    obtain⟨u',r',q⟩:=hl j y v' e1 e2 e3
    refine⟨u',r',?_⟩
    rcases q with q|⟨k,c',e,z'⟩
    ·exact .inl q
    ·refine .inr ⟨k,c',e,z'.sameBut hs ?_⟩
     rintro rfl
     exact hj (zgi hN e1 (I.ok.inj _ _ _ e hc▸hi))
  ·by_cases hcc:c'=c
   ·subst hcc;exact⟨_,hc'⟩
   ·obtain⟨w2,z2⟩:=I.cell y c' e
    exact⟨w2,z2.sameBut hs hcc⟩
  ·obtain⟨e,n,ne,nf,d⟩:=I.pin p hp
   refine⟨(hs.2 p.1 ?_).trans e,n,ne,nf,d⟩
   intro q
   rw[q,hoc] at e
   have q':oc=p.2:=y29 e
   exact d w' (by rw[<- q'];exact hocd)
theorem zg5 {M:Model} {A:Around} {E:Value->y04->Prop} {i:Nat} {x:Str} {v:V} {u:Value} {Q:Unit->y04->Prop} (I:Inv X pins σ H s) (hN:X.N.Nodup) (hi:X.N[i]?=some x) (hx:Loc X.env.scope x) (r:RelV v u)
  (h:∀s',Inv X pins (σ.set i (some v)) H s'->Q () s') (hf:X.fn x=true\/X.env.scope.names.lookup x=some .local:=by first|exact .inl rfl|exact .inr rfl|assumption):y0u M A (storeName X.env x u) Q E s :=
 zby I hN hi hx r (fun s' I' _=>h s' I') hf
end
abbrev XK:=Value->Option Addr->Hp->Prop
abbrev St:=List (Option V)
abbrev VK:=V->Hp->Prop
abbrev TE:=St->Hp->VK->Prop
abbrev TT:=St->Hp->(Bool->Hp->Prop)->Prop
abbrev TA:=St->Hp->(List V->Hp->Prop)->Prop
structure Ends where
 nx:St->Hp->Prop
 rt:VK
 bk:St->Hp->Prop:=fun _ _=>False
 ct:St->Hp->Prop:=fun _ _=>False
abbrev TS:=Ends->St->Hp->Prop
def EP (X:Cx) (pins:List (Addr×Obj)) (σ:St) (Q:VK) (u:Value) (s':y04):Prop:=∃v H',Inv X pins σ H' s'/\RelV v u/\Q v H'
def TP (X:Cx) (pins:List (Addr×Obj)) (σ:St) (Q:Bool->Hp->Prop) (b:Bool) (s':y04):Prop:=∃H',Inv X pins σ H' s'/\Q b H'
def AP (X:Cx) (pins:List (Addr×Obj)) (σ:St) (Q:List V->Hp->Prop) (us:List Value) (s':y04):Prop:=∃vs H',Inv X pins σ H' s'/\Vals vs us/\Q vs H'
noncomputable def SP (X:Cx) (pins:List (Addr×Obj)) (D:Ends) (f:Flow) (s':y04):Prop :=
 match f with
 | .next=>∃σ' H',Inv X pins σ' H' s'/\D.nx σ' H'
 | .brk=>∃σ' H',Inv X pins σ' H' s'/\D.bk σ' H'
 | .cont=>∃σ' H',Inv X pins σ' H' s'/\D.ct σ' H'
 | .ret u=>∃v σ' H',Inv X pins σ' H' s'/\RelV v u/\D.rt v H'
noncomputable def PE (X:Cx) (e:Expr) (t:TE):Prop :=
 ∀(pins:List (Addr×Obj)) (s:y04) (σ:St) (H:Hp) (Q:VK),Inv X pins σ H s->t σ H Q->y0u (y2w X.prog X.w) X.A (eval e X.env) (EP X pins σ Q) X.xe s
noncomputable def PT (X:Cx) (e:Expr) (t:TT):Prop :=
 ∀(pins:List (Addr×Obj)) (s:y04) (σ:St) (H:Hp) (Q:Bool->Hp->Prop),Inv X pins σ H s->t σ H Q->y0u (y2w X.prog X.w) X.A (isTrue e X.env (eval e X.env)) (TP X pins σ Q) X.xe s
noncomputable def PW (X:Cx) (e:Expr) (t:TT):Prop :=
 ∀(whole:Sem Value) (pins:List (Addr×Obj)) (s:y04) (σ:St) (H:Hp) (Q:Bool->Hp->Prop),Inv X pins σ H s->t σ H Q->y0u (y2w X.prog X.w) X.A (isTrue e X.env whole) (TP X pins σ Q) X.xe s
theorem PW.pt {X:Cx} {e:Expr} {t:TT} (h:PW X e t):PT X e t:=h _
noncomputable def PA (X:Cx) (es:List Expr) (t:TA):Prop :=
 ∀(pos:Pos) (pins:List (Addr×Obj)) (s:y04) (σ:St) (H:Hp) (Q:List V->Hp->Prop),Inv X pins σ H s->t σ H Q->y0u (y2w X.prog X.w) X.A (spliced (y2g pos (y0a es X.env))) (AP X pins σ Q) X.xe s
noncomputable def PS (X:Cx) (st:Stmt) (t:TS):Prop :=
 ∀(pins:List (Addr×Obj)) (s:y04) (σ:St) (H:Hp) (D:Ends),Inv X pins σ H s->t D σ H->y0u (y2w X.prog X.w) X.A (exec st X.env) (SP X pins D) X.xe s
noncomputable def PSs (X:Cx) (st:List Stmt) (t:TS):Prop :=
 ∀(pins:List (Addr×Obj)) (s:y04) (σ:St) (H:Hp) (D:Ends),Inv X pins σ H s->t D σ H->y0u (y2w X.prog X.w) X.A (execs st X.env) (SP X pins D) X.xe s
theorem thn {α:Type} {t:Sem α} {Q Q':α->y04->Prop} {M:Model} {A:Around} {E:Value->y04->Prop} {s:y04} (h:y0u M A t Q E s) (hQ:∀a s,Q a s->Q' a s):y0u M A t Q' E s:=y1e h hQ fun _ _ x=>x
end L2
namespace L2
open PySem PySem.Spec PyProof.Rows
section
variable {X:Cx}
def tVar (i:Nat):TE:=fun σ H Q=>∃v,σ[i]?=some (some v)/\Q v H
def tC (v:V):TE:=fun _ H Q=>Q v H
theorem zr6 {i:Nat} {x:Str} {pos:Pos} (hN:X.N[i]?=some x) (hv:Vis X.env.scope x) (hd:(x == ("__debug__":Str))=false:=by decide) (hcd:(x == ("__classdict__":Str))=false:=by decide):PE X (.Name x pos) (tVar i):=by
 intro pins s σ H Q I h
 obtain⟨v,e,h⟩:=h
 obtain⟨m,hn,hl⟩:=I.loc
 obtain⟨u,r,l⟩:=hl i x v hN e hv
 have fin:EP X pins σ Q u s:=⟨v,H,I,r,h⟩
 rcases l with ⟨hk,hm⟩|⟨hk,c,hc,hcell⟩
 ·exact wpAny_Name (wpAny_loadName_local I.ok.kind hk hn hm fin) hd
 ·rcases hk with hk|hk
  ·exact wpAny_Name (wpAny_loadName_cell I.ok.kind hk hc hcell fin) hd
  ·exact wpAny_Name (wpAny_loadName_free I.ok.kind hk hc hcell fin hcd) hd
theorem zo6 {i j pos}:PE X (.Constant (.int i) j pos) (tC (.int i)):=fun _ _ _ H _ I h=>wpAny_Constant_int ⟨.int i,H,I.tok _,⟨_,rfl⟩,h⟩
theorem zt1 {b j pos}:PE X (.Constant (.bool b) j pos) (tC (.bl b)):=fun _ _ _ H _ I h=>Constant_bool ⟨.bl b,H,I,rfl,h⟩
theorem zrb {j pos}:PE X (.Constant .none j pos) (tC .non):=fun _ _ _ H _ I h=>Constant_none ⟨.non,H,I,rfl,h⟩
theorem zr9 {x j pos}:PE X (.Constant (.str x) j pos) (tC (.str x)):=fun _ _ _ H _ I h=>Calls.Constant_str ⟨.str x,H,I.tok _,⟨_,rfl⟩,h⟩
def Gl (X:Cx) (x:Str):Prop:=X.env.kindOf x=some .globalImplicit
theorem zk9 {E:Value->y04->Prop} {pins:List (Addr×Obj)} {s:y04} {σ:St} {H:Hp} {x:Str} {u:Value} {pos:Pos} {Q:Value->y04->Prop} (I:Inv X pins σ H s) (hg:Gl X x) (hm:X.mg x=some u) (h:Q u s)
  (hd:(x == ("__debug__":Str))=false:=by decide):y0u (y2w X.prog X.w) X.A (eval (.Name x pos) X.env) Q E s :=
 Calls.Name_function_global I.ok.kind hg (Calls.loadGlobal_global (by rw[I.ok.glob];exact I.mod.glob.keeps I.bk) hm h) hd
theorem z93 {E:Value->y04->Prop} {pins:List (Addr×Obj)} {s:y04} {σ:St} {H:Hp} {x:Str} {u:Value} {pos:Pos} {Q:Value->y04->Prop} (I:Inv X pins σ H s) (hg:Gl X x) (hm:X.mg x=none) (hv:bootBuiltins x=some u) (h:Q u s)
  (hn:x≠"__name__":=by decide) (hd:(x == ("__debug__":Str))=false:=by decide):y0u (y2w X.prog X.w) X.A (eval (.Name x pos) X.env) Q E s:=by
 obtain⟨mb,h1,h2⟩:=I.mod.blt
 exact Calls.Name_function_global I.ok.kind hg (Calls.loadGlobal_builtin (by rw[I.ok.glob];exact I.mod.glob.keeps I.bk) hm (by rw[I.ok.blt];exact h1.keeps I.bk) ((h2 x hn).trans hv) h) hd
theorem zpd {x:Str} {v:V} {u:Value} {pos:Pos} (hg:Gl X x) (hm:X.mg x=some u) (r:RelV v u) (hd:(x == ("__debug__":Str))=false:=by decide):PE X (.Name x pos) (tC v) :=
 fun _ _ _ H _ I h=>zk9 I hg hm ⟨v,H,I,r,h⟩ hd
variable {a b:Expr} {ta tb:TE} {pos:Pos}
noncomputable def PC (X:Cx) (op:CmpOp) (a b:Expr) (t:TE):Prop :=
 ∀(pins:List (Addr×Obj)) (s:y04) (σ:St) (H:Hp) (Q:VK),Inv X pins σ H s->t σ H Q ->
  y0u (y2w X.prog X.w) X.A (eval a X.env) (fun v s₁=>y0u (y2w X.prog X.w) X.A (eval b X.env) (fun u s₂=>y0u (y2w X.prog X.w) X.A (y2l op v u) (EP X pins σ Q) X.xe s₂) X.xe s₁) X.xe s
theorem zmx (b:Expr) {op:CmpOp} (h:op≠.In) (h2:op≠.NotIn):y2r op b=false:=by
 have e1:(op == CmpOp.In)=false:=by cases op <;> first|rfl|exact absurd rfl h
 have e2:(op == CmpOp.NotIn)=false:=by cases op <;> first|rfl|exact absurd rfl h2
 cases b <;> simp[y2r,e1,e2]
def tIsN (ta:TE):TE:=fun σ H Q=>ta σ H fun x H1=>Q (.bl (decide (x=.non))) H1
theorem RelV.none_iff {x:V} {v:Value} (r:RelV x v):(v == Value.none)=decide (x=.non):=by
 cases x with
 | non=>cases r;rfl
 | bl _=>cases r;rfl
 | int _=>obtain⟨t,rfl⟩:=r;rfl
 | str _=>obtain⟨t,rfl⟩:=r;rfl
 | byt _=>obtain⟨t,rfl⟩:=r;rfl
 | flt _=>obtain⟨t,rfl⟩:=r;rfl
 | ref _=>cases r;rfl
 | ty _=>cases r;rfl
theorem zrh {j pos'} (ha:PE X a ta):PC X .Is a (.Constant .none j pos') (tIsN ta):=by
 intro pins s σ H Q I h
 refine thn (ha pins s σ H _ I h) fun v s1 ⟨x,H1,I1,r1,q1⟩=>?_
 exact Constant_none (is_none_gen ⟨.bl _,H1,I1,by rw[r1.none_iff];rfl,q1⟩)
def tB (t:TE):TT:=fun σ H Q=>t σ H fun x H1=>∃c,x=.bl c/\Q c H1
theorem zre {op:CmpOp} {t:TE} (h:PC X op a b t) (h1:y2r op b=false:=by first|exact zmx _ (by decide) (by decide)|rfl):PE X (.Compare a [op] [b] pos) t:=fun pins s σ H Q I hw=>wpAny_Compare1 (h pins s σ H Q I hw) h1
theorem zqz {e:Expr} {t:TE} (h:PE X e t) (he:∀whole,isTrue e X.env whole=(do let v <- whole;standAt e.pos;holding [v] (truthy v)):=by intro _;rfl):PT X e (tB t):=by
 intro pins s σ H Q I hw
 refine isTrue_plain (thn (h pins s σ H _ I hw) fun v s1 ⟨x,H1,I1,r1,q1⟩=>?_) (he _)
 obtain⟨d,rfl,q⟩:=q1
 cases r1
 exact y2s ⟨H1,I1,q⟩
variable {tA tB':TT} {rest:List Expr}
def tAnd (t u:TT):TT:=fun σ H Q=>t σ H fun c H1=>if c=true then u σ H1 Q else Q false H1
def tOr (t u:TT):TT:=fun σ H Q=>t σ H fun c H1=>if c=true then Q true H1 else u σ H1 Q
def tNot (t:TT):TT:=fun σ H Q=>t σ H fun c H1=>Q (!c) H1
theorem zp1 (ha:PT X a tA):PW X (.BoolOp .And [a] pos) tA:=by
 intro wh pins s σ H Q I h
 refine isTrue_and (thn (ha pins s σ H Q I h) fun c s1 e=>?_)
 cases c with
 | true=>exact isTrue_and_nil e
 | false=>exact e
theorem zqx (ha:PT X a tA):PW X (.BoolOp .Or [a] pos) tA:=by
 intro wh pins s σ H Q I h
 refine isTrue_or (thn (ha pins s σ H Q I h) fun c s1 e=>?_)
 cases c with
 | false=>exact isTrue_or_nil e
 | true=>exact e
theorem zqy (ha:PT X a tA) (hb:PW X (.BoolOp .And (b::rest) pos) tB'):PW X (.BoolOp .And (a::b::rest) pos) (tAnd tA tB'):=by
 intro wh pins s σ H Q I h
 refine isTrue_and (thn (ha pins s σ H _ I h) fun c s1 ⟨H1,I1,q1⟩=>?_)
 cases c with
 | true=>exact hb wh pins s1 σ H1 Q I1 q1
 | false=>exact⟨H1,I1,q1⟩
theorem zsu (ha:PT X a tA) (hb:PW X (.BoolOp .Or (b::rest) pos) tB'):PW X (.BoolOp .Or (a::b::rest) pos) (tOr tA tB'):=by
 intro wh pins s σ H Q I h
 refine isTrue_or (thn (ha pins s σ H _ I h) fun c s1 ⟨H1,I1,q1⟩=>?_)
 cases c with
 | true=>exact⟨H1,I1,q1⟩
 | false=>exact hb wh pins s1 σ H1 Q I1 q1
theorem zr0 (ha:PT X a tA):PT X (.UnaryOp .Not a pos) (tNot tA):=by
 intro pins s σ H Q I h
 exact isTrue_not (ha pins s σ H (fun c H1=>Q (!c) H1) I h)
def zso (ta tb:TE):TE:=fun σ H Q=>ta σ H fun x H1=>∃c,x=.bl c/\if c=true then tb σ H1 Q else Q (.bl false) H1
def tOrV (ta tb:TE):TE:=fun σ H Q=>ta σ H fun x H1=>∃c,x=.bl c/\if c=true then Q (.bl true) H1 else tb σ H1 Q
def zsj (ta:TE):TE:=fun σ H Q=>ta σ H fun x H1=>∃c,x=.bl c/\Q (.bl (!c)) H1
theorem zo5 {op} {t:TE} (h:PE X a t):PE X (.BoolOp op [a] pos) t:=fun pins s σ H Q I hw=>BoolOp_one (h pins s σ H Q I hw)
theorem zrg (ha:PE X a ta) (hb:PE X (.BoolOp .And (b::rest) pos) tb):PE X (.BoolOp .And (a::b::rest) pos) (zso ta tb):=by
 intro pins s σ H Q I h
 refine BoolOp_and (thn (ha pins s σ H _ I h) fun v s1 ⟨x,H1,I1,r1,q1⟩=>?_)
 obtain⟨c,rfl,q1⟩:=q1
 cases r1
 refine y2s ?_
 cases c with
 | true=>exact hb pins s1 σ H1 Q I1 q1
 | false=>exact⟨.bl false,H1,I1,rfl,q1⟩
theorem zsy (ha:PE X a ta) (hb:PE X (.BoolOp .Or (b::rest) pos) tb):PE X (.BoolOp .Or (a::b::rest) pos) (tOrV ta tb):=by
 intro pins s σ H Q I h
 refine BoolOp_or (thn (ha pins s σ H _ I h) fun v s1 ⟨x,H1,I1,r1,q1⟩=>?_)
 obtain⟨c,rfl,q1⟩:=q1
 cases r1
 refine y2s ?_
 cases c with
 | false=>exact hb pins s1 σ H1 Q I1 q1
 | true=>exact⟨.bl true,H1,I1,rfl,q1⟩
theorem zra (ha:PE X a ta):PE X (.UnaryOp .Not a pos) (zsj ta):=by
 intro pins s σ H Q I h
 refine UnaryOp_ (thn (ha pins s σ H _ I h) fun v s1 ⟨x,H1,I1,r1,q1⟩=>?_)
 obtain⟨c,rfl,q1⟩:=q1
 cases r1
 exact not_of (y2s ⟨.bl (!c),H1,I1,rfl,q1⟩)
end
end L2
namespace L2
open PySem PySem.Spec PyProof.Rows
noncomputable def SqL (K:y00) (H:Hp) (a:Addr) (xs:List V):Prop :=
 Rd H a (.lst xs) \/
  ∃(o:Obj) (its:Array Value) (n:Nat),K.lookup a=some o/\o.cls=.type "list"/\o.dict=none/\o.data=.seq its n/\its.size<=y0j/\Vals xs its.toList
noncomputable def SqT (K:y00) (H:Hp) (a:Addr) (xs:List V):Prop :=
 Rd H a (.tup xs) \/
  ∃(o:Obj) (its:Array Value) (n:Nat),K.lookup a=some o/\o.cls=.type "tuple"/\o.data=.seq its n/\its.size<=y0j/\Vals xs its.toList
noncomputable def absV:Value->Option V
 | .none=>some .non
 | .bool b=>some (.bl b)
 | .int i _=>some (.int i)
 | .str x _=>some (.str x)
 | .bytes b _=>some (.byt b)
 | .float b _=>some (.flt b)
 | .ref a=>some (.ref a)
 | .type n=>some (.ty n)
 | _=>none
theorem RelV.abs {x:V} {u:Value} (r:RelV x u):absV u=some x:=by
 cases x with
 | non=>cases r;rfl
 | bl _=>cases r;rfl
 | int _=>obtain⟨t,rfl⟩:=r;rfl
 | str _=>obtain⟨t,rfl⟩:=r;rfl
 | byt _=>obtain⟨t,rfl⟩:=r;rfl
 | flt _=>obtain⟨t,rfl⟩:=r;rfl
 | ref _=>cases r;rfl
 | ty _=>cases r;rfl
theorem RelV.inj {x y:V} {u:Value} (r:RelV x u) (q:RelV y u):x=y:=y29 (r.abs.symm.trans q.abs)
theorem Vals.inj:∀{xs ys:List V} {us:List Value},Vals xs us->Vals ys us->xs=ys
 | _,_,_,.nil,.nil=>rfl
 | _,_,_,.cons r t,.cons r' t'=>by rw[r.inj r',Vals.inj t t']
section
variable {X:Cx} {pins:List (Addr×Obj)} {σ:St} {H:Hp} {s:y04} {a:Addr} {xs ys:List V}
theorem SqL.of {K:y00} (h:H a=some (.lst xs)):SqL K H a xs:=.inl (.inl h)
theorem SqT.of {K:y00} (h:H a=some (.tup xs)):SqT K H a xs:=.inl (.inl h)
theorem Inv.list (I:Inv X pins σ H s) (h:SqL X.K H a xs):∃its:List Value,Vals xs its/\PlainL s.heap a its.toArray/\xs.length<=y0j:=by
 rcases h with h|⟨o,its,n,hk,hc,hd,hs,hz,r⟩
 ·obtain⟨z,its,n,r,e⟩:=h.ok I.hok
  exact⟨its,r,⟨_,n,e,rfl,rfl,rfl⟩,z⟩
 ·refine⟨its.toList,r,⟨o,n,I.kIn a o hk,hc,hd,by simpa using hs⟩,?_⟩
  have e:=r.length
  simp only[y1x] at e
  omega
theorem Inv.tuple (I:Inv X pins σ H s) (h:SqT X.K H a xs):∃its:List Value,Vals xs its/\IsTup s.heap a its.toArray/\xs.length<=y0j:=by
 rcases h with h|⟨o,its,n,hk,hc,hs,hz,r⟩
 ·obtain⟨z,its,r,p⟩:=h.ok I.hok
  exact⟨its,r,p,z⟩
 ·refine⟨its.toList,r,⟨o,I.kIn a o hk,hc,n,by simpa using hs⟩,?_⟩
  have e:=r.length
  simp only[y1x] at e
  omega
theorem Inv.list_inj (I:Inv X pins σ H s) (h:SqL X.K H a xs) (h':SqL X.K H a ys):xs=ys:=by
 obtain⟨its,r,⟨o,n,e,_,_,d⟩,_⟩:=I.list h
 obtain⟨its',r',⟨o',n',e',_,_,d'⟩,_⟩:=I.list h'
 rw[e] at e';cases e'
 rw[d] at d'
 injection d' with d1 _
 have:its=its':=by simpa using congrArg Array.toList d1
 subst this
 exact r.inj r'
theorem Inv.tuple_inj (I:Inv X pins σ H s) (h:SqT X.K H a xs) (h':SqT X.K H a ys):xs=ys:=by
 obtain⟨its,r,⟨o,e,_,n,d⟩,_⟩:=I.tuple h
 obtain⟨its',r',⟨o',e',_,n',d'⟩,_⟩:=I.tuple h'
 rw[e] at e';cases e'
 rw[d] at d'
 injection d' with d1 _
 have:its=its':=by simpa using congrArg Array.toList d1
 subst this
 exact r.inj r'
end
abbrev Cx.wish (X:Cx) (E:Value->y04->Prop):Cx:={ X with xe:=E }
abbrev Cx.nox (X:Cx):Cx:=X.wish fun _ _=>False
theorem Cx.Ok.wish {X:Cx} (ok:X.Ok) (E:Value->y04->Prop):(X.wish E).Ok :=
 ⟨ok.mod,ok.kind,ok.glob,ok.blt,ok.above,ok.inj,ok.has,ok.cab,ok.hd,ok.frames,ok.stk,ok.exf,ok.bs,ok.bsz,ok.noex,ok.exfs,ok.funs,ok.frf⟩
theorem Cx.Ok.unwish {X:Cx} {E:Value->y04->Prop} (ok:(X.wish E).Ok):X.Ok :=
 ⟨ok.mod,ok.kind,ok.glob,ok.blt,ok.above,ok.inj,ok.has,ok.cab,ok.hd,ok.frames,ok.stk,ok.exf,ok.bs,ok.bsz,ok.noex,ok.exfs,ok.funs,ok.frf⟩
section
variable {X:Cx} {pins:List (Addr×Obj)} {σ:St} {H:Hp} {s:y04} {E:Value->y04->Prop}
theorem Inv.wish (I:Inv X pins σ H s) (E:Value->y04->Prop):Inv (X.wish E) pins σ H s:=⟨I.ok.wish E,I.os,I.bare,I.base,I.loc,I.cell,I.free,I.freeC,I.pin,I.hok,I.len⟩
theorem Inv.unwish (I:Inv (X.wish E) pins σ H s):Inv X pins σ H s:=⟨I.ok.unwish,I.os,I.bare,I.base,I.loc,I.cell,I.free,I.freeC,I.pin,I.hok,I.len⟩
theorem SP.unwish {D:Ends} {f:Flow} {s':y04} (h:SP (X.wish E) pins D f s'):SP X pins D f s':=by
 cases f with
 | next=>obtain⟨σ',H',I,q⟩:=h;exact⟨σ',H',I.unwish,q⟩
 | brk=>obtain⟨σ',H',I,q⟩:=h;exact⟨σ',H',I.unwish,q⟩
 | cont=>obtain⟨σ',H',I,q⟩:=h;exact⟨σ',H',I.unwish,q⟩
 | ret u=>obtain⟨v,σ',H',I,r,q⟩:=h;exact⟨v,σ',H',I.unwish,r,q⟩
theorem PSs.nox {st:List Stmt} {t:TS} (h:PSs X.nox st t):PSs X st t:=fun pins s σ H D I hw =>
 y1e (h pins s σ H D (I.wish _) hw) (fun _ _ q=>q.unwish) fun _ _ z=>y1w z
end
section
variable {X:Cx} {st:Stmt} {rest:List Stmt} {t u:TS} {e:Expr} {te:TE} {pos:Pos}
def zsk:TS:=fun D σ H=>D.nx σ H
def tSeq (t u:TS):TS:=fun D σ H=>t { D with nx:=u D } σ H
theorem zp4:PSs X [] zsk:=fun _ _ σ H _ I h=>wpAny_execs_nil ⟨σ,H,I,h⟩
theorem zmj (h1:PS X st t) (h2:PSs X rest u):PSs X (st::rest) (tSeq t u):=by
 intro pins s σ H D I h
 refine wpAny_execs_cons (thn (h1 pins s σ H { D with nx:=u D } I h) fun f s1 q=>?_)
 cases f with
 | next =>
  obtain⟨σ',H',I',q⟩:=q
  exact h2 pins s1 σ' H' D I' q
 | ret v=>exact q
 | brk=>exact q
 | cont=>exact q
theorem zp3 (h1:PS X st t):PSs X [st] t:=by
 intro pins s σ H D I h
 refine wpAny_execs_cons (thn (h1 pins s σ H D I h) fun f s1 q=>?_)
 cases f with
 | next=>exact wpAny_execs_nil q
 | ret v=>exact q
 | brk=>exact q
 | cont=>exact q
theorem Inv.quiet {pins:List (Addr×Obj)} {σ:St} {H:Hp} {s:y04} (I:Inv X pins σ H s):interactive X.env=false:=by simp[interactive,I.ok.kind]
def zsl (te:TE):TS:=fun D σ H=>te σ H fun _ H1=>D.nx σ H1
theorem zp5 (he:PE X e te) (hs:swapsWith e none pos.line X.env=pure false:=by rfl):PS X (.Expr e pos) (zsl te):=by
 intro pins s σ H D I h
 exact wpAny_Expr_any (thn (he pins s σ H _ I h) fun v s1 ⟨x,H1,I1,r1,q1⟩=>⟨σ,H1,I1,q1⟩) I.quiet hs
def tRet (te:TE):TS:=fun D σ H=>te σ H D.rt
theorem zr1 (he:PE X e te):PS X (.Return (some e) pos) (tRet te):=by
 intro pins s σ H D I h
 exact wpAny_Return_some (thn (he pins s σ H _ I h) fun v s1 ⟨x,H1,I1,r1,q1⟩=>⟨x,σ,H1,I1,r1,q1⟩)
def tIfS (c:TT) (t u:TS):TS:=fun D σ H=>c σ H fun b H1=>if b=true then t D σ H1 else u D σ H1
theorem zsw {c:Expr} {a b:List Stmt} {tc:TT} (hc:PT X c tc) (ha:PSs X a t) (hb:PSs X b u):PS X (.If c a b pos) (tIfS tc t u):=by
 intro pins s σ H D I h
 refine wpAny_If (thn (hc pins s σ H _ I h) fun d s1 ⟨H1,I1,q1⟩=>?_)
 cases d with
 | true=>exact ha pins s1 σ H1 D I1 q1
 | false=>exact hb pins s1 σ H1 D I1 q1
end
abbrev TG:=V->St->Hp->(St->Hp->Prop)->Prop
abbrev TGs:=List V->St->Hp->(St->Hp->Prop)->Prop
noncomputable def PG (X:Cx) (target:Expr) (t:TG):Prop :=
 ∀(pins:List (Addr×Obj)) (s:y04) (σ:St) (H:Hp) (v:V) (u:Value) (Q:St->Hp->Prop),Inv X pins σ H s->RelV v u->t v σ H Q ->
  y0u (y2w X.prog X.w) X.A (assign target X.env u) (fun _ s'=>∃σ' H',Inv X pins σ' H' s'/\Q σ' H') X.xe s
noncomputable def PGs (X:Cx) (ts:List Expr) (t:TGs):Prop :=
 ∀(pins:List (Addr×Obj)) (s:y04) (σ:St) (H:Hp) (vs:List V) (us:List Value) (Q:St->Hp->Prop),Inv X pins σ H s->Vals vs us->t vs σ H Q ->
  y0u (y2w X.prog X.w) X.A (assignInOrder ((y2t ts X.env).map (·.2)) us) (fun _ s'=>∃σ' H',Inv X pins σ' H' s'/\Q σ' H') X.xe s
section
variable {X:Cx} {pos:Pos}
def zs6 (i:Nat):TG:=fun v σ H Q=>Q (σ.set i (some v)) H
theorem zpb {i:Nat} {x:Str} (hN:X.N.Nodup) (hi:X.N[i]?=some x) (hx:Loc X.env.scope x) (hf:X.fn x=true\/X.env.scope.names.lookup x=some .local:=by first|exact .inl rfl|exact .inr rfl|assumption):PG X (.Name x pos) (zs6 i):=by
 intro pins s σ H v u Q I r h
 exact wpAny_assign_Name (zg5 I hN hi hx r (fun s' I'=>⟨_,H,I',h⟩) hf)
def gNil:TGs:=fun vs σ H Q=>vs=[]/\Q σ H
def zt7 (t:TG) (u:TGs):TGs:=fun vs σ H Q=>∃v r,vs=v::r/\t v σ H fun σ' H'=>u r σ' H' Q
theorem zpa:PGs X [] gNil:=by
 intro pins s σ H vs us Q I r h
 obtain⟨e,h⟩:=h
 subst e
 cases r
 exact assignInOrder_nil ⟨σ,H,I,h⟩
theorem zmn {e:Expr} {es:List Expr} {t:TG} {u:TGs} (h1:PG X e t) (h2:PGs X es u)
  (hs:(y2t (e::es) X.env).map (·.2)=assign e X.env::(y2t es X.env).map (·.2):=by rfl):PGs X (e::es) (zt7 t u):=by
 intro pins s σ H vs us Q I r h
 obtain⟨v,vr,e1,h⟩:=h
 subst e1
 cases r with
 | cons r rr =>
  rw[hs]
  refine assignInOrder_cons (thn (h1 pins s σ H _ _ _ I r h) fun _ s1 ⟨σ1,H1,I1,q1⟩=>?_)
  exact h2 pins s1 σ1 H1 _ _ Q I1 rr q1
def gTup (K:y00) (n:Nat) (t:TGs):TG:=fun v σ H Q=>∃a xs,v=.ref a/\SqT K H a xs/\xs.length=n/\t xs σ H Q
theorem zr5 {es:List Expr} {k:Nat} {t:TGs} {n:Nat} (hc:X.calm=true) (h:PGs X es t)
  (hn:(y2t es X.env).length=n:=by rfl) (hst:(y2t es X.env).findIdx? (·.1)=none:=by rfl):PG X (.Tuple es k pos) (gTup X.K n t):=by
 intro pins s σ H v u Q I r hw
 obtain⟨a,xs,e1,hq,hl,hw⟩:=hw
 subst e1
 cases r
 obtain⟨its,rv,ht,hz⟩:=I.tuple hq
 refine assign_Tuple_tuple (I.ok.hd hc) ht (by simp[hn,<- hl,rv.length]) hst fun h' hx=>?_
 have I1:Inv X pins σ H { s with heap:=h' }:=I.kept (t':=s.toks) fun b o e=>hx b o (y0y (y0c e)) e
 exact h pins _ σ H xs _ Q I1 (by simpa using rv) hw
def tAsg (te:TE) (g:TG):TS:=fun D σ H=>te σ H fun x H1=>g x σ H1 D.nx
theorem zr3 {tg e:Expr} {te:TE} {g:TG} (he:PE X e te) (hg:PG X tg g) (hs:swapsWithSole [tg] e pos.line X.env=pure false:=by rfl) (hw:swappedStores [tg] e X.env=pure none:=by rfl)
  (h1:(y2t [tg] X.env).map (·.2)=[assign tg X.env]:=by rfl):PS X (.Assign [tg] e pos) (tAsg te g):=by
 intro pins s σ H D I h
 refine wpAny_Assign_stores (thn (he pins s σ H _ I h) fun v s1 ⟨x,H1,I1,r1,q1⟩=>?_) hs hw
 rw[h1]
 exact thn (hg pins s1 σ H1 x v _ I1 r1 q1) fun _ s2 q=>q
theorem zo4 {i:Nat} {x:Str} {e:Expr} {te:TE} {pos':Pos} (hN:X.N.Nodup) (hi:X.N[i]?=some x) (hx:Loc X.env.scope x) (he:PE X e te) (hs:swapsWith e (some (.Name x pos')) pos.line X.env=pure false:=by rfl) (hf:X.fn x=true\/X.env.scope.names.lookup x=some .local:=by first|exact .inl rfl|exact .inr rfl|assumption) :
  PS X (.Assign [.Name x pos'] e pos) (tAsg te (zs6 i)):=by
 intro pins s σ H D I h
 refine wpAny_Assign_Name (thn (he pins s σ H _ I h) fun v s1 ⟨y,H1,I1,r1,q1⟩=>?_) hs
 exact zg5 I1 hN hi hx r1 (fun s2 I2=>⟨_,H1,I2,q1⟩) hf
end
section
variable {X:Cx} {pos:Pos}
end
structure It where
 go:Nat->Hp->Prop
 yld:Nat->Hp->V->Hp->Prop
 stop:Nat->Hp->Prop
noncomputable def FpOk (X:Cx) (pins:List (Addr×Obj)) (H:Hp) (b:Addr):Prop :=
 H b=none/\b≠X.env.locals/\b∉X.fs/\(b∈X.ex\/X.s₀.heap.objs.size<=b)/\(∀x c,X.env.cells.lookup x=some c->c≠b)/\∀p∈X.pn++pins,p.1≠b
theorem Inv.fpOk {X:Cx} {pins:List (Addr×Obj)} {σ:St} {H H':Hp} {s:y04} {b:Addr} (I:Inv X pins σ H s) (hb:s.heap.objs.size<=b) (hn:H' b=none):FpOk X pins H' b:=by
 refine⟨hn,y16 (y0x I.lt hb),I.nofs hb,.inr (y1p I.sz hb),fun x c e z=>?_,fun p hp z=>?_⟩
 ·obtain⟨v,q⟩:=I.cell x c e
  exact absurd (y0x q.lt (by rw[z];exact hb)) (Nat.lt_irrefl _)
 ·exact absurd (y0x (y0c (I.pin p hp).1) (by rw[z];exact hb)) (Nat.lt_irrefl _)
structure Turn (P:y0q) (w:World) (K:y00) (tg:Expr) (J:It) (fp:List Addr) (it:Addr) (tn:Nat->Heap->Prop):Prop where
 mem:it∈fp
 obj:∀i h,tn i h->∀b∈fp,∃o,h.get? b=some o/\∀v,o.data≠.cell v
 keep:∀i h h',tn i h->(∀b∈fp,∀o,h.get? b=some o->h'.get? b=some o)->tn i h'
 item:∀(X:Cx),X.prog=P->X.w=w->X.K=K->X.calm=true->∀(i:Nat) (pins:List (Addr×Obj)) (s:y04) (σ:St) (H:Hp) (E:Value->y04->Prop),Inv X pins σ H s->(∀b∈fp,FpOk X pins H b)->tn i s.heap->J.go i H ->
  y0u (y2w P w) X.A (pyNext (.ref it)) (fun r s1=>∃u,r=some u /\
   y0u (y2w P w) X.A (letOwnedTupleGo tg (.ref it) u) (fun _ s2=>∃x H',Inv X pins σ H' s2/\RelV x u/\J.yld i H x H'/\tn (i+1) s2.heap/\∀b∈fp,H' b=none) E s1) E s
 done:∀(X:Cx),X.prog=P->X.w=w->X.K=K->X.calm=true->∀(i:Nat) (pins:List (Addr×Obj)) (s:y04) (σ:St) (H:Hp) (E:Value->y04->Prop),Inv X pins σ H s->(∀b∈fp,FpOk X pins H b)->tn i s.heap->J.stop i H ->
  y0u (y2w P w) X.A (pyNext (.ref it)) (fun r s1=>r=none/\Inv X pins σ H s1) E s
 self:∀(A:Around) (i:Nat) (s:y04) (Q:Value->y04->Prop) (E:Value->y04->Prop),tn i s.heap->Q (.ref it) s->y0u (y2w P w) A (pyIter (.ref it)) Q E s
abbrev TI:=St->Hp->(It->Hp->Prop)->Prop
noncomputable def PIE (X:Cx) (pins:List (Addr×Obj)) (σ:St) (tg:Expr) (R:It->Hp->Prop) (itv:Value) (s2:y04):Prop :=
 ∃(it:Addr) (fp:List Addr) (tn:Nat->Heap->Prop) (J:It) (H':Hp),itv=.ref it/\Inv X pins σ H' s2/\Turn X.prog X.w X.K tg J fp it tn/\tn 0 s2.heap/\(∀b∈fp,FpOk X pins H' b)/\R J H'
noncomputable def PI (X:Cx) (tg iter:Expr) (wi:TI):Prop :=
 ∀(pins:List (Addr×Obj)) (s:y04) (σ:St) (H:Hp) (R:It->Hp->Prop),Inv X pins σ H s->wi σ H R ->
  y0u (y2w X.prog X.w) X.A (eval iter X.env) (fun v s1=>y0u (y2w X.prog X.w) X.A (pyIter v) (PIE X pins σ tg R) X.xe s1) X.xe s
theorem znc {M:Model} {A:Around} {E:Value->y04->Prop} {s:y04} {tg:Expr} {it:Addr} {u:Value} {o:Obj} {n:String} {vs:Array Value} {Q:Unit->y04->Prop} (ho:s.heap.get? it=some o) (hc:o.cls=.type n) (hd:o.data=.fields vs)
    (hn:["enumerate","zip","dict_itemiterator","dict_reverseitemiterator","odict_iterator","itertools.zip_longest","itertools.pairwise"].contains n=false) (hQ:Q () s):y0u M A (letOwnedTupleGo tg (.ref it) u) Q E s:=by
  unfold letOwnedTupleGo
  cases tg <;> first
    | exact y06 hQ
    | (cases u <;> first
        | exact y06 hQ
        | (refine y02 (wpAny_load ho ?_)
           rw[hc,hd]
           show y0u M A (if (["enumerate","zip","dict_itemiterator","dict_reverseitemiterator","odict_iterator","itertools.zip_longest","itertools.pairwise"].contains n && vs[0]? == some (y2y _))=true then _ else _) Q E s
           rw[if_neg (by intro h;rw[hn,Bool.false_and] at h;cases h)]
           exact y06 hQ))
noncomputable def Itl (K:y00) (a:Addr):It :=
 ⟨fun i H=>∃xs x,SqL K H a xs/\xs[i]?=some x,fun i H x H'=>H'=H/\∀xs,SqL K H a xs->xs[i]?=some x,fun i H=>∃xs,SqL K H a xs/\xs.length<=i⟩
noncomputable def Itt (K:y00) (a:Addr):It :=
 ⟨fun i H=>∃xs x,SqT K H a xs/\xs[i]?=some x,fun i H x H'=>H'=H/\∀xs,SqT K H a xs->xs[i]?=some x,fun i H=>∃xs,SqT K H a xs/\xs.length<=i⟩
def Itr (lo:Int) (n:Nat):It:=⟨fun i _=>i<n,fun i H x H'=>H'=H/\x=.int (lo+i),fun i _=>n<=i⟩
theorem zix {P:y0q} {w:World} {K:y00} {tg:Expr} (a it:Addr):Turn P w K tg (Itl K a) [it] it (fun i h=>h.IsListIter it a i) where
 mem:=by simp
 obj:=fun i h st b hb=>by
  have e:b=it:=by simpa using hb
  subst e
  obtain⟨o,e,c,d⟩:=st
  exact⟨o,e,fun v z=>by rw[d] at z;cases z⟩
 keep:=fun i h h' st k=>st.at fun o e=>k it (by simp) o e
 item:=by
  intro X hP hw hK hc i pins s σ H E I hf st hg
  subst hP hw hK
  obtain⟨xs,x,hq,hx⟩:=hg
  obtain⟨its,rv,p,hz⟩:=I.list hq
  obtain⟨u,hu,ru⟩:=rv.get hx
  obtain⟨f0,f1,f2,f3,f4,f5⟩:=hf it (by simp)
  refine wpAny_pyNext_list_item st p.isList (x:=u) (by simpa using hu) fun h' st' sb=>?_
  have I1:Inv X pins σ H { s with heap:=h' }:=I.turned (t':=s.toks) (fun b o hb e=>(sb.2 b hb).trans e) f0 f1 f3 f4 f5
  obtain⟨o,e,c,d⟩:=id st'
  exact⟨u,rfl,znc (s:={ s with heap:=h' }) e c d (by decide) ⟨x,H,I1,ru,⟨rfl,fun ys hy=>by rw[I.list_inj hy hq];exact hx⟩,st',fun b hb=>(hf b hb).1⟩⟩
 done:=by
  intro X hP hw hK hc i pins s σ H E I hf st hg
  subst hP hw hK
  obtain⟨xs,hq,hx⟩:=hg
  obtain⟨its,rv,p,hz⟩:=I.list hq
  obtain⟨f0,f1,f2,f3,f4,f5⟩:=hf it (by simp)
  have hl:=rv.length
  exact wpAny_pyNext_list_end (I.ok.hd hc) st p.isList (by simp;omega) fun h' eb=>⟨rfl,I.turned (t':=s.toks) (fun b o hb e=>eb b o hb e) f0 f1 f3 f4 f5⟩
 self:=fun _ _ _ _ _ st h=>wpAny_pyIter_listiter st h
theorem zh5 {P:y0q} {w:World} {K:y00} {tg:Expr} (a it:Addr):Turn P w K tg (Itt K a) [it] it (fun i h=>h.IsTupleIter it a i) where
 mem:=by simp
 obj:=fun i h st b hb=>by
  have e:b=it:=by simpa using hb
  subst e
  obtain⟨o,e,c,d⟩:=st
  exact⟨o,e,fun v z=>by rw[d] at z;cases z⟩
 keep:=fun i h h' st k=>st.at fun o e=>k it (by simp) o e
 item:=by
  intro X hP hw hK hc i pins s σ H E I hf st hg
  subst hP hw hK
  obtain⟨xs,x,hq,hx⟩:=hg
  obtain⟨its,rv,p,hz⟩:=I.tuple hq
  obtain⟨u,hu,ru⟩:=rv.get hx
  obtain⟨f0,f1,f2,f3,f4,f5⟩:=hf it (by simp)
  refine wpAny_pyNext_tuple_item st (show s.heap.IsTuple a its.toArray from p) (x:=u) (by simpa using hu) fun h' st' sb=>?_
  have I1:Inv X pins σ H { s with heap:=h' }:=I.turned (t':=s.toks) (fun b o hb e=>(sb.2 b hb).trans e) f0 f1 f3 f4 f5
  obtain⟨o,e,c,d⟩:=id st'
  exact⟨u,rfl,znc (s:={ s with heap:=h' }) e c d (by decide) ⟨x,H,I1,ru,⟨rfl,fun ys hy=>by rw[I.tuple_inj hy hq];exact hx⟩,st',fun b hb=>(hf b hb).1⟩⟩
 done:=by
  intro X hP hw hK hc i pins s σ H E I hf st hg
  subst hP hw hK
  obtain⟨xs,hq,hx⟩:=hg
  obtain⟨its,rv,p,hz⟩:=I.tuple hq
  obtain⟨f0,f1,f2,f3,f4,f5⟩:=hf it (by simp)
  have hl:=rv.length
  exact wpAny_pyNext_tuple_end (I.ok.hd hc) st (show s.heap.IsTuple a its.toArray from p) (by simp;omega) fun h' eb=>⟨rfl,I.turned (t':=s.toks) (fun b o hb e=>eb b o hb e) f0 f1 f3 f4 f5⟩
 self:=fun _ _ _ _ _ st h=>wpAny_pyIter_tupleiter st h
theorem zh6 {P:y0q} {w:World} {K:y00} {tg:Expr} (it:Addr) (lo:Int) (n:Nat):Turn P w K tg (Itr lo n) [it] it (fun i h=>IsRangeIter h it (lo+(i:Nat)*1) ((n:Int) - (i:Nat)) 1) where
 mem:=by simp
 obj:=fun i h st b hb=>by
  have e:b=it:=by simpa using hb
  subst e
  exact⟨_,st,fun v z=>by
   have z':Data.fields _=Data.cell v:=z
   cases z'⟩
 keep:=fun i h h' st k=>k it (by simp) _ st
 item:=by
  intro X hP hw hK hc i pins s σ H E I hf st hg
  subst hP hw hK
  obtain⟨f0,f1,f2,f3,f4,f5⟩:=hf it (by simp)
  have W:=Walks.range (prog:=X.prog) (w:=X.w) (I.ok.hd hc) it lo 1 n
  refine W.item i s _ _ hg st fun v h' tk hv st' kk=>?_
  obtain⟨t,rfl⟩:=hv
  have I1:Inv X pins σ H { s with heap:=h',toks:=tk }:=I.turned (fun b o hb e=>kk b o (by simpa using hb) e) f0 f1 f3 f4 f5
  refine⟨_,rfl,znc (s:={ s with heap:=h',toks:=tk }) (n:="range_iterator") st' rfl rfl (by decide) ⟨.int (lo+i),H,I1,⟨t,?_⟩,⟨rfl,rfl⟩,st',fun b hb=>(hf b hb).1⟩⟩
  rw[Int.mul_one]
 done:=by
  intro X hP hw hK hc i pins s σ H E I hf st hg
  subst hP hw hK
  obtain⟨f0,f1,f2,f3,f4,f5⟩:=hf it (by simp)
  exact wpAny_pyNext_range_end (I.ok.hd hc) st (by have:n<=i:=hg;omega) fun h' eb=>⟨rfl,I.turned (t':=s.toks) (fun b o hb e=>eb b o hb e) f0 f1 f3 f4 f5⟩
 self:=fun _ _ _ _ _ st h=>wpAny_pyIter_rangeiter st h
end L2
namespace L2
open PySem PySem.Spec PyProof.Rows
section
variable {X:Cx} {tg:Expr}
theorem zmg {pins:List (Addr×Obj)} {σ:St} {H:Hp} {s:y04} {R:It->Hp->Prop} {E:Value->y04->Prop} {lo hi:Int} {t u v:Tok} {tk:Nat} (I:Inv X pins σ H s) (h1:-(2 ^ 62)<=lo) (h2:lo<2 ^ 62) (h3:-(2 ^ 62)<=hi) (h4:hi<2 ^ 62)
  (q:R (Itr lo (hi - lo).toNat) H):y0u (y2w X.prog X.w) X.A (pyIter (.ref s.heap.objs.size)) (PIE X pins σ tg R) E { s with heap:=s.heap.push { cls:=.type "range",data:=.fields #[.int lo t,.int hi u,.int 1 v] },toks:=tk }:=by
 refine wpAny_pyIter_range (IsRange.new ..) (small_one h1 h2 h3 h4) ?_
 have I1:Inv X pins σ H { s with heap:=s.heap.push { cls:=.type "range",data:=.fields #[.int lo t,.int hi u,.int 1 v] },toks:=tk }:=I.kept fun b o e=>y03 _ e
 refine⟨(s.heap.push { cls:=.type "range",data:=.fields #[.int lo t,.int hi u,.int 1 v] }).objs.size,[(s.heap.push { cls:=.type "range",data:=.fields #[.int lo t,.int hi u,.int 1 v] }).objs.size],_,_,H,rfl,
  I1.kept (t':=tk) fun b o e=>y03 _ e,zh6 _ lo (hi - lo).toNat,?_,fun b hb=>?_,q⟩
 ·have e1:lo+((0:Nat):Int)*1=lo:=by simp
  have e2:(((hi - lo).toNat:Nat):Int) - ((0:Nat):Int)=Builtin.Range.rangeSize lo hi 1:=by rw[rangeSize_one];split <;> omega
  show IsRangeIter _ _ (lo+((0:Nat):Int)*1) ((((hi - lo).toNat:Nat):Int) - ((0:Nat):Int)) 1
  rw[e1,e2]
  exact y0l _ rfl
 ·have e:b=(s.heap.push { cls:=.type "range",data:=.fields #[.int lo t,.int hi u,.int 1 v] }).objs.size:=by simpa using hb
  subst e
  exact I1.fpOk (y0o _) (I1.hok.fresh (y0o _))
def zt6 (ta:TA):TI:=fun σ H R=>ta σ H fun vs H1=>∃j:Int,vs=[.int j]/\-(2 ^ 62)<=j/\j<2 ^ 62/\R (Itr 0 j.toNat) H1
theorem zjp {a:Expr} {ta:TA} {p pos:Pos} (hg:Gl X "range") (hm:X.mg "range"=none) (ha:PA X [a] ta) (hs:y0a [a] X.env=[(false,eval a X.env)]:=by rfl):PI X tg (.Call (.Name "range" p) [a] [] pos) (zt6 ta):=by
 intro pins s σ H R I h
 refine Call_ (z93 I hg hm boot_range (y1s (thn (ha pos pins s σ H _ I h) fun us s1 ⟨vs,H1,I1,r1,q1⟩=>?_) hs rfl))
 obtain⟨j,e,q1,q2,q⟩:=q1
 subst e
 cases r1 with
 | cons r rr =>
  cases rr
  obtain⟨t,rfl⟩:=r
  exact call_range_1 (zmg I1 (by omega) (by omega) q1 q2 (by simpa using q))
noncomputable def tFor (wi:TI) (g:TG) (tb:TS):TS:=fun D σ H=>wi σ H fun J H1=>∃W:Nat->Nat->St->Hp->Prop,(∃m,W 0 m σ H1)/\∀i m σ H,W i m σ H ->
 (J.stop i H/\D.nx σ H)\/(J.go i H/\∃N:St->Hp->Prop,(∀σ' H',N σ' H'->∃m',m'<m/\W (i+1) m' σ' H')/\∀x H',J.yld i H x H'->g x σ H' fun σ2 H2=>tb { D with nx:=N,ct:=N,bk:=D.nx } σ2 H2)
def zci (fp:List Addr) (h:Heap):List (Addr×Obj):=fp.filterMap fun b=>(h.get? b).map fun o=>(b,o)
theorem z63 {fp:List Addr} {h:Heap} {b:Addr} {o:Obj} (hb:b∈fp) (e:h.get? b=some o):(b,o)∈zci fp h:=List.mem_filterMap.mpr ⟨b,hb,by rw[e];rfl⟩
theorem zjx {fp:List Addr} {h:Heap} {p:Addr×Obj} (hp:p∈zci fp h):p.1∈fp/\h.get? p.1=some p.2:=by
 obtain⟨b,hb,e⟩:=List.mem_filterMap.mp hp
 cases q:h.get? b with
 | none=>rw[q] at e;cases e
 | some o =>
  rw[q] at e
  have e':(b,o)=p:=y29 e
  subst e'
  exact⟨hb,q⟩
theorem Inv.pinned {pins:List (Addr×Obj)} {σ:St} {H:Hp} {s:y04} {fp:List Addr} (I:Inv X pins σ H s) (hf:∀b∈fp,FpOk X pins H b) (ho:∀b∈fp,∃o,s.heap.get? b=some o/\∀v,o.data≠.cell v):Inv X (pins++zci fp s.heap) σ H s :=
 I.pins_of fun p hp=>(y11.mp hp).elim (fun z=>I.pin p (y1b _ z)) fun z=>by
  obtain⟨hb,e⟩:=zjx z
  obtain⟨f0,f1,f2,_⟩:=hf p.1 hb
  obtain⟨o,e',d⟩:=ho p.1 hb
  rw[e] at e';cases e'
  exact⟨e,f0,f1,f2,d⟩
theorem Inv.unpinned {pins pl:List (Addr×Obj)} {σ:St} {H:Hp} {s:y04} (I:Inv X (pins++pl) σ H s):Inv X pins σ H s:=I.pins_of fun p hp=>I.pin p (y1b _ (List.mem_append_left _ hp))
theorem zr2 {iter:Expr} {body:List Stmt} {wi:TI} {g:TG} {tb:TS} {pos:Pos} (hp:PassesOwn (y2w X.prog X.w) X.A X.env X.xe) (hc:X.calm=true) (hi:PI X tg iter wi) (hg:PG X tg g) (hb:PSs X body tb)
  (hs:∀x,y2x iter X.env x=pure x:=by intro _;rfl):PS X (.For tg iter body [] pos) (tFor wi g tb):=by
 intro pins s σ H D I h
 refine wpAny_For (thn (hi pins s σ H _ I h) fun v s1 h1=>thn h1 fun itv s2 h2=>?_) hs
 obtain⟨it,fp,tn,J,H2,e,I2,T,st2,f2,W,⟨m0,w0⟩,turn⟩:=h2
 subst e
 have stat:∀{H':Hp},(∀b∈fp,H' b=none)->∀b∈fp,FpOk X pins H' b:=fun hn b hb=>⟨hn b hb,(f2 b hb).2⟩
 refine codeAny_forLoop_any (fun n s'=>∃i σ' H',Inv X pins σ' H' s'/\tn i s'.heap/\(∀b∈fp,H' b=none)/\W i n σ' H') ?_ m0 ⟨0,σ,H2,I2,st2,fun b hb=>(f2 b hb).1,w0⟩
 rintro n s3 ⟨i,σ3,H3,I3,st3,fr3,w3⟩
 rcases turn i n σ3 H3 w3 with ⟨stop,qn⟩|⟨go,N,hN,step⟩
 ·refine wpAny_passesOwn hp (thn (T.done X rfl rfl rfl hc i pins s3 σ3 H3 X.xe I3 (stat fr3) st3 stop) fun r s4 ⟨hr,I4⟩=>?_)
  subst hr
  exact wpAny_execs_nil ⟨σ3,H3,I4,qn⟩
 ·refine wpAny_passesOwn hp (thn (T.item X rfl rfl rfl hc i pins s3 σ3 H3 X.xe I3 (stat fr3) st3 go) fun r s4 ⟨u,hr,h4⟩=>?_)
  subst hr
  refine wpAny_passesOwn hp (thn h4 fun _ s5 ⟨x,H5,I5,r5,y5,st5,fr5⟩=>?_)
  have I5':=I5.pinned (stat fr5) (T.obj _ _ st5)
  refine wpAny_passesOwn hp (thn (hg _ s5 σ3 H5 x u _ I5' r5 (step x H5 y5)) fun _ s6 ⟨σ6,H6,I6,q6⟩=>?_)
  refine wpAny_passesOwn hp (thn (hb _ s6 σ6 H6 _ I6 q6) fun f s7 q7=>?_)
  have again:∀{σ7:St} {H7:Hp},Inv X (pins++zci fp s5.heap) σ7 H7 s7->N σ7 H7->∃m,m<n/\∃i σ' H',Inv X pins σ' H' s7/\tn i s7.heap/\(∀b∈fp,H' b=none)/\W i m σ' H':=fun {σ7 H7} I7 n7=>by
   obtain⟨m',hm,w7⟩:=hN σ7 H7 n7
   refine⟨m',hm,i+1,σ7,H7,I7.unpinned,T.keep _ _ _ st5 fun b hb o e=>(I7.pin (b,o) (y1b _ (y1b _ (z63 hb e)))).1,fun b hb=>?_,w7⟩
   obtain⟨o,e,d⟩:=T.obj _ _ st5 b hb
   exact (I7.pin (b,o) (y1b _ (y1b _ (z63 hb e)))).2.1
  cases f with
  | next=>obtain⟨σ7,H7,I7,n7⟩:=q7;exact again I7 n7
  | cont=>obtain⟨σ7,H7,I7,n7⟩:=q7;exact again I7 n7
  | brk=>obtain⟨σ7,H7,I7,q7⟩:=q7;exact⟨σ7,H7,I7.unpinned,q7⟩
  | ret v=>obtain⟨x7,σ7,H7,I7,r7,q7⟩:=q7;exact⟨x7,σ7,H7,I7.unpinned,r7,q7⟩
end
end L2
namespace L2
open PySem PySem.Spec PyProof.Rows
abbrev R2:=V->V->Hp->VK->Prop
noncomputable def OpR (X:Cx) (f:Value->Value->Sem Value) (r:R2):Prop :=
 ∀(pins:List (Addr×Obj)) (s:y04) (σ:St) (H:Hp) (x y:V) (v u:Value) (Q:VK),Inv X pins σ H s->RelV x v->RelV y u->r x y H Q ->
  y0u (y2w X.prog X.w) X.A (f v u) (EP X pins σ Q) X.xe s
noncomputable def UnR (X:Cx) (f:Value->Sem Value) (r:V->Hp->VK->Prop):Prop :=
 ∀(pins:List (Addr×Obj)) (s:y04) (σ:St) (H:Hp) (x:V) (v:Value) (Q:VK),Inv X pins σ H s->RelV x v->r x H Q ->
  y0u (y2w X.prog X.w) X.A (f v) (EP X pins σ Q) X.xe s
noncomputable def z5j (X:Cx) (f:Value) (r:List V->Hp->VK->Prop):Prop :=
 ∀(pins:List (Addr×Obj)) (s:y04) (σ:St) (H:Hp) (xs:List V) (us:List Value) (Q:VK),Inv X pins σ H s->Vals xs us->r xs H Q ->
  y0u (y2w X.prog X.w) X.A (call f us) (EP X pins σ Q) X.xe s
def tOp (r:R2) (ta tb:TE):TE:=fun σ H Q=>ta σ H fun x H1=>tb σ H1 fun y H2=>r x y H2 Q
def tUn (r:V->Hp->VK->Prop) (ta:TE):TE:=fun σ H Q=>ta σ H fun x H1=>r x H1 Q
def rI (C:Int->Int->Prop) (g:Int->Int->V):R2:=fun x y H Q=>∃i j,x=.int i/\y=.int j/\C i j/\Q (g i j) H
def rI0 (g:Int->Int->V):R2:=fun x y H Q=>∃i j,x=.int i/\y=.int j/\Q (g i j) H
def rU (g:Int->V):V->Hp->VK->Prop:=fun x H Q=>∃i,x=.int i/\Q (g i) H
section
variable {X:Cx} {a b c:Expr} {ta tb tc:TE} {pos:Pos}
theorem binT (ha:PE X a ta) (hb:PE X b tb) {pins:List (Addr×Obj)} {s:y04} {σ:St} {H:Hp} {R:V->V->Hp->Prop} (I:Inv X pins σ H s)
  (h:ta σ H fun x H1=>tb σ H1 fun y H2=>R x y H2) {Q:Value->y04->Prop} {f:Value->Value->Sem Value}
  (hf:∀v u s2 x y H2,Inv X pins σ H2 s2->RelV x v->RelV y u->R x y H2->y0u (y2w X.prog X.w) X.A (f v u) Q X.xe s2) :
  y0u (y2w X.prog X.w) X.A (eval a X.env) (fun v s₁=>y0u (y2w X.prog X.w) X.A (eval b X.env) (fun u s₂=>y0u (y2w X.prog X.w) X.A (f v u) Q X.xe s₂) X.xe s₁) X.xe s:=by
 refine thn (ha pins s σ H _ I h) fun v s1 ⟨x,H1,I1,r1,q1⟩=>?_
 refine thn (hb pins s1 σ H1 _ I1 q1) fun u s2 ⟨y,H2,I2,r2,q2⟩=>?_
 exact hf v u s2 x y H2 I2 r1 r2 q2
theorem zcj {op:Operator} {r:R2} (ho:OpR X (y2u op) r) (ha:PE X a ta) (hb:PE X b tb):PE X (.BinOp a op b pos) (tOp r ta tb):=by
 intro pins s σ H Q I h
 exact wpAny_BinOp (binT ha hb I h fun v u s2 x y H2 I2 rx ry q=>ho pins s2 σ H2 x y v u Q I2 rx ry q)
theorem zr7 {op:UnaryOp} {r:V->Hp->VK->Prop} (ho:UnR X (unaryOp op) r) (ha:PE X a ta):PE X (.UnaryOp op a pos) (tUn r ta):=by
 intro pins s σ H Q I h
 exact UnaryOp_ (thn (ha pins s σ H _ I h) fun v s1 ⟨x,H1,I1,r1,q1⟩=>ho pins s1 σ H1 x v Q I1 r1 q1)
theorem opI {f:Value->Value->Sem Value} {C:Int->Int->Prop} {g:Int->Int->Int}
  (rule:∀(i j:Int) (t u:Tok) (s:y04) (Q:Value->y04->Prop) (E:Value->y04->Prop),C i j->Q (.int (g i j) s.toks) { s with toks:=s.toks+1 }->y0u (y2w X.prog X.w) X.A (f (.int i t) (.int j u)) Q E s) :
  OpR X f (rI C fun i j=>.int (g i j)):=by
 intro pins s σ H x y v u Q I rx ry h
 obtain⟨i,j,rfl,rfl,hc,q⟩:=h
 obtain⟨t,rfl⟩:=rx
 obtain⟨t',rfl⟩:=ry
 exact rule i j t t' s _ _ hc ⟨.int (g i j),H,I.tok _,⟨_,rfl⟩,q⟩
theorem opI0 {f:Value->Value->Sem Value} {g:Int->Int->Int}
  (rule:∀(i j:Int) (t u:Tok) (s:y04) (Q:Value->y04->Prop) (E:Value->y04->Prop),Q (.int (g i j) s.toks) { s with toks:=s.toks+1 }->y0u (y2w X.prog X.w) X.A (f (.int i t) (.int j u)) Q E s) :
  OpR X f (rI0 fun i j=>.int (g i j)):=by
 intro pins s σ H x y v u Q I rx ry h
 obtain⟨i,j,rfl,rfl,q⟩:=h
 obtain⟨t,rfl⟩:=rx
 obtain⟨t',rfl⟩:=ry
 exact rule i j t t' s _ _ ⟨.int (g i j),H,I.tok _,⟨_,rfl⟩,q⟩
theorem opB0 {f:Value->Value->Sem Value} {g:Int->Int->Bool}
  (rule:∀(i j:Int) (t u:Tok) (s:y04) (Q:Value->y04->Prop) (E:Value->y04->Prop),Q (.bool (g i j)) s->y0u (y2w X.prog X.w) X.A (f (.int i t) (.int j u)) Q E s) :
  OpR X f (rI0 fun i j=>.bl (g i j)):=by
 intro pins s σ H x y v u Q I rx ry h
 obtain⟨i,j,rfl,rfl,q⟩:=h
 obtain⟨t,rfl⟩:=rx
 obtain⟨t',rfl⟩:=ry
 exact rule i j t t' s _ _ ⟨.bl (g i j),H,I,rfl,q⟩
def CDiv (i j:Int):Prop:=0<j/\j<1073741824
def CPow (i j:Int):Prop:=0<=j/\j<=1000000/\i.natAbs<2 ^ 64
def CMul (i j:Int):Prop:=(-(2 ^ 64)<i/\i<2 ^ 64)\/(-(2 ^ 64)<j/\j<2 ^ 64)
theorem CMul.ok {i j:Int} (h:CMul i j):IntMulOk i j:=by
 rcases h with ⟨h1,h2⟩|⟨h1,h2⟩
 ·exact .of_left (intBits_le_64 h1 h2)
 ·exact .of_right (intBits_le_64 h1 h2)
theorem zrn:OpR X (y2u .Add) (rI0 fun i j=>.int (i+j)):=opI0 fun _ _ _ _ _ _ _ q=>add_int q
theorem zrj:OpR X (y2u .Sub) (rI0 fun i j=>.int (i - j)):=opI0 fun _ _ _ _ _ _ _ q=>sub_int q
theorem zrl:OpR X (y2u .Mult) (rI CMul fun i j=>.int (i*j)):=opI fun _ _ _ _ _ _ _ hc q=>mul_int q hc.ok
theorem zpg:OpR X (y2u .FloorDiv) (rI CDiv fun i j=>.int (i / j)):=opI fun i j _ _ _ _ _ hc q=>by
 have h1:(0:Int)<j:=hc.1
 have h2:j<1073741824:=hc.2
 exact floordiv_int (by omega) (by rw[Int.fdiv_eq_ediv_of_nonneg i (by omega)];exact q) (.inl (PyProof.noPylong_small (by omega)))
theorem zrm:OpR X (y2u .Mod) (rI (fun _ j=>0<j) fun i j=>.int (i % j)):=opI fun i j _ _ _ _ _ hc q=>by
 have h1:(0:Int)<j:=hc
 exact mod_int' (by omega) (by rw[Int.fmod_eq_emod_of_nonneg i (by omega)];exact q)
theorem zrk:OpR X (y2u .Pow) (rI CPow fun i j=>.int (i ^ j.toNat)):=opI fun _ _ _ _ _ _ _ hc q=>pow_int_small hc.1 hc.2.1 hc.2.2 q
theorem unI {f:Value->Sem Value} {g:Int->Int}
  (rule:∀(i:Int) (t:Tok) (s:y04) (Q:Value->y04->Prop) (E:Value->y04->Prop),Q (.int (g i) s.toks) { s with toks:=s.toks+1 }->y0u (y2w X.prog X.w) X.A (f (.int i t)) Q E s) :
  UnR X f (rU fun i=>.int (g i)):=by
 intro pins s σ H x v Q I rx h
 obtain⟨i,rfl,q⟩:=h
 obtain⟨t,rfl⟩:=rx
 exact rule i t s _ _ ⟨.int (g i),H,I.tok _,⟨_,rfl⟩,q⟩
theorem znw:UnR X (unaryOp .USub) (rU fun i=>.int (-i)):=unI fun _ _ _ _ _ q=>neg_int q
end
section
variable {X:Cx} {a b c:Expr} {ta tb tc:TE} {pos:Pos}
theorem zdf {pins:List (Addr×Obj)} {σ:St} {H:Hp} {s:y04} {Q:VK} {k k':Bool} (I:Inv X pins σ H s) (q:Q (.bl k) H) (e:k=k'):EP X pins σ Q (.bool k') s:=by
 subst e
 exact⟨.bl k,H,I,rfl,q⟩
theorem zjq:OpR X (y2l .Lt) (rI0 fun i j=>.bl (decide (i<j))):=opB0 fun _ _ _ _ _ _ _ q=>lt_int q
theorem zmr:OpR X (y2l .LtE) (rI0 fun i j=>.bl (decide (i<=j))):=opB0 fun _ _ _ _ _ _ _ q=>le_int q
theorem zer:OpR X (y2l .Gt) (rI0 fun i j=>.bl (decide (j<i))):=opB0 fun _ _ _ _ _ _ _ q=>gt_int q
theorem zt3:OpR X (y2l .GtE) (rI0 fun i j=>.bl (decide (j<=i))):=opB0 fun _ _ _ _ _ _ _ q=>ge_int q
theorem z5t:OpR X (y2l .Lt) (fun x y H Q=>∃i j,x=.str i/\y=.str j/\Q (.bl (decide (i.cps.toList<j.cps.toList))) H):=by
 intro pins s σ H x y v u Q I rx ry h
 obtain⟨i,j,rfl,rfl,q⟩:=h
 obtain⟨t,rfl⟩:=rx
 obtain⟨t',rfl⟩:=ry
 exact lt_str (zdf I q rfl)
theorem OpR.or {f:Value->Value->Sem Value} {r r':R2} (h:OpR X f r) (h':OpR X f r'):OpR X f (fun x y H Q=>r x y H Q\/r' x y H Q):=by
 intro pins s σ H x y v u Q I rx ry q
 rcases q with q|q
 ·exact h pins s σ H x y v u Q I rx ry q
 ·exact h' pins s σ H x y v u Q I rx ry q
theorem zo8 (b:Expr) {op:CmpOp} (h:op≠.In:=by decide) (h2:op≠.NotIn:=by decide):y2r op b=false:=by
 have e1:(op == CmpOp.In)=false:=by cases op <;> first|rfl|exact absurd rfl h
 have e2:(op == CmpOp.NotIn)=false:=by cases op <;> first|rfl|exact absurd rfl h2
 cases b <;> simp[y2r,e1,e2]
theorem zpe {op:CmpOp} {r:R2} (ho:OpR X (y2l op) r) (ha:PE X a ta) (hb:PE X b tb) (hm:y2r op b=false):PE X (.Compare a [op] [b] pos) (tOp r ta tb):=by
 intro pins s σ H Q I h
 exact wpAny_Compare1 (binT ha hb I h fun v u s2 x y H2 I2 rx ry q=>ho pins s2 σ H2 x y v u Q I2 rx ry q) hm
def zqb (t:TE):TT:=fun σ H Q=>t σ H fun x H'=>∃k,x=.bl k/\Q k H'
theorem zp2 {op:CmpOp} {r:R2} (ho:OpR X (y2l op) r) (ha:PE X a ta) (hb:PE X b tb) (hm:y2r op b=false):PT X (.Compare a [op] [b] pos) (zqb (tOp r ta tb)):=by
 intro pins s σ H Q I h
 refine wpAny_isTrue_Compare1 (thn (ha pins s σ H _ I h) fun v s1 ⟨x,H1,I1,r1,q1⟩=>thn (hb pins s1 σ H1 _ I1 q1) fun u s2 ⟨y,H2,I2,r2,q2⟩ =>
  thn (ho pins s2 σ H2 x y v u _ I2 r1 r2 q2) fun c s3 ⟨z,H3,I3,r3,k,e,q3⟩=>?_) hm
 subst e
 cases r3
 exact y2s ⟨H3,I3,q3⟩
noncomputable def zj1 (r r':R2) (ta tb tc:TE):TE:=fun σ H Q=>ta σ H fun x H1=>tb σ H1 fun y H2=>r x y H2 fun z H3=>∃k,z=.bl k /\
 (if k=true then tc σ H3 fun w' H4=>r' y w' H4 Q else Q (.bl false) H3)
theorem zmp {op op':CmpOp} {r r':R2} (ho:OpR X (y2l op) r) (ho':OpR X (y2l op') r') (ha:PE X a ta) (hb:PE X b tb) (hc:PE X c tc)
  (hm:lastMarks [op,op'] [b,c]=false:=by with_unfolding_all rfl):PE X (.Compare a [op,op'] [b,c] pos) (zj1 r r' ta tb tc):=by
 intro pins s σ H Q I h
 refine Compare_chain (thn (ha pins s σ H _ I h) fun v s1 ⟨x,H1,I1,r1,q1⟩=>chain_link (thn (hb pins s1 σ H1 _ I1 q1) fun u s2 ⟨y,H2,I2,r2,q2⟩ =>
  thn (ho pins s2 σ H2 x y v u _ I2 r1 r2 q2) fun d s3 ⟨z,H3,I3,r3,k,e,q3⟩=>?_)) hm
 subst e
 cases r3
 refine y2s ?_
 cases k with
 | false=>exact ite_ff ⟨.bl false,H3,I3,rfl,q3⟩
 | true=>exact ite_tt (chain_last (thn (hc pins s3 σ H3 _ I3 q3) fun w' s4 ⟨z',H4,I4,r4,q4⟩=>ho' pins s4 σ H4 y z' u w' Q I4 r2 r4 q4))
theorem zmi {op op':CmpOp} {r r':R2} (ho:OpR X (y2l op) r) (ho':OpR X (y2l op') r') (ha:PE X a ta) (hb:PE X b tb) (hc:PE X c tc)
  (hm:lastMarks [op,op'] [b,c]=false:=by with_unfolding_all rfl):PT X (.Compare a [op,op'] [b,c] pos) (zqb (zj1 r r' ta tb tc)):=by
 intro pins s σ H Q I h
 refine isTrue_chain (thn (ha pins s σ H _ I h) fun v s1 ⟨x,H1,I1,r1,q1⟩=>test_link (thn (hb pins s1 σ H1 _ I1 q1) fun u s2 ⟨y,H2,I2,r2,q2⟩ =>
  thn (ho pins s2 σ H2 x y v u _ I2 r1 r2 q2) fun d s3 ⟨z,H3,I3,r3,k,e,q3⟩=>?_)) hm
 subst e
 cases r3
 refine y2s ?_
 cases k with
 | false =>
  obtain⟨k',e',q'⟩:=q3
  cases e'
  exact ite_ff ⟨H3,I3,q'⟩
 | true =>
  refine ite_tt (test_last (thn (hc pins s3 σ H3 _ I3 q3) fun w' s4 ⟨z',H4,I4,r4,q4⟩=>thn (ho' pins s4 σ H4 y z' u w' _ I4 r2 r4 q4) fun d' s5 ⟨z2,H5,I5,r5,k2,e2,q5⟩=>?_))
  subst e2
  cases r5
  exact y2s ⟨H5,I5,q5⟩
theorem zda:(y0j:Nat)<2 ^ 63:=by rw[sizeLine_eq];decide
theorem zho:OpR X (y2u .Add) (fun x y H Q=>∃i j,x=.str i/\y=.str j/\i.length+j.length<=y0j/\Q (.str (i++j)) H):=by
 intro pins s σ H x y v u Q I rx ry h
 obtain⟨i,j,rfl,rfl,hz,q⟩:=h
 obtain⟨t,rfl⟩:=rx
 obtain⟨t',rfl⟩:=ry
 exact add_str (fun t' tk=>⟨.str (i++j),H,I.tok _,⟨_,rfl⟩,q⟩) hz
theorem vals1 {x:V} {us:List Value} (r:Vals [x] us):∃u,us=[u]/\RelV x u:=by
 cases r with
 | cons r1 r2=>cases r2;exact⟨_,rfl,r1⟩
end
end L2
namespace L2
open PySem PySem.Spec PyProof.Rows
section
variable {prog:y0q} {w:World} {A:Around} {E:Value->y04->Prop} {s:y04} {K:y00} {x dx C f:Addr} {mA:Str->Option Value} {name:Str} {v:Value}
end
section
variable {P:y0q} {w:World} {H H':Hp} {h h':Heap} {a C dx:Addr} {fs fs':List (Str×V)}
end
section
variable {X:Cx} {pins:List (Addr×Obj)} {σ:St} {H:Hp} {s:y04} {a C dx:Addr} {fs:List (Str×V)} {f:Str} {v:V} {A:Around} {E:Value->y04->Prop}
end
section
variable {X:Cx} {o e value:Expr} {f:Str} {pos pos' tpos:Pos} {ta tv:TE}
end
section
variable {X:Cx} {pins:List (Addr×Obj)} {σ:St} {H:Hp} {s:y04} {A:Around} {E:Value->y04->Prop} {Q:Value->y04->Prop} {c:Value} {b:Bool}
end
end L2
namespace L2
open PySem PySem.Spec PyProof.Rows
structure Room (k:Nat) (A:Around):Prop where
 hd:A.handled=none
 dp:A.depth+3*k+5<recursionLimit
 un:A.units+16*k+200<cLine
 gd:A.guards=some []
theorem Room.mono {j k:Nat} {A:Around} (r:Room k A) (h:j<=k):Room j A:=⟨r.hd,by have:=r.dp;omega,by have:=r.un;omega,r.gd⟩
theorem Room.deeper {k:Nat} {A:Around} (r:Room (k+1) A) (env:Env):Room k (A.deeper env) :=
 ⟨r.hd,by have:=r.dp;show A.depth+1+3*k+5<_;omega,by have:=r.un;show A.units+3+16*k+200<_;omega,r.gd⟩
theorem Room.depth {k:Nat} {A:Around} (r:Room k A):A.depth<recursionLimit:=by have:=r.dp;omega
theorem Room.units {k:Nat} {A:Around} (r:Room k A):A.units+64<cLine:=by have:=r.un;omega
def tNil:TA:=fun _ H Q=>Q [] H
def zsm (ta:TE) (tr:TA):TA:=fun σ H Q=>ta σ H fun x H1=>tr σ H1 fun xs H2=>Q (x::xs) H2
section
variable {X:Cx} {e:Expr} {es:List Expr} {te:TE} {t:TA} {pos:Pos}
theorem z8w:PA X [] tNil:=fun _ _ _ _ H Q I h=>Calls.spliced_nil ⟨[],H,I,.nil,h⟩
theorem z5s (ha:PE X e te) (hr:PA X es t) (hs:y0a (e::es) X.env=(false,eval e X.env)::y0a es X.env:=by rfl):PA X (e::es) (zsm te t):=by
 intro pos pins s σ H Q I h
 rw[hs]
 show y0u _ _ (spliced ((false,eval e X.env)::y2g pos (y0a es X.env))) _ _ s
 refine Calls.spliced_cons (thn (ha pins s σ H _ I h) fun u s1 ⟨x,H1,I1,r1,q1⟩=>?_)
 exact thn (hr pos pins s1 σ H1 _ I1 q1) fun us s2 ⟨xs,H2,I2,r2,q2⟩=>⟨x::xs,H2,I2,.cons r1 r2,q2⟩
def tTup (t:TA):TE:=fun σ H Q=>t σ H fun xs H1=>xs.length<=y0j/\∀p,H1 p=none->Q (.ref p) (upd H1 p (.tup xs))
def tLst (t:TA):TE:=fun σ H Q=>t σ H fun xs H1=>xs.length<=y0j/\∀p,H1 p=none->Q (.ref p) (upd H1 p (.lst xs))
theorem zr8 {x1} (h:PA X es t):PE X (.Tuple es x1 pos) (tTup t):=by
 intro pins s σ H Q I hq
 refine wpAny_Tuple_spliced (thn (h pos pins s σ H _ I hq) fun us s1 ⟨xs,H1,I1,r,z,q⟩=>⟨by rw[<- r.length];exact z,?_⟩)
 have hf:H1 s1.heap.objs.size=none:=I1.hok.fresh (y0o _)
 refine⟨.ref s1.heap.objs.size,upd H1 s1.heap.objs.size (.tup xs),I1.laid (t':=s1.toks) (fun b u e=>y03 _ e) (y0o _) ?_,rfl,q _ hf⟩
 exact⟨z,us,r,⟨_,y0l _ rfl,rfl,_,rfl⟩⟩
theorem zrc (h:PA X es t):PE X (.List es pos) (tLst t):=by
 intro pins s σ H Q I hq
 refine wpAny_List_spliced (thn (h pos pins s σ H _ I hq) fun us s1 ⟨xs,H1,I1,r,z,q⟩=>⟨by rw[<- r.length];exact z,?_⟩)
 have hf:H1 s1.heap.objs.size=none:=I1.hok.fresh (y0o _)
 refine⟨.ref s1.heap.objs.size,upd H1 s1.heap.objs.size (.lst xs),I1.laid (t':=s1.toks) (fun b u e=>y03 _ e) (y0o _) ?_,rfl,q _ hf⟩
 exact⟨z,us,0,r,y0l _ rfl⟩
end
abbrev Sp:=List V->Hp->VK->XK->Prop
abbrev CXT:=List Env->Hp->y04->XK->Value->y04->Prop
structure Env0 (P:y0q) (w:World) (K:y00) (mg:Str->Option Value) (base:Heap) (A:Around) (outer:List Env) (s:y04) (H:Hp):Prop where
 frames:A.frames=some outer
 mod:Mod K mg base
 bs:∀b o,base.get? b=some o->s.heap.get? b=some o/\H b=none
 bsz:base.objs.size<=s.heap.objs.size
 funs:s.heap.FunFrames base outer
 frf:∀b∈frs outer,H b=none
 hok:HOk P w H s.heap
 bare:AllBare s.gens
noncomputable def CE (outer:List Env) (P:y0q) (w:World) (H:Hp) (s:y04) (Q:VK) (u:Value) (s':y04):Prop :=
 ∃v H',s'.os=s.os/\AllBare s'.gens/\Un (frs outer) [] H H' s.heap s'.heap/\HOk P w H' s'.heap/\RelV v u/\Q v H'
noncomputable def CR (CX:CXT) (outer:List Env) (P:y0q) (w:World) (H:Hp) (s:y04) (Q:VK) (E:XK) (r:Result) (s':y04):Prop :=
 match r with
 | .ok (.ret u)=>CE outer P w H s Q u s'
 | .ok _=>False
 | .error e=>CX outer H s E e s'
structure FnOk (P:y0q) (w:World) (K:y00) (mg:Str->Option Value) (base:Heap) (CX:CXT) (k:Nat) (f:Addr) (fd:y0b) (ps:List Str) (sp:Sp):Prop where
 len:∀vs H Q E,sp vs H Q E->vs.length=ps.length
 run:∀(A:Around) (outer:List Env) (s:y04) (H:Hp) (args:Args) (us:List Value) (vs:List V) (Q:VK) (E:XK),Room k A->Env0 P w K mg base A outer s H->BindsTo s fd args (ps.zip us)->Vals vs us->sp vs H Q E ->
  codeAny (y2w P w) A (.call (.ref f) args) (CR CX outer P w H s Q E) s
theorem FnOk.mono {P:y0q} {w:World} {K:y00} {mg:Str->Option Value} {base:Heap} {CX:CXT} {j k:Nat} {f:Addr} {fd:y0b} {ps:List Str} {sp:Sp} (F:FnOk P w K mg base CX j f fd ps sp) (h:j<=k) :
  FnOk P w K mg base CX k f fd ps sp:=⟨F.len,fun A outer s H args us vs Q E hr=>F.run A outer s H args us vs Q E (hr.mono h)⟩
theorem FnOk.imp {P:y0q} {w:World} {K:y00} {mg:Str->Option Value} {base:Heap} {CX:CXT} {k:Nat} {f:Addr} {fd:y0b} {ps:List Str} {sp sp':Sp} (F:FnOk P w K mg base CX k f fd ps sp)
  (h:∀vs H Q E,sp' vs H Q E->sp vs H Q E):FnOk P w K mg base CX k f fd ps sp' :=
 ⟨fun vs H Q E q=>F.len vs H Q E (h _ _ _ _ q),fun A outer s H args us vs Q E hr he hb hv hs=>F.run A outer s H args us vs Q E hr he hb hv (h _ _ _ _ hs)⟩
section
variable {X:Cx} {pins:List (Addr×Obj)} {σ:St} {H:Hp} {s s':y04}
theorem Inv.env0 (I:Inv X pins σ H s):Env0 X.prog X.w X.K X.mg X.base X.A X.stack s H :=
 ⟨I.ok.frames,I.ok.mod,I.bs,y1p I.ok.bsz I.sz,I.stack,I.stkFree,I.hok,I.bare⟩
theorem Inv.after {Q:VK} {u:Value} (I:Inv X pins σ H s) (h:CE X.stack X.prog X.w H s Q u s'):EP X pins σ Q u s':=by
 obtain⟨v,H',os,bare,un,hok,r,q⟩:=h
 obtain⟨hh,g,d,t,os'⟩:=s'
 obtain rfl:os'=s.os:=os
 exact⟨v,H',I.call (h':=hh) (g':=g) (d':=d) (t':=t) (ch:=[]) un hok bare (fun b z=>absurd z (by simp)),r,q⟩
end
def zsn (sp:Sp) (dvs:List V) (E:XK) (t:TA):TE:=fun σ H Q=>t σ H fun vs H1=>sp (vs++dvs) H1 Q E
def Binds (K:y00) (fd:y0b) (ps:List Str) (ds:List Value):Prop :=
 ∀(s:y04) (us:List Value),K.In s.heap->(us++ds).length=ps.length->BindsTo s fd ⟨us,[]⟩ (ps.zip (us++ds))
theorem Binds.all {K:y00} {fd:y0b} {ps:List Str} (h:∀us:List Value,us.length=ps.length->bindArgs fd ⟨us,[]⟩=pure (ps.zip us)):Binds K fd ps []:=fun s us _ hl=>by
 rw[List.append_nil] at hl ⊢
 exact .of_eq (h us hl)
def Passes (CX:CXT) (X:Cx) (E:XK):Prop:=∀(pins:List (Addr×Obj)) (σ:St) (H:Hp) (s:y04) (e:Value) (s':y04),Inv X pins σ H s->CX X.stack H s E e s'->X.xe e s'
section
variable {X:Cx} {CX:CXT} {k:Nat} {f C:Addr} {fd:y0b} {ps:List Str} {sp:Sp} {dvs:List V} {ds:List Value} {E:XK} {x m:Str} {p pos apos:Pos} {e o:Expr} {es:List Expr} {ta:TE} {t:TA}
theorem zqm {pins:List (Addr×Obj)} {σ:St} {H:Hp} {s:y04} {Q:VK} {us:List Value} {vs:List V} (F:FnOk X.prog X.w X.K X.mg X.base CX k f fd ps sp) (hr:Room k X.A) (hb:Binds X.K fd ps ds) (hd:Vals dvs ds) (hx:Passes CX X E)
  (I:Inv X pins σ H s) (r:Vals vs us) (h:sp (vs++dvs) H Q E):y0u (y2w X.prog X.w) X.A (call (.ref f) us) (EP X pins σ Q) X.xe s:=by
 have r2:Vals (vs++dvs) (us++ds):=r.append hd
 have hl:(us++ds).length=ps.length:=by rw[<- r2.length];exact F.len _ _ _ _ h
 refine wpAny_call (y2o (F.run X.A X.stack s H ⟨us,[]⟩ (us++ds) (vs++dvs) Q E hr I.env0 (hb s us I.kIn hl) r2 h) fun r s' hq=>?_)
 cases r with
 | error e=>exact hx pins σ H s e s' I hq
 | ok fl =>
  cases fl with
  | ret u=>exact I.after hq
  | next=>exact y1w hq
  | brk=>exact y1w hq
  | cont=>exact y1w hq
theorem zpf (F:FnOk X.prog X.w X.K X.mg X.base CX k f fd ps sp) (hr:Room k X.A) (hg:Gl X x) (hm:X.mg x=some (.ref f)) (hk:y08 X.K (.ref f)=true) (hb:Binds X.K fd ps ds) (hd:Vals dvs ds) (hx:Passes CX X E)
  (ha:PA X (e::es) t) (hdb:(x == ("__debug__":Str))=false:=by decide) (he:y0a (e::es) X.env=(false,eval e X.env)::y0a es X.env:=by rfl) (hpl:(y2g pos (y0a es X.env)).any (·.1)=false:=by rfl) :
  PE X (.Call (.Name x p) (e::es) [] pos) (zsn sp dvs E t):=by
 intro pins s σ H Q I h
 refine wpAny_Call_Name_kw (zk9 I hg hm ?_ hdb)
 refine PySem.W.callWith_K (h₀:=X.base) I.ok.mod.kin hk (thn (ha pos pins s σ H _ I h) fun us s1 ⟨vs,H1,I1,r,q⟩=>⟨I1.kIn,?_⟩) he hpl
 exact zqm F hr hb hd hx I1 r q
end
section
variable {X:Cx} {CX:CXT} {k:Nat} {f C:Addr} {fd:y0b} {ps ks:List Str} {sp:Sp} {E:XK} {x m:Str} {p pos apos kpos:Pos} {e o:Expr} {es:List Expr} {kws:List Keyword} {te ta:TE} {t tk:TA} {nm:Option Str}
variable {g:List Value->List Value->List Value} {gV:List V->List V->List V}
end
structure FnScope (N P:List Str) (sc:Scope):Prop where
 kind:sc.kind=.function
 co:sc.isCoroutine=false
 gen:sc.isGenerator=false
 nd:N.Nodup
 pre:N.take P.length=P
 par:∀x∈P,sc.names.lookup x=some .local\/sc.names.lookup x=some .cell
 nofree:∀y∈sc.names,y.2≠.free
theorem zdq {kindOf:Str->Option y2v} {x:Str}:∀{binds:List (Str×Value)} {m:Str->Option Value},(∀v,(x,v)∉binds)->bindL kindOf binds m x=m x
  | [],_,_=>rfl
  | (n,v)::r,m,h=>by
    unfold bindL
    rw[zdq fun w hw=>h w (y05 _ hw)]
    split
    · have:x≠n:=by rintro rfl;exact h v y0e
      simp[this]
    · rfl
theorem zds {kindOf:Str->Option y2v} {x:Str}:∀{binds:List (Str×Value)} {m:Str->Option Value},(∀v,(x,v)∉binds)->bindC kindOf binds m x=m x
  | [],_,_=>rfl
  | (n,v)::r,m,h=>by
    unfold bindC
    rw[zds fun w hw=>h w (y05 _ hw)]
    split
    · rfl
    · have:x≠n:=by rintro rfl;exact h v y0e
      simp[this]
theorem zdr {kindOf:Str->Option y2v} {x:Str} {v:Value}:∀{P:List Str} {vs:List Value} {i:Nat} {m:Str->Option Value},P.Nodup->P[i]?=some x->vs[i]?=some v->kindOf x=some .local ->
  bindL kindOf (P.zip vs) m x=some v
 | [],_,_,_,_,h,_,_=>by simp at h
 | _::_,[],_,_,_,_,h,_=>by simp at h
 | p::P,w::vs,0,m,nd,h1,h2,hk=>by
  simp at h1 h2;subst h1;subst h2
  show bindL kindOf ((p,w)::P.zip vs) m p=_
  unfold bindL
  rw[zdq fun v hv=>(y0r.mp nd).1 (List.of_mem_zip hv).1,if_pos hk]
  simp
 | p::P,w::vs,i+1,m,nd,h1,h2,hk=>by
  show bindL kindOf ((p,w)::P.zip vs) m x=_
  unfold bindL
  exact zdr (i:=i) (y0r.mp nd).2 (by simpa using h1) (by simpa using h2) hk
theorem zdt {kindOf:Str->Option y2v} {x:Str} {v:Value}:∀{P:List Str} {vs:List Value} {i:Nat} {m:Str->Option Value},P.Nodup->P[i]?=some x->vs[i]?=some v->kindOf x≠some .local ->
  bindC kindOf (P.zip vs) m x=some v
 | [],_,_,_,_,h,_,_=>by simp at h
 | _::_,[],_,_,_,_,h,_=>by simp at h
 | p::P,w::vs,0,m,nd,h1,h2,hk=>by
  simp at h1 h2;subst h1;subst h2
  show bindC kindOf ((p,w)::P.zip vs) m p=_
  unfold bindC
  rw[zds fun v hv=>(y0r.mp nd).1 (List.of_mem_zip hv).1,if_neg hk]
  simp
 | p::P,w::vs,i+1,m,nd,h1,h2,hk=>by
  show bindC kindOf ((p,w)::P.zip vs) m x=_
  unfold bindC
  exact zdt (i:=i) (y0r.mp nd).2 (by simpa using h1) (by simpa using h2) hk
def start (N:List Str) (vs:List V):St:=vs.map some++y0g (N.length - vs.length) none
noncomputable def cxOf (CX:CXT) (P:y0q) (w:World) (K:y00) (mg:Str->Option Value) (base:Heap) (N:List Str) (qual:Str) (scope:Scope) (f:Addr) (cd:Value) (A:Around) (outer:List Env) (s:y04) (H:Hp) (E:XK):Cx where
 prog:=P
 w:=w
 K:=K
 mg:=mg
 base:=base
 A:=A.deeper (envOfC qual scope s.heap.objs.size f cd)
 N:=N
 s₀:=s
 H₀:=H
 env:=envOfC qual scope s.heap.objs.size f cd
 outer:=outer
 stack:=envOfC qual scope s.heap.objs.size f cd::outer
 ex:=[]
 calm:=true
 fn:=fun _=>true
 pn:=[]
 xe:=fun e s'=>y0u (y2w P w) (A.deeper (envOfC qual scope s.heap.objs.size f cd)) (leaving (envOfC qual scope s.heap.objs.size f cd) e) (fun _ s''=>CX outer H s E e s'') (fun e' s''=>CX outer H s E e' s'') s'
theorem zgv {sc:Scope} {n:Nat} {x:Str} (h:sc.names.lookup x=some .cell):∃c,(cellsFrom n sc.names []).lookup x=some c:=by
 have q:=PySem.W.cellsFrom_some sc.names n [] (.inl h)
 exact Option.isSome_iff_exists.mp q
theorem zkn {CX:CXT} {P:y0q} {w:World} {K:y00} {mg:Str->Option Value} {base:Heap} {N ps:List Str} {qual:Str} {scope:Scope} {f:Addr} {cd:Value} {A:Around} {outer:List Env} {s s1:y04} {H:Hp} {E:XK} {us:List Value} {vs:List V}
  (S:FnScope N ps scope) (hd:A.handled=none) (e0:Env0 P w K mg base A outer s H) (hl:vs.length=ps.length) (r:Vals vs us)
  (x:InCallC s s.heap.objs.size (bindL (envOfC qual scope s.heap.objs.size f cd).kindOf (ps.zip us) fun _=>none) (cellsFrom (s.heap.objs.size+1) scope.names []) (bindC (envOfC qual scope s.heap.objs.size f cd).kindOf (ps.zip us) fun _=>none) s1) :
  Inv (cxOf CX P w K mg base N qual scope f cd A outer s H E) [] (start N vs) H s1:=by
 have hpl:ps.length<=N.length:=by have:=congrArg List.length S.pre;rw[List.length_take] at this;omega
 obtain⟨h1,tk,rfl,hk⟩:=x.done
 have noA:∀b:Addr,b∉(cxOf CX P w K mg base N qual scope f cd A outer s H E).ex:=fun b z=>absurd (show b∈([]:List Addr) from z) (by simp)
 refine⟨⟨e0.mod,S.kind,rfl,rfl,y0o _,fun y z c h1 h2=>?_,fun y hy=>?_,fun y c _ h=>?_,fun _=>hd,Around.frames_deeper e0.frames,.inr ⟨rfl,rfl⟩,fun b z=>absurd z (noA b),e0.bs,e0.bsz,fun b _ _=>noA b,fun b z=>absurd z (noA b),e0.funs,e0.frf⟩,
  rfl,e0.bare,Un.kept hk,⟨_,x.toInCall.ns,fun i y v h1 h2 h3=>?_⟩,fun y c h=>⟨_,x.cell y c h⟩,e0.hok.fresh (y0o _),fun y c h=>?_,fun p hp=>absurd (show p∈([]:List (Addr×Obj)) from hp) (by simp),e0.hok.kept hk,?_⟩
 ·exact name_of_addr x.apart (y26 h1) (y26 h2)
 ·have hy:scope.names.lookup y=some .cell\/scope.names.lookup y=some .free:=hy
  rcases hy with hy|hy
  ·exact zgv hy
  ·exact absurd rfl (S.nofree _ (y26 hy))
 ·exact Nat.le_of_lt (x.above y c (y26 h))
 ·have hi:i<vs.length:=by
   unfold start at h2
   by_cases hi:i<vs.length
   ·exact hi
   ·rw[y1m (by simpa using hi)] at h2
    rw[List.getElem?_replicate] at h2
    split at h2 <;> cases h2
  have ha:vs[i]?=some v:=by
   unfold start at h2
   rw[y1n (by simpa using hi),y15] at h2
   cases e:vs[i]? with
   | none=>rw[e] at h2;cases h2
   | some a=>rw[e] at h2;cases h2;rfl
  obtain⟨u,hu,rv⟩:=r.get ha
  have hp:ps[i]?=some y:=by
   rw[<- S.pre,List.getElem?_take_of_lt (by omega)];exact h1
  have ndP:ps.Nodup:=by rw[<- S.pre];exact S.nd.sublist (List.take_sublist _ _)
  refine⟨u,rv,?_⟩
  rcases S.par y (List.mem_of_getElem? hp) with k|k
  ·exact .inl ⟨k,zdr ndP hp hu k⟩
  ·obtain⟨c,e⟩:=zgv (n:=s.heap.objs.size+1) k
   refine .inr ⟨.inl k,c,e,?_⟩
   have q:=x.cell y c e
   rw[zdt ndP hp hu (by show scope.names.lookup y≠_;rw[k];decide)] at q
   exact q
 ·exact e0.hok.fresh (Nat.le_of_lt (x.above y c (y26 h)))
 ·unfold start
  show _=N.length
  rw[y20,y14,List.length_replicate]
  omega
theorem zt8 {CX:CXT} {P:y0q} {w:World} {K:y00} {mg:Str->Option Value} {base:Heap} {k:Nat} {f:Addr} {name qual:Str} {params:Arguments} {body:List Stmt} {scope:Scope} {dV kV doc pm cdv ct oc:Value} {an od:Option Addr}
  {osl:Array (Option Value)} {N ps:List Str} {sp:Sp} (lk:K.lookup f=some ⟨oc,od,.func (y0i name qual params body scope dV kV doc pm an cdv ct),osl⟩) (hcd:y0f K cdv qual=true) (S:FnScope N ps scope)
  (len:∀vs H Q E,sp vs H Q E->vs.length=ps.length)
  (hbody:∀(A:Around) (outer:List Env) (s:y04) (H:Hp) (vs:List V) (Q:VK) (E:XK),Room k (A.deeper (envOfC qual scope s.heap.objs.size f cdv))->sp vs H Q E ->
   ∃t,PSs (cxOf CX P w K mg base N qual scope f cdv A outer s H E) body t/\t { nx:=fun _ H'=>Q .non H',rt:=Q } (start N vs) H) :
  FnOk P w K mg base CX (k+1) f (y0i name qual params body scope dV kV doc pm an cdv ct) ps sp:=by
 refine⟨len,fun A outer s H args us vs Q E hr e0 hb r hsp=>?_⟩
 have hl:=len _ _ _ _ hsp
 have KX:K.In s.heap:=e0.mod.kin.keeps fun b o e=>(e0.bs b o e).1
 have lim:s.heap.NoLimit:=e0.mod.nolimit.keeps fun b o e=>(e0.bs b o e).1
 have hkind:∀y∈ps.zip us,scope.names.lookup y.1=some .local\/(scope.names.lookup y.1=some .cell/\((cellsFrom (s.heap.objs.size+1) scope.names []).lookup y.1).isSome=true):=fun⟨n,v⟩ hy=>by
  rcases S.par n (List.of_mem_zip hy).1 with q|q
  ·exact .inl q
  ·exact .inr ⟨q,PySem.W.cellsFrom_some _ _ _ (.inl q)⟩
 refine codeAny_call_function hr.depth (KX _ _ lk) rfl S.co S.gen rfl (PySem.W.codeRec_of KX hcd) (hb _ _ _ _ ?_)
 refine wpAny_newFunctionEnv_cells S.kind hkind fun env he s1 x=>?_
 subst he
 refine⟨lim.keeps x.toInCall.keep,codeAny_func ?_⟩
 obtain⟨t,ht,hq⟩:=hbody A outer s H vs Q E (hr.deeper _) hsp
 have I:Inv (cxOf CX P w K mg base N qual scope f cdv A outer s H E) [] (start N vs) H s1:=zkn S hr.hd e0 hl r x
 refine y1e (ht [] s1 (start N vs) H _ I hq) (fun fl s' hs=>?_) fun e s' hs=>hs
 have fin:∀{σ':St} {H':Hp} {v:V} {u:Value},Inv (cxOf CX P w K mg base N qual scope f cdv A outer s H E) [] σ' H' s'->RelV v u->Q v H'->CE outer P w H s Q u s' :=
  fun {σ' H' v u} J rv q=>⟨v,H',J.os,J.bare,J.base,J.hok,rv,q⟩
 cases fl with
 | ret u =>
  obtain⟨v,σ',H',J,rv,q⟩:=hs
  exact fin J rv q
 | next =>
  obtain⟨σ',H',J,q⟩:=hs
  exact fin (v:=V.non) (u:=Value.none) J rfl q
 | brk =>
  obtain⟨_,_,_,q⟩:=hs
  exact y1w q
 | cont =>
  obtain⟨_,_,_,q⟩:=hs
  exact y1w q
end L2
namespace L2
open PySem PySem.Spec PyProof.Rows
section
variable {X:Cx} {x:Str} {p pos:Pos} {e:Expr} {es:List Expr} {t:TA} {id T:String} {r:List V->Hp->VK->Prop}
def tCB (r:List V->Hp->VK->Prop) (t:TA):TE:=fun σ H Q=>t σ H fun vs H1=>r vs H1 Q
theorem zb3 (hc:z5j X (.builtin id) r) (hg:Gl X x) (hm:X.mg x=none) (hv:bootBuiltins x=some (.builtin id)) (ha:PA X (e::es) t) (hn:x≠"__name__":=by decide) (hdb:(x == ("__debug__":Str))=false:=by decide)
  (he:y0a (e::es) X.env=(false,eval e X.env)::y0a es X.env:=by rfl) (hpl:(y2g pos (y0a es X.env)).any (·.1)=false:=by rfl):PE X (.Call (.Name x p) (e::es) [] pos) (tCB r t):=by
 intro pins s σ H Q I h
 refine wpAny_Call_Name_kw (z93 I hg hm hv ?_ hn hdb)
 exact PyProof.Rows.callWith_builtin1 (thn (ha pos pins s σ H _ I h) fun us s1 ⟨vs,H1,I1,r1,q1⟩=>hc pins s1 σ H1 vs us Q I1 r1 q1) he hpl
theorem z6y (hc:z5j X (.type T) r) (hg:Gl X x) (hm:X.mg x=none) (hv:bootBuiltins x=some (.type T)) (ha:PA X (e::es) t) (hn:x≠"__name__":=by decide) (hdb:(x == ("__debug__":Str))=false:=by decide)
  (he:y0a (e::es) X.env=(false,eval e X.env)::y0a es X.env:=by rfl) (hpl:(y2g pos (y0a es X.env)).any (·.1)=false:=by rfl):PE X (.Call (.Name x p) (e::es) [] pos) (tCB r t):=by
 intro pins s σ H Q I h
 refine wpAny_Call_Name_kw (z93 I hg hm hv ?_ hn hdb)
 exact y1s (thn (ha pos pins s σ H _ I h) fun us s1 ⟨vs,H1,I1,r1,q1⟩=>hc pins s1 σ H1 vs us Q I1 r1 q1) he hpl
end
end L2
namespace HT
open PySem PyProof.Rows
section
open PySem.SeqAt
open PySem.AutoSeq1 (wpAny_loadPart')
open PySem.MeetsSeq PySem.MeetsSeq2 PySem.MeetsSeq3
end
section
variable {prog:y0q} {w:World} {A:Around} {E:Value->y04->Prop} {s:y04}
theorem cat_tup {t b:Addr} {vs ws:List Value} {Q:Value->y04->Prop} (ht:IsTup s.heap t vs.toArray) (hb:IsTup s.heap b ws.toArray) (hv:vs≠[])
  (h1:ws=[]->Q (.ref t) s) (h2:ws≠[]->Q (.ref s.heap.objs.size) { s with heap:=s.heap.push { cls:=.type "tuple",data:=.seq (vs++ws).toArray } })
  (hsz:vs.length+ws.length<=y0j):y0u (y2w prog w) A (y2u .Add (.ref t) (.ref b)) Q E s:=by
 obtain⟨⟨cls,dd,data,sl⟩,ho,hc,n,hd⟩:=id ht
 obtain⟨⟨cls2,dd2,data2,sl2⟩,ho2,hc2,n2,hd2⟩:=id hb
 simp only at hc hd hc2 hd2
 subst hc hd hc2 hd2
 have e:vs.toArray++ws.toArray=(vs++ws).toArray:=by simp
 by_cases hw:ws=[]
 ·exact concat_meets ⟨_,ho,rfl⟩ ⟨_,ho2,rfl⟩ noFill_tuple_add seq_tuple_add PySem.F.slot_tuple_add PySem.F.entry_tuple_add (PySem.F.args_tuple_add_2 _ _)
   (tuple_addW1 t b vs.toArray ws.toArray n n2 dd dd2 sl sl2 (by simpa using hv) (by simp[hw])) ⟨ho,ho2,h1 hw⟩
 ·refine concat_meets ⟨_,ho,rfl⟩ ⟨_,ho2,rfl⟩ noFill_tuple_add seq_tuple_add PySem.F.slot_tuple_add PySem.F.entry_tuple_add (PySem.F.args_tuple_add_2 _ _)
   (tuple_addW2 t b vs.toArray ws.toArray n n2 dd dd2 sl sl2 (by simpa using hv) (by simpa using hw) (by rw[y0h,y0h];exact hsz)) ⟨ho,ho2,?_⟩
  rw[e]
  exact h2 hw
def sIx (n d:Nat):Option Int->Nat
 | none=>d
 | some v=>if v<0 then (v+(n:Int)).toNat else min v.toNat n
theorem zcb (n d:Nat) (hd:d<=n) (o:Option Int):sIx n d o<=n:=by
 cases o with
 | none=>exact hd
 | some v =>
  show (if v<0 then (v+(n:Int)).toNat else min v.toNat n)<=n
  by_cases hv:v<0
  ·rw[if_pos hv];omega
  ·rw[if_neg hv];exact Nat.min_le_right _ _
theorem zl5 (v:Int) (n d:Nat):(if v<0 then max (v+(n:Int)) 0 else min v (n:Int))=((sIx n d (some v):Nat):Int):=by
 show (if v<0 then max (v+(n:Int)) 0 else min v (n:Int))=(((if v<0 then (v+(n:Int)).toNat else min v.toNat n):Nat):Int)
 by_cases hv:v<0
 ·simp only[if_pos hv];omega
 ·simp only[if_neg hv];omega
theorem zir (lo hi:Option Int) (n:Nat):Builtin.Slice.sliceAdjust lo hi 1 (n:Int)=(((sIx n 0 lo:Nat):Int),((sIx n n hi:Nat):Int)):=by
 have h1:¬((1:Int)<0):=by omega
 unfold Builtin.Slice.sliceAdjust
 simp only[h1,if_false]
 refine Prod.ext ?_ ?_
 ·cases lo with
  | none=>rfl
  | some v=>exact zl5 v n 0
 ·cases hi with
  | none=>rfl
  | some v=>exact zl5 v n n
theorem zhn (i j:Nat):y1k (i:Int) (j:Int) 1=j - i:=by
 unfold y1k
 have h1:(1:Int) > 0:=by omega
 simp only[h1,if_true,Int.ediv_one]
 split <;> omega
theorem za3 {v:Value} {o:Option Int} {Q:Option Int->y04->Prop} (p:IsPart v o) (h:Q o s):y0u (y2w prog w) A (Builtin.Slice.slicePartIndex v) Q E s:=by
 cases p with
 | none=>exact slicePart_none h
 | int i t=>exact slicePart_int h
theorem sliceApplied_gen {sl:Addr} {vl vu:Value} {lo hi:Option Int} {n:Nat} {Q:Int×Int×Nat->y04->Prop} (hs:s.heap.IsSliceOf sl vl vu .none) (pl:IsPart vl lo) (pu:IsPart vu hi)
  (h:Q (((sIx n 0 lo:Nat):Int),1,sIx n n hi - sIx n 0 lo) s):y0u (y2w prog w) A (Builtin.Slice.sliceApplied (.ref sl) (pure (n:Int))) Q E s:=by
 obtain⟨os,hos,hcs,hds⟩:=id hs
 unfold Builtin.Slice.sliceApplied Builtin.Slice.sliceFields
 refine y02 (y02 (y2h hos hds (x:=vl) rfl (y02 (y2h hos hds (x:=vu) rfl (y02 (y2h hos hds (x:=.none) rfl (y06 ?_)))))))
 refine y02 (slicePart_none ?_)
 show y0u _ _ (if ((1:Int) == 0)=true then _ else _) _ _ s
 rw[if_neg (by decide)]
 refine y02 (za3 pl (y02 (za3 pu (y02 (y06 ?_)))))
 show y0u _ _ (match Builtin.Slice.sliceAdjust lo hi 1 (n:Int) with|(lo,hi)=>pure (lo,(1:Int),y1k lo hi 1)) _ _ s
 rw[zir lo hi n]
 show y0u _ _ (pure (((sIx n 0 lo:Nat):Int),(1:Int),y1k ((sIx n 0 lo:Nat):Int) ((sIx n n hi:Nat):Int) 1)) _ _ s
 rw[zhn]
 exact y06 h
theorem zmm (xs:Array Value) (i k:Nat):((List.range k).filterMap fun (m:Nat)=>xs[((i:Int)+(m:Int)*1).toNat]?).toArray=((xs.toList.drop i).take k).toArray:=by
 have e:(fun (m:Nat)=>xs[((i:Int)+(m:Int)*1).toNat]?)=fun m=>xs[i+m]?:=by
  funext m
  have:((i:Int)+(m:Int)*1).toNat=i+m:=by omega
  rw[this]
 rw[e]
 have:=pick_run xs i k
 rw[List.filterMap_map] at this
 have e2:((fun x=>xs[x]?) ∘ fun x=>i+x)=fun m=>xs[i+m]?:=rfl
 rw[e2] at this
 rw[this]
theorem getItem_tuple_cut {t sl:Addr} {items:Array Value} {vl vu:Value} {lo hi:Option Int} {Q:Value->y04->Prop} (ht:IsTup s.heap t items) (hs:s.heap.IsSliceOf sl vl vu .none) (pl:IsPart vl lo) (pu:IsPart vu hi)
  (hw:¬(sIx items.size 0 lo=0/\sIx items.size items.size hi=items.size))
  (h:Q (.ref s.heap.objs.size) { s with heap:=s.heap.push { cls:=.type "tuple",data:=.seq ((items.toList.drop (sIx items.size 0 lo)).take (sIx items.size items.size hi - sIx items.size 0 lo)).toArray } })
  (hsz:items.size<=y0j):y0u (y2w prog w) A (getItem (.ref t) (.ref sl)) Q E s:=by
 have htake:sizeOk (.seq ((items.toList.drop (sIx items.size 0 lo)).take (sIx items.size items.size hi - sIx items.size 0 lo)).toArray):=by
  show ((items.toList.drop (sIx items.size 0 lo)).take (sIx items.size items.size hi - sIx items.size 0 lo)).toArray.size<=y0j
  rw[y0h,List.length_take,List.length_drop,y1x]
  omega
 have hj:sIx items.size items.size hi<=items.size:=zcb _ _ (y0o _) hi
 obtain⟨os,hos,hcs,hds⟩:=id hs
 have hTs:s.TypeIs (.ref sl) "slice":=⟨os,hos,hcs⟩
 unfold getItem
 try with_reducible refine y2f ?_
 first|refine y02 (y06 ?_)|skip
 refine y02 (wpAny_sequenceKey ht.typeIs (by decide) ?_)
 refine y02 (y2i (name:=Str.ofString "__getitem__") ht.typeIs y1i
  (y2p y1i ht.typeIs entry_tuple_getitem ?_ (args_tuple_getitem _ _)))
 show y0u _ _ (Builtin.Tuple.tupleItemsOf (.ref t) >>= _) _ _ s
 refine y02 (tupleItemsOf_ ht ?_)
 refine y02 (wpAny_typeOf hTs ?_)
 rw[if_pos (by decide)]
 refine y02 (sliceApplied_gen hs pl pu ?_)
 have hno:¬((((sIx items.size 0 lo:Nat):Int) == 0 && (1:Int) == 1 && (sIx items.size items.size hi - sIx items.size 0 lo) == items.size)=true):=by
  intro q
  rw[y1c,y1c] at q
  have q1:((sIx items.size 0 lo:Nat):Int)=0:=eq_of_beq q.1.1
  have q2:sIx items.size items.size hi - sIx items.size 0 lo=items.size:=eq_of_beq q.2
  exact hw ⟨by omega,by omega⟩
 show y0u _ _ (if (((sIx items.size 0 lo:Nat):Int) == 0 && (1:Int) == 1 && (sIx items.size items.size hi - sIx items.size 0 lo) == items.size)=true then _ else _) _ _ s
 rw[if_neg hno,zmm]
 first
  | exact y02 (m:=y13 _) (y2n (y06 ⟨_,rfl,y06 h⟩) htake)
  | exact y02 (m:=y13 _) (y2n (y02 (y06 (y06 ⟨_,rfl,y06 h⟩))) htake)
  | exact y02 (y02 (m:=y13 _) (y2n (y06 (y06 ⟨_,rfl,y06 h⟩)) htake))
  | exact y02 (y02 (m:=y13 _) (y2n (y06 ⟨_,rfl,y06 h⟩) htake))
end
end HT
namespace L2
open PySem PySem.Spec PyProof.Rows
abbrev TO:=St->Hp->(Option Int->Hp->Prop)->Prop
noncomputable def PO (X:Cx) (e:Option Expr) (t:TO):Prop :=
 ∀(pins:List (Addr×Obj)) (s:y04) (σ:St) (H:Hp) (Q:Option Int->Hp->Prop),Inv X pins σ H s->t σ H Q ->
  y0u (y2w X.prog X.w) X.A (evalPart e X.env) (fun u s'=>∃o H',Inv X pins σ H' s'/\IsPart u o/\Q o H') X.xe s
def zor:TO:=fun _ H Q=>Q none H
def zsi (t:TE):TO:=fun σ H Q=>t σ H fun x H1=>∃i,x=.int i/\Q (some i) H1
section
variable {X:Cx} {e:Expr} {te:TE} {lo hi:Option Expr} {tl th:TO} {pos p2:Pos}
theorem zp7:PO X none zor:=by
 intro pins s σ H Q I h
 rw[evalPart_none]
 exact y06 ⟨none,H,I,.none,h⟩
theorem zp6 (h:PE X e te):PO X (some e) (zsi te):=by
 intro pins s σ H Q I hw
 rw[evalPart_some]
 refine thn (h pins s σ H _ I hw) fun u s1 ⟨x,H1,I1,r1,q1⟩=>?_
 obtain⟨i,rfl,q⟩:=q1
 obtain⟨t,rfl⟩:=r1
 exact⟨some i,H1,I1,.int i t,q⟩
noncomputable def SlR (X:Cx) (r:V->Option Int->Option Int->Hp->VK->Prop):Prop :=
 ∀(pins:List (Addr×Obj)) (s:y04) (σ:St) (H:Hp) (x:V) (v vl vu:Value) (lo hi:Option Int) (sl:Addr) (Q:VK),Inv X pins σ H s->RelV x v->s.heap.IsSliceOf sl vl vu .none->IsPart vl lo->IsPart vu hi->r x lo hi H Q ->
  ∃T id,typeLookup (.type T) "__getitem__"=pure (some (.builtin id))/\s.TypeIs v T/\y0u (y2w X.prog X.w) X.A (getItem v (.ref sl)) (EP X pins σ Q) X.xe s
theorem SlR.or {r r':V->Option Int->Option Int->Hp->VK->Prop} (h:SlR X r) (h':SlR X r'):SlR X (fun x lo hi H Q=>r x lo hi H Q\/r' x lo hi H Q):=by
 intro pins s σ H x v vl vu lo hi sl Q I rx hs pl pu q
 rcases q with q|q
 ·exact h pins s σ H x v vl vu lo hi sl Q I rx hs pl pu q
 ·exact h' pins s σ H x v vl vu lo hi sl Q I rx hs pl pu q
def tSl (r:V->Option Int->Option Int->Hp->VK->Prop) (te:TE) (tl th:TO):TE:=fun σ H Q=>te σ H fun x H1=>tl σ H1 fun l H2=>th σ H2 fun u H3=>r x l u H3 Q
theorem zmo {r:V->Option Int->Option Int->Hp->VK->Prop} (hr:SlR X r) (he:PE X e te) (hl:PO X lo tl) (hu:PO X hi th):PE X (.Subscript e (.Slice lo hi none p2) pos) (tSl r te tl th):=by
 intro pins s σ H Q I h
 refine Subscript_ (thn (he pins s σ H _ I h) fun v s1 ⟨x,H1,I1,r1,q1⟩=>?_)
 refine wpAny_Slice (thn (hl pins s1 σ H1 _ I1 q1) fun vl s2 ⟨l,H2,I2,pl,q2⟩=>thn (hu pins s2 σ H2 _ I2 q2) fun vu s3 ⟨u,H3,I3,pu,q3⟩=>?_)
 rw[evalPart_none]
 refine y06 ?_
 have I4:Inv X pins σ H3 { s3 with heap:=s3.heap.push { cls:=.type "slice",data:=.fields #[vl,vu,.none] } }:=I3.kept (t':=s3.toks) fun b ob q=>y03 _ q
 obtain⟨T,id,hT,ht,hg⟩:=hr pins { s3 with heap:=s3.heap.push { cls:=.type "slice",data:=.fields #[vl,vu,.none] } } σ H3 x v vl vu l u s3.heap.objs.size Q I4 r1 (Heap.IsSliceOf.new ..) pl pu q3
 show y0u (y2w X.prog X.w) X.A (subscriptTail e (.Slice lo hi none p2) v (.ref s3.heap.objs.size)) (EP X pins σ Q) X.xe { s3 with heap:=s3.heap.push { cls:=.type "slice",data:=.fields #[vl,vu,.none] } }
 exact tail_any (ops:=[.ref s3.heap.objs.size,v]) ht hT hg (by with_unfolding_all rfl)
def cutV (xs:List V) (lo hi:Option Int):List V:=(xs.drop (HT.sIx xs.length 0 lo)).take (HT.sIx xs.length xs.length hi - HT.sIx xs.length 0 lo)
theorem z9e (xs:List V) (lo hi:Option Int):(cutV xs lo hi).length<=xs.length:=by
 unfold cutV
 rw[List.length_take,List.length_drop]
 omega
noncomputable def rSlT (K:y00):V->Option Int->Option Int->Hp->VK->Prop:=fun x lo hi H Q=>∃a xs,x=.ref a/\SqT K H a xs /\
 ¬(HT.sIx xs.length 0 lo=0/\HT.sIx xs.length xs.length hi=xs.length)/\∀p,H p=none->Q (.ref p) (upd H p (.tup (cutV xs lo hi)))
theorem zqf:SlR X (rSlT X.K):=by
 intro pins s σ H x v vl vu lo hi sl Q I rx hs pl pu h
 obtain⟨a,xs,rfl,hx,hw,q⟩:=h
 cases rx
 obtain⟨its,r,ht,hz⟩:=I.tuple hx
 have hlen:its.toArray.size=xs.length:=by rw[y0h];exact r.length.symm
 refine⟨"tuple",_,PyProof.Rows.slot_tuple_getitem.lookup,ht.typeIs,?_⟩
 refine HT.getItem_tuple_cut ht hs pl pu (by rw[hlen];exact hw) ?_ (by rw[hlen];exact hz)
 rw[hlen]
 refine⟨.ref s.heap.objs.size,_,I.laid (t':=s.toks) (o:=.tup (cutV xs lo hi)) (fun b ob q=>y03 _ q) (y0o _) ?_,rfl,q _ (I.hok.fresh (y0o _))⟩
 exact⟨y1p (z9e xs lo hi) hz,_,(r.drop (HT.sIx xs.length 0 lo)).take (HT.sIx xs.length xs.length hi - HT.sIx xs.length 0 lo),IsTup.new _ _⟩
noncomputable def zsr (K:y00):R2:=fun x y H Q=>∃a b xs ys,x=.ref a/\y=.ref b/\SqT K H a xs/\SqT K H b ys/\xs≠[]/\xs.length+ys.length<=y0j /\
 (ys=[]->Q (.ref a) H)/\(ys≠[]->∀p,H p=none->Q (.ref p) (upd H p (.tup (xs++ys))))
theorem Vals.nil_iff {xs:List V} {us:List Value} (r:Vals xs us):us=[] <-> xs=[]:=by
 cases r with
 | nil=>simp
 | cons _ _=>simp
theorem zph:OpR X (y2u .Add) (zsr X.K):=by
 intro pins s σ H x y v u Q I rx ry h
 obtain⟨a,b,xs,ys,rfl,rfl,ha,hb,hx,hz,q1,q2⟩:=h
 cases rx
 cases ry
 obtain⟨its,r1,p1,_⟩:=I.tuple ha
 obtain⟨its2,r2,p2,_⟩:=I.tuple hb
 refine HT.cat_tup p1 p2 (fun z=>hx (r1.nil_iff.mp z)) (fun z=>⟨.ref a,H,I,rfl,q1 (r2.nil_iff.mp z)⟩) (fun z=>?_) (by rw[<- r1.length,<- r2.length];exact hz)
 refine⟨.ref s.heap.objs.size,_,I.laid (t':=s.toks) (o:=.tup (xs++ys)) (fun b ob q=>y03 _ q) (y0o _) ?_,rfl,q2 (fun w=>z (r2.nil_iff.mpr w)) _ (I.hok.fresh (y0o _))⟩
 exact⟨by rw[y20];exact hz,_,r1.append r2,IsTup.new _ _⟩
end
end L2
namespace L2
open PySem PySem.Spec PyProof.Rows
def ixN (n:Nat) (i:Int):Option Nat:=if 0<=i then (if i<n then some i.toNat else none) else if -(n:Int)<=i then some (i+n).toNat else none
def atI {α:Type} (xs:List α) (i:Int):Option α:=(ixN xs.length i).bind fun j=>xs[j]?
theorem zpq {n:Nat} {i:Int} {j:Nat} (h:ixN n i=some j):seqIndex? i n=some j/\j<n/\-(n:Int)<=i/\i<n:=by
 unfold ixN at h
 by_cases h0:0<=i
 ·rw[if_pos h0] at h
  by_cases h1:i<n
  ·rw[if_pos h1] at h
   have e:i.toNat=j:=y29 h
   exact⟨by rw[seqIndex_of h0 h1,e],by omega,by omega,h1⟩
  ·rw[if_neg h1] at h;cases h
 ·rw[if_neg h0] at h
  by_cases h1:-(n:Int)<=i
  ·rw[if_pos h1] at h
   have e:(i+n).toNat=j:=y29 h
   exact⟨by rw[seqIndex_neg (by omega) h1,e],by omega,h1,by omega⟩
  ·rw[if_neg h1] at h;cases h
theorem zfv {α:Type} {xs:List α} {i:Int} {v:α} (h:atI xs i=some v):∃j,seqIndex? i xs.length=some j/\xs[j]?=some v/\j<xs.length/\-(xs.length:Int)<=i/\i<xs.length:=by
 unfold atI at h
 cases e:ixN xs.length i with
 | none=>rw[e] at h;cases h
 | some j =>
  rw[e] at h
  obtain⟨h1,h2,h3,h4⟩:=zpq e
  exact⟨j,h1,h,h2,h3,h4⟩
def zfw (b:Expr):Prop:=∀o i,subscripted b false o i=operate [o,i] (getItem o i)
noncomputable def IxR (X:Cx) (r:R2):Prop :=
 ∀(value slice:Expr) (pins:List (Addr×Obj)) (s:y04) (σ:St) (H:Hp) (x y:V) (v u:Value) (Q:VK),Inv X pins σ H s->RelV x v->RelV y u->r x y H Q ->
  subscripted slice false v u=operate [v,u] (getItem v u)->y0u (y2w X.prog X.w) X.A (subscriptTail value slice v u) (EP X pins σ Q) X.xe s
noncomputable def MtR (X:Cx) (id:String) (r:V->List V->Hp->VK->Prop):Prop :=
 ∀(pins:List (Addr×Obj)) (s:y04) (σ:St) (H:Hp) (x:V) (xs:List V) (v:Value) (us:List Value) (Q:VK),Inv X pins σ H s->RelV x v->Vals xs us->r x xs H Q ->
  y0u (y2w X.prog X.w) X.A (call (.builtin id) (v::us)) (EP X pins σ Q) X.xe s
section
variable {X:Cx} {a b:Expr} {ta tb:TE} {pos:Pos}
theorem IxR.or {r r':R2} (h:IxR X r) (h':IxR X r'):IxR X (fun x y H Q=>r x y H Q\/r' x y H Q):=by
 intro value slice pins s σ H x y v u Q I rx ry q hs
 rcases q with q|q
 ·exact h value slice pins s σ H x y v u Q I rx ry q hs
 ·exact h' value slice pins s σ H x y v u Q I rx ry q hs
theorem zsz {r:R2} (hr:IxR X r) (ha:PE X a ta) (hb:PE X b tb) (hs:zfw b):PE X (.Subscript a b pos) (tOp r ta tb):=by
 intro pins s σ H Q I h
 exact Subscript_ (binT ha hb I h fun v u s2 x y H2 I2 rx ry q=>hr a b pins s2 σ H2 x y v u Q I2 rx ry q (hs _ _))
def rIxL (K:y00):R2:=fun x y H Q=>∃p xs i v,x=.ref p/\y=.int i/\SqL K H p xs/\atI xs i=some v/\Q v H
def rIxT (K:y00):R2:=fun x y H Q=>∃p xs i v,x=.ref p/\y=.int i/\SqT K H p xs/\atI xs i=some v/\Q v H
def rIxS:R2:=fun x y H Q=>∃z i c,x=.str z/\y=.int i/\z.length<=y0j/\atI z.cps.toList i=some c/\Q (.str ⟨#[c]⟩) H
theorem zpp:IxR X (rIxL X.K):=by
 intro value slice pins s σ H x y v u Q I rx ry h hs
 obtain⟨p,xs,i,z,rfl,rfl,hq,he,q⟩:=h
 cases rx
 obtain⟨t,rfl⟩:=ry
 obtain⟨its,r,pl,hz⟩:=I.list hq
 obtain⟨j,h1,h2,h3,h4,h5⟩:=zfv he
 obtain⟨w,ew,rw'⟩:=r.get h2
 have hl:=r.length
 have hn:=zda
 have fin:EP X pins σ Q w s:=⟨z,H,I,rw',q⟩
 by_cases h0:0<=i
 ·have hj:i.toNat=j:=by
   rw[seqIndex_of h0 h5] at h1
   exact y29 h1
  exact item_listR pl.isList h0 (by omega) (by rw[hj];simpa using ew) fin hs
 ·have hj:(i+(its.toArray.size:Int)).toNat=j:=by
   rw[seqIndex_neg (by omega) h4] at h1
   rw[y0h,<- hl]
   exact y29 h1
  exact subscriptTail_builtinR (x:=w) pl.isList.typeIs slot_list_getitem.lookup
   (wpAny_getItem_list_neg (Q:=fun r s'=>r=w/\EP X pins σ Q r s') pl.isList (by omega) (by rw[y0h] <;> omega) (by omega) (by rw[hj];simpa using ew) ⟨rfl,fin⟩) hs
theorem zrz:IxR X (rIxT X.K):=by
 intro value slice pins s σ H x y v u Q I rx ry h hs
 obtain⟨p,xs,i,z,rfl,rfl,hq,he,q⟩:=h
 cases rx
 obtain⟨t,rfl⟩:=ry
 obtain⟨its,r,pl,hz⟩:=I.tuple hq
 obtain⟨j,h1,h2,h3,h4,h5⟩:=zfv he
 obtain⟨w,ew,rw'⟩:=r.get h2
 have hl:=r.length
 have hn:=zda
 have fin:EP X pins σ Q w s:=⟨z,H,I,rw',q⟩
 exact subscriptTail_builtinR (x:=w) pl.typeIs slot_tuple_getitem.lookup
  (getItem_tuple (j:=j) (Q:=fun r s'=>r=w/\EP X pins σ Q r s') pl (by omega) (by omega) (by rw[y0h,<- hl];exact h1) (by simpa using ew) ⟨rfl,fin⟩) hs
theorem zs0:IxR X rIxS:=by
 intro value slice pins s σ H x y v u Q I rx ry h hs
 obtain⟨z,i,c,rfl,rfl,hz,he,q⟩:=h
 obtain⟨t,rfl⟩:=rx
 obtain⟨t',rfl⟩:=ry
 obtain⟨j,h1,h2,h3,h4,h5⟩:=zfv he
 have hl:z.cps.toList.length=z.length:=by simp[Str.length]
 rw[hl] at h1 h4 h5
 have hn:=zda
 exact tail_any (typeIs_str s z t) slot_str_getitem.lookup (getItem_str (c:=c) (by
  have e1:decide (i < -(2 ^ 63:Int))=false:=decide_eq_false (by omega)
  have e2:decide (i >= 2 ^ 63)=false:=decide_eq_false (by omega)
  rw[e1,e2,Bool.or_false]) (by rw[h1];simpa using h2) ⟨.str ⟨#[c]⟩,H,I.tok _,⟨_,rfl⟩,q⟩) hs
def rIx (K:y00):R2:=fun x y H Q=>rIxL K x y H Q\/rIxT K x y H Q\/rIxS x y H Q
theorem zs1:IxR X (rIx X.K):=zpp.or (zrz.or zs0)
theorem zc1 (lo hi:Option Int) (n:Nat):(sliceBounds lo hi none n).1=((HT.sIx n 0 lo:Nat):Int)/\(sliceBounds lo hi none n).2.1=((HT.sIx n n hi:Nat):Int)/\(sliceBounds lo hi none n).2.2=1:=by
 refine⟨?_,?_,rfl⟩
 ·cases lo with
  | none=>simp[sliceBounds,HT.sIx]
  | some i =>
   simp only[sliceBounds,HT.sIx,Option.getD_none,show (1:Int) > 0 by decide,if_true]
   by_cases h:i<0
   ·simp only[h,if_true] <;> omega
   ·simp only[h,if_false] <;> omega
 ·cases hi with
  | none=>simp[sliceBounds,HT.sIx]
  | some i =>
   simp only[sliceBounds,HT.sIx,Option.getD_none,show (1:Int) > 0 by decide,if_true]
   by_cases h:i<0
   ·simp only[h,if_true] <;> omega
   ·simp only[h,if_false] <;> omega
theorem zaw (its:List Value) (lo hi:Option Int):slicePick its.toArray lo hi none=((its.drop (HT.sIx its.length 0 lo)).take (HT.sIx its.length its.length hi - HT.sIx its.length 0 lo)).toArray:=by
 obtain⟨h1,h2,h3⟩:=zc1 lo hi its.toArray.size
 unfold slicePick
 rw[h1,h2,h3]
 simp only[sliceRange_one,pick_run,y0h] <;> rfl
def rSlL (K:y00):V->Option Int->Option Int->Hp->VK->Prop:=fun x lo hi H Q=>∃a xs,x=.ref a/\SqL K H a xs/\∀p,H p=none->Q (.ref p) (upd H p (.lst (cutV xs lo hi)))
theorem zot:SlR X (rSlL X.K):=by
 intro pins s σ H x v vl vu lo hi sl Q I rx hs pl pu h
 obtain⟨a,xs,rfl,hx,q⟩:=h
 cases rx
 obtain⟨its,r,ht,hz⟩:=I.list hx
 have hlen:=r.length
 refine⟨"list",_,slot_list_getitem.lookup,ht.isList.typeIs,?_⟩
 refine wpAny_getItem_list_slice ht.isList hs pl pu .none (by simp) ?_ (by rw[y0h] <;> omega)
 rw[zaw,<- hlen]
 refine⟨.ref s.heap.objs.size,_,I.laid (t':=s.toks) (o:=.lst (cutV xs lo hi)) (fun b ob q=>y03 _ q) (y0o _) ?_,rfl,q _ (I.hok.fresh (y0o _))⟩
 exact⟨y1p (z9e xs lo hi) hz,_,0,(r.drop (HT.sIx xs.length 0 lo)).take (HT.sIx xs.length xs.length hi - HT.sIx xs.length 0 lo),y0l _ rfl⟩
theorem zdp:z5j X (.builtin "len") (fun xs H Q=>∃p ys,xs=[.ref p]/\(SqL X.K H p ys\/SqT X.K H p ys)/\Q (.int ys.length) H):=by
 intro pins s σ H xs us Q I r h
 obtain⟨p,ys,rfl,hq,q⟩:=h
 obtain⟨u,rfl,rx⟩:=vals1 r
 cases rx
 have hn:=zda
 rcases hq with hq|hq
 ·obtain⟨its,r',pl,hz⟩:=I.list hq
  have hlen:=r'.length
  exact Calls.call_len_list pl.isList (by simp only[y0h] <;> omega) ⟨.int ys.length,H,I.tok _,⟨s.toks+1,by rw[y0h,hlen]⟩,q⟩
 ·obtain⟨its,r',pl,hz⟩:=I.tuple hq
  have hlen:=r'.length
  exact len_tuple pl (by simp only[y0h] <;> omega) ⟨.int ys.length,H,I.tok _,⟨s.toks+1,by rw[y0h,hlen]⟩,q⟩
theorem zdo:z5j X (.builtin "len") (fun xs H Q=>∃z,xs=[.str z]/\z.length<=y0j/\Q (.int z.length) H):=by
 intro pins s σ H xs us Q I r h
 obtain⟨z,rfl,hz,q⟩:=h
 obtain⟨u,rfl,t,rfl⟩:=vals1 r
 have hn:=zda
 exact len_str (by omega) ⟨.int z.length,H,I.tok _,⟨_,rfl⟩,q⟩
theorem z5j.or {f:Value} {r r':List V->Hp->VK->Prop} (h:z5j X f r) (h':z5j X f r'):z5j X f (fun xs H Q=>r xs H Q\/r' xs H Q):=by
 intro pins s σ H xs us Q I rs q
 rcases q with q|q
 ·exact h pins s σ H xs us Q I rs q
 ·exact h' pins s σ H xs us Q I rs q
theorem zdn:z5j X (.type "list") (fun xs H Q=>∃p ys,xs=[.ref p]/\(SqL X.K H p ys\/SqT X.K H p ys)/\∀l,H l=none->Q (.ref l) (upd H l (.lst ys))):=by
 intro pins s σ H xs us Q I r h
 obtain⟨p,ys,rfl,hq,q⟩:=h
 obtain⟨u,rfl,rx⟩:=vals1 r
 cases rx
 have fin:∀(its:List Value),Vals ys its->ys.length<=y0j->∀(h':Heap) (c':Nat),(∀b o',s.heap.get? b=some o'->h'.get? b=some o') ->
   h'.get? s.heap.objs.size=some { cls:=.type "list",dict:=none,data:=.seq its.toArray c',slots:=#[] }->EP X pins σ Q (.ref s.heap.objs.size) { s with heap:=h' }:=fun its r' hz h' c' kp e =>
  ⟨.ref s.heap.objs.size,_,I.laid (t':=s.toks) kp (y0o _) (show z6q X.prog X.w _ h' _ (.lst ys) from ⟨hz,its,c',r',e⟩),rfl,q _ (I.hok.fresh (y0o _))⟩
 rcases hq with hq|hq
 ·obtain⟨its,r',pl,hz⟩:=I.list hq
  have hlen:=r'.length
  obtain⟨o,ho,hc,n,hd⟩:=pl.isList
  exact call_list_seq p (.inl rfl) ho hc hd (fun h' c' kp e=>fin its r' hz h' c' kp e) (by simp only[y0h] <;> omega)
 ·obtain⟨its,r',pl,hz⟩:=I.tuple hq
  have hlen:=r'.length
  obtain⟨o,ho,hc,n,hd⟩:=pl
  exact call_list_seq p (.inr rfl) ho hc hd (fun h' c' kp e=>fin its r' hz h' c' kp e) (by simp only[y0h] <;> omega)
theorem zbg:z5j X (.type "tuple") (fun xs H Q=>∃p ys,xs=[.ref p]/\((SqL X.K H p ys/\∀l,H l=none->Q (.ref l) (upd H l (.tup ys)))\/(SqT X.K H p ys/\Q (.ref p) H))):=by
 intro pins s σ H xs us Q I r h
 obtain⟨p,ys,rfl,h⟩:=h
 obtain⟨u,rfl,rx⟩:=vals1 r
 cases rx
 rcases h with ⟨hq,q⟩|⟨hq,q⟩
 ·obtain⟨its,r',pl,hz⟩:=I.list hq
  have hlen:=r'.length
  refine call_tuple_list pl.isList (fun h' kp=>?_) (by simp only[y0h] <;> omega)
  have I1:Inv X pins σ H { s with heap:=h' }:=I.kept (t':=s.toks) kp
  have I2:Inv X pins σ (upd H h'.objs.size (.tup ys)) { s with heap:=h'.push { cls:=.type "tuple",data:=.seq its.toArray } } :=
   I1.laid (t':=s.toks) (fun b o e=>y03 _ e) (y0o _) (show z6q X.prog X.w _ _ _ (.tup ys) from ⟨hz,its,r',IsTup.new _ _⟩)
  exact⟨.ref h'.objs.size,_,I2,rfl,q _ (I1.hok.fresh (y0o _))⟩
 ·obtain⟨its,r',pl,hz⟩:=I.tuple hq
  exact call_tuple_same pl ⟨.ref p,H,I,rfl,q⟩
noncomputable def tyV (K:y00) (T:String) (x:V) (H:Hp):Prop:=match x with
 | .str _=>T="str"
 | .int _=>T="int"
 | .ref p=>(T="list"/\∃xs,SqL K H p xs)\/(T="tuple"/\∃o,K.lookup p=some o/\o.cls=.type "tuple"/\o.dict=none) \/
   (T="dict"/\((∃kvs,H p=some (.dK kvs))\/∃kvs,H p=some (.dT kvs)))\/(T="set"/\∃S n,H p=some (.set S n))
 | _=>False
theorem znx {pins:List (Addr×Obj)} {σ:St} {H:Hp} {s:y04} {T:String} {x:V} {v:Value} (I:Inv X pins σ H s) (r:RelV x v) (ty:tyV X.K T x H) :
  s.TypeIs v T/\∀a,v=.ref a->∃ob,s.heap.get? a=some ob/\ob.dict=none:=by
 cases x with
 | str z =>
  obtain⟨t,rfl⟩:=r
  cases (show T="str" from ty)
  exact⟨typeIs_str s z t,fun _ e=>nomatch e⟩
 | int i =>
  obtain⟨t,rfl⟩:=r
  cases (show T="int" from ty)
  exact⟨typeIs_int s i t,fun _ e=>nomatch e⟩
 | ref p =>
  cases r
  rcases ty with ⟨rfl,xs,hq⟩|⟨rfl,o,hk,hc,hd⟩|⟨rfl,hk⟩|⟨rfl,S,n,hk⟩
  ·obtain⟨its,_,pl,_⟩:=I.list hq
   refine⟨pl.isList.typeIs,fun a e=>?_⟩
   cases e
   obtain⟨o,n,e,c,hd,_⟩:=pl
   exact⟨o,e,hd⟩
  ·refine⟨⟨o,I.kIn p o hk,hc⟩,fun a e=>?_⟩
   cases e
   exact⟨o,I.kIn _ o hk,hd⟩
  ·have z:∃o,s.heap.get? p=some o/\o.ExactDict:=by
    rcases hk with ⟨kvs,hk⟩|⟨kvs,hk⟩
    ·obtain⟨_,_,_,_,o,_,_,e,ex,_⟩:=I.hok p _ hk
     exact⟨o,e,ex⟩
    ·obtain⟨_,_,_,_,o,_,_,e,ex,_⟩:=I.hok p _ hk
     exact⟨o,e,ex⟩
   obtain⟨o,e,ex⟩:=z
   refine⟨⟨o,e,ex.1⟩,fun a e2=>?_⟩
   cases e2
   exact⟨o,e,ex.2.1⟩
  ·obtain⟨o,_,_,_,e,ex,_⟩:=I.hok p _ hk
   refine⟨⟨o,e,ex.1⟩,fun a e2=>?_⟩
   cases e2
   exact⟨o,e,ex.2.1⟩
 | _=>exact y1w ty
def tBM0 (K:y00) (T:String) (r:V->List V->Hp->VK->Prop) (to:TE):TE:=fun σ H Q=>to σ H fun x H1=>tyV K T x H1/\r x [] H1 Q
def tBM (K:y00) (T:String) (r:V->List V->Hp->VK->Prop) (to:TE) (t:TA):TE:=fun σ H Q=>to σ H fun x H1=>tyV K T x H1/\t σ H1 fun xs H2=>r x xs H2 Q
variable {o e:Expr} {es:List Expr} {to:TE} {t:TA} {name:Str} {apos cpos:Pos} {T id:String} {r:V->List V->Hp->VK->Prop}
theorem zrf (pa:PlainAttrs T) (slot:Slot T name id) (hty:typeOf (.builtin id)=pure (.type "method_descriptor")) (hm:MtR X id r) (ho:PE X o to)
  (hbase:attributeBase o name X.env (eval o X.env)=eval o X.env:=by rfl) (hline:(apos.endLine == cpos.line)=true:=by rfl):PE X (.Call (.Attribute o name apos) [] [] cpos) (tBM0 X.K T r to):=by
 intro pins s σ H Q I h
 refine wpAny_Call_method0_late hbase hline (thn (ho pins s σ H _ I h) fun v s1 ⟨x,H1,I1,r1,ty,q1⟩=>?_)
 obtain⟨h1,h2⟩:=znx I1 r1 ty
 exact⟨T,id,pa,slot,hty,h1,h2,Calls.callWith_builtin rfl (PySem.evalArgs_none (hm pins s1 σ H1 x [] v [] Q I1 r1 .nil q1))⟩
theorem zt0 (pa:PlainAttrs T) (slot:Slot T name id) (hty:typeOf (.builtin id)=pure (.type "method_descriptor")) (hm:MtR X id r) (ho:PE X o to) (ha:PA X (e::es) t)
  (hbase:attributeBase o name X.env (eval o X.env)=eval o X.env:=by rfl)
  (hfew:((y2g cpos (y0a (e::es) X.env)).all (fun x=>!x.1) && (backToKw cpos (keywordEach [] X.env)).all (fun x=>x.1.isSome)
   && decide ((e::es).length+([]:List Keyword).length+(if ([]:List Keyword).isEmpty then 0 else 1)<30))=true:=by rfl)
  (hline:(apos.endLine == cpos.line)=true:=by rfl) (hs:y0a (e::es) X.env=(false,eval e X.env)::y0a es X.env:=by rfl) (hplain:(y2g cpos (y0a es X.env)).any (·.1)=false:=by rfl) :
  PE X (.Call (.Attribute o name apos) (e::es) [] cpos) (tBM X.K T r to t):=by
 intro pins s σ H Q I h
 refine wpAny_Call_method_late hbase hfew hline rfl (thn (ho pins s σ H _ I h) fun v s1 ⟨x,H1,I1,r1,ty,q1⟩=>?_)
 obtain⟨h1,h2⟩:=znx I1 r1 ty
 refine⟨T,id,pa,slot,hty,h1,h2,?_⟩
 have hA:=ha cpos pins s1 σ H1 _ I1 q1
 rw[hs] at hA ⊢
 refine Calls.callWith_builtin (by show (false || (y2g cpos (y0a es X.env)).any (·.1))=false;rw[hplain] <;> rfl) (Calls.evalArgs_plain ?_)
 exact thn hA fun us s2 ⟨vs,H2,I2,r2,q2⟩=>hm pins s2 σ H2 x vs v us Q I2 r1 r2 q2
end
end L2
namespace L2
open PySem PySem.Spec PyProof.Rows
noncomputable def MtM (X:Cx) (id:String) (r:V->List V->Hp->VK->Prop):Prop :=
 ∀(pins:List (Addr×Obj)) (s:y04) (σ:St) (H:Hp) (x:V) (xs:List V) (v:Value) (us:List Value) (Q:VK),Inv X pins σ H s->RelV x v->Vals xs us->r x xs H Q ->
  y0u (y2w X.prog X.w) X.A (call (.builtin id) (v::us)) (EP X pins σ Q) X.xe s
theorem Vals.one:∀{x:V} {us:List Value},Vals [x] us->∃u,us=[u]/\RelV x u
 | _,_,.cons r .nil=>⟨_,rfl,r⟩
theorem Vals.two:∀{x y:V} {us:List Value},Vals [x,y] us->∃u v,us=[u,v]/\RelV x u/\RelV y v
 | _,_,_,.cons r (.cons q .nil)=>⟨_,_,rfl,r,q⟩
section
variable {X:Cx} {pins:List (Addr×Obj)} {σ:St} {H:Hp} {s:y04} {l b:Addr} {xs ys zs:List V}
theorem Inv.lset {its its':List Value} {n:Nat} {f:Array Value->Array Value} {t':Nat} (I:Inv X pins σ H s) (hH:H l=some (.lst xs))
  (e:s.heap.get? l=some { cls:=.type "list",data:=.seq its.toArray n }) (hf:f its.toArray=its'.toArray) (hv:Vals ys its') (hz:ys.length<=y0j) :
  Inv X pins σ (upd H l (.lst ys)) { s with heap:=s.heap.update l (Obj.mapSeq f),toks:=t' }:=by
 have q:=PySem.IsL.update e f
 rw[hf] at q
 refine I.write (x:=l) (e:=l) (by rw[hH];exact trivial) (.inl rfl) (fun b' u hb hu=>(y31 s.heap (Obj.mapSeq f) (Ne.symm hb)).trans hu) ⟨_,q⟩ ?_
 exact⟨hz,its',_,hv,q⟩
theorem Inv.lnew {its:List Value} {t':Nat} (I:Inv X pins σ H s) (hv:Vals ys its) (hz:ys.length<=y0j) :
  Inv X pins σ (upd H s.heap.objs.size (.lst ys)) { s with heap:=s.heap.push { cls:=.type "list",data:=.seq its.toArray },toks:=t' } :=
 I.laid (fun _ _ q=>y03 _ q) (y0o _) ⟨hz,its,0,hv,y0l _ rfl⟩
theorem Inv.fresh (I:Inv X pins σ H s):H s.heap.objs.size=none:=I.hok.fresh (y0o _)
theorem Inv.lstM (I:Inv X pins σ H s) (hH:H l=some (.lst xs)):xs.length<=y0j/\∃(its:List Value) (n:Nat),Vals xs its/\xs.length=its.length/\s.heap.get? l=some { cls:=.type "list",data:=.seq its.toArray n }:=by
 obtain⟨z,its,n,r,e⟩:=I.hok l _ hH
 exact⟨z,its,n,r,r.length,e⟩
end
section
variable {X:Cx}
def zov:V->List V->Hp->VK->Prop:=fun x vs H Q=>∃l xs y,x=.ref l/\vs=[y]/\H l=some (.lst xs)/\xs.length<y0j/\Q .non (upd H l (.lst (xs++[y])))
theorem zd7:MtM X "list.append" zov:=by
 intro pins s σ H x vs v us Q I rx rv h
 obtain⟨l,xs,y,rfl,rfl,hH,hz,q⟩:=h
 cases rx
 obtain⟨u,rfl,ru⟩:=rv.one
 obtain⟨z,its,n,r,hl,e⟩:=I.lstM hH
 refine call_meets F.slot_list_append ⟨_,e,rfl⟩ F.entry_list_append (F.args_list_append_2 _ _) (PySem.list_append l its.toArray n u (by rw[y0h];omega)) ⟨e,?_⟩
 refine⟨.non,_,I.lset (its':=its++[u]) hH e (by simp) (r.append (.cons ru .nil)) ?_,rfl,q⟩
 rw[y20,List.length_singleton]
 omega
end
section
variable {prog:y0q} {w:World} {A:Around} {E:Value->y04->Prop} {s:y04}
end
section
variable {X:Cx}
end
end L2
namespace Att
open PySem PySem.W PySem.Calls PyProof.Rows
theorem z97 {P:Params} {h:Heap}:∀(ns:List Int) (vs:List Value),WellAll P h vs (ns.map WData.int)->IntsAre vs ns:=by
 intro ns
 induction ns with
 | nil =>
  intro vs w
  rw[y1a] at w
  cases w
  exact .nil
 | cons n ns ih =>
  intro vs w
  rw[y0d] at w
  cases w with
  | cons a b =>
   cases a
   exact .cons _ _ (ih _ b)
theorem zjd {l:OpenLaw} {n:Nat} (hn:l.most=some n) {P:Params} {h:Heap} {args:List WData} {vals:List Value}
    (hpre:l.row.toRowW.claim.pre args=true) (hwl:WellAll P h vals args) :
    ∃a vs ns,vals=[Value.ref a]/\args=[WData.list (ns.map WData.int)]/\h.get? a=some { cls:=.type "list",data:=.seq vs.toArray }/\IntsAre vs ns/\ns.length<=n:=by
  have hsh:WShape.hasAll [] args [.list .int]=true:=(pre_splitW hpre).1
  have hc:l.pre.holds [] { args:=args }=true:=(pre_splitW hpre).2
  obtain⟨d,r,rfl,h1,h2⟩:=hasAllW_cons hsh
  obtain rfl:=hasAllW_nil h2
  obtain⟨xs,rfl,h3⟩:=hasW_list h1
  obtain⟨ns,rfl⟩:=items_int h3
  have hlen:ns.length<=n:=by
    unfold OpenLaw.pre at hc
    have h4:(WTm.not (.lt (.lit (.int (n:Int))) (.len (.arg 0)))).holds [] { args:=[.list (ns.map .int)] }=true:=by
      have h4:=(holds_andW hc).1
      rw[hn] at h4
      exact h4
    have h5:=condW_of h4 (w_not (w_lt w_lit (w_len_list (w_arg rfl))))
    rw[y14] at h5
    refine Nat.le_of_not_lt fun q=>?_
    have q':(n:Int)<((ns.length:Nat):Int):=by omega
    first
      | (rw[decide_eq_true q'] at h5;exact absurd h5 (by decide))
      | (simp at h5;omega)
  cases hwl with
  | cons w1 w2 =>
    cases w2
    cases w1 with
    | list ho hall=>exact⟨_,_,ns,rfl,rfl,ho,z97 ns _ hall,hlen⟩
theorem zjn (l:OpenLaw) (args:List WData):l.row.toRowW.claim.post args (.bool true) args=true :=
 postW_of (r:=l.row.toRowW) (X:=(true == true))
  (show WShape.has [] (.bool true) .bool=true by first|rfl|decide|simp[WShape.has,WShape.arms,WShape.armsAll])
  (show (WTm.eq .res (.lit (.bool true))).value [] { args:=args,res:=some (.bool true),after:=args }=some (.bool (true == true)) from w_eq_bool (w_res rfl) w_lit) rfl
theorem attach_call {l:OpenLaw} {n:Nat} {q:y0q} {loose:List Str} {XP:(Str->Option Value)->Heap->Prop} {YP:World->Heap->Prop} {d:DefRec}
  (hn:l.most=some n) (hdf:d.params.defaults=[])
  (call:∀(w:World) (s₀ s₁:y04) (mg mb:Str->Option Value) (fa:Addr) (o:Obj) (pm cd doc:Value) (a:Addr) (vs:List Value) (ns:List Int),
   Ground q loose [] XP w s₀ mg mb s₁.heap->YP w s₁.heap ->
   s₁.heap.get? fa=some o->o.data=.func (docDef d.name d.params d.body d.scope pm cd doc)->s₁.heap.CodeRec cd d.name->mg d.name=some (.ref fa) ->
   s₁.heap.get? a=some { cls:=.type "list",data:=.seq vs.toArray }->IntsAre vs ns->ns.length<=n->s₁.gens=#[] ->
   codeAny (y2w l.prog w) callerA (.call (.ref fa) ⟨[.ref a],[]⟩) (fun r s'=>r=.ok (.ret (.bool true))/\OldK s₁.heap s'.heap/\s'.os=s₁.os/\AllBare s'.gens) s₁) :
  WalkO q loose XP YP l.row.toRowW d [] (fun f vs=>PySem.call f vs):=by
 intro w s₀ s₁ mg mb G Y fa o pm cd doc dV kV ho hd hcd hD hmg hg args vals as hpre hlay hrd hwl hlo
 obtain rfl:dV=.none:=Dflts.none hD hdf
 obtain rfl:kV=.none:=Dflts.noKw hD
 obtain⟨a,vs,ns,rfl,rfl,hobj,hints,hlen⟩:=zjd hn hpre hwl
 refine enter_call (y2o (call w s₀ s₁ mg mb fa o pm cd doc a vs ns G Y ho (fd_plain hd) hcd hmg hobj hints hlen hg) fun r s' hq=>?_)
 obtain⟨rfl,h2,h3,h4⟩:=hq
 exact⟨.inl ⟨.bool true,.bool true,[],rfl,fun _=>rfl,.bool true,zjn l _,fun _=>⟨List.Pairwise.nil,fun _ hm=>(nomatch hm)⟩⟩,h2,h3,h4⟩
section
variable {prog:y0q} {w:World} {A:Around} {E:Value->y04->Prop} {s:y04} {K:Frag}
end
end Att
namespace L2
open PySem PySem.Spec PyProof.Rows
theorem zbs:∀{vs:List Value} {ns:List Int},IntsAre vs ns->Vals (ns.map V.int) vs
 | _,_,.nil=>.nil
 | _,_,.cons n t h=>.cons ⟨t,rfl⟩ (zbs h)
def Only (H:Hp):Prop:=∀b,H b=none\/∃o xs,H b=some (.frz o (.lst xs))
theorem zn4 {P:y0q} {w:World} {K:y00} {mg mb:Str->Option Value} {CX:CXT} {k:Nat} {fa a:Addr} {fd:y0b} {x:Str} {sp:Sp} {s₁:y04} {vs:List Value} {ns:List Int}
  (KX:K.In s₁.heap) (hns:s₁.heap.Ns y0n mg) (hb:s₁.heap.Ns builtinsNs mb) (hbb:∀x:Str,x≠"__name__"->mb x=bootBuiltins x) (hlim:s₁.heap.NoLimit) (hg:s₁.gens=#[])
  (ha:s₁.heap.get? a=some { cls:=.type "list",data:=.seq vs.toArray }) (hi:IntsAre vs ns) (hl:ns.length<=y0j) (hr:Room k callerA)
  (F:∀base:Heap,K.In base->base.Ns y0n mg->FnOk P w K mg base CX k fa fd [x] sp) (hbind:∀(s:y04) (u:Value),BindsTo s fd ⟨[u],[]⟩ [(x,u)])
  (hsp:∀H:Hp,Only H->SqL K H a (ns.map V.int)->sp [.ref a] H (fun v _=>v=.bl true) fun _ _ _=>False)
  (hCX:∀H e s',CX [] H s₁ (fun _ _ _=>False) e s'->False) :
  codeAny (y2w P w) callerA (.call (.ref fa) ⟨[.ref a],[]⟩) (fun r s'=>r=.ok (.ret (.bool true))/\OldK s₁.heap s'.heap/\s'.os=s₁.os/\AllBare s'.gens) s₁:=by
 have rv:=zbs hi
 have lenV:=hi.length
 have core:∀H:Hp,Only H->SqL K H a (ns.map V.int)->HOk P w H s₁.heap->(∀b,H b≠none->b=a)->(H a≠none->K.lookup a=none) ->
   codeAny (y2w P w) callerA (.call (.ref fa) ⟨[.ref a],[]⟩) (fun r s'=>r=.ok (.ret (.bool true))/\OldK s₁.heap s'.heap/\s'.os=s₁.os/\AllBare s'.gens) s₁:=by
  intro H hO hS hok hA hK
  have base_of:∀{b:Addr} {o:Obj},s₁.heap.get? b=some o->H b=none->(hidT s₁.heap H).get? b=some o:=fun e n=>zna e n
  have noA:∀{b:Addr} {o:Obj} {es:Array DictEntry} {ep:Nat},s₁.heap.get? b=some o->o.data=.dict es ep->H b=none:=fun {b o es ep} e d=>by
   cases q:H b with
   | none=>rfl
   | some u =>
    have e':b=a:=hA b (by rw[q];simp)
    subst e'
    rw[ha] at e;cases e
    have d':Data.seq vs.toArray _=Data.dict es ep:=d
    cases d'
  have nsK:∀{b:Addr} {m:Str->Option Value},s₁.heap.Ns b m->(hidT s₁.heap H).Ns b m:=fun {b m} ⟨o,es,ep,e,d,r⟩=>⟨o,es,ep,base_of e (noA e d),d,r⟩
  have hKb:K.In (hidT s₁.heap H):=fun b o e=>base_of (KX b o e) (by
   cases q:H b with
   | none=>rfl
   | some u =>
    have e':b=a:=hA b (by rw[q];simp)
    subst e'
    rw[hK (by rw[q];simp)] at e;cases e)
  have hM:Mod K mg (hidT s₁.heap H):=⟨hKb,nsK hns,⟨mb,nsK hb,hbb⟩,let ⟨mc,h1,h2⟩:=hlim;⟨mc,nsK h1,h2⟩⟩
  have e0:Env0 P w K mg (hidT s₁.heap H) callerA [] s₁ H:=⟨rfl,hM,fun b o e=>zpj e,Nat.le_of_eq (zks _ _),trivial,fun b hb=>absurd (show b∈([]:List Addr) from hb) (by simp),hok,.of_eq hg⟩
  refine y2o ((F _ hKb (nsK hns)).run callerA [] s₁ H ⟨[.ref a],[]⟩ [.ref a] [.ref a] _ _ hr e0 (hbind s₁ (.ref a)) (.cons rfl .nil) (hsp H hO hS)) fun r s' h=>?_
  cases r with
  | error e=>exact (hCX H e s' h).elim
  | ok fl =>
   cases fl with
   | next=>exact y1w h
   | brk=>exact y1w h
   | cont=>exact y1w h
   | ret u =>
    obtain⟨v,H',os,bare,un,hok',r',q⟩:=h
    have q':v=.bl true:=q
    subst q'
    obtain rfl:u=Value.bool true:=r'
    refine⟨rfl,OldK.of_keep fun b o e=>?_,os,bare⟩
    cases q:H b with
    | none=>exact un.keep b o e q (by intro z;exact absurd (show b∈([]:List Addr) from z) (by simp)) (by simp)
    | some u =>
     rcases hO b with z|⟨ob,xs,z⟩
     ·rw[q] at z;cases z
     ·have z2:=un.frzs b ob _ z
      obtain⟨e1,_⟩:=hok b _ z
      obtain⟨e2,_⟩:=hok' b _ z2
      rw[e] at e1;cases e1
      exact e2
 cases hk:K.lookup a with
 | some o =>
  have e:=KX a o hk
  rw[ha] at e
  cases e
  refine core (fun _=>none) (fun _=>.inl rfl) (.inr ⟨_,vs.toArray,_,hk,rfl,rfl,rfl,by rw[y0h,lenV];exact hl,by simpa using rv⟩) (fun b u z=>by have z':(none:Option HO)=some u:=z;cases z') (fun b z=>absurd rfl z) fun z=>absurd rfl z
 | none =>
  refine core (fun b=>if b=a then some (.frz { cls:=.type "list",data:=.seq vs.toArray } (.lst (ns.map V.int))) else none) (fun b=>?_) (.inl (.inr ⟨{ cls:=.type "list",data:=.seq vs.toArray },if_pos rfl⟩)) (fun b u z=>?_) (fun b z=>?_) fun _=>hk
  ·by_cases hb:b=a
   ·exact .inr ⟨_,_,if_pos hb⟩
   ·exact .inl (if_neg hb)
  ·by_cases hb:b=a
   ·have z':=(if_pos hb).symm.trans z
    cases z'
    subst hb
    exact⟨ha,by rw[y14];exact hl,vs,_,rv,ha⟩
   ·have z':=(if_neg hb).symm.trans z
    cases z'
  ·by_cases hb:b=a
   ·exact hb
   ·exact absurd (if_neg hb) z
end L2
namespace L2
open PySem PySem.Spec PyProof.Rows
theorem walk_of {l:PySem.W.OpenLaw} {n k:Nat} {q:y0q} {loose:List Str} {XP:(Str->Option Value)->Heap->Prop} {YP:World->Heap->Prop} {d:DefRec} {K:Params->y00} {CX:World->CXT} {sp:World->Sp} {x:Str}
  (hn:l.most=some n) (hn2:n<=y0j) (hdf:d.params.defaults=[]) (hr:Room k callerA)
  (hY:∀(w:World) (h:Heap),YP w h->(K w.params).In h)
  (F:∀(w:World) (mg:Str->Option Value) (fa:Addr) (h:Heap),(K w.params).In h->h.Ns y0n mg->mg d.name=some (.ref fa) ->
   ∃fd:y0b,(∀(s:y04) (u:Value),BindsTo s fd ⟨[u],[]⟩ [(x,u)]) /\
    ∀base:Heap,(K w.params).In base->base.Ns y0n mg->FnOk l.prog w (K w.params) mg base (CX w) k fa fd [x] (sp w))
  (hsp:∀(w:World) (H:Hp) (a:Addr) (ns:List Int),ns.length<=n->Only H->SqL (K w.params) H a (ns.map V.int)->sp w [.ref a] H (fun v _=>v=.bl true) fun _ _ _=>False)
  (hCX:∀(w:World) (H:Hp) (s:y04) (e:Value) (s':y04),CX w [] H s (fun _ _ _=>False) e s'->False) :
  PySem.W.WalkO q loose XP YP l.row.toRowW d [] (fun f vs=>PySem.call f vs):=by
 refine Att.attach_call hn hdf fun w s₀ s₁ mg mb fa o pm cd doc a vs ns G Y ho hd hcd hmg hobj hints hlen hg=>?_
 have KX:=hY w _ Y
 obtain⟨fd,hb,hF⟩:=F w mg fa _ KX G.T.g hmg
 exact zn4 KX G.T.g G.T.b G.T.builtins G.T.nolimit hg hobj hints (y1p hlen hn2) hr hF hb (fun H hO hS=>hsp w H a ns hlen hO hS) fun H e s'=>hCX w H s₁ e s'
end L2
namespace L2
open PySem PySem.Spec PyProof.Rows
noncomputable def z0g (s:Stmt):Arguments:=match s with
 | .FunctionDef _ a _ _ _ _ _ _ _ _=>a
 | _=>{ posonlyargs:=[],args:=[],vararg:=none,kwonlyargs:=[],kw_defaults:=[],kwarg:=none,defaults:=[] }
def z0e (s:Stmt):List Stmt:=match s with
 | .FunctionDef _ _ b _ _ _ _ _ _ _=>b
 | _=>[]
def z02 (s:Stmt):Scope:=match s with
 | .FunctionDef _ _ _ _ _ _ sc _ _ _=>sc
 | _=>{ kind:=.function,names:=[],isGenerator:=false,isCoroutine:=false }
abbrev CX0:CXT:=fun _ _ _ _ _ _=>False
abbrev E0:XK:=fun _ _ _=>False
theorem zt2 {X:Cx}:Passes CX0 X E0:=fun _ _ _ _ _ _ _ h=>h.elim
structure Fun (K:y00) (x qual:Str) (st:Stmt) (f:Addr) (fd:y0b):Prop where
 ex:∃(oc:Value) (od:Option Addr) (kV doc pm:Value) (an:Option Addr) (cdv ct:Value) (osl:Array (Option Value)),
  fd=y0i x qual (z0g st) (z0e st) (z02 st) .none kV doc pm an cdv ct/\K.lookup f=some ⟨oc,od,.func fd,osl⟩/\y0f K cdv qual=true
 kp:y08 K (.ref f)=true
section
variable {P:y0q} {w:World} {K:y00} {mg:Str->Option Value} {base:Heap}
theorem Fun.ok {x qual:Str} {st:Stmt} {f:Addr} {fd:y0b} {N ps:List Str} {k:Nat} {sp:Sp} (F:Fun K x qual st f fd) (S:FnScope N ps (z02 st)) (len:∀vs H Q E,sp vs H Q E->vs.length=ps.length)
  (hbody:∀(cdv:Value) (A:Around) (outer:List Env) (s:y04) (H:Hp) (vs:List V) (Q:VK) (E:XK),Room k (A.deeper (envOfC qual (z02 st) s.heap.objs.size f cdv))->sp vs H Q E ->
   ∃t,PSs (cxOf CX0 P w K mg base N qual (z02 st) f cdv A outer s H E).nox (z0e st) t/\t { nx:=fun _ H'=>Q .non H',rt:=Q } (start N vs) H):FnOk P w K mg base CX0 (k+1) f fd ps sp:=by
 obtain⟨oc,od,kV,doc,pm,an,cdv,ct,osl,rfl,lk,hcd⟩:=F.ex
 refine zt8 lk hcd S len fun A outer s H vs Q E hr hsp=>?_
 obtain⟨t,h,q⟩:=hbody cdv A outer s H vs Q E hr hsp
 exact⟨t,h.nox,q⟩
theorem Fun.binds {x qual:Str} {st:Stmt} {f:Addr} {fd:y0b} {ps:List Str} (F:Fun K x qual st f fd)
  (h:∀(kV doc pm:Value) (an:Option Addr) (cdv ct:Value) (us:List Value),us.length=ps.length->bindArgs (y0i x qual (z0g st) (z0e st) (z02 st) .none kV doc pm an cdv ct) ⟨us,[]⟩=pure (ps.zip us)):Binds K fd ps []:=by
 obtain⟨oc,od,kV,doc,pm,an,cdv,ct,osl,rfl,lk,hcd⟩:=F.ex
 exact .all (h kV doc pm an cdv ct)
theorem z0y {x qual:Str} {st:Stmt} {f:Addr} {oc:Value} {od an:Option Addr} {osl:Array (Option Value)} {kV doc pm cdv ct:Value} (l:K.lookup f=some ⟨oc,od,.func (y0i x qual (z0g st) (z0e st) (z02 st) .none kV doc pm an cdv ct),osl⟩)
  (c:y0f K cdv qual=true) (k:y08 K (.ref f)=true):Fun K x qual st f (y0i x qual (z0g st) (z0e st) (z02 st) .none kV doc pm an cdv ct):=⟨⟨oc,od,kV,doc,pm,an,cdv,ct,osl,rfl,l,c⟩,k⟩
end
section
variable {X:Cx}
theorem pv (i:Nat) {x:Str} {pos:Pos} (hN:X.N[i]?=some x:=by rfl) (hv:Vis X.env.scope x:=by first|exact Or.inl rfl|exact Or.inr (Or.inl rfl)|exact Or.inr (Or.inr rfl)) (hd:(x == ("__debug__":Str))=false:=by decide)
  (hcd:(x == ("__classdict__":Str))=false:=by decide):PE X (.Name x pos) (tVar i):=zr6 hN hv hd hcd
end
theorem iteF {A B:Prop} (h:B):if false=true then A else B:=by
 rw[if_neg Bool.false_ne_true]
 exact h
theorem iteT {A B:Prop} (h:A):if true=true then A else B:=by
 rw[if_pos rfl]
 exact h
def Same (H H':Hp):Prop:=∀b o,H b=some o->H' b=some o
end L2
end
section
namespace D
open PySem
abbrev T:=PyData
def okT (a:T):Bool:=a.canLay0 && decide (a.depth<=60)
def okL (as:List T):Bool:=y1h as && decide (y1f as<=60)
abbrev Key:=Sum Int Str
inductive Md where
 | ro|own|lent
 deriving DecidableEq
inductive Sl where
 | imm (t:T)|own (ts:List T)|dic (kvs:List (Key×T))|obj (m:Md) (c:Nat) (fs:List Sl)
abbrev Ev:=List (Option Sl)
inductive Out where
 | nx (ε:Ev)|rt (t:T)|bk (ε:Ev)|ct (ε:Ev)|rtm (t:T) (ε:Ev)|rto (s:Sl)
abbrev Fe:=Ev->Option T
abbrev Ft:=Ev->Option Bool
abbrev Fs:=Ev->Option Out
abbrev Fi:=Ev->Option (List T)
abbrev Fg:=T->Ev->Option Ev
def big:Nat:=16777216
noncomputable def oAdd:T->T->Option T
 | .int i,.int j=>some (.int (i+j))
 | .str x,.str y=>if x.length+y.length<=big then some (.str (x++y)) else none
 | .tuple xs,.tuple ys=>if xs.length+ys.length<=big then some (.tuple (xs++ys)) else none
 | .list xs,.list ys=>if xs.length+ys.length<=big then some (.list (xs++ys)) else none
 | _,_=>none
def oSub:T->T->Option T
 | .int i,.int j=>some (.int (i - j))
 | _,_=>none
def zhz (i j:Int):Bool:=(decide (-(2 ^ 64)<i) && decide (i<2 ^ 64)) || (decide (-(2 ^ 64)<j) && decide (j<2 ^ 64))
def oMul:T->T->Option T
 | .int i,.int j=>if zhz i j then some (.int (i*j)) else none
 | _,_=>none
def oDiv:T->T->Option T
 | .int i,.int j=>if 0<j/\j<1073741824 then some (.int (i / j)) else none
 | _,_=>none
def oMod:T->T->Option T
 | .int i,.int j=>if 0<j then some (.int (i % j)) else none
 | _,_=>none
def oNeg:T->Option T
 | .int i=>some (.int (-i))
 | _=>none
def ixOf (n:Nat) (i:Int):Option Nat:=if 0<=i then (if i<n then some i.toNat else none) else if -(n:Int)<=i then some (i+n).toNat else none
def atZ {α:Type} (xs:List α) (i:Int):Option α:=(ixOf xs.length i).bind fun j=>xs[j]?
noncomputable def oIx:T->T->Option T
 | .tuple xs,.int i=>atZ xs i
 | .list xs,.int i=>atZ xs i
 | .str x,.int i=>if x.length<=big then (atZ x.cps.toList i).map fun c=>.str ⟨#[c]⟩ else none
 | _,_=>none
def oEq (a b:T):Option T:=if okT a && okT b then some (.bool (y1y a b)) else none
def oNe (a b:T):Option T:=if okT a && okT b then some (.bool (!PyData.eqv a b)) else none
def oIsN (a:T):Option T:=some (.bool (match a with|.none=>true|_=>false))
def z69 (a:T):Option T:=some (.bool (match a with|.none=>false|_=>true))
def strLt (x y:Str):Bool:=decide (x.cps.toList<y.cps.toList)
def oLt:T->T->Option T
 | .int i,.int j=>some (.bool (decide (i<j)))
 | .str x,.str y=>some (.bool (strLt x y))
 | _,_=>none
def oLe:T->T->Option T
 | .int i,.int j=>some (.bool (decide (i<=j)))
 | .str x,.str y=>some (.bool (!strLt y x))
 | _,_=>none
def oGt:T->T->Option T
 | .int i,.int j=>some (.bool (decide (j<i)))
 | .str x,.str y=>some (.bool (strLt y x))
 | _,_=>none
def oGe:T->T->Option T
 | .int i,.int j=>some (.bool (decide (j<=i)))
 | .str x,.str y=>some (.bool (!strLt x y))
 | _,_=>none
def hasT (x:T) (ts:List T):Bool:=ts.any fun y=>y1y y x
noncomputable def oIn (neg:Bool):T->T->Option T
 | x,.tuple ys=>if okT x && okL ys then some (.bool (if neg then !hasT x ys else hasT x ys)) else none
 | x,.list ys=>if okT x && okL ys then some (.bool (if neg then !hasT x ys else hasT x ys)) else none
 | _,_=>none
def oLen:List T->Option T
 | [.tuple xs]=>some (.int xs.length)
 | [.list xs]=>some (.int xs.length)
 | [.str x]=>if x.length<=big then some (.int x.length) else none
 | _=>none
def oMin:List T->Option T
 | [.int i,.int j]=>some (.int (if j<i then j else i))
 | _=>none
def oMax:List T->Option T
 | [.int i,.int j]=>some (.int (if j > i then j else i))
 | _=>none
def z43:List T->Option T
 | [.tuple xs]=>some (.tuple xs)
 | [.list xs]=>some (.tuple xs)
 | _=>none
def z9y:List T->Option T
 | [.tuple xs]=>some (.list xs)
 | [.list xs]=>some (.list xs)
 | _=>none
def oInt:List T->Option T
 | [.int i]=>some (.int i)
 | [.bool b]=>some (.int (if b then 1 else 0))
 | _=>none
def sIx (n d:Nat):Option Int->Nat
 | none=>d
 | some v=>(if v<0 then max (v+n) 0 else min v n).toNat
def cutZ {α:Type} (xs:List α) (lo hi:Option Int):List α:=(xs.drop (sIx xs.length 0 lo)).take (sIx xs.length xs.length hi - sIx xs.length 0 lo)
def oSl (t:T) (lo hi:Option Int):Option T:=match t with
 | .tuple xs=>some (.tuple (cutZ xs lo hi))
 | .list xs=>some (.list (cutZ xs lo hi))
 | _=>none
def intsOf:List T->Option (List Int)
 | []=>some []
 | .int i::ts=>(intsOf ts).map fun r=>i::r
 | _::_=>none
def strsOf:List T->Option (List Str)
 | []=>some []
 | .str x::ts=>(strsOf ts).map fun r=>x::r
 | _::_=>none
def insI (x:Int):List Int->List Int
 | []=>[x]
 | y::ys=>if x<=y then x::y::ys else y::insI x ys
def sortI:List Int->List Int
 | []=>[]
 | x::xs=>insI x (sortI xs)
def insS (x:Str):List Str->List Str
 | []=>[x]
 | y::ys=>if !strLt y x then x::y::ys else y::insS x ys
def z5g:List Str->List Str
 | []=>[]
 | x::xs=>insS x (z5g xs)
def dedup {α:Type} [DecidableEq α]:List α->List α
 | []=>[]
 | x::xs=>x::(dedup xs).filter fun y=>decide (y≠x)
def keyOf:T->Option Key
 | .int i=>some (.inl i)
 | .str x=>some (.inr x)
 | _=>none
def putD (kvs:List (Key×T)) (k:Key) (v:T):List (Key×T):=if kvs.any (fun p=>decide (p.1=k)) then kvs.map fun p=>if p.1=k then (k,v) else p else kvs++[(k,v)]
def getD (kvs:List (Key×T)) (k:Key):Option T:=(kvs.find? fun p=>decide (p.1=k)).map (·.2)
def cst (t:T):Fe:=fun _=>some t
def nm (i:Nat):Fe:=fun ε=>match ε[i]? with
 | some (some (.imm t))=>some t
 | some (some (.own ts))=>some (.list ts)
 | _=>none
def nmV (i:Nat):Fe:=fun ε=>match ε[i]? with
 | some (some (.imm t))=>some t
 | _=>none
def op1 (o:T->Option T) (f:Fe):Fe:=fun ε=>(f ε).bind o
def op2 (o:T->T->Option T) (f g:Fe):Fe:=fun ε=>(f ε).bind fun x=>(g ε).bind fun y=>o x y
def args:List Fe->Ev->Option (List T)
 | [],_=>some []
 | f::fs,ε=>(f ε).bind fun t=>(args fs ε).map fun ts=>t::ts
def opN (o:List T->Option T) (fs:List Fe):Fe:=fun ε=>(args fs ε).bind o
def z04 (fs:List Fe):Fe:=fun ε=>(args fs ε).bind fun ts=>if ts.length<=big then some (.tuple ts) else none
def z11 (fs:List Fe):Fe:=fun ε=>(args fs ε).bind fun ts=>if ts.length<=big then some (.list ts) else none
def opt (f:Fe):Ev->Option (Option Int):=fun ε=>(f ε).bind fun t=>match t with|.int i=>some (some i)|_=>none
def optN:Ev->Option (Option Int):=fun _=>some none
def slice (f:Fe) (lo hi:Ev->Option (Option Int)):Fe:=fun ε=>(f ε).bind fun t=>(lo ε).bind fun l=>(hi ε).bind fun h=>oSl t l h
def andV (f g:Fe):Fe:=fun ε=>(f ε).bind fun t=>match t with|.bool true=>g ε|.bool false=>some (.bool false)|_=>none
def orV (f g:Fe):Fe:=fun ε=>(f ε).bind fun t=>match t with|.bool false=>g ε|.bool true=>some (.bool true)|_=>none
def notV (f:Fe):Fe:=fun ε=>(f ε).bind fun t=>match t with|.bool b=>some (.bool (!b))|_=>none
noncomputable def chain (o p:T->T->Option T) (f g h:Fe):Fe:=fun ε=>(f ε).bind fun x=>(g ε).bind fun y=>(o x y).bind fun r=>match r with
 | .bool true=>(h ε).bind fun z=>p y z
 | .bool false=>some (.bool false)
 | _=>none
def tstB (f:Fe):Ft:=fun ε=>(f ε).bind fun t=>match t with|.bool b=>some b|_=>none
def tstL (f:Fe):Ft:=fun ε=>(f ε).bind fun t=>match t with|.list ts=>some (!ts.isEmpty)|.tuple ts=>some (!ts.isEmpty)|_=>none
def andT (f g:Ft):Ft:=fun ε=>(f ε).bind fun b=>if b then g ε else some false
def orT (f g:Ft):Ft:=fun ε=>(f ε).bind fun b=>if b then some true else g ε
def notT (f:Ft):Ft:=fun ε=>(f ε).map fun b=>!b
def ifE (c:Ft) (f g:Fe):Fe:=fun ε=>(c ε).bind fun b=>if b then f ε else g ε
def cstT (b:Bool):Ft:=fun _=>some b
def ofT (c:Ft):Fe:=fun ε=>(c ε).map .bool
def z2s (f:Fe):Fi:=fun ε=>(f ε).bind fun t=>match t with|.tuple ts=>some ts|.list ts=>some ts|_=>none
def z81 (f:Fe):Fi:=fun ε=>(f ε).bind fun t=>match t with|.tuple ts=>some ts|_=>none
def rng (lo hi:Int):List T:=(List.range (hi - lo).toNat).map fun (k:Nat)=>.int (lo+(k:Int))
def z8o (i:Int):Bool:=decide (-(2 ^ 62)<=i) && decide (i<2 ^ 62)
def z4o (f:Fe):Fi:=fun ε=>(f ε).bind fun t=>match t with|.int j=>if z8o j then some (rng 0 j) else none|_=>none
def enum (ts:List T):List T:=ts.zipIdx.map fun p=>.tuple [.int p.2,p.1]
def z5e (f:Fi):Fi:=fun ε=>(f ε).map enum
def gNm (i:Nat):Fg:=fun t ε=>some (ε.set i (some (.imm t)))
def gAll:List Fg->List T->Ev->Option Ev
 | [],[],ε=>some ε
 | g::gs,t::ts,ε=>(g t ε).bind fun ε'=>gAll gs ts ε'
 | _,_,_=>none
def gTu (gs:List Fg):Fg:=fun t ε=>match t with|.tuple ts=>gAll gs ts ε|_=>none
noncomputable def z34 (g:Fg) (c:Ft) (e:Fe):List T->Ev->Option (List T)
 | [],_=>some []
 | t::ts,ε=>(g t ε).bind fun ε1=>(c ε1).bind fun b=>if b then (e ε1).bind fun y=>(z34 g c e ts ε1).map fun ys=>y::ys else z34 g c e ts ε1
def z22 (own:Nat) (caps:List Nat) (ε:Ev):Ev:=y0g own none++caps.map fun i=>(ε[i]?).join
def comp (own:Nat) (caps:List Nat) (it:Fi) (g:Fg) (c:Ft) (e:Fe):Fe:=fun ε=>(it ε).bind fun ts=>if ts.length<=big then (z34 g c e ts (z22 own caps ε)).map .list else none
def skip:Fs:=fun ε=>some (.nx ε)
def seq (a b:Fs):Fs:=fun ε=>(a ε).bind fun o=>match o with|.nx ε'=>b ε'|o=>some o
def asg (i:Nat) (f:Fe):Fs:=fun ε=>(f ε).map fun t=>.nx (ε.set i (some (.imm t)))
def asgN (i:Nat) (f:Fe):Fs:=fun ε=>(f ε).bind fun t=>match t with|.list ts=>some (.nx (ε.set i (some (.own ts))))|_=>none
def asgT (g:Fg) (f:Fe):Fs:=fun ε=>(f ε).bind fun t=>(g t ε).map .nx
def rtn (f:Fe):Fs:=fun ε=>(f ε).map .rt
def iff (c:Ft) (a b:Fs):Fs:=fun ε=>(c ε).bind fun x=>if x then a ε else b ε
def brk:Fs:=fun ε=>some (.bk ε)
noncomputable def forL (g:Fg) (b:Fs):List T->Ev->Option Out
 | [],ε=>some (.nx ε)
 | t::ts,ε=>(g t ε).bind fun ε1=>(b ε1).bind fun o=>match o with
  | .nx ε2=>forL g b ts ε2
  | .ct ε2=>forL g b ts ε2
  | .bk ε2=>some (.nx ε2)
  | .rt t=>some (.rt t)
  | .rtm t ε2=>some (.rtm t ε2)
  | .rto s=>some (.rto s)
def for_ (it:Fi) (g:Fg) (b:Fs):Fs:=fun ε=>(it ε).bind fun ts=>forL g b ts ε
noncomputable def app (i:Nat) (f:Fe):Fs:=fun ε=>match ε[i]? with
 | some (some (.own ts))=>(f ε).bind fun t=>if ts.length<big then some (.nx (ε.set i (some (.own (ts++[t]))))) else none
 | _=>none
noncomputable def ext (i:Nat) (f:Fe):Fs:=fun ε=>match ε[i]? with
 | some (some (.own ts))=>(f ε).bind fun t=>match t with
  | .list us=>if ts.length+us.length<=big then some (.nx (ε.set i (some (.own (ts++us))))) else none
  | _=>none
 | _=>none
noncomputable def par (i j:Nat) (own:Bool) (f g:Fe):Fs:=fun ε=>(f ε).bind fun t=>(g ε).bind fun u=>if own then (match u with|.list us=>some (.nx ((ε.set i (some (.imm t))).set j (some (.own us))))|_=>none) else some (.nx ((ε.set i (some (.imm t))).set j (some (.imm u))))
noncomputable def runF (b:Fs) (n:Nat) (as:List T):Option T:=(b ((as.map fun t=>some (.imm t))++y0g (n - as.length) none)).bind fun o=>match o with
 | .rt t=>some t
 | .nx _=>some .none
 | _=>none
end D
end
section
namespace D
open PySem PySem.Spec PyProof.Rows L2
section
mutual
noncomputable def Rep (K:y00) (F:Addr->Prop) (H:Hp):T->V->Prop
 | .none,v=>v=.non
 | .bool b,v=>v=.bl b
 | .int i,v=>v=.int i
 | .str x,v=>v=.str x
 | .dict _,_=>False
 | .tuple ts,v=>∃a vs,v=.ref a/\SqT K H a vs/\RepL K F H ts vs
 | .list ts,v=>∃a vs,v=.ref a/\F a/\Rd H a (.lst vs)/\RepL K F H ts vs
noncomputable def RepL (K:y00) (F:Addr->Prop) (H:Hp):List T->List V->Prop
 | [],vs=>vs=[]
 | t::ts,vs=>∃v r,vs=v::r/\Rep K F H t v/\RepL K F H ts r
end
section
variable {K:y00} {F F':Addr->Prop} {H H':Hp}
mutual
theorem Rep.keep (h1:∀b xs,SqT K H b xs->SqT K H' b xs) (h2:∀b xs,F b->Rd H b (.lst xs)->F' b/\Rd H' b (.lst xs)):∀{t:T} {v:V},Rep K F H t v->Rep K F' H' t v
 | .none,v,h=>by simpa [Rep] using h
 | .bool _,v,h=>by simpa [Rep] using h
 | .dict _,v,h=>by simp[Rep] at h
 | .int _,v,h=>by simpa [Rep] using h
 | .str _,v,h=>by simpa [Rep] using h
 | .tuple ts,v,h=>by
  simp only[Rep] at h ⊢
  obtain⟨a,vs,e,q,r⟩:=h
  exact⟨a,vs,e,h1 _ _ q,RepL.keep h1 h2 r⟩
 | .list ts,v,h=>by
  simp only[Rep] at h ⊢
  obtain⟨a,vs,e,f,q,r⟩:=h
  exact⟨a,vs,e,(h2 _ _ f q).1,(h2 _ _ f q).2,RepL.keep h1 h2 r⟩
theorem RepL.keep (h1:∀b xs,SqT K H b xs->SqT K H' b xs) (h2:∀b xs,F b->Rd H b (.lst xs)->F' b/\Rd H' b (.lst xs)):∀{ts:List T} {vs:List V},RepL K F H ts vs->RepL K F' H' ts vs
 | [],vs,h=>by simpa [RepL] using h
 | t::ts,vs,h=>by
  simp only[RepL] at h ⊢
  obtain⟨v,r,e,q,z⟩:=h
  exact⟨v,r,e,Rep.keep h1 h2 q,RepL.keep h1 h2 z⟩
end
theorem RepL.nil:RepL K F H [] []:=by simp[RepL]
theorem RepL.cons {t:T} {v:V} {ts:List T} {vs:List V} (h:Rep K F H t v) (r:RepL K F H ts vs):RepL K F H (t::ts) (v::vs):=by
 simp only[RepL]
 exact⟨v,vs,rfl,h,r⟩
theorem RepL.length:∀{ts:List T} {vs:List V},RepL K F H ts vs->ts.length=vs.length
 | [],vs,h=>by
  simp only[RepL] at h
  subst h
  rfl
 | t::ts,vs,h=>by
  simp only[RepL] at h
  obtain⟨v,r,e,q,z⟩:=h
  subst e
  simp[RepL.length z]
theorem RepL.get:∀{ts:List T} {vs:List V} {i:Nat} {t:T},RepL K F H ts vs->ts[i]?=some t->∃v,vs[i]?=some v/\Rep K F H t v
 | [],vs,i,t,h,e=>by simp at e
 | x::ts,vs,0,t,h,e=>by
  simp only[RepL] at h
  obtain⟨v,r,rfl,q,z⟩:=h
  simp at e
  subst e
  exact⟨v,rfl,q⟩
 | x::ts,vs,i+1,t,h,e=>by
  simp only[RepL] at h
  obtain⟨v,r,rfl,q,z⟩:=h
  obtain⟨u,h1,h2⟩:=RepL.get (i:=i) (t:=t) z (by simpa using e)
  exact⟨u,by simpa using h1,h2⟩
theorem RepL.append:∀{ts us:List T} {vs ws:List V},RepL K F H ts vs->RepL K F H us ws->RepL K F H (ts++us) (vs++ws)
 | [],us,vs,ws,h,r=>by
  simp only[RepL] at h
  subst h
  exact r
 | t::ts,us,vs,ws,h,r=>by
  simp only[RepL] at h
  obtain⟨v,z,rfl,q,y⟩:=h
  exact RepL.cons q (RepL.append y r)
theorem RepL.take:∀{ts:List T} {vs:List V} (n:Nat),RepL K F H ts vs->RepL K F H (ts.take n) (vs.take n)
 | [],vs,n,h=>by
  simp only[RepL] at h
  subst h
  simpa using RepL.nil
 | t::ts,vs,0,h=>by simpa using RepL.nil
 | t::ts,vs,n+1,h=>by
  simp only[RepL] at h
  obtain⟨v,z,rfl,q,y⟩:=h
  simpa using RepL.cons q (RepL.take n y)
theorem RepL.drop:∀{ts:List T} {vs:List V} (n:Nat),RepL K F H ts vs->RepL K F H (ts.drop n) (vs.drop n)
 | [],vs,n,h=>by
  simp only[RepL] at h
  subst h
  simpa using RepL.nil
 | t::ts,vs,0,h=>by simpa using h
 | t::ts,vs,n+1,h=>by
  simp only[RepL] at h
  obtain⟨v,z,rfl,q,y⟩:=h
  simpa using RepL.drop n y
end
class Tbl where
 tb:List (Addr×Str)
 cn:Nat->List Str
 ck:Nat->Option Addr
noncomputable def TbG (H:Hp) (b:Addr) (q:Str):Prop:=∃ps:Array Value,H b=some (.tbl ps)/\TriplesOk ps.toList/\∀pos cv,codeAmong pos ps.toList=some cv->∃c,cv=.ref c/\H c=some (.ext fun h=>h.CodeRec (.ref c) q)
def TbS [t:Tbl] (H:Hp):Prop:=∀p∈t.tb,TbG H p.1 p.2
theorem TbG.keep {H H':Hp} {b:Addr} {q:Str} (h:TbG H b q) (k1:∀a ps,H a=some (.tbl ps)->H' a=some (.tbl ps)) (k2:∀a φ,H a=some (.ext φ)->H' a=some (.ext φ)):TbG H' b q:=by
 obtain⟨ps,h1,h2,h3⟩:=h
 refine⟨ps,k1 _ _ h1,h2,fun pos cv e=>?_⟩
 obtain⟨c,e1,e2⟩:=h3 pos cv e
 exact⟨c,e1,k2 _ _ e2⟩
variable [Tbl]
def HoM (u:HO):Prop:=(∃xs,u=.lst xs)\/(∃xs,u=.dK xs)\/∃C dx fs,u=.ins C dx fs
theorem HoM.cases {P:Prop} {u:HO} (h:HoM u) (h1:∀xs,u=.lst xs->P) (h2:∀xs,u=.dK xs->P) (h3:∀C dx fs,u=.ins C dx fs->P):P:=by
 rcases h with ⟨xs,e⟩|⟨xs,e⟩|⟨C,dx,fs,e⟩
 ·exact h1 xs e
 ·exact h2 xs e
 ·exact h3 C dx fs e
theorem TbS.updM {H:Hp} (h:TbS H) {p:Addr} {o:HO} (hp:∀u,H p=some u->HoM u):TbS (upd H p o):=fun b hb =>
 (h b hb).keep (fun a ps e=>by
  have nb:a≠p:=by
   rintro rfl
   exact (hp _ e).cases (fun _ z=>by cases z) (fun _ z=>by cases z) (fun _ _ _ z=>by cases z)
  rw[z0f nb];exact e) fun a φ e=>by
  have nb:a≠p:=by
   rintro rfl
   exact (hp _ e).cases (fun _ z=>by cases z) (fun _ z=>by cases z) (fun _ _ _ z=>by cases z)
  rw[z0f nb];exact e
theorem TbS.upd {H:Hp} (h:TbS H) {p:Addr} {o:HO} (hp:∀u,H p=some u->(∃xs,u=.lst xs)\/∃xs,u=.dK xs):TbS (upd H p o):=h.updM fun u e=>by
 rcases hp u e with z|z
 ·exact .inl z
 ·exact .inr (.inl z)
theorem TbS.new {H:Hp} (h:TbS H) {p:Addr} {o:HO} (hp:H p=none):TbS (L2.upd H p o):=h.upd fun u e=>by rw[hp] at e;cases e
structure Dom (F:Addr->Prop) (H:Hp):Prop where
 dm:∀a,F a->∃o,H a=some o
 tgs:TbS H
instance {F:Addr->Prop} {H:Hp}:CoeFun (Dom F H) fun _=>∀a,F a->∃o,H a=some o:=⟨Dom.dm⟩
def z6c (H H':Hp):Prop:=∀b o,H b=some o->H' b=some o\/∃ps ps',o=.tbl ps/\H' b=some (.tbl ps')
theorem z6c.refl (H:Hp):z6c H H:=fun _ _ h=>.inl h
theorem z6c.ne {H H':Hp} (s:z6c H H') {b:Addr} {o:HO} (e:H b=some o):∃u,H' b=some u:=by
 rcases s b o e with h|⟨_,_,_,h⟩
 ·exact⟨_,h⟩
 ·exact⟨_,h⟩
theorem z6c.none {H H':Hp} (s:z6c H H') {b:Addr} (e:H' b=none):H b=none:=by
 cases z:H b with
 | none=>rfl
 | some o =>
  obtain⟨u,q⟩:=s.ne z
  rw[e] at q
  cases q
theorem z6c.get {H H':Hp} (s:z6c H H') {b:Addr} {o:HO} (e:H b=some o) (n:∀ps,o≠.tbl ps:=by intro _ z;cases z):H' b=some o:=by
 rcases s b o e with h|⟨_,_,z,_⟩
 ·exact h
 ·exact absurd z (n _)
theorem z6c.trans {H H1 H2:Hp} (a:z6c H H1) (b:z6c H1 H2):z6c H H2:=fun c o h=>by
 rcases a c o h with q|⟨ps,ps1,z,q⟩
 ·exact b c o q
 ·rcases b c _ q with q2|⟨_,ps2,z2,q2⟩
  ·exact .inr ⟨ps,ps1,z,q2⟩
  ·exact .inr ⟨ps,ps2,z,q2⟩
structure Ext (F:Addr->Prop) (H:Hp) (F':Addr->Prop) (H':Hp):Prop where
 same:z6c H H'
 sub:∀a,F a->F' a
 new:∀a,F' a->F a\/H a=none
 dom:Dom F' H'
section
variable {K:y00} {F F1 F2:Addr->Prop} {H H1 H2:Hp}
theorem Ext.refl (d:Dom F H):Ext F H F H:=⟨z6c.refl H,fun _ h=>h,fun _ h=>.inl h,d⟩
theorem Ext.trans (a:Ext F H F1 H1) (b:Ext F1 H1 F2 H2):Ext F H F2 H2 :=
 ⟨a.same.trans b.same,fun x h=>b.sub x (a.sub x h),fun x h=>(b.new x h).elim (fun z=>a.new x z) fun z=>.inr (a.same.none z),b.dom⟩
theorem Rd.same {a:Addr} {u:HO} (s:z6c H H1) (r:Rd H a u) (n:∀ps,u≠.tbl ps:=by intro _ z;cases z):Rd H1 a u:=by
 rcases r with r|⟨o,r⟩
 ·exact .inl (s.get r n)
 ·exact .inr ⟨o,s.get r⟩
theorem SqT.same {a:Addr} {xs:List V} (s:z6c H H1) (r:SqT K H a xs):SqT K H1 a xs:=by
 rcases r with r|r
 ·exact .inl (Rd.same s r)
 ·exact .inr r
theorem Rep.ext {t:T} {v:V} (r:Rep K F H t v) (x:Ext F H F1 H1):Rep K F1 H1 t v:=r.keep (fun _ _ q=>SqT.same x.same q) fun b _ f q=>⟨x.sub b f,Rd.same x.same q⟩
theorem RepL.ext {t:List T} {v:List V} (r:RepL K F H t v) (x:Ext F H F1 H1):RepL K F1 H1 t v:=r.keep (fun _ _ q=>SqT.same x.same q) fun b _ f q=>⟨x.sub b f,Rd.same x.same q⟩
theorem Ext.laid {p:Addr} {o:HO} (d:Dom F H) (hp:H p=none):Ext F H F (upd H p o) :=
 ⟨fun b u q=>.inl (same_new' hp o b u q),fun _ h=>h,fun _ h=>.inl h,⟨fun a h=>by
  obtain⟨u,e⟩:=d a h
  exact⟨u,same_new' hp o a u e⟩,d.tgs.new hp⟩⟩
where same_new' {H:Hp} {p:Addr} (h:H p=none) (o:HO):Same H (upd H p o):=fun b u q=>by rw[z0f (z0o q h)];exact q
theorem Ext.laidF {p:Addr} {o:HO} (d:Dom F H) (hp:H p=none):Ext F H (fun a=>F a\/a=p) (upd H p o) :=
 ⟨fun b u q=>.inl (Ext.laid.same_new' hp o b u q),fun _ h=>.inl h,fun a h=>by
  rcases h with h|rfl
  ·exact .inl h
  ·exact .inr hp,⟨fun a h=>by
  rcases h with h|rfl
  ·obtain⟨u,e⟩:=d a h
   exact⟨u,Ext.laid.same_new' hp o a u e⟩
  ·exact⟨o,z0h⟩,d.tgs.new hp⟩⟩
end
structure Kp (K:y00) (F:Addr->Prop) (H:Hp) (F':Addr->Prop) (H':Hp):Prop where
 tup:∀b xs,SqT K H b xs->SqT K H' b xs
 lst:∀b xs,F b->Rd H b (.lst xs)->F' b/\Rd H' b (.lst xs)
section
variable {K:y00} {F F1 F2:Addr->Prop} {H H1 H2:Hp}
theorem Kp.refl:Kp K F H F H:=⟨fun _ _ h=>h,fun _ _ f h=>⟨f,h⟩⟩
theorem Kp.trans (a:Kp K F H F1 H1) (b:Kp K F1 H1 F2 H2):Kp K F H F2 H2:=⟨fun x xs h=>b.tup x xs (a.tup x xs h),fun x xs f h=>b.lst x xs (a.lst x xs f h).1 (a.lst x xs f h).2⟩
theorem Ext.kp (x:Ext F H F1 H1):Kp K F H F1 H1:=⟨fun _ _ q=>SqT.same x.same q,fun b _ f q=>⟨x.sub b f,Rd.same x.same q⟩⟩
theorem Rep.kp {t:T} {v:V} (r:Rep K F H t v) (x:Kp K F H F1 H1):Rep K F1 H1 t v:=r.keep x.tup x.lst
theorem RepL.kp {t:List T} {v:List V} (r:RepL K F H t v) (x:Kp K F H F1 H1):RepL K F1 H1 t v:=r.keep x.tup x.lst
end
def RepR (K:y00) (O F:Addr->Prop) (H:Hp) (t:T) (v:V):Prop :=
 Rep K F H t v\/∃ts a vs,t=.list ts/\v=.ref a/\H a=some (.lst vs)/\RepL K F H ts vs
section
variable {K:y00} {O F F1:Addr->Prop} {H H1:Hp} {v:V}
theorem RepR.ext {t:T} (r:RepR K O F H t v) (x:Ext F H F1 H1):RepR K O F1 H1 t v:=by
 rcases r with r|⟨ts,a,vs,e1,e2,e4,r⟩
 ·exact .inl (r.ext x)
 ·exact .inr ⟨ts,a,vs,e1,e2,x.same.get e4,r.ext x⟩
theorem RepR.non (r:RepR K O F H .none v):v=.non:=by
 rcases r with r|⟨ts,a,vs,e1,_⟩
 ·simpa [Rep] using r
 ·cases e1
theorem RepR.bl {b:Bool} (r:RepR K O F H (.bool b) v):v=.bl b:=by
 rcases r with r|⟨ts,a,vs,e1,_⟩
 ·simpa [Rep] using r
 ·cases e1
theorem RepR.int {i:Int} (r:RepR K O F H (.int i) v):v=.int i:=by
 rcases r with r|⟨ts,a,vs,e1,_⟩
 ·simpa [Rep] using r
 ·cases e1
theorem RepR.str {x:Str} (r:RepR K O F H (.str x) v):v=.str x:=by
 rcases r with r|⟨ts,a,vs,e1,_⟩
 ·simpa [Rep] using r
 ·cases e1
theorem RepR.tup {ts:List T} (r:RepR K O F H (.tuple ts) v):∃a vs,v=.ref a/\SqT K H a vs/\RepL K F H ts vs:=by
 rcases r with r|⟨ts,a,vs,e1,_⟩
 ·simpa [Rep] using r
 ·cases e1
theorem RepR.lst {ts:List T} (r:RepR K O F H (.list ts) v):∃a vs,v=.ref a/\Rd H a (.lst vs)/\RepL K F H ts vs:=by
 rcases r with r|⟨us,a,vs,e1,e2,e4,r⟩
 ·simp only[Rep] at r
  obtain⟨a,vs,e,_,q,z⟩:=r
  exact⟨a,vs,e,q,z⟩
 ·cases e1
  exact⟨a,vs,e2,.inl e4,r⟩
end
def RepD (K:y00) (F:Addr->Prop) (H:Hp):List (D.Key×T)->List (D.Key×V)->Prop
 | [],vs=>vs=[]
 | p::ts,vs=>∃v r,vs=(p.1,v)::r/\Rep K F H p.2 v/\RepD K F H ts r
theorem RepD.kp {K:y00} {F F':Addr->Prop} {H H':Hp} (x:Kp K F H F' H'):∀{ts:List (D.Key×T)} {vs:List (D.Key×V)},RepD K F H ts vs->RepD K F' H' ts vs
 | [],vs,h=>h
 | p::ts,vs,h=>by
  obtain⟨v,r,e,q,z⟩:=h
  exact⟨v,r,e,q.kp x,RepD.kp x z⟩
structure En where
 h:Hp
 la:Addr
def rf:V->List Addr
 | .ref a=>[a]
 | _=>[]
def fp0:Sl->V->List Addr
 | .imm _,_=>[]
 | _,v=>rf v
def fpF:List Sl->List V->List Addr
 | s::ss,v::vs=>fp0 s v++fpF ss vs
 | _,_=>[]
def zg1 (H:Hp):V->List V
 | .ref a=>(match H a with
  | some (.ins _ _ kvs)=>kvs.map (·.2)
  | some (.dK kvs)=>kvs.map (·.2)
  | _=>[])
 | _=>[]
def fpS (H:Hp):Sl->V->List Addr
 | .imm _,_=>[]
 | .own _,v=>rf v
 | .dic _,v=>rf v
 | .obj _ _ fs,v=>rf v++fpF fs (zg1 H v)
noncomputable def za0 (H:Hp) (a:Addr) (c:Nat) (vs:List V):Prop:=vs.length<=(Tbl.cn c).length/\match Tbl.ck c with
 | some C=>∃dx,H a=some (.ins C dx ((Tbl.cn c).zip vs))
 | none=>H a=some (.dK (((Tbl.cn c).zip vs).map fun p=>(.inr p.1,p.2)))
noncomputable def zit (K:y00) (F:Addr->Prop) (H:Hp):Sl->V->Prop
 | .imm t,v=>Rep K F H t v
 | .own ts,v=>∃b us,v=.ref b/\H b=some (.lst us)/\RepL K F H ts us
 | .dic kvs,v=>∃b us,v=.ref b/\H b=some (.dK us)/\RepD K F H kvs us
 | .obj _ _ _,_=>False
def RelF (K:y00) (F:Addr->Prop) (H:Hp):List Sl->List V->Prop
 | [],vs=>vs=[]
 | s::ss,vs=>∃v r,vs=v::r/\zit K F H s v/\RelF K F H ss r
def OwnM (E:En) (O F:Addr->Prop) (m:Md) (b:Addr):Prop:=¬F b/\match m with
 | .ro=>E.h b≠none
 | _=>O b
noncomputable def z3h (K:y00) (E:En) (O F:Addr->Prop) (H:Hp):Sl->V->Prop
 | .imm t,v=>Rep K F H t v
 | .own ts,v=>∃a vs,v=.ref a/\¬F a/\O a/\H a=some (.lst vs)/\RepL K F H ts vs
 | .dic kvs,v=>∃a vs,v=.ref a/\¬F a/\O a/\H a=some (.dK vs)/\RepD K F H kvs vs
 | .obj m c fs,v=>∃a vs,v=.ref a/\za0 H a c vs/\RelF K F H fs vs/\(a::fpF fs vs).Nodup/\(∀b∈a::fpF fs vs,OwnM E O F m b)/\(m=.lent->a=E.la)
def Sl.isOwn:Sl->Bool
 | .imm _=>false
 | .obj .ro _ _=>false
 | _=>true
section
variable {K:y00} {F F' O O':Addr->Prop} {H H':Hp} {E:En}
theorem ze8 {α β:Type}:∀{xs:List α} {ys:List β},ys.length<=xs.length->(xs.zip ys).map (·.2)=ys
 | xs,[],_=>by simp
 | [],y::ys,h=>by simp at h
 | x::xs,y::ys,h=>by simp[ze8 (xs:=xs) (ys:=ys) (by simpa using h)]
theorem za0.vals {a:Addr} {c:Nat} {vs:List V} (h:za0 H a c vs):zg1 H (.ref a)=vs:=by
 obtain⟨hl,h⟩:=h
 unfold zg1
 split at h
 ·obtain⟨dx,e⟩:=h
  simp only[e]
  exact ze8 hl
 ·simp only[h,y2e]
  exact ze8 hl
theorem za0.mem {a:Addr} {c:Nat} {vs:List V} (h:za0 H a c vs):∃o,H a=some o/\HoM o:=by
 obtain⟨hl,h⟩:=h
 split at h
 ·obtain⟨dx,e⟩:=h
  exact⟨_,e,.inr (.inr ⟨_,_,_,rfl⟩)⟩
 ·exact⟨_,h,.inr (.inl ⟨_,rfl⟩)⟩
theorem za0.keep {a:Addr} {c:Nat} {vs:List V} (h:za0 H a c vs) (e:H' a=H a):za0 H' a c vs:=by
 obtain⟨hl,h⟩:=h
 refine⟨hl,?_⟩
 rw[e]
 exact h
theorem za8 {v:V} {b:Addr} (h:b∈rf v):v=.ref b:=by
 unfold rf at h
 split at h
 ·simp at h
  rw[h]
 ·simp at h
theorem zit.at {s:Sl} {v:V} {b:Addr} (r:zit K F H s v) (h:b∈fp0 s v):∃o,H b=some o/\HoM o:=by
 cases s with
 | imm t=>simp[fp0] at h
 | own ts =>
  obtain⟨b',us,e,eh,_⟩:=r
  have:=za8 h
  rw[e] at this
  cases this
  exact⟨_,eh,.inl ⟨_,rfl⟩⟩
 | dic ts =>
  obtain⟨b',us,e,eh,_⟩:=r
  have:=za8 h
  rw[e] at this
  cases this
  exact⟨_,eh,.inr (.inl ⟨_,rfl⟩)⟩
 | obj m c fs=>exact r.elim
theorem RelF.at:∀{fs:List Sl} {vs:List V} {b:Addr},RelF K F H fs vs->b∈fpF fs vs->∃o,H b=some o/\HoM o
 | [],vs,b,r,h=>by simp[fpF] at h
 | s::ss,vs,b,r,h=>by
  obtain⟨v,z,rfl,r1,r2⟩:=r
  rw[show fpF (s::ss) (v::z)=fp0 s v++fpF ss z from rfl] at h
  rcases y11.mp h with h|h
  ·exact r1.at h
  ·exact RelF.at r2 h
theorem z9a {m:Md} {c:Nat} {fs:List Sl} {a:Addr} {vs:List V} (h:za0 H a c vs):fpS H (.obj m c fs) (.ref a)=a::fpF fs vs:=by
 show rf (.ref a)++fpF fs (zg1 H (.ref a))=_
 rw[h.vals]
 rfl
theorem z3h.at {s:Sl} {v:V} {b:Addr} (r:z3h K E O F H s v) (h:b∈fpS H s v):∃o,H b=some o/\HoM o:=by
 cases s with
 | imm t=>simp[fpS] at h
 | own ts =>
  obtain⟨b',us,e,_,_,eh,_⟩:=r
  have:=za8 h
  rw[e] at this
  cases this
  exact⟨_,eh,.inl ⟨_,rfl⟩⟩
 | dic ts =>
  obtain⟨b',us,e,_,_,eh,_⟩:=r
  have:=za8 h
  rw[e] at this
  cases this
  exact⟨_,eh,.inr (.inl ⟨_,rfl⟩)⟩
 | obj m c fs =>
  obtain⟨a,vs,rfl,ha,hf,_⟩:=r
  rw[z9a ha] at h
  rcases y09.mp h with rfl|h
  ·exact ha.mem
  ·exact hf.at h
theorem z3h.held {s:Sl} {v:V} {b:Addr} (r:z3h K E O F H s v) (h:b∈fpS H s v):¬F b/\(s.isOwn=true->O b)/\(s.isOwn=false->E.h b≠none):=by
 cases s with
 | imm t=>simp[fpS] at h
 | own ts =>
  obtain⟨b',us,e,n,o,eh,_⟩:=r
  have:=za8 h
  rw[e] at this
  cases this
  exact⟨n,fun _=>o,fun z=>by cases z⟩
 | dic ts =>
  obtain⟨b',us,e,n,o,eh,_⟩:=r
  have:=za8 h
  rw[e] at this
  cases this
  exact⟨n,fun _=>o,fun z=>by cases z⟩
 | obj m c fs =>
  obtain⟨a,vs,rfl,ha,hf,nd,ow,_⟩:=r
  rw[z9a ha] at h
  obtain⟨n,q⟩:=ow b h
  refine⟨n,fun z=>?_,fun z=>?_⟩
  ·cases m with
   | ro=>cases z
   | own=>exact q
   | lent=>exact q
  ·cases m with
   | ro=>exact q
   | own=>cases z
   | lent=>cases z
theorem zit.keep {s:Sl} {v:V} (r:zit K F H s v) (kp:Kp K F H F' H') (hh:∀b∈fp0 s v,H' b=H b):zit K F' H' s v:=by
 cases s with
 | imm t=>exact Rep.kp r kp
 | own ts =>
  obtain⟨b,us,rfl,eh,z⟩:=r
  exact⟨b,us,rfl,by rw[hh b (by simp[fp0,rf])];exact eh,z.kp kp⟩
 | dic ts =>
  obtain⟨b,us,rfl,eh,z⟩:=r
  exact⟨b,us,rfl,by rw[hh b (by simp[fp0,rf])];exact eh,RepD.kp kp z⟩
 | obj m c fs=>exact r.elim
theorem RelF.keep:∀{fs:List Sl} {vs:List V},RelF K F H fs vs->Kp K F H F' H'->(∀b∈fpF fs vs,H' b=H b)->RelF K F' H' fs vs
 | [],vs,r,_,_=>r
 | s::ss,vs,r,kp,hh=>by
  obtain⟨v,z,rfl,r1,r2⟩:=r
  rw[show fpF (s::ss) (v::z)=fp0 s v++fpF ss z from rfl] at hh
  exact⟨v,z,rfl,r1.keep kp fun b h=>hh b (y11.mpr (.inl h)),RelF.keep r2 kp fun b h=>hh b (y11.mpr (.inr h))⟩
theorem z3h.keep {s:Sl} {v:V} (r:z3h K E O F H s v) (kp:Kp K F H F' H') (hh:∀b∈fpS H s v,H' b=H b) (hf:∀b∈fpS H s v,F' b->F b) (ho:∀b∈fpS H s v,O b->O' b) :
  z3h K E O' F' H' s v/\fpS H' s v=fpS H s v:=by
 cases s with
 | imm t=>exact⟨Rep.kp r kp,rfl⟩
 | own ts =>
  obtain⟨a,vs,rfl,n,o,eh,z⟩:=r
  have m:a∈fpS H (.own ts) (.ref a):=by simp[fpS,rf]
  exact⟨⟨a,vs,rfl,fun f=>n (hf a m f),ho a m o,by rw[hh a m];exact eh,z.kp kp⟩,rfl⟩
 | dic ts =>
  obtain⟨a,vs,rfl,n,o,eh,z⟩:=r
  have m:a∈fpS H (.dic ts) (.ref a):=by simp[fpS,rf]
  exact⟨⟨a,vs,rfl,fun f=>n (hf a m f),ho a m o,by rw[hh a m];exact eh,RepD.kp kp z⟩,rfl⟩
 | obj m c fs =>
  obtain⟨a,vs,rfl,ha,hr,nd,ow,la⟩:=r
  rw[z9a ha] at hh hf ho
  have ha':za0 H' a c vs:=ha.keep (hh a (by simp))
  refine⟨⟨a,vs,rfl,ha',hr.keep kp fun b h=>hh b (y05 _ h),nd,fun b h=>?_,la⟩,by rw[z9a ha,z9a ha']⟩
  obtain⟨n,q⟩:=ow b h
  refine⟨fun f=>n (hf b h f),?_⟩
  cases m with
  | ro=>exact q
  | own=>exact ho b h q
  | lent=>exact ho b h q
theorem z3h.extP {s:Sl} {v:V} (r:z3h K E O F H s v) (x:Ext F H F' H'):z3h K E O F' H' s v/\fpS H' s v=fpS H s v :=
 r.keep x.kp (fun b h=>by
  obtain⟨o,e,m⟩:=r.at h
  rw[e]
  exact x.same.get e fun ps z=>by subst z;exact m.cases (fun _ z=>by cases z) (fun _ z=>by cases z) (fun _ _ _ z=>by cases z)) (fun b h f=>by
  rcases x.new b f with z|z
  ·exact z
  ·obtain⟨o,e,_⟩:=r.at h
   rw[z] at e
   cases e) fun _ _ o=>o
theorem z3h.ext {s:Sl} {v:V} (r:z3h K E O F H s v) (x:Ext F H F' H'):z3h K E O F' H' s v:=(r.extP x).1
end
structure RelE (K:y00) (F₀:Addr->Prop) (E:En) (O F:Addr->Prop) (H:Hp) (ε:Ev) (σ:L2.St):Prop where
 len:ε.length=σ.length
 val:∀(i:Nat) (s:Sl),ε[i]?=some (some s)->∃v,σ[i]?=some (some v)/\z3h K E O F H s v
 ne:∀(i j:Nat) (s u:Sl) (v w:V),i≠j->ε[i]?=some (some s)->ε[j]?=some (some u)->s.isOwn=true->u.isOwn=true->σ[i]?=some (some v)->σ[j]?=some (some w)->∀a∈fpS H s v,a∉fpS H u w
 ent:Ext F₀ E.h F H
 o0:∀a,O a->E.h a=none
 fr:∀a,H a=none->O a
section
variable {K:y00} {F₀ O F F1:Addr->Prop} {E:En} {H H1:Hp} {ε:Ev} {σ:L2.St}
theorem RelE.dom (r:RelE K F₀ E O F H ε σ):Dom F H:=r.ent.dom
theorem RelE.ext (r:RelE K F₀ E O F H ε σ) (x:Ext F H F1 H1):RelE K F₀ E O F1 H1 ε σ :=
 ⟨r.len,fun i s e=>by
  obtain⟨v,h1,h2⟩:=r.val i s e
  exact⟨v,h1,h2.ext x⟩,fun i j s u v w hij e1 e2 o1 o2 h1 h2=>by
  obtain⟨v',h1',r1⟩:=r.val i s e1
  obtain⟨w',h2',r2⟩:=r.val j u e2
  rw[h1] at h1'
  rw[h2] at h2'
  cases h1'
  cases h2'
  rw[(r1.extP x).2,(r2.extP x).2]
  exact r.ne i j s u v w hij e1 e2 o1 o2 h1 h2,r.ent.trans x,r.o0,fun a e=>r.fr a (x.same.none e)⟩
theorem get_set {α:Type} {l:List (Option α)} {i j:Nat} {x:Option α} {y:α} (h:(l.set i x)[j]?=some (some y)):(i=j/\x=some y/\j<l.length)\/(i≠j/\l[j]?=some (some y)):=by
 rw[List.getElem?_set] at h
 by_cases e:i=j
 ·subst e
  rw[if_pos rfl] at h
  split at h
  next hl=>exact .inl ⟨rfl,y29 h,hl⟩
  next=>cases h
 ·rw[if_neg e] at h
  exact .inr ⟨e,h⟩
theorem zed {α:Type} {l:List (Option α)} {i:Nat} {x:Option α} (h:i<l.length):(l.set i x)[i]?=some x:=by
 rw[List.getElem?_set,if_pos rfl,if_pos h]
theorem z62 {α:Type} {l:List (Option α)} {i j:Nat} {x:Option α} (h:i≠j):(l.set i x)[j]?=l[j]?:=by
 rw[List.getElem?_set,if_neg h]
theorem RelE.setG {s:Sl} {v:V} (r:RelE K F₀ E O F H ε σ) (i:Nat) (h:z3h K E O F H s v) (fr:s.isOwn=true->∀(j:Nat) (u:Sl) (w:V),i≠j->ε[j]?=some (some u)->u.isOwn=true->σ[j]?=some (some w)->∀a∈fpS H s v,a∉fpS H u w) :
  RelE K F₀ E O F H (ε.set i (some s)) (σ.set i (some v)):=by
 refine⟨by simp[r.len],fun j u e=>?_,fun j k u w vu vw hjk e1 e2 o1 o2 h1 h2=>?_,r.ent,r.o0,r.fr⟩
 ·rcases get_set e with ⟨rfl,e',hl⟩|⟨ne,e'⟩
  ·cases e'
   exact⟨_,zed (by rw[<- r.len];exact hl),h⟩
  ·obtain⟨w,h1,h2⟩:=r.val j u e'
   exact⟨w,by rw[z62 ne];exact h1,h2⟩
 ·rcases get_set e1 with ⟨rfl,e',hl⟩|⟨ne1,e1'⟩
  ·rcases get_set e2 with ⟨rfl,_,_⟩|⟨ne2,e2'⟩
   ·exact absurd rfl hjk
   ·rw[zed (by rw[<- r.len];exact hl)] at h1
    rw[z62 ne2] at h2
    cases h1
    cases e'
    exact fr o1 k w vw ne2 e2' o2 h2
  ·rw[z62 ne1] at h1
   rcases get_set e2 with ⟨rfl,e',hl⟩|⟨ne2,e2'⟩
   ·rw[zed (by rw[<- r.len];exact hl)] at h2
    cases h2
    cases e'
    intro a ha hb
    exact fr o2 j u vu ne1 e1' o1 h1 a hb ha
   ·rw[z62 ne2] at h2
    exact r.ne j k u w vu vw hjk e1' e2' o1 o2 h1 h2
theorem RelE.set {t:T} {v:V} (r:RelE K F₀ E O F H ε σ) (i:Nat) (h:Rep K F H t v):RelE K F₀ E O F H (ε.set i (some (.imm t))) (σ.set i (some v)):=r.setG (s:=.imm t) i h fun z=>by cases z
theorem RelE.setNew {s:Sl} {v:V} (r:RelE K F₀ E O F H ε σ) (i:Nat) (x:Ext F H F1 H1) (h:z3h K E O F1 H1 s v) (hn:∀a∈fpS H1 s v,H a=none):RelE K F₀ E O F1 H1 (ε.set i (some s)) (σ.set i (some v)) :=
 (r.ext x).setG i h fun _ j u w _ ej _ hj a ha hb=>by
  obtain⟨w',h1,h2⟩:=r.val j u ej
  rw[hj] at h1
  cases h1
  rw[(h2.extP x).2] at hb
  obtain⟨o,e,_⟩:=h2.at hb
  rw[hn a ha] at e
  cases e
theorem zkb {x:Addr} {o o':HO} (hn:¬F x) (hx:H x=some o) (hm:HoM o):Kp K F H F (upd H x o'):=by
 refine⟨fun b xs q=>?_,fun b xs f q=>⟨f,?_⟩⟩
 ·rcases q with q|q
  ·refine .inl ?_
   have nb:b≠x:=by
    rintro rfl
    rcases q with q|⟨_,q⟩ <;> (rw[hx] at q;cases q;exact hm.cases (fun _ z=>by cases z) (fun _ z=>by cases z) (fun _ _ _ z=>by cases z))
   rcases q with q|⟨u,q⟩
   ·exact .inl (by rw[z0f nb];exact q)
   ·exact .inr ⟨u,by rw[z0f nb];exact q⟩
  ·exact .inr q
 ·have nb:b≠x:=by
   rintro rfl
   exact hn f
  rcases q with q|⟨u,q⟩
  ·exact .inl (by rw[z0f nb];exact q)
  ·exact .inr ⟨u,by rw[z0f nb];exact q⟩
theorem zgn {x:Addr} {o o':HO} {h0:Hp} (e:Ext F₀ h0 F H) (h0x:h0 x=none) (hn:¬F x) (hx:H x=some o) (hm:HoM o):Ext F₀ h0 F (upd H x o'):=by
 refine⟨fun b u q=>?_,e.sub,e.new,⟨fun b f=>?_,e.dom.tgs.updM fun u z=>by rw[hx] at z;cases z;exact hm⟩⟩
 ·have nb:b≠x:=by
   rintro rfl
   rw[h0x] at q
   cases q
  rw[z0f nb]
  exact e.same b u q
 ·have nb:b≠x:=by
   rintro rfl
   exact hn f
  rw[z0f nb]
  exact e.dom b f
theorem RelE.mutG {s s':Sl} {v:V} {x:Addr} {o':HO} (r:RelE K F₀ E O F H ε σ) {i:Nat} (e:ε[i]?=some (some s)) (ho:s.isOwn=true) (hv:σ[i]?=some (some v)) (hx:x∈fpS H s v)
  (h:Kp K F H F (upd H x o')->z3h K E O F (upd H x o') s' v)
  (hp:∀b∈fpS (upd H x o') s' v,b∈fpS H s v\/∀(j:Nat) (u:Sl) (w:V),i≠j->ε[j]?=some (some u)->u.isOwn=true->σ[j]?=some (some w)->b∉fpS H u w) :
  Kp K F H F (upd H x o')/\RelE K F₀ E O F (upd H x o') (ε.set i (some s')) σ:=by
 obtain⟨v',hv',rs⟩:=r.val i s e
 rw[hv] at hv'
 cases hv'
 obtain⟨o,eo,hm⟩:=rs.at hx
 obtain⟨nF,hO,_⟩:=rs.held hx
 have hOx:=hO ho
 have kp:Kp K F H F (upd H x o'):=zkb nF eo hm
 have h0:=r.o0 x hOx
 have keep:∀(j:Nat) (u:Sl) (w:V),i≠j->ε[j]?=some (some u)->σ[j]?=some (some w)->z3h K E O F H u w->z3h K E O F (upd H x o') u w/\fpS (upd H x o') u w=fpS H u w:=by
  intro j u w hij ej hj ru
  refine ru.keep kp (fun b hb=>z0f ?_) (fun _ _ f=>f) fun _ _ o=>o
  rintro rfl
  cases ou:u.isOwn with
  | true=>exact r.ne i j s u v w hij e ej ho ou hv hj b hx hb
  | false=>exact (ru.held hb).2.2 ou h0
 refine⟨kp,⟨by simp[r.len],fun j u e'=>?_,fun j k u w vu vw hjk e1 e2 o1 o2 h1 h2=>?_,zgn r.ent h0 nF eo hm,r.o0,fun b e'=>r.fr b ?_⟩⟩
 ·rcases get_set e' with ⟨rfl,e'',hl⟩|⟨ne,e''⟩
  ·cases e''
   exact⟨_,hv,h kp⟩
  ·obtain⟨w,h1,h2⟩:=r.val j u e''
   exact⟨w,h1,(keep j u w ne e'' h1 h2).1⟩
 ·rcases get_set e1 with ⟨rfl,e',hl⟩|⟨ne1,e1'⟩
  ·rcases get_set e2 with ⟨rfl,_,_⟩|⟨ne2,e2'⟩
   ·exact absurd rfl hjk
   ·cases e'
    rw[hv] at h1
    cases h1
    obtain⟨w',h2',r2⟩:=r.val k w e2'
    rw[h2] at h2'
    cases h2'
    rw[(keep k w vw ne2 e2' h2 r2).2]
    intro a ha hb
    rcases hp a ha with z|z
    ·exact r.ne i k s w v vw ne2 e e2' ho o2 hv h2 a z hb
    ·exact z k w vw ne2 e2' o2 h2 hb
  ·obtain⟨v1,h1',r1⟩:=r.val j u e1'
   rw[h1] at h1'
   cases h1'
   rw[(keep j u vu ne1 e1' h1 r1).2]
   rcases get_set e2 with ⟨rfl,e',hl⟩|⟨ne2,e2'⟩
   ·cases e'
    rw[hv] at h2
    cases h2
    intro a ha hb
    rcases hp a hb with z|z
    ·exact r.ne i j s u v vu ne1 e e1' ho o1 hv h1 a z ha
    ·exact z j u vu ne1 e1' o1 h1 ha
   ·obtain⟨w',h2',r2⟩:=r.val k w e2'
    rw[h2] at h2'
    cases h2'
    rw[(keep k w vw ne2 e2' h2 r2).2]
    exact r.ne j k u w vu vw hjk e1' e2' o1 o2 h1 h2
 ·by_cases nb:b=x
  ·subst nb
   rw[z0h] at e'
   cases e'
  ·rwa [z0f nb] at e'
theorem RelE.mut {s s':Sl} {a:Addr} {o o':HO} (r:RelE K F₀ E O F H ε σ) {i:Nat} (e:ε[i]?=some (some s)) (ho:s.isOwn=true) (hv:σ[i]?=some (some (.ref a))) (hn:¬F a) (ho':O a) (ha:H a=some o)
  (hk:(∃xs,o=.lst xs)\/∃xs,o=.dK xs) (h:Kp K F H F (upd H a o')->z3h K E O F (upd H a o') s' (.ref a)) (f1:∀H:Hp,fpS H s (.ref a)=[a]:=by intro _;rfl) (f2:∀H:Hp,fpS H s' (.ref a)=[a]:=by intro _;rfl) :
  Kp K F H F (upd H a o')/\RelE K F₀ E O F (upd H a o') (ε.set i (some s')) σ :=
 r.mutG e ho hv (by rw[f1];simp) h fun b hb=>by
  rw[f2] at hb
  rw[f1]
  exact .inl hb
end
def tR (K:y00) (f:Fe):TE:=fun σ H Q=>∃F₀ H₀ O F ε t,RelE K F₀ H₀ O F H ε σ/\f ε=some t/\∀v F' H',Ext F H F' H'->RepR K O F' H' t v->Q v H'
def tV (K:y00) (f:Fe):TE:=fun σ H Q=>∃F₀ H₀ O F ε t,RelE K F₀ H₀ O F H ε σ/\f ε=some t/\∀v F' H',Ext F H F' H'->Rep K F' H' t v->Q v H'
noncomputable def tN (K:y00) (f:Fe):TE:=fun σ H Q=>∃F₀ H₀ O F ε ts,RelE K F₀ H₀ O F H ε σ/\f ε=some (.list ts)/\∀a vs F' H',Ext F H F' H'->H a=none->¬F' a->H' a=some (.lst vs)->RepL K F' H' ts vs->Q (.ref a) H'
def tT (K:y00) (f:Ft):TT:=fun σ H Q=>∃F₀ H₀ O F ε b,RelE K F₀ H₀ O F H ε σ/\f ε=some b/\∀F' H',Ext F H F' H'->Q b H'
def tAR (K:y00) (fs:List Fe):TA:=fun σ H Q=>∃F₀ H₀ O F ε ts,RelE K F₀ H₀ O F H ε σ/\args fs ε=some ts/\∀vs F' H',Ext F H F' H'->Paired (RepR K O F' H') ts vs->Q vs H'
def tAV (K:y00) (fs:List Fe):TA:=fun σ H Q=>∃F₀ H₀ O F ε ts,RelE K F₀ H₀ O F H ε σ/\args fs ε=some ts/\∀vs F' H',Ext F H F' H'->RepL K F' H' ts vs->Q vs H'
abbrev PEr (X:Cx) (e:Expr) (f:Fe):Prop:=PE X e (tR X.K f)
abbrev PEv (X:Cx) (e:Expr) (f:Fe):Prop:=PE X e (tV X.K f)
abbrev PEn (X:Cx) (e:Expr) (f:Fe):Prop:=PE X e (tN X.K f)
abbrev PTt (X:Cx) (e:Expr) (f:Ft):Prop:=PT X e (tT X.K f)
abbrev PWt (X:Cx) (e:Expr) (f:Ft):Prop:=PW X e (tT X.K f)
abbrev PAr (X:Cx) (es:List Expr) (fs:List Fe):Prop:=PA X es (tAR X.K fs)
abbrev PAv (X:Cx) (es:List Expr) (fs:List Fe):Prop:=PA X es (tAV X.K fs)
theorem z0t {X:Cx} {e:Expr} {t t':TE} (h:PE X e t) (k:∀σ H Q,t' σ H Q->t σ H Q):PE X e t':=fun pins s σ H Q I q=>h pins s σ H Q I (k σ H Q q)
theorem zgy {X:Cx} {e:Expr} {t t':TT} (h:PT X e t) (k:∀σ H Q,t' σ H Q->t σ H Q):PT X e t':=fun pins s σ H Q I q=>h pins s σ H Q I (k σ H Q q)
theorem zon {X:Cx} {e:Expr} {t t':TT} (h:PW X e t) (k:∀σ H Q,t' σ H Q->t σ H Q):PW X e t':=fun w pins s σ H Q I q=>h w pins s σ H Q I (k σ H Q q)
theorem zh0 {X:Cx} {e:List Expr} {t t':TA} (h:PA X e t) (k:∀σ H Q,t' σ H Q->t σ H Q):PA X e t':=fun pos pins s σ H Q I q=>h pos pins s σ H Q I (k σ H Q q)
theorem z9x {X:Cx} {e:Stmt} {t t':TS} (h:PS X e t) (k:∀D σ H,t' D σ H->t D σ H):PS X e t':=fun pins s σ H D I q=>h pins s σ H D I (k D σ H q)
theorem zln {X:Cx} {e:List Stmt} {t t':TS} (h:PSs X e t) (k:∀D σ H,t' D σ H->t D σ H):PSs X e t':=fun pins s σ H D I q=>h pins s σ H D I (k D σ H q)
section
variable {X:Cx} {e:Expr} {f:Fe}
theorem v2r (h:PEv X e f):PEr X e f:=z0t h fun σ H Q ⟨F₀,H₀,O,F,ε,t,r,e,k⟩=>⟨F₀,H₀,O,F,ε,t,r,e,fun v F' H' x q=>k v F' H' x (.inl q)⟩
theorem n2v (h:PEn X e f) (hf:∀ε t,f ε=some t->∃ts,t=.list ts):PEv X e f:=z0t h fun σ H Q ⟨F₀,H₀,O,F,ε,t,r,e,k⟩=>by
 obtain⟨ts,rfl⟩:=hf _ _ e
 refine⟨F₀,H₀,O,F,ε,ts,r,e,fun a vs F' H' x hn nf ha q=>?_⟩
 have y:Ext F H (fun b=>F' b\/b=a) H':=⟨x.same,fun b z=>.inl (x.sub b z),fun b z=>by
  rcases z with z|rfl
  ·exact x.new b z
  ·exact .inr hn,⟨fun b z=>by
  rcases z with z|rfl
  ·exact x.dom b z
  ·exact⟨_,ha⟩,x.dom.tgs⟩⟩
 refine k (.ref a) _ H' y ?_
 simp only[Rep]
 exact⟨a,vs,rfl,.inr rfl,.inl ha,q.keep (fun _ _ z=>z) fun b _ z w=>⟨.inl z,w⟩⟩
end
end
section
variable [Tbl]
section
variable {X:Cx} {a b c e:Expr} {f g h:Fe} {pos:Pos}
theorem zjk {t:T} {v:V} (he:PE X e (tC v)) (hr:∀F H,Rep X.K F H t v):PEv X e (cst t):=z0t he fun σ H Q ⟨F₀,H₀,O,F,ε,t',r,e,k⟩=>by
 cases e
 exact k v F H (Ext.refl r.dom) (hr _ _)
theorem z01 {i j}:PEv X (.Constant (.int i) j pos) (cst (.int i)):=zjk zo6 fun _ _=>by simp[Rep]
theorem q_bl {i j}:PEv X (.Constant (.bool i) j pos) (cst (.bool i)):=zjk zt1 fun _ _=>by simp[Rep]
theorem z07 {i j}:PEv X (.Constant (.str i) j pos) (cst (.str i)):=zjk zr9 fun _ _=>by simp[Rep]
theorem zoz {j}:PEv X (.Constant .none j pos) (cst .none):=zjk zrb fun _ _=>by simp[Rep]
theorem q_nm (i:Nat) {x:Str} (hN:X.N[i]?=some x:=by rfl) (hv:Vis X.env.scope x:=by first|exact Or.inl rfl|exact Or.inr (Or.inl rfl)|exact Or.inr (Or.inr rfl)) (hd:(x == ("__debug__":Str))=false:=by decide)
  (hcd:(x == ("__classdict__":Str))=false:=by decide):PEr X (.Name x pos) (nm i):=z0t (pv i hN hv hd hcd) fun σ H Q ⟨F₀,H₀,O,F,ε,t,r,e,k⟩=>by
 unfold nm at e
 split at e
 next t' he =>
  cases e
  obtain⟨v,h1,h2⟩:=r.val _ _ he
  exact⟨v,h1,k v F H (Ext.refl r.dom) (.inl h2)⟩
 next ts he =>
  cases e
  obtain⟨v,h1,a,vs,rfl,n,h0,hh,hr⟩:=r.val _ _ he
  exact⟨_,h1,k _ F H (Ext.refl r.dom) (.inr ⟨ts,a,vs,rfl,rfl,hh,hr⟩)⟩
 next=>cases e
theorem z09 (i:Nat) {x:Str} (hN:X.N[i]?=some x:=by rfl) (hv:Vis X.env.scope x:=by first|exact Or.inl rfl|exact Or.inr (Or.inl rfl)|exact Or.inr (Or.inr rfl)) (hd:(x == ("__debug__":Str))=false:=by decide)
  (hcd:(x == ("__classdict__":Str))=false:=by decide):PEv X (.Name x pos) (nmV i):=z0t (pv i hN hv hd hcd) fun σ H Q ⟨F₀,H₀,O,F,ε,t,r,e,k⟩=>by
 unfold nmV at e
 split at e
 next t' he =>
  cases e
  obtain⟨v,h1,h2⟩:=r.val _ _ he
  exact⟨v,h1,k v F H (Ext.refl r.dom) h2⟩
 next=>cases e
noncomputable def Op2 (K:y00) (o:T->T->Option T) (R:R2):Prop :=
 ∀(O F:Addr->Prop) (H:Hp) (x y t:T) (vx vy:V) (Q:VK),Dom F H->RepR K O F H x vx->RepR K O F H y vy->o x y=some t ->
  (∀v F' H',Ext F H F' H'->Rep K F' H' t v->Q v H')->R vx vy H Q
theorem z4u {o:T->T->Option T} {R:R2} (h:Op2 X.K o R):∀σ H Q,tV X.K (op2 o f g) σ H Q->tOp R (tR X.K f) (tR X.K g) σ H Q:=by
 rintro σ H Q ⟨F₀,H₀,O,F,ε,t,r,e,k⟩
 simp only[op2,y01] at e
 obtain⟨x,ex,y,ey,eo⟩:=e
 refine⟨F₀,H₀,O,F,ε,x,r,ex,fun vx F1 H1 x1 rx=>⟨F₀,H₀,O,F1,ε,y,r.ext x1,ey,fun vy F2 H2 x2 ry=>?_⟩⟩
 exact h O F2 H2 x y t vx vy Q x2.dom (rx.ext x2) ry eo fun v F' H' x3 q3=>k v F' H' ((x1.trans x2).trans x3) q3
theorem Inv.lstR {pins:List (Addr×Obj)} {σ:L2.St} {H:Hp} {s:y04} {l:Addr} {xs:List V} (I:Inv X pins σ H s) (hH:Rd H l (.lst xs)) :
  xs.length<=y0j/\∃(its:List Value) (n:Nat),Vals xs its/\xs.length=its.length/\s.heap.get? l=some { cls:=.type "list",data:=.seq its.toArray n }:=by
 obtain⟨z,its,n,r,e⟩:=hH.ok I.hok
 exact⟨z,its,n,r,r.length,e⟩
noncomputable def zss:R2:=fun x y H Q=>∃l b xs zs,x=.ref l/\y=.ref b/\Rd H l (.lst xs)/\Rd H b (.lst zs)/\xs.length+zs.length<=y0j/\∀p,H p=none->Q (.ref p) (upd H p (.lst (xs++zs)))
theorem zjs:OpR X (y2u .Add) zss:=by
 intro pins s σ H x y v u Q I rx ry h
 obtain⟨l,b,xs,zs,rfl,rfl,hH,hB,hz,q⟩:=h
 cases rx
 cases ry
 obtain⟨z,its,n,r,hl,e⟩:=Inv.lstR I hH
 obtain⟨z2,its2,n2,r2,hl2,e2⟩:=Inv.lstR I hB
 refine PySem.P.add_list e e2 ?_ (by rw[y0h,y0h];omega)
 have ea:its.toArray++its2.toArray=(its++its2).toArray:=by simp
 rw[ea]
 exact⟨.ref _,_,I.lnew (t':=s.toks) (r.append r2) (by rw[y20];omega),rfl,q _ I.fresh⟩
def zqp (K:y00):R2:=fun x y H Q=>∃a b ys,x=.ref a/\y=.ref b/\SqT K H a []/\SqT K H b ys/\Q (.ref b) H
theorem zms:OpR X (y2u .Add) (zqp X.K):=by
 intro pins s σ H x y v u Q I rx ry h
 obtain⟨a,b,ys,rfl,rfl,ha,hb,q⟩:=h
 cases rx
 cases ry
 obtain⟨its,r1,p1,_⟩:=I.tuple ha
 obtain⟨its2,r2,p2,_⟩:=I.tuple hb
 have ei:its=[]:=r1.nil_iff.mpr rfl
 subst ei
 obtain⟨⟨cls,dd,data,sl⟩,ho,hc,n,hd⟩:=id p1
 obtain⟨⟨cls2,dd2,data2,sl2⟩,ho2,hc2,n2,hd2⟩:=id p2
 simp only at hc hd hc2 hd2
 subst hc hd hc2 hd2
 exact concat_meets ⟨_,ho,rfl⟩ ⟨_,ho2,rfl⟩ noFill_tuple_add seq_tuple_add PySem.F.slot_tuple_add PySem.F.entry_tuple_add (PySem.F.args_tuple_add_2 _ _)
   (tuple_addW0 a b ([]:List Value).toArray its2.toArray n n2 dd dd2 sl sl2 (by simp)) ⟨ho,ho2,⟨.ref b,H,I,rfl,q⟩⟩
theorem z6u:y0j=big:=by rw[sizeLine_eq];rfl
theorem z4t (ha:PEr X a f) (hb:PEr X b g):PEv X (.BinOp a .Add b pos) (op2 oAdd f g) :=
 z0t (zcj (zrn.or (zho.or (zms.or (zph.or zjs)))) ha hb) (z4u (by
  intro O F H x y t vx vy Q d rx ry e k
  unfold oAdd at e
  split at e
  ·cases e
   rw[rx.int,ry.int]
   exact .inl ⟨_,_,rfl,rfl,k _ F H (Ext.refl d) (by simp[Rep])⟩
  ·split at e
   next hz =>
    cases e
    rw[rx.str,ry.str]
    exact .inr (.inl ⟨_,_,rfl,rfl,by rw[z6u];exact hz,k _ F H (Ext.refl d) (by simp[Rep])⟩)
   next=>cases e
  ·split at e
   next xs ys hz =>
    cases e
    obtain⟨ax,vs,rfl,hs,hr⟩:=rx.tup
    obtain⟨ay,ws,rfl,hs',hr'⟩:=ry.tup
    cases xs with
    | nil =>
     simp only[RepL] at hr
     subst hr
     refine .inr (.inr (.inl ⟨_,_,_,rfl,rfl,hs,hs',k _ F H (Ext.refl d) ?_⟩))
     simp only[Rep]
     exact⟨_,_,rfl,hs',by simpa using hr'⟩
    | cons x0 xr =>
     refine .inr (.inr (.inr (.inl ⟨_,_,_,_,rfl,rfl,hs,hs',?_,?_,fun e0=>?_,fun e0 p hp=>?_⟩)))
     ·intro z
      subst z
      have:=hr.length
      simp at this
     ·rw[z6u,<- hr.length,<- hr'.length]
      exact hz
     ·refine k _ F H (Ext.refl d) ?_
      subst e0
      have e1:ys=[]:=List.eq_nil_of_length_eq_zero (by rw[hr'.length];rfl)
      subst e1
      simp only[Rep]
      exact⟨_,_,rfl,hs,by simpa using hr⟩
     ·have x1:=Ext.laid (o:=.tup (vs++ws)) d hp
      refine k _ F _ x1 ?_
      simp only[Rep]
      exact⟨p,_,rfl,SqT.of z0h,(hr.append hr').ext x1⟩
   next=>cases e
  ·split at e
   next xs ys hz =>
    cases e
    obtain⟨ax,vs,rfl,hs,hr⟩:=rx.lst
    obtain⟨ay,ws,rfl,hs',hr'⟩:=ry.lst
    refine .inr (.inr (.inr (.inr ⟨_,_,_,_,rfl,rfl,hs,hs',by rw[z6u,<- hr.length,<- hr'.length];exact hz,fun p hp=>?_⟩)))
    have x1:=Ext.laidF (o:=.lst (vs++ws)) d hp
    refine k _ _ _ x1 ?_
    simp only[Rep]
    exact⟨p,_,rfl,.inr rfl,.inl z0h,(hr.append hr').ext x1⟩
   next=>cases e
  ·cases e))
theorem zoy (ha:PEr X a f) (hb:PEr X b g):PEv X (.BinOp a .Sub b pos) (op2 oSub f g) :=
 z0t (zcj zrj ha hb) (z4u (by
  intro O F H x y t vx vy Q d rx ry e k
  unfold oSub at e
  split at e
  ·cases e
   rw[rx.int,ry.int]
   exact⟨_,_,rfl,rfl,k _ F H (Ext.refl d) (by simp[Rep])⟩
  ·cases e))
theorem zcg (ha:PEr X a f) (hb:PEr X b g):PEv X (.BinOp a .Mult b pos) (op2 oMul f g) :=
 z0t (zcj zrl ha hb) (z4u (by
  intro O F H x y t vx vy Q d rx ry e k
  unfold oMul at e
  split at e
  ·split at e
   next hm =>
    cases e
    rw[rx.int,ry.int]
    refine⟨_,_,rfl,rfl,?_,k _ F H (Ext.refl d) (by simp[Rep])⟩
    simpa [zhz,CMul] using hm
   next=>cases e
  ·cases e))
theorem z26 (ha:PEr X a f) (hb:PEr X b g):PEv X (.BinOp a .FloorDiv b pos) (op2 oDiv f g) :=
 z0t (zcj zpg ha hb) (z4u (by
  intro O F H x y t vx vy Q d rx ry e k
  unfold oDiv at e
  split at e
  ·split at e
   next hm =>
    cases e
    rw[rx.int,ry.int]
    exact⟨_,_,rfl,rfl,hm,k _ F H (Ext.refl d) (by simp[Rep])⟩
   next=>cases e
  ·cases e))
theorem z1f (ha:PEr X a f) (hb:PEr X b g):PEv X (.BinOp a .Mod b pos) (op2 oMod f g) :=
 z0t (zcj zrm ha hb) (z4u (by
  intro O F H x y t vx vy Q d rx ry e k
  unfold oMod at e
  split at e
  ·split at e
   next hm =>
    cases e
    rw[rx.int,ry.int]
    exact⟨_,_,rfl,rfl,hm,k _ F H (Ext.refl d) (by simp[Rep])⟩
   next=>cases e
  ·cases e))
theorem q_ix (ha:PEr X a f) (hb:PEr X b g) (hs:zfw b:=by intro _ _;rfl):PEv X (.Subscript a b pos) (op2 oIx f g) :=
 z0t (zsz zs1 ha hb hs) (z4u (by
  intro O F H x y t vx vy Q d rx ry e k
  unfold oIx at e
  split at e
  ·obtain⟨ax,vs,rfl,hs,hr⟩:=rx.tup
   rw[ry.int]
   simp only[atZ,y01] at e
   obtain⟨j,hj,et⟩:=e
   obtain⟨v,hv,rv⟩:=hr.get et
   refine .inr (.inl ⟨_,_,_,v,rfl,rfl,hs,?_,k _ F H (Ext.refl d) rv⟩)
   rw[hr.length] at hj
   show (ixN _ _).bind _=_
   rw[show ixN vs.length _=some j from hj]
   exact hv
  ·obtain⟨ax,vs,rfl,hs,hr⟩:=rx.lst
   rw[ry.int]
   simp only[atZ,y01] at e
   obtain⟨j,hj,et⟩:=e
   obtain⟨v,hv,rv⟩:=hr.get et
   refine .inl ⟨_,_,_,v,rfl,rfl,.inl hs,?_,k _ F H (Ext.refl d) rv⟩
   rw[hr.length] at hj
   show (ixN _ _).bind _=_
   rw[show ixN vs.length _=some j from hj]
   exact hv
  ·split at e
   next hz =>
    rw[rx.str,ry.int]
    simp only[y07] at e
    obtain⟨c,hc,rfl⟩:=e
    exact .inr (.inr ⟨_,_,c,rfl,rfl,by rw[z6u];exact hz,hc,k _ F H (Ext.refl d) (by simp[Rep])⟩)
   next=>cases e
  ·cases e))
end
end
section
variable [Tbl]
noncomputable def DO (K:y00) (F₀:Addr->Prop) (H₀:En) (O F:Addr->Prop) (H:Hp) (D:Ends):Out->Prop
 | .nx ε'=>∀σ' F' H',Kp K F H F' H'->RelE K F₀ H₀ O F' H' ε' σ'->D.nx σ' H'
 | .rt t=>∀v F' H',Ext F₀ H₀.h F' H'->Rep K F' H' t v->D.rt v H'
 | .rtm t ε'=>∀v σ' F' H',RelE K F₀ H₀ O F' H' ε' σ'->Rep K F' H' t v->D.rt v H'
 | .rto s=>∀a F' H',Ext F₀ H₀.h F' H'->z3h K H₀ O F' H' s (.ref a)->D.rt (.ref a) H'
 | .bk ε'=>∀σ' F' H',Kp K F H F' H'->RelE K F₀ H₀ O F' H' ε' σ'->D.bk σ' H'
 | .ct ε'=>∀σ' F' H',Kp K F H F' H'->RelE K F₀ H₀ O F' H' ε' σ'->D.ct σ' H'
def tS (K:y00) (g:Fs):TS:=fun D σ H=>∃F₀ H₀ O F ε o,RelE K F₀ H₀ O F H ε σ/\g ε=some o/\DO K F₀ H₀ O F H D o
abbrev PSt (X:Cx) (s:Stmt) (g:Fs):Prop:=PS X s (tS X.K g)
abbrev PBt (X:Cx) (s:List Stmt) (g:Fs):Prop:=PSs X s (tS X.K g)
theorem DO.kp {K:y00} {F₀ O F F1:Addr->Prop} {H₀:En} {H H1:Hp} {D:Ends} {o:Out} (h:DO K F₀ H₀ O F H D o) (x:Kp K F H F1 H1):DO K F₀ H₀ O F1 H1 D o:=by
 cases o with
 | nx ε=>exact fun σ' F' H' k r=>h σ' F' H' (x.trans k) r
 | rt t=>exact h
 | bk ε=>exact fun σ' F' H' k r=>h σ' F' H' (x.trans k) r
 | ct ε=>exact fun σ' F' H' k r=>h σ' F' H' (x.trans k) r
 | rtm t ε=>exact h
 | rto s=>exact h
section
variable {X:Cx} {e a b c:Expr} {f:Fe} {g g':Fs} {ft:Ft} {st:Stmt} {rest:List Stmt} {pos:Pos}
theorem z21:PBt X [] skip:=zln zp4 fun D σ H ⟨F₀,H₀,O,F,ε,o,r,e,k⟩=>by
 cases e
 exact k σ F H Kp.refl r
theorem z0k (h:PSt X st g):PBt X [st] g:=zp3 h
theorem z0d (h1:PSt X st g) (h2:PBt X rest g'):PBt X (st::rest) (seq g g'):=zln (zmj h1 h2) fun D σ H ⟨F₀,H₀,O,F,ε,o,r,e,k⟩=>by
 simp only[seq,y01] at e
 obtain⟨o1,e1,e2⟩:=e
 refine⟨F₀,H₀,O,F,ε,o1,r,e1,?_⟩
 cases o1 with
 | nx ε'=>exact fun σ' F' H' x r'=>⟨F₀,H₀,O,F',ε',o,r',e2,k.kp x⟩
 | rt t =>
  cases e2
  exact k
 | bk ε' =>
  cases e2
  exact k
 | ct ε' =>
  cases e2
  exact k
 | rtm t ε' =>
  cases e2
  exact k
 | rto s =>
  cases e2
  exact k
theorem z0m (h:PEv X e f):PSt X (.Return (some e) pos) (rtn f):=z9x (zr1 h) fun D σ H ⟨F₀,H₀,O,F,ε,o,r,e,k⟩=>by
 simp only[rtn,y07] at e
 obtain⟨t,et,rfl⟩:=e
 exact⟨F₀,H₀,O,F,ε,t,r,et,fun v F' H' x q=>k v F' H' (r.ent.trans x) q⟩
theorem s_if (hc:PTt X c ft) (ha:PBt X rest g) {els:List Stmt} (hb:PBt X els g'):PSt X (.If c rest els pos) (iff ft g g'):=z9x (zsw hc ha hb) fun D σ H ⟨F₀,H₀,O,F,ε,o,r,e,k⟩=>by
 simp only[iff,y01] at e
 obtain⟨b,eb,e⟩:=e
 refine⟨F₀,H₀,O,F,ε,b,r,eb,fun F' H' x=>?_⟩
 cases b with
 | true=>exact iteT ⟨F₀,H₀,O,F',ε,o,r.ext x,by simpa using e,k.kp x.kp⟩
 | false=>exact iteF ⟨F₀,H₀,O,F',ε,o,r.ext x,by simpa using e,k.kp x.kp⟩
theorem z31 (i:Nat) {x:Str} {pos':Pos} (hN:X.N.Nodup) (he:PEv X e f) (hi:X.N[i]?=some x:=by rfl) (hx:Loc X.env.scope x:=by first|exact Or.inl rfl|exact Or.inr rfl)
  (hs:swapsWith e (some (.Name x pos')) pos.line X.env=pure false:=by rfl) (hf:X.fn x=true\/X.env.scope.names.lookup x=some .local:=by first|exact .inl rfl|exact .inr rfl) :
  PSt X (.Assign [.Name x pos'] e pos) (asg i f):=z9x (zo4 hN hi hx he hs hf) fun D σ H ⟨F₀,H₀,O,F,ε,o,r,e,k⟩=>by
 simp only[asg,y07] at e
 obtain⟨t,et,rfl⟩:=e
 refine⟨F₀,H₀,O,F,ε,t,r,et,fun v F' H' x q=>?_⟩
 exact k _ F' H' x.kp ((r.ext x).set i q)
theorem zqj (i:Nat) {x:Str} {pos':Pos} (hN:X.N.Nodup) (he:PEn X e f) (hi:X.N[i]?=some x:=by rfl) (hx:Loc X.env.scope x:=by first|exact Or.inl rfl|exact Or.inr rfl)
  (hs:swapsWith e (some (.Name x pos')) pos.line X.env=pure false:=by rfl) (hf:X.fn x=true\/X.env.scope.names.lookup x=some .local:=by first|exact .inl rfl|exact .inr rfl) :
  PSt X (.Assign [.Name x pos'] e pos) (asgN i f):=z9x (zo4 hN hi hx he hs hf) fun D σ H ⟨F₀,H₀,O,F,ε,o,r,e,k⟩=>by
 simp only[asgN,y01] at e
 obtain⟨t,et,e⟩:=e
 split at e
 next ts =>
  cases e
  refine⟨F₀,H₀,O,F,ε,ts,r,et,fun a vs F' H' x hn nf ha q=>?_⟩
  exact k _ F' H' x.kp (r.setNew (s:=.own ts) i x ⟨a,vs,rfl,nf,r.fr a hn,ha,q⟩ fun b hb=>by
   have:b=a:=by simpa [fpS,rf] using hb
   rw[this]
   exact hn)
 next=>cases e
def tG (K:y00) (g:Fg):TG:=fun v σ H Q=>∃F₀ H₀ O F ε t ε',RelE K F₀ H₀ O F H ε σ/\Rep K F H t v/\g t ε=some ε'/\∀σ',RelE K F₀ H₀ O F H ε' σ'->Q σ' H
def tGs (K:y00) (gs:List Fg):TGs:=fun vs σ H Q=>∃F₀ H₀ O F ε ts ε',RelE K F₀ H₀ O F H ε σ/\RepL K F H ts vs/\gAll gs ts ε=some ε'/\∀σ',RelE K F₀ H₀ O F H ε' σ'->Q σ' H
abbrev PGt (X:Cx) (e:Expr) (g:Fg):Prop:=PG X e (tG X.K g)
abbrev PGst (X:Cx) (es:List Expr) (gs:List Fg):Prop:=PGs X es (tGs X.K gs)
theorem zop {X:Cx} {e:Expr} {t t':TG} (h:PG X e t) (k:∀v σ H Q,t' v σ H Q->t v σ H Q):PG X e t':=fun pins s σ H v u Q I r q=>h pins s σ H v u Q I r (k v σ H Q q)
theorem zlo {X:Cx} {e:List Expr} {t t':TGs} (h:PGs X e t) (k:∀v σ H Q,t' v σ H Q->t v σ H Q):PGs X e t':=fun pins s σ H v u Q I r q=>h pins s σ H v u Q I r (k v σ H Q q)
theorem g_nm (i:Nat) {x:Str} (hN:X.N.Nodup) (hi:X.N[i]?=some x:=by rfl) (hx:Loc X.env.scope x:=by first|exact Or.inl rfl|exact Or.inr rfl)
  (hf:X.fn x=true\/X.env.scope.names.lookup x=some .local:=by first|exact .inl rfl|exact .inr rfl):PGt X (.Name x pos) (gNm i):=zop (zpb hN hi hx hf) fun v σ H Q ⟨F₀,H₀,O,F,ε,t,ε',r,q,e,k⟩=>by
 cases e
 exact k _ (r.set i q)
theorem zne:PGst X [] []:=zlo zpa fun vs σ H Q ⟨F₀,H₀,O,F,ε,ts,ε',r,q,e,k⟩=>by
 cases ts with
 | nil =>
  cases e
  simp only[RepL] at q
  exact⟨q,k σ r⟩
 | cons t ts=>cases e
theorem z74 {es:List Expr} {g:Fg} {gs:List Fg} (h1:PGt X e g) (h2:PGst X es gs) (hs:(y2t (e::es) X.env).map (·.2)=assign e X.env::(y2t es X.env).map (·.2):=by rfl):PGst X (e::es) (g::gs) :=
 zlo (zmn h1 h2 hs) fun vs σ H Q ⟨F₀,H₀,O,F,ε,ts,ε',r,q,e,k⟩=>by
 cases ts with
 | nil=>cases e
 | cons t ts =>
  simp only[gAll,y01] at e
  obtain⟨ε1,e1,e2⟩:=e
  simp only[RepL] at q
  obtain⟨v,vr,rfl,q1,q2⟩:=q
  exact⟨v,vr,rfl,F₀,H₀,O,F,ε,t,ε1,r,q1,e1,fun σ1 r1=>⟨F₀,H₀,O,F,ε1,ts,ε',r1,q2,e2,k⟩⟩
theorem zgl:∀{gs:List Fg} {ts:List T} {ε ε':Ev},gAll gs ts ε=some ε'->ts.length=gs.length
 | [],[],_,_,_=>rfl
 | [],_::_,_,_,h=>by cases h
 | _::_,[],_,_,h=>by cases h
 | g::gs,t::ts,ε,ε',h=>by
  simp only[gAll,y01] at h
  obtain⟨ε1,_,h⟩:=h
  simp[zgl h]
theorem znd {es:List Expr} {k:Nat} {gs:List Fg} (h:PGst X es gs) (hc:X.calm=true:=by rfl) (hn:(y2t es X.env).length=gs.length:=by rfl) (hst:(y2t es X.env).findIdx? (·.1)=none:=by rfl) :
  PGt X (.Tuple es k pos) (gTu gs):=zop (zr5 hc h hn hst) fun v σ H Q ⟨F₀,H₀,O,F,ε,t,ε',r,q,e,k⟩=>by
 unfold gTu at e
 split at e
 next ts =>
  simp only[Rep] at q
  obtain⟨a,vs,rfl,hs,hr⟩:=q
  exact⟨a,vs,rfl,hs,by rw[<- hr.length];exact zgl e,F₀,H₀,O,F,ε,ts,ε',r,hr,e,k⟩
 next=>cases e
theorem zqi {tg:Expr} {g:Fg} (he:PEv X e f) (hg:PGt X tg g) (hs:swapsWithSole [tg] e pos.line X.env=pure false:=by rfl) (hw:swappedStores [tg] e X.env=pure none:=by rfl)
  (h1:(y2t [tg] X.env).map (·.2)=[assign tg X.env]:=by rfl):PSt X (.Assign [tg] e pos) (asgT g f):=z9x (zr3 he hg hs hw h1) fun D σ H ⟨F₀,H₀,O,F,ε,o,r,e,k⟩=>by
 simp only[asgT,y01,y07] at e
 obtain⟨t,et,ε',eg,rfl⟩:=e
 refine⟨F₀,H₀,O,F,ε,t,r,et,fun v F' H' x q=>?_⟩
 exact⟨F₀,H₀,O,F',ε,t,ε',r.ext x,q,eg,fun σ' r'=>k σ' F' H' x.kp r'⟩
structure ItOk (K:y00) (J:It) (F1:Addr->Prop) (H1:Hp) (ts:List T):Prop where
 go:∀i F H t,Kp K F1 H1 F H->Dom F H->ts[i]?=some t->J.go i H
 yld:∀i F H t x H',Kp K F1 H1 F H->Dom F H->ts[i]?=some t->J.yld i H x H'->∃F',Ext F H F' H'/\Rep K F' H' t x
 stop:∀i F H,Kp K F1 H1 F H->ts.length<=i->J.stop i H
def tI (K:y00) (f:Fi):TI:=fun σ H R=>∃F₀ H₀ O F ε ts,RelE K F₀ H₀ O F H ε σ/\f ε=some ts/\∀J F' H',Ext F H F' H'->ItOk K J F' H' ts->R J H'
abbrev PIt (X:Cx) (tg e:Expr) (f:Fi):Prop:=PI X tg e (tI X.K f)
theorem zgz {X:Cx} {tg e:Expr} {t t':TI} (h:PI X tg e t) (k:∀σ H R,t' σ H R->t σ H R):PI X tg e t':=fun pins s σ H R I q=>h pins s σ H R I (k σ H R q)
theorem zkj {K:y00} {a:Addr} {F1:Addr->Prop} {H1:Hp} {ts:List T} {vs:List V} (fa:F1 a) (hr:Rd H1 a (.lst vs)) (q:RepL K F1 H1 ts vs):ItOk K (Itl K a) F1 H1 ts where
 go:=fun i F H t kp d e=>by
  obtain⟨v,h1,_⟩:=q.get e
  exact⟨vs,v,.inl (kp.lst _ _ fa hr).2,h1⟩
 yld:=fun i F H t x H' kp d e y=>by
  obtain⟨rfl,y⟩:=y
  obtain⟨v,h1,h2⟩:=(q.kp kp).get e
  have:=y vs (.inl (kp.lst _ _ fa hr).2)
  rw[h1] at this
  cases this
  exact⟨F,Ext.refl d,h2⟩
 stop:=fun i F H kp hl=>⟨vs,.inl (kp.lst _ _ fa hr).2,by rw[<- q.length];exact hl⟩
theorem zn6 {K:y00} {a:Addr} {F1:Addr->Prop} {H1:Hp} {ts:List T} {vs:List V} (hr:SqT K H1 a vs) (q:RepL K F1 H1 ts vs):ItOk K (Itt K a) F1 H1 ts where
 go:=fun i F H t kp d e=>by
  obtain⟨v,h1,_⟩:=q.get e
  exact⟨vs,v,kp.tup _ _ hr,h1⟩
 yld:=fun i F H t x H' kp d e y=>by
  obtain⟨rfl,y⟩:=y
  obtain⟨v,h1,h2⟩:=(q.kp kp).get e
  have:=y vs (kp.tup _ _ hr)
  rw[h1] at this
  cases this
  exact⟨F,Ext.refl d,h2⟩
 stop:=fun i F H kp hl=>⟨vs,kp.tup _ _ hr,by rw[<- q.length];exact hl⟩
theorem zem (lo hi:Int):(rng lo hi).length=(hi - lo).toNat:=by simp[rng]
theorem zn8 {K:y00} {F1:Addr->Prop} {H1:Hp} (lo hi:Int):ItOk K (Itr lo (hi - lo).toNat) F1 H1 (rng lo hi) where
 go:=fun i F H t kp d e=>by
  have h:=(y0k.mp e).1
  rw[zem] at h
  exact h
 yld:=fun i F H t x H' kp d e y=>by
  obtain⟨rfl,rfl⟩:=y
  refine⟨F,Ext.refl d,?_⟩
  have h:=(y0k.mp e).1
  rw[zem] at h
  unfold rng at e
  rw[y15,List.getElem?_range h] at e
  simp at e
  subst e
  simp[Rep]
 stop:=fun i F H kp hl=>by
  rw[zem] at hl
  exact hl
theorem zkr {tg a:Expr} {f:Fe} {p pos:Pos} (hm:X.mg "range"=none) (ha:PEr X a f) (hg:Gl X "range":=by rfl) (hs:y0a [a] X.env=[(false,eval a X.env)]:=by rfl) (hs2:y0a [a] X.env=(false,eval a X.env)::y0a [] X.env:=by rfl) :
  PIt X tg (.Call (.Name "range" p) [a] [] pos) (z4o f):=zgz (zjp hg hm (z5s ha z8w hs2) hs) fun σ H R ⟨F₀,H₀,O,F,ε,ts,r,e,k⟩=>by
 simp only[z4o,y01] at e
 obtain⟨t,et,e⟩:=e
 split at e
 next j =>
  split at e
  next hz =>
   cases e
   refine⟨F₀,H₀,O,F,ε,_,r,et,fun v F' H' x q=>⟨j,by rw[q.int],?_,?_,k _ F' H' x (by simpa using zn8 0 j)⟩⟩
   ·simp[z8o] at hz
    omega
   ·simp[z8o] at hz
    omega
  next=>cases e
 next=>cases e
theorem zek {tg iter:Expr} {body:List Stmt} {it:Fi} {gg:Fg} {bb:Fs} (hp:PassesOwn (y2w X.prog X.w) X.A X.env X.xe) (hi:PIt X tg iter it) (hg:PGt X tg gg) (hb:PBt X body bb) (hc:X.calm=true:=by rfl)
  (hs:∀x,y2x iter X.env x=pure x:=by intro _;rfl):PSt X (.For tg iter body [] pos) (for_ it gg bb):=z9x (zr2 hp hc hi hg hb hs) fun D σ H ⟨F₀,H₀,O,F,ε,o,r,e,k⟩=>by
 simp only[for_,y01] at e
 obtain⟨ts,et,e⟩:=e
 refine⟨F₀,H₀,O,F,ε,ts,r,et,fun J F1 H1 x1 ok=>?_⟩
 refine⟨fun i m σ' H'=>m=ts.length - i/\i<=ts.length/\∃F' ε' ,Kp X.K F1 H1 F' H'/\RelE X.K F₀ H₀ O F' H' ε' σ'/\forL gg bb (ts.drop i) ε'=some o,⟨_,rfl,y21 _,F1,ε,Kp.refl,r.ext x1,by simpa using e⟩,?_⟩
 rintro i m σ' H' ⟨rfl,hi',F',ε',kp,r',e'⟩
 by_cases hlt:i<ts.length
 ·have hd:ts.drop i=ts[i]::ts.drop (i+1):=List.drop_eq_getElem_cons hlt
  have hg':ts[i]?=some ts[i]:=y0v hlt
  rw[hd] at e'
  simp only[forL,y01] at e'
  obtain⟨ε1,eg,o1,eb,e'⟩:=e'
  refine .inr ⟨ok.go i F' H' _ kp r'.dom hg',fun σ2 H2=>∃m',m'<ts.length - i/\(m'=ts.length - (i+1)/\i+1<=ts.length/\∃F2 ε2,Kp X.K F1 H1 F2 H2/\RelE X.K F₀ H₀ O F2 H2 ε2 σ2/\forL gg bb (ts.drop (i+1)) ε2=some o),fun _ _ z=>z,fun x H2 y=>?_⟩
  obtain⟨F2,x2,rx⟩:=ok.yld i F' H' _ x H2 kp r'.dom hg' y
  refine⟨F₀,H₀,O,F2,ε',_,ε1,r'.ext x2,rx,eg,fun σ3 r3=>⟨F₀,H₀,O,F2,ε1,o1,r3,eb,?_⟩⟩
  have kp2:Kp X.K F1 H1 F2 H2:=kp.trans x2.kp
  cases o1 with
  | nx ε2=>exact fun σ4 F4 H4 k4 r4=>⟨_,by omega,rfl,hlt,F4,ε2,kp2.trans k4,r4,e'⟩
  | ct ε2=>exact fun σ4 F4 H4 k4 r4=>⟨_,by omega,rfl,hlt,F4,ε2,kp2.trans k4,r4,e'⟩
  | bk ε2 =>
   cases e'
   exact fun σ4 F4 H4 k4 r4=>k σ4 F4 H4 ((x1.kp.trans kp2).trans k4) r4
  | rt t =>
   cases e'
   exact k
  | rtm t ε2 =>
   cases e'
   exact k
  | rto s =>
   cases e'
   exact k
 ·have hd:ts.drop i=[]:=List.drop_eq_nil_of_le (by omega)
  rw[hd] at e'
  cases e'
  exact .inl ⟨ok.stop i F' H' kp (by omega),k σ' F' H' (x1.kp.trans kp) r'⟩
theorem zsq (i:Nat) {x:Str} {px apos cpos:Pos} (he:PEv X e f) (hN:X.N[i]?=some x:=by rfl) (hv:Vis X.env.scope x:=by first|exact Or.inl rfl|exact Or.inr (Or.inl rfl)|exact Or.inr (Or.inr rfl)) (hd:(x == ("__debug__":Str))=false:=by decide)
  (hcd:(x == ("__classdict__":Str))=false:=by decide) (hs1:y0a [e] X.env=(false,eval e X.env)::y0a [] X.env:=by rfl)
  (hbase:attributeBase (.Name x px) "append" X.env (eval (.Name x px) X.env)=eval (.Name x px) X.env:=by rfl)
  (hfew:((y2g cpos (y0a [e] X.env)).all (fun x=>!x.1) && (backToKw cpos (keywordEach [] X.env)).all (fun x=>x.1.isSome)
   && decide (([e]:List Expr).length+([]:List Keyword).length+(if ([]:List Keyword).isEmpty then 0 else 1)<30))=true:=by rfl)
  (hline:(apos.endLine == cpos.line)=true:=by rfl) (hplain:(y2g cpos (y0a [] X.env)).any (·.1)=false:=by rfl)
  (hsw:swapsWith (.Call (.Attribute (.Name x px) "append" apos) [e] [] cpos) none pos.line X.env=pure false:=by rfl) :
  PSt X (.Expr (.Call (.Attribute (.Name x px) "append" apos) [e] [] cpos) pos) (app i f) :=
 z9x (zp5 (zt0 PySem.F.plainAttrs_list PySem.F.slot_list_append PySem.F.type_list_append zd7 (pv i hN hv hd hcd) (z5s he z8w hs1) hbase hfew hline hs1 hplain) hsw) fun D σ H ⟨F₀,H₀,O,F,ε,o,r,e,k⟩=>by
 unfold app at e
 split at e
 next ts he =>
  simp only[y01] at e
  obtain⟨t,et,e⟩:=e
  split at e
  next hz =>
   cases e
   obtain⟨v,h1,a,vs,rfl,n,h0,hh,hr⟩:=r.val _ _ he
   refine⟨_,h1,.inl ⟨rfl,_,SqL.of hh⟩,F₀,H₀,O,F,ε,t,r,et,fun v F' H' x q=>?_⟩
   have r1:=r.ext x
   obtain⟨v1,h1',a1,vs1,e1,n1,h01,hh1,hr1⟩:=r1.val _ _ he
   rw[h1] at h1'
   cases h1'
   cases e1
   refine⟨a,vs1,v,rfl,rfl,hh1,by rw[z6u,<- hr1.length];exact hz,?_⟩
   obtain⟨kp,r2⟩:=r1.mut (s':=.own (ts++[t])) (o':=.lst (vs1++[v])) he rfl h1 n1 h0 hh1 (.inl ⟨_,rfl⟩) fun kp=>⟨a,_,rfl,n1,h0,z0h,(hr1.kp kp).append (RepL.cons (q.kp kp) RepL.nil)⟩
   exact k σ F' _ (x.kp.trans kp) r2
  next=>cases e
 next=>cases e
end
end
section
variable [Tbl]
section
variable {X:Cx} {a b c e:Expr} {es:List Expr} {f g h:Fe} {fs:List Fe} {ft gt:Ft} {pos p:Pos}
theorem z19:PAr X [] []:=zh0 z8w fun σ H Q ⟨F₀,H₀,O,F,ε,ts,r,e,k⟩=>by
 cases e
 exact k [] F H (Ext.refl r.dom) .nil
theorem z0n (ha:PEr X e f) (hr:PAr X es fs) (hs:y0a (e::es) X.env=(false,eval e X.env)::y0a es X.env:=by rfl):PAr X (e::es) (f::fs):=zh0 (z5s ha hr hs) fun σ H Q ⟨F₀,H₀,O,F,ε,ts,r,e,k⟩=>by
 simp only[args,y01,y07] at e
 obtain⟨t,et,us,eu,rfl⟩:=e
 refine⟨F₀,H₀,O,F,ε,t,r,et,fun v F1 H1 x1 q1=>⟨F₀,H₀,O,F1,ε,us,r.ext x1,eu,fun vs F2 H2 x2 q2=>?_⟩⟩
 exact k _ F2 H2 (x1.trans x2) (.cons (q1.ext x2) q2)
theorem z03:PAv X [] []:=zh0 z8w fun σ H Q ⟨F₀,H₀,O,F,ε,ts,r,e,k⟩=>by
 cases e
 exact k [] F H (Ext.refl r.dom) RepL.nil
theorem z00 (ha:PEv X e f) (hr:PAv X es fs) (hs:y0a (e::es) X.env=(false,eval e X.env)::y0a es X.env:=by rfl):PAv X (e::es) (f::fs):=zh0 (z5s ha hr hs) fun σ H Q ⟨F₀,H₀,O,F,ε,ts,r,e,k⟩=>by
 simp only[args,y01,y07] at e
 obtain⟨t,et,us,eu,rfl⟩:=e
 refine⟨F₀,H₀,O,F,ε,t,r,et,fun v F1 H1 x1 q1=>⟨F₀,H₀,O,F1,ε,us,r.ext x1,eu,fun vs F2 H2 x2 q2=>?_⟩⟩
 exact k _ F2 H2 (x1.trans x2) (RepL.cons (q1.ext x2) q2)
theorem z1c {x1} (h:PAv X es fs):PEv X (.Tuple es x1 pos) (z04 fs):=z0t (zr8 h) fun σ H Q ⟨F₀,H₀,O,F,ε,t,r,e,k⟩=>by
 simp only[z04,y01] at e
 obtain⟨ts,et,e⟩:=e
 split at e
 next hz =>
  cases e
  refine⟨F₀,H₀,O,F,ε,ts,r,et,fun vs F1 H1 x1 q1=>⟨by rw[z6u,<- q1.length];exact hz,fun p hp=>?_⟩⟩
  have x2:=Ext.laid (o:=.tup vs) x1.dom hp
  refine k _ F1 _ (x1.trans x2) ?_
  simp only[Rep]
  exact⟨p,vs,rfl,SqT.of z0h,q1.ext x2⟩
 next=>cases e
theorem zqs (h:PAv X es fs):PEn X (.List es pos) (z11 fs):=z0t (zrc h) fun σ H Q ⟨F₀,H₀,O,F,ε,us,r,e,k⟩=>by
 simp only[z11,y01] at e
 obtain⟨ts,et,e⟩:=e
 split at e
 next hz =>
  cases e
  refine⟨F₀,H₀,O,F,ε,_,r,et,fun vs F1 H1 x1 q1=>⟨by rw[z6u,<- q1.length];exact hz,fun p hp=>?_⟩⟩
  have x2:=Ext.laid (o:=.lst vs) x1.dom hp
  refine k p vs F1 _ (x1.trans x2) ?_ ?_ z0h (q1.ext x2)
  ·exact x1.same.none hp
  ·intro fp
   obtain⟨o,eo⟩:=x1.dom p fp
   rw[hp] at eo
   cases eo
 next=>cases e
theorem z8s (h:PAv X es fs):PEv X (.List es pos) (z11 fs):=n2v (zqs h) fun ε t e=>by
 simp only[z11,y01] at e
 obtain⟨ts,et,e⟩:=e
 split at e
 ·cases e
  exact⟨_,rfl⟩
 ·cases e
mutual
theorem zga {F:Addr->Prop} {pins:List (Addr×Obj)} {σ:L2.St} {H:Hp} {s:y04} (I:Inv X pins σ H s):∀{t:T} {v:V} {u:Value},Rep X.K F H t v->RelV v u->∃as,Reads s.heap u t as
 | .none,v,u,h,r=>by
  simp only[Rep] at h
  subst h
  cases r
  exact⟨_,.none⟩
 | .bool b,v,u,h,r=>by
  simp only[Rep] at h
  subst h
  cases r
  exact⟨_,.bool b⟩
 | .int i,v,u,h,r=>by
  simp only[Rep] at h
  subst h
  obtain⟨t,rfl⟩:=r
  exact⟨_,.int i t⟩
 | .str x,v,u,h,r=>by
  simp only[Rep] at h
  subst h
  obtain⟨t,rfl⟩:=r
  exact⟨_,.str x t⟩
 | .dict _,v,u,h,r=>by simp[Rep] at h
 | .tuple ts,v,u,h,r=>by
  simp only[Rep] at h
  obtain⟨a,vs,rfl,hs,hr⟩:=h
  cases r
  obtain⟨its,rv,⟨o,h1,h2,n,h3⟩,hz⟩:=I.tuple hs
  obtain⟨as,ra⟩:=z6x I hr rv
  exact⟨_,.tuple h1 h2 h3 (by simpa using ra)⟩
 | .list ts,v,u,h,r=>by
  simp only[Rep] at h
  obtain⟨a,vs,rfl,fa,hs,hr⟩:=h
  cases r
  obtain⟨z,its,n,rv,hl,e⟩:=Inv.lstR I hs
  obtain⟨as,ra⟩:=z6x I hr rv
  exact⟨_,.list e rfl rfl (by simpa using ra)⟩
theorem z6x {F:Addr->Prop} {pins:List (Addr×Obj)} {σ:L2.St} {H:Hp} {s:y04} (I:Inv X pins σ H s):∀{ts:List T} {vs:List V} {us:List Value},RepL X.K F H ts vs->Vals vs us->∃as,ReadsAll s.heap us ts as
 | [],vs,us,h,r=>by
  simp only[RepL] at h
  subst h
  cases r
  exact⟨_,.nil⟩
 | t::ts,vs,us,h,r=>by
  simp only[RepL] at h
  obtain⟨v,vr,rfl,h1,h2⟩:=h
  cases r with
  | cons r1 r2 =>
   obtain⟨as,q1⟩:=zga I h1 r1
   obtain⟨bs,q2⟩:=z6x I h2 r2
   exact⟨_,.cons q1 q2⟩
end
theorem z41 {O F:Addr->Prop} {pins:List (Addr×Obj)} {σ:L2.St} {H:Hp} {s:y04} (I:Inv X pins σ H s) {t:T} {v:V} {u:Value} (h:RepR X.K O F H t v) (r:RelV v u):∃as,Reads s.heap u t as:=by
 rcases h with h|⟨ts,a,vs,rfl,rfl,ha,h⟩
 ·exact zga I h r
 ·cases r
  obtain⟨z,its,n,rv,hl,e⟩:=Inv.lstR I (.inl ha)
  obtain⟨as,ra⟩:=z6x I h rv
  exact⟨_,.list e rfl rfl (by simpa using ra)⟩
theorem zco {t:T} (h:okT t=true):t.canLay0=true/\t.depth<=60:=by
 simp only[okT,y1c,decide_eq_true_eq] at h
 exact h
theorem zrp {t:List T} (h:okL t=true):y1h t=true/\y1f t<=60:=by
 simp only[okL,y1c,decide_eq_true_eq] at h
 exact h
noncomputable def zmh (K:y00) (n:Bool):R2:=fun x y H Q=>∃(O F:Addr->Prop) (s t:T),RepR K O F H s x/\RepR K O F H t y/\okT s=true/\okT t=true/\Q (.bl (if n then !PyData.eqv s t else y1y s t)) H
theorem z2t (hu:X.A.units+64<cLine):OpR X (y2l .Eq) (zmh X.K false):=by
 intro pins s σ H x y v u Q I rx ry ⟨O,F,d,t,h1,h2,o1,o2,q⟩
 obtain⟨as,ra⟩:=z41 I h1 rx
 obtain⟨bs,rb⟩:=z41 I h2 ry
 obtain⟨c1,l1⟩:=zco o1
 obtain⟨c2,l2⟩:=zco o2
 refine SeqAt.compareEq_reads ra rb c1 c2 (by have:=Nat.min_le_left d.depth t.depth;omega) ?_
 exact⟨.bl _,H,I,rfl,q⟩
theorem z7r (hu:X.A.units+64<cLine):OpR X (y2l .NotEq) (zmh X.K true):=by
 intro pins s σ H x y v u Q I rx ry ⟨O,F,d,t,h1,h2,o1,o2,q⟩
 obtain⟨as,ra⟩:=z41 I h1 rx
 obtain⟨bs,rb⟩:=z41 I h2 ry
 obtain⟨c1,l1⟩:=zco o1
 obtain⟨c2,l2⟩:=zco o2
 refine SeqAt.compareNe_reads ra rb c1 c2 (by have:=Nat.min_le_left d.depth t.depth;omega) ?_
 exact⟨.bl _,H,I,rfl,q⟩
theorem z5q {op:CmpOp} {R:R2} {o:T->T->Option T} (ho:OpR X (y2l op) R) (h2:Op2 X.K o R) (ha:PEr X a f) (hb:PEr X b g) (hm:y2r op b=false:=by first|exact zo8 _|rfl):PEv X (.Compare a [op] [b] pos) (op2 o f g):=z0t (zpe ho ha hb hm) (z4u h2)
theorem z25 {op:CmpOp} {R:R2} {o:T->T->Option T} (ho:OpR X (y2l op) R) (h2:Op2 X.K o R) (ha:PEr X a f) (hb:PEr X b g) (hm:y2r op b=false:=by first|exact zo8 _|rfl):PTt X (.Compare a [op] [b] pos) (tstB (op2 o f g)) :=
 zgy (zp2 ho ha hb hm) fun σ H Q ⟨F₀,H₀,O,F,ε,b,r,e,k⟩=>by
 simp only[tstB,y01] at e
 obtain⟨t,et,e⟩:=e
 split at e
 ·cases e
  refine z4u h2 σ H _ ⟨F₀,H₀,O,F,ε,_,r,et,fun v F' H' x q=>?_⟩
  simp only[Rep] at q
  exact⟨_,q,k F' H' x⟩
 ·cases e
theorem z2u:Op2 X.K oEq (zmh X.K false):=by
  intro O F H x y t vx vy Q d rx ry e k
  unfold oEq at e
  split at e
  next hz =>
   cases e
   rw[y1c] at hz
   exact⟨O,F,x,y,rx,ry,hz.1,hz.2,k _ F H (Ext.refl d) (by simp[Rep])⟩
  next=>cases e
theorem z7t:Op2 X.K oNe (zmh X.K true):=by
  intro O F H x y t vx vy Q d rx ry e k
  unfold oNe at e
  split at e
  next hz =>
   cases e
   rw[y1c] at hz
   exact⟨O,F,x,y,rx,ry,hz.1,hz.2,k _ F H (Ext.refl d) (by simp[Rep])⟩
  next=>cases e
noncomputable def rInT (K:y00) (n:Bool):R2:=fun x y H Q=>∃(O F:Addr->Prop) (s:T) (ts:List T),RepR K O F H s x/\(RepR K O F H (.tuple ts) y\/RepR K O F H (.list ts) y)/\okT s=true/\okL ts=true/\Q (.bl (if n then !hasT s ts else hasT s ts)) H
theorem z7s (hu:X.A.units+64<cLine):OpR X (y2l .In) (rInT X.K false):=by
 intro pins s σ H x y v u Q I rx ry ⟨O,F,d,ts,h1,h2,o1,o2,q⟩
 obtain⟨as,ra⟩:=z41 I h1 rx
 obtain⟨c1,l1⟩:=zco o1
 obtain⟨c2,l2⟩:=zrp o2
 have hm:=Nat.min_le_left (y1f ts) d.depth
 rcases h2 with h2|h2
 ·obtain⟨bs,rb⟩:=z41 I h2 ry
  exact SeqAt.in_tuple_reads rb ra c2 c1 (by omega) ⟨.bl _,H,I,rfl,q⟩
 ·obtain⟨bs,rb⟩:=z41 I h2 ry
  exact SeqAt.in_list_reads rb ra c2 c1 (by omega) ⟨.bl _,H,I,rfl,q⟩
theorem z7u {n:Bool}:Op2 X.K (oIn n) (rInT X.K n):=by
 intro O F H x y t vx vy Q d rx ry e k
 unfold oIn at e
 split at e
 ·split at e
  next hz =>
   cases e
   rw[y1c] at hz
   exact⟨O,F,x,_,rx,.inl ry,hz.1,hz.2,k _ F H (Ext.refl d) (by simp[Rep])⟩
  next=>cases e
 ·split at e
  next hz =>
   cases e
   rw[y1c] at hz
   exact⟨O,F,x,_,rx,.inr ry,hz.1,hz.2,k _ F H (Ext.refl d) (by simp[Rep])⟩
  next=>cases e
 ·cases e
theorem zcm:Op2 X.K oLt (fun x y H Q=>rI0 (fun i j=>.bl (decide (i<j))) x y H Q\/∃i j,x=.str i/\y=.str j/\Q (.bl (decide (i.cps.toList<j.cps.toList))) H):=by
  intro O F H x y t vx vy Q d rx ry e k
  unfold oLt at e
  split at e
  ·cases e
   rw[rx.int,ry.int]
   exact .inl ⟨_,_,rfl,rfl,k _ F H (Ext.refl d) (by simp[Rep])⟩
  ·cases e
   rw[rx.str,ry.str]
   exact .inr ⟨_,_,rfl,rfl,k _ F H (Ext.refl d) (by simp[Rep,strLt])⟩
  ·cases e
theorem z6z:OpR X (y2l .LtE) (fun x y H Q=>∃i j,x=.str i/\y=.str j/\Q (.bl (!strLt j i)) H):=by
 intro pins s σ H x y v u Q I rx ry ⟨i,j,e1,e2,q⟩
 subst e1 e2
 obtain⟨t,rfl⟩:=rx
 obtain⟨t',rfl⟩:=ry
 exact PySem.P.le_str (zdf I q (by simp[strLt]))
theorem zjr:OpR X (y2l .GtE) (fun x y H Q=>∃i j,x=.str i/\y=.str j/\Q (.bl (!strLt i j)) H):=by
 intro pins s σ H x y v u Q I rx ry ⟨i,j,e1,e2,q⟩
 subst e1 e2
 obtain⟨t,rfl⟩:=rx
 obtain⟨t',rfl⟩:=ry
 exact PySem.P.ge_str (zdf I q (by simp[strLt]))
theorem z42:OpR X (y2l .Gt) (fun x y H Q=>∃i j,x=.str i/\y=.str j/\Q (.bl (strLt j i)) H):=by
 intro pins s σ H x y v u Q I rx ry ⟨i,j,e1,e2,q⟩
 subst e1 e2
 obtain⟨t,rfl⟩:=rx
 obtain⟨t',rfl⟩:=ry
 exact PySem.P.gt_str (zdf I q (by simp[strLt]))
theorem zgg:Op2 X.K oLe (fun x y H Q=>rI0 (fun i j=>.bl (decide (i<=j))) x y H Q\/∃i j,x=.str i/\y=.str j/\Q (.bl (!strLt j i)) H):=by
 intro O F H x y t vx vy Q d rx ry e k
 unfold oLe at e
 split at e
 ·cases e
  rw[rx.int,ry.int]
  exact .inl ⟨_,_,rfl,rfl,k _ F H (Ext.refl d) (by simp[Rep])⟩
 ·cases e
  rw[rx.str,ry.str]
  exact .inr ⟨_,_,rfl,rfl,k _ F H (Ext.refl d) (by simp[Rep])⟩
 ·cases e
theorem z8z:Op2 X.K oGt (fun x y H Q=>rI0 (fun i j=>.bl (decide (j<i))) x y H Q\/∃i j,x=.str i/\y=.str j/\Q (.bl (strLt j i)) H):=by
 intro O F H x y t vx vy Q d rx ry e k
 unfold oGt at e
 split at e
 ·cases e
  rw[rx.int,ry.int]
  exact .inl ⟨_,_,rfl,rfl,k _ F H (Ext.refl d) (by simp[Rep])⟩
 ·cases e
  rw[rx.str,ry.str]
  exact .inr ⟨_,_,rfl,rfl,k _ F H (Ext.refl d) (by simp[Rep])⟩
 ·cases e
theorem zro:Op2 X.K oGe (fun x y H Q=>rI0 (fun i j=>.bl (decide (j<=i))) x y H Q\/∃i j,x=.str i/\y=.str j/\Q (.bl (!strLt i j)) H):=by
 intro O F H x y t vx vy Q d rx ry e k
 unfold oGe at e
 split at e
 ·cases e
  rw[rx.int,ry.int]
  exact .inl ⟨_,_,rfl,rfl,k _ F H (Ext.refl d) (by simp[Rep])⟩
 ·cases e
  rw[rx.str,ry.str]
  exact .inr ⟨_,_,rfl,rfl,k _ F H (Ext.refl d) (by simp[Rep])⟩
 ·cases e
theorem zgc (ha:PEr X a f) (hb:PEr X b g) (hc:PEr X c h) (hm:lastMarks [.LtE,.LtE] [b,c]=false:=by with_unfolding_all rfl):PEv X (.Compare a [.LtE,.LtE] [b,c] pos) (chain oLe oLe f g h) :=
 z0t (zmp (zmr.or z6z) (zmr.or z6z) ha hb hc hm) fun σ H Q ⟨F₀,H₀,O,F,ε,t,r,e,k⟩=>by
 simp only[chain,y01] at e
 obtain⟨x,ex,y,ey,z,ez,e⟩:=e
 refine⟨F₀,H₀,O,F,ε,x,r,ex,fun vx F1 H1 x1 rx=>⟨F₀,H₀,O,F1,ε,y,r.ext x1,ey,fun vy F2 H2 x2 ry=>?_⟩⟩
 refine zgg (X:=X) O F2 H2 x y z vx vy _ x2.dom (rx.ext x2) ry ez fun v F3 H3 x3 q3=>?_
 split at e
 ·simp only[Rep] at q3
  subst q3
  simp only[y01] at e
  obtain⟨w,ew,ep⟩:=e
  refine⟨true,rfl,iteT ⟨F₀,H₀,O,F3,ε,w,((r.ext x1).ext x2).ext x3,ew,fun vw F4 H4 x4 rw'=>?_⟩⟩
  exact zgg (X:=X) O F4 H4 y w t vy vw _ x4.dom ((ry.ext x3).ext x4) rw' ep fun v F5 H5 x5 q5=>k v F5 H5 ((((x1.trans x2).trans x3).trans x4).trans x5) q5
 ·simp only[Rep] at q3
  subst q3
  cases e
  exact⟨false,rfl,iteF (k _ F3 H3 ((x1.trans x2).trans x3) (by simp[Rep]))⟩
 ·cases e
theorem zqt {j pos'} (ha:PEr X a f):PEv X (.Compare a [.Is] [.Constant .none j pos'] pos) (op1 oIsN f):=z0t (zre (zrh ha)) fun σ H Q ⟨F₀,H₀,O,F,ε,t,r,e,k⟩=>by
 simp only[op1,y01] at e
 obtain⟨x,ex,e⟩:=e
 cases e
 refine⟨F₀,H₀,O,F,ε,x,r,ex,fun v F1 H1 x1 rx=>k _ F1 H1 x1 ?_⟩
 cases x with
 | none=>rw[rx.non];simp[Rep]
 | bool b=>rw[rx.bl];simp[Rep]
 | int b=>rw[rx.int];simp[Rep]
 | str b=>rw[rx.str];simp[Rep]
 | tuple b=>obtain⟨_,_,e,_⟩:=rx.tup;rw[e];simp[Rep]
 | list b=>obtain⟨_,_,e,_⟩:=rx.lst;rw[e];simp[Rep]
 | dict b=>rcases rx with rx|⟨_,_,_,z,_⟩;simp[Rep] at rx;cases z
theorem zp0 (ha:PEr X a f):PEv X (.UnaryOp .USub a pos) (op1 oNeg f):=z0t (zr7 znw ha) fun σ H Q ⟨F₀,H₀,O,F,ε,t,r,e,k⟩=>by
 simp only[op1,y01] at e
 obtain⟨x,ex,e⟩:=e
 unfold oNeg at e
 split at e
 ·cases e
  exact⟨F₀,H₀,O,F,ε,_,r,ex,fun v F1 H1 x1 rx=>⟨_,rx.int,k _ F1 H1 x1 (by simp[Rep])⟩⟩
 ·cases e
noncomputable def OpN (K:y00) (o:List T->Option T) (R:List V->Hp->VK->Prop):Prop :=
 ∀(O F:Addr->Prop) (H:Hp) (ts:List T) (t:T) (vs:List V) (Q:VK),Dom F H->Paired (RepR K O F H) ts vs->o ts=some t ->
  (∀v F' H',Ext F H F' H'->Rep K F' H' t v->Q v H')->R vs H Q
theorem z8y {o:List T->Option T} {R:List V->Hp->VK->Prop} (hR:OpN X.K o R):∀σ H Q,tV X.K (opN o fs) σ H Q->tCB R (tAR X.K fs) σ H Q:=by
 rintro σ H Q ⟨F₀,H₀,O,F,ε,t,r,e,k⟩
 simp only[opN,y01] at e
 obtain⟨ts,et,eo⟩:=e
 exact⟨F₀,H₀,O,F,ε,ts,r,et,fun vs F1 H1 x1 q=>hR O F1 H1 ts t vs Q x1.dom q eo fun v F' H' x3 q3=>k v F' H' (x1.trans x3) q3⟩
theorem znu {u:Value} {r r':List V->Hp->VK->Prop} (h1:z5j X u r) (h2:z5j X u r'):z5j X u (fun xs H Q=>r xs H Q\/r' xs H Q):=h1.or h2
theorem z68 (hm:X.mg "len"=none) (ha:PAr X (e::es) fs) (hg:Gl X "len":=by rfl) (he:y0a (e::es) X.env=(false,eval e X.env)::y0a es X.env:=by rfl) (hpl:(y2g pos (y0a es X.env)).any (·.1)=false:=by rfl) :
  PEv X (.Call (.Name "len" p) (e::es) [] pos) (opN oLen fs):=z0t (zb3 (zdp.or zdo) hg hm PySem.boot_len ha (he:=he) (hpl:=hpl)) (z8y (by
 intro O F H ts t vs Q d q e k
 unfold oLen at e
 split at e
 ·cases e
  cases q with
  | cons q1 q2 =>
   cases q2
   obtain⟨a,ws,rfl,hs,hr⟩:=q1.tup
   exact .inl ⟨a,ws,rfl,.inr hs,k _ F H (Ext.refl d) (by simp[Rep,hr.length])⟩
 ·cases e
  cases q with
  | cons q1 q2 =>
   cases q2
   obtain⟨a,ws,rfl,hs,hr⟩:=q1.lst
   exact .inl ⟨a,ws,rfl,.inl (.inl hs),k _ F H (Ext.refl d) (by simp[Rep,hr.length])⟩
 ·split at e
  next hz =>
   cases e
   cases q with
   | cons q1 q2 =>
    cases q2
    exact .inr ⟨_,by rw[q1.str],by rw[z6u];exact hz,k _ F H (Ext.refl d) (by simp[Rep])⟩
  next=>cases e
 ·cases e))
theorem zeo (hm:X.mg "tuple"=none) (ha:PAr X (e::es) fs) (hg:Gl X "tuple":=by rfl) (he:y0a (e::es) X.env=(false,eval e X.env)::y0a es X.env:=by rfl) (hpl:(y2g pos (y0a es X.env)).any (·.1)=false:=by rfl) :
  PEv X (.Call (.Name "tuple" p) (e::es) [] pos) (opN z43 fs):=z0t (z6y zbg hg hm (by decide +kernel) ha (he:=he) (hpl:=hpl)) (z8y (by
 intro O F H ts t vs Q d q e k
 unfold z43 at e
 split at e
 ·cases e
  cases q with
  | cons q1 q2 =>
   cases q2
   obtain⟨a,ws,rfl,hs,hr⟩:=q1.tup
   refine⟨a,ws,rfl,.inr ⟨hs,k _ F H (Ext.refl d) ?_⟩⟩
   simp only[Rep]
   exact⟨a,ws,rfl,hs,hr⟩
 ·cases e
  cases q with
  | cons q1 q2 =>
   cases q2
   obtain⟨a,ws,rfl,hs,hr⟩:=q1.lst
   refine⟨a,ws,rfl,.inl ⟨.inl hs,fun l hl=>?_⟩⟩
   have x1:=Ext.laid (o:=.tup ws) d hl
   refine k _ F _ x1 ?_
   simp only[Rep]
   exact⟨l,ws,rfl,SqT.of z0h,hr.ext x1⟩
 ·cases e))
theorem z10 (h:PEr X e f) (he:∀whole,isTrue e X.env whole=(do let v <- whole;standAt e.pos;holding [v] (truthy v)):=by intro _;rfl):PTt X e (tstB f):=zgy (zqz h he) fun σ H Q ⟨F₀,H₀,O,F,ε,b,r,e,k⟩=>by
 simp only[tstB,y01] at e
 obtain⟨t,et,e⟩:=e
 split at e
 ·cases e
  exact⟨F₀,H₀,O,F,ε,_,r,et,fun v F1 H1 x1 rx=>⟨_,rx.bl,k F1 H1 x1⟩⟩
 ·cases e
theorem z1y (h:PTt X e ft):PTt X (.UnaryOp .Not e pos) (notT ft):=zgy (zr0 h) fun σ H Q ⟨F₀,H₀,O,F,ε,b,r,e,k⟩=>by
 simp only[notT,y07] at e
 obtain⟨c,ec,rfl⟩:=e
 exact⟨F₀,H₀,O,F,ε,c,r,ec,fun F1 H1 x1=>k F1 H1 x1⟩
theorem zg0 (h:PTt X e ft):PWt X (.BoolOp .And [e] pos) ft:=zp1 h
theorem z5k (h:PTt X e ft):PWt X (.BoolOp .Or [e] pos) ft:=zqx h
theorem w_and (h:PTt X a ft) (h2:PWt X (.BoolOp .And (b::es) pos) gt):PWt X (.BoolOp .And (a::b::es) pos) (andT ft gt):=zon (zqy h h2) fun σ H Q ⟨F₀,H₀,O,F,ε,b,r,e,k⟩=>by
 simp only[andT,y01] at e
 obtain⟨c,ec,e⟩:=e
 refine⟨F₀,H₀,O,F,ε,c,r,ec,fun F1 H1 x1=>?_⟩
 cases c with
 | true=>exact iteT ⟨F₀,H₀,O,F1,ε,b,r.ext x1,by simpa using e,fun F2 H2 x2=>k F2 H2 (x1.trans x2)⟩
 | false =>
  have:b=false:=by simpa using e.symm
  subst this
  exact iteF (k F1 H1 x1)
theorem w_or (h:PTt X a ft) (h2:PWt X (.BoolOp .Or (b::es) pos) gt):PWt X (.BoolOp .Or (a::b::es) pos) (orT ft gt):=zon (zsu h h2) fun σ H Q ⟨F₀,H₀,O,F,ε,b,r,e,k⟩=>by
 simp only[orT,y01] at e
 obtain⟨c,ec,e⟩:=e
 refine⟨F₀,H₀,O,F,ε,c,r,ec,fun F1 H1 x1=>?_⟩
 cases c with
 | true =>
  have:b=true:=by simpa using e.symm
  subst this
  exact iteT (k F1 H1 x1)
 | false=>exact iteF ⟨F₀,H₀,O,F1,ε,b,r.ext x1,by simpa using e,fun F2 H2 x2=>k F2 H2 (x1.trans x2)⟩
theorem w_t (h:PWt X e ft):PTt X e ft:=h.pt
end
end
section
variable [Tbl]
noncomputable def spT (K:y00) (n:Nat) (d:List T->Option T):Sp:=fun vs H Q _=>vs.length=n/\∃F ts t,Dom F H/\RepL K F H ts vs/\d ts=some t/\∀v F' H',Ext F H F' H'->Rep K F' H' t v->Q v H'
section
variable {X:Cx} {k n:Nat} {fa:Addr} {fd:y0b} {ps:List Str} {d:List T->Option T} {x:Str} {p pos:Pos} {e:Expr} {es:List Expr} {fs:List Fe}
theorem zqv (F:FnOk X.prog X.w X.K X.mg X.base CX0 k fa fd ps (spT X.K n d)) (hr:Room k X.A) (hg:Gl X x) (hm:X.mg x=some (.ref fa)) (hk:y08 X.K (.ref fa)=true) (hb:Binds X.K fd ps [])
  (ha:PAv X (e::es) fs) (hn:fs.length=n:=by rfl) (hdb:(x == ("__debug__":Str))=false:=by decide) (he:y0a (e::es) X.env=(false,eval e X.env)::y0a es X.env:=by rfl) (hpl:(y2g pos (y0a es X.env)).any (·.1)=false:=by rfl) :
  PEv X (.Call (.Name x p) (e::es) [] pos) (opN d fs):=z0t (zpf F hr hg hm hk hb .nil zt2 ha hdb he hpl) fun σ H Q ⟨F₀,H₀,O,F,ε,t,r,e,k⟩=>by
 simp only[opN,y01] at e
 obtain⟨ts,et,ed⟩:=e
 have hl:∀(gs:List Fe) (us:List T),args gs ε=some us->us.length=gs.length:=by
  intro gs
  induction gs with
  | nil=>intro us e;cases e;rfl
  | cons g gs ih =>
   intro us e
   simp only[args,y01,y07] at e
   obtain⟨t,_,vs,ev,rfl⟩:=e
   simp[ih vs ev]
 refine⟨F₀,H₀,O,F,ε,ts,r,et,fun vs F1 H1 x1 q=>⟨?_,F1,ts,t,x1.dom,by simpa using q,ed,fun v F' H' x2 q2=>k v F' H' (x1.trans x2) q2⟩⟩
 rw[List.append_nil,<- q.length,hl fs ts et,hn]
end
section
variable {P:y0q} {w:World} {K:y00} {mg:Str->Option Value} {base:Heap}
theorem zhj {F:Addr->Prop} {H:Hp} {ts:List T} {vs:List V} {N:List Str} (dom:Dom F H) (q:RepL K F H ts vs) (n:Nat) :
  RelE K F ⟨H,0⟩ (fun a=>H a=none) F H ((ts.map fun t=>some (.imm t))++y0g n none) (vs.map some++y0g n none):=by
 have imm:∀(i:Nat) (s:Sl),((ts.map fun t=>some (Sl.imm t))++y0g n none)[i]?=some (some s)->∃t,s=.imm t/\ts[i]?=some t:=by
  intro i s e
  by_cases hi:i<ts.length
  ·rw[y1n (by simpa using hi),y15] at e
   rw[y0v hi] at e ⊢
   simp at e
   exact⟨_,e.symm,rfl⟩
  ·rw[y1m (by simpa using hi),List.getElem?_replicate] at e
   split at e <;> cases e
 refine⟨by simp[q.length],fun i s e=>?_,fun i j s u v w hij e1 e2 o1=>?_,Ext.refl dom,fun _ h=>h,fun _ h=>h⟩
 ·obtain⟨t,rfl,ht⟩:=imm i s e
  obtain⟨v,hv,rv⟩:=q.get ht
  refine⟨v,?_,rv⟩
  rw[y1n (by have:=(y0k.mp hv).1;simpa using this),y15,hv]
  rfl
 ·obtain⟨t,rfl,_⟩:=imm i s e1
  cases o1
theorem zoe {x qual:Str} {st:Stmt} {f:Addr} {fd:y0b} {N ps:List Str} {k:Nat} {b:Fs} (F:Fun K x qual st f fd) (S:FnScope N ps (z02 st))
  (hb:∀(cdv:Value) (A:Around) (outer:List Env) (s:y04) (H:Hp) (E:XK),Room k (A.deeper (envOfC qual (z02 st) s.heap.objs.size f cdv)) ->
   PBt (cxOf CX0 P w K mg base N qual (z02 st) f cdv A outer s H E).nox (z0e st) b) :
  FnOk P w K mg base CX0 (k+1) f fd ps (spT K ps.length (runF b N.length)):=by
 refine F.ok S (fun vs H Q E h=>h.1) fun cdv A outer s H vs Q E hr h=>⟨_,hb cdv A outer s H E hr,?_⟩
 obtain⟨hl,F,ts,t,dom,q,e,kq⟩:=h
 simp only[runF,y01] at e
 obtain⟨o,eo,e⟩:=e
 refine⟨F,⟨H,0⟩,fun a=>H a=none,F,_,o,?_,eo,?_⟩
 ·have:=zhj (N:=N) dom q (N.length - ts.length)
  unfold L2.start
  rw[q.length] at this ⊢
  exact this
 ·cases o with
  | rt t' =>
   cases e
   exact fun v F' H' x q=>kq v F' H' x q
  | nx ε' =>
   cases e
   exact fun σ' F' H' _ r=>kq _ F' H' r.ent (by simp[Rep])
  | bk _=>cases e
  | ct _=>cases e
  | rtm _ _=>cases e
  | rto _=>cases e
theorem zkv {f:Addr} {fd:y0b} {ps:List Str} {k n:Nat}:FnOk P w K mg base CX0 k f fd ps (spT K n fun _=>none):=by
 have no:∀vs H Q E,¬spT K n (fun _=>none) vs H Q E:=fun vs H Q E h=>by
  obtain⟨_,_,_,_,_,_,e,_⟩:=h
  cases e
 exact⟨fun vs H Q E h=>absurd h (no vs H Q E),fun A outer s H args us vs Q E _ _ _ _ h=>absurd h (no vs H Q E)⟩
end
end
section
variable [Tbl]
noncomputable def clos (env:Env):List (Str×y2v)->List (Str×Addr)->List (Str×Addr)
 | [],cs=>cs
 | x::r,cs=>if x.2 == .free then clos env r ((x.1,(env.cells.lookup x.1).getD 0)::cs) else clos env r cs
theorem zbf {scope:Scope} {env:Env} (h:∀x∈scope.names,x.2=.free->∃c,env.cells.lookup x.1=some c):closureFor scope env=pure (clos env scope.names []):=by
 have go:∀(l:List (Str×y2v)) (cs:List (Str×Addr)),(∀x∈l,x.2=.free->∃c,env.cells.lookup x.1=some c) ->
   (forIn l cs (fun x r=>(if (x.2 == NameKind.free)=true then do let a <- cellOf env x.1;pure (ForInStep.yield ((x.1,a)::r)) else pure (ForInStep.yield r)):_->_->Sem (ForInStep (List (Str×Addr)))):Sem (List (Str×Addr)))=pure (clos env l cs):=by
  intro l
  induction l with
  | nil=>intro cs _;rfl
  | cons x r ih =>
   intro cs hl
   rw[List.forIn_cons]
   have hr:=fun y hy=>hl y (y05 _ hy)
   by_cases k:x.2=.free
   ·obtain⟨c,hc⟩:=hl x y0e k
    have e1:(x.2 == NameKind.free)=true:=by simp[k]
    simp only[e1,if_true,cellOf,hc,clos,Option.getD_some]
    exact ih _ hr
   ·have e1:(x.2 == NameKind.free)=false:=by simpa using k
    simp only[e1,y1t,if_false,clos]
    exact ih _ hr
 have:=go scope.names [] h
 simp only[closureFor]
 exact congrArg (fun m=>m >>= fun cs=>pure cs) this
theorem z76 {env:Env}:∀{l:List (Str×y2v)} {cs:List (Str×Addr)},(∀x∈l,x.2=.free->∃c,env.cells.lookup x.1=some c)->(∀x c,cs.lookup x=some c->env.cells.lookup x=some c)->∀x c,(clos env l cs).lookup x=some c->env.cells.lookup x=some c
 | [],cs,_,h,x,c,e=>h x c e
 | y::r,cs,hl,h,x,c,e=>by
  unfold clos at e
  have hr:=fun z hz=>hl z (y05 _ hz)
  split at e
  next k =>
   refine z76 hr (fun x c e=>?_) x c e
   rw[y1g] at e
   split at e
   next hb =>
    obtain⟨c',hc⟩:=hl y y0e (by simpa using k)
    have:x=y.1:=by simpa using hb
    subst this
    rw[hc] at e ⊢
    simpa using e
   next=>exact h x c e
  next=>exact z76 hr h x c e
theorem z8c {env:Env}:∀{l:List (Str×y2v)} {cs:List (Str×Addr)} {x:Str},((∃y∈l,y.2=.free/\y.1=x)\/∃c,cs.lookup x=some c)->∃c,(clos env l cs).lookup x=some c
 | [],cs,x,h=>by
  rcases h with ⟨y,hy,_⟩|h
  ·cases hy
  ·exact h
 | y::r,cs,x,h=>by
  unfold clos
  split
  next k =>
   refine z8c ?_
   rcases h with ⟨z,hz,k',e⟩|⟨c,h⟩
   ·rcases y09.mp hz with rfl|hz
    ·refine .inr ?_
     subst e
     rw[y1g]
     simp
    ·exact .inl ⟨z,hz,k',e⟩
   ·refine .inr ?_
    rw[y1g]
    split
    ·exact⟨_,rfl⟩
    ·exact⟨c,h⟩
  next k =>
   refine z8c ?_
   rcases h with ⟨z,hz,k',e⟩|h
   ·rcases y09.mp hz with rfl|hz
    ·exact absurd (by simpa using k') k
    ·exact .inl ⟨z,hz,k',e⟩
   ·exact .inr h
noncomputable def z2q (X:Cx) (N':List Str) (scope:Scope) (cl:List (Str×Addr)) (C:Addr) (s₀:y04) (H₀:Hp) (fp:List Addr) (pn:List (Addr×Obj)):Cx where
 prog:=X.prog
 w:=X.w
 K:=X.K
 mg:=X.mg
 base:=X.base
 A:=X.A
 N:=N'
 s₀:=s₀
 H₀:=H₀
 env:=compEnvC scope cl C X.env
 outer:=X.stack
 stack:=X.stack
 ex:=fp
 fn:=fun _=>false
 calm:=X.calm
 pn:=pn
 xe:=fun _ _=>False
noncomputable def PTs (X:Cx) (ifs:List Expr) (cc:Ft):Prop:=∀(pins:List (Addr×Obj)) (s:y04) (σ:L2.St) (H:Hp) (Q:Bool->Hp->Prop),L2.Inv X pins σ H s->tT X.K cc σ H Q ->
 y0u (y2w X.prog X.w) X.A (forIn ifs true fun c r=>if r=true then do let ok <- isTrue c X.env (eval c X.env);pure (ForInStep.yield ok) else pure (ForInStep.yield r)) (TP X pins σ Q) X.xe s
theorem z4w {X:Cx}:PTs X [] (cstT true):=fun pins s σ H Q I ⟨F₀,H₀,O,F,ε,b,r,e,k⟩=>by
 cases e
 exact wpAny_tests_nil ⟨H,I,k F H (Ext.refl r.dom)⟩
theorem zg2 {X:Cx} {c:Expr} {cc:Ft} (h:PTt X c cc):PTs X [c] cc:=fun pins s σ H Q I q=>wpAny_tests_one (h pins s σ H Q I q)
section
variable {prog:y0q} {w:World} {A:Around} {R:Result->y04->Prop} {s:y04}
theorem zdk {elt target iter:Expr} {ifs:List Expr} {scope:Scope} {pos:Pos} {it acc:Value} {env:Env} (I:Nat->y04->Prop)
  (turn:∀n s,I n s->y0u (y2w prog w) A (pyNext it) (fun r s₁=>match r with
   | none=>R (.ok .next) s₁
   | some v=>y0u (y2w prog w) A (letOwnedTupleGo target it v) (fun _ s₁'=>y0u (y2w prog w) A (assign target env v) (fun _ s₂ =>
     y0u (y2w prog w) A (forIn ifs true fun c r=>if r=true then do let ok <- isTrue c env (eval c env);pure (ForInStep.yield ok) else pure (ForInStep.yield r)) (fun ok s₃ =>
      if ok=true then y0u (y2w prog w) A (eval elt env) (fun x s₄ =>
       y0u (y2w prog w) A (call (.builtin "list.append") [acc,x]) (fun _ s₅=>∃m,m<n/\I m s₅) (fun _ _=>False) s₄) (fun _ _=>False) s₃
      else ∃m,m<n/\I m s₃) (fun _ _=>False) s₂) (fun _ _=>False) s₁') (fun _ _=>False) s₁) (fun _ _=>False) s)
  (n:Nat) (h:I n s):codeAny (y2w prog w) A (.compLoop (.ListComp elt [⟨target,iter,ifs,0⟩] scope pos) 0 it acc env) R s:=by
 refine codeAny_loop rfl I (fun n s hI=>?_) n h
 show y0u _ A ((compTurn (.ListComp elt [⟨target,iter,ifs,0⟩] scope pos) 0 it acc env).onRaise (fun x=>do noteFrame x env;theTreesLotGoes x)) _ _ s
 refine wpAny_noted ?_
 rw[compTurn_list]
 refine y02 (wpAny_standAt (y02 (y1e (turn n s hI) (fun r s₁ h₁=>?_) fun _ _ h'=>h'.elim)))
 cases r with
 | none=>exact y06 h₁
 | some v =>
  refine y02 (y1e h₁ (fun _ s₁' h₁'=>?_) fun _ _ h'=>h'.elim)
  refine y02 (y1e h₁' (fun _ s₂ h₂=>y02 (y1e h₂ (fun ok s₃ h₃=>?_) fun _ _ h'=>h'.elim)) fun _ _ h'=>h'.elim)
  cases ok with
  | false=>exact y06 ⟨rfl,h₃⟩
  | true =>
   exact y02 (y02 (y1e h₃ (fun x s₄ h₄=>y02 (y1e h₄ (fun _ s₅ h₅=>y06 (y06 ⟨rfl,h₅⟩)) fun _ _ h'=>h'.elim)) fun _ _ h'=>h'.elim))
end
end
section
variable [Tbl]
theorem z6f {env:Env} {k:y2v}:∀{names:List (Str×y2v)} {x:Str},names.lookup x=some k->∃k',(names.map fun (n,k)=>if (k == NameKind.free && env.scope.kind == .function && env.kindOf n == some .cell) then (n,NameKind.cell) else (n,k)).lookup x=some k'/\(k'=k\/(k=.free/\k'=.cell))
  | [],x,h=>by simp at h
  | (n,j)::r,x,h=>by
    have ih:=@z6f env k r x
    show ∃k',List.lookup x ((if (j == NameKind.free && env.scope.kind == .function && env.kindOf n == some .cell)=true then (n,NameKind.cell) else (n,j))::_)=some k'/\_
    cases hx:x == n with
    | true =>
      simp only[y1g,hx] at h
      cases h
      by_cases hc:(k == NameKind.free && env.scope.kind == .function && env.kindOf n == some .cell)=true
      · rw[if_pos hc]
        refine⟨.cell,by simp[y1g,hx],.inr ⟨?_,rfl⟩⟩
        simp only[y1c] at hc
        simpa using hc.1.1
      · rw[if_neg hc]
        exact⟨k,by simp[y1g,hx],.inl rfl⟩
    | false =>
      simp only[y1g,hx] at h
      obtain⟨k',h1,h2⟩:=ih h
      refine⟨k',?_,h2⟩
      by_cases hc:(j == NameKind.free && env.scope.kind == .function && env.kindOf n == some .cell)=true
      · rw[if_pos hc];simp only[y1g,hx];exact h1
      · rw[if_neg hc];simp only[y1g,hx];exact h1
theorem mem_lookup {names:List (Str×y2v)} {x:Str} {k:y2v} (h:names.lookup x=some k):∃y∈names,y.2=k/\y.1=x:=by
 induction names with
 | nil=>simp at h
 | cons y r ih =>
  rw[y1g] at h
  split at h
  next hb =>
   cases h
   exact⟨y,y0e,rfl,by simpa using (beq_iff_eq.mp hb).symm⟩
  next =>
   obtain⟨z,hz,h1,h2⟩:=ih h
   exact⟨z,y05 _ hz,h1,h2⟩
theorem zcf {scope:Scope} {env:Env} (hcell:∀y∈scope.names,y.2≠.cell) {x:Str} (h:(relabel scope env).names.lookup x=some .cell\/(relabel scope env).names.lookup x=some .free):∃y∈scope.names,y.2=.free/\y.1=x:=by
 have go:∀{k:y2v},(relabel scope env).names.lookup x=some k->(k=.cell\/k=.free)->∃y∈scope.names,y.2=.free/\y.1=x:=fun {k} e hk=>by
  obtain⟨y,hy,h1,h2⟩:=mem_lookup e
  obtain⟨⟨n,j⟩,hz,e2⟩:=y0m.mp (show y∈scope.names.map _ from hy)
  by_cases hc:(j == NameKind.free && env.scope.kind == .function && env.kindOf n == some .cell)=true
  ·have e3:(n,NameKind.cell)=y:=by
    have e4:(if (j == NameKind.free && env.scope.kind == .function && env.kindOf n == some .cell)=true then (n,NameKind.cell) else (n,j))=y:=e2
    rwa [if_pos hc] at e4
   subst e3
   simp only[y1c] at hc
   exact⟨(n,j),hz,by simpa using hc.1.1,h2⟩
  ·have e3:(n,j)=y:=by
    have e4:(if (j == NameKind.free && env.scope.kind == .function && env.kindOf n == some .cell)=true then (n,NameKind.cell) else (n,j))=y:=e2
    rwa [if_neg hc] at e4
   subst e3
   rcases hk with rfl|rfl
   ·exact absurd h1 (hcell _ hz)
   ·exact⟨(n,j),hz,h1,h2⟩
 rcases h with h|h
 ·exact go h (.inl rfl)
 ·exact go h (.inr rfl)
theorem RelE.other {K:y00} {F₀ O F:Addr->Prop} {E:En} {H:Hp} {ε:Ev} {σ:L2.St} {a:Addr} {xs ys:List V} (r:RelE K F₀ E O F H ε σ) (hn:¬F a) (ho:¬O a) (h0:E.h a=none) (ha:H a=some (.lst xs)) :
  Kp K F H F (upd H a (.lst ys))/\RelE K F₀ E O F (upd H a (.lst ys)) ε σ:=by
 have hm:HoM (.lst xs):=.inl ⟨_,rfl⟩
 have kp:Kp K F H F (upd H a (.lst ys)):=zkb hn ha hm
 have keep:∀(u:Sl) (w:V),z3h K E O F H u w->z3h K E O F (upd H a (.lst ys)) u w/\fpS (upd H a (.lst ys)) u w=fpS H u w:=by
  intro u w ru
  refine ru.keep kp (fun b hb=>z0f ?_) (fun _ _ f=>f) fun _ _ o=>o
  rintro rfl
  cases ou:u.isOwn with
  | true=>exact ho ((ru.held hb).2.1 ou)
  | false=>exact (ru.held hb).2.2 ou h0
 refine⟨kp,⟨r.len,fun j u e=>?_,fun i j s u v w hij e1 e2 o1 o2 h1 h2=>?_,zgn r.ent h0 hn ha hm,r.o0,fun b e=>r.fr b ?_⟩⟩
 ·obtain⟨v,h1,h2⟩:=r.val j u e
  exact⟨v,h1,(keep u v h2).1⟩
 ·obtain⟨v',h1',r1⟩:=r.val i s e1
  obtain⟨w',h2',r2⟩:=r.val j u e2
  rw[h1] at h1'
  rw[h2] at h2'
  cases h1'
  cases h2'
  rw[(keep s v r1).2,(keep u w r2).2]
  exact r.ne i j s u v w hij e1 e2 o1 o2 h1 h2
 ·by_cases nb:b=a
  ·subst nb
   rw[z0h] at e
   cases e
  ·rwa [z0f nb] at e
def znn (n:Nat) (caps:List Nat) (σ:L2.St):L2.St:=y0g n none++caps.map fun i=>(σ[i]?).join
theorem join_some {α:Type} {o:Option (Option α)} {x:α} (h:o.join=some x):o=some (some x):=by
 cases o with
 | none=>cases h
 | some o=>exact congrArg some h
theorem z7l {α:Type} {n:Nat} {caps:List Nat} {l:List (Option α)} {i:Nat} {x:α} (h:(y0g n none++caps.map fun i=>(l[i]?).join)[i]?=some (some x)):∃j,n<=i/\caps[i - n]?=some j/\l[j]?=some (some x):=by
 by_cases hi:i<n
 ·rw[y1n (by simpa using hi),List.getElem?_replicate] at h
  rw[if_pos hi] at h
  cases h
 ·rw[y1m (by simpa using hi),List.length_replicate,y15] at h
  cases e:caps[i - n]? with
  | none =>
   rw[e] at h
   cases h
  | some j =>
   rw[e] at h
   exact⟨j,by omega,rfl,join_some (y29 h)⟩
theorem zpt {α:Type} {n:Nat} {caps:List Nat} {l:List (Option α)} {i j:Nat} {x:α} (hi:n<=i) (hc:caps[i - n]?=some j) (h:l[j]?=some (some x)):(y0g n none++caps.map fun i=>(l[i]?).join)[i]?=some (some x):=by
 rw[y1m (by simpa using hi),List.length_replicate,y15,hc]
 simp[h]
theorem RelE.cap {K:y00} {F₀ O F:Addr->Prop} {E:En} {H:Hp} {ε:Ev} {σ:L2.St} {D:Addr} (r:RelE K F₀ E O F H ε σ) (n:Nat) {caps:List Nat} (nd:caps.Nodup) (hD:H D=none) :
  RelE K F₀ E (fun a=>O a/\a≠D) F (upd H D (.lst [])) (z22 n caps ε) (znn n caps σ):=by
 have x:=Ext.laid (o:=.lst []) r.dom hD
 have keep:∀(u:Sl) (w:V),z3h K E O F H u w->z3h K E (fun a=>O a/\a≠D) F (upd H D (.lst [])) u w/\fpS (upd H D (.lst [])) u w=fpS H u w:=by
  intro u w ru
  have nb:∀b∈fpS H u w,b≠D:=fun b hb z=>by
   obtain⟨o,e,_⟩:=ru.at hb
   rw[z,hD] at e
   cases e
  exact ru.keep x.kp (fun b hb=>z0f (nb b hb)) (fun _ _ f=>f) fun b hb o=>⟨o,nb b hb⟩
 refine⟨by simp[z22,znn],fun i s e=>?_,fun i j s u v w hij e1 e2 o1 o2 h1 h2=>?_,r.ent.trans x,fun a h=>r.o0 a h.1,fun a h=>?_⟩
 ·obtain⟨j,hn,hc,e'⟩:=z7l e
  obtain⟨v,h1,h2⟩:=r.val j s e'
  exact⟨v,zpt hn hc h1,(keep s v h2).1⟩
 ·obtain⟨i',hi,ci,e1'⟩:=z7l e1
  obtain⟨j',hj,cj,e2'⟩:=z7l e2
  obtain⟨i2,_,ci2,h1'⟩:=z7l (l:=σ) h1
  obtain⟨j2,_,cj2,h2'⟩:=z7l (l:=σ) h2
  rw[ci] at ci2
  rw[cj] at cj2
  cases ci2
  cases cj2
  obtain⟨v',q1,r1⟩:=r.val i' s e1'
  obtain⟨w',q2,r2⟩:=r.val j' u e2'
  rw[h1'] at q1
  rw[h2'] at q2
  cases q1
  cases q2
  rw[(keep s v r1).2,(keep u w r2).2]
  refine r.ne i' j' s u v w (fun z=>?_) e1' e2' o1 o2 h1' h2'
  subst z
  obtain⟨l1,m1⟩:=y0k.mp ci
  obtain⟨l2,m2⟩:=y0k.mp cj
  have ne:i - n≠j - n:=by omega
  rcases Nat.lt_or_gt_of_ne ne with q|q
  ·exact (List.pairwise_iff_getElem.mp nd _ _ l1 l2 q) (m1.trans m2.symm)
  ·exact (List.pairwise_iff_getElem.mp nd _ _ l2 l1 q) (m2.trans m1.symm)
 ·have nd:a≠D:=by
   rintro rfl
   rw[z0h] at h
   cases h
  rw[z0f nd] at h
  exact⟨r.fr a h,nd⟩
end
section
variable [Tbl]
structure CompOk (X:Cx) (scope:Scope) (own:List Str) (caps:List (Nat×Str)):Prop where
 kind:scope.kind=.function
 names:∀y∈scope.names,y.2=.local->scope.names.lookup y.1=some .local
 cell:∀y∈scope.names,y.2≠.cell
 free:∀y∈scope.names,y.2=.free->X.env.kindOf y.1=some .cell\/X.env.kindOf y.1=some .free
 cap:∀p∈caps,X.N[p.1]?=some p.2/\scope.names.lookup p.2=some .free
 nd:(caps.map (·.1)).Nodup
 calm:X.calm=true
section
variable {X:Cx} {tg iter elt:Expr} {ifs:List Expr} {scope:Scope} {it:Fi} {gg:Fg} {cc:Ft} {ee:Fe} {pos:Pos} {own:List Str} {caps:List (Nat×Str)}
theorem z9g {pins:List (Addr×Obj)} {σ:L2.St} {H2:Hp} {s2:y04} {fp:List Addr} (S:CompOk X scope own caps) (I2:L2.Inv X pins σ H2 s2) (f2:∀b∈fp,FpOk X pins H2 b) (hfp:∀b∈fp,b<s2.heap.objs.size) (N':List Str) :
  (z2q X N' scope (clos X.env scope.names []) (s2.heap.push { cls:=.type "list",data:=.seq ([]:List Value).toArray }).objs.size { s2 with heap:=s2.heap.push { cls:=.type "list",data:=.seq ([]:List Value).toArray } } (upd H2 s2.heap.objs.size (.lst [])) fp (X.pn++pins)).Ok:=by
 have hcl:∀x∈scope.names,x.2=.free->∃c,X.env.cells.lookup x.1=some c:=fun x hx hk=>I2.ok.has x.1 (S.free x hx hk)
 have cf:∀x c,(clos X.env scope.names []).lookup x=some c->X.env.cells.lookup x=some c:=z76 hcl (fun x c e=>by simp at e)
 have I3:=I2.lnew (its:=[]) (ys:=[]) (t':=s2.toks) .nil (y21 _)
 have sz:(s2.heap.push { cls:=.type "list",data:=.seq ([]:List Value).toArray }).objs.size=s2.heap.objs.size+1:=y18 ..
 refine⟨I2.ok.mod,S.kind,I2.ok.glob,I2.ok.blt,y0o _,fun x y c e1 e2=>I2.ok.inj x y c (cf x c e1) (cf y c e2),fun x hx=>?_,fun x c h=>(by cases h),I2.ok.hd,I2.ok.frames,.inl rfl,fun b hb=>⟨?_,fun x c e=>(f2 b hb).2.2.2.2.1 x c (cf x c e)⟩,fun b o e=>?_,?_,fun b o e hb=>?_,fun b hb hf=>?_,I3.stack,I3.stkFree⟩
 ·exact z8c (.inl (zcf S.cell hx))
 ·show b≠(s2.heap.push { cls:=.type "list",data:=.seq ([]:List Value).toArray }).objs.size
  have h:=hfp b hb
  rw[sz]
  exact y0y (Nat.lt_succ_of_lt h)
 ·obtain⟨h1,h2⟩:=I3.bs b o e
  exact⟨h1,h2⟩
 ·have h1:=y1p I2.ok.bsz I2.sz
  show X.base.objs.size<=(s2.heap.push { cls:=.type "list",data:=.seq ([]:List Value).toArray }).objs.size
  omega
 ·rcases (f2 b hb).2.2.2.1 with q|q
  ·exact I2.ok.noex b o e q
  ·exact absurd (y0x (y0c (I2.ok.bs b o e).1) q) (Nat.lt_irrefl _)
 ·rcases y09.mp (I2.stkSub b hf) with q|q
  ·exact (f2 b hb).2.1 q
  ·exact (f2 b hb).2.2.1 q
theorem znk {pins:List (Addr×Obj)} {σ:L2.St} {H2:Hp} {s2:y04} {fp:List Addr} (S:CompOk X scope own caps) (I2:L2.Inv X pins σ H2 s2) (f2:∀b∈fp,FpOk X pins H2 b) (hfp:∀b∈fp,b<s2.heap.objs.size) {h₁:Heap} {m:Str->Option Value} {tk:Nat}
  (hns:h₁.Ns (s2.heap.push { cls:=.type "list",data:=.seq ([]:List Value).toArray }).objs.size m) (keep:∀b u,(s2.heap.push { cls:=.type "list",data:=.seq ([]:List Value).toArray }).get? b=some u->h₁.get? b=some u) :
  L2.Inv (z2q X (own++caps.map (·.2)) scope (clos X.env scope.names []) (s2.heap.push { cls:=.type "list",data:=.seq ([]:List Value).toArray }).objs.size { s2 with heap:=s2.heap.push { cls:=.type "list",data:=.seq ([]:List Value).toArray } } (upd H2 s2.heap.objs.size (.lst [])) fp (X.pn++pins)) []
   (znn own.length (caps.map (·.1)) σ) (upd H2 s2.heap.objs.size (.lst [])) { s2 with heap:=h₁,toks:=tk }:=by
 have hcl:∀x∈scope.names,x.2=.free->∃c,X.env.cells.lookup x.1=some c:=fun x hx hk=>I2.ok.has x.1 (S.free x hx hk)
 have cf:∀x c,(clos X.env scope.names []).lookup x=some c->X.env.cells.lookup x=some c:=z76 hcl (fun x c e=>by simp at e)
 have I3:=I2.lnew (its:=[]) (ys:=[]) (t':=s2.toks) .nil (y21 _)
 refine⟨z9g S I2 f2 hfp _,rfl,I2.bare,Un.kept keep,⟨m,hns,fun i x v h1 h2 hv=>?_⟩,fun x c e=>?_,?_,fun x c e=>I3.freeC x c (cf x c e),fun p hp=>?_,I3.hok.kept keep,by simp[znn,z2q]⟩
 ·obtain⟨j,hn,hc,hj⟩:=z7l (l:=σ) h2
  have hx:(caps.map (·.2))[i - own.length]?=some x:=by
   have:(own++caps.map (·.2))[i]?=some x:=h1
   rwa [y1m hn] at this
  rw[y15] at hc hx
  cases ep:caps[i - own.length]? with
  | none=>rw[ep] at hc;cases hc
  | some p =>
   rw[ep] at hc hx
   cases hc
   cases hx
   obtain⟨hN,hf⟩:=S.cap p (List.mem_of_getElem? ep)
   obtain⟨y,hy,k1,k2⟩:=mem_lookup hf
   have hk:=S.free y hy k1
   rw[k2] at hk
   obtain⟨m3,hn3,hl3⟩:=I3.loc
   have vis:Vis X.env.scope p.2:=by
    rcases hk with hk|hk
    ·exact .inr (.inl hk)
    ·exact .inr (.inr hk)
   obtain⟨u,ru,lu⟩:=hl3 p.1 p.2 v hN hj vis
   refine⟨u,ru,.inr ⟨?_,?_⟩⟩
   ·obtain⟨k',e1,e2⟩:=z6f (env:=X.env) hf
    rcases e2 with rfl|⟨_,rfl⟩
    ·exact .inr e1
    ·exact .inl e1
   ·rcases lu with ⟨q,_⟩|⟨_,c,hc,hcell⟩
    ·rcases hk with hk|hk
     ·rw[hk] at q;cases q
     ·rw[hk] at q;cases q
    ·obtain⟨c',hc'⟩:=z8c (env:=X.env) (l:=scope.names) (cs:=[]) (x:=p.2) (.inl ⟨y,hy,k1,k2⟩)
     have:=cf _ _ hc'
     rw[hc] at this
     cases this
     obtain⟨oc,ho,hd⟩:=hcell
     exact⟨c,hc',oc,keep _ _ ho,hd⟩
 ·obtain⟨v,oc,ho,hd⟩:=I3.cell x c (cf x c e)
  exact⟨v,oc,keep _ _ ho,hd⟩
 ·exact I3.hok.fresh (y0o _)
 ·have hp':p∈X.pn++pins:=by simpa [z2q] using hp
  obtain⟨h1,h2,h3,h4,h5⟩:=I3.pin p hp'
  refine⟨keep _ _ h1,h2,y0y (y0c h1),fun z=>?_,h5⟩
  rcases y09.mp (I2.stkSub p.1 z) with q|q
  ·exact h3 q
  ·exact h4 q
theorem zi8 {pins:List (Addr×Obj)} {σ σ':L2.St} {H2 H':Hp} {s2 s':y04} {fp:List Addr} {N':List Str} (I2:L2.Inv X pins σ H2 s2) (f2:∀b∈fp,FpOk X pins H2 b)
  (J:L2.Inv (z2q X N' scope (clos X.env scope.names []) (s2.heap.push { cls:=.type "list",data:=.seq ([]:List Value).toArray }).objs.size { s2 with heap:=s2.heap.push { cls:=.type "list",data:=.seq ([]:List Value).toArray } } (upd H2 s2.heap.objs.size (.lst [])) fp (X.pn++pins)) [] σ' H' s')
  {h':Heap} (sb:Heap.SameBut (s2.heap.push { cls:=.type "list",data:=.seq ([]:List Value).toArray }).objs.size s'.heap h'):L2.Inv X pins σ H' { s' with heap:=h' }:=by
 have I3:=I2.lnew (its:=[]) (ys:=[]) (t':=s2.toks) .nil (y21 _)
 have u:=J.base
 have free:H' (s2.heap.push { cls:=.type "list",data:=.seq ([]:List Value).toArray }).objs.size=none:=J.free
 have old:∀b o,(s2.heap.push { cls:=.type "list",data:=.seq ([]:List Value).toArray }).get? b=some o->b≠(s2.heap.push { cls:=.type "list",data:=.seq ([]:List Value).toArray }).objs.size:=fun b o e=>y0y (y0c e)
 have eqh:∀b,b≠(s2.heap.push { cls:=.type "list",data:=.seq ([]:List Value).toArray }).objs.size->∀o,s'.heap.get? b=some o->h'.get? b=some o:=fun b hb o e=>sb.extBut b o hb e
 have u2:Un (frs X.stack) fp (upd H2 s2.heap.objs.size (.lst [])) H' (s2.heap.push { cls:=.type "list",data:=.seq ([]:List Value).toArray }) h':=by
  refine⟨fun b o e n hf hx=>eqh b (old b o e) _ (u.keep b o e n hf hx),fun b o e n hf hx=>?_,u.free,fun b o e hx=>?_,u.tups,u.frzs,u.tbls⟩
  ·obtain⟨sl,q⟩:=u.slot b o e n hf hx
   exact⟨sl,eqh b (old b o e) _ q⟩
  ·obtain⟨o',q⟩:=u.there b o e hx
   exact⟨o',eqh b (old b o e) _ q⟩
 have hok:HOk X.prog X.w H' h':=fun b o e=>by
  refine (J.hok b o e).stay (fun c v hc q=>eqh c (fun z=>?_) v q) (fun _ q=>q) fun _ _ q=>q
  rcases hc with rfl|hc
  ·rw[z,free] at e
   cases e
  ·rw[z,free] at hc
   cases hc
 have hos:=J.os
 have hbare:=J.bare
 obtain⟨hh,g,d,t,os⟩:=s'
 obtain rfl:os=s2.os:=hos
 have fin:=I3.call (h':=h') (g':=g) (d':=d) (t':=t) (ch:=fp) u2 hok hbare fun b hb=>⟨(f2 b hb).2.2.2.1,(f2 b hb).2.1,(f2 b hb).2.2.2.2.1,(f2 b hb).2.2.2.2.2⟩
 exact fin
theorem zl3 {X':Cx} {R:Result->y04->Prop} {J:It} {fp:List Addr} {it' D:Addr} {tn:Nat->Heap->Prop} {F₀ O F1:Addr->Prop} {H₀:En} {H2:Hp} {ts ys:List T} (hx:X'.xe=fun _ _=>False) (hc:X'.calm=true) (hg:PGt X' tg gg) (ht:PTs X' ifs cc) (he:PEv X' elt ee)
  (T:Turn X'.prog X'.w X'.K tg J fp it' tn) (stat:∀H':Hp,(∀b∈fp,H' b=none)->∀b∈fp,FpOk X' [] H' b) (ok:ItOk X'.K J F1 H2 ts) (hbig:ts.length<=big) (hD2:H2 D=none) (hO:¬O D) (hH0:H₀.h D=none)
  (fin:∀σ' H' F' s1 vs,L2.Inv X' [] σ' H' s1->Ext F1 H2 F' H'->H' D=some (.lst vs)->¬F' D->RepL X'.K F' H' ys vs->R (.ok .next) s1)
  {s:y04} {σ:L2.St} {H:Hp} {F:Addr->Prop} {ε:Ev} (I:L2.Inv X' [] σ H s) (st:tn 0 s.heap) (fr:∀b∈fp,H b=none) (x:Ext F1 H2 F H) (r:RelE X'.K F₀ H₀ O F H ε σ) (hD:H D=some (.lst [])) (nD:¬F D) (ey:z34 gg cc ee ts ε=some ys) :
  codeAny (y2w X'.prog X'.w) X'.A (.compLoop (.ListComp elt [⟨tg,iter,ifs,0⟩] scope pos) 0 (.ref it') (.ref D) X'.env) R s:=by
 refine zdk (fun n s'=>∃i σ' H' F' ε' dn vs,n=ts.length - i/\i<=ts.length/\L2.Inv X' [] σ' H' s'/\tn i s'.heap/\(∀b∈fp,H' b=none)/\Ext F1 H2 F' H'/\RelE X'.K F₀ H₀ O F' H' ε' σ'/\H' D=some (.lst vs)/\¬F' D/\RepL X'.K F' H' dn vs/\dn.length<=i /\
  ∃rest,z34 gg cc ee (ts.drop i) ε'=some rest/\ys=dn++rest) ?_ ts.length ⟨0,σ,H,F,ε,[],[],rfl,y21 _,I,st,fr,x,r,hD,nD,RepL.nil,y0o _,ys,by simpa using ey,by simp⟩
 rintro n s3 ⟨i,σ3,H3,F3,ε3,dn,vs,rfl,hi,I3,st3,fr3,x3,r3,hD3,nD3,q3,hl3,rest,er,es⟩
 have nf:∀{F4:Addr->Prop} {H4:Hp} {F5:Addr->Prop} {H5:Hp} {o:HO},Ext F4 H4 F5 H5->H4 D=some o->¬F4 D->¬F5 D:=fun y e n z=>by
  rcases y.new D z with q|q
  ·exact n q
  ·rw[e] at q
   cases q
 by_cases hlt:i<ts.length
 ·have hd:ts.drop i=ts[i]::ts.drop (i+1):=List.drop_eq_getElem_cons hlt
  have hg':ts[i]?=some ts[i]:=y0v hlt
  rw[hd] at er
  simp only[z34,y01] at er
  obtain⟨ε4,eg,b,eb,er⟩:=er
  refine y1e (T.item X' rfl rfl rfl hc i [] s3 σ3 H3 (fun _ _=>False) I3 (stat H3 fr3) st3 (ok.go i F3 H3 _ x3.kp r3.dom hg')) (fun rv s4 ⟨u,hr,h4⟩=>?_) fun _ _ z=>z
  subst hr
  refine y1e h4 (fun _ s5 ⟨x',H5,I5,r5,y5,st5,fr5⟩=>?_) fun _ _ z=>z
  obtain⟨F5,x5,rx⟩:=ok.yld i F3 H3 _ x' H5 x3.kp r3.dom hg' y5
  have I5':=I5.pinned (stat H5 fr5) (T.obj _ _ st5)
  have hg2:=hg _ s5 σ3 H5 x' u (fun σ6 H6=>H6=H5/\RelE X'.K F₀ H₀ O F5 H5 ε4 σ6) I5' r5 ⟨F₀,H₀,O,F5,ε3,_,ε4,r3.ext x5,rx,eg,fun σ6 r6=>⟨rfl,r6⟩⟩
  rw[hx] at hg2
  refine y1e hg2 (fun _ s6 ⟨σ6,H6,I6,e6,r6⟩=>?_) fun _ _ z=>z
  subst e6
  have again:∀{σ7:L2.St} {H7:Hp} {s7:y04},L2.Inv X' ([]++zci fp s5.heap) σ7 H7 s7->tn (i+1) s7.heap/\(∀b∈fp,H7 b=none)/\L2.Inv X' [] σ7 H7 s7:=fun {σ7 H7 s7} I7=>by
   refine⟨T.keep _ _ _ st5 fun b hb o e=>(I7.pin (b,o) (y1b _ (y1b _ (z63 hb e)))).1,fun b hb=>?_,I7.unpinned⟩
   obtain⟨o,e,d⟩:=T.obj _ _ st5 b hb
   exact (I7.pin (b,o) (y1b _ (y1b _ (z63 hb e)))).2.1
  have ht2:=ht _ s6 σ6 H6 (fun b' H7=>b'=b/\∃F7,Ext F5 H6 F7 H7) I6 ⟨F₀,H₀,O,F5,ε4,b,r6,eb,fun F7 H7 x7=>⟨rfl,F7,x7⟩⟩
  rw[hx] at ht2
  refine y1e ht2 (fun ok' s7 ⟨H7,I7,e7,F7,x7⟩=>?_) fun _ _ z=>z
  subst e7
  have x37:=x5.trans x7
  have r7:=r6.ext x7
  cases ok' with
  | false =>
   simp only[y1t,if_false] at er ⊢
   obtain⟨a1,a2,a3⟩:=again I7
   exact⟨_,by omega,i+1,σ6,H7,F7,ε4,dn,vs,rfl,hlt,a3,a1,a2,x3.trans x37,r7,x37.same.get hD3,nf x37 hD3 nD3,q3.ext x37,by omega,rest,er,es⟩
  | true =>
   simp only[if_true,y01,y07] at er ⊢
   obtain⟨y,ey',rest',er',rfl⟩:=er
   have he2:=he _ s7 σ6 H7 (fun v H8=>∃F8,Ext F7 H7 F8 H8/\Rep X'.K F8 H8 y v) I7 ⟨F₀,H₀,O,F7,ε4,y,r7,ey',fun v F8 H8 x8 q8=>⟨F8,x8,q8⟩⟩
   rw[hx] at he2
   refine y1e he2 (fun u8 s8 ⟨v8,H8,I8,r8,F8,x8,q8⟩=>?_) fun _ _ z=>z
   have x38:=x37.trans x8
   have hD8:=x38.same.get hD3
   have nD8:=nf x38 hD3 nD3
   obtain⟨kp9,r9⟩:=(r7.ext x8).other (ys:=vs++[v8]) nD8 hO hH0 hD8
   have ha:=zd7 (X:=X') _ s8 σ6 H8 (.ref D) [v8] (.ref D) [u8] (fun _ H9=>H9=upd H8 D (.lst (vs++[v8]))) I8 rfl (.cons r8 .nil) ⟨D,vs,v8,rfl,rfl,hD8,by rw[z6u,<- q3.length];omega,rfl⟩
   rw[hx] at ha
   refine y1e ha (fun u9 s9 ⟨v9,H9,I9,r9',e9⟩=>?_) fun _ _ z=>z
   subst e9
   obtain⟨a1,a2,a3⟩:=again I9
   have x9:Ext F1 H2 F8 (upd H8 D (.lst (vs++[v8]))):=by
    have y:=x3.trans x38
    refine⟨fun b o e=>?_,y.sub,y.new,⟨fun b f=>?_,y.dom.tgs.upd fun u e=>.inl ⟨_,y29 (e.symm.trans hD8)⟩⟩⟩
    ·have nb:b≠D:=by
      rintro rfl
      rw[hD2] at e
      cases e
     rw[z0f nb]
     exact y.same b o e
    ·have nb:b≠D:=by
      rintro rfl
      exact nD8 f
     rw[z0f nb]
     exact y.dom b f
   refine⟨_,by omega,i+1,σ6,_,F8,ε4,dn++[y],vs++[v8],rfl,hlt,a3,a1,a2,x9,r9,z0h,nD8,((q3.ext x38).append (RepL.cons q8 RepL.nil)).kp kp9,by simp;omega,rest',er',by rw[es];simp⟩
 ·have hd:ts.drop i=[]:=List.drop_eq_nil_of_le (by omega)
  rw[hd] at er
  cases er
  refine y1e (T.done X' rfl rfl rfl hc i [] s3 σ3 H3 (fun _ _=>False) I3 (stat H3 fr3) st3 (ok.stop i F3 H3 x3.kp (by omega))) (fun rv s4 ⟨hr,I4⟩=>?_) fun _ _ z=>z
  subst hr
  exact fin σ3 H3 F3 s4 vs I4 x3 hD3 nD3 (by rw[es,List.append_nil];exact q3)
structure After (X:Cx) (pins:List (Addr×Obj)) (σ:L2.St) (F:Addr->Prop) (H:Hp) (ys:List T) (D C:Addr) (H':Hp) (F':Addr->Prop) (s1:y04) (vs:List V):Prop where
 inv:∀h',Heap.SameBut C s1.heap h'->L2.Inv X pins σ H' { s1 with heap:=h' }
 ns:∃m,s1.heap.Ns C m
 free:H' C=none
 above:X.s₀.heap.objs.size<=C
 cells:∀x c,X.env.cells.lookup x=some c->c≠C
 pin:∀p∈X.pn++pins,p.1≠C
 loc:C≠X.env.locals
 new:H D=none
 ext:Ext F H F' H'
 nf:¬F' D
 lst:H' D=some (.lst vs)
 rep:RepL X.K F' H' ys vs
theorem zgt {use:Option (Value->Sem Unit)} {Q:Value->y04->Prop} {p2:Pos} (S:CompOk X scope own caps) (hi:PIt X tg iter it)
  (hg:∀cl C s₀ H₀ fp pn,PGt (z2q X (own++caps.map (·.2)) scope cl C s₀ H₀ fp pn) tg gg)
  (ht:∀cl C s₀ H₀ fp pn,PTs (z2q X (own++caps.map (·.2)) scope cl C s₀ H₀ fp pn) ifs cc)
  (he:∀cl C s₀ H₀ fp pn,PEv (z2q X (own++caps.map (·.2)) scope cl C s₀ H₀ fp pn) elt ee)
  (hs:∀x,y2x iter X.env x=pure x) {pins:List (Addr×Obj)} {s:y04} {σ:L2.St} {H:Hp} {F₀ O F:Addr->Prop} {H₀:En} {ε:Ev} {ys:List T} (I:L2.Inv X pins σ H s) (r:RelE X.K F₀ H₀ O F H ε σ)
  (e:comp own.length (caps.map (·.1)) it gg cc ee ε=some (.list ys)) (fin:∀D C H' F' s1 vs,After X pins σ F H ys D C H' F' s1 vs->compPost (y2w X.prog X.w) X.A X.xe use Q (.ref D) C (.ok .next) s1) :
  y0u (y2w X.prog X.w) X.A (comprehension (.ListComp elt [⟨tg,iter,ifs,0⟩] scope pos) scope X.env p2 (newList []) false (eval iter X.env) use) Q X.xe s:=by
 simp only[comp,y01] at e
 obtain⟨ts,et,e⟩:=e
 split at e
 case isFalse=>cases e
 next hbig =>
 simp only[y07] at e
 obtain⟨ys',ey,e⟩:=e
 cases e
 have hcl:∀x∈scope.names,x.2=.free->∃c,X.env.cells.lookup x.1=some c:=fun x hx hk=>I.ok.has x.1 (S.free x hx hk)
 refine wpAny_comprehension_free rfl hs (zbf hcl) S.kind S.names (thn (hi pins s σ H (fun J H1=>∃F1,Ext F H F1 H1/\ItOk X.K J F1 H1 ts) I ⟨F₀,H₀,O,F,ε,ts,r,et,fun J F1 H1 x1 ok=>⟨F1,x1,ok⟩⟩) fun v s1 h1=>thn h1 fun itv s2 h2=>?_)
 obtain⟨it',fp,tn,J,H2,rfl,I2,T,st2,f2,F1,x1,ok⟩:=h2
 have hfp:∀b∈fp,b<s2.heap.objs.size:=fun b hb=>by
  obtain⟨o,ho,_⟩:=T.obj 0 _ st2 b hb
  exact y0c ho
 have hD2:H2 s2.heap.objs.size=none:=I2.fresh
 have hD:H s2.heap.objs.size=none:=x1.same.none hD2
 have sz:(s2.heap.push { cls:=.type "list",data:=.seq ([]:List Value).toArray }).objs.size=s2.heap.objs.size+1:=y18 ..
 refine wpAny_newList ?_ (y21 _)
 refine wpAny_newFunctionEnv S.cell (by intro y hy;simp at hy) (fun h₁ hns₁ hsb₁=>?_) S.kind
 have keep:∀b u,(s2.heap.push { cls:=.type "list",data:=.seq ([]:List Value).toArray }).get? b=some u->h₁.get? b=some u:=fun b u e=>hsb₁.extBut b u (y0y (y0c e)) (y03 _ e)
 have I4:=znk (tk:=s2.toks+0) S I2 f2 hfp hns₁ keep
 have r4:=(r.ext x1).cap (D:=s2.heap.objs.size) own.length S.nd hD2
 refine codeAny_compStart_list ?loop (T.self _ 0 _ _ _ (T.keep 0 _ _ st2 fun b hb o e=>keep b o (y03 _ e)) ?loop)
 refine zl3 (X':=z2q X (own++caps.map (·.2)) scope (clos X.env scope.names []) (s2.heap.push { cls:=.type "list",data:=.seq ([]:List Value).toArray }).objs.size { s2 with heap:=s2.heap.push { cls:=.type "list",data:=.seq ([]:List Value).toArray } } (upd H2 s2.heap.objs.size (.lst [])) fp (X.pn++pins))
  rfl S.calm (hg _ _ _ _ _ _) (ht _ _ _ _ _ _) (he _ _ _ _ _ _) T (fun H' hn b hb=>?_) ok hbig hD2 (fun z=>z.2 rfl) (r.o0 _ (r.fr _ hD)) (fun σ' H' F' s1 vs J1 x' hD' nD' q'=>?_) I4 (T.keep 0 _ _ st2 fun b hb o e=>keep b o (y03 _ e)) (fun b hb=>?_) (Ext.laid x1.dom hD2) r4 z0h ?_ ey
 ·have okX:=z9g S I2 f2 hfp (own++caps.map (·.2))
  refine⟨hn b hb,(okX.exf b hb).1,okX.exfs b hb,.inl hb,fun x c e=>(okX.exf b hb).2 x c e,fun p hp=>?_⟩
  have hp':p∈X.pn++pins:=by simpa [z2q] using hp
  exact (f2 b hb).2.2.2.2.2 p hp'
 ·obtain⟨m,hn,_⟩:=id J1.loc
  refine fin s2.heap.objs.size _ H' F' s1 vs ⟨fun h' sb=>zi8 I2 f2 J1 sb,⟨m,hn⟩,J1.free,?_,fun x c e z=>?_,fun p hp z=>?_,?_,hD,x1.trans x',nD',hD',q'⟩
  ·rw[sz]
   exact Nat.le_succ_of_le I2.sz
  ·obtain⟨v,q⟩:=I2.cell x c e
   have:=q.lt
   rw[z,sz] at this
   exact absurd this (Nat.not_lt.mpr (y2b _))
  ·have:=y0c (I2.pin p hp).1
   rw[z,sz] at this
   exact absurd this (Nat.not_lt.mpr (y2b _))
  ·have:=I2.lt
   rw[sz]
   exact y16 (Nat.lt_succ_of_lt this)
 ·have:=(f2 b hb).1
  rw[z0f (y0y (hfp b hb))]
  exact this
 ·intro z
  obtain⟨o,e⟩:=x1.dom _ z
  rw[hD2] at e
  cases e
theorem zqu (S:CompOk X scope own caps) (hi:PIt X tg iter it)
  (hg:∀cl C s₀ H₀ fp pn,PGt (z2q X (own++caps.map (·.2)) scope cl C s₀ H₀ fp pn) tg gg)
  (ht:∀cl C s₀ H₀ fp pn,PTs (z2q X (own++caps.map (·.2)) scope cl C s₀ H₀ fp pn) ifs cc)
  (he:∀cl C s₀ H₀ fp pn,PEv (z2q X (own++caps.map (·.2)) scope cl C s₀ H₀ fp pn) elt ee)
  (hs:∀x,y2x iter X.env x=pure x:=by intro _;rfl):PEn X (.ListComp elt [⟨tg,iter,ifs,0⟩] scope pos) (comp own.length (caps.map (·.1)) it gg cc ee):=by
 intro pins s σ H Q I ⟨F₀,H₀,O,F,ε,ys,r,e,k⟩
 rw[eval_ListComp]
 refine zgt S hi hg ht he hs I r e fun D C H' F' s1 vs a=>?_
 obtain⟨m,hn⟩:=a.ns
 exact⟨m,hn,fun h' sb=>⟨.ref D,H',a.inv h' sb,rfl,k D vs F' H' a.ext a.new a.nf a.lst a.rep⟩⟩
theorem zdi {ε:Ev} {n:Nat} {cs:List Nat} {t:T} (e:comp n cs it gg cc ee ε=some t):∃ts,t=.list ts:=by
 simp only[comp,y01] at e
 obtain⟨ts,_,e⟩:=e
 split at e
 ·simp only[y07] at e
  obtain⟨ys,_,e⟩:=e
  exact⟨ys,e.symm⟩
 ·cases e
theorem z23 (S:CompOk X scope own caps) (hi:PIt X tg iter it)
  (hg:∀cl C s₀ H₀ fp pn,PGt (z2q X (own++caps.map (·.2)) scope cl C s₀ H₀ fp pn) tg gg)
  (ht:∀cl C s₀ H₀ fp pn,PTs (z2q X (own++caps.map (·.2)) scope cl C s₀ H₀ fp pn) ifs cc)
  (he:∀cl C s₀ H₀ fp pn,PEv (z2q X (own++caps.map (·.2)) scope cl C s₀ H₀ fp pn) elt ee)
  (hs:∀x,y2x iter X.env x=pure x:=by intro _;rfl):PEv X (.ListComp elt [⟨tg,iter,ifs,0⟩] scope pos) (comp own.length (caps.map (·.1)) it gg cc ee) :=
 n2v (zqu S hi hg ht he hs) fun ε t e=>zdi e
theorem zqk (i:Nat) {x:Str} {px spos:Pos} (hN:X.N.Nodup) (S:CompOk X scope own caps) (hit:PIt X tg iter it)
  (hg:∀cl C s₀ H₀ fp pn,PGt (z2q X (own++caps.map (·.2)) scope cl C s₀ H₀ fp pn) tg gg)
  (ht:∀cl C s₀ H₀ fp pn,PTs (z2q X (own++caps.map (·.2)) scope cl C s₀ H₀ fp pn) ifs cc)
  (he:∀cl C s₀ H₀ fp pn,PEv (z2q X (own++caps.map (·.2)) scope cl C s₀ H₀ fp pn) elt ee)
  (hi:X.N[i]?=some x:=by rfl) (hx:Loc X.env.scope x:=by first|exact Or.inl rfl|exact Or.inr rfl)
  (hsw:swapsWith (.ListComp elt [⟨tg,iter,ifs,0⟩] scope pos) (some (.Name x px)) spos.line X.env=pure true:=by rfl)
  (hf:X.fn x=true\/X.env.scope.names.lookup x=some .local:=by first|exact .inl rfl|exact .inr rfl)
  (hs:∀x,y2x iter X.env x=pure x:=by intro _;rfl) :
  PSt X (.Assign [.Name x px] (.ListComp elt [⟨tg,iter,ifs,0⟩] scope pos) spos) (asg i (comp own.length (caps.map (·.1)) it gg cc ee)):=by
 intro pins s σ H D I ⟨F₀,H₀,O,F,ε,o,r,e,k⟩
 simp only[asg,y07] at e
 obtain⟨t,et,rfl⟩:=e
 obtain⟨ys,rfl⟩:=zdi et
 rw[exec_Assign_Name_used _ _ _ _ hsw]
 refine y02 (wpAny_standAt (y02 ?_))
 show y0u _ X.A (do let _ <- comprehension (.ListComp elt [⟨tg,iter,ifs,0⟩] scope pos) scope X.env _ (newList []) false (eval iter X.env) (some (assign (.Name x px) X.env))) _ _ s
 refine y02 (thn (zgt (use:=some (assign (.Name x px) X.env)) (Q:=fun _ s'=>SP X pins D .next s') S hit hg ht he hs I r et fun D' C H' F' s1 vs a=>?_) fun _ s' hq=>y06 (y06 hq))
 have IX:=a.inv s1.heap (Heap.SameBut.refl ..)
 have IX':L2.Inv X pins σ H' s1:=IX
 show y0u _ X.A (assign (.Name x px) X.env (.ref D')) _ _ _
 refine wpAny_assign_Name (zby (v:=.ref D') IX' hN hi hx rfl (fun s2 I2 ⟨b,sb,hb⟩=>?_) hf)
 obtain⟨m,hn⟩:=a.ns
 have nb:C≠b:=by
  rcases hb with rfl|hb
  ·exact a.loc
  ·exact (a.cells x b hb).symm
 refine⟨m,hn.sameBut sb nb,fun h' sb'=>?_⟩
 have I3:L2.Inv X pins (σ.set i (some (.ref D'))) H' { s2 with heap:=h' }:=I2.turned (t':=s2.toks) (it:=C) (fun b o hb e=>sb'.extBut b o hb e) a.free a.loc (.inr a.above) a.cells a.pin
 refine⟨_,H',I3,?_⟩
 have y:Ext F H (fun b=>F' b\/b=D') H':=⟨a.ext.same,fun b z=>.inl (a.ext.sub b z),fun b z=>by
  rcases z with z|rfl
  ·exact a.ext.new b z
  ·exact .inr a.new,⟨fun b z=>by
  rcases z with z|rfl
  ·exact a.ext.dom b z
  ·exact⟨_,a.lst⟩,a.ext.dom.tgs⟩⟩
 refine k _ _ H' y.kp ((r.ext y).set i ?_)
 simp only[Rep]
 exact⟨D',vs,rfl,.inr rfl,.inl a.lst,a.rep.keep (fun _ _ z=>z) fun b _ z w=>⟨.inl z,w⟩⟩
end
end
section
variable [Tbl]
open AutoSeq1 (wpAny_loadPart')
theorem z6a (l:Addr) (items:Array Value) (n:Nat) (dct:Option Addr) (sl:Array (Option Value)) :
  Meets (Builtin.«enumerate.__new__» ⟨[.type "enumerate",.ref l],[]⟩) (fun _ R s=>s.heap.get? l=some { cls:=.type "tuple",dict:=dct,data:=.seq items n,slots:=sl } /\
   R (.ok (.ret (.ref (s.heap.push { cls:=.type "tuple_iterator",data:=.fields #[.ref l,.int 0 0] }).objs.size)))
    { s with heap:=(s.heap.push { cls:=.type "tuple_iterator",data:=.fields #[.ref l,.int 0 0] }).push { cls:=.type "enumerate",data:=.fields #[.none,.bool false,.ref s.heap.objs.size,y2y 0,.none,.none] } }) :=
 .of_wp fun prog w A R s h=>by
  obtain⟨hp,g,d,tk,os⟩:=s;obtain⟨hl,h⟩:=h
  have hsub:=sub_enumerate
  have hL:Heap.IsTuple (Shared.heap ⟨hp,g,d,tk,os⟩) l items:=⟨_,hl,rfl,n,rfl⟩
  wp_walk using wpAny_loadPart' hl
  refine wpAny_stack_any fun st=>y06 ?_
  split
  ·rename_i c _ _ _ _ _
   cases (c == Value.type "enumerate")
   ·wp_walk using wpAny_loadPart' hl,y2k hL
    exact⟨_,rfl,h⟩
   ·wp_walk using wpAny_loadPart' hl,y2k hL
    exact⟨_,rfl,h⟩
  ·wp_walk using wpAny_loadPart' hl,y2k hL
   exact⟨_,rfl,h⟩
section
variable {prog:y0q} {w:World} {A:Around} {E:Value->y04->Prop} {s:y04}
theorem z6b {l:Addr} {items:Array Value} {Q:Value->y04->Prop} (hL:s.heap.IsTuple l items)
  (h:∀h',IsEnum h' (s.heap.objs.size+1) s.heap.objs.size 0 .none->h'.IsTupleIter s.heap.objs.size l 0->h'.objs.size=s.heap.objs.size+2 ->
   (∀b o,s.heap.get? b=some o->h'.get? b=some o)->Q (.ref (s.heap.objs.size+1)) { s with heap:=h' }) :
  y0u (y2w prog w) A (call (.type "enumerate") [.ref l]) Q E s:=by
 obtain⟨⟨c,dct,dt,sl⟩,hl,hc,n,hd⟩:=hL
 replace hc:c=.type "tuple":=hc
 replace hd:dt=.seq items n:=hd
 subst hc hd
 refine callType_new F.called_enumerate (by decide) (F.typeCall_enumerate_1 _) (F.newCall_enumerate_1 _) (fun obj=>F.args_object_init_2 obj _) F.entry_enumerate_new
  (z6a l items n dct sl) ⟨hl,?_⟩
 have hz:(s.heap.push { cls:=.type "tuple_iterator",data:=.fields #[.ref l,.int 0 0] }).objs.size=s.heap.objs.size+1:=y18 ..
 show _/\_
 rw[hz]
 have he:IsEnum ((s.heap.push { cls:=.type "tuple_iterator",data:=.fields #[.ref l,.int 0 0] }).push
   { cls:=.type "enumerate",data:=.fields #[.none,.bool false,.ref s.heap.objs.size,y2y 0,.none,.none] }) (s.heap.objs.size+1) s.heap.objs.size 0 .none:=by
  have:=y0l (s.heap.push { cls:=.type "tuple_iterator",data:=.fields #[.ref l,.int 0 0] })
   (o:={ cls:=.type "enumerate",data:=.fields #[.none,.bool false,.ref s.heap.objs.size,y2y 0,.none,.none] }) rfl
  rw[hz] at this;exact this
 refine⟨⟨_,he,rfl⟩,h _ he ⟨_,y03 _ (y0l _ rfl),rfl,rfl⟩ (by rw[y18,hz]) fun b o x=>y03 _ (y03 _ x)⟩
theorem z7f {it l:Addr} {i:Nat} {items} {x:Value} {Q:Value->y04->Prop} (hit:s.heap.IsTupleIter it l i)
  (hl:s.heap.IsTuple l items) (hx:items[i]?=some x)
  (hQ:∀h',h'.IsTupleIter it l (i+1)->Heap.SameBut it s.heap h'->Q x { s with heap:=h' }) :
  y0u (y2w prog w) A (y0t (.ref it)) Q E s:=by
 obtain⟨o,ho,hc,hd⟩:=id hit
 obtain⟨ol,hol,_,nl,hdl⟩:=hl
 unfold y0t
 refine y02 (y2i (name:=Str.ofString "__next__") hit.typeIs y24
  (y2p y24 hit.typeIs F.entry_tuple_iterator_next ?_ (F.args_tuple_iterator_next_1 _)))
 show y0u _ _ (field (.ref it) 0 >>= _) _ _ s
 refine y02 (y2h ho hd (x:=.ref l) rfl ?_)
 show y0u _ _ (if (Value.ref l == Value.none)=true then _ else _) _ _ s
 rw[if_neg (show ¬((Value.ref l == Value.none)=true) from Bool.false_ne_true)]
 show y0u _ _ (field (.ref it) 1 >>= _) _ _ s
 refine y02 (y2h ho hd (x:=.int i 0) rfl ?_)
 show y0u _ _ (seqItems? (.ref l) >>= _) _ _ s
 refine y02 (y2j hol hdl ?_)
 simp only[Int.toNat_natCast,hx]
 refine y02 (wpAny_setField ho hd (by simp) (y06 ⟨x,rfl,y06 (hQ _ ?_ (Heap.SameBut.update ..))⟩))
 exact⟨_,Heap.get?_update_self _ ho (Obj.isFreed_of_fields (Obj.data_mapFields hd _)),(Obj.cls_mapFields ..).trans hc,by
  rw[Obj.data_mapFields hd];simp[y2y]⟩
theorem z5d {it l:Addr} {i:Nat} {items} {Q:Value->y04->Prop} (hh:A.handled=none)
  (hit:s.heap.IsTupleIter it l i) (hl:s.heap.IsTuple l items) (hx:items[i]?=none)
  (hE:∀h' e,Heap.ExtBut it s.heap h'->(∃o,h'.get? e=some o/\o.cls=.type "StopIteration")->E (.ref e) { s with heap:=h' }) :
  y0u (y2w prog w) A (y0t (.ref it)) Q E s:=by
 obtain⟨o,ho,hc,hd⟩:=id hit
 obtain⟨ol,hol,_,nl,hdl⟩:=hl
 unfold y0t
 refine y02 (y2i (name:=Str.ofString "__next__") hit.typeIs y24
  (y2p y24 hit.typeIs F.entry_tuple_iterator_next ?_ (F.args_tuple_iterator_next_1 _)))
 show y0u _ _ (field (.ref it) 0 >>= _) _ _ s
 refine y02 (y2h ho hd (x:=.ref l) rfl ?_)
 show y0u _ _ (if (Value.ref l == Value.none)=true then _ else _) _ _ s
 rw[if_neg (show ¬((Value.ref l == Value.none)=true) from Bool.false_ne_true)]
 show y0u _ _ (field (.ref it) 1 >>= _) _ _ s
 refine y02 (y2h ho hd (x:=.int i 0) rfl ?_)
 show y0u _ _ (seqItems? (.ref l) >>= _) _ _ s
 refine y02 (y2j hol hdl ?_)
 simp only[Int.toNat_natCast,hx]
 refine y02 (wpAny_rule (y02 (wpAny_setField ho hd (by simp) ?_)))
 show y0u _ _ (newExc (.type "StopIteration") [] >>= _) _ _ _
 refine y02 ?_
 simp only[newExc,newTuple]
 refine y02 (y2n ?_ (by size_fits))
 refine y02 (m:=firstArgMember _ _) (wpAny_of_eq (a:=Value.none) (by first|rfl|(simp only[firstArgMember];rfl)) ?_)
 refine y2n ?_ (by size_fits)
 simp only[raiseNew]
 refine y02 (wpAny_handled ?_)
 first|rw[show A.in1.handled=none from hh]|rw[hh]
 refine y02 (y06 (wpAny_throw ?_))
 exact hE _ _ (((Heap.SameBut.update ..).extBut.push _).push _) ⟨_,y0l _ rfl,rfl⟩
end
theorem z9c {prog:y0q} {w:World} {A:Around} (hh:A.handled=none) (it l:Addr) (hne:l≠it) (items:Array Value) :
  Draws prog w A it [it,l] items.size (fun i v=>items[i]?=some v) (fun i h=>h.IsTupleIter it l i/\h.IsTuple l items) where
 live:=fun _ _ st=>let ⟨o,ho,_⟩:=st.1;⟨o,ho⟩
 frame:=fun _ _ _ st hk=>⟨st.1.at fun o e=>hk it (by simp) o e,let ⟨o,ho,r⟩:=st.2;⟨o,hk l (by simp) o ho,r⟩⟩
 item:=fun i s Q E hi st hQ=>by
  refine z7f st.1 st.2 (x:=items[i]) (by simp[hi]) fun h' hit' hs'=>?_
  exact hQ _ h' s.toks (by simp[hi]) ⟨hit',st.2.extBut hs'.extBut hne⟩ hs'
 done:=fun s Q E st hE=>z5d hh st.1 st.2 (by simp) hE
noncomputable def Ite (K:y00) (a:Addr):It :=
 ⟨fun i H=>∃xs x,SqT K H a xs/\xs[i]?=some x,fun i H x H'=>∃p v,H p=none/\x=.ref p/\H'=upd H p (.tup [.int i,v])/\∀xs,SqT K H a xs->xs[i]?=some v,fun i H=>∃xs,SqT K H a xs/\xs.length<=i⟩
theorem ziy {P:y0q} {w:World} {K:y00} {es:List Expr} {k:Nat} {pos:Pos} (a it e:Addr) (hne:e≠it) (hai:a≠it) (hae:a≠e):Turn P w K (.Tuple es k pos) (Ite K a) [e,it] e (fun i h=>(∃old,IsEnum h e it i old)/\h.IsTupleIter it a i) where
 mem:=by simp
 obj:=fun i h st b hb=>by
  obtain⟨⟨old,he⟩,o,ho,hc,hd⟩:=st
  rcases y09.mp hb with rfl|hb
  ·exact⟨_,he,fun v z=>by
    have z':Data.fields _=Data.cell v:=z
    cases z'⟩
  ·have e1:b=it:=by simpa using hb
   subst e1
   exact⟨o,ho,fun v z=>by rw[hd] at z;cases z⟩
 keep:=fun i h h' st kk=>by
  obtain⟨⟨old,he⟩,st2⟩:=st
  exact⟨⟨old,kk e (by simp) _ he⟩,st2.at fun o q=>kk it (by simp) o q⟩
 item:=by
  intro X hP hw hK hc i pins s σ H E I hf st hg
  subst hP hw hK
  obtain⟨xs,x,hq,hx⟩:=hg
  obtain⟨its,rv,p,hz⟩:=I.tuple hq
  obtain⟨u,hu,ru⟩:=rv.get hx
  obtain⟨⟨old,he⟩,hit⟩:=st
  obtain⟨f0,f1,f2,f3,f4,f5⟩:=hf e (by simp)
  obtain⟨g0,g1,g2,g3,g4,g5⟩:=hf it (by simp)
  have hi:i<its.toArray.size:=by
   rw[y0h]
   exact (y0k.mp hu).1
  have hnf:e∉[it,a]:=by
   intro z
   rcases y09.mp z with z|z
   ·exact hne z
   ·have z':e=a:=by simpa using z
    exact hae z'.symm
  refine wpAny_pyNext_enum_itemD (z9c (A:=X.A.in1) (I.ok.hd hc) it a hai its.toArray) he ⟨hit,p⟩ hi hne hnf fun x' h' tk hP' ho hs' hT hsz hk=>?_
  have ex:x'=u:=by
   have:=hP'
   rw[<- Array.getElem?_toList] at this
   rw[show (its.toArray).toList=its from rfl,hu] at this
   exact (y29 this).symm
  subst ex
  refine⟨_,rfl,wpAny_letOwnedTupleGo_enum ho fun h2 he2 hs2=>?_⟩
  have helt:e<s.heap.objs.size:=y0c he
  have hilt:it<s.heap.objs.size:=by obtain⟨o,ho',_⟩:=hit;exact y0c ho'
  have k2:∀b o,b≠e->b≠it->s.heap.get? b=some o->h2.get? b=some o:=fun b o h1 h3 q=>hs2.extBut b o h1 (hk b o h1 h3 q)
  have fr:H s.heap.objs.size=none:=I.hok.fresh (y0o _)
  have hT2:h2.get? s.heap.objs.size=some { cls:=.type "tuple",data:=.seq #[.int i tk,x'] }:=hs2.extBut _ _ (y16 helt) hT
  have nH:∀b o,H b=some o->b≠e/\b≠it:=fun b o q=>⟨fun z=>(by rw[z,f0] at q;cases q),fun z=>(by rw[z,g0] at q;cases q)⟩
  have hok2:HOk X.prog X.w (upd H s.heap.objs.size (.tup [.int i,x])) h2:=by
   intro b o q
   by_cases hb:b=s.heap.objs.size
   ·subst hb
    rw[z0h] at q
    cases q
    exact⟨by show 2<=y0j;decide,[.int i tk,x'],.cons ⟨tk,rfl⟩ (.cons ru .nil),⟨_,hT2,rfl,_,rfl⟩⟩
   ·rw[z0f hb] at q
    refine (I.hok b o q).stay (fun c v hc' q'=>k2 c v ?_ ?_ q') (fun c q'=>?_) fun c ys q'=>?_
    ·rcases hc' with rfl|hc'
     ·exact (nH _ _ q).1
     ·exact (nH _ _ hc').1
    ·rcases hc' with rfl|hc'
     ·exact (nH _ _ q).2
     ·exact (nH _ _ hc').2
    ·rw[z0f (z0o q' fr)]
     exact q'
    ·rw[z0f (z0o q' fr)]
     exact q'
  have I2:L2.Inv X pins σ (upd H s.heap.objs.size (.tup [.int i,x])) { s with heap:=h2,toks:=tk+1 }:=by
   refine I.step (g':=s.gens) (d':=s.drawn) (ch:=[e,it]) (fun b hb=>?_) (fun b o _ _ hc' q _=>k2 b o (fun z=>hc' (by simp[z])) (fun z=>hc' (by simp[z])) q) (fun b o _ _ hc' q _=>⟨o.slots,k2 b o (fun z=>hc' (by simp[z])) (fun z=>hc' (by simp[z])) q⟩) (fun b o _ q n=>?_)
    (fun b o hc' q=>⟨o,k2 b o (fun z=>hc' (by simp[z])) (fun z=>hc' (by simp[z])) q⟩) (fun b ys q=>by rw[z0f (z0o q fr)];exact q) (fun b o u q=>by rw[z0f (z0o q fr)];exact q) (fun b ps q=>⟨#[],by rw[z0f (z0o q fr),q];simp⟩) (fun m hm=>?_) hok2 I.bare
   ·rcases y09.mp hb with rfl|hb
    ·exact⟨f3,f1,f4,f5⟩
    ·have:b=it:=by simpa using hb
     subst this
     exact⟨g3,g1,g4,g5⟩
   ·rw[z0f (y0y (y0c q))]
    exact n
   ·obtain⟨o,es',ep,ho',r⟩:=hm
    exact⟨o,es',ep,k2 _ o (Ne.symm f1) (Ne.symm g1) ho',r⟩
  refine⟨.ref s.heap.objs.size,_,I2,rfl,⟨s.heap.objs.size,x,fr,rfl,rfl,fun ys hy=>by rw[I.tuple_inj hy hq];exact hx⟩,⟨⟨_,by simpa using he2⟩,hs'.1.at fun o q=>(hs2.2 it hne.symm).trans q⟩,fun b hb=>?_⟩
  rcases y09.mp hb with rfl|hb
  ·rw[z0f (y0y helt)]
   exact f0
  ·have:b=it:=by simpa using hb
   subst this
   rw[z0f (y0y hilt)]
   exact g0
 done:=by
  intro X hP hw hK hc i pins s σ H E I hf st hg
  subst hP hw hK
  obtain⟨xs,hq,hx⟩:=hg
  obtain⟨its,rv,p,hz⟩:=I.tuple hq
  obtain⟨⟨old,he⟩,hit⟩:=st
  obtain⟨g0,g1,g2,g3,g4,g5⟩:=hf it (by simp)
  have hT:s.TypeIs (.ref e) "enumerate":=⟨_,he,rfl⟩
  have hl:=rv.length
  unfold pyNext
  refine y02 (wpAny_attempt (y2i (name:=Str.ofString "__next__") hT F.slot_enumerate_next
   (y2p F.slot_enumerate_next hT F.entry_enumerate_next ?_ (F.args_enumerate_next_1 _))))
  show y0u _ _ (field (.ref e) 2 >>= _) _ _ _
  refine y02 (y2h he rfl (x:=.ref it) rfl ?_)
  refine y02 (z5d (I.ok.hd hc) hit (show s.heap.IsTuple a its.toArray from p) (by simp;omega) fun h' x he' hx'=>?_)
  obtain⟨o,ho,hc'⟩:=hx'
  refine y02 (wpAny_isInstance (T:="StopIteration") (b:=true) ⟨o,ho,hc'⟩ isSubtype_stop ?_)
  exact y06 ⟨rfl,I.turned (t':=s.toks) (fun b o hb q=>he' b o hb q) g0 g1 g3 g4 g5⟩
 self:=fun _ _ _ _ _ st h=>by
  obtain⟨⟨old,he⟩,_⟩:=st
  exact wpAny_pyIter_enum he h
def iEn (K:y00) (ta:TA):TI:=fun σ H R=>ta σ H fun vs H1=>∃a xs,vs=[.ref a]/\SqT K H1 a xs/\R (Ite K a) H1
section
variable {X:Cx} {es:List Expr} {k:Nat} {p pos p2:Pos} {a:Expr} {f:Fe}
theorem zp9 {ta:TA} (hg:Gl X "enumerate") (hm:X.mg "enumerate"=none) (ha:PA X [a] ta) (hs:y0a [a] X.env=[(false,eval a X.env)]:=by rfl):PI X (.Tuple es k p2) (.Call (.Name "enumerate" p) [a] [] pos) (iEn X.K ta):=by
 intro pins s σ H R I h
 refine Call_ (z93 I hg hm PyProof.Rows.boot_enumerate (y1s (thn (ha pos pins s σ H _ I h) fun us s1 ⟨vs,H1,I1,r1,q1⟩=>?_) hs rfl))
 obtain⟨a,xs,rfl,hq,q⟩:=q1
 cases r1 with
 | cons r rr =>
  cases rr
  cases r
  obtain⟨its,rv,pl,hz⟩:=I1.tuple hq
  have hal:a<s1.heap.objs.size:=by obtain⟨o,ho,_⟩:=pl;exact y0c ho
  refine z6b (show s1.heap.IsTuple a its.toArray from pl) fun h' he hit hsz hk=>wpAny_pyIter_enum he ?_
  refine⟨s1.heap.objs.size+1,[s1.heap.objs.size+1,s1.heap.objs.size],_,_,H1,rfl,I1.kept (t':=s1.toks) hk,ziy a s1.heap.objs.size (s1.heap.objs.size+1) (Nat.succ_ne_self _) (y0y hal) (y0y (Nat.lt_succ_of_lt hal)),⟨⟨_,he⟩,hit⟩,fun b hb=>?_,q⟩
  have hb':s1.heap.objs.size<=b:=by
   rcases y09.mp hb with rfl|hb
   ·exact y2b _
   ·have:b=s1.heap.objs.size:=by simpa using hb
    rw[this]
    exact y0o _
  exact I1.fpOk hb' (I1.hok.fresh hb')
theorem zkk {K:y00} {a:Addr} {F1:Addr->Prop} {H1:Hp} {ts:List T} {vs:List V} (hr:SqT K H1 a vs) (q:RepL K F1 H1 ts vs):ItOk K (Ite K a) F1 H1 (enum ts) where
 go:=fun i F H t kp d e=>by
  have hi:=(y0k.mp e).1
  simp only[enum,y14,List.length_zipIdx] at hi
  obtain⟨v,h1,_⟩:=q.get (y0v hi)
  exact⟨vs,v,kp.tup _ _ hr,h1⟩
 yld:=fun i F H t x H' kp d e y=>by
  obtain⟨p,v,hp,rfl,rfl,y⟩:=y
  have hi:=(y0k.mp e).1
  simp only[enum,y14,List.length_zipIdx] at hi
  obtain⟨v',h1,h2⟩:=(q.kp kp).get (y0v hi)
  have h3:=y vs (kp.tup _ _ hr)
  rw[h1] at h3
  cases h3
  have x1:=Ext.laid (o:=.tup [.int i,v]) d hp
  refine⟨F,x1,?_⟩
  have et:t=.tuple [.int i,ts[i]]:=by
   simp only[enum,y15,List.getElem?_zipIdx,y0v hi] at e
   simpa using e.symm
  subst et
  simp only[Rep]
  exact⟨p,_,rfl,SqT.of z0h,RepL.cons (by simp[Rep]) (RepL.cons (h2.ext x1) RepL.nil)⟩
 stop:=fun i F H kp hl=>⟨vs,kp.tup _ _ hr,by
  simp only[enum,y14,List.length_zipIdx] at hl
  rw[<- q.length]
  exact hl⟩
theorem zod (hm:X.mg "enumerate"=none) (ha:PEv X a f) (hg:Gl X "enumerate":=by rfl) (hs:y0a [a] X.env=[(false,eval a X.env)]:=by rfl) (hs2:y0a [a] X.env=(false,eval a X.env)::y0a [] X.env:=by rfl) :
  PIt X (.Tuple es k p2) (.Call (.Name "enumerate" p) [a] [] pos) (z5e (z81 f)):=zgz (zp9 hg hm (z5s ha z8w hs2) hs) fun σ H R ⟨F₀,H₀,O,F,ε,ts,r,e,k⟩=>by
 simp only[z5e,z81,y07,y01] at e
 obtain⟨us,⟨t,et,e⟩,rfl⟩:=e
 split at e
 ·cases e
  refine⟨F₀,H₀,O,F,ε,_,r,et,fun v F' H' x q=>?_⟩
  simp only[Rep] at q
  obtain⟨a,vs,rfl,hs,hr⟩:=q
  exact⟨a,vs,rfl,hs,k _ F' H' x (zkk hs hr)⟩
 ·cases e
end
end
section
variable [Tbl]
structure Cl (P:y0q) (w:World) (K:y00) (mg:Str->Option Value) (base:Heap) (x:Str) (k n:Nat) (d:List T->Option T):Prop where
 ex:∃fa fd ps,FnOk P w K mg base CX0 k fa fd ps (spT K n d)/\mg x=some (.ref fa)/\y08 K (.ref fa)=true/\Binds K fd ps []
section
variable {P:y0q} {w:World} {K:y00} {mg:Str->Option Value} {base:Heap} {x:Str} {k n:Nat} {d:List T->Option T}
theorem Cl.mono {j:Nat} (c:Cl P w K mg base x j n d) (h:j<=k):Cl P w K mg base x k n d:=by
 obtain⟨fa,fd,ps,F,r⟩:=c.ex
 exact⟨fa,fd,ps,F.mono h,r⟩
theorem Cl.mk' {fa:Addr} {fd:y0b} {ps:List Str} (F:FnOk P w K mg base CX0 k fa fd ps (spT K n d)) (m:mg x=some (.ref fa)) (kp:y08 K (.ref fa)=true) (b:Binds K fd ps []):Cl P w K mg base x k n d:=⟨fa,fd,ps,F,m,kp,b⟩
end
section
variable {X:Cx} {k n:Nat} {d:List T->Option T} {x:Str} {p pos:Pos} {e:Expr} {es:List Expr} {fs:List Fe}
theorem z05 (C:Cl X.prog X.w X.K X.mg X.base x k n d) (hr:Room k X.A) (ha:PAv X (e::es) fs) (hg:Gl X x:=by rfl) (hn:fs.length=n:=by rfl) (hdb:(x == ("__debug__":Str))=false:=by decide)
  (he:y0a (e::es) X.env=(false,eval e X.env)::y0a es X.env:=by rfl) (hpl:(y2g pos (y0a es X.env)).any (·.1)=false:=by rfl):PEv X (.Call (.Name x p) (e::es) [] pos) (opN d fs):=by
 obtain⟨fa,fd,ps,F,m,kp,b⟩:=C.ex
 exact zqv F hr hg m kp b ha hn hdb he hpl
noncomputable def zs9 (scope sc:Scope) (N:List Str) (caps:List (Nat×Str)):Bool :=
 decide (scope.kind=.function) && scope.names.all (fun y=>(decide (y.2≠.local) || decide (scope.names.lookup y.1=some .local)) && decide (y.2≠.cell) && (decide (y.2≠.free) || decide (sc.names.lookup y.1=some .cell) || decide (sc.names.lookup y.1=some .free)))
  && caps.all (fun q=>decide (N[q.1]?=some q.2) && decide (scope.names.lookup q.2=some .free)) && decide ((caps.map (·.1)).Nodup)
theorem z3a {scope sc:Scope} {own:List Str} {caps:List (Nat×Str)} (N:List Str) (hsc:X.env.scope=sc) (hN:X.N=N) (hc:X.calm=true) (h:zs9 scope sc N caps=true):CompOk X scope own caps:=by
 simp only[zs9,y1c,List.all_eq_true,decide_eq_true_eq,Bool.or_eq_true] at h
 obtain⟨⟨⟨h1,h2⟩,h3⟩,h4⟩:=h
 refine⟨h1,fun y hy hl=>?_,fun y hy=>(h2 y hy).1.2,fun y hy hf=>?_,fun q hq=>by rw[hN];exact h3 q hq,h4,hc⟩
 ·rcases (h2 y hy).1.1 with z|z
  ·exact absurd hl z
  ·exact z
 ·have hk:X.env.kindOf y.1=sc.names.lookup y.1:=by rw[<- hsc];rfl
  rw[hk]
  rcases (h2 y hy).2 with (z|z)|z
  ·exact absurd hf z
  ·exact .inl z
  ·exact .inr z
end
theorem z24 {P:y0q} {w:World} {K:y00} {mg:Str->Option Value} {base:Heap} {x:Str} {st:Stmt} {f:Addr} {fd:y0b} {N ps:List Str} {k:Nat} {b:Fs} (F:Fun K x x st f fd) (S:FnScope N ps (z02 st)) (bd:Binds K fd ps []) (m:mg x=some (.ref f))
  (hb:∀(cdv:Value) (A:Around) (outer:List Env) (s:y04) (H:Hp) (E:XK),Room k (A.deeper (envOfC x (z02 st) s.heap.objs.size f cdv)) ->
   PBt (cxOf CX0 P w K mg base N x (z02 st) f cdv A outer s H E).nox (z0e st) b):Cl P w K mg base x (k+1) ps.length (runF b N.length):=.mk' (zoe F S hb) m F.kp bd
end
end D
end
section
namespace L2
open PySem PySem.Spec PyProof.Rows
section
variable {κ:Type} [DecidableEq κ]
end
section
variable {P:y0q} {w:World} {H:Hp} {h:Heap} {a:Addr}
end
section
variable {X:Cx} {pins:List (Addr×Obj)} {σ:St} {H:Hp} {s:y04} {a:Addr} {y v:V} {u r:Value} {o:Option V} {A:Around} {E:Value->y04->Prop}
end
section
variable {X:Cx} {pins:List (Addr×Obj)} {σ:St} {H:Hp} {s:y04} {a:Addr} {kvs:List (Key×V)} {k:Key} {u:Value} {A:Around} {E:Value->y04->Prop}
end
section
variable {X:Cx} {o i e value:Expr} {pos pos' tpos:Pos} {td ty tv:TE}
end
section
variable {X:Cx} {pos:Pos}
end
section
variable {X:Cx} {pins:List (Addr×Obj)} {σ:St} {H:Hp} {s:y04} {a:Addr} {y d:V} {u r:Value} {o:Option V} {A:Around} {E:Value->y04->Prop}
end
section
variable {X:Cx} {o e f:Expr} {apos cpos:Pos} {td ty tx:TE}
end
section
variable {X:Cx} {pins:List (Addr×Obj)} {σ:St} {H:Hp} {s:y04} {a:Addr} {kvs:List (Key×V)} {A:Around} {E:Value->y04->Prop}
end
section
variable {X:Cx} {pins:List (Addr×Obj)} {σ:St} {H:Hp} {s:y04} {a:Addr} {y:V} {u:Value} {A:Around} {E:Value->y04->Prop}
end
end L2
end
section
namespace D
open PySem PySem.Spec PyProof.Rows L2
variable [Tbl]
section
variable {K:y00} {F:Addr->Prop} {H:Hp}
end
section
variable {X:Cx} {a b e:Expr} {f g:Fe} {pos:Pos}
variable {x:Str} {px:Pos}
theorem zsg {R:TE} {h:Fe} (k:∀σ H Q,tV X.K h σ H Q->R σ H Q):∀σ H Q,tT X.K (tstB h) σ H Q->L2.tB R σ H Q:=fun σ H Q ⟨F₀,H₀,O,F,ε,b,r,e,kk⟩=>by
 simp only[tstB,y01] at e
 obtain⟨t,et,e⟩:=e
 split at e
 ·cases e
  refine k σ H _ ⟨F₀,H₀,O,F,ε,_,r,et,fun v F' H' x q=>?_⟩
  simp only[Rep] at q
  exact⟨_,q,kk F' H' x⟩
 ·cases e
end
end D
end
section
namespace D
open PySem
variable [Tbl]
def Rs (xs:Array Nat):Prop:=xs.toList.Pairwise (·<·)
def Cuts (xs:Array Nat) (j p:Nat):Prop:=p<=xs.size/\(∀i,i<p->∀y,xs.toList[i]?=some y->y<j)/\∀i,p<=i->∀y,xs.toList[i]?=some y->j<=y
theorem zel {xs:Array Nat} (h:Rs xs) {i k a b:Nat} (hik:i<=k) (ha:xs.toList[i]?=some a) (hb:xs.toList[k]?=some b):a<=b:=by
 obtain⟨hi,rfl⟩:=y0k.mp ha
 obtain⟨hk,rfl⟩:=y0k.mp hb
 rcases Nat.lt_or_eq_of_le hik with q|q
 ·exact Nat.le_of_lt (List.pairwise_iff_getElem.mp h i k hi hk q)
 ·subst q
  exact y0o _
theorem zbj {xs:Array Nat} (j:Nat) (h:Rs xs):∀fuel lo hi,hi - lo<=fuel->lo<=hi->hi<=xs.size->(∀i,i<lo->∀y,xs.toList[i]?=some y->y<j)->(∀i,hi<=i->∀y,xs.toList[i]?=some y->j<=y) ->
  Cuts xs j (SetTable.below.go xs j fuel lo hi)
 | 0,lo,hi,h1,h2,h3,ha,hb=>by
  have:lo=hi:=by omega
  subst this
  exact⟨h3,ha,hb⟩
 | fuel+1,lo,hi,h1,h2,h3,ha,hb=>by
  unfold SetTable.below.go
  by_cases c:lo<hi
  ·rw[if_pos c]
   have hm:(lo+hi) / 2<xs.size:=by omega
   have hg:xs.toList[(lo+hi) / 2]?=some (xs.getD ((lo+hi) / 2) j):=by
    rw[y0v (by simpa using hm)]
    simp[Array.getD,hm]
   show Cuts xs j (if xs.getD ((lo+hi) / 2) j<j then SetTable.below.go xs j fuel ((lo+hi) / 2+1) hi else SetTable.below.go xs j fuel lo ((lo+hi) / 2))
   by_cases q:xs.getD ((lo+hi) / 2) j<j
   ·rw[if_pos q]
    exact zbj j h fuel _ hi (by omega) (by omega) h3 (fun i hi' y hy=>Nat.lt_of_le_of_lt (zel h (Nat.le_of_lt_succ hi') hy hg) q) hb
   ·rw[if_neg q]
    exact zbj j h fuel lo _ (by omega) (by omega) (by omega) ha fun i hi' y hy=>y1p (Nat.le_of_not_lt q) (zel h hi' hg hy)
  ·rw[if_neg c]
   have:lo=hi:=by omega
   subst this
   exact⟨h3,ha,hb⟩
theorem zan {xs:Array Nat} (j:Nat) (h:Rs xs):Cuts xs j (SetTable.below xs j) :=
 zbj j h xs.size 0 xs.size (by omega) (y21 _) (y0o _) (fun i z=>absurd z (Nat.not_lt_zero i)) fun i z y e=>by
  rw[List.getElem?_eq_none (by simpa using z)] at e
  cases e
theorem zjh {xs:Array Nat} {j:Nat} (h:Rs xs) (n:xs[SetTable.below xs j]?≠some j):Rs (SetTable.insertAt xs (SetTable.below xs j) j):=by
 obtain⟨h1,h2,h3⟩:=zan j h
 unfold Rs
 rw[SetTable.toList_insertAt]
 generalize SetTable.below xs j=p at *
 refine List.pairwise_append.mpr ⟨h.sublist (List.take_sublist _ _),y19.mpr ⟨fun y hy=>?_,h.sublist (List.drop_sublist _ _)⟩,fun a ha b hb=>?_⟩
 ·obtain⟨i,hi⟩:=List.getElem?_of_mem hy
  rw[List.getElem?_drop] at hi
  have hle:j<=y:=h3 _ (y30 p i) y hi
  refine Nat.lt_of_le_of_ne hle fun e=>n ?_
  subst e
  rw[<- Array.getElem?_toList]
  have h0:p<xs.toList.length:=by
   have:=(y0k.mp hi).1
   omega
  have hp:xs.toList[p]?=some xs.toList[p]:=y0v h0
  have q1:=h3 p (y0o _) _ hp
  have q2:=zel h (y30 p i) hp hi
  rw[hp,Nat.le_antisymm q2 q1]
 ·obtain⟨i,hi⟩:=List.getElem?_of_mem ha
  have hlt:i<p:=by
   have:=(y0k.mp hi).1
   rw[List.length_take] at this
   omega
  rw[List.getElem?_take_of_lt hlt] at hi
  have haj:=h2 i hlt a hi
  rcases y09.mp hb with e|hb
  ·omega
  ·obtain⟨k,hk⟩:=List.getElem?_of_mem hb
   rw[List.getElem?_drop] at hk
   have:=h3 _ (y30 p k) b hk
   omega
theorem zc0 {t:SetTable} {j:Nat} (h:∀i,t.slot j≠.live i):t.place[SetTable.below t.place j]?≠some j:=fun e=>by
 unfold SetTable.slot at h
 dsimp only at h
 rw[e] at h
 simp at h
theorem zb1 {t:SetTable} {f:Nat->Int} {h:Int}:∀(n:Nat) (p:SetTable.Probe),(∀d,p.dummy=some d->t.slot d=.dummy)->∀j dm,SetTable.probe.go t f h n p=some (.empty j dm)->t.slot j=.empty/\∀d,dm=some d->t.slot d=.dummy
 | 0,p,hp,j,dm,e=>by cases e
 | n+1,p,hp,j,dm,e=>by
  unfold SetTable.probe.go at e
  have adv:∀q:SetTable.Probe,(t.advance q).dummy=q.dummy:=fun q=>by
   unfold SetTable.advance
   split <;> rfl
  split at e
  next q =>
   cases e
   exact⟨q,hp⟩
  next q=>exact zb1 n _ (fun d z=>by rw[adv] at z;cases z;exact q) j dm e
  next i q =>
   split at e
   ·cases e
   ·exact zb1 n _ (fun d z=>by rw[adv] at z;exact hp d z) j dm e
theorem zfh {t:SetTable} {h:Int} {j:Nat} {b:Bool} (e:t.freeSlot h=some (j,b)):t.place[SetTable.below t.place j]?≠some j:=by
 unfold SetTable.freeSlot at e
 split at e
 next j' dm q =>
  cases e
  obtain⟨h1,h2⟩:=zb1 _ _ (fun d z=>by cases z) _ _ q
  cases dm with
  | none=>exact zc0 fun i z=>by rw[Option.getD_none,h1] at z;cases z
  | some d=>exact zc0 fun i z=>by rw[Option.getD_some,h2 d rfl] at z;cases z
 next=>cases e
theorem zmf (n:Nat):Rs (Array.range n):=by
 unfold Rs
 simp only[Array.toList_range]
 exact List.pairwise_lt_range
theorem z61 (t:SetTable) (n:Nat):Rs (t.standIn n).place/\(t.standIn n).led=t.led:=⟨zmf n,rfl⟩
theorem zck {t:SetTable} (h:Rs t.place) (n:Nat):Rs (t.orStandIn n).place/\(t.orStandIn n).led=t.led:=by
 unfold SetTable.orStandIn
 split
 ·exact⟨h,rfl⟩
 ·exact z61 t n
theorem zka {t:SetTable} (h:Rs t.place) (es:Array (Int×Value)) (k:Int) (x:Value):Rs (layNew t es k x).2.1.place/\(layNew t es k x).2.1.led=t.led:=by
 unfold layNew
 split
 next slot wd e =>
  have:=zck (t:=(t.put slot).1) (zjh h (zfh e)) (SetTable.insertAt es (t.put slot).2 (k,x)).size
  exact this
 next=>exact z61 t _
theorem zen {t:SetTable} (es:Array (Int×Value)) (n:Nat):Rs (relayAll t es n).2.1.place/\(relayAll t es n).2.1.led=t.led:=by
 unfold relayAll
 split
 next t' order e =>
  dsimp only
  split
  ·unfold SetTable.relaid SetTable.laid at e
   simp only[Option.bind_eq_bind,y01,pure,Option.some.injEq,Prod.mk.injEq] at e
   obtain⟨owner,_,rfl,_⟩:=e
   refine⟨?_,rfl⟩
   unfold Rs
   dsimp only
   rw[List.map_filterMap]
   refine List.Pairwise.sublist (l₂:=List.range (SetTable.sizeAbove n - 1+1)) ?_ List.pairwise_lt_range
   generalize List.range (SetTable.sizeAbove n - 1+1)=l
   induction l with
   | nil=>exact .slnil
   | cons a r ih =>
    rw[List.filterMap_cons]
    cases q:owner.getD a none with
    | none=>simpa [q] using ih.cons a
    | some z=>simpa [q] using ih.cons₂ a
  ·exact z61 t _
 next=>exact z61 t _
end D
end
section
namespace D
open PySem PySem.Spec PyProof.Rows L2
section
variable [Tbl]
theorem zeq {α β:Type} {R:α->β->Prop} {l l':List α} (p:l'.Perm l):∀{ks:List β},Paired R l ks->∃ks',Paired R l' ks'/\ks'.Perm ks:=by
 have key:∀{l l':List α},l.Perm l'->∀{ks:List β},Paired R l ks->∃ks',Paired R l' ks'/\ks'.Perm ks:=by
  intro l l' p
  induction p with
  | nil=>exact fun h=>⟨_,h,.rfl⟩
  | cons x _ ih =>
   intro ks h
   cases h with
   | cons a b =>
    obtain⟨ks',h1,h2⟩:=ih b
    exact⟨_,.cons a h1,h2.cons _⟩
  | swap x y l =>
   intro ks h
   cases h with
   | cons a b =>
    cases b with
    | cons c d=>exact⟨_,.cons c (.cons a d),.swap _ _ _⟩
  | trans _ _ i1 i2 =>
   intro ks h
   obtain⟨k1,h1,p1⟩:=i1 h
   obtain⟨k2,h2,p2⟩:=i2 h1
   exact⟨k2,h2,p2.trans p1⟩
 exact fun {ks} h=>key p.symm h
theorem z8v {α β:Type} {R:α->β->Prop}:∀{l l':List α} {ks ks':List β},Paired R l ks->Paired R l' ks'->Paired R (l++l') (ks++ks')
 | _,_,_,_,.nil,h=>h
 | _,_,_,_,.cons a b,h=>.cons a (z8v b h)
theorem zaa {α β:Type} {R:α->β->Prop}:∀{l:List α} {ks:List β},Paired R l ks->l.length=ks.length
 | _,_,.nil=>rfl
 | _,_,.cons a b=>by simp[zaa b]
theorem zo7 {α β:Type} {R:α->β->Prop}:∀{l:List α} {ks:List β},Paired R l ks->∀{i:Nat} {x:α},l[i]?=some x->∃k,ks[i]?=some k/\R x k
 | _,_,.nil,i,x,e=>by simp at e
 | _,_,.cons a b,0,x,e=>by
  simp at e
  subst e
  exact⟨_,rfl,a⟩
 | _,_,.cons a b,i+1,x,e=>by
  simp only[y28] at e ⊢
  exact zo7 b e
def z2r (w:World):Bool:=w.params.followText "set-order"
section
variable {prog:y0q} {w:World} {K:Type} [DecidableEq K] (knd:PySem.KeyKind prog w K)
def IsK (e:Int×Value) (k:K):Prop:=knd.is k e.2=true
noncomputable def SetK (h:Heap) (a:Addr) (ks:List K):Prop:=∃(es:Array (Int×Value)) (ep:Nat) (t:SetTable) (ks':List K),
 h.get? a=some { cls:=.type "set",dict:=none,data:=.set es ep t,slots:=#[] }/\ElemsOf knd es.toList/\Paired (IsK knd) es.toList ks'/\ks'.Perm ks/\es.size<scanBound/\t.fits es.size=true/\t.led=!z2r w/\Rs t.place
def addK (ks:List K) (k:K):List K:=if k∈ks then ks else ks++[k]
variable {knd} {A:Around} {E:Value->y04->Prop} {s:y04}
theorem SetK.at' {h h':Heap} {a:Addr} {ks:List K} (x:SetK knd h a ks) (k:∀o,h.get? a=some o->h'.get? a=some o):SetK knd h' a ks:=by
 obtain⟨es,ep,t,ks',h1,h2⟩:=x
 exact⟨es,ep,t,ks',k _ h1,h2⟩
theorem zkm {l:List (Int×Value)} {ks:List K} (p:Paired (IsK knd) l ks) (k:K):(∃e∈l,knd.is k e.2=true) <-> k∈ks:=by
 induction p with
 | nil=>simp
 | @cons e k' l ks a b ih =>
  simp only[y09,exists_eq_or_imp,ih]
  have:knd.is k e.2=true <-> k=k':=by
   rw[KeyKind.is_eq_decide a k]
   simp
  rw[this]
theorem zo3 {h:Heap} {a:Addr} {es es':Array (Int×Value)} {ep:Nat} {t t':SetTable} (ho:h.get? a=some { cls:=.type "set",dict:=none,data:=.set es ep t,slots:=#[] }) :
  (h.update a (Obj.putSet es' t')).get? a=some { cls:=.type "set",dict:=none,data:=.set es' (ep+1) t',slots:=#[] }:=by
 have:=Heap.get?_update_self (Obj.putSet es' t') ho (by rw[putSet_of es' t' rfl];rfl)
 rw[putSet_of es' t' rfl] at this
 exact this
theorem zmd {a:Addr} {ks:List K} {k:K} {x:Value} {Q:Bool->y04->Prop} (hkey:knd.is k x=true) (hsc:x.scannable=true) (hS:SetK knd s.heap a ks) (hroom:ks.length+1<scanBound)
  (h:∀h' b,Heap.SameBut a s.heap h'->SetK knd h' a (addK ks k)->Q b { s with heap:=h' }):y0u (y2w prog w) A (setAddHashed a x (knd.hash k)) Q E s:=by
 obtain⟨es,ep,t,ks',ho,hel,hpd,hpm,hb,hf,hled,hrs⟩:=id hS
 have hlen:es.size=ks.length:=by rw[<- hpm.length_eq,<- zaa hpd,y1x]
 unfold setAddHashed setAddHashedIn
 refine y2f (y02 (wpAny_setState_of ho rfl hf ?_))
 dsimp only
 rw[byScan_of hsc hb hel]
 simp only[↓reduceIte]
 unfold setAddByScan
 refine y02 ?_
 refine y02 (wpAny_rule ?_)
 refine y02 (wpAny_setScan_of hkey ho rfl hf hel ?_)
 cases hr:List.findIdx? (fun e=>knd.is k e.2) es.toList with
 | some j =>
  dsimp only
  obtain⟨hj,hpj,_⟩:=List.findIdx?_eq_some_iff_getElem.mp hr
  have hk:k∈ks:=hpm.mem_iff.mp ((zkm hpd k).mp ⟨_,List.getElem_mem hj,hpj⟩)
  refine y06 (y06 ?_)
  refine h s.heap _ (Heap.SameBut.refl a s.heap) ?_
  rw[addK,if_pos hk]
  exact hS
 | none =>
  dsimp only
  have hk:k∉ks:=fun z=>by
   obtain⟨e,he,q⟩:=(zkm hpd k).mpr (hpm.mem_iff.mpr z)
   have:=List.findIdx?_eq_none_iff.mp hr e he
   rw[q] at this
   cases this
  have e0:addK ks k=ks++[k]:=if_neg hk
  rw[e0] at h
  have hgw:∀(b:Bool) {s₁:y04} {Q':Unit->y04->Prop},Q' () s₁->y0u (y2w prog w) A (match b with|true=>rule "set.scan.the-table-gave-way" | false=>pure ()) Q' E s₁ :=
   fun b s₁ Q' hq=>by cases b <;> first|exact y06 hq|exact wpAny_rule hq
  have l1:=layNew_perm t es (knd.hash k) x
  have l2:=layNew_fits t es (knd.hash k) x
  have l3:=zka hrs es (knd.hash k) x
  generalize hL:layNew t es (knd.hash k) x=L at l1 l2 l3 ⊢
  obtain⟨es1,t1,wd,gave⟩:=L
  dsimp only at l1 l2 l3 ⊢
  rw[Array.toList_push] at l1
  have hel1:ElemsOf knd es1.toList:=(hel.push hkey hsc).perm l1
  obtain⟨ks1,hp1,hm1⟩:=zeq l1 (z8v hpd (.cons (show IsK knd (knd.hash k,x) k from hkey) .nil))
  have hm2:ks1.Perm (ks++[k]):=hm1.trans (hpm.append_right _)
  have hz1:es1.size<scanBound:=by
   rw[<- y1x,l1.length_eq,y20,y1x,hlen]
   simpa using hroom
  refine y02 (hgw _ ?_)
  have tail:∀(t2:SetTable) (g:Bool->Sem Unit),(∀(b:Bool) (s₁:y04) (Q':Unit->y04->Prop),Q' () s₁->y0u (y2w prog w) A (g b) Q' E s₁)->t2.fits es1.size=true->t2.led=!z2r w->Rs t2.place ->
    y0u (y2w prog w) A (do
     storeSet a es1 t2
     if (!wd && t2.tooFull)=true then do
       g (relayAll t2 es1 (SetTable.grown es1.size)).2.2
       storeSet a (relayAll t2 es1 (SetTable.grown es1.size)).1 (relayAll t2 es1 (SetTable.grown es1.size)).2.1
       pure (some true)
      else pure (some true)) (fun r s'=>y0u (y2w prog w) A (match r with|some added=>pure added|none=>setAddHashedIn a x (knd.hash k) 99999) Q E s') E s:=by
   intro t2 g hg f2 d2 r2
   refine y02 (wpAny_storeSet_of ho rfl ?_ (fits_of_scanBound hz1))
   have ho1:=zo3 (es':=es1) (t':=t2) ho
   have sb1:=Heap.SameBut.update s.heap a (Obj.putSet es1 t2)
   split
   ·have r1:=relayAll_perm t2 es1 (SetTable.grown es1.size)
    have rf:=relayAll_fits t2 es1 (SetTable.grown es1.size)
    have rr:=zen (t:=t2) es1 (SetTable.grown es1.size)
    generalize relayAll t2 es1 (SetTable.grown es1.size)=Rl at r1 rf rr ⊢
    obtain⟨es2,t3,g2⟩:=Rl
    dsimp only at r1 rf rr ⊢
    obtain⟨ks2,hp2,hm3⟩:=zeq r1 hp1
    have hz2:es2.size<scanBound:=by
     rw[<- y1x,r1.length_eq,y1x]
     exact hz1
    refine y02 (hg _ _ _ ?_)
    refine y02 (wpAny_storeSet_of ho1 rfl ?_ (fits_of_scanBound hz2))
    exact y06 (y06 (h _ _ (sb1.trans (Heap.SameBut.update _ a _)) ⟨es2,_,t3,ks2,zo3 ho1,hel1.perm r1,hp2,hm3.trans hm2,hz2,rf,rr.2.trans d2,rr.1⟩))
   ·exact y06 (y06 (h _ _ sb1 ⟨es1,_,t2,ks1,ho1,hel1,hp1,hm2,hz1,f2,d2,r2⟩))
  split
  ·refine y02 ?_
   rw[hashByValue_scannable 8 hsc]
   refine y06 ?_
   refine tail _ _ ?_ ?_ ?_ ?_
   ·intro b s₁ Q' hq
    cases b <;> first|exact y06 hq|exact wpAny_rule hq
   ·split
    ·exact l2
    ·exact SetTable.fits_plain_off l2
   ·split
    ·exact l3.2.trans hled
    ·exact l3.2.trans hled
   ·split
    ·exact l3.1
    ·exact l3.1
  ·refine y02 (y06 ?_)
   simp only[↓reduceIte]
   refine tail _ _ ?_ l2 (l3.2.trans hled) l3.1
   intro b s₁ Q' hq
   cases b <;> first|exact y06 hq|exact wpAny_rule hq
theorem znt (ks:List K) (k:K):(addK ks k).length<=ks.length+1:=by
 unfold addK
 split <;> simp
def z1i (ks:List K):List K:=ks.foldl addK []
theorem z4v:∀(ks acc:List K),(ks.foldl addK acc).length<=acc.length+ks.length
 | [],acc=>by simp
 | k::ks,acc=>by
  rw[List.foldl_cons]
  have h1:=z4v ks (addK acc k)
  have h2:=znt acc k
  simp only[y0w]
  omega
theorem z86 {ks:List K} {i:Nat} {k:K} (e:ks[i]?=some k):z1i (ks.take (i+1))=addK (z1i (ks.take i)) k:=by
 obtain⟨h,rfl⟩:=y0k.mp e
 unfold z1i
 rw[List.take_succ_eq_append_getElem h,List.foldl_append]
 rfl
def IsV (knd:PySem.KeyKind prog w K) (v:Value) (k:K):Prop:=knd.is k v=true/\v.scannable=true
section
variable {R:Result->y04->Prop} {I:Addr} {fp wr:List Addr} {G:Array GenState->Array GenState->Prop} {St:Nat->y04->Prop} {items:Array Value}
theorem zc2 (W:WalksS prog w A.in1 I fp wr G items.size (fun i v=>items[i]?=some v) St) (S:Addr) (hSf:S∉fp) {ks:List K} (hv:Paired (IsV knd) items.toList ks) (hb:items.size+1<scanBound) :
  ∀(k i:Nat) (s:y04),items.size - i=k->i<=items.size->St i s->SetK knd s.heap S (z1i (ks.take i)) ->
   (∀s',Moved (S::wr) G s s'->SetK knd s'.heap S (z1i ks)->R (.ok (.ret .none)) s') ->
   codeAny (y2w prog w) A (.builtin "set.update.loop" ⟨[.ref S,.ref I],[]⟩) R s:=by
 have hSw:S∉wr:=fun h=>hSf (W.sub _ h)
 have hsub:∀b∈wr,b∈S::wr:=fun b hb=>y05 _ hb
 have hlen:items.size=ks.length:=by rw[<- zaa hv,y1x]
 intro k
 induction k with
 | zero =>
  intro i s hk hi hst hS hR
  have hin:i=items.size:=by omega
  subst hin
  refine y2m F.entry_set_update_loop ?_
  rw[y1u F.plain_set_update_loop _]
  show y0u _ A.in1 (pyNext (.ref I) >>= _) _ _ s
  refine y02 (W.done s _ _ hst fun s' hm=>?_)
  show y0u _ A.in1 (ret Value.none) _ _ s'
  rw[List.take_of_length_le (by omega)] at hS
  exact y06 (hR s' (hm.mono hsub) (hS.at' fun o e=>hm.heap S _ hSw e))
 | succ k ih =>
  intro i s hk hi hst hS hR
  have hlt:i<items.size:=by omega
  refine y2m F.entry_set_update_loop ?_
  rw[y1u F.plain_set_update_loop _]
  show y0u _ A.in1 (pyNext (.ref I) >>= _) _ _ s
  refine y02 (W.item i s _ _ hlt hst fun v s' hP hst' hm=>?_)
  obtain⟨key,hke,hki,hks⟩:=zo7 hv (by rw[Array.getElem?_toList];exact hP)
  have hS1:SetK knd s'.heap S (z1i (ks.take i)):=hS.at' fun o e=>hm.heap S _ hSw e
  show y0u _ A.in1 (holding [v] (setAdd S v) >>= _) _ _ s'
  refine y02 (y2f ?_)
  unfold setAdd
  refine y2f ?_
  refine y02 (knd.pyHash (k:=key) hki ?_)
  have hroom:(z1i (ks.take i)).length+1<scanBound:=by
   have h1:=z4v (ks.take i) []
   rw[List.length_take] at h1
   unfold z1i
   simp only[y2a] at h1
   omega
  refine zmd (s:={ s' with toks:=s'.toks+1 }) hki hks hS1 hroom fun h' b hsb hS2=>?_
  rw[<- z86 hke] at hS2
  refine y06 ⟨plainId_quiet F.plain_set_update_loop _,ih (i+1) _ (by omega) hlt (W.frame _ s' _ _ hst' (y2b _) fun b hb o e=>?_) hS2 fun s'' hm'' hS''=>?_⟩
  ·rw[hsb.2 b (fun h:b=S=>hSf (by rw[<- h];exact hb))]
   exact e
  ·refine hR s'' (Moved.trans W.gtrans ((hm.mono hsub).then_heap (y2b _) fun b o hb e=>?_) hm'') hS''
   rw[hsb.2 b (fun h:b=S=>hb (by rw[h];exact y0e))]
   exact e
end
theorem z9h (a:Value) {Q₁:Value->y04->Prop}
  (h:Q₁ (.ref s.heap.objs.size) { s with heap:=s.heap.push { cls:=.type "set",dict:=none,data:=.set #[] 0 (.fresh 0 0 (!z2r w)) } }) :
  codeAny (y2w prog w) A (.call (.builtin "set.__new__") ⟨[.type "set",a],[]⟩) (wants Q₁ E) s:=by
 refine codeAny_of_tree ?_
 show y0u _ A.in1 (do checkBuiltinCall "set.__new__" ⟨[.type "set",a],[]⟩;again (.builtin "set.__new__" ⟨[.type "set",a],[]⟩)) _ _ s
 refine y02 (wpAny_of_eq (PySem.F.newCall_set_1 a) (y06 ⟨plainId_quiet PySem.F.plain_set_new _,y2m PySem.F.entry_set_new ?_⟩))
 rw[y1u PySem.F.plain_set_new _]
 unfold Builtin.«set.__new__» Builtin.Frozenset.newClass
 have hsub:=sub_set_self
 obtain⟨hp,g,d,tk,os⟩:=s
 dsimp only
 wp_walk
 refine wpAny_askSetting (y06 ?_)
 dsimp only
 simp only[newObj]
 refine y02 (wpAny_alloc (y06 ?_))
 exact y06 h
theorem zku {h:Heap}:SetK knd (h.push { cls:=.type "set",dict:=none,data:=.set #[] 0 (.fresh 0 0 (!z2r w)) }) h.objs.size [] :=
 ⟨#[],0,_,[],y0l _ rfl,fun e he=>by simp at he,.nil,.rfl,by decide,by rfl,rfl,List.Pairwise.nil⟩
set_option maxHeartbeats 3200000 in
theorem zi9 {l:Addr} {items:Array Value} {ks:List K} {Q:Value->y04->Prop}
  (hh:A.handled=none) (hl:s.heap.IsList l items) (hi:Paired (IsV knd) items.toList ks) (hb:items.size+1<scanBound)
  (h:∀(h':Heap) (tk:Nat),SetK knd h' s.heap.objs.size (z1i ks)->(∀b o,b<s.heap.objs.size->s.heap.get? b=some o->h'.get? b=some o)->Q (.ref s.heap.objs.size) { s with heap:=h',toks:=tk }) :
  y0u (y2w prog w) A (call (.type "set") [.ref l]) Q E s:=by
 obtain⟨c,tl,hmro⟩:=PySem.F.called_set.mro
 have hmade:=PySem.F.called_set.made
 have hsub:=PySem.F.called_set.sub
 refine wpAny_call (codeAny_of_tree ?_)
 show y0u _ _ (callAny (.type "set") _) _ _ _
 refine y06 ⟨Code.quiet_builtin _ (by decide +kernel),y2m PySem.F.entry_type_call ?_⟩
 rw[Around.under_plain (weight_type_call_type "set" [.ref l] []) rfl]
 have h1:=PySem.F.called_set.notType
 have h2:=PySem.F.called_set.canCreate
 have hct:=PySem.F.typeCall_set_1 (.ref l)
 repeat (any_goals (first|assumption|wp_step))
 refine y2o (z9h (.ref l) (E:=E) (Q₁:=fun obj s₁=>obj=.ref s.heap.objs.size/\s₁={ s with heap:=s.heap.push { cls:=.type "set",dict:=none,data:=.set #[] 0 (.fresh 0 0 (!z2r w)) } }) ⟨rfl,rfl⟩) fun r s₁ hr=>?_
 cases r with
 | error e=>exact hr
 | ok fl =>
  cases fl with
  | ret obj =>
   obtain⟨rfl,rfl⟩:=hr
   have hS:(s.heap.push { cls:=.type "set",dict:=none,data:=.set #[] 0 (.fresh 0 0 (!z2r w)) }).get? s.heap.objs.size=some { cls:=.type "set",dict:=none,data:=.set #[] 0 (.fresh 0 0 (!z2r w)) }:=y0l _ rfl
   have hT:Shared.TypeIs { s with heap:=s.heap.push { cls:=.type "set",dict:=none,data:=.set #[] 0 (.fresh 0 0 (!z2r w)) } } (.ref s.heap.objs.size) "set":=⟨_,hS,rfl⟩
   have hli:=PySem.F.called_set.init.lookup
   have hbi:=PySem.F.called_set.init.bind (.ref s.heap.objs.size)
   repeat (any_goals (first|assumption|wp_step))
   refine y2o (codeAny_call_builtin (R:=wants (fun r s₂=>r=.none/\∃h' tk,s₂={ s with heap:=h',toks:=tk }/\SetK knd h' s.heap.objs.size (z1i ks) /\
     (∀b o,b<s.heap.objs.size->s.heap.get? b=some o->h'.get? b=some o)) E) PySem.F.called_set.init.plain PySem.F.entry_set_init (check_set_init_1 hT ?_)) fun r₂ s₂ hr₂=>?_
   ·obtain⟨ol,hol,hcl,nl,hdl⟩:=hl
    obtain⟨ocls,odict,odata,oslots⟩:=ol
    simp only at hcl hdl
    subst hcl
    subst hdl
    have hol':(s.heap.push { cls:=.type "set",dict:=none,data:=.set #[] 0 (.fresh 0 0 (!z2r w)) }).get? l=some { cls:=.type "list",dict:=odict,data:=.seq items nl,slots:=oslots }:=y03 _ hol
    have hsls:=PySem.F.sub_list_set
    have hslf:=PySem.F.sub_list_frozenset
    have hne:(Value.type "list" == Value.type "dict")=false:=by decide
    have hl1:(s.heap.push { cls:=.type "set",dict:=none,data:=.set #[] 0 (.fresh 0 0 (!z2r w)) }).IsList l items:=⟨_,hol',rfl,nl,rfl⟩
    unfold Builtin.«set.__init__» noKeywords Builtin.Frozenset.updateFrom
    generalize hPI:pyIter=PI
    wp_walk
    subst hPI
    refine wpAny_pyIter_list hl1 ?_
    refine y02 (wpAny_runValue ?_)
    have hlS:l<s.heap.objs.size:=y0c hol
    have hh3:A.in1.in1.in1.handled=none:=by simp[hh]
    have hneI:l≠(s.heap.push { cls:=.type "set",dict:=none,data:=.set #[] 0 (.fresh 0 0 (!z2r w)) }).objs.size:=by
     rw[y18]
     exact y0y (Nat.lt_succ_of_lt hlS)
    have hSf:s.heap.objs.size∉[(s.heap.push { cls:=.type "set",dict:=none,data:=.set #[] 0 (.fresh 0 0 (!z2r w)) }).objs.size,l]:=by
     rw[y18]
     simp only[y09,y0z,y25,or_false,not_or]
     exact⟨y0y (Nat.lt_succ_self _),y16 hlS⟩
    refine zc2 (knd:=knd) ((Walks.list hh3 _ l hneI items).toS) s.heap.objs.size hSf hi hb (items.size - 0) 0 _ (by omega) (y21 _)
     ⟨⟨_,y0l _ rfl,rfl,rfl⟩,(hl1.push _)⟩ ?hS0 ?hR
    case hS0 =>
     refine SetK.at' (zku (knd:=knd) (h:=s.heap)) fun o e=>y03 _ e
    case hR =>
     intro s' hm hS'
     obtain⟨h',g',d',tk',os'⟩:=s'
     have eg:g'=s.gens:=hm.gens
     have ed:d'=s.drawn:=hm.drawn
     have eo:os'=s.os:=hm.os
     subst eg
     subst ed
     subst eo
     show y0u _ _ _ _ _ _
     refine y06 ?_
     show y0u _ _ (ret Value.none) _ _ _
     refine y06 ⟨rfl,h',tk',rfl,hS',fun b o hb e=>?_⟩
     have hb1:b≠s.heap.objs.size:=y0y hb
     have hb2:b≠(s.heap.push { cls:=.type "set",dict:=none,data:=.set #[] 0 (.fresh 0 0 (!z2r w)) }).objs.size:=by
      rw[y18]
      exact y0y (Nat.lt_succ_of_lt hb)
     exact hm.heap b o (by simp only[y09,y0z,y25,or_false,not_or];exact⟨hb1,hb2⟩) (y03 _ (y03 _ e))
   ·cases r₂ with
    | error e=>exact hr₂
    | ok fl₂ =>
     cases fl₂ with
     | ret r =>
      obtain⟨rfl,h',tk,rfl,hS',hk'⟩:=hr₂
      repeat (any_goals (first|assumption|wp_step))
      exact h _ _ hS' hk'
     | _=>exact hr₂.elim
  | _=>exact hr.elim
end
end
section
variable [Tbl]
theorem z0w:Slot "set_iterator" "__next__" "set_iterator.__next__" :=
 .of (owner:="set_iterator") (n:="__next__") (by rw[typeLookup_type,builtinLookup_eq_fast];kernel_rfl) (by decide +kernel) (by decide +kernel) (by decide +kernel)
  (by first|exact .inl (by decide +kernel)|exact .inr (by decide +kernel)) (by rw[isSubtype_type];kernel_rfl)
theorem z5l:Slot "set_iterator" "__iter__" "set_iterator.__iter__" :=
 .of (owner:="set_iterator") (n:="__iter__") (by rw[typeLookup_type,builtinLookup_eq_fast];kernel_rfl) (by decide +kernel) (by decide +kernel) (by decide +kernel)
  (by first|exact .inl (by decide +kernel)|exact .inr (by decide +kernel)) (by rw[isSubtype_type];kernel_rfl)
theorem z3f:entryFor table "set_iterator.__next__"=some Builtin.«set_iterator.__next__»:=entryFor_of_tree (by kernel_rfl)
theorem z8x:Manifest.owners.lookup (String.ofList ['r','o','t','a','r','e','t','i','_','t','e','s'].reverse)=some Manifest.sig_set_iterator:=by kernel_rfl
theorem z4g (a:Value):argsOk "set_iterator.__next__" ⟨[a],[]⟩:=by
 unfold argsOk
 rw[signature?_of (id:="set_iterator.__next__") (n:=['_','_','t','x','e','n','_','_']) (o:=['r','o','t','a','r','e','t','i','_','t','e','s']) (by kernel_rfl) z8x]
 kernel_rfl
theorem z9z:entryFor table "set.__iter__"=some Builtin.«frozenset.__iter__» :=
 entryFor_alias (id':="frozenset.__iter__") (by kernel_rfl) (by decide +kernel) (by decide +kernel) (by kernel_rfl)
theorem z57 {α:Type}:∀{l:List α} {i:Nat} {x:α},l[i]?=some x->(x::l.eraseIdx i).Perm l
 | [],i,x,e=>by simp at e
 | a::r,0,x,e=>by
  simp at e
  subst e
  exact .rfl
 | a::r,i+1,x,e=>by
  simp only[y28] at e
  rw[List.eraseIdx_cons_succ]
  exact (List.Perm.swap _ _ _).trans ((z57 e).cons _)
theorem zjo {α:Type} (f:Nat->Nat):∀(n k:Nat) (l:List α) (out:Array α),l.length=n->(pickOrder.go f n k l out).toList.Perm (out.toList++l)
 | 0,k,l,out,e=>by
  rw[List.length_eq_zero_iff.mp e,List.append_nil]
  exact .rfl
 | n+1,k,l,out,e=>by
  unfold pickOrder.go
  have hlt:f k % l.length<l.length:=Nat.mod_lt _ (by omega)
  rw[y0v hlt]
  dsimp only
  have hp:=z57 (y0v hlt)
  refine (zjo f n (k+1) _ _ ?_).trans ?_
  ·rw[List.length_eraseIdx]
   rw[if_pos hlt,e]
   rfl
  ·rw[Array.toList_push,List.append_assoc]
   exact hp.append_left _
theorem z8u {α:Type} (f:Nat->Nat) (xs:Array α):(pickOrder f xs).toList.Perm xs.toList:=by
 have:=zjo f xs.size 0 xs.toList #[] (by simp)
 rw[show (#[]:Array α).toList++xs.toList=xs.toList from rfl] at this
 exact this
section
variable {prog:y0q} {w:World} {A:Around} {E:Value->y04->Prop} {s:y04}
theorem zh1 {src:Source} {n:Nat} {Q:Nat->y04->Prop} (hn:n≠0) (h:∀i,i<n->Q i { s with drawn:=s.drawn.bump src }):y0u (y2w prog w) A (choose src n) Q E s:=fun Γ p hΓ=>by
 unfold choose
 rw[Sem.wp_choose]
 exact⟨hn,h _ (Nat.mod_lt _ (Nat.pos_of_ne_zero hn))⟩
theorem z7p {α:Type}:∀(n:Nat) (xs:List α) (s:y04) (Q:List α->y04->Prop),xs.length=n->(∀ys d,ys.Perm xs->Q ys { s with drawn:=d })->y0u (y2w prog w) A (drawOrder n xs) Q E s
 | 0,xs,s,Q,e,h=>by
  rw[List.length_eq_zero_iff.mp e] at h ⊢
  exact y06 (h [] s.drawn .rfl)
 | n+1,[],s,Q,e,h=>by simp at e
 | n+1,x::xs,s,Q,e,h=>by
  unfold drawOrder
  refine y02 (zh1 (by simp) fun i hi=>?_)
  rw[y0v hi]
  dsimp only
  have hp:=z57 (y0v hi)
  refine y02 (z7p n _ _ _ ?_ fun ys d p=>?_)
  ·rw[List.length_eraseIdx]
   simp only[hi,if_true]
   simp at e ⊢
   omega
  ·exact y06 (h _ d ((p.cons _).trans hp))
end
theorem zam {xs:Array Nat} (h:Rs xs) {i:Nat} (hi:i<=xs.size) (sl:Nat) (h0:i=0->sl=0) (h1:∀k,i=k+1->∃y,xs.toList[k]?=some y/\sl=y+1):SetTable.below xs sl=i:=by
 obtain⟨a,b,c⟩:=zan sl h
 generalize SetTable.below xs sl=p at *
 rcases Nat.lt_trichotomy p i with q|q|q
 ·obtain⟨k,rfl⟩:∃k,i=k+1:=⟨i - 1,by omega⟩
  obtain⟨y,e1,e2⟩:=h1 k rfl
  have:=c k (by omega) y e1
  omega
 ·exact q
 ·have hlt:i<xs.toList.length:=by simp;omega
  have hx:xs.toList[i]?=some xs.toList[i]:=y0v hlt
  have h2:=b i q _ hx
  rcases Nat.eq_zero_or_pos i with z|z
  ·have:=h0 z
   omega
  ·obtain⟨k,rfl⟩:∃k,i=k+1:=⟨i - 1,by omega⟩
   obtain⟨y,e1,e2⟩:=h1 k rfl
   have:=List.pairwise_iff_getElem.mp h k (k+1) (y0k.mp e1).1 hlt (by omega)
   obtain⟨_,rfl⟩:=y0k.mp e1
   omega
section
variable {prog:y0q} {w:World} {A:Around} {E:Value->y04->Prop} {s:y04}
def z5f (h:Heap) (a:Addr) (es:Array (Int×Value)) (ep:Nat) (t:SetTable):Prop:=h.get? a=some { cls:=.type "set",dict:=none,data:=.set es ep t,slots:=#[] }
def z6p (h:Heap) (I:Addr) (fs:Array Value):Prop:=h.get? I=some { cls:=.type "set_iterator",dict:=none,data:=.fields fs,slots:=#[] }
theorem z6p.typeIs {I:Addr} {fs:Array Value} (h:z6p s.heap I fs):s.TypeIs (.ref I) "set_iterator":=⟨_,h,rfl⟩
variable {a I:Addr} {es:Array (Int×Value)} {ep:Nat} {t:SetTable}
theorem z8p {sl i:Nat} {Q:Option (Value×Nat)->y04->Prop} (hS:z5f s.heap a es ep t) (hf:t.fits es.size=true) (hb:z2r w=true)
  (h:Q (((pickOrder (w.params.setOrder a ep) es)[i]?).map fun e=>(e.2,sl)) s):y0u (y2w prog w) A (setNext a sl i ep) Q E s:=by
 unfold setNext setWalk setsByText
 refine y02 (wpAny_setState_of hS rfl hf ?_)
 dsimp only
 refine y02 (y02 (wpAny_askSetting (y06 ?_)))
 rw[show (y2w prog w).w.params.followText "set-order"=true from hb]
 simp only[if_true]
 rw[if_neg (by simp)]
 refine y02 (y02 (wpAny_setState_of hS rfl hf ?_))
 dsimp only
 refine y02 (y02 (wpAny_askSetting (y06 ?_)))
 rw[show (y2w prog w).w.params.followText "set-order"=true from hb]
 simp only[if_true]
 refine y02 (wpAny_askSetting (y06 (y06 ?_)))
 exact h
theorem z8q {sl i:Nat} {Q:Option (Value×Nat)->y04->Prop} (hS:z5f s.heap a es ep t) (hf:t.fits es.size=true) (hb:z2r w=false) (hl:t.led=true) (hd:(!t.plain && decide (es.size > 1))=false)
  (h:Q (match es[SetTable.below t.place sl]?,t.place[SetTable.below t.place sl]? with|some (_,x),some j=>some (x,j+1)|_,_=>none) s):y0u (y2w prog w) A (setNext a sl i ep) Q E s:=by
 unfold setNext setsByText
 refine y02 (wpAny_setState_of hS rfl hf ?_)
 dsimp only
 refine y02 (y02 (wpAny_askSetting (y06 ?_)))
 rw[show (y2w prog w).w.params.followText "set-order"=false from hb]
 simp only[y1t,if_false]
 show y0u _ _ (if (!t.plain && decide (es.size > 1))=true then _ else _) _ _ _
 rw[hd]
 simp only[y1t,if_false]
 show y0u _ _ ((if (!t.led && !es.isEmpty)=true then unsupported "set:maker-not-led" else pure ()) >>= _) _ _ _
 rw[hl]
 simp only[Bool.not_true,Bool.false_and,y1t,if_false]
 exact y02 (y06 (y06 h))
theorem z8t {sl i:Nat} {Q:Option Value->y04->Prop} (hit:z6p s.heap I #[.int sl 0,.int i 0,.ref a,.int es.size 0,.int ep 0]) (hS:z5f s.heap a es ep t) (hf:t.fits es.size=true) {x:Value} {nx:Nat}
  (hn:∀(A:Around) (E:Value->y04->Prop) (Q:Option (Value×Nat)->y04->Prop),Q (some (x,nx)) s->y0u (y2w prog w) A (setNext a sl i ep) Q E s)
  (hQ:∀h',z6p h' I #[.int nx 0,.int ((i+1:Nat):Int) 0,.ref a,.int es.size 0,.int ep 0]->Heap.SameBut I s.heap h'->Q (some x) { s with heap:=h' }):y0u (y2w prog w) A (pyNext (.ref I)) Q E s:=by
 unfold pyNext
 refine y02 (wpAny_attempt (y2i (name:=Str.ofString "__next__") hit.typeIs z0w (y2p z0w hit.typeIs z3f ?_ (z4g _))))
 unfold Builtin.«set_iterator.__next__»
 refine y02 (y06 ?_)
 refine y02 (wpAny_fieldsOf hit rfl ?_)
 dsimp only
 refine y02 (wpAny_setEntries_of hS rfl hf ?_)
 rw[if_neg (by simp)]
 simp only[Int.toNat_natCast]
 refine y02 (hn _ _ _ ?_)
 dsimp only
 refine y02 (y2q hit (by simp) fun h1 e1 b1=>?_)
 refine y02 (y2q e1 (by simp) fun h2 e2 b2=>?_)
 refine y06 ⟨_,rfl,y06 (hQ h2 ?_ (b1.trans b2))⟩
 exact e2
theorem zhk {Q:Option Value->y04->Prop} {s:y04} (hh:A.handled=none) (hQ:∀h',(∀b o,s.heap.get? b=some o->h'.get? b=some o)->Q none { s with heap:=h' }) {B:Type} {Q':B->y04->Prop} :
  y0u (y2w prog w) A.in1 (newExc (.type "StopIteration") [] >>= fun e=>raiseNew e) Q' (fun e s'=>y0u (y2w prog w) A (isInstance e (.type "StopIteration") >>= fun b=>if b=true then pure none else throw e) Q E s') s:=by
 refine y02 ?_
 simp only[newExc,newTuple]
 refine y02 (y2n ?_ (by size_fits))
 refine y02 (m:=firstArgMember _ _) (wpAny_of_eq (a:=Value.none) (by first|rfl|(simp only[firstArgMember];rfl)) ?_)
 refine y2n ?_ (by size_fits)
 simp only[raiseNew]
 refine y02 (wpAny_handled ?_)
 rw[show A.in1.handled=none from hh]
 refine y02 (y06 (wpAny_throw ?_))
 refine y02 (wpAny_isInstance (T:="StopIteration") (b:=true) ⟨_,y0l _ rfl,rfl⟩ isSubtype_stop ?_)
 exact y06 (hQ _ fun b o e=>y03 _ (y03 _ e))
theorem zcr {Q:Option Value->y04->Prop} (hh:A.handled=none) (hT:s.TypeIs (.ref I) "set_iterator")
  (hm:∀{Q':Fin->y04->Prop} {E':Value->y04->Prop},(∀h',Heap.SameBut I s.heap h'->y0u (y2w prog w) A.in1 (newExc (.type "StopIteration") [] >>= fun e=>raiseNew e) Q' E' { s with heap:=h' })->y0u (y2w prog w) A.in1 (Builtin.«set_iterator.__next__» ⟨[.ref I],[]⟩) Q' E' s)
  (hQ:∀h',Heap.ExtBut I s.heap h'->Q none { s with heap:=h' }):y0u (y2w prog w) A (pyNext (.ref I)) Q E s:=by
 unfold pyNext
 refine y02 (wpAny_attempt (y2i (name:=Str.ofString "__next__") hT z0w (y2p z0w hT z3f ?_ (z4g _))))
 refine hm fun h' hb=>?_
 exact zhk (s:={ s with heap:=h' }) hh fun h2 k2=>hQ h2 fun b o hb' e=>k2 b o (hb.extBut b o hb' e)
end
end
section
variable [Tbl]
theorem z82:entryFor table "set_iterator.__iter__"=some Builtin.«dict_keyiterator.__iter__» :=
 entryFor_alias (id':="dict_keyiterator.__iter__") (by kernel_rfl) (by decide +kernel) (by decide +kernel) (by kernel_rfl)
theorem z9w (a:Value):argsOk "set_iterator.__iter__" ⟨[a],[]⟩:=by
 unfold argsOk
 rw[signature?_of (id:="set_iterator.__iter__") (n:=['_','_','r','e','t','i','_','_']) (o:=['r','o','t','a','r','e','t','i','_','t','e','s']) (by kernel_rfl) z8x]
 kernel_rfl
section
variable {prog:y0q} {w:World} {A:Around} {E:Value->y04->Prop} {s:y04}
variable {a I:Addr} {es:Array (Int×Value)} {ep:Nat} {t:SetTable}
theorem z5r {Q:Value->y04->Prop} (hT:s.TypeIs (.ref I) "set_iterator") (h:Q (.ref I) s):y0u (y2w prog w) A (pyIter (.ref I)) Q E s:=by
 refine wpAny_pyIter_slot hT z5l (y2p z5l hT z82 ?_ (z9w _))
 show y0u _ _ (ret (.ref I)) _ _ s
 exact y06 ⟨_,rfl,"set_iterator",_,hT,z0w.lookup,h⟩
theorem zgr {sl i:Nat} {Q:Option Value->y04->Prop} (hh:A.handled=none) (hit:z6p s.heap I #[.int sl 0,.int i 0,.ref a,.int es.size 0,.int ep 0]) (hS:z5f s.heap a es ep t) (hf:t.fits es.size=true)
  (hn:∀(A:Around) (E:Value->y04->Prop) (Q:Option (Value×Nat)->y04->Prop),Q none s->y0u (y2w prog w) A (setNext a sl i ep) Q E s)
  (hQ:∀h',Heap.ExtBut I s.heap h'->Q none { s with heap:=h' }):y0u (y2w prog w) A (pyNext (.ref I)) Q E s:=by
 refine zcr hh hit.typeIs (fun {Q' E'} hk=>?_) hQ
 unfold Builtin.«set_iterator.__next__»
 refine y02 (y06 ?_)
 refine y02 (wpAny_fieldsOf hit rfl ?_)
 dsimp only
 refine y02 (wpAny_setEntries_of hS rfl hf ?_)
 rw[if_neg (by simp)]
 simp only[Int.toNat_natCast]
 refine y02 (hn _ _ _ ?_)
 dsimp only
 refine y02 (y2q hit (by simp) fun h1 e1 b1=>?_)
 exact hk h1 b1
def Places (h:Heap) (tp:Addr) (ps:List Nat):Prop:=h.get? tp=some { cls:=.type "tuple",dict:=none,data:=.seq (ps.map fun (i:Nat)=>y2y i).toArray,slots:=#[] }
theorem zi1 {tp:Addr} {i:Nat} {ps:List Nat} {p:Nat} {x:Int×Value} {Q:Option Value->y04->Prop} (hit:z6p s.heap I #[.ref tp,.int i 0,.ref a,.int es.size 0,.int ep 0]) (hS:z5f s.heap a es ep t) (hf:t.fits es.size=true)
  (hp:Places s.heap tp ps) (h1:ps[i]?=some p) (h2:es[p]?=some x)
  (hQ:∀h',z6p h' I #[.ref tp,.int ((i+1:Nat):Int) 0,.ref a,.int es.size 0,.int ep 0]->Heap.SameBut I s.heap h'->Q (some x.2) { s with heap:=h' }):y0u (y2w prog w) A (pyNext (.ref I)) Q E s:=by
 unfold pyNext
 refine y02 (wpAny_attempt (y2i (name:=Str.ofString "__next__") hit.typeIs z0w (y2p z0w hit.typeIs z3f ?_ (z4g _))))
 unfold Builtin.«set_iterator.__next__»
 refine y02 (y06 ?_)
 refine y02 (wpAny_fieldsOf hit rfl ?_)
 dsimp only
 refine y02 (wpAny_setEntries_of hS rfl hf ?_)
 rw[if_neg (by simp)]
 unfold seqItems?
 refine y02 (y02 (wpAny_load hp (y06 ?_)))
 dsimp only
 have hg:((ps.map fun (i:Nat)=>y2y i).toArray)[i]?=some (.int p 0):=by
  simp[h1,y2y]
 simp only[Int.toNat_natCast]
 rw[hg]
 dsimp only
 unfold setNextDrawn
 refine y02 (y02 (wpAny_setState_of hS rfl hf ?_))
 dsimp only
 simp only[Int.toNat_natCast,bne_self_eq_false,y1t,if_false,h2]
 refine y06 ?_
 refine y02 (y2q hit (by simp) fun h1 e1 b1=>?_)
 exact y06 ⟨_,rfl,y06 (hQ h1 e1 b1)⟩
theorem zl0 {tp:Addr} {i:Nat} {ps:List Nat} {Q:Option Value->y04->Prop} (hh:A.handled=none) (hit:z6p s.heap I #[.ref tp,.int i 0,.ref a,.int es.size 0,.int ep 0]) (hS:z5f s.heap a es ep t) (hf:t.fits es.size=true)
  (hp:Places s.heap tp ps) (h1:ps[i]?=none)
  (hQ:∀h',Heap.ExtBut I s.heap h'->Q none { s with heap:=h' }):y0u (y2w prog w) A (pyNext (.ref I)) Q E s:=by
 refine zcr hh hit.typeIs (fun {Q' E'} hk=>?_) hQ
 unfold Builtin.«set_iterator.__next__»
 refine y02 (y06 ?_)
 refine y02 (wpAny_fieldsOf hit rfl ?_)
 dsimp only
 refine y02 (wpAny_setEntries_of hS rfl hf ?_)
 rw[if_neg (by simp)]
 unfold seqItems?
 refine y02 (y02 (wpAny_load hp (y06 ?_)))
 dsimp only
 have hg:((ps.map fun (i:Nat)=>y2y i).toArray)[i]?=none:=by
  have:=List.getElem?_eq_none_iff.mp h1
  simp[h1]
 simp only[Int.toNat_natCast]
 rw[hg]
 dsimp only
 refine y02 (y2q hit (by simp) fun h1 e1 b1=>?_)
 refine y02 (y2q e1 (by simp) fun h2 e2 b2=>?_)
 exact hk h2 (b1.trans b2)
def ltx (f:Nat->Nat) (es:Array (Int×Value)):List Value:=(pickOrder f es).toList.map (·.2)
theorem zlr (hh:A.handled=none) (hne:a≠I) (hf:t.fits es.size=true) (hb:z2r w=true) :
  Walks prog w A I [I,a] [I] es.size (fun i v=>(ltx (w.params.setOrder a ep) es)[i]?=some v) (fun i h=>(∃sl:Nat,z6p h I #[.int sl 0,.int i 0,.ref a,.int es.size 0,.int ep 0])/\z5f h a es ep t):=by
 have hsz:(pickOrder (w.params.setOrder a ep) es).size=es.size:=by
  rw[<- y1x,(z8u _ es).length_eq,y1x]
 refine⟨fun b hb=>by simp at hb;simp[hb],?_,?_,?_,?_⟩
 ·rintro i h h' ⟨⟨sl,x⟩,y⟩ hk
  exact⟨⟨sl,hk I (by simp) _ x⟩,hk a (by simp) _ y⟩
 ·rintro i s Q E hi ⟨⟨sl,x⟩,y⟩ hQ
  have hi':i<(pickOrder (w.params.setOrder a ep) es).size:=by rw[hsz];exact hi
  refine z8t (x:=((pickOrder (w.params.setOrder a ep) es)[i]).2) (nx:=sl) x y hf (fun A' E' Q' q=>z8p y hf hb (by rw[y1o hi'];exact q)) fun h' x' b'=>?_
  refine hQ _ h' s.toks ?_ ⟨⟨sl,x'⟩,b'.extBut a _ hne y⟩ fun b o hb e=>b'.extBut b o (fun h=>hb (by simp[h])) e
  unfold ltx
  rw[y15,Array.getElem?_toList,y1o hi']
  rfl
 ·rintro s Q E ⟨⟨sl,x⟩,y⟩ hQ
  refine zgr hh x y hf (fun A' E' Q' q=>z8p y hf hb (by rw[Array.getElem?_eq_none (by rw[hsz];exact y0o _)];exact q)) fun h' he'=>hQ h' s.toks fun b o hb e=>he' b o (fun h=>hb (by simp[h])) e
 ·rintro i s Q E ⟨⟨sl,x⟩,y⟩ hQ
  exact z5r x.typeIs hQ
def zom (xs:Array Nat) (i sl:Nat):Prop:=(i=0->sl=0)/\∀k,i=k+1->∃y,xs.toList[k]?=some y/\sl=y+1
theorem zls (hh:A.handled=none) (hne:a≠I) (hf:t.fits es.size=true) (hb:z2r w=false) (hl:t.led=true) (hr:Rs t.place) (hd:(!t.plain && decide (es.size > 1))=false) :
  Walks prog w A I [I,a] [I] es.size (fun i v=>(es.toList.map (·.2))[i]?=some v) (fun i h=>(∃sl:Nat,zom t.place i sl/\z6p h I #[.int sl 0,.int i 0,.ref a,.int es.size 0,.int ep 0])/\z5f h a es ep t):=by
 have hsz:t.place.size=es.size:=by
  simp only[SetTable.fits,y1c,beq_iff_eq] at hf
  exact hf.1
 refine⟨fun b hb=>by simp at hb;simp[hb],?_,?_,?_,?_⟩
 ·rintro i h h' ⟨⟨sl,o,x⟩,y⟩ hk
  exact⟨⟨sl,o,hk I (by simp) _ x⟩,hk a (by simp) _ y⟩
 ·rintro i s Q E hi ⟨⟨sl,o,x⟩,y⟩ hQ
  have hbel:=zam hr (i:=i) (by omega) sl o.1 o.2
  have hi2:i<t.place.size:=by omega
  refine z8t (x:=(es[i]).2) (nx:=t.place[i]+1) x y hf (fun A' E' Q' q=>z8q y hf hb hl hd (by rw[hbel,y1o hi,y1o hi2];exact q)) fun h' x' b'=>?_
  refine hQ _ h' s.toks (by simp[hi]) ⟨⟨_,⟨fun z=>by omega,fun k z=>?_⟩,x'⟩,b'.extBut a _ hne y⟩ fun b o hb e=>b'.extBut b o (fun h=>hb (by simp[h])) e
  have:k=i:=by omega
  subst this
  exact⟨t.place[k],by rw[Array.getElem?_toList,y1o hi2],rfl⟩
 ·rintro s Q E ⟨⟨sl,o,x⟩,y⟩ hQ
  have hbel:=zam hr (i:=es.size) (by omega) sl o.1 o.2
  refine zgr hh x y hf (fun A' E' Q' q=>z8q y hf hb hl hd (by rw[hbel,Array.getElem?_eq_none (y0o _)];exact q)) fun h' he'=>hQ h' s.toks fun b o hb e=>he' b o (fun h=>hb (by simp[h])) e
 ·rintro i s Q E ⟨⟨sl,o,x⟩,y⟩ hQ
  exact z5r x.typeIs hQ
theorem zh2 {tp:Addr} {ps:List Nat} (hh:A.handled=none) (hne:a≠I) (hne2:tp≠I) (hf:t.fits es.size=true) (hps:ps.Perm (List.range es.size)) :
  Walks prog w A I [I,a,tp] [I] es.size (fun i v=>(ps.map fun p=>(es.getD p (0,.none)).2)[i]?=some v) (fun i h=>z6p h I #[.ref tp,.int i 0,.ref a,.int es.size 0,.int ep 0]/\z5f h a es ep t/\Places h tp ps):=by
 have hln:ps.length=es.size:=by rw[hps.length_eq,List.length_range]
 refine⟨fun b hb=>by simp at hb;simp[hb],?_,?_,?_,?_⟩
 ·rintro i h h' ⟨x,y,z⟩ hk
  exact⟨hk I (by simp) _ x,hk a (by simp) _ y,hk tp (by simp) _ z⟩
 ·rintro i s Q E hi ⟨x,y,z⟩ hQ
  have hi2:i<ps.length:=by omega
  have hlt:ps[i]<es.size:=List.mem_range.mp (hps.mem_iff.mp (List.getElem_mem hi2))
  refine zi1 x y hf z (y0v hi2) (y1o hlt) fun h' x' b'=>?_
  refine hQ _ h' s.toks ?_ ⟨x',b'.extBut a _ hne y,b'.extBut tp _ hne2 z⟩ fun b o hb e=>b'.extBut b o (fun h=>hb (by simp[h])) e
  rw[y15,y0v hi2]
  simp[Array.getD,hlt]
 ·rintro s Q E ⟨x,y,z⟩ hQ
  exact zl0 hh x y hf z (List.getElem?_eq_none (by omega)) fun h' he'=>hQ h' s.toks fun b o hb e=>he' b o (fun h=>hb (by simp[h])) e
 ·rintro i s Q E ⟨x,y,z⟩ hQ
  exact z5r x.typeIs hQ
end
end
section
variable [Tbl]
section
variable {prog:y0q} {w:World} {K:Type} [DecidableEq K] {knd:PySem.KeyKind prog w K} {A:Around} {E:Value->y04->Prop} {s:y04} {a:Addr} {ks:List K}
theorem zep {es:List (Int×Value)} {l:List (Int×Value)} {ks:List K} (hel:ElemsOf knd es) (hp:Paired (IsK knd) es ks) (hl:l.Perm es):∃ks',Paired (IsV knd) (l.map (·.2)) ks'/\ks'.Perm ks:=by
 obtain⟨ks',h1,h2⟩:=zeq hl hp
 refine⟨ks',?_,h2⟩
 have hel':ElemsOf knd l:=hel.perm hl
 clear h2 hl hp hel
 induction h1 with
 | nil=>exact .nil
 | cons x y ih=>exact .cons ⟨x,hel'.head.2⟩ (ih hel'.tail)
theorem range_getD {α:Type} (d:α):∀(l:List α),(List.range l.length).map (fun i=>l.getD i d)=l
 | []=>rfl
 | x::r=>by
  rw[y0w,List.range_succ_eq_map,y0d,y2e]
  congr 1
  exact range_getD d r
theorem SetK.typeIs (h:SetK knd s.heap a ks):s.TypeIs (.ref a) "set":=let ⟨_,_,_,_,h,_⟩:=h;⟨_,h,rfl⟩
theorem SetK.lt {h:Heap} (x:SetK knd h a ks):a<h.objs.size:=let ⟨_,_,_,_,h,_⟩:=x;y0c h
theorem zhl {Q:Value->y04->Prop} (hS:SetK knd s.heap a ks)
  (h:∀(I:Addr) (h':Heap) (d':Drawn) (vs:List Value) (ks':List K) (fp:List Addr) (St:Nat->Heap->Prop),Paired (IsV knd) vs ks'->ks'.Perm ks->(∀b o,s.heap.get? b=some o->h'.get? b=some o)->s.heap.objs.size<=I ->
   (∀b∈fp,b=a\/s.heap.objs.size<=b)->(∀A:Around,A.handled=none->Walks prog w A I fp [I] vs.length (fun i v=>vs[i]?=some v) St)->St 0 h'->Q (.ref I) { s with heap:=h',drawn:=d' }) :
  y0u (y2w prog w) A (pyIter (.ref a)) Q E s:=by
 obtain⟨es,ep,t,ks',ho,hel,hpd,hpm,hb,hf,hled,hrs⟩:=id hS
 have hlt:=hS.lt
 refine wpAny_pyIter_slot hS.typeIs PySem.F.slot_set_iter (y2p PySem.F.slot_set_iter hS.typeIs z9z ?_ (PySem.F.args_set_iter_1 _))
 unfold Builtin.«frozenset.__iter__»
 refine y02 (y06 ?_)
 refine y02 ?_
 unfold Builtin.Frozenset.sizeOf
 refine y02 (wpAny_setEntries_of ho rfl hf (y06 ?_))
 refine y02 ?_
 unfold setDrawn
 refine y02 (wpAny_setState_of ho rfl hf ?_)
 dsimp only
 unfold setsByText
 refine y02 (y02 (wpAny_askSetting (y06 ?_)))
 refine y06 ?_
 show y0u _ _ (if (!(z2r w) && (!t.plain && decide (es.size > 1)))=true then _ else _) _ _ _
 have fin:∀(s1:y04) (first:Value) (d1:Drawn) (vs:List Value) (fp:List Addr) (St:Nat->Heap->Prop),s1.heap.get? a=some { cls:=.type "set",dict:=none,data:=.set es ep t,slots:=#[] }->(∀b o,s.heap.get? b=some o->s1.heap.get? b=some o)->s1={ s with heap:=s1.heap,drawn:=d1 } ->
   (∃ks',Paired (IsV knd) vs ks'/\ks'.Perm ks)->(∀b∈fp,b=a\/s.heap.objs.size<=b)->(∀A:Around,A.handled=none->Walks prog w A s1.heap.objs.size fp [s1.heap.objs.size] vs.length (fun i v=>vs[i]?=some v) St) ->
   (∀h2,z6p h2 s1.heap.objs.size #[first,.int 0 0,.ref a,.int es.size 0,.int ep 0]->(∀b o,s1.heap.get? b=some o->h2.get? b=some o)->St 0 h2)->s.heap.objs.size<=s1.heap.objs.size ->
   y0u (y2w prog w) A.in1 (do
    let e <- setEpoch a
    let v <- newFields "set_iterator" [first,y2y 0,.ref a,y2y es.size,y2y e]
    ret v) (fun fin s'=>∃v,fin=.done (.ret v)/\∃T' r,s'.TypeIs v T'/\typeLookup (.type T') (Str.ofString "__next__")=pure (some r)/\Q v s') E s1:=by
  intro s1 first d1 vs fp St h1 h2 h3 h4 h5 h6 h7 h8
  refine y02 (wpAny_setEpoch_of h1 rfl hf ?_)
  refine y02 ?_
  unfold newFields
  refine y2n ?_
  obtain⟨ks2,h9,h10⟩:=h4
  refine y06 ⟨_,rfl,"set_iterator",_,⟨_,y0l _ rfl,rfl⟩,z0w.lookup,?_⟩
  have:=h s1.heap.objs.size (s1.heap.push { cls:=.type "set_iterator",data:=.fields #[first,.int 0 0,.ref a,.int es.size 0,.int ep 0] }) d1 vs ks2 fp St h9 h10 (fun b o e=>y03 _ (h2 b o e)) h8 h5 h6
   (h7 _ (y0l _ rfl) fun b o e=>y03 _ e)
  rw[h3]
  exact this
 have e1:s={ s with heap:=s.heap,drawn:=s.drawn }:=rfl
 have vlen:∀{vs:List Value} {l:List (Int×Value)},vs=l.map (·.2)->l.Perm es.toList->vs.length=es.size:=fun e p=>by
  rw[e,y14,p.length_eq,y1x]
 by_cases hd:(!(z2r w) && (!t.plain && decide (es.size > 1)))=true
 ·rw[if_pos hd]
  refine y02 (z7p _ _ _ _ (by simp) fun ps d hps=>?_)
  refine y02 ?_
  unfold newTuple
  have hln:ps.length=es.size:=by rw[hps.length_eq,List.length_range]
  have hz:=fits_of_scanBound hb
  refine y2n ?_ (by show (List.map (fun (i:Nat)=>y2y i) ps).toArray.size<=y0j;simp[hln];exact hz)
  have hpe:(ps.map fun p=>es.getD p (0,Value.none)).Perm es.toList:=by
   have:=(hps.map fun p=>es.getD p (0,Value.none))
   refine this.trans (.of_eq ?_)
   have h2:=range_getD ((0:Int),Value.none) es.toList
   rw[y1x] at h2
   rw[<- h2]
   simp[Array.getD_eq_getD_getElem?,List.getD_eq_getElem?_getD]
  refine fin { s with heap:=s.heap.push { cls:=.type "tuple",data:=.seq (List.map (fun (i:Nat)=>y2y i) ps).toArray },drawn:=d } (.ref s.heap.objs.size) d (ps.map fun p=>(es.getD p (0,.none)).2)
   [(s.heap.push { cls:=.type "tuple",data:=.seq (List.map (fun (i:Nat)=>y2y i) ps).toArray }).objs.size,a,s.heap.objs.size] (fun i h=>z6p h (s.heap.push { cls:=.type "tuple",data:=.seq (List.map (fun (i:Nat)=>y2y i) ps).toArray }).objs.size #[.ref s.heap.objs.size,.int i 0,.ref a,.int es.size 0,.int ep 0]/\z5f h a es ep t/\Places h s.heap.objs.size ps)
   (y03 _ ho) (fun b o e=>y03 _ e) rfl ?_ ?_ (fun A' hh'=>?_) (fun h2 x k=>⟨x,k a _ (y03 _ ho),k _ _ (y0l _ rfl)⟩) (by rw[y18];exact y2b _)
  ·have:=zep hel hpd hpe
   rw[y2e] at this
   obtain⟨k2,q1,q2⟩:=this
   exact⟨k2,q1,q2.trans hpm⟩
  ·intro b hb'
   simp only[y09,y25,or_false] at hb'
   rcases hb' with rfl|rfl|rfl
   ·right
    rw[y18]
    exact y2b _
   ·exact .inl rfl
   ·exact .inr (y0o _)
  ·have W:=zh2 (prog:=prog) (w:=w) (A:=A') (a:=a) (I:=(s.heap.push { cls:=.type "tuple",data:=.seq (List.map (fun (i:Nat)=>y2y i) ps).toArray }).objs.size) (ep:=ep) (tp:=s.heap.objs.size) hh'
    (by rw[y18];exact y0y (Nat.lt_succ_of_lt hlt)) (by rw[y18];exact y0y (Nat.lt_succ_self _)) hf hps
   rw[y14,hln]
   exact W
 ·rw[if_neg hd]
  refine y02 (y06 ?_)
  have hfp:∀b∈[s.heap.objs.size,a],b=a\/s.heap.objs.size<=b:=fun b hb'=>by
   simp only[y09,y25,or_false] at hb'
   rcases hb' with rfl|rfl
   ·exact .inr (y0o _)
   ·exact .inl rfl
  cases hb':z2r w with
  | true =>
   refine fin s (y2y 0) s.drawn (ltx (w.params.setOrder a ep) es) [s.heap.objs.size,a] (fun i h=>(∃sl:Nat,z6p h s.heap.objs.size #[.int sl 0,.int i 0,.ref a,.int es.size 0,.int ep 0])/\z5f h a es ep t)
    ho (fun b o e=>e) rfl ?_ hfp (fun A' hh'=>?_) (fun h2 x k=>⟨⟨0,x⟩,k a _ ho⟩) (y0o _)
   ·obtain⟨k2,q1,q2⟩:=zep hel hpd (z8u (w.params.setOrder a ep) es)
    exact⟨k2,q1,q2.trans hpm⟩
   ·rw[show (ltx (w.params.setOrder a ep) es).length=es.size from vlen rfl (z8u (w.params.setOrder a ep) es)]
    exact zlr hh' (y0y hlt) hf hb'
  | false =>
   rw[hb'] at hd hled
   have hd':(!t.plain && decide (es.size > 1))=false:=by simpa using hd
   refine fin s (y2y 0) s.drawn (es.toList.map (·.2)) [s.heap.objs.size,a] (fun i h=>(∃sl:Nat,zom t.place i sl/\z6p h s.heap.objs.size #[.int sl 0,.int i 0,.ref a,.int es.size 0,.int ep 0])/\z5f h a es ep t)
    ho (fun b o e=>e) rfl ?_ hfp (fun A' hh'=>?_) (fun h2 x k=>⟨⟨0,⟨fun _=>rfl,fun k z=>by omega⟩,x⟩,k a _ ho⟩) (y0o _)
   ·obtain⟨k2,q1,q2⟩:=zep hel hpd .rfl
    exact⟨k2,q1,q2.trans hpm⟩
   ·rw[vlen rfl .rfl]
    exact zls hh' (y0y hlt) hf hb' hled hrs hd'
theorem zn9 {r:Addr} {Q:Bool->y04->Prop} (hT:s.TypeIs (.ref r) "set") (h:Q false s):y0u (y2w prog w) A (Builtin.List.listLengthHint (.ref r)) Q E s:=by
 unfold Builtin.List.listLengthHint
 refine y02 (wpAny_specialOf hT PySem.F.slot_set_len.lookup ?_)
 generalize hid:("set.__len__":String)=id0
 wp_delta
 rw[show splitId id0=some ("set","__len__") from by subst hid;decide +kernel]
 subst hid
 refine y02 (wpAny_isInstance (T:="set") (b:=true) hT (by rw[isSubtype_type];kernel_rfl) ?_)
 refine wpAny_ite_split (fun hab=>absurd hab (by decide)) (fun _=>?_)
 refine wpAny_ite_split (fun _=>?_) (fun hab=>absurd (by decide +kernel) hab)
 refine y02 (wpAny_typeOf hT ?_)
 exact y06 h
theorem zi6 {R:Result->y04->Prop} (hh:A.handled=none) (hS0:SetK knd s.heap a ks) (S:Addr) (hSr:S≠a) (res:Value) (c₀:Nat) (hS:s.heap.get? S=some { cls:=.type "list",data:=.seq #[] c₀ })
  (hR:∀h' tk d acc' c' ks',(∀b o,b≠S->s.heap.get? b=some o->h'.get? b=some o)->h'.get? S=some { cls:=.type "list",dict:=none,data:=.seq acc' c',slots:=#[] }->Paired (IsV knd) acc'.toList ks'->ks'.Perm ks->R (.ok (.ret res)) { s with heap:=h',toks:=tk,drawn:=d }) :
  y0u (y2w prog w) A.in1 (Builtin.List.listExtendWith (.ref S) (.ref a) res)
   (fun fin s'=>match fin with|.done f=>R (.ok f) s'|.again c'=>c'.quiet=true/\codeAny (y2w prog w) A c' R s') (fun e s'=>R (.error e) s') s:=by
 have hlen:ks.length<=y0j:=by
  obtain⟨es,ep,t,ks',ho,hel,hpd,hpm,hb,_⟩:=hS0
  rw[<- hpm.length_eq,<- zaa hpd,y1x]
  exact fits_of_scanBound hb
 unfold Builtin.List.listExtendWith
 refine y02 (wpAny_typeOf (T:="set") hS0.typeIs ?_)
 have h1:Builtin.List.listSameRef (.ref S) (.ref a)=false:=by simp[Builtin.List.listSameRef,hSr]
 have h2:(Value.type "set" == Value.type "list")=false:=by decide
 have h3:(Value.type "set" == Value.type "tuple")=false:=by decide
 simp only[h1,h2,h3,Bool.or_false,y1t,if_false]
 refine y02 (zhl hS0 fun I h' d' vs ks' fp St hv hp kp hI hfp W st=>?_)
 have hSI:S≠I:=y0y (y0x (y0c hS) hI)
 have hSf:S∉fp:=fun z=>by
  rcases hfp S z with q|q
  ·exact hSr q
  ·exact Nat.lt_irrefl _ (y0x (y0c hS) q)
 have hvl:vs.length=ks.length:=by rw[zaa hv,hp.length_eq]
 have key:∀(h:Heap) (c₁ tk:Nat),St 0 h->(∀b o,b≠S->s.heap.get? b=some o->h.get? b=some o) ->
   h.get? S=some { cls:=.type "list",data:=.seq #[] c₁ }->codeAny (y2w prog w) A (.builtin "list.extend.loop" ⟨[.ref S,.ref I,res],[]⟩) R { s with heap:=h,toks:=tk,drawn:=d' }:=by
  intro h c₁ tk hst hk hS₁
  refine codeAny_extend_loopS (W A.in1 hh).toS (by omega) S hSf res vs.length 0 _ #[] c₁ rfl (y21 _) hst hS₁ (ItemsOf.nil _) fun s' acc' c' hm hS' hacc=>?_
  rw[Moved.eq_with hm]
  have hacc':acc'.toList=vs:=by
   refine List.ext_getElem? fun i=>?_
   rw[Array.getElem?_toList]
   rcases Nat.lt_or_ge i acc'.size with q|q
   ·rw[y1o q,hacc.2 i _ (y1o q)]
   ·rw[Array.getElem?_eq_none q,List.getElem?_eq_none (by rw[<- hacc.1];exact q)]
  refine hR s'.heap s'.toks d' acc' c' ks' (fun b o hb e=>hm.heap b o (fun hmem=>?_) (hk b o hb e)) hS' (hacc'▸hv) hp
  rcases y09.mp hmem with e'|hmem
  ·exact hb e'
  ·exact absurd (y0c e) (by rw[y0z.mp hmem];exact Nat.not_lt.mpr hI)
 have hS₁:=kp S _ hS
 refine y02 (y2f (zn9 (SetK.typeIs (s:={ s with heap:=h',drawn:=d' }) (hS0.at' fun o e=>kp _ o e)) ?_))
 refine wpAny_ite_split (fun _=>?_) (fun _=>y06 ⟨plainId_quiet PySem.F.plain_extend_loop _,key _ c₀ _ st (fun b o _ e=>kp b o e) hS₁⟩)
 refine y02 (wpAny_rule ?_)
 refine y02 ?_
 show y0u _ _ (updateSeq S (·.push .none) >>= fun _=>updateSeq S (·.pop)) _ _ _
 refine y02 (wpAny_updateSeq hS₁ rfl ?_)
 have hS₂:=Heap.get?_update_self (Obj.mapSeq (·.push Value.none)) hS₁ rfl
 refine wpAny_updateSeq (hz:=by seq_fits) hS₂ rfl ?_
 have hS₃:=Heap.get?_update_self (Obj.mapSeq (·.pop)) hS₂ rfl
 refine y06 ⟨plainId_quiet PySem.F.plain_extend_loop _,key _ _ _ ?_ (fun b o hb e=>?_) hS₃⟩
 ·refine (W A.in1 hh).frame 0 _ _ st fun b hb o e=>?_
  have hbS:b≠S:=fun h=>hSf (h▸hb)
  exact (y31 _ _ (Ne.symm hbS)).trans ((y31 _ _ (Ne.symm hbS)).trans e)
 ·exact (y31 _ _ (Ne.symm hb)).trans ((y31 _ _ (Ne.symm hb)).trans (kp b o e))
theorem zfj {R:List Value->y04->Prop} (hh:A.handled=none) (hS:SetK knd s.heap a ks)
  (h:∀(h':Heap) (tk:Nat) (d:Drawn) (vs:List Value) (ks':List K),(∀b o,s.heap.get? b=some o->h'.get? b=some o)->s.heap.objs.size<=h'.objs.size->Paired (IsV knd) vs ks'->ks'.Perm ks->R vs { s with heap:=h',toks:=tk,drawn:=d }) :
  y0u (y2w prog w) A (collect (.ref a)) R E s:=by
 have hlt:=hS.lt
 unfold collect
 refine y02 (wpAny_runValue (y2m entry_proto_collect' ?_))
 rw[y1u PySem.F.plain_proto_collect _]
 show y0u _ A.in1 (newList [] >>= fun l=>again (.builtin "list.__iadd__" ⟨[l,.ref a],[]⟩)) _ _ s
 refine y02 (y2n ?_)
 refine y06 ⟨plainId_quiet PySem.F.plain_list_iadd _,y2m entry_list_iadd' ?_⟩
 rw[y1u PySem.F.plain_list_iadd _]
 have hS₁:(s.heap.push { cls:=.type "list",data:=.seq ([]:List Value).toArray }).get? s.heap.objs.size=some { cls:=.type "list",data:=.seq #[] }:=y0l _ rfl
 show y0u _ A.in1 (Builtin.List.listExtendWith (.ref s.heap.objs.size) (.ref a) (.ref s.heap.objs.size)) _ _ _
 have key:=zi6 (knd:=knd) (A:=A) (s:={ s with heap:=s.heap.push { cls:=.type "list",data:=.seq ([]:List Value).toArray } }) (ks:=ks)
  (R:=fun (q:Result) (s':y04)=>∃(h':Heap) (tk:Nat) (d:Drawn) (acc':Array Value) (c':Nat) (ks':List K),q=.ok (.ret (.ref s.heap.objs.size))/\s'={ s with heap:=h',toks:=tk,drawn:=d } /\
   (∀b o,s.heap.get? b=some o->h'.get? b=some o)/\h'.get? s.heap.objs.size=some { cls:=.type "list",dict:=none,data:=.seq acc' c',slots:=#[] }/\Paired (IsV knd) acc'.toList ks'/\ks'.Perm ks)
  hh (hS.at' fun o e=>y03 _ e) s.heap.objs.size (y16 hlt) (.ref s.heap.objs.size) 0 hS₁
  (fun h' tk d acc' c' ks' hk hS' hv hp=>⟨h',tk,d,acc',c',ks',rfl,rfl,fun b o e=>hk b o (y0y (y0c e)) (y03 _ e),hS',hv,hp⟩)
 refine y1e key (fun fin s' x=>?_) fun e s' x=>?_
 ·cases fin with
  | done f =>
   obtain⟨h',tk,d,acc',c',ks',e,rfl,hk,hS',hv,hp⟩:=x
   cases e
   show y0u _ A (load s.heap.objs.size >>= _) _ _ _
   refine y02 (wpAny_load hS' ?_)
   exact y06 (h h' tk d _ ks' hk (Nat.le_of_lt (y0c hS')) hv hp)
  | again c₁ =>
   refine⟨x.1,y2o x.2 fun q s₂ y=>?_⟩
   obtain⟨h',tk,d,acc',c',ks',rfl,rfl,hk,hS',hv,hp⟩:=y
   show y0u _ A (load s.heap.objs.size >>= _) _ _ _
   refine y02 (wpAny_load hS' ?_)
   exact y06 (h h' tk d _ ks' hk (Nat.le_of_lt (y0c hS')) hv hp)
 ·obtain⟨_,_,_,_,_,_,e',_⟩:=x
  cases e'
end
end
section
variable [Tbl]
theorem z58 {α:Type} {r:α->α->Prop} (anti:∀a b,r a b->r b a->a=b):∀{l m:List α},l.Perm m->l.Pairwise r->m.Pairwise r->l=m
 | [],m,p,_,_=>(List.Perm.nil_eq p)
 | a::l,m,p,h1,h2=>by
  cases m with
  | nil=>exact absurd p.length_eq (by simp)
  | cons b m =>
   have hab:a=b:=by
    have ha:a∈b::m:=p.mem_iff.mp (by simp)
    have hb:b∈a::l:=p.mem_iff.mpr (by simp)
    rcases y09.mp ha with q|q
    ·exact q
    ·rcases y09.mp hb with z|z
     ·exact z.symm
     ·exact anti a b ((y19.mp h1).1 b z) ((y19.mp h2).1 a q)
   subst hab
   rw[z58 anti (List.perm_cons a |>.mp p) (y19.mp h1).2 (y19.mp h2).2]
theorem insI_perm (x:Int):∀l:List Int,(insI x l).Perm (x::l)
 | []=>.rfl
 | y::ys=>by
  unfold insI
  split
  ·exact .rfl
  ·exact ((insI_perm x ys).cons y).trans (.swap _ _ _)
theorem sortI_perm:∀l:List Int,(sortI l).Perm l
 | []=>.rfl
 | x::xs=>(insI_perm x _).trans ((sortI_perm xs).cons x)
theorem zkq (x:Int):∀{l:List Int},l.Pairwise (·<=·)->(insI x l).Pairwise (·<=·)
 | [],_=>by simp[insI]
 | y::ys,h=>by
  unfold insI
  have h':=y19.mp h
  split
  next q=>exact y19.mpr ⟨fun z hz=>by
   rcases y09.mp hz with rfl|hz
   ·exact q
   ·exact Int.le_trans q (h'.1 z hz),h⟩
  next q=>exact y19.mpr ⟨fun z hz=>by
   rcases y09.mp ((insI_perm x ys).mem_iff.mp hz) with rfl|hz
   ·omega
   ·exact h'.1 z hz,zkq x h'.2⟩
theorem zav:∀l:List Int,(sortI l).Pairwise (·<=·)
 | []=>.nil
 | x::xs=>zkq x (zav xs)
theorem zg7 {l m:List Int} (p:l.Perm m) (h:l.Pairwise (·<=·)):l=sortI m:=z58 (fun a b h1 h2=>Int.le_antisymm h1 h2) (p.trans (sortI_perm m).symm) h (zav m)
theorem z8n {l m:List Int} (p:l.Perm m):sortI l=sortI m:=zg7 ((sortI_perm l).trans p) (zav l)
abbrev sLe (x y:Str):Prop:=strLt y x=false
theorem zm5 (x y:Str):strLt x y=ltCps x.cps.toList y.cps.toList:=(ltCps_eq _ _).symm
theorem zca {x y:Str} (h:strLt x y=true):sLe x y:=by
 unfold sLe strLt at *
 simp only[decide_eq_true_eq,decide_eq_false_iff_not] at *
 exact List.lt_asymm h
theorem zc9 {x y z:Str} (h1:sLe x y) (h2:sLe y z):sLe x z:=by
 unfold sLe strLt at *
 simp only[decide_eq_false_iff_not] at *
 exact List.not_lt.mpr (List.le_trans (List.not_lt.mp h1) (List.not_lt.mp h2))
theorem zg9 {x y:Str} (h1:sLe x y) (h2:sLe y x):x=y:=by
 unfold sLe strLt at *
 simp only[decide_eq_false_iff_not] at *
 have e:x.cps.toList=y.cps.toList:=List.le_antisymm (List.not_lt.mp h1) (List.not_lt.mp h2)
 cases x
 cases y
 simp only[Array.toList_inj] at e
 exact congrArg _ e
theorem zjf {x y:Str} (h:¬sLe x y):strLt y x=true:=by
 unfold sLe at h
 simpa using h
theorem z98 (x:Str):∀l:List Str,(insS x l).Perm (x::l)
 | []=>.rfl
 | y::ys=>by
  unfold insS
  split
  ·exact .rfl
  ·exact ((z98 x ys).cons y).trans (.swap _ _ _)
theorem z3m:∀l:List Str,(z5g l).Perm l
 | []=>.rfl
 | x::xs=>(z98 x _).trans ((z3m xs).cons x)
theorem zkp (x:Str):∀{l:List Str},l.Pairwise sLe->(insS x l).Pairwise sLe
 | [],_=>by simp[insS]
 | y::ys,h=>by
  unfold insS
  have h':=y19.mp h
  split
  next q =>
   have q':sLe x y:=by simpa [sLe] using q
   exact y19.mpr ⟨fun z hz=>by
    rcases y09.mp hz with rfl|hz
    ·exact q'
    ·exact zc9 q' (h'.1 z hz),h⟩
  next q =>
   have q':strLt y x=true:=by simpa using q
   exact y19.mpr ⟨fun z hz=>by
    rcases y09.mp ((z98 x ys).mem_iff.mp hz) with rfl|hz
    ·exact zca q'
    ·exact h'.1 z hz,zkp x h'.2⟩
theorem z88:∀l:List Str,(z5g l).Pairwise sLe
 | []=>.nil
 | x::xs=>zkp x (z88 xs)
theorem zau {l m:List Str} (p:l.Perm m) (h:l.Pairwise sLe):l=z5g m:=z58 (fun a b h1 h2=>zg9 h1 h2) (p.trans (z3m m).symm) h (z88 m)
theorem z8m {l m:List Str} (p:l.Perm m):z5g l=z5g m:=zau ((z3m l).trans p) (z88 l)
theorem za6:∀(l:List Str) (p:Str),risingS p l=true->(p::l).Pairwise sLe
 | [],p,_=>by simp
 | x::r,p,h=>by
  simp only[risingS,y1c,Bool.not_eq_true'] at h
  have ih:=za6 r x h.2
  have hpx:sLe p x:=by
   unfold sLe
   rw[zm5]
   exact h.1
  refine y19.mpr ⟨fun z hz=>?_,ih⟩
  rcases y09.mp hz with rfl|hz
  ·exact hpx
  ·exact zc9 hpx ((y19.mp ih).1 z hz)
theorem zh9 {l:List Str} (h:sortedS l=true):l.Pairwise sLe:=by
 cases l with
 | nil=>exact .nil
 | cons x r=>exact za6 r x h
section
variable {K:Type} [DecidableEq K]
theorem zns {ks:List K} {k x:K}:x∈addK ks k <-> x∈ks\/x=k:=by
 unfold addK
 split
 next h =>
  constructor
  ·exact .inl
  ·rintro (q|rfl)
   ·exact q
   ·exact h
 next=>simp
theorem zis {ks:List K} {k:K} (h:ks.Nodup):(addK ks k).Nodup:=by
 unfold addK
 split
 ·exact h
 next q=>exact List.nodup_append.mpr ⟨h,by simp,fun a ha b hb=>by simp at hb;subst hb;rintro rfl;exact q ha⟩
theorem foldl_addK:∀(ks acc:List K),acc.Nodup->(ks.foldl addK acc).Nodup/\∀x,x∈ks.foldl addK acc <-> x∈acc\/x∈ks
 | [],acc,h=>⟨h,by simp⟩
 | k::ks,acc,h=>by
  obtain⟨h1,h2⟩:=foldl_addK ks (addK acc k) (zis h)
  refine⟨h1,fun x=>?_⟩
  rw[List.foldl_cons,h2,zns,y09,or_assoc]
theorem z75 {x:K}:∀{l:List K},x∈dedup l <-> x∈l
 | []=>by simp[dedup]
 | y::ys=>by
  unfold dedup
  simp only[y09,List.mem_filter,z75 (l:=ys),decide_eq_true_eq,ne_eq]
  by_cases e:x=y <;> simp[e]
theorem z59:∀(l:List K),(dedup l).Nodup
 | []=>by simp[dedup]
 | y::ys=>by
  unfold dedup
  refine y0r.mpr ⟨by simp,(z59 ys).sublist List.filter_sublist⟩
theorem zb2 {l m:List K} (h1:l.Nodup) (h2:m.Nodup) (h:∀x,x∈l <-> x∈m):l.Perm m:=(List.perm_ext_iff_of_nodup h1 h2).mpr h
theorem z7w (ks:List K):(z1i ks).Perm (dedup ks):=by
 obtain⟨h1,h2⟩:=foldl_addK ks [] .nil
 exact zb2 h1 (z59 ks) fun x=>by
  unfold z1i
  rw[h2,z75]
  simp
theorem zap {J:Type} [DecidableEq J] (f:J->K) (hf:∀a b,f a=f b->a=b) (l:List J):z1i (l.map f)=(z1i l).map f:=by
 have key:∀(l acc:List J),(l.map f).foldl addK (acc.map f)=(l.foldl addK acc).map f:=by
  intro l
  induction l with
  | nil=>intro acc;rfl
  | cons x r ih =>
   intro acc
   rw[y0d,List.foldl_cons,List.foldl_cons,<- ih]
   congr 1
   unfold addK
   have:f x∈acc.map f <-> x∈acc:=by
    rw[y0m]
    exact⟨fun⟨a,ha,e⟩=>hf a x e▸ha,fun h=>⟨x,h,rfl⟩⟩
   by_cases q:x∈acc
   ·rw[if_pos q,if_pos (this.mpr q)]
   ·rw[if_neg q,if_neg (fun z=>q (this.mp z)),List.map_append]
    rfl
 exact key l []
end
end
section
variable [Tbl]
section
variable {prog:y0q} {w:World} {A:Around} {E:Value->y04->Prop} {s:y04}
inductive Srt:List Value->List Value->Prop where
 | ofI {vs out:List Value} {ns:List Int}:IntsAre vs ns->IntsAre out (sortI ns)->Srt vs out
 | ofS {vs out:List Value} {ss:List Str}:StrsAre vs ss->StrsAre out (z5g ss)->Srt vs out
def z8f (vs:List Value):Prop:=vs.length<64/\((∃ns,IntsAre vs ns)\/∃ss,StrsAre vs ss)
theorem sortedHeap_at {h:Heap} {a:Addr} {vs:List Value} {n:Nat} {out:Array Value} (ho:h.get? a=some (seqObj "list" vs.toArray n)) :
  (∃e,(sortedHeap h a vs out).get? a=some (seqObj "list" out e))/\∀b o,b≠a->h.get? b=some o->(sortedHeap h a vs out).get? b=some o:=by
 have hlt:=y0c ho
 unfold sortedHeap
 refine⟨?_,fun b o hb e=>?_⟩
 ·have h1:=get?_update_seq ho (fun _=>(#[]:Array Value))
  have h2:=y03 (seqObj "tuple" vs.toArray 0) h1
  have h3:=y03 (seqObj "list" #[] 0) h2
  exact⟨_,get?_update_seq h3 (fun _=>out)⟩
 ·rw[y31 _ _ (Ne.symm hb)]
  exact y03 _ (y03 _ ((y31 _ _ (Ne.symm hb)).trans e))
theorem zj7 {a:Addr} {vs:List Value} {n:Nat} {P:Fin->y04->Prop} (ho:s.heap.get? a=some (seqObj "list" vs.toArray n)) (hs:z8f vs)
  (h:∀out:Array Value,Srt vs out.toList->P (.done (.ret .none)) { s with heap:=sortedHeap s.heap a vs out }):y0u (y2w prog w) A (Builtin.«list.sort» ⟨[.ref a],[]⟩) P E s:=by
 obtain⟨h64,⟨ns,hI⟩|⟨ss,hS⟩⟩:=hs
 ·refine list_sort_tree ho hI h64 fun out ns' a1 a2 a3=>h out (.ofI hI ?_)
  rw[<- zg7 a2 a3]
  exact a1
 ·refine list_sort_treeK strKind_oneLt ho hS.keysOf (fun v₁ v₂ rest e=>keyKind_strs (by rw[<- e];exact hS)) h64 fun st' hp hs=>?_
  obtain⟨ss',h1,h2,h3⟩:=sorted_out_str hS hp hs
  refine h _ (.ofS hS ?_)
  rw[<- zau h2 (zh9 h3)]
  exact h1
theorem zec {r:Addr} {C:List Value->Prop} {Q:Value->y04->Prop}
  (hcol:∀(E':Value->y04->Prop) (R:List Value->y04->Prop),(∀h' tk d vs,(∀b o,s.heap.get? b=some o->h'.get? b=some o)->s.heap.objs.size<=h'.objs.size->C vs->R vs { s with heap:=h',toks:=tk,drawn:=d })->y0u (y2w prog w) A.in1 (collect (.ref r)) R E' s)
  (hC:∀vs,C vs->z8f vs)
  (h:∀h' tk d D e vs out,C vs->Srt vs out->(∀b o,s.heap.get? b=some o->h'.get? b=some o)->s.heap.objs.size<=D->h'.get? D=some (seqObj "list" out.toArray e)->Q (.ref D) { s with heap:=h',toks:=tk,drawn:=d }) :
  y0u (y2w prog w) A (call (.builtin "sorted") [.ref r]) Q E s:=by
 refine Calls.call_function_entry kind_sorted plain_sorted entry_sorted (args_sorted1 _) ?_
 unfold Builtin.«sorted»
 refine y02 (m:=checkCount "sorted" 1 1 _) (y06 ?_)
 refine y02 (hcol _ _ fun h' tk d vs kp hsz c=>?_)
 have hs:=hC vs c
 have hz:vs.length<=y0j:=by
  have:=hs.1
  rw[sizeLine_eq]
  omega
 refine y02 (wpAny_newList ?_ hz)
 have hoL:(h'.push (seqObj "list" vs.toArray 0)).get? h'.objs.size=some (seqObj "list" vs.toArray 0):=y0l _ rfl
 refine y02 (y2f (y2p slot_list_sort ⟨_,hoL,rfl⟩ entry_list_sort (zj7 hoL hs fun out so=>⟨_,rfl,?_⟩) (args_list_sort _)))
 obtain⟨⟨e,he⟩,hk⟩:=sortedHeap_at (out:=out) hoL
 refine y06 ⟨_,rfl,?_⟩
 exact h _ tk d h'.objs.size e vs out.toList c so (fun b o q=>hk b o (y0y (y0c (kp b o q))) (y03 _ (kp b o q))) hsz he
theorem zh8 {K:Type} [DecidableEq K] {knd:PySem.KeyKind prog w K} {a:Addr} {ks:List K} {Q:Value->y04->Prop} (hh:A.handled=none) (hS:SetK knd s.heap a ks)
  (hC:∀vs ks',Paired (IsV knd) vs ks'->ks'.Perm ks->z8f vs)
  (h:∀h' tk d D e vs out ks',Paired (IsV knd) vs ks'->ks'.Perm ks->Srt vs out->(∀b o,s.heap.get? b=some o->h'.get? b=some o)->s.heap.objs.size<=D->h'.get? D=some (seqObj "list" out.toArray e)->Q (.ref D) { s with heap:=h',toks:=tk,drawn:=d }) :
  y0u (y2w prog w) A (call (.builtin "sorted") [.ref a]) Q E s:=by
 refine zec (C:=fun vs=>∃ks',Paired (IsV knd) vs ks'/\ks'.Perm ks) (fun E' R hR=>zfj hh hS fun h' tk d vs ks' kp hz hv hp=>hR h' tk d vs kp hz ⟨ks',hv,hp⟩) (fun vs ⟨ks',hv,hp⟩=>hC vs ks' hv hp) fun h' tk d D e vs out ⟨ks',hv,hp⟩ so kp hD he=>h h' tk d D e vs out ks' hv hp so kp hD he
end
section
variable {X:Cx} {pins:List (Addr×Obj)} {σ:L2.St} {H:Hp} {s:y04}
theorem zko {a:Addr} {o:HO} {t':Nat} {d':Drawn} {h':Heap} (I:Inv X pins σ H s) (k:∀b u,s.heap.get? b=some u->h'.get? b=some u) (hp:s.heap.objs.size<=a) (new:z6q X.prog X.w (upd H a o) h' a o) :
  Inv X pins σ (upd H a o) { s with heap:=h',toks:=t',drawn:=d' } :=
 I.call (ch:=[]) (g':=s.gens) (Un.laid k hp (I.hok.fresh hp)) (I.hok.laid k hp new) I.bare fun _ z=>nomatch z
theorem z96:∀{us:List Value} {ns:List Int},IntsAre us ns->Vals (ns.map V.int) us
 | _,_,.nil=>.nil
 | _,_,.cons n t r=>.cons ⟨t,rfl⟩ (z96 r)
theorem z8i:∀{us:List Value} {ss:List Str},StrsAre us ss->Vals (ss.map V.str) us
 | _,_,.nil=>.nil
 | _,_,.cons n t r=>.cons ⟨t,rfl⟩ (z8i r)
theorem z6r:∀{us:List Value} {ks:List L2.Key},Vals (ks.map kV) us->Paired (IsV (z2o X.prog X.w)) us ks
 | [],[],_=>.nil
 | _,.inl i::ks,.cons r rs=>by
  obtain⟨t,rfl⟩:=r
  exact .cons ⟨zfa _ _ i t,rfl⟩ (z6r rs)
 | _,.inr x::ks,.cons r rs=>by
  obtain⟨t,rfl⟩:=r
  exact .cons ⟨zf9 _ _ x t,rfl⟩ (z6r rs)
theorem z95:∀{us:List Value} {ks:List L2.Key} {ns:List Int},Paired (IsV (z2o X.prog X.w)) us ks->ks=ns.map Sum.inl->IntsAre us ns
 | _,_,[],.nil,_=>.nil
 | _,_,n::ns,.cons a b,e=>by
  cases e
  have a1:=a.1
  rw[zae] at a1
  rcases z16 a1 with ⟨i,t,e1,rfl⟩|⟨x,t,e1,rfl⟩
  ·cases e1
   exact .cons _ t (z95 b rfl)
  ·cases e1
theorem z94:∀{us:List Value} {ks:List L2.Key} {ss:List Str},Paired (IsV (z2o X.prog X.w)) us ks->ks=ss.map Sum.inr->StrsAre us ss
 | _,_,[],.nil,_=>.nil
 | _,_,n::ns,.cons a b,e=>by
  cases e
  have a1:=a.1
  rw[zae] at a1
  rcases z16 a1 with ⟨i,t,e1,rfl⟩|⟨x,t,e1,rfl⟩
  ·cases e1
  ·cases e1
   exact .cons _ t (z94 b rfl)
theorem z4m {α β:Type} (f:α->β):∀{l:List α} {m:List β},m.Perm (l.map f)->∃l':List α,m=l'.map f/\l'.Perm l:=by
 intro l m p
 generalize hx:l.map f=lf at p
 induction p generalizing l with
 | nil =>
  rw[List.map_eq_nil_iff] at hx
  subst hx
  exact⟨[],rfl,.rfl⟩
 | cons x _ ih =>
  cases l with
  | nil=>cases hx
  | cons a r =>
   simp only[y0d,List.cons.injEq] at hx
   obtain⟨l',e,q⟩:=ih hx.2
   exact⟨a::l',by rw[y0d,hx.1,e],q.cons a⟩
 | swap x y r =>
  match l,hx with
  | a::b::r',hx =>
   simp only[y0d,List.cons.injEq] at hx
   exact⟨b::a::r',by rw[y0d,y0d,hx.1,hx.2.1,hx.2.2],.swap _ _ _⟩
 | trans _ _ i1 i2 =>
  obtain⟨l1,e1,q1⟩:=i2 hx
  obtain⟨l2,e2,q2⟩:=i1 e1.symm
  exact⟨l2,e2,q2.trans q1⟩
def setO (X:Cx) (l:Addr) (ks:List L2.Key):HO:=.ext fun h=>SetK (z2o X.prog X.w) h l ks
theorem zla (hc:X.calm=true):z5j X (.type "set") (fun xs H Q=>∃p ks,xs=[.ref p]/\SqL X.K H p (ks.map kV)/\ks.length<64/\∀l,H l=none->Q (.ref l) (upd H l (setO X l (z1i ks)))):=by
 intro pins s σ H xs us Q I r h
 obtain⟨p,ks,rfl,hq,hz,q⟩:=h
 obtain⟨u,rfl,rx⟩:=vals1 r
 cases rx
 obtain⟨its,r',pl,hz'⟩:=I.list hq
 have hlen:=r'.length
 rw[y14] at hlen
 refine zi9 (knd:=z2o X.prog X.w) (ks:=ks) (I.ok.hd hc) pl.isList (z6r (by simpa using r')) (by simp only[y0h];unfold scanBound;omega) fun h' tk hS kp=>?_
 refine⟨.ref s.heap.objs.size,_,I.laid (t':=tk) (o:=setO X s.heap.objs.size (z1i ks)) (fun b o e=>kp b o (y0c e) e) (y0o _) ⟨hS,?_,fun h1 h2 x k=>x.at' k⟩,rfl,q _ (I.hok.fresh (y0o _))⟩
 obtain⟨es,ep,t,ks',ho,_⟩:=hS
 exact⟨_,ho⟩
def zha (ks:List L2.Key) (ys:List V):Prop:=(∃ns:List Int,ks=ns.map Sum.inl/\ys=(sortI ns).map V.int)\/∃ss:List Str,ks=ss.map Sum.inr/\ys=(z5g ss).map V.str
theorem zma {vs out:List Value} {ks ks':List L2.Key} {ys:List V} (hv:Paired (IsV (z2o X.prog X.w)) vs ks') (hp:ks'.Perm ks) (so:Srt vs out) (hk:zha ks ys):Vals ys out:=by
 rcases hk with ⟨ns,rfl,rfl⟩|⟨ss,rfl,rfl⟩
 ·obtain⟨ns',rfl,hp'⟩:=z4m Sum.inl hp
  have hI:=z95 hv rfl
  cases so with
  | ofI a b =>
   rename_i ms
   rw[<- z8n hp',show ns'=ms from ?_]
   ·exact z96 b
   ·rw[<- IntsAre.numsOf hI,<- IntsAre.numsOf a]
  | ofS a b =>
   cases a with
   | nil =>
    cases hI
    have:ns=[]:=List.Perm.eq_nil hp'.symm
    subst this
    exact z8i b
   | cons x t _=>cases hI
 ·obtain⟨ss',rfl,hp'⟩:=z4m Sum.inr hp
  have hS:=z94 hv rfl
  cases so with
  | ofS a b =>
   rename_i ms
   rw[<- z8m hp',show ss'=ms from ?_]
   ·exact z8i b
   ·rw[<- StrsAre.strs hS,<- StrsAre.strs a]
  | ofI a b =>
   cases a with
   | nil =>
    cases hS
    have:ss=[]:=List.Perm.eq_nil hp'.symm
    subst this
    exact z96 b
   | cons x t _=>cases hS
theorem zbc {vs:List Value} {ks ks':List L2.Key} {ys:List V} (hz:ks.length<64) (hv:Paired (IsV (z2o X.prog X.w)) vs ks') (hp:ks'.Perm ks) (hk:zha ks ys):z8f vs:=by
 refine⟨by rw[zaa hv,hp.length_eq];exact hz,?_⟩
 rcases hk with ⟨ns,rfl,_⟩|⟨ss,rfl,_⟩
 ·obtain⟨ns',rfl,_⟩:=z4m Sum.inl hp
  exact .inl ⟨_,z95 hv rfl⟩
 ·obtain⟨ss',rfl,_⟩:=z4m Sum.inr hp
  exact .inr ⟨_,z94 hv rfl⟩
theorem zj9 {ks:List L2.Key} {ys:List V} (h:zha ks ys):ys.length=ks.length:=by
 rcases h with ⟨ns,rfl,rfl⟩|⟨ss,rfl,rfl⟩
 ·simp[(sortI_perm ns).length_eq]
 ·simp[(z3m ss).length_eq]
theorem zdm (hc:X.calm=true):z5j X (.builtin "sorted") (fun xs H Q=>∃p ks ys,xs=[.ref p]/\H p=some (setO X p ks)/\ks.length<64/\zha ks ys/\∀l,H l=none->Q (.ref l) (upd H l (.lst ys))):=by
 intro pins s σ H xs us Q I r h
 obtain⟨p,ks,ys,rfl,hq,hz,hk,q⟩:=h
 obtain⟨u,rfl,rx⟩:=vals1 r
 cases rx
 have hS:SetK (z2o X.prog X.w) s.heap p ks:=(I.hok p _ hq).1
 refine zh8 (I.ok.hd hc) hS (fun vs ks' hv hp=>zbc hz hv hp hk) fun h' tk d D e vs out ks' hv hp so kp hD he=>?_
 exact⟨.ref D,_,zko I (o:=.lst ys) kp hD ⟨by rw[zj9 hk,sizeLine_eq];omega,out,e,zma hv hp so hk,he⟩,rfl,q _ (I.hok.fresh hD)⟩
end
end
section
variable [Tbl]
theorem z73:∀{ts:List T} {ns:List Int},intsOf ts=some ns->ts=ns.map .int
 | [],ns,e=>by
  cases e
  rfl
 | t::ts,ns,e=>by
  unfold intsOf at e
  split at e
  ·rename_i h
   cases h
  ·rename_i h
   cases h
   simp only[y07] at e
   obtain⟨r,e1,rfl⟩:=e
   rw[z73 e1]
   rfl
  ·cases e
theorem z6t:∀{ts:List T} {ss:List Str},strsOf ts=some ss->ts=ss.map .str
 | [],ns,e=>by
  cases e
  rfl
 | t::ts,ns,e=>by
  unfold strsOf at e
  split at e
  ·rename_i h
   cases h
  ·rename_i h
   cases h
   simp only[y07] at e
   obtain⟨r,e1,rfl⟩:=e
   rw[z6t e1]
   rfl
  ·cases e
section
variable {K:y00} {F:Addr->Prop} {H:Hp}
theorem z8r:∀(ns:List Int),RepL K F H (ns.map .int) (ns.map V.int)
 | []=>RepL.nil
 | n::ns=>RepL.cons (by simp[Rep]) (z8r ns)
theorem zce:∀(ns:List Str),RepL K F H (ns.map .str) (ns.map V.str)
 | []=>RepL.nil
 | n::ns=>RepL.cons (by simp[Rep]) (zce ns)
theorem z7d:∀{ns:List Int} {vs:List V},RepL K F H (ns.map .int) vs->vs=ns.map V.int
 | [],vs,h=>by simpa [RepL] using h
 | n::ns,vs,h=>by
  simp only[y0d,RepL,Rep] at h
  obtain⟨v,r,rfl,rfl,z⟩:=h
  rw[z7d z]
  rfl
theorem z7c:∀{ns:List Str} {vs:List V},RepL K F H (ns.map .str) vs->vs=ns.map V.str
 | [],vs,h=>by simpa [RepL] using h
 | n::ns,vs,h=>by
  simp only[y0d,RepL,Rep] at h
  obtain⟨v,r,rfl,rfl,z⟩:=h
  rw[z7c z]
  rfl
end
noncomputable def z1l:List T->Option T
 | [.list xs]=>if xs.length<64 then
   match intsOf xs with
   | some ns=>some (.list ((sortI (dedup ns)).map .int))
   | none=>(strsOf xs).map fun ss=>.list ((z5g (dedup ss)).map .str)
  else none
 | _=>none
section
variable {X:Cx} {a e:Expr} {es:List Expr} {f:Fe} {fs:List Fe} {p p2 pos pos2:Pos}
end
section
variable {prog:y0q} {w:World} {A:Around} {E:Value->y04->Prop} {s:y04}
theorem zhm (n:Nat):y1k ((n:Int) - 1) (-1) (-1)=n:=by
 unfold y1k
 rw[if_neg (by decide)]
 by_cases h:(n:Int) - 1 > -1
 ·rw[if_pos h]
  rw[show (- -1:Int)=1 by decide,Int.ediv_one]
  omega
 ·rw[if_neg h]
  omega
theorem zml (xs:Array Value):((List.range xs.size).filterMap fun (k:Nat)=>xs[((xs.size:Int) - 1+(k:Int)*(-1)).toNat]?).toArray=xs.toList.reverse.toArray:=by
 have h1:(fun (k:Nat)=>xs[((xs.size:Int) - 1+(k:Int)*(-1)).toNat]?)=fun k=>xs[(fun k=>xs.size - 1 - k) k]?:=by
  funext k
  have:((xs.size:Int) - 1+(k:Int)*(-1)).toNat=xs.size - 1 - k:=by omega
  rw[this]
 rw[h1]
 have h2:=List.filterMap_map (f:=fun k=>xs.size - 1 - k) (g:=fun i=>xs[i]?) (l:=List.range xs.size)
 have h3:(fun k=>xs[(fun k=>xs.size - 1 - k) k]?)=(fun i=>xs[i]?) ∘ fun k=>xs.size - 1 - k:=rfl
 rw[h3,<- h2,PySem.W.krv_range,List.filterMap_reverse,PySem.W.krv_all]
theorem z7g {t sl:Addr} {items:Array Value} {u:Tok} {Q:Value->y04->Prop} (ht:IsTup s.heap t items) (hs:s.heap.IsSliceOf sl .none .none (.int (-1) u))
  (h:Q (.ref s.heap.objs.size) { s with heap:=s.heap.push { cls:=.type "tuple",data:=.seq items.toList.reverse.toArray } })
  (hsz:items.size<=y0j):y0u (y2w prog w) A (getItem (.ref t) (.ref sl)) Q E s:=by
 have htake:sizeOk (.seq items.toList.reverse.toArray):=by
  show items.toList.reverse.toArray.size<=y0j
  simpa using hsz
 obtain⟨os,hos,hcs,hds⟩:=id hs
 have hTs:s.TypeIs (.ref sl) "slice":=⟨os,hos,hcs⟩
 unfold getItem
 try with_reducible refine y2f ?_
 first|refine y02 (y06 ?_)|skip
 refine y02 (wpAny_sequenceKey ht.typeIs (by decide) ?_)
 refine y02 (y2i (name:=Str.ofString "__getitem__") ht.typeIs y1i
  (y2p y1i ht.typeIs entry_tuple_getitem ?_ (args_tuple_getitem _ _)))
 show y0u _ _ (Builtin.Tuple.tupleItemsOf (.ref t) >>= _) _ _ s
 refine y02 (tupleItemsOf_ ht ?_)
 refine y02 (wpAny_typeOf hTs ?_)
 rw[if_pos (by decide)]
 refine y02 ?_
 unfold Builtin.Slice.sliceApplied Builtin.Slice.sliceFields
 refine y02 (y02 (y2h hos hds (x:=.none) rfl (y02 (y2h hos hds (x:=.none) rfl (y02 (y2h hos hds (x:=.int (-1) u) rfl (y06 ?_)))))))
 refine y02 (slicePart_int ?_)
 show y0u _ _ (if ((-1:Int) == 0)=true then _ else _) _ _ s
 rw[if_neg (by decide)]
 refine y02 (slicePart_none (y02 (slicePart_none (y02 (y06 ?_)))))
 show y0u _ _ (pure (((items.size:Int) - 1),(-1:Int),y1k ((items.size:Int) - 1) (-1) (-1))) _ _ s
 rw[zhm]
 refine y06 ?_
 show y0u _ _ (if (((items.size:Int) - 1) == 0 && (-1:Int) == 1 && items.size == items.size)=true then _ else _) _ _ s
 rw[if_neg (by simp),zml]
 first
  | exact y02 (m:=y13 _) (y2n (y06 ⟨_,rfl,y06 h⟩) htake)
  | exact y02 (m:=y13 _) (y2n (y02 (y06 (y06 ⟨_,rfl,y06 h⟩))) htake)
  | exact y02 (y02 (m:=y13 _) (y2n (y06 (y06 ⟨_,rfl,y06 h⟩)) htake))
  | exact y02 (y02 (m:=y13 _) (y2n (y06 ⟨_,rfl,y06 h⟩) htake))
end
theorem z7e {α β:Type} {R:α->β->Prop}:∀{l:List α} {ks:List β},Paired R l ks->Paired R l.reverse ks.reverse
 | _,_,.nil=>.nil
 | _,_,.cons a b=>by
  rw[List.reverse_cons,List.reverse_cons]
  exact z8v (z7e b) (.cons a .nil)
theorem z5p {K:y00} {F:Addr->Prop} {H:Hp}:∀{ts:List T} {vs:List V},RepL K F H ts vs->RepL K F H ts.reverse vs.reverse
 | [],vs,h=>by
  simp only[RepL] at h
  subst h
  exact RepL.nil
 | t::ts,vs,h=>by
  simp only[RepL] at h
  obtain⟨v,z,rfl,q,y⟩:=h
  rw[List.reverse_cons,List.reverse_cons]
  exact (z5p y).append (RepL.cons q RepL.nil)
section
variable {X:Cx} {e st:Expr} {te:TE} {f:Fe} {pos p2:Pos}
theorem neg1 {j:Nat} {p1 p0:Pos}:PE X (.UnaryOp .USub (.Constant (.int 1) j p1) p0) (tC (.int (-1))):=z0t (zr7 znw zo6) fun σ H Q h=>⟨1,rfl,h⟩
end
end
section
variable [Tbl]
section
variable {prog:y0q} {w:World} {K:Type} [DecidableEq K] {knd:PySem.KeyKind prog w K} {A:Around} {E:Value->y04->Prop} {s:y04}
set_option maxHeartbeats 3200000 in
theorem zfl {l:Addr} {items:Array Value} {ks:List K} {Q:Value->y04->Prop}
  (hh:A.handled=none) (hl:s.heap.IsTuple l items) (hi:Paired (IsV knd) items.toList ks) (hb:items.size+1<scanBound)
  (h:∀(h':Heap) (tk:Nat),SetK knd h' s.heap.objs.size (z1i ks)->(∀b o,b<s.heap.objs.size->s.heap.get? b=some o->h'.get? b=some o)->Q (.ref s.heap.objs.size) { s with heap:=h',toks:=tk }) :
  y0u (y2w prog w) A (call (.type "set") [.ref l]) Q E s:=by
 obtain⟨c,tl,hmro⟩:=PySem.F.called_set.mro
 have hmade:=PySem.F.called_set.made
 have hsub:=PySem.F.called_set.sub
 refine wpAny_call (codeAny_of_tree ?_)
 show y0u _ _ (callAny (.type "set") _) _ _ _
 refine y06 ⟨Code.quiet_builtin _ (by decide +kernel),y2m PySem.F.entry_type_call ?_⟩
 rw[Around.under_plain (weight_type_call_type "set" [.ref l] []) rfl]
 have h1:=PySem.F.called_set.notType
 have h2:=PySem.F.called_set.canCreate
 have hct:=PySem.F.typeCall_set_1 (.ref l)
 repeat (any_goals (first|assumption|wp_step))
 refine y2o (z9h (.ref l) (E:=E) (Q₁:=fun obj s₁=>obj=.ref s.heap.objs.size/\s₁={ s with heap:=s.heap.push { cls:=.type "set",dict:=none,data:=.set #[] 0 (.fresh 0 0 (!z2r w)) } }) ⟨rfl,rfl⟩) fun r s₁ hr=>?_
 cases r with
 | error e=>exact hr
 | ok fl =>
  cases fl with
  | ret obj =>
   obtain⟨rfl,rfl⟩:=hr
   have hS:(s.heap.push { cls:=.type "set",dict:=none,data:=.set #[] 0 (.fresh 0 0 (!z2r w)) }).get? s.heap.objs.size=some { cls:=.type "set",dict:=none,data:=.set #[] 0 (.fresh 0 0 (!z2r w)) }:=y0l _ rfl
   have hT:Shared.TypeIs { s with heap:=s.heap.push { cls:=.type "set",dict:=none,data:=.set #[] 0 (.fresh 0 0 (!z2r w)) } } (.ref s.heap.objs.size) "set":=⟨_,hS,rfl⟩
   have hli:=PySem.F.called_set.init.lookup
   have hbi:=PySem.F.called_set.init.bind (.ref s.heap.objs.size)
   repeat (any_goals (first|assumption|wp_step))
   refine y2o (codeAny_call_builtin (R:=wants (fun r s₂=>r=.none/\∃h' tk,s₂={ s with heap:=h',toks:=tk }/\SetK knd h' s.heap.objs.size (z1i ks) /\
     (∀b o,b<s.heap.objs.size->s.heap.get? b=some o->h'.get? b=some o)) E) PySem.F.called_set.init.plain PySem.F.entry_set_init (check_set_init_1 hT ?_)) fun r₂ s₂ hr₂=>?_
   ·obtain⟨ol,hol,hcl,nl,hdl⟩:=hl
    obtain⟨ocls,odict,odata,oslots⟩:=ol
    simp only at hcl hdl
    subst hcl
    subst hdl
    have hol':(s.heap.push { cls:=.type "set",dict:=none,data:=.set #[] 0 (.fresh 0 0 (!z2r w)) }).get? l=some { cls:=.type "tuple",dict:=odict,data:=.seq items nl,slots:=oslots }:=y03 _ hol
    have hsls:=PySem.F.sub_tuple_set
    have hslf:=PySem.F.sub_tuple_frozenset
    have hne:(Value.type "tuple" == Value.type "dict")=false:=by decide
    have hl1:(s.heap.push { cls:=.type "set",dict:=none,data:=.set #[] 0 (.fresh 0 0 (!z2r w)) }).IsTuple l items:=⟨_,hol',rfl,nl,rfl⟩
    unfold Builtin.«set.__init__» noKeywords Builtin.Frozenset.updateFrom
    generalize hPI:pyIter=PI
    wp_walk
    subst hPI
    refine y2k hl1 ?_
    refine y02 (wpAny_runValue ?_)
    have hlS:l<s.heap.objs.size:=y0c hol
    have hh3:A.in1.in1.in1.handled=none:=by simp[hh]
    have hneI:l≠(s.heap.push { cls:=.type "set",dict:=none,data:=.set #[] 0 (.fresh 0 0 (!z2r w)) }).objs.size:=by
     rw[y18]
     exact y0y (Nat.lt_succ_of_lt hlS)
    have hSf:s.heap.objs.size∉[(s.heap.push { cls:=.type "set",dict:=none,data:=.set #[] 0 (.fresh 0 0 (!z2r w)) }).objs.size,l]:=by
     rw[y18]
     simp only[y09,y0z,y25,or_false,not_or]
     exact⟨y0y (Nat.lt_succ_self _),y16 hlS⟩
    refine zc2 (knd:=knd) ((Walks.tuple hh3 _ l hneI items).toS) s.heap.objs.size hSf hi hb (items.size - 0) 0 _ (by omega) (y21 _)
     ⟨⟨_,y0l _ rfl,rfl,rfl⟩,(hl1.push _)⟩ ?hS0 ?hR
    case hS0 =>
     refine SetK.at' (zku (knd:=knd) (h:=s.heap)) fun o e=>y03 _ e
    case hR =>
     intro s' hm hS'
     obtain⟨h',g',d',tk',os'⟩:=s'
     have eg:g'=s.gens:=hm.gens
     have ed:d'=s.drawn:=hm.drawn
     have eo:os'=s.os:=hm.os
     subst eg
     subst ed
     subst eo
     show y0u _ _ _ _ _ _
     refine y06 ?_
     show y0u _ _ (ret Value.none) _ _ _
     refine y06 ⟨rfl,h',tk',rfl,hS',fun b o hb e=>?_⟩
     have hb1:b≠s.heap.objs.size:=y0y hb
     have hb2:b≠(s.heap.push { cls:=.type "set",dict:=none,data:=.set #[] 0 (.fresh 0 0 (!z2r w)) }).objs.size:=by
      rw[y18]
      exact y0y (Nat.lt_succ_of_lt hb)
     exact hm.heap b o (by simp only[y09,y0z,y25,or_false,not_or];exact⟨hb1,hb2⟩) (y03 _ (y03 _ e))
   ·cases r₂ with
    | error e=>exact hr₂
    | ok fl₂ =>
     cases fl₂ with
     | ret r =>
      obtain⟨rfl,h',tk,rfl,hS',hk'⟩:=hr₂
      repeat (any_goals (first|assumption|wp_step))
      exact h _ _ hS' hk'
     | _=>exact hr₂.elim
  | _=>exact hr.elim
end
end
section
variable [Tbl]
section
variable {X:Cx} {a b e:Expr} {es rest:List Expr} {f g:Fe} {fs:List Fe} {p p2 pos pos2:Pos}
theorem z2n {op:BoolOp} (h:PEv X a f):PEv X (.BoolOp op [a] pos) f:=zo5 h
theorem zst {op:BoolOp} (h:PEv X a f):PEv X (.BoolOp op [a] pos) f:=zo5 h
theorem z20 (ha:PEv X a f) (hb:PEv X (.BoolOp .And (b::rest) pos) g):PEv X (.BoolOp .And (a::b::rest) pos) (andV f g):=z0t (zrg ha hb) fun σ H Q ⟨F₀,H₀,O,F,ε,t,r,e,k⟩=>by
 simp only[andV,y01] at e
 obtain⟨x,ex,e⟩:=e
 refine⟨F₀,H₀,O,F,ε,x,r,ex,fun v F1 H1 x1 rx=>?_⟩
 split at e
 ·simp only[Rep] at rx
  refine⟨true,rx,?_⟩
  rw[if_pos rfl]
  exact⟨F₀,H₀,O,F1,ε,t,r.ext x1,e,fun v F' H' x2 q=>k v F' H' (x1.trans x2) q⟩
 ·cases e
  simp only[Rep] at rx
  refine⟨false,rx,?_⟩
  rw[if_neg (by decide)]
  exact k _ F1 H1 x1 (by simp[Rep])
 ·cases e
theorem q_or (ha:PEv X a f) (hb:PEv X (.BoolOp .Or (b::rest) pos) g):PEv X (.BoolOp .Or (a::b::rest) pos) (orV f g):=z0t (zsy ha hb) fun σ H Q ⟨F₀,H₀,O,F,ε,t,r,e,k⟩=>by
 simp only[orV,y01] at e
 obtain⟨x,ex,e⟩:=e
 refine⟨F₀,H₀,O,F,ε,x,r,ex,fun v F1 H1 x1 rx=>?_⟩
 split at e
 ·simp only[Rep] at rx
  refine⟨false,rx,?_⟩
  rw[if_neg (by decide)]
  exact⟨F₀,H₀,O,F1,ε,t,r.ext x1,e,fun v F' H' x2 q=>k v F' H' (x1.trans x2) q⟩
 ·cases e
  simp only[Rep] at rx
  refine⟨true,rx,?_⟩
  rw[if_pos rfl]
  exact k _ F1 H1 x1 (by simp[Rep])
 ·cases e
theorem zqr (ha:PEv X a f):PEv X (.UnaryOp .Not a pos) (notV f):=z0t (zra ha) fun σ H Q ⟨F₀,H₀,O,F,ε,t,r,e,k⟩=>by
 simp only[notV,y01] at e
 obtain⟨x,ex,e⟩:=e
 refine⟨F₀,H₀,O,F,ε,x,r,ex,fun v F1 H1 x1 rx=>?_⟩
 split at e
 ·cases e
  simp only[Rep] at rx
  exact⟨_,rx,k _ F1 H1 x1 (by simp[Rep])⟩
 ·cases e
theorem zo2 (hm:X.mg "list"=none) (ha:PAr X (e::es) fs) (hg:Gl X "list":=by rfl) (he:y0a (e::es) X.env=(false,eval e X.env)::y0a es X.env:=by rfl) (hpl:(y2g pos (y0a es X.env)).any (·.1)=false:=by rfl) :
  PEv X (.Call (.Name "list" p) (e::es) [] pos) (opN z9y fs):=z0t (z6y zdn hg hm (by decide +kernel) ha (he:=he) (hpl:=hpl)) (z8y (by
 intro O F H ts t vs Q d q e k
 unfold z9y at e
 split at e
 ·cases e
  cases q with
  | cons q1 q2 =>
   cases q2
   obtain⟨l0,ws,rfl,hl,hr⟩:=q1.tup
   refine⟨l0,ws,rfl,.inr hl,fun l hl1=>?_⟩
   have x1:=Ext.laidF (o:=.lst ws) d hl1
   refine k _ _ _ x1 ?_
   simp only[Rep]
   exact⟨l,ws,rfl,.inr rfl,.inl z0h,hr.ext x1⟩
 ·cases e
  cases q with
  | cons q1 q2 =>
   cases q2
   obtain⟨l0,ws,rfl,hl,hr⟩:=q1.lst
   refine⟨l0,ws,rfl,.inl (.inl hl),fun l hl1=>?_⟩
   have x1:=Ext.laidF (o:=.lst ws) d hl1
   refine k _ _ _ x1 ?_
   simp only[Rep]
   exact⟨l,ws,rfl,.inr rfl,.inl z0h,hr.ext x1⟩
 ·cases e))
def tOt (K:y00) (f:Ev->Option (Option Int)):TO:=fun σ H Q=>∃F₀ H₀ O F ε i,RelE K F₀ H₀ O F H ε σ/\f ε=some i/\∀F' H',Ext F H F' H'->Q i H'
theorem zoo {x:Option Expr} {t t':TO} (h:PO X x t) (k:∀σ H Q,t' σ H Q->t σ H Q):PO X x t':=fun pins s σ H Q I q=>h pins s σ H Q I (k σ H Q q)
theorem z3j:PO X none (tOt X.K optN):=zoo zp7 fun σ H Q ⟨F₀,H₀,O,F,ε,i,r,e,k⟩=>by
 cases e
 exact k F H (Ext.refl r.dom)
theorem z3i (h:PEr X a f):PO X (some a) (tOt X.K (opt f)):=zoo (zp6 h) fun σ H Q ⟨F₀,H₀,O,F,ε,i,r,e,k⟩=>by
 simp only[opt,y01] at e
 obtain⟨x,ex,e⟩:=e
 refine⟨F₀,H₀,O,F,ε,x,r,ex,fun v F1 H1 x1 rx=>?_⟩
 split at e
 ·cases e
  exact⟨_,rx.int,k F1 H1 x1⟩
 ·cases e
noncomputable def rSlW (K:y00):V->Option Int->Option Int->Hp->VK->Prop:=fun x lo hi H Q=>∃a xs,x=.ref a/\SqT K H a xs/\(HT.sIx xs.length 0 lo=0/\HT.sIx xs.length xs.length hi=xs.length)/\Q (.ref a) H
theorem z6i {prog:y0q} {w:World} {A:Around} {E:Value->y04->Prop} {s:y04} {t sl:Addr} {items:Array Value} {vl vu:Value} {lo hi:Option Int} {Q:Value->y04->Prop} (ht:IsTup s.heap t items) (hs:s.heap.IsSliceOf sl vl vu .none) (pl:IsPart vl lo) (pu:IsPart vu hi)
  (hw:HT.sIx items.size 0 lo=0/\HT.sIx items.size items.size hi=items.size) (h:Q (.ref t) s):y0u (y2w prog w) A (getItem (.ref t) (.ref sl)) Q E s:=by
 obtain⟨os,hos,hcs,hds⟩:=id hs
 have hTs:s.TypeIs (.ref sl) "slice":=⟨os,hos,hcs⟩
 unfold getItem
 try with_reducible refine y2f ?_
 first|refine y02 (y06 ?_)|skip
 refine y02 (wpAny_sequenceKey ht.typeIs (by decide) ?_)
 refine y02 (y2i (name:=Str.ofString "__getitem__") ht.typeIs y1i
  (y2p y1i ht.typeIs entry_tuple_getitem ?_ (args_tuple_getitem _ _)))
 show y0u _ _ (Builtin.Tuple.tupleItemsOf (.ref t) >>= _) _ _ s
 refine y02 (tupleItemsOf_ ht ?_)
 refine y02 (wpAny_typeOf hTs ?_)
 rw[if_pos (by decide)]
 refine y02 (HT.sliceApplied_gen hs pl pu ?_)
 rw[hw.1,hw.2]
 show y0u _ _ (if (((0:Nat):Int) == 0 && (1:Int) == 1 && (items.size - 0) == items.size)=true then _ else _) _ _ s
 rw[if_pos (by simp)]
 unfold Builtin.Tuple.tupleIsExact
 refine y02 (y02 (wpAny_typeOf ht.typeIs (y06 ?_)))
 rw[if_pos (by decide)]
 refine y02 (wpAny_rule ?_)
 exact y06 ⟨_,rfl,y06 h⟩
theorem zmc:SlR X (rSlW X.K):=by
 intro pins s σ H x v vl vu lo hi sl Q I rx hs pl pu h
 obtain⟨a,xs,rfl,hx,hw,q⟩:=h
 cases rx
 obtain⟨its,r,ht,hz⟩:=I.tuple hx
 have hlen:its.toArray.size=xs.length:=by rw[y0h];exact r.length.symm
 refine⟨"tuple",_,PyProof.Rows.slot_tuple_getitem.lookup,ht.typeIs,?_⟩
 exact z6i ht hs pl pu (by rw[hlen];exact hw) ⟨.ref a,H,I,rfl,q⟩
theorem zql (n d:Nat) (o:Option Int):D.sIx n d o=HT.sIx n d o:=by
 cases o with
 | none=>rfl
 | some v =>
  unfold D.sIx HT.sIx
  dsimp only
  split <;> omega
theorem zb0 {K:y00} {F:Addr->Prop} {H:Hp} {ts:List T} {vs:List V} (h:RepL K F H ts vs) (lo hi:Option Int):RepL K F H (cutZ ts lo hi) (cutV vs lo hi):=by
 unfold cutZ cutV
 simp only[zql,h.length]
 exact (h.drop _).take _
end
def z1m:List T->Option T
 | [.list xs]=>z1l [.list xs]
 | [.tuple xs]=>z1l [.list xs]
 | _=>none
section
variable {X:Cx} {a e:Expr} {f:Fe} {p p2 pos pos2:Pos}
theorem zl9 (hc:X.calm=true):z5j X (.type "set") (fun xs H Q=>∃p ks,xs=[.ref p]/\SqT X.K H p (ks.map kV)/\ks.length<64/\∀l,H l=none->Q (.ref l) (upd H l (setO X l (z1i ks)))):=by
 intro pins s σ H xs us Q I r h
 obtain⟨p,ks,rfl,hq,hz,q⟩:=h
 obtain⟨u,rfl,rx⟩:=vals1 r
 cases rx
 obtain⟨its,r',pl,hz'⟩:=I.tuple hq
 have hlen:=r'.length
 rw[y14] at hlen
 refine zfl (knd:=z2o X.prog X.w) (ks:=ks) (I.ok.hd hc) pl (z6r (by simpa using r')) (by simp only[y0h];unfold scanBound;omega) fun h' tk hS kp=>?_
 refine⟨.ref s.heap.objs.size,_,I.laid (t':=tk) (o:=setO X s.heap.objs.size (z1i ks)) (fun b o e=>kp b o (y0c e) e) (y0o _) ⟨hS,?_,fun h1 h2 x k=>x.at' k⟩,rfl,q _ (I.hok.fresh (y0o _))⟩
 obtain⟨es,ep,t,ks',ho,_⟩:=hS
 exact⟨_,ho⟩
theorem zqh (hc:X.calm=true) (ht:X.mg "set"=none) (ha:PEr X a f) (hg2:Gl X "set") (he:y0a [a] X.env=(false,eval a X.env)::y0a [] X.env) (hpl2:(y2g pos2 (y0a [] X.env)).any (·.1)=false) :
  PE X (.Call (.Name "set" p2) [a] [] pos2) (fun σ H Q=>∃F₀ H₀ O F ε xs,RelE X.K F₀ H₀ O F H ε σ/\(f ε=some (.list xs)\/f ε=some (.tuple xs))/\xs.length<64 /\
   ((∃ns,intsOf xs=some ns/\∀l F' H',Ext F H F' H'->H' l=some (setO X l (z1i (ns.map .inl)))->Q (.ref l) H')\/∃ss,strsOf xs=some ss/\∀l F' H',Ext F H F' H'->H' l=some (setO X l (z1i (ss.map .inr)))->Q (.ref l) H')) :=
 z0t (z6y (znu (zla hc) (zl9 hc)) hg2 ht (by decide +kernel) (z0n ha z19 he) (he:=he) (hpl:=hpl2)) fun σ H Q ⟨F₀,H₀,O,F,ε,xs,r,e,hz,h⟩=>by
 rcases e with e|e
 ·refine⟨F₀,H₀,O,F,ε,[.list xs],r,by simp[args,e],fun vs F1 H1 x1 q1=>.inl ?_⟩
  cases q1 with
  | cons q1 q2 =>
   cases q2
   obtain⟨l0,vs,rfl,hl,hr⟩:=q1.lst
   rcases h with ⟨ns,hn,h⟩|⟨ss,hn,h⟩
   ·have:=z73 hn
    subst this
    rw[z7d hr] at hl
    exact⟨l0,ns.map .inl,rfl,by simpa [kV,y17] using SqL.of' hl,by simpa using hz,fun l hl1=>h l F1 _ (x1.trans (Ext.laid x1.dom hl1)) z0h⟩
   ·have:=z6t hn
    subst this
    rw[z7c hr] at hl
    exact⟨l0,ss.map .inr,rfl,by simpa [kV,y17] using SqL.of' hl,by simpa using hz,fun l hl1=>h l F1 _ (x1.trans (Ext.laid x1.dom hl1)) z0h⟩
 ·refine⟨F₀,H₀,O,F,ε,[.tuple xs],r,by simp[args,e],fun vs F1 H1 x1 q1=>.inr ?_⟩
  cases q1 with
  | cons q1 q2 =>
   cases q2
   obtain⟨l0,vs,rfl,hl,hr⟩:=q1.tup
   rcases h with ⟨ns,hn,h⟩|⟨ss,hn,h⟩
   ·have:=z73 hn
    subst this
    rw[z7d hr] at hl
    exact⟨l0,ns.map .inl,rfl,by simpa [kV,y17] using hl,by simpa using hz,fun l hl1=>h l F1 _ (x1.trans (Ext.laid x1.dom hl1)) z0h⟩
   ·have:=z6t hn
    subst this
    rw[z7c hr] at hl
    exact⟨l0,ss.map .inr,rfl,by simpa [kV,y17] using hl,by simpa using hz,fun l hl1=>h l F1 _ (x1.trans (Ext.laid x1.dom hl1)) z0h⟩
where SqL.of' {K:y00} {H:Hp} {a:Addr} {xs:List V} (h:Rd H a (.lst xs)):SqL K H a xs:=.inl h
theorem ssA {ts:List T} {t:T} (e:z1m ts=some t):∃xs,(ts=[.list xs]\/ts=[.tuple xs])/\xs.length<64/\((∃ns,intsOf xs=some ns/\t=.list ((sortI (dedup ns)).map .int))\/∃ss,strsOf xs=some ss/\t=.list ((z5g (dedup ss)).map .str)):=by
 have key:∀xs,z1l [.list xs]=some t->xs.length<64/\((∃ns,intsOf xs=some ns/\t=.list ((sortI (dedup ns)).map .int))\/∃ss,strsOf xs=some ss/\t=.list ((z5g (dedup ss)).map .str)):=by
  intro xs e
  unfold z1l at e
  dsimp only at e
  split at e
  next hz =>
   split at e
   next ns hn =>
    cases e
    exact⟨hz,.inl ⟨ns,hn,rfl⟩⟩
   next =>
    simp only[y07] at e
    obtain⟨ss,hs,rfl⟩:=e
    exact⟨hz,.inr ⟨ss,hs,rfl⟩⟩
  next=>cases e
 unfold z1m at e
 split at e
 ·exact⟨_,.inl rfl,key _ e⟩
 ·exact⟨_,.inr rfl,key _ e⟩
 ·cases e
theorem z7q (hc:X.calm=true) (hs:X.mg "sorted"=none) (ht:X.mg "set"=none) (ha:PEr X a f) (hg:Gl X "sorted":=by rfl) (hg2:Gl X "set":=by rfl)
  (he:y0a [a] X.env=(false,eval a X.env)::y0a [] X.env:=by rfl) (he2:y0a [.Call (.Name "set" p2) [a] [] pos2] X.env=(false,eval (.Call (.Name "set" p2) [a] [] pos2) X.env)::y0a [] X.env:=by rfl)
  (hpl:(y2g pos (y0a [] X.env)).any (·.1)=false:=by rfl) (hpl2:(y2g pos2 (y0a [] X.env)).any (·.1)=false:=by rfl) :
  PEv X (.Call (.Name "sorted" p) [.Call (.Name "set" p2) [a] [] pos2] [] pos) (opN z1m [f]) :=
 z0t (zb3 (zdm hc) hg hs (by decide +kernel) (z5s (zqh hc ht ha hg2 he hpl2) z8w he2) (he:=he2) (hpl:=hpl)) fun σ H Q ⟨F₀,H₀,O,F,ε,t,r,e,k⟩=>by
 simp only[opN,args,y01,y07] at e
 obtain⟨ts,⟨t0,e0,us,eu,rfl⟩,e⟩:=e
 cases eu
 obtain⟨xs,hx,hz,h⟩:=ssA e
 have fx:f ε=some (.list xs)\/f ε=some (.tuple xs):=by
  rcases hx with h|h
  ·cases h
   exact .inl e0
  ·cases h
   exact .inr e0
 have ln:∀{J:Type} (ns:List J) (g:J->L2.Key),ns.length<64->(z1i (ns.map g)).length<64:=fun ns g h=>by
  have:=z4v (ns.map g) []
  simp only[y2a,y14] at this
  unfold z1i
  omega
 have fin:∀(ks:List L2.Key) (ys:List V) (rs:List T),ks.length<64->zha ks ys->(∀F' H',RepL X.K F' H' rs ys)->t=.list rs->∀l F' H',Ext F H F' H'->H' l=some (setO X l ks) ->
   tNil σ H' fun xs H2=>∃p ks ys,(V.ref l::xs)=[.ref p]/\H2 p=some (setO X p ks)/\ks.length<64/\zha ks ys/\∀l,H2 l=none->Q (.ref l) (upd H2 l (.lst ys)):=by
  intro ks ys rs h1 h2 h3 h4 l F' H' x hl
  subst h4
  refine⟨l,ks,ys,rfl,hl,h1,h2,fun l2 hl2=>?_⟩
  have x3:=Ext.laidF (o:=.lst ys) x.dom hl2
  refine k _ _ _ (x.trans x3) ?_
  simp only[Rep]
  exact⟨l2,ys,rfl,.inr rfl,.inl z0h,h3 _ _⟩
 refine⟨F₀,H₀,O,F,ε,xs,r,fx,hz,?_⟩
 rcases h with ⟨ns,hn,et⟩|⟨ss,hn,et⟩
 ·have hxs:=z73 hn
  refine .inl ⟨ns,hn,fin _ ((sortI (dedup ns)).map V.int) _ (ln ns _ (by rw[hxs] at hz;simpa using hz)) (.inl ⟨z1i ns,zap Sum.inl (fun _ _ h=>Sum.inl.inj h) ns,by rw[z8n (z7w ns)]⟩) (fun _ _=>z8r _) et⟩
 ·have hxs:=z6t hn
  refine .inr ⟨ss,hn,fin _ ((z5g (dedup ss)).map V.str) _ (ln ss _ (by rw[hxs] at hz;simpa using hz)) (.inr ⟨z1i ss,zap Sum.inr (fun _ _ h=>Sum.inr.inj h) ss,by rw[z8m (z7w ss)]⟩) (fun _ _=>zce _) et⟩
end
end
end D
end
section
namespace D
open PySem PySem.W PyProof.Rows
structure OrdK (n:Nat) (lt:Nat->Nat->Bool):Prop where
 asym:∀i j,lt i j=true->lt j i=false
 trans:∀i j k,lt i j=true->lt j k=true->lt i k=true
 tot:∀i j,i<n->j<n->i≠j->lt i j=true\/lt j i=true
def SP (lt:Nat->Nat->Bool) (p:Array Nat) (m:Nat):Prop:=∀i j,i<j->j<m->lt (p.getD i 0) (p.getD j 0)=true
def DP (lt:Nat->Nat->Bool) (p:Array Nat) (m:Nat):Prop:=∀i j,i<j->j<m->lt (p.getD j 0) (p.getD i 0)=true
section
variable {n:Nat} {lt:Nat->Nat->Bool} (O:OrdK n lt)
include O
end
end D
end
section
namespace D
open PySem
variable [Tbl]
end D
end
section
namespace D
open PySem PySem.Spec PyProof.Rows L2
section
variable [Tbl]
open PySem.W (kas_ask kas_sort kat_run kat_snds kat_lt kat_kind KatTups KatLex KatGo kas_item KasT)
section
variable {prog:y0q} {w:World} {A:Around} {E:Value->y04->Prop} {s:y04}
end
section
variable {X:Cx}
variable {e:Expr} {es:List Expr} {fs:List Fe} {p pos:Pos}
end
end
section
variable [Tbl]
section
variable {prog:y0q} {w:World} {K:Type} [DecidableEq K] {knd:PySem.KeyKind prog w K} {A:Around}
variable {R:Result->y04->Prop} {I:Addr} {fp wr:List Addr} {G:Array GenState->Array GenState->Prop} {St:Nat->y04->Prop} {items:Array Value}
variable {E:Value->y04->Prop} {s:y04}
end
end
section
variable [Tbl]
section
variable {X:Cx}
variable {a b e:Expr} {f g:Fe} {x y:Str} {p px py pos pos2:Pos}
end
end
section
variable [Tbl]
open AutoSeq1 (wpAny_loadPart')
section
variable {X:Cx} {es:List Expr} {k:Nat} {p pos p2:Pos} {a:Expr} {f:Fe}
end
end
section
variable [Tbl]
open AutoSeq1 (wpAny_loadPart')
section
variable {prog:y0q} {w:World} {A:Around} {E:Value->y04->Prop} {s:y04}
end
end
section
variable [Tbl]
section
variable {K:y00} {F:Addr->Prop} {H:Hp}
theorem za9:∀{bs:List Bool} {vs:List V},RepL K F H (bs.map .bool) vs->vs=bs.map V.bl
 | [],vs,h=>by simpa [RepL] using h
 | n::ns,vs,h=>by
  simp only[y0d,RepL,Rep] at h
  obtain⟨v,r,rfl,rfl,z⟩:=h
  rw[za9 z]
  rfl
end
section
variable {X:Cx} {a e:Expr} {es:List Expr} {f:Fe} {fs:List Fe} {p p2 pos pos2:Pos}
end
end
section
variable [Tbl]
mutual
noncomputable def ltD:T->T->Option Bool
 | .int a,.int b=>some (decide (a<b))
 | .tuple xs,.tuple ys=>lexD xs ys
 | _,_=>none
noncomputable def lexD:List T->List T->Option Bool
 | [],[]=>some false
 | [],_::_=>some true
 | _::_,[]=>some false
 | x::xs,y::ys=>if y1y x y then lexD xs ys else ltD x y
end
noncomputable def LtAt (A:Around) (s:y04) (y x:Value) (b:Bool):Prop :=
 ∀(prog:y0q) (w:World) (E:Value->y04->Prop) (Q:Value->y04->Prop),Q (.bool b) s->y0u (y2w prog w) A (richCompare .Lt y x) Q E s
inductive GoodP (A:Around) (s:y04) (fin:Bool):List (Value×Value)->Bool->Prop
 | nil:GoodP A s fin [] fin
 | eq {y x:Value} {r:List (Value×Value)} {b:Bool}:SeqAt.EqAt A s y x true->GoodP A s fin r b->GoodP A s fin ((y,x)::r) b
 | lt {y x:Value} {r:List (Value×Value)} {b:Bool}:SeqAt.EqAt A s y x false->LtAt A s y x b->GoodP A s fin ((y,x)::r) b
section
open PySem.SeqAt
open PySem.AutoSeq1 (wpAny_loadPart')
open PySem.MeetsSeq PySem.MeetsSeq2 PySem.MeetsSeq3
theorem zbu (l b:Addr) (items items2:Array Value) (n n2:Nat) (dd dd2:Option Addr) (sl sl2:Array (Option Value)) (z:Bool) :
  Meets (Builtin.«tuple.__lt__» ⟨[.ref l,.ref b],[]⟩)
   (fun A R s=>s.heap.get? l=some { cls:=.type "tuple",dict:=dd,data:=.seq items n,slots:=sl }/\s.heap.get? b=some { cls:=.type "tuple",dict:=dd2,data:=.seq items2 n2,slots:=sl2 } /\
    GoodP A.in1 s (decide (items.size<items2.size)) (items.toList.zip items2.toList) z/\R (.ok (.ret (.bool z))) s) :=
 .of_wp fun prog w A R s h=>by
  obtain⟨hp,g,d,tk,os⟩:=s;obtain⟨hl,hb,hg,h⟩:=h
  have f2:=AutoSeq1.sub_tuple_tuple
  wp_walk using wpAny_loadPart' hl,wpAny_loadPart' hb,wpAny_forIn_list _ (fun rest b s'=>b.1=none/\s'=⟨hp,g,d,tk,os⟩/\GoodP A.in1 ⟨hp,g,d,tk,os⟩ (decide (items.size<items2.size)) rest z) _
  case turn =>
   rintro⟨y,x⟩ rest b s' ⟨hb',rfl,hG⟩
   cases hG with
   | eq he hG =>
    refine y02 (he prog w _ _ ?_)
    wp_walk
    exact⟨rfl,rfl,hG⟩
   | lt he hlt =>
    refine y02 (he prog w _ _ ?_)
    have hri:=hlt prog w
    wp_walk using hri
    exact⟨_,rfl,h⟩
  case fin =>
   rintro⟨b1,b2⟩ s' ⟨hb',rfl,hG⟩
   simp only at hb'
   subst hb'
   cases hG
   wp_walk
   exact⟨_,rfl,by simpa [Builtin.Tuple.tupleCompareSizes] using h⟩
  case h =>
   exact⟨rfl,rfl,hg⟩
mutual
theorem zn1:∀(da db:T) (A:Around) (s:y04) (a b:Value) (as bs:List Addr) (r:Bool),Reads s.heap a da as->Reads s.heap b db bs->da.canLay0=true->db.canLay0=true->A.units+min da.depth db.depth<cLine->ltD da db=some r->LtAt A s a b r
 | .int i,.int j,A,s,_,_,_,_,r,.int _ t,.int _ u,_,_,_,e=>by
  unfold ltD at e
  cases e
  exact fun prog w E Q q=>(PyProof.Rows.lt_int q:y0u (y2w prog w) A (y2l .Lt (.int i t) (.int j u)) Q E s)
 | .tuple xs,.tuple ys,A,s,_,_,_,_,r,.tuple (a:=l) (o:=o) (vs:=vs) (n:=n) h1 h2 h3 h4,.tuple (a:=l') (o:=o') (vs:=vs') (n:=n') k1 k2 k3 k4,ha,hb,hu,e=>by
  unfold ltD at e
  simp only[PyData.canLay0] at ha hb
  simp only[y22] at hu
  have hG:=good_reads xs ys A.in1 s vs.toList vs'.toList _ _ r h4 k4 ha hb (room_in hu) e
  obtain⟨cls,dd,data,sl⟩:=o
  obtain⟨cls2,dd2,data2,sl2⟩:=o'
  simp only at h2 h3 k2 k3
  subst h2 h3 k2 k3
  rw[y1x,y1x] at hG
  exact fun prog w E Q q=>richCompare_meets_room (op:=.Lt) ⟨_,h1,rfl⟩ ⟨_,k1,rfl⟩ PySem.F.slot_tuple_lt PySem.F.entry_tuple_lt (PySem.F.args_tuple_lt_2 _ _) (zbu l l' vs vs' n n' dd dd2 sl sl2 r)
   ⟨h1,k1,hG,show Value.bool r≠Value.notImplemented/\Q (.bool r) s from ⟨(fun x=>nomatch x),q⟩⟩ (by omega)
 | .none,_,_,_,_,_,_,_,_,_,_,_,_,_,e=>by simp[ltD] at e
 | .bool _,_,_,_,_,_,_,_,_,_,_,_,_,_,e=>by simp[ltD] at e
 | .str _,_,_,_,_,_,_,_,_,_,_,_,_,_,e=>by simp[ltD] at e
 | .list _,_,_,_,_,_,_,_,_,_,_,_,_,_,e=>by simp[ltD] at e
 | .dict _,_,_,_,_,_,_,_,_,_,_,_,_,_,e=>by simp[ltD] at e
 | .int _,.none,_,_,_,_,_,_,_,_,_,_,_,_,e=>by simp[ltD] at e
 | .int _,.bool _,_,_,_,_,_,_,_,_,_,_,_,_,e=>by simp[ltD] at e
 | .int _,.str _,_,_,_,_,_,_,_,_,_,_,_,_,e=>by simp[ltD] at e
 | .int _,.list _,_,_,_,_,_,_,_,_,_,_,_,_,e=>by simp[ltD] at e
 | .int _,.dict _,_,_,_,_,_,_,_,_,_,_,_,_,e=>by simp[ltD] at e
 | .int _,.tuple _,_,_,_,_,_,_,_,_,_,_,_,_,e=>by simp[ltD] at e
 | .tuple _,.none,_,_,_,_,_,_,_,_,_,_,_,_,e=>by simp[ltD] at e
 | .tuple _,.bool _,_,_,_,_,_,_,_,_,_,_,_,_,e=>by simp[ltD] at e
 | .tuple _,.str _,_,_,_,_,_,_,_,_,_,_,_,_,e=>by simp[ltD] at e
 | .tuple _,.list _,_,_,_,_,_,_,_,_,_,_,_,_,e=>by simp[ltD] at e
 | .tuple _,.dict _,_,_,_,_,_,_,_,_,_,_,_,_,e=>by simp[ltD] at e
 | .tuple _,.int _,_,_,_,_,_,_,_,_,_,_,_,_,e=>by simp[ltD] at e
theorem good_reads:∀(xs ys:List T) (A:Around) (s:y04) (vs ws:List Value) (as bs:List Addr) (r:Bool),ReadsAll s.heap vs xs as->ReadsAll s.heap ws ys bs->y1h xs=true->y1h ys=true->A.units+min (y1f xs) (y1f ys)<cLine->lexD xs ys=some r->GoodP A s (decide (vs.length<ws.length)) (vs.zip ws) r
 | [],[],A,s,_,_,_,_,r,.nil,.nil,_,_,_,e=>by
  unfold lexD at e
  cases e
  exact .nil
 | [],_::_,A,s,_,_,_,_,r,.nil,.cons _ _,_,_,_,e=>by
  unfold lexD at e
  cases e
  exact GoodP.nil
 | _::_,[],A,s,_,_,_,_,r,.cons _ _,.nil,_,_,_,e=>by
  unfold lexD at e
  cases e
  exact GoodP.nil
 | x::xs,y::ys,A,s,_,_,_,_,r,.cons r1 r2,.cons q1 q2,ha,hb,hu,e=>by
  simp only[y1h,y1c] at ha hb
  simp only[y1f] at hu
  unfold lexD at e
  have he:=eqAt_reads x y A s _ _ _ _ r1 q1 ha.1 hb.1 (room_head hu)
  split at e
  next h =>
   rw[h] at he
   have ih:=good_reads xs ys A s _ _ _ _ r r2 q2 ha.2 hb.2 (room_tail hu) e
   rw[y1z]
   simp only[y0w,Nat.add_lt_add_iff_right]
   exact .eq he ih
  next h =>
   rw[Bool.not_eq_true] at h
   rw[h] at he
   rw[y1z]
   exact .lt he (zn1 x y A s _ _ _ _ r r1 q1 ha.1 hb.1 (room_head hu) e)
end
end
section
variable {prog:y0q} {w:World} {A:Around} {R:Result->y04->Prop} {I:Addr} {fp wr:List Addr} {G:Array GenState->Array GenState->Prop} {St:Nat->y04->Prop} {items:Array Value}
variable {E:Value->y04->Prop} {s:y04}
end
section
variable {X:Cx} {e:Expr} {es:List Expr} {fs:List Fe} {p pos:Pos}
end
end
section
variable [Tbl]
end
end D
end
section
namespace D
open PySem
inductive Ag where
 | v (f:Fe)|o (i:Nat)
abbrev Fx:=Ev->Option (T×Ev)
abbrev Fo:=Ev->Option Sl
def objF (c i:Nat) (ε:Ev):Option (Md×List Sl):=match ε[i]? with
 | some (some (.obj m c' fs))=>if c'=c then some (m,fs) else none
 | _=>none
def fld (c i j:Nat):Fe:=fun ε=>(objF c i ε).bind fun o=>match o.2[j]? with
 | some (.imm t)=>some t
 | some (.own ts)=>some (.list ts)
 | _=>none
def fldV (c i j:Nat):Fe:=fun ε=>(objF c i ε).bind fun o=>match o.2[j]? with
 | some (.imm t)=>some t
 | _=>none
def fldD (c i j:Nat):Ev->Option (List (Key×T)):=fun ε=>(objF c i ε).bind fun o=>match o.2[j]? with
 | some (.dic kvs)=>some kvs
 | _=>none
def fldL (c i j:Nat):Ev->Option (List T):=fun ε=>(objF c i ε).bind fun o=>match o.2[j]? with
 | some (.own ts)=>some ts
 | _=>none
def fGet (c i j:Nat) (k:Fe):Fe:=fun ε=>(k ε).bind fun t=>(keyOf t).bind fun k=>(fldD c i j ε).bind fun kvs=>getD kvs k
noncomputable def setF (c i j:Nat) (s:Sl) (ε:Ev):Option Ev:=(objF c i ε).bind fun o=>if o.1=.ro then none else
 if j<o.2.length then some (ε.set i (some (.obj o.1 c (o.2.set j s)))) else if j=o.2.length then some (ε.set i (some (.obj o.1 c (o.2++[s])))) else none
def asgF (c i j:Nat) (f:Fe):Fs:=fun ε=>(f ε).bind fun t=>(setF c i j (.imm t) ε).map .nx
def zlk (c i j:Nat) (f:Fe):Fs:=fun ε=>(f ε).bind fun t=>match t with
 | .list ts=>(setF c i j (.own ts) ε).map .nx
 | _=>none
def zeu:T->T->Option Int
 | .int i,.int j=>some (i+j)
 | _,_=>none
def augF (c i j:Nat) (f:Fe):Fs:=fun ε=>(fldV c i j ε).bind fun x=>(f ε).bind fun y=>(zeu x y).bind fun z=>(setF c i j (.imm (.int z)) ε).map .nx
def appF (c i j:Nat) (f:Fe):Fs:=fun ε=>(f ε).bind fun t=>(fldL c i j ε).bind fun ts=>if ts.length<big then (setF c i j (.own (ts++[t])) ε).map .nx else none
noncomputable def zjm (c i j:Nat) (k v:Fe):Fs:=fun ε=>(v ε).bind fun v=>(k ε).bind fun t=>(keyOf t).bind fun k=>(fldD c i j ε).bind fun kvs=>if kvs.length<big then (setF c i j (.dic (putD kvs k v)) ε).map .nx else none
noncomputable def zlj (c i j:Nat) (k v:Fe):Fs:=fun ε=>(k ε).bind fun t=>(keyOf t).bind fun k=>(fldD c i j ε).bind fun kvs=>(getD kvs k).bind fun x=>(v ε).bind fun y=>(zeu x y).bind fun z=>if kvs.length<big then (setF c i j (.dic (putD kvs k (.int z))) ε).map .nx else none
def zi2 (f g:Fi):Fi:=fun ε=>(f ε).bind fun a=>(g ε).map fun b=>List.zipWith (fun x y=>.tuple [x,y]) a b
def zk4 (c:Nat) (d:List Sl->Option T) (i:Nat) (fs:List Fe):Fe:=fun ε=>(objF c i ε).bind fun o=>(args fs ε).bind fun ts=>d (.obj .ro c o.2::ts.map .imm)
noncomputable def zk5 (c:Nat) (d:List Sl->Option (T×List Sl)) (i:Nat) (fs:List Fe):Fx:=fun ε=>(objF c i ε).bind fun o=>if o.1=.ro then none else (args fs ε).bind fun ts =>
 (d (.obj .lent c o.2::ts.map .imm)).map fun r=>(r.1,ε.set i (some (.obj o.1 c r.2)))
def exX (f:Fx):Fs:=fun ε=>(f ε).map fun r=>.nx r.2
def rtnX (f:Fx):Fs:=fun ε=>(f ε).map fun r=>.rtm r.1 r.2
def rtnM (f:Fe):Fs:=fun ε=>(f ε).map fun t=>.rtm t ε
def asgX (i:Nat) (f:Fx):Fs:=fun ε=>(f ε).map fun r=>.nx (r.2.set i (some (.imm r.1)))
def zjg:Fs:=fun ε=>some (.rtm .none ε)
def never:Fs:=fun _=>none
def z8k (n:Nat) (ss:List Sl):Ev:=ss.map some++y0g (n - ss.length) none
def runR (b:Fs) (n:Nat) (ss:List Sl):Option T:=(b (z8k n ss)).bind fun o=>match o with
 | .rt t=>some t
 | .nx _=>some .none
 | _=>none
def z92 (c p:Nat) (ε:Ev):Option (List Sl):=match ε[p]? with
 | some (some (.obj .lent c' fs))=>if c'=c then some fs else none
 | _=>none
noncomputable def runM (c p:Nat) (b:Fs) (n:Nat) (ss:List Sl):Option (T×List Sl):=(b (z8k n ss)).bind fun o=>match o with
 | .rtm t ε=>(z92 c p ε).map fun fs=>(t,fs)
 | .nx ε=>(z92 c p ε).map fun fs=>(.none,fs)
 | _=>none
end D
end
section
namespace D
open PySem PySem.Spec PyProof.Rows L2
section
variable [Tbl]
section
variable {K:y00} {F F' O:Addr->Prop} {H H':Hp} {E:En}
end
section
variable {K:y00} {F₀ F F1 O:Addr->Prop} {H H1:Hp} {E:En} {ε ε':Ev} {σ:L2.St} {c C i j:Nat} {ns:List Str}
end
end
section
variable [Tbl]
section
variable {K:y00} {F₀ F O:Addr->Prop} {H:Hp} {E:En} {ε:Ev} {σ:L2.St} {c C i j:Nat} {ns:List Str} {f:Str}
end
section
variable {X:Cx} {c C i j:Nat} {ns:List Str} {f:Str} {o e a:Expr} {g h:Fe} {pos apos:Pos}
end
end
section
variable [Tbl]
section
variable {X:Cx} {e:Expr} {es:List Expr} {as:List Ag} {f:Fe} {i:Nat}
end
section
variable {K:y00} {F F' F₀ O:Addr->Prop} {H H':Hp} {E E':En}
end
section
variable {P:y0q} {w:World} {K:y00} {mg:Str->Option Value} {base:Heap}
end
section
variable {X:Cx} {k n c C i:Nat} {ns:List Str} {d:List Sl->Option T} {x m:Str} {p pos apos:Pos} {o e:Expr} {es:List Expr} {as:List Ag} {fs:List Fe}
end
end
section
variable [Tbl]
section
variable {K:y00} {F F' F₀ O:Addr->Prop} {H H':Hp} {E:En} {P:List Addr} {a b:Addr} {o:HO} {ε:Ev} {σ:L2.St} {c i:Nat} {m:Md} {fs fs':List Sl}
end
section
variable {P:y0q} {w:World} {K:y00} {mg:Str->Option Value} {base:Heap}
end
section
variable {X:Cx} {k n c C i:Nat} {ns:List Str} {d:List Sl->Option (T×List Sl)} {x m:Str} {p pos apos:Pos} {o e:Expr} {es:List Expr} {fs gs:List Fe} {fx:Fx}
end
end
section
variable [Tbl]
section
variable {P:y0q} {w:World} {K:y00} {mg:Str->Option Value} {base:Heap}
end
section
variable {X:Cx} {k n c C i j:Nat} {ns:List Str} {x m f:Str} {p pos apos:Pos} {o e:Expr} {es:List Expr} {fs:List Fe} {fo:Fo}
def z7a (xs:List Str):List T:=xs.map .str
theorem q_gT {xs:List Str} {a:Addr} (hm:X.mg x=some (.ref a)) (hk:∃(o:Obj) (its:Array Value) (n:Nat),X.K.lookup a=some o/\o.cls=.type "tuple"/\o.data=.seq its n/\its.size<=y0j/\Vals (xs.map V.str) its.toList) (hg:Gl X x:=by rfl) (hd:(x == ("__debug__":Str))=false:=by decide):PEv X (.Name x pos) (cst (.tuple (z7a xs))) :=
 zjk (v:=.ref a) (zpd (v:=.ref a) hg hm rfl hd) fun F H=>by
  simp only[Rep]
  refine⟨a,xs.map V.str,rfl,.inr hk,?_⟩
  unfold z7a
  clear hm hk hg hd
  induction xs with
  | nil=>exact RepL.nil
  | cons y ys ih=>exact RepL.cons (by simp[Rep]) ih
end
end
section
variable [Tbl]
open AutoSeq1 (wpAny_loadPart')
section
variable {X:Cx} {a e o:Expr} {f g:Fe} {p pos apos:Pos}
end
section
variable {X:Cx} {c C i j:Nat} {ns:List Str} {f:Str} {o e:Expr} {g:Fe} {pos apos:Pos}
end
end
section
variable [Tbl]
open AutoSeq1 (wpAny_loadPart')
section
variable {prog:y0q} {w:World} {A:Around} {E:Value->y04->Prop} {s:y04} {T:String} {r d:Addr} {n:Nat} {P:Nat->Value->Prop} {OK:Heap->Prop}
end
section
variable {X:Cx}
variable {c C i j:Nat} {ns:List Str} {f:Str} {o:Expr} {p pos apos bpos cpos:Pos}
end
end
section
variable [Tbl]
open AutoSeq1 (wpAny_loadPart')
def ZipR (h:Heap) (z TI TO:Addr) (f0 f1:Value):Prop:=h.get? z=some { cls:=.type "zip",dict:=none,data:=.fields #[f0,f1,.bool false,.ref TI,.ref TO],slots:=#[] }
section
variable {prog:y0q} {w:World} {A:Around} {E:Value->y04->Prop} {s:y04} {z TI TO i1 i2 l1 l2:Addr} {k n1 n2:Nat} {P1 P2:Nat->Value->Prop} {S1 S2:Nat->Heap->Prop} {a b f1:Value}
theorem zlq {Q:Value->y04->Prop} (D:ZipApart z TI TO i1 i2 l1 l2) (D1:Draws prog w A i1 [i1,l1] n1 P1 S1) (D2:Draws prog w A i2 [i2,l2] n2 P2 S2) (hz:ZipR s.heap z TI TO .none f1) (hTI:IsPair s.heap TI (.ref i1) (.ref i2)) (hTO:IsPair s.heap TO a b)
  (s1:S1 k s.heap) (s2:S2 k s.heap) (h1:k<n1) (h2:k<n2)
  (hQ:∀h' x y tk,P1 k x->P2 k y->ZipR h' z TI TO (y2y s.heap.objs.size) (.bool false)->IsPair h' TO x y->S1 (k+1) h'->S2 (k+1) h'->IsPair h' s.heap.objs.size x y->h'.objs.size=s.heap.objs.size+1 ->
   (∀c o,c≠z->c≠TO->c≠i1->c≠i2->s.heap.get? c=some o->h'.get? c=some o)->Q (.ref s.heap.objs.size) { s with heap:=h',toks:=tk }) :
  y0u (y2w prog w) A (Builtin.«zip.__next__» ⟨[.ref z],[]⟩) (fun fin s'=>∃v,fin=.done (.ret v)/\Q v s') E s:=by
 unfold ZipR at hz
 refine y02 (m:=field (.ref z) 2) (y2h hz rfl (x:=.bool false) rfl (y02 (m:=field (.ref z) 3) (y2h hz rfl (x:=.ref TI) rfl (y02 (y2j hTI rfl ?_)))))
 refine y02 (m:=y10 (.ref z)) ?_
 unfold y10
 refine y02 (y2h hz rfl (x:=.none) rfl (y06 ?_))
 simp only[if_true]
 refine y02 (wpAny_rule (y02 (y2h hz rfl (x:=.ref TO) rfl (y02 (y2q hz (by simp) fun h₁ hz₁ e₁=>?_)))))
 replace hz₁:ZipR h₁ z TI TO .ellipsis f1:=hz₁
 refine y02 ?_
 simp only[List.zipIdx_cons,List.zipIdx_nil,List.forIn_cons,List.forIn_nil]
 have st1:S1 k h₁:=D1.frame k _ _ s1 fun c hc o e=>by
  rcases y09.mp hc with rfl|hc
  ·exact e₁.extBut _ _ D.i1z e
  ·rw[y0z.mp hc] at e ⊢
   exact e₁.extBut _ _ D.l1z e
 refine y02 (y02 (wpAny_onRaise (y02 (m:=y0t (.ref i1)) (D1.item k _ _ _ h1 st1 fun x h₂ tk px t1 e₂=>y06 ?_))))
 have hTO₂:IsPair h₂ TO a b:=e₂.extBut _ _ D.TOi1 (e₁.extBut _ _ D.TOz hTO)
 refine y02 (y2j hTO₂ rfl (y02 (wpAny_updateSeq_pair hTO₂ fun h₃ hTO₃ e₃=>?_)))
 replace hTO₃:IsPair h₃ TO x b:=hTO₃
 refine y02 (wpAny_letGo (y06 ?_))
 have st2:S2 k h₃:=D2.frame k _ _ s2 fun c hc o e=>by
  rcases y09.mp hc with rfl|hc
  ·exact e₃.extBut _ _ D.TOi2.symm (e₂.extBut _ _ D.i12.symm (e₁.extBut _ _ D.i2z e))
  ·rw[y0z.mp hc] at e ⊢
   exact e₃.extBut _ _ D.l2TO (e₂.extBut _ _ D.l2i1 (e₁.extBut _ _ D.l2z e))
 refine y02 (y02 (wpAny_onRaise (y02 (m:=y0t (.ref i2)) (D2.item k _ _ _ h2 st2 fun y h₄ tk2 py t2 e₄=>y06 ?_))))
 have hTO₄:IsPair h₄ TO x b:=e₄.extBut _ _ D.TOi2 hTO₃
 refine y02 (y2j hTO₄ rfl (y02 (wpAny_updateSeq_pair hTO₄ fun h₅ hTO₅ e₅=>?_)))
 replace hTO₅:IsPair h₅ TO x y:=hTO₅
 refine y02 (wpAny_letGo (y06 (y06 (y02 (y2j hTO₅ rfl (y02 (wpAny_newTuple ?_)))))))
 have sz5:h₅.objs.size=s.heap.objs.size:=by rw[e₅.1,e₄.1,e₃.1,e₂.1,e₁.1]
 have hz₅:ZipR h₅ z TI TO .ellipsis f1:=e₅.extBut _ _ D.TOz.symm (e₄.extBut _ _ D.i2z.symm (e₃.extBut _ _ D.TOz.symm (e₂.extBut _ _ D.i1z.symm hz₁)))
 have kp5:∀c o,c≠z->c≠TO->c≠i1->c≠i2->s.heap.get? c=some o->h₅.get? c=some o:=fun c o c1 c2 c3 c4 e=>e₅.extBut _ _ c2 (e₄.extBut _ _ c4 (e₃.extBut _ _ c2 (e₂.extBut _ _ c3 (e₁.extBut _ _ c1 e))))
 have u1:S1 (k+1) h₅:=D1.frame _ _ _ t1 fun c hc o e=>by
  rcases y09.mp hc with rfl|hc
  ·exact e₅.extBut _ _ D.TOi1.symm (e₄.extBut _ _ D.i12 (e₃.extBut _ _ D.TOi1.symm e))
  ·rw[y0z.mp hc] at e ⊢
   exact e₅.extBut _ _ D.l1TO (e₄.extBut _ _ D.l1i2 (e₃.extBut _ _ D.l1TO e))
 have u2:S2 (k+1) h₅:=D2.frame _ _ _ t2 fun c hc o e=>by
  rcases y09.mp hc with rfl|hc
  ·exact e₅.extBut _ _ D.TOi2.symm e
  ·rw[y0z.mp hc] at e ⊢
   exact e₅.extBut _ _ D.l2TO e
 have zlt:z<h₅.objs.size:=y0c hz₅
 refine y02 (m:=Builtin.SmallTypes.ownedTupleHandOut (.ref z) (.ref h₅.objs.size)) ?_
 unfold Builtin.SmallTypes.ownedTupleHandOut
 have hz₆:ZipR (h₅.push { cls:=.type "tuple",data:=.seq #[x,y] }) z TI TO .ellipsis f1:=y03 _ hz₅
 refine y02 (y2q hz₆ (by simp) fun h₇ hz₇ e₇=>?_)
 replace hz₇:ZipR h₇ z TI TO (y2y h₅.objs.size) f1:=hz₇
 refine y2q hz₇ (by simp) fun h₈ hz₈ e₈=>?_
 replace hz₈:ZipR h₈ z TI TO (y2y h₅.objs.size) (.bool false):=hz₈
 have up:∀c o,c≠z->h₅.get? c=some o->h₈.get? c=some o:=fun c o c1 e=>e₈.extBut _ _ c1 (e₇.extBut _ _ c1 (y03 _ e))
 have hT:IsPair h₈ h₅.objs.size x y:=e₈.extBut _ _ (y16 zlt) (e₇.extBut _ _ (y16 zlt) (y0l _ rfl))
 have sz8:h₈.objs.size=h₅.objs.size+1:=by rw[e₈.1,e₇.1,y18]
 rw[sz5] at hz₈ hT sz8
 refine y06 ⟨_,rfl,?_⟩
 show Q (.ref h₅.objs.size) _
 rw[sz5]
 refine hQ h₈ x y _ px py hz₈ (up _ _ D.TOz hTO₅) (D1.frame _ _ _ u1 fun c hc o e=>?_) (D2.frame _ _ _ u2 fun c hc o e=>?_) hT sz8 fun c o c1 c2 c3 c4 e=>up c o c1 (kp5 c o c1 c2 c3 c4 e)
 ·refine up c o ?_ e
  rcases y09.mp hc with rfl|hc
  ·exact D.i1z
  ·rw[y0z.mp hc]
   exact D.l1z
 ·refine up c o ?_ e
  rcases y09.mp hc with rfl|hc
  ·exact D.i2z
  ·rw[y0z.mp hc]
   exact D.l2z
theorem zlp {Q:Fin->y04->Prop} (D:ZipApart z TI TO i1 i2 l1 l2) (D1:Draws prog w A i1 [i1,l1] n1 P1 S1) (D2:Draws prog w A i2 [i2,l2] n2 P2 S2) (hz:ZipR s.heap z TI TO .none f1) (hTI:IsPair s.heap TI (.ref i1) (.ref i2)) (hTO:IsPair s.heap TO a b)
  (s1:S1 k s.heap) (s2:S2 k s.heap) (hk:k=n1\/(k<n1/\k=n2))
  (hE:∀h' e tk,(∀c o,c≠z->c≠TO->c≠i1->c≠i2->s.heap.get? c=some o->h'.get? c=some o)->(∃o,h'.get? e=some o/\o.cls=.type "StopIteration")->E (.ref e) { s with heap:=h',toks:=tk }) :
  y0u (y2w prog w) A (Builtin.«zip.__next__» ⟨[.ref z],[]⟩) Q E s:=by
 unfold ZipR at hz
 refine y02 (m:=field (.ref z) 2) (y2h hz rfl (x:=.bool false) rfl (y02 (m:=field (.ref z) 3) (y2h hz rfl (x:=.ref TI) rfl (y02 (y2j hTI rfl ?_)))))
 refine y02 (m:=y10 (.ref z)) ?_
 unfold y10
 refine y02 (y2h hz rfl (x:=.none) rfl (y06 ?_))
 simp only[if_true]
 refine y02 (wpAny_rule (y02 (y2h hz rfl (x:=.ref TO) rfl (y02 (y2q hz (by simp) fun h₁ hz₁ e₁=>?_)))))
 replace hz₁:ZipR h₁ z TI TO .ellipsis f1:=hz₁
 refine y02 ?_
 simp only[List.zipIdx_cons,List.zipIdx_nil,List.forIn_cons,List.forIn_nil]
 have st1:S1 k h₁:=D1.frame k _ _ s1 fun c hc o e=>by
  rcases y09.mp hc with rfl|hc
  ·exact e₁.extBut _ _ D.i1z e
  ·rw[y0z.mp hc] at e ⊢
   exact e₁.extBut _ _ D.l1z e
 rcases hk with rfl|⟨h1,rfl⟩
 ·refine y02 (y02 (wpAny_onRaise (y02 (m:=y0t (.ref i1)) (D1.done _ _ _ st1 fun h₂ e e₂ he=>?_))))
  obtain⟨oe,hoe,hce⟩:=he
  have hz₂:ZipR h₂ z TI TO .ellipsis f1:=e₂ _ _ D.i1z.symm hz₁
  have ne:e≠z:=fun q=>by
   subst q
   unfold ZipR at hz₂
   rw[hz₂] at hoe
   cases hoe
   simp at hce
  exact y2q hz₂ (by simp) fun h₃ _ e₃=>hE h₃ e _ (fun c o c1 _ c3 _ q=>e₃.extBut _ _ c1 (e₂ _ _ c3 (e₁.extBut _ _ c1 q))) ⟨oe,e₃.extBut _ _ ne hoe,hce⟩
 ·refine y02 (y02 (wpAny_onRaise (y02 (m:=y0t (.ref i1)) (D1.item k _ _ _ h1 st1 fun x h₂ tk px t1 e₂=>y06 ?_))))
  have hTO₂:IsPair h₂ TO a b:=e₂.extBut _ _ D.TOi1 (e₁.extBut _ _ D.TOz hTO)
  refine y02 (y2j hTO₂ rfl (y02 (wpAny_updateSeq_pair hTO₂ fun h₃ hTO₃ e₃=>?_)))
  refine y02 (wpAny_letGo (y06 ?_))
  have st2:S2 k h₃:=D2.frame k _ _ s2 fun c hc o e=>by
   rcases y09.mp hc with rfl|hc
   ·exact e₃.extBut _ _ D.TOi2.symm (e₂.extBut _ _ D.i12.symm (e₁.extBut _ _ D.i2z e))
   ·rw[y0z.mp hc] at e ⊢
    exact e₃.extBut _ _ D.l2TO (e₂.extBut _ _ D.l2i1 (e₁.extBut _ _ D.l2z e))
  refine y02 (y02 (wpAny_onRaise (y02 (m:=y0t (.ref i2)) (D2.done _ _ _ st2 fun h₄ e e₄ he=>?_))))
  obtain⟨oe,hoe,hce⟩:=he
  have hz₄:ZipR h₄ z TI TO .ellipsis f1:=e₄ _ _ D.i2z.symm (e₃.extBut _ _ D.TOz.symm (e₂.extBut _ _ D.i1z.symm hz₁))
  have ne:e≠z:=fun q=>by
   subst q
   unfold ZipR at hz₄
   rw[hz₄] at hoe
   cases hoe
   simp at hce
  exact y2q hz₄ (by simp) fun h₅ _ e₅=>hE h₅ e _ (fun c o c1 c2 c3 c4 q=>e₅.extBut _ _ c1 (e₄ _ _ c4 (e₃.extBut _ _ c2 (e₂.extBut _ _ c3 (e₁.extBut _ _ c1 q))))) ⟨oe,e₅.extBut _ _ ne hoe,hce⟩
end
end
section
variable [Tbl]
open AutoSeq1 (wpAny_loadPart')
def itN (b:Bool):String:=if b then "list_iterator" else "tuple_iterator"
def itK (b:Bool) (h:Heap) (it l:Addr) (i:Nat):Prop:=match b with
 | true=>h.IsListIter it l i
 | false=>h.IsTupleIter it l i
def sqK (b:Bool) (h:Heap) (l:Addr) (xs:Array Value):Prop:=match b with
 | true=>h.IsList l xs
 | false=>h.IsTuple l xs
theorem itK.at {b:Bool} {h h':Heap} {it l:Addr} {i:Nat} (x:itK b h it l i) (k:∀o,h.get? it=some o->h'.get? it=some o):itK b h' it l i:=by
 cases b with
 | true=>exact Heap.IsListIter.at x k
 | false =>
  obtain⟨o,ho,r⟩:=x
  exact⟨o,k o ho,r⟩
theorem itK.obj {b:Bool} {h:Heap} {it l:Addr} {i:Nat} (x:itK b h it l i):∃o,h.get? it=some o/\∀v,o.data≠.cell v:=by
 cases b with
 | true =>
  obtain⟨o,ho,hc,hd⟩:=x
  exact⟨o,ho,fun v z=>by rw[hd] at z;cases z⟩
 | false =>
  obtain⟨o,ho,hc,hd⟩:=x
  exact⟨o,ho,fun v z=>by rw[hd] at z;cases z⟩
theorem sqK.at {b:Bool} {h h':Heap} {l:Addr} {xs:Array Value} (x:sqK b h l xs) (k:∀o,h.get? l=some o->h'.get? l=some o):sqK b h' l xs:=by
 cases b with
 | true =>
  obtain⟨o,ho,r⟩:=x
  exact⟨o,k o ho,r⟩
 | false =>
  obtain⟨o,ho,r⟩:=x
  exact⟨o,k o ho,r⟩
theorem sqK.lt {b:Bool} {h:Heap} {l:Addr} {xs:Array Value} (x:sqK b h l xs):l<h.objs.size:=by
 cases b with
 | true =>
  obtain⟨o,ho,r⟩:=x
  exact y0c ho
 | false =>
  obtain⟨o,ho,r⟩:=x
  exact y0c ho
theorem zbe {prog:y0q} {w:World} {A:Around} (b:Bool) (hh:A.handled=none) (it l:Addr) (hne:l≠it) (xs:Array Value) :
  Draws prog w A it [it,l] xs.size (fun i v=>xs[i]?=some v) (fun i h=>itK b h it l i/\sqK b h l xs):=by
 cases b with
 | true=>exact Draws.list hh it l hne xs
 | false=>exact z9c hh it l hne xs
abbrev zkl (b:Bool) (l:Addr):Obj:={ cls:=.type (itN b),data:=.fields #[.ref l,.int 0 0] }
abbrev zip3 (b1 b2:Bool) (h:Heap) (l1 l2:Addr):Heap:=((h.push (zkl b1 l1)).push (zkl b2 l2)).push { cls:=.type "tuple",data:=.seq #[.ref h.objs.size,.ref (h.objs.size+1)] }
abbrev zip4 (b1 b2:Bool) (h:Heap) (l1 l2:Addr):Heap:=(zip3 b1 b2 h l1 l2).push { cls:=.type "tuple",data:=.seq #[.none,.none] }
abbrev zip5 (b1 b2:Bool) (h:Heap) (l1 l2:Addr):Heap:=(zip4 b1 b2 h l1 l2).push { cls:=.type "zip",data:=.fields #[.none,.bool false,.bool false,.ref (h.objs.size+2),.ref (h.objs.size+3)] }
section
variable {prog:y0q} {w:World} {A:Around} {E:Value->y04->Prop} {s:y04}
theorem zob {b:Bool} {l:Addr} {xs:Array Value} {Q:Value->y04->Prop} (hl:sqK b s.heap l xs) (h:Q (.ref s.heap.objs.size) { s with heap:=s.heap.push (zkl b l) }):y0u (y2w prog w) A (pyIter (.ref l)) Q E s:=by
 cases b with
 | true=>exact wpAny_pyIter_list hl h
 | false=>exact y2k hl h
theorem zi0 (b1 b2:Bool) (l1 l2:Addr) (xs ys:Array Value) :
  Meets (Builtin.«zip.__new__» ⟨[.type "zip",.ref l1,.ref l2],[]⟩) (fun _ R s=>sqK b1 s.heap l1 xs/\sqK b2 s.heap l2 ys /\
   R (.ok (.ret (.ref (s.heap.objs.size+4)))) { s with heap:=zip5 b1 b2 s.heap l1 l2 }) :=
 .of_wp fun prog w A R s h=>by
  obtain⟨hp,g,d,tk,os⟩:=s
  obtain⟨h1,h2,h⟩:=h
  have hsub:=sub_zip
  have h1':sqK b1 (Shared.heap ⟨hp,g,d,tk,os⟩) l1 xs:=h1
  have h2':sqK b2 (Shared.heap ⟨hp.push (zkl b1 l1),g,d,tk,os⟩) l2 ys:=h2.at fun o e=>y03 _ e
  wp_walk using zob h1',zob h2'
  refine⟨_,rfl,?_⟩
  simp only[y18] at h ⊢
  exact h
theorem zl7 {b1 b2:Bool} {l1 l2:Addr} {xs ys:Array Value} {Q:Value->y04->Prop} (h1:sqK b1 s.heap l1 xs) (h2:sqK b2 s.heap l2 ys)
  (h:∀h',ZipR h' (s.heap.objs.size+4) (s.heap.objs.size+2) (s.heap.objs.size+3) .none (.bool false)->IsPair h' (s.heap.objs.size+2) (.ref s.heap.objs.size) (.ref (s.heap.objs.size+1))->IsPair h' (s.heap.objs.size+3) .none .none ->
   itK b1 h' s.heap.objs.size l1 0->itK b2 h' (s.heap.objs.size+1) l2 0->h'.objs.size=s.heap.objs.size+5->(∀c o,s.heap.get? c=some o->h'.get? c=some o)->Q (.ref (s.heap.objs.size+4)) { s with heap:=h' }) :
  y0u (y2w prog w) A (call (.type "zip") [.ref l1,.ref l2]) Q E s:=by
 have hi:∀(b:Bool) (h':Heap) (it l:Addr),h'.get? it=some (zkl b l)->itK b h' it l 0:=fun b h' it l e=>by
  cases b with
  | true=>exact⟨_,e,rfl,rfl⟩
  | false=>exact⟨_,e,rfl,rfl⟩
 refine callType_new F.called_zip (by decide) (F.typeCall_zip_2 _ _) (F.newCall_zip_2 _ _) (fun obj=>F.args_object_init_3 obj _ _) F.entry_zip_new (zi0 b1 b2 l1 l2 xs ys) ⟨h1,h2,?_⟩
 have at_:∀(hh:Heap) (n:Nat) (o o':Obj),hh.objs.size=n->o.isFreed=false->(hh.push o).get? n=some o:=fun hh n o o' e f=>by
  rw[<- e]
  exact y0l _ f
 have g5:(zip5 b1 b2 s.heap l1 l2).get? (s.heap.objs.size+4)=some _:=at_ (zip4 b1 b2 s.heap l1 l2) (s.heap.objs.size+4) _ default (by simp only[y18]) rfl
 refine⟨⟨_,g5,rfl⟩,h _ g5 ?_ ?_ ?_ ?_ (by simp only[y18]) fun c o e=>y03 _ (y03 _ (y03 _ (y03 _ (y03 _ e))))⟩
 ·exact y03 _ (y03 _ (at_ _ _ _ default (by simp only[y18]) rfl))
 ·exact y03 _ (at_ _ _ _ default (by simp only[y18]) rfl)
 ·exact hi b1 _ _ _ (y03 _ (y03 _ (y03 _ (y03 _ (y0l _ rfl)))))
 ·exact hi b2 _ _ _ (y03 _ (y03 _ (y03 _ (at_ _ _ _ default (by simp only[y18]) rfl))))
end
end
section
variable [Tbl]
section
variable {prog:y0q} {w:World} {K:Type} [DecidableEq K] {knd:PySem.KeyKind prog w K} {A:Around} {E:Value->y04->Prop} {s:y04} {R:Result->y04->Prop} {z TI TO i1 i2 l1 l2:Addr} {b1 b2:Bool} {xs ys:Array Value}
end
end
section
variable [Tbl]
theorem ze9 {n l1 l2:Nat} (h1:l1<n) (h2:l2<n):ZipApart (n+4) (n+2) (n+3) n (n+1) l1 l2:=by constructor <;> (show (_:Nat)≠_) <;> omega
section
variable {X:Cx} {a b:Expr} {f g:Fe} {p p2 pos pos2:Pos}
variable {c C i j:Nat} {ns:List Str} {fn:Str} {o:Expr} {apos:Pos}
end
end
section
variable [Tbl]
open AutoSeq1 (wpAny_loadPart')
section
variable {X:Cx} {a b:Expr} {f g:Fe} {pos:Pos}
end
end
section
variable [Tbl]
section
variable {X:Cx} {a b c:Expr} {f g h:Fe} {pos:Pos}
theorem zl6:∀σ H Q,tV X.K (chain oLe oLe f g h) σ H Q->zj1 (fun x y H Q=>rI0 (fun i j=>.bl (decide (i<=j))) x y H Q\/∃i j,x=.str i/\y=.str j/\Q (.bl (!strLt j i)) H) (fun x y H Q=>rI0 (fun i j=>.bl (decide (i<=j))) x y H Q\/∃i j,x=.str i/\y=.str j/\Q (.bl (!strLt j i)) H) (tR X.K f) (tR X.K g) (tR X.K h) σ H Q :=
 fun σ H Q ⟨F₀,H₀,O,F,ε,t,r,e,k⟩=>by
 simp only[chain,y01] at e
 obtain⟨x,ex,y,ey,z,ez,e⟩:=e
 refine⟨F₀,H₀,O,F,ε,x,r,ex,fun vx F1 H1 x1 rx=>⟨F₀,H₀,O,F1,ε,y,r.ext x1,ey,fun vy F2 H2 x2 ry=>?_⟩⟩
 refine zgg (X:=X) O F2 H2 x y z vx vy _ x2.dom (rx.ext x2) ry ez fun v F3 H3 x3 q3=>?_
 split at e
 ·simp only[Rep] at q3
  subst q3
  simp only[y01] at e
  obtain⟨w,ew,ep⟩:=e
  refine⟨true,rfl,iteT ⟨F₀,H₀,O,F3,ε,w,((r.ext x1).ext x2).ext x3,ew,fun vw F4 H4 x4 rw'=>?_⟩⟩
  exact zgg (X:=X) O F4 H4 y w t vy vw _ x4.dom ((ry.ext x3).ext x4) rw' ep fun v F5 H5 x5 q5=>k v F5 H5 ((((x1.trans x2).trans x3).trans x4).trans x5) q5
 ·simp only[Rep] at q3
  subst q3
  cases e
  exact⟨false,rfl,iteF (k _ F3 H3 ((x1.trans x2).trans x3) (by simp[Rep]))⟩
 ·cases e
theorem za2 (ha:PEr X a f) (hb:PEr X b g) (hc:PEr X c h) (hm:lastMarks [.LtE,.LtE] [b,c]=false:=by with_unfolding_all rfl):PTt X (.Compare a [.LtE,.LtE] [b,c] pos) (tstB (chain oLe oLe f g h)) :=
 zgy (zmi (zmr.or z6z) (zmr.or z6z) ha hb hc hm) (zsg zl6)
end
section
variable {X:Cx} {c C i j:Nat} {ns:List Str} {f:Str} {o:Expr} {pos apos:Pos}
end
end
section
abbrev t0:Tbl:=⟨[],fun _=>[],fun _=>none⟩
def z0b (ns:List Int):T:=.list (ns.map .int)
def noL (K:y00):Bool:=K.all fun p=>match p.2.cls with
 | .type t=>t != "list"
 | _=>true
theorem z91 {α β:Type} [BEq α] [LawfulBEq α] {a:α} {b:β}:∀{l:List (α×β)},l.lookup a=some b->(a,b)∈l
  | [],h=>by cases h
  | (x,y)::l,h=>by
    rw[y1g] at h
    split at h
    next q =>
      cases h
      have:a=x:=by simpa using q
      subst this
      simp
    next=>exact y05 _ (z91 h)
theorem zj6 {K:y00} {H:Hp} {a:Addr} {ns:List Int} {d:List T->Option T} (hL:noL K=true) (hd:d [z0b ns]=some (.bool true)) (hS:SqL K H a (ns.map V.int)):@spT t0 K 1 d [.ref a] H (fun v _=>v=.bl true) fun _ _ _=>False:=by
 letI:=t0
 rcases hS with hS|⟨o,its,n,hk,hc,_⟩
 ·refine⟨rfl,fun b=>b=a,[z0b ns],.bool true,⟨?_,fun p hp=>by cases hp⟩,RepL.cons ?_ RepL.nil,hd,fun v F' H' x r=>by simpa [Rep] using r⟩
  ·rintro b rfl
   rcases hS with q|⟨u,q⟩
   ·exact⟨_,q⟩
   ·exact⟨_,q⟩
  ·simp only[z0b,Rep]
   exact⟨a,_,rfl,rfl,hS,z8r ns⟩
 ·have:=List.all_eq_true.mp hL _ (z91 hk)
  simp[hc] at this
theorem zpu {t:Tbl} (ht:t.tb=[]) {P:y0q} {w:World} {K:y00} {mg:Str->Option Value} {base:Heap} {k n:Nat} {f:Addr} {fd:y0b} {ps:List Str} {d:List T->Option T} (F:FnOk P w K mg base CX0 k f fd ps (@spT t K n d)):FnOk P w K mg base CX0 k f fd ps (@spT t0 K n d):=by
 have d1:∀{F:Addr->Prop} {H:Hp},@Dom t0 F H->@Dom t F H:=fun {F H} h=>@Dom.mk t F H (@Dom.dm t0 F H h) (fun p hp=>by rw[ht] at hp;cases hp)
 have d2:∀{F:Addr->Prop} {H:Hp},@Dom t F H->@Dom t0 F H:=fun {F H} h=>@Dom.mk t0 F H (@Dom.dm t F H h) (fun p hp=>by cases hp)
 refine F.imp fun vs H Q E h=>?_
 obtain⟨hl,F,ts,r,dom,q,e,kq⟩:=h
 exact⟨hl,F,ts,r,d1 dom,q,e,fun v F' H' x rv=>kq v F' H' (@Ext.mk t0 F H F' H' (@Ext.same t F H F' H' x) (@Ext.sub t F H F' H' x) (@Ext.new t F H F' H' x) (d2 (@Ext.dom t F H F' H' x))) rv⟩
end
section
section
variable [Tbl]
variable {X:Cx} {e:Expr} {es:List Expr} {fs:List Fe} {p pos:Pos}
end
end
section
variable [Tbl]
open AutoSeq1 (wpAny_loadPart')
section
variable {X:Cx} {a b:Expr} {f g:Fe} {pos:Pos}
end
end
section
variable [Tbl]
section
variable {X:Cx} {es:List Expr} {k:Nat} {p pos p2:Pos} {a b:Expr} {f g:Fe}
def zipT (ts us:List T):List T:=List.zipWith (fun x y=>.tuple [x,y]) ts us
end
end
section
section
variable [Tbl]
variable {X:Cx} {a b:Expr} {f g:Fe} {pos:Pos}
end
end
section
section
variable [Tbl]
variable {X:Cx} {e:Expr} {f:Fe} {pos:Pos}
end
end
section
variable [Tbl]
section
variable {X:Cx} {a b c:Expr} {f g h:Fe} {pos:Pos}
end
section
variable {X:Cx} {pos:Pos}
end
section
variable {X:Cx} {a:Expr} {f:Fe} {p px pos pos2:Pos}
end
end
section
section
variable {X:Cx} {pins:List (Addr×Obj)} {σ:L2.St} {H:Hp} {s:y04} {a:Addr} {d:V} {r:Value} {A:Around} {E:Value->y04->Prop}
end
section
variable {X:Cx} {o e f:Expr} {apos cpos:Pos} {td ty tx:TE}
end
variable [Tbl]
section
variable {X:Cx} {a b:Expr} {f g:Fe} {x:Str} {px apos cpos pos:Pos}
end
section
variable {X:Cx} {a b:Expr} {f g:Fe} {p p2 pos pos2:Pos}
variable {x:Str} {px dpos:Pos}
end
end
section
variable [Tbl]
open PySem.W (kas_ask kas_sort kat_run kat_snds kat_lt kat_kind KatTups KatLex KatGo kas_item KasT)
def hT (x:Str×List T):T:=.tuple (.str x.1::x.2)
section
variable {prog:y0q} {w:World} {A:Around} {s:y04}
end
section
variable {X:Cx}
variable {e:Expr} {es:List Expr} {fs:List Fe} {p pos:Pos}
end
section
variable {X:Cx} {o e:Expr} {f g:Fe} {apos cpos:Pos}
end
section
variable {X:Cx} {a b:Expr} {f g:Fe} {pos:Pos}
end
end
section
section
variable {prog:y0q} {w:World} {A:Around} {E:Value->y04->Prop} {s:y04} {ar:Array Keyed}
def Rz (ar:Array Keyed) (st st':SortSt):Prop:=arrOf st'=arrOf st/\failedOf st'=none/\pendingOf st'=#[(0,ar.size,0)]
end
variable [Tbl]
section
variable {X:Cx}
variable {e:Expr} {es:List Expr} {fs:List Fe} {p pos:Pos}
end
end
section
open AutoSeq1 (wpAny_loadPart')
section
variable {prog:y0q} {w:World} {A:Around} {E:Value->y04->Prop} {s:y04}
end
end
section
variable [Tbl]
section
variable {M:Model} {A:Around} {E:Value->y04->Prop} {s:y04} {env:Env}
end
section
variable {prog:y0q} {w:World} {A:Around} {E:Value->y04->Prop} {s:y04}
end
section
variable {X:Cx} {es:List Expr} {k kc:Nat} {p pos p2 pc pk:Pos} {a:Expr} {f:Fe}
end
section
variable {X:Cx} {e:Expr} {f:Fe} {pos:Pos}
end
end
section
variable [Tbl]
section
variable {X:Cx} {e:Expr} {f:Fe} {te:TE} {pos p p2 p3:Pos}
end
section
variable {X:Cx} {e st:Expr} {te:TE} {tl:TO} {f:Fe} {pos p2:Pos} {lo:Option Expr}
end
end
section
variable [Tbl]
section
variable {X:Cx} {k n c C i:Nat} {ns:List Str} {d:List Sl->Option (T×List Sl)} {x:Str} {p pos:Pos} {o e:Expr} {es:List Expr} {fs:List Fe} {f:Fe}
end
end
section
variable [Tbl]
end
section
variable [Tbl]
end
section
variable [Tbl]
end
section
variable [Tbl]
section
variable {P:y0q} {w:World} {K:y00} {mg:Str->Option Value} {base:Heap} {k:Nat} {q c':Addr} {N:List Str} {qual:Str} {scope:Scope} {cd:Value} {cl:List (Str×Addr)} {A:Around} {outer:List Env} {s:y04} {H:Hp} {σ:L2.St}
end
end
section
variable [Tbl]
end
section
variable [Tbl]
end
section

end
section
variable [Tbl]
abbrev Ftx:=Ev->Option (Bool×Ev)
section
variable {X:Cx} {a b e:Expr} {es:List Expr} {f g:Fx} {fe:Fe} {ft:Ft} {c d:Ftx} {pos:Pos}
end
end
section
variable [Tbl]
section
variable {X:Cx} {a b:Expr} {f g:Fo} {pos:Pos}
end
end
section
variable [Tbl]
end
section

end
end D
end
section
namespace D
open PySem PySem.Spec PySem.Calls PySem.W PyProof.Rows PySem.Builtin PySem.Builtin.ObjectAttr PySem.Builtin.Getset_descriptor
section
variable {prog:y0q} {w:World} {A:Around} {E:Value->y04->Prop} {s:y04} {K:Frag} {x C:Addr} {R:Result->y04->Prop}
end
end D
end
section
namespace D
open PySem PySem.Spec PyProof.Rows L2
section
section
variable {X:Cx} {pins:List (Addr×Obj)} {σ:L2.St} {H1 H':Hp} {s1 s2:y04} {C:Addr} {e:Value} {env:Env} {outer:List Env} {E:XK}
end
end
section
variable [Tbl]
abbrev Fz:=Ev->Bool
section
variable {X:Cx} {C:Addr} {e c:Expr} {st:Stmt} {rest els:List Stmt} {r r':Fz} {b:Fs} {ft:Ft} {pos:Pos}
end
section
variable {P:y0q} {w:World} {K:y00} {mg:Str->Option Value} {base:Heap}
end
section
variable {X:Cx} {k n c C CO i:Nat} {ns:List Str} {r:List Sl->Bool} {x m:Str} {p pos apos:Pos} {o e:Expr} {es:List Expr} {as:List Ag} {fs:List Fe}
end
end
section
section
variable {X:Cx} {pins:List (Addr×Obj)} {σ:L2.St} {H:Hp} {s:y04} {ea:Addr}
end
end
section

end
section
variable [Tbl]
section
variable {P:y0q} {w:World} {K:y00} {mg:Str->Option Value} {base:Heap} {k:Nat} {q c':Addr} {N:List Str} {qual:Str} {scope:Scope} {cl:List (Str×Addr)} {A:Around} {outer:List Env} {s:y04} {H:Hp} {σ:L2.St} {C:Addr}
end
end
section
variable [Tbl]
end
section
section
variable [Tbl] {X:Cx} {C CD cz cw cd ct:Addr} {j:Nat} {pos p p1:Pos}
end
end
section
variable [Tbl]
end
section
variable [Tbl]
end
section
variable [Tbl]
section
variable {P:y0q} {w:World} {K:y00} {mg:Str->Option Value} {base:Heap} {k:Nat} {q c':Addr} {N:List Str} {qual:Str} {scope:Scope} {cd:Value} {cl:List (Str×Addr)} {A:Around} {outer:List Env} {s:y04} {H:Hp} {σ:L2.St} {y:Str}
end
section
variable {M:Model} {A:Around} {E:Value->y04->Prop} {s:y04} {env:Env}
end
end
section
variable [Tbl]
mutual
noncomputable def gtD:T->T->Option Bool
 | .int a,.int b=>some (decide (b<a))
 | .tuple xs,.tuple ys=>lexG xs ys
 | _,_=>none
noncomputable def lexG:List T->List T->Option Bool
 | [],[]=>some false
 | [],_::_=>some false
 | _::_,[]=>some true
 | x::xs,y::ys=>if y1y x y then lexG xs ys else gtD x y
end
noncomputable def GtAt (A:Around) (s:y04) (y x:Value) (b:Bool):Prop :=
 ∀(prog:y0q) (w:World) (E:Value->y04->Prop) (Q:Value->y04->Prop),Q (.bool b) s->y0u (y2w prog w) A (richCompare .Gt y x) Q E s
inductive GoodG (A:Around) (s:y04) (fin:Bool):List (Value×Value)->Bool->Prop
 | nil:GoodG A s fin [] fin
 | eq {y x:Value} {r:List (Value×Value)} {b:Bool}:SeqAt.EqAt A s y x true->GoodG A s fin r b->GoodG A s fin ((y,x)::r) b
 | lt {y x:Value} {r:List (Value×Value)} {b:Bool}:SeqAt.EqAt A s y x false->GtAt A s y x b->GoodG A s fin ((y,x)::r) b
section
open PySem.SeqAt
open PySem.AutoSeq1 (wpAny_loadPart')
open PySem.MeetsSeq PySem.MeetsSeq2 PySem.MeetsSeq3
theorem zbv (l b:Addr) (items items2:Array Value) (n n2:Nat) (dd dd2:Option Addr) (sl sl2:Array (Option Value)) (z:Bool) :
  Meets (Builtin.«tuple.__gt__» ⟨[.ref l,.ref b],[]⟩)
   (fun A R s=>s.heap.get? l=some { cls:=.type "tuple",dict:=dd,data:=.seq items n,slots:=sl }/\s.heap.get? b=some { cls:=.type "tuple",dict:=dd2,data:=.seq items2 n2,slots:=sl2 } /\
    GoodG A.in1 s (decide (items2.size<items.size)) (items.toList.zip items2.toList) z/\R (.ok (.ret (.bool z))) s) :=
 .of_wp fun prog w A R s h=>by
  obtain⟨hp,g,d,tk,os⟩:=s;obtain⟨hl,hb,hg,h⟩:=h
  have f2:=AutoSeq1.sub_tuple_tuple
  wp_walk using wpAny_loadPart' hl,wpAny_loadPart' hb,wpAny_forIn_list _ (fun rest b s'=>b.1=none/\s'=⟨hp,g,d,tk,os⟩/\GoodG A.in1 ⟨hp,g,d,tk,os⟩ (decide (items2.size<items.size)) rest z) _
  case turn =>
   rintro⟨y,x⟩ rest b s' ⟨hb',rfl,hG⟩
   cases hG with
   | eq he hG =>
    refine y02 (he prog w _ _ ?_)
    wp_walk
    exact⟨rfl,rfl,hG⟩
   | lt he hlt =>
    refine y02 (he prog w _ _ ?_)
    have hri:=hlt prog w
    wp_walk using hri
    exact⟨_,rfl,h⟩
  case fin =>
   rintro⟨b1,b2⟩ s' ⟨hb',rfl,hG⟩
   simp only at hb'
   subst hb'
   cases hG
   wp_walk
   exact⟨_,rfl,by simpa [Builtin.Tuple.tupleCompareSizes] using h⟩
  case h =>
   exact⟨rfl,rfl,hg⟩
mutual
theorem znb:∀(da db:T) (A:Around) (s:y04) (a b:Value) (as bs:List Addr) (r:Bool),Reads s.heap a da as->Reads s.heap b db bs->da.canLay0=true->db.canLay0=true->A.units+min da.depth db.depth<cLine->gtD da db=some r->GtAt A s a b r
 | .int i,.int j,A,s,_,_,_,_,r,.int _ t,.int _ u,_,_,_,e=>by
  unfold gtD at e
  cases e
  exact fun prog w E Q q=>(PyProof.Rows.gt_int q:y0u (y2w prog w) A (y2l .Gt (.int i t) (.int j u)) Q E s)
 | .tuple xs,.tuple ys,A,s,_,_,_,_,r,.tuple (a:=l) (o:=o) (vs:=vs) (n:=n) h1 h2 h3 h4,.tuple (a:=l') (o:=o') (vs:=vs') (n:=n') k1 k2 k3 k4,ha,hb,hu,e=>by
  unfold gtD at e
  simp only[PyData.canLay0] at ha hb
  simp only[y22] at hu
  have hG:=goodG_reads xs ys A.in1 s vs.toList vs'.toList _ _ r h4 k4 ha hb (room_in hu) e
  obtain⟨cls,dd,data,sl⟩:=o
  obtain⟨cls2,dd2,data2,sl2⟩:=o'
  simp only at h2 h3 k2 k3
  subst h2 h3 k2 k3
  rw[y1x,y1x] at hG
  exact fun prog w E Q q=>richCompare_meets_room (op:=.Gt) ⟨_,h1,rfl⟩ ⟨_,k1,rfl⟩ PySem.F.slot_tuple_gt PySem.F.entry_tuple_gt (PySem.F.args_tuple_gt_2 _ _) (zbv l l' vs vs' n n' dd dd2 sl sl2 r)
   ⟨h1,k1,hG,show Value.bool r≠Value.notImplemented/\Q (.bool r) s from ⟨(fun x=>nomatch x),q⟩⟩ (by omega)
 | .none,_,_,_,_,_,_,_,_,_,_,_,_,_,e=>by simp[gtD] at e
 | .bool _,_,_,_,_,_,_,_,_,_,_,_,_,_,e=>by simp[gtD] at e
 | .str _,_,_,_,_,_,_,_,_,_,_,_,_,_,e=>by simp[gtD] at e
 | .list _,_,_,_,_,_,_,_,_,_,_,_,_,_,e=>by simp[gtD] at e
 | .dict _,_,_,_,_,_,_,_,_,_,_,_,_,_,e=>by simp[gtD] at e
 | .int _,.none,_,_,_,_,_,_,_,_,_,_,_,_,e=>by simp[gtD] at e
 | .int _,.bool _,_,_,_,_,_,_,_,_,_,_,_,_,e=>by simp[gtD] at e
 | .int _,.str _,_,_,_,_,_,_,_,_,_,_,_,_,e=>by simp[gtD] at e
 | .int _,.list _,_,_,_,_,_,_,_,_,_,_,_,_,e=>by simp[gtD] at e
 | .int _,.dict _,_,_,_,_,_,_,_,_,_,_,_,_,e=>by simp[gtD] at e
 | .int _,.tuple _,_,_,_,_,_,_,_,_,_,_,_,_,e=>by simp[gtD] at e
 | .tuple _,.none,_,_,_,_,_,_,_,_,_,_,_,_,e=>by simp[gtD] at e
 | .tuple _,.bool _,_,_,_,_,_,_,_,_,_,_,_,_,e=>by simp[gtD] at e
 | .tuple _,.str _,_,_,_,_,_,_,_,_,_,_,_,_,e=>by simp[gtD] at e
 | .tuple _,.list _,_,_,_,_,_,_,_,_,_,_,_,_,e=>by simp[gtD] at e
 | .tuple _,.dict _,_,_,_,_,_,_,_,_,_,_,_,_,e=>by simp[gtD] at e
 | .tuple _,.int _,_,_,_,_,_,_,_,_,_,_,_,_,e=>by simp[gtD] at e
theorem goodG_reads:∀(xs ys:List T) (A:Around) (s:y04) (vs ws:List Value) (as bs:List Addr) (r:Bool),ReadsAll s.heap vs xs as->ReadsAll s.heap ws ys bs->y1h xs=true->y1h ys=true->A.units+min (y1f xs) (y1f ys)<cLine->lexG xs ys=some r->GoodG A s (decide (ws.length<vs.length)) (vs.zip ws) r
 | [],[],A,s,_,_,_,_,r,.nil,.nil,_,_,_,e=>by
  unfold lexG at e
  cases e
  exact .nil
 | [],_::_,A,s,_,_,_,_,r,.nil,.cons _ _,_,_,_,e=>by
  unfold lexG at e
  cases e
  exact GoodG.nil
 | _::_,[],A,s,_,_,_,_,r,.cons _ _,.nil,_,_,_,e=>by
  unfold lexG at e
  cases e
  exact GoodG.nil
 | x::xs,y::ys,A,s,_,_,_,_,r,.cons r1 r2,.cons q1 q2,ha,hb,hu,e=>by
  simp only[y1h,y1c] at ha hb
  simp only[y1f] at hu
  unfold lexG at e
  have he:=eqAt_reads x y A s _ _ _ _ r1 q1 ha.1 hb.1 (room_head hu)
  split at e
  next h =>
   rw[h] at he
   have ih:=goodG_reads xs ys A s _ _ _ _ r r2 q2 ha.2 hb.2 (room_tail hu) e
   rw[y1z]
   simp only[y0w,Nat.add_lt_add_iff_right]
   exact .eq he ih
  next h =>
   rw[Bool.not_eq_true] at h
   rw[h] at he
   rw[y1z]
   exact .lt he (znb x y A s _ _ _ _ r r1 q1 ha.1 hb.1 (room_head hu) e)
end
end
end
section
variable [Tbl]
section
variable {X:Cx} {e:Expr} {fx:Fx} {pos:Pos}
end
end
section
variable [Tbl]
open PySem.SeqAt
open PySem.W (kas_ask kas_sort kat_run kat_snds kat_lt kat_kind KatTups KatLex KatGo kas_item KasT)
section
variable {prog:y0q} {w:World} {A:Around} {E:Value->y04->Prop} {s:y04}
end
section
variable {prog:y0q} {w:World} {A:Around} {s:y04}
end
section
variable {X:Cx}
variable {e:Expr} {es:List Expr} {fs:List Fe} {p pos:Pos}
end
end
section
variable [Tbl]
structure PEw (X:Cx) (e:Expr) (f:Fe):Prop where
 h:PEv X e f
structure PAw (X:Cx) (es:List Expr) (fs:List Fe):Prop where
 h:PAv X es fs
structure PSw (X:Cx) (st:Stmt) (g:Fs):Prop where
 h:PSt X st g
section
variable {X:Cx} {e b:Expr} {es:List Expr} {f g:Fe} {fs:List Fe} {pos:Pos}
theorem z0u:PAw X [] []:=⟨z03⟩
theorem z1a {x1} (h:PAw X es fs):PEw X (.Tuple es x1 pos) (z04 fs):=⟨z1c h.h⟩
end
section
variable {X:Cx} {e:Expr} {pos:Pos}
end
end
section
variable [Tbl]
section
variable {X:Cx} {iter elt:Expr} {scope:Scope} {it:Fi} {fx:Fx} {pos py:Pos} {y:Str} {N2:List Str}
end
section
variable {X:Cx} {k n c C:Nat} {ns:List Str} {d:List Sl->Option T} {x:Str} {p pos:Pos} {o:Expr} {fo:Fo}
end
end
end D
end
section
namespace D
open PySem
def isI (ct:String):T->Bool
 | .int _=>ct == "int"
 | .bool _=>ct == "int" || ct == "bool"
 | .str _=>ct == "str"
 | .tuple _=>ct == "tuple"
 | .list _=>ct == "list"
 | _=>false
def oIsI (ct:String):T->Option T
 | .dict _=>none
 | t=>some (.bool (isI ct t))
def zao (x:Str):Bool:=x.cps.toList.all fun c=>decide (c<128)
def chT (c:Nat):T:=.str ⟨#[c]⟩
def itA (f:Fe):Fi:=fun ε=>(f ε).bind fun t=>match t with
 | .tuple ts=>some ts
 | .list ts=>some ts
 | .str x=>if zao x then some (x.cps.toList.map chT) else none
 | _=>none
def oSlA (t:T) (lo hi:Option Int):Option T:=match t with
 | .str x=>if x.length<=big then some (.str ⟨(cutZ x.cps.toList lo hi).toArray⟩) else none
 | t=>oSl t lo hi
def z0l (f:Fe) (lo hi:Ev->Option (Option Int)):Fe:=fun ε=>(f ε).bind fun t=>(lo ε).bind fun l=>(hi ε).bind fun h=>oSlA t l h
def zk6 (i:Int):Bool:=decide (i.natAbs.log2<1920)
def strI (i:Int):Str:=Str.ofString (toString i)
def oStr:List T->Option T
 | [.str x]=>some (.str x)
 | [.int i]=>if zk6 i then some (.str (strI i)) else none
 | _=>none
def oOrd:List T->Option T
 | [.str x]=>if x.length=1 then some (.int (x.cps.getD 0 0:Nat)) else none
 | _=>none
def zjy:T->T->Option T
 | .int i,.int j=>if i=10/\0<=j/\j<=1000 then some (.int (10 ^ j.toNat)) else none
 | _,_=>none
def bools:List T->Option (List Bool)
 | []=>some []
 | .bool b::ts=>(bools ts).map fun r=>b::r
 | _::_=>none
def z71:List T->Option T
 | [.list xs]=>(bools xs).map fun bs=>.bool (bs.all id)
 | _=>none
def zcq:T->T->Option T
 | .bool b,.bool c=>some (.bool !(b == c))
 | _,_=>none
end D
end
section
namespace D
open PySem PySem.Spec PyProof.Rows L2
section
variable [Tbl]
structure KI (ct:String):Prop where
 n:∀K:y00,y2z K (.type "NoneType") (.type ct)=some false
 b:∀(K:y00) (b:Bool),y2z K (.type "bool") (.type ct)=some (isI ct (.bool b))
 i:∀(K:y00) (i:Int),y2z K (.type "int") (.type ct)=some (isI ct (.int i))
 s:∀(K:y00) (i:Str),y2z K (.type "str") (.type ct)=some (isI ct (.str i))
 t:∀(K:y00) (i:List T),y2z K (.type "tuple") (.type ct)=some (isI ct (.tuple i))
 l:∀(K:y00) (i:List T),y2z K (.type "list") (.type ct)=some (isI ct (.list i))
theorem zkd:KI "int":=⟨fun _=>rfl,fun _ _=>rfl,fun _ _=>rfl,fun _ _=>rfl,fun _ _=>rfl,fun _ _=>rfl⟩
theorem zbb:KI "bool":=⟨fun _=>rfl,fun _ _=>rfl,fun _ _=>rfl,fun _ _=>rfl,fun _ _=>rfl,fun _ _=>rfl⟩
theorem zag:KI "str":=⟨fun _=>rfl,fun _ _=>rfl,fun _ _=>rfl,fun _ _=>rfl,fun _ _=>rfl,fun _ _=>rfl⟩
theorem z4n:KI "tuple":=⟨fun _=>rfl,fun _ _=>rfl,fun _ _=>rfl,fun _ _=>rfl,fun _ _=>rfl,fun _ _=>rfl⟩
section
variable {X:Cx} {e:Expr} {f:Fe} {te:TE} {pos p p2 p3:Pos} {cn:Str} {ct:String}
def tIsI (K:y00) (ct:String) (te:TE):TE:=fun σ H Q=>te σ H fun x H1=>∃(O F:Addr->Prop) (t:T),RepR K O F H1 t x/\Q (.bl (isI ct t)) H1
theorem zrd (ki:KI ct) (hb:bootBuiltins cn=some (.type ct)) (hm:X.mg "isinstance"=none) (hm2:X.mg cn=none) (he:PE X e te) (hg:Gl X "isinstance":=by rfl) (hg2:Gl X cn:=by rfl) (hn:cn≠"__name__":=by decide) (hdb:(cn == ("__debug__":Str))=false:=by decide)
  (hs:y0a [e,.Name cn p2] X.env=(false,eval e X.env)::y0a [.Name cn p2] X.env:=by rfl) :
  PE X (.Call (.Name "isinstance" p) [e,.Name cn p2] [] pos) (tIsI X.K ct te):=by
 intro pins s σ H Q I h
 refine wpAny_Call_Name_kw (z93 I hg hm (u:=.builtin "isinstance") (by decide +kernel) ?_)
 refine PyProof.Rows.callWith_builtin1 ?_ hs rfl
 rw[hs]
 show y0u _ _ (spliced ((false,eval e X.env)::y2g pos (y0a [.Name cn p2] X.env))) _ _ s
 refine Calls.spliced_cons (thn (he pins s σ H _ I h) fun u s1 ⟨x,H1,I1,r1,q1⟩=>?_)
 show y0u _ _ (spliced ((false,eval (.Name cn p2) X.env)::[])) _ _ s1
 refine Calls.spliced_cons (z93 I1 hg2 hm2 hb (Calls.spliced_nil ?_) hn hdb)
 obtain⟨O,F,t,rx,q⟩:=q1
 cases t with
 | none =>
  rw[rx.non] at r1
  cases r1
  exact PySem.W.kia_one PySem.W.kitx_none I1.kIn trivial (ki.n _) (fun z=>nomatch z) fun tk=>⟨.bl _,H1,I1.kept (t':=tk) fun _ _ z=>z,rfl,q⟩
 | bool b =>
  rw[rx.bl] at r1
  cases r1
  exact PySem.W.kia_one PySem.W.kitx_bool I1.kIn trivial (ki.b _ b) (fun z=>nomatch z) fun tk=>⟨.bl _,H1,I1.kept (t':=tk) fun _ _ z=>z,rfl,q⟩
 | int i =>
  rw[rx.int] at r1
  obtain⟨tk0,rfl⟩:=r1
  exact PySem.W.kia_one PySem.W.kitx_int I1.kIn trivial (ki.i _ i) (fun z=>nomatch z) fun tk=>⟨.bl _,H1,I1.kept (t':=tk) fun _ _ z=>z,rfl,q⟩
 | str i =>
  rw[rx.str] at r1
  obtain⟨tk0,rfl⟩:=r1
  exact PySem.W.kia_one PySem.W.kitx_str I1.kIn trivial (ki.s _ i) (fun z=>nomatch z) fun tk=>⟨.bl _,H1,I1.kept (t':=tk) fun _ _ z=>z,rfl,q⟩
 | tuple ts =>
  obtain⟨a,vs,rfl,hs,hr⟩:=rx.tup
  cases r1
  obtain⟨its,r,ht,hz⟩:=I1.tuple hs
  obtain⟨o,h1,h2,_⟩:=ht
  exact PySem.W.kia_one PySem.W.kitx_tuple I1.kIn ⟨o,h1,h2⟩ (ki.t _ ts) (fun z=>nomatch z) fun tk=>⟨.bl _,H1,I1.kept (t':=tk) fun _ _ z=>z,rfl,q⟩
 | list ts =>
  obtain⟨a,vs,rfl,hs,hr⟩:=rx.lst
  cases r1
  obtain⟨_,its,n,r,hl,e1⟩:=Inv.lstR I1 hs
  exact PySem.W.kia_one PySem.W.kitx_list I1.kIn ⟨_,e1,rfl⟩ (ki.l _ ts) (fun z=>nomatch z) fun tk=>⟨.bl _,H1,I1.kept (t':=tk) fun _ _ z=>z,rfl,q⟩
 | dict d=>rcases rx with rx|⟨_,_,_,z,_⟩;simp[Rep] at rx;cases z
theorem z4s (ki:KI ct) (hb:bootBuiltins cn=some (.type ct)) (hm:X.mg "isinstance"=none) (hm2:X.mg cn=none) (ha:PEr X e f) (hg:Gl X "isinstance":=by rfl) (hg2:Gl X cn:=by rfl) (hn:cn≠"__name__":=by decide) (hdb:(cn == ("__debug__":Str))=false:=by decide)
  (hs:y0a [e,.Name cn p2] X.env=(false,eval e X.env)::y0a [.Name cn p2] X.env:=by rfl) :
  PEv X (.Call (.Name "isinstance" p) [e,.Name cn p2] [] pos) (op1 (oIsI ct) f):=z0t (zrd ki hb hm hm2 ha hg hg2 hn hdb hs) fun σ H Q ⟨F₀,H₀,O,F,ε,t,r,e,k⟩=>by
 simp only[op1,y01] at e
 obtain⟨x,ex,e⟩:=e
 have e':t=.bool (isI ct x):=by
  cases x <;> first|exact (y29 e).symm|cases e
 subst e'
 exact⟨F₀,H₀,O,F,ε,_,r,ex,fun v F1 H1 x1 rx=>⟨O,F1,x,rx,k _ F1 H1 x1 (by simp[Rep])⟩⟩
theorem zlc:bootBuiltins "int"=some (.type "int"):=by decide +kernel
theorem zbi:bootBuiltins "bool"=some (.type "bool"):=by decide +kernel
theorem zal:bootBuiltins "str"=some (.type "str"):=by decide +kernel
theorem z4r:bootBuiltins "tuple"=some (.type "tuple"):=by decide +kernel
end
def Its (x:Str):It:=⟨fun i _=>i<x.cps.size,fun i H v H'=>H'=H/\∃c,x.cps[i]?=some c/\v=.str ⟨#[c]⟩,fun i _=>x.cps.size<=i⟩
theorem zlz {P:y0q} {w:World} {K:y00} {tg:Expr} (x:Str) (t:Tok) (it:Addr):Turn P w K tg (Its x) [it] it (fun i h=>h.IsStrIter it "str_ascii_iterator" x t i) where
 mem:=by simp
 obj:=fun i h st b hb=>by
  have e:b=it:=by simpa using hb
  subst e
  obtain⟨o,e,c,d⟩:=st
  exact⟨o,e,fun v z=>by rw[d] at z;cases z⟩
 keep:=fun i h h' st k=>by
  obtain⟨o,e,c,d⟩:=st
  exact⟨o,k it (by simp) o e,c,d⟩
 item:=by
  intro X hP hw hK hc i pins s σ H E I hf st hg
  subst hP hw hK
  obtain⟨f0,f1,f2,f3,f4,f5⟩:=hf it (by simp)
  have hx:x.cps[i]?=some (x.cps[i]'hg):=y1o hg
  refine wpAny_pyNext_ascii_item st hx fun h' st' sb=>?_
  have I1:Inv X pins σ H { s with heap:=h',toks:=s.toks+1 }:=I.turned (t':=s.toks+1) (fun b o hb e=>(sb.2 b hb).trans e) f0 f1 f3 f4 f5
  obtain⟨o,e,c,d⟩:=id st'
  exact⟨_,rfl,znc (s:={ s with heap:=h',toks:=s.toks+1 }) e c d (by decide) ⟨.str _,H,I1,⟨_,rfl⟩,⟨rfl,_,hx,rfl⟩,st',fun b hb=>(hf b hb).1⟩⟩
 done:=by
  intro X hP hw hK hc i pins s σ H E I hf st hg
  subst hP hw hK
  obtain⟨f0,f1,f2,f3,f4,f5⟩:=hf it (by simp)
  exact wpAny_pyNext_ascii_end (I.ok.hd hc) st (Array.getElem?_eq_none hg) fun h' eb=>⟨rfl,I.turned (t':=s.toks) (fun b o hb e=>eb b o hb e) f0 f1 f3 f4 f5⟩
 self:=fun _ _ _ _ _ st h=>wpAny_pyIter_striter_ascii st h
theorem znq {x:Str} (h:zao x=true):strIterType x="str_ascii_iterator":=by
 unfold strIterType
 rw[if_pos]
 rw[<- Array.all_toList]
 exact h
noncomputable def iA (K:y00) (tl:TE):TI:=fun σ H R=>tl σ H fun x H1=>(∃a,x=.ref a/\(((∃xs,SqL K H1 a xs)/\R (Itl K a) H1)\/((∃xs,SqT K H1 a xs)/\R (Itt K a) H1)))\/∃z,x=.str z/\zao z=true/\R (Its z) H1
section
variable {X:Cx} {tg l:Expr} {tl:TE} {f:Fe}
theorem pi_A (hl:PE X l tl):PI X tg l (iA X.K tl):=by
 intro pins s σ H R I h
 refine thn (hl pins s σ H _ I h) fun v s1 ⟨x,H1,I1,r1,q⟩=>?_
 have fp:∀b∈[s1.heap.objs.size],FpOk X pins H1 b:=fun b hb=>by
  have e:b=s1.heap.objs.size:=by simpa using hb
  subst e
  exact I1.fpOk (y0o _) (I1.hok.fresh (y0o _))
 rcases q with ⟨a,e1,q⟩|⟨z,e1,ha,q⟩
 ·subst e1
  cases r1
  rcases q with ⟨⟨xs,hq⟩,q⟩|⟨⟨xs,hq⟩,q⟩
  ·obtain⟨its,rv,p,hz⟩:=I1.list hq
   refine wpAny_pyIter_list p.isList ?_
   exact⟨s1.heap.objs.size,[s1.heap.objs.size],_,_,H1,rfl,I1.kept (t':=s1.toks) fun b o e=>y03 _ e,zix a _,⟨_,y0l _ rfl,rfl,rfl⟩,fp,q⟩
  ·obtain⟨its,rv,p,hz⟩:=I1.tuple hq
   refine y2k (show s1.heap.IsTuple a its.toArray from p) ?_
   exact⟨s1.heap.objs.size,[s1.heap.objs.size],_,_,H1,rfl,I1.kept (t':=s1.toks) fun b o e=>y03 _ e,zh5 a _,⟨_,y0l _ rfl,rfl,rfl⟩,fp,q⟩
 ·subst e1
  obtain⟨t,rfl⟩:=r1
  refine wpAny_pyIter_strU ?_
  rw[znq ha]
  exact⟨s1.heap.objs.size,[s1.heap.objs.size],_,_,H1,rfl,I1.kept (t':=s1.toks) fun b o e=>y03 _ e,zlz z t _,⟨_,y0l _ rfl,rfl,rfl⟩,fp,q⟩
theorem zn7 {K:y00} {F1:Addr->Prop} {H1:Hp} (x:Str):ItOk K (Its x) F1 H1 (x.cps.toList.map chT) where
 go:=fun i F H t kp d e=>by
  have h:=(y0k.mp e).1
  simpa [Its] using h
 yld:=fun i F H t v H' kp d e y=>by
  obtain⟨rfl,c,hc,rfl⟩:=y
  refine⟨F,Ext.refl d,?_⟩
  rw[y15,Array.getElem?_toList,hc] at e
  cases e
  simp[Rep,chT]
 stop:=fun i F H kp hl=>by
  simpa [Its] using hl
theorem i_A (hl:PEv X l f):PIt X tg l (itA f):=zgz (pi_A hl) fun σ H R ⟨F₀,H₀,O,F,ε,ts,r,e,k⟩=>by
 simp only[itA,y01] at e
 obtain⟨t,et,e⟩:=e
 split at e
 ·cases e
  refine⟨F₀,H₀,O,F,ε,_,r,et,fun v F' H' x q=>?_⟩
  simp only[Rep] at q
  obtain⟨a,vs,rfl,hs,hr⟩:=q
  exact .inl ⟨a,rfl,.inr ⟨⟨vs,hs⟩,k _ F' H' x (zn6 hs hr)⟩⟩
 ·cases e
  refine⟨F₀,H₀,O,F,ε,_,r,et,fun v F' H' x q=>?_⟩
  simp only[Rep] at q
  obtain⟨a,vs,rfl,fa,hs,hr⟩:=q
  exact .inl ⟨a,rfl,.inl ⟨⟨vs,.inl hs⟩,k _ F' H' x (zkj fa hs hr)⟩⟩
 ·split at e
  next ha =>
   cases e
   refine⟨F₀,H₀,O,F,ε,_,r,et,fun v F' H' x q=>?_⟩
   simp only[Rep] at q
   subst q
   exact .inr ⟨_,rfl,ha,k _ F' H' x (zn7 _)⟩
  next=>cases e
 ·cases e
end
end
section
variable [Tbl]
theorem zcb (n d:Nat) (hd:d<=n) (o:Option Int):D.sIx n d o<=n:=by
 cases o with
 | none=>exact hd
 | some v =>
  simp only[D.sIx]
  split <;> omega
theorem zqc (lo hi:Option Int) (n:Nat):Builtin.Str.strSliceIndices lo hi 1 n=sliceRange ((D.sIx n 0 lo:Nat):Int) ((D.sIx n n hi:Nat):Int) 1:=by
 unfold Builtin.Str.strSliceIndices
 have h1:∀(o:Option Int) (d:Nat),(match o with|none=>(d:Int)|some i=>(if (1:Int) > 0 then max 0 (min (if i<0 then i+(n:Int) else i) n) else max (-1) (min (if i<0 then i+(n:Int) else i) ((n:Int) - 1))))=((D.sIx n d o:Nat):Int):=by
  intro o d
  cases o with
  | none=>rfl
  | some v =>
   simp only[D.sIx]
   rw[if_pos (by decide)]
   split <;> omega
 have e1:=h1 lo 0
 have e2:=h1 hi n
 dsimp only
 rw[if_pos (show (1:Int) > 0 by decide)] at *
 rw[if_pos (show (1:Int) > 0 by decide)]
 exact congrFun (congr (congrArg sliceRange e1) e2) 1
theorem zm9 {α:Type} (l:List α) (lo hi:Option Int):(Builtin.Str.strSliceIndices lo hi 1 l.length).filterMap (fun k=>l[k]?)=cutZ l lo hi/\(Builtin.Str.strSliceIndices lo hi 1 l.length).length=(cutZ l lo hi).length:=by
 rw[zqc]
 have ha:=zcb l.length 0 (y21 _) lo
 have hb:=zcb l.length l.length (y0o _) hi
 unfold cutZ
 generalize D.sIx l.length 0 lo=a at *
 generalize D.sIx l.length l.length hi=b at *
 have e:sliceRange (a:Int) (b:Int) 1=(List.range (b - a)).map fun k=>a+k:=by
  unfold sliceRange
  have ec:((if (1:Int) > 0 then (if (a:Int)<(b:Int) then ((b:Int) - (a:Int)+1 - 1) / 1 else 0) else (if (a:Int) > (b:Int) then ((a:Int) - (b:Int) - 1 - 1) / (-1) else 0)):Int).toNat=b - a:=by
   rw[if_pos (by decide)]
   split <;> omega
  dsimp only
  rw[ec]
  congr 1
  funext k
  omega
 rw[e]
 by_cases hab:a<=b
 ·exact⟨StrLaws.picks l (b - a) a (by omega),by simp;omega⟩
 ·have z:b - a=0:=by omega
  rw[z]
  simp
def rSlS:V->Option Int->Option Int->Hp->VK->Prop:=fun x lo hi H Q=>∃z,x=.str z/\z.length<=y0j/\Q (.str ⟨(cutZ z.cps.toList lo hi).toArray⟩) H
section
variable {X:Cx} {a b e:Expr} {es:List Expr} {f g h:Fe} {fs:List Fe} {pos p p2 apos cpos:Pos}
theorem zl2 {α:Type} (l:List α) (lo hi:Option Int) (h:(cutZ l lo hi).length=l.length):cutZ l lo hi=l:=by
 unfold cutZ at h ⊢
 have ha:=zcb l.length 0 (y21 _) lo
 generalize D.sIx l.length 0 lo=a at *
 generalize D.sIx l.length l.length hi=b at *
 rw[List.length_take,List.length_drop] at h
 cases l with
 | nil=>simp
 | cons c r =>
  have:a=0:=by simp only[y0w] at *;omega
  subst this
  rw[List.drop_zero,List.take_of_length_le (by simp only[y0w] at *;omega)]
theorem zqg:SlR X rSlS:=by
 intro pins s σ H x v vl vu lo hi sl Q I rx hs pl pu h
 obtain⟨z,rfl,hzl,q⟩:=h
 obtain⟨t,rfl⟩:=rx
 refine⟨"str",_,slot_str_getitem.lookup,typeIs_str s z t,?_⟩
 obtain⟨h1,h2⟩:=zm9 z.cps.toList lo hi
 have hlen:z.length=z.cps.toList.length:=by simp[Str.length]
 have key:∀l u:Option (Int×Tok),l.map (·.1)=lo->u.map (·.1)=hi->Made.post (sliceMade z t l u none) (EP X pins σ Q) s:=by
  intro l u el eu
  unfold sliceMade slicePicked
  rw[el,eu]
  dsimp only[Option.map_none,Option.getD_none]
  rw[hlen]
  split
  next hw =>
   have hw2:(cutZ z.cps.toList lo hi).length=z.cps.toList.length:=by
    rw[<- h2]
    simpa using hw
   refine⟨.str z,H,I,⟨t,rfl⟩,?_⟩
   have:=zl2 _ _ _ hw2
   rw[this] at q
   simpa using q
  next =>
   have e:(List.filterMap (fun k=>z.cps[k]?) (Builtin.Str.strSliceIndices lo hi 1 z.cps.toList.length))=cutZ z.cps.toList lo hi:=by
    rw[<- h1]
    congr 1
    funext k
    simp
   rw[e]
   refine⟨?_,⟨.str _,H,I.tok _,⟨_,rfl⟩,q⟩⟩
   show (cutZ z.cps.toList lo hi).toArray.size<=y0j
   have:(cutZ z.cps.toList lo hi).length<=z.cps.toList.length:=by
    unfold cutZ
    rw[List.length_take,List.length_drop]
    omega
   rw[y0h]
   omega
 obtain⟨o,ho,hc,hd⟩:=hs
 cases pl with
 | none =>
  cases pu with
  | none=>exact wpAny_getItem_str_slice (l:=none) (u:=none) (st:=none) ⟨o,ho,hc,hd⟩ rfl (key _ _ rfl rfl)
  | int i2 t2=>exact wpAny_getItem_str_slice (l:=none) (u:=some (i2,t2)) (st:=none) ⟨o,ho,hc,hd⟩ rfl (key _ _ rfl rfl)
 | int i1 t1 =>
  cases pu with
  | none=>exact wpAny_getItem_str_slice (l:=some (i1,t1)) (u:=none) (st:=none) ⟨o,ho,hc,hd⟩ rfl (key _ _ rfl rfl)
  | int i2 t2=>exact wpAny_getItem_str_slice (l:=some (i1,t1)) (u:=some (i2,t2)) (st:=none) ⟨o,ho,hc,hd⟩ rfl (key _ _ rfl rfl)
theorem zgb {lo hi:Option Expr} {fl fh:Ev->Option (Option Int)} (ha:PEr X e f) (hl:PO X lo (tOt X.K fl)) (hu:PO X hi (tOt X.K fh)):PEv X (.Subscript e (.Slice lo hi none p2) pos) (z0l f fl fh):=z0t (zmo (((zqf.or zmc).or zot).or zqg) ha hl hu) fun σ H Q ⟨F₀,H₀,O,F,ε,t,r,e,k⟩=>by
 simp only[z0l,y01] at e
 obtain⟨x,ex,l,el,h,eh,e⟩:=e
 refine⟨F₀,H₀,O,F,ε,x,r,ex,fun v F1 H1 x1 rx=>⟨F₀,H₀,O,F1,ε,l,r.ext x1,el,fun F2 H2 x2=>⟨F₀,H₀,O,F2,ε,h,(r.ext x1).ext x2,eh,fun F3 H3 x3=>?_⟩⟩⟩
 have x23:=x2.trans x3
 have x13:=x1.trans x23
 unfold oSlA at e
 split at e
 ·split at e
  next hz =>
   cases e
   rw[(rx.ext x23).str]
   exact .inr ⟨_,rfl,by rw[z6u];exact hz,k _ F3 H3 x13 (by simp[Rep])⟩
  next=>cases e
 unfold oSl at e
 split at e
 ·cases e
  obtain⟨a,vs,rfl,hs,hr⟩:=(rx.ext x23).tup
  by_cases hw:HT.sIx vs.length 0 l=0/\HT.sIx vs.length vs.length h=vs.length
  ·refine .inl (.inl (.inr ⟨a,vs,rfl,hs,hw,k _ F3 H3 x13 ?_⟩))
   simp only[Rep]
   refine⟨a,vs,rfl,hs,?_⟩
   have:=zb0 hr l h
   unfold cutV at this
   rw[hw.1,hw.2,List.drop_zero,Nat.sub_zero,List.take_length] at this
   exact this
  ·refine .inl (.inl (.inl ⟨a,vs,rfl,hs,hw,fun q hq=>?_⟩))
   have x4:=Ext.laid (o:=.tup (cutV vs l h)) x13.dom hq
   refine k _ F3 _ (x13.trans x4) ?_
   simp only[Rep]
   exact⟨q,_,rfl,SqT.of z0h,(zb0 hr l h).ext x4⟩
 ·cases e
  obtain⟨a,vs,rfl,hs,hr⟩:=(rx.ext x23).lst
  refine .inl (.inr ⟨a,vs,rfl,.inl hs,fun q hq=>?_⟩)
  have x4:=Ext.laidF (o:=.lst (cutV vs l h)) x13.dom hq
  refine k _ _ _ (x13.trans x4) ?_
  simp only[Rep]
  exact⟨q,_,rfl,.inr rfl,.inl z0h,(zb0 hr l h).ext x4⟩
 ·cases e
end
end
section
variable [Tbl]
def SqX (K:y00) (b:Bool) (H:Hp) (a:Addr) (xs:List V):Prop:=match b with
 | true=>SqL K H a xs
 | false=>SqT K H a xs
def SqF (K:y00) (F:Addr->Prop) (H:Hp) (b:Bool) (a:Addr) (xs:List V):Prop:=match b with
 | true=>F a/\Rd H a (.lst xs)
 | false=>SqT K H a xs
theorem SqF.kp {K:y00} {F F1:Addr->Prop} {H H1:Hp} {b:Bool} {a:Addr} {xs:List V} (h:SqF K F H b a xs) (k:Kp K F H F1 H1):SqX K b H1 a xs:=by
 cases b with
 | true=>exact .inl (k.lst _ _ h.1 h.2).2
 | false=>exact k.tup _ _ h
theorem Inv.sqx {X:Cx} {pins:List (Addr×Obj)} {σ:L2.St} {H:Hp} {s:y04} {b:Bool} {a:Addr} {xs:List V} (I:Inv X pins σ H s) (h:SqX X.K b H a xs):∃its:List Value,Vals xs its/\sqK b s.heap a its.toArray/\xs.length<=y0j:=by
 cases b with
 | true =>
  obtain⟨its,r,p,z⟩:=I.list h
  exact⟨its,r,p.isList,z⟩
 | false=>exact I.tuple h
theorem Inv.sqx_inj {X:Cx} {pins:List (Addr×Obj)} {σ:L2.St} {H:Hp} {s:y04} {b:Bool} {a:Addr} {xs ys:List V} (I:Inv X pins σ H s) (h:SqX X.K b H a xs) (h':SqX X.K b H a ys):xs=ys:=by
 cases b with
 | true=>exact I.list_inj h h'
 | false=>exact I.tuple_inj h h'
noncomputable def Itz2 (K:y00) (b1 b2:Bool) (a b:Addr) (n m:Nat):It :=
 ⟨fun i H=>∃xs x ys y,SqX K b1 H a xs/\xs[i]?=some x/\SqX K b2 H b ys/\ys[i]?=some y/\xs.length=n/\ys.length=m,
  fun i H x H'=>∃p u v,H p=none/\x=.ref p/\H'=upd H p (.tup [u,v])/\(∀xs,SqX K b1 H a xs->xs[i]?=some u)/\∀ys,SqX K b2 H b ys->ys[i]?=some v,
  fun i H=>∃xs ys,SqX K b1 H a xs/\SqX K b2 H b ys/\xs.length=n/\ys.length=m/\(n<=i\/m<=i)⟩
noncomputable def TnZ2 (b1 b2:Bool) (z TI TO i1 i2 l1 l2:Addr) (n m i:Nat) (h:Heap):Prop:=ZipR h z TI TO .none (.bool false)/\IsPair h TI (.ref i1) (.ref i2)/\(∃a b,IsPair h TO a b)/\itK b1 h i1 l1 i/\itK b2 h i2 l2 i/\i<=n/\i<=m
theorem ziw {b1 b2:Bool} {P:y0q} {w:World} {K:y00} {es:List Expr} {k:Nat} {pos:Pos} {z TI TO i1 i2 l1 l2:Addr} {n m:Nat} (D:ZipApart z TI TO i1 i2 l1 l2):Turn P w K (.Tuple es k pos) (Itz2 K b1 b2 l1 l2 n m) [z,TI,TO,i1,i2] z (TnZ2 b1 b2 z TI TO i1 i2 l1 l2 n m) where
 mem:=by simp
 obj:=fun i h st b hb=>by
  obtain⟨hz,hTI,⟨a,c,hTO⟩,h1,h2,_⟩:=st
  simp only[y09,y25,or_false] at hb
  rcases hb with rfl|rfl|rfl|rfl|rfl
  ·exact⟨_,hz,fun v q=>by cases (show Data.fields _=Data.cell v from q)⟩
  ·exact⟨_,hTI,fun v q=>by cases (show Data.seq _ _=Data.cell v from q)⟩
  ·exact⟨_,hTO,fun v q=>by cases (show Data.seq _ _=Data.cell v from q)⟩
  ·exact h1.obj
  ·exact h2.obj
 keep:=fun i h h' st kk=>by
  obtain⟨hz,hTI,⟨a,c,hTO⟩,h1,h2,hn⟩:=st
  exact⟨kk z (by simp) _ hz,kk TI (by simp) _ hTI,⟨a,c,kk TO (by simp) _ hTO⟩,h1.at fun o q=>kk i1 (by simp) o q,h2.at fun o q=>kk i2 (by simp) o q,hn⟩
 item:=by
  intro X hP hw hK hc i pins s σ H E I hf st hg
  subst hP hw hK
  obtain⟨xs,x,ys,y,hq1,hx,hq2,hy,hn,hm⟩:=hg
  obtain⟨its,rv,p1,_⟩:=Inv.sqx I hq1
  obtain⟨its2,rv2,p2,_⟩:=Inv.sqx I hq2
  obtain⟨u,hu,ru⟩:=rv.get hx
  obtain⟨v,hv,rv'⟩:=rv2.get hy
  obtain⟨hz,hTI,⟨a,c,hTO⟩,h1,h2,hin,him⟩:=st
  have hi:i<its.toArray.size:=by
   rw[y0h]
   exact (y0k.mp hu).1
  have hj:i<its2.toArray.size:=by
   rw[y0h]
   exact (y0k.mp hv).1
  have hlx:=rv.length
  have hly:=rv2.length
  have hT:s.TypeIs (.ref z) "zip":=⟨_,hz,rfl⟩
  have zlt:z<s.heap.objs.size:=y0c hz
  have TOlt:TO<s.heap.objs.size:=y0c hTO
  have TIlt:TI<s.heap.objs.size:=y0c hTI
  have i1lt:i1<s.heap.objs.size:=by obtain⟨o,e,_⟩:=h1.obj;exact y0c e
  have i2lt:i2<s.heap.objs.size:=by obtain⟨o,e,_⟩:=h2.obj;exact y0c e
  have hh:=I.ok.hd hc
  unfold pyNext
  refine y02 (wpAny_attempt (y2i (name:=Str.ofString "__next__") hT F.slot_zip_next (y2p F.slot_zip_next hT F.entry_zip_next ?_ (F.args_zip_next_1 _))))
  refine zlq (S1:=fun i h=>itK b1 h i1 l1 i/\sqK b1 h l1 its.toArray) (S2:=fun i h=>itK b2 h i2 l2 i/\sqK b2 h l2 its2.toArray) D (zbe (A:=X.A.in1) b1 hh i1 l1 D.l1i1 its.toArray) (zbe (A:=X.A.in1) b2 hh i2 l2 D.l2i2 its2.toArray) hz hTI hTO ⟨h1,p1⟩ ⟨h2,p2⟩ hi hj fun h' x' y' tk px py hz' hTO' s1 s2 hp hsz kp=>y06 ?_
  have ex:x'=u:=by
   rw[<- Array.getElem?_toList,show (its.toArray).toList=its from rfl,hu] at px
   exact (y29 px).symm
  have ey:y'=v:=by
   rw[<- Array.getElem?_toList,show (its2.toArray).toList=its2 from rfl,hv] at py
   exact (y29 py).symm
  subst ex ey
  refine⟨_,rfl,wpAny_letOwnedTupleGo_zip hz' fun h2' hz2 hs2=>?_⟩
  have k2:∀b o,b≠z->b≠TO->b≠i1->b≠i2->s.heap.get? b=some o->h2'.get? b=some o:=fun b o b1 b2 b3 b4 q=>hs2.extBut b o b1 (kp b o b1 b2 b3 b4 q)
  have fr:H s.heap.objs.size=none:=I.hok.fresh (y0o _)
  have hT2:h2'.get? s.heap.objs.size=some { cls:=.type "tuple",data:=.seq #[x',y'] }:=hs2.extBut _ _ (y16 zlt) hp
  obtain⟨z0,z1,z2,z3,z4,z5⟩:=hf z (by simp)
  obtain⟨o0,o1,o2,o3,o4,o5⟩:=hf TO (by simp)
  obtain⟨f0,f1,f2,f3,f4,f5⟩:=hf i1 (by simp)
  obtain⟨g0,g1,g2,g3,g4,g5⟩:=hf i2 (by simp)
  obtain⟨t0,_⟩:=hf TI (by simp)
  have nH:∀b o,H b=some o->b≠z/\b≠TO/\b≠i1/\b≠i2:=fun b o q=>⟨fun e=>(by rw[e,z0] at q;cases q),fun e=>(by rw[e,o0] at q;cases q),fun e=>(by rw[e,f0] at q;cases q),fun e=>(by rw[e,g0] at q;cases q)⟩
  have k3:∀b o,b∉[z,TO,i1,i2]->s.heap.get? b=some o->h2'.get? b=some o:=fun b o hb q=>by
   simp only[y09,y25,or_false,not_or] at hb
   exact k2 b o hb.1 hb.2.1 hb.2.2.1 hb.2.2.2 q
  have nH3:∀b o,H b=some o->b∉[z,TO,i1,i2]:=fun b o q=>by
   simp only[y09,y25,or_false,not_or]
   exact nH b o q
  have hok2:HOk X.prog X.w (upd H s.heap.objs.size (.tup [x,y])) h2':=by
   intro b o q
   by_cases hb:b=s.heap.objs.size
   ·subst hb
    rw[z0h] at q
    cases q
    exact⟨by show 2<=y0j;decide,[x',y'],.cons ru (.cons rv' .nil),⟨_,hT2,rfl,_,rfl⟩⟩
   ·rw[z0f hb] at q
    refine (I.hok b o q).stay (fun c v hc' q'=>k3 c v ?_ q') (fun c q'=>?_) fun c ys q'=>?_
    ·rcases hc' with rfl|hc'
     ·exact nH3 _ _ q
     ·exact nH3 _ _ hc'
    ·rw[z0f (z0o q' fr)]
     exact q'
    ·rw[z0f (z0o q' fr)]
     exact q'
  have I2:L2.Inv X pins σ (upd H s.heap.objs.size (.tup [x,y])) { s with heap:=h2',toks:=tk }:=by
   refine I.step (g':=s.gens) (d':=s.drawn) (ch:=[z,TO,i1,i2]) (fun b hb=>?_) (fun b o _ _ hc' q _=>k3 b o hc' q) (fun b o _ _ hc' q _=>⟨o.slots,k3 b o hc' q⟩) (fun b o _ q n=>?_)
    (fun b o hc' q=>⟨o,k3 b o hc' q⟩) (fun b ys q=>by rw[z0f (z0o q fr)];exact q) (fun b o u q=>by rw[z0f (z0o q fr)];exact q) (fun b ps q=>⟨#[],by rw[z0f (z0o q fr),q];simp⟩) (fun m hm=>?_) hok2 I.bare
   ·simp only[y09,y25,or_false] at hb
    rcases hb with rfl|rfl|rfl|rfl
    ·exact⟨z3,z1,z4,z5⟩
    ·exact⟨o3,o1,o4,o5⟩
    ·exact⟨f3,f1,f4,f5⟩
    ·exact⟨g3,g1,g4,g5⟩
   ·rw[z0f (y0y (y0c q))]
    exact n
   ·obtain⟨o,es',ep,ho',r⟩:=hm
    exact⟨o,es',ep,k2 _ o (Ne.symm z1) (Ne.symm o1) (Ne.symm f1) (Ne.symm g1) ho',r⟩
  refine⟨.ref s.heap.objs.size,_,I2,rfl,⟨s.heap.objs.size,x,y,fr,rfl,rfl,fun ws hw=>by rw[Inv.sqx_inj I hw hq1];exact hx,fun ws hw=>by rw[Inv.sqx_inj I hw hq2];exact hy⟩,⟨hz2,hs2.extBut _ _ D.TIz (kp _ _ D.TIz D.TITO D.TIi1 D.TIi2 hTI),⟨_,_,hs2.extBut _ _ D.TOz hTO'⟩,s1.1.at fun o q=>hs2.extBut _ _ D.i1z q,s2.1.at fun o q=>hs2.extBut _ _ D.i2z q,?_,?_⟩,fun b hb=>?_⟩
  ·rw[y0h] at hi
   omega
  ·rw[y0h] at hj
   omega
  ·simp only[y09,y25,or_false] at hb
   rcases hb with rfl|rfl|rfl|rfl|rfl
   ·rw[z0f (y0y zlt)]
    exact z0
   ·rw[z0f (y0y TIlt)]
    exact t0
   ·rw[z0f (y0y TOlt)]
    exact o0
   ·rw[z0f (y0y i1lt)]
    exact f0
   ·rw[z0f (y0y i2lt)]
    exact g0
 done:=by
  intro X hP hw hK hc i pins s σ H E I hf st hg
  subst hP hw hK
  obtain⟨xs,ys,hq1,hq2,hn,hm,hs⟩:=hg
  obtain⟨its,rv,p1,_⟩:=Inv.sqx I hq1
  obtain⟨its2,rv2,p2,_⟩:=Inv.sqx I hq2
  obtain⟨hz,hTI,⟨a,c,hTO⟩,h1,h2,hin,him⟩:=st
  have hlx:=rv.length
  have hly:=rv2.length
  have hT:s.TypeIs (.ref z) "zip":=⟨_,hz,rfl⟩
  have hh:=I.ok.hd hc
  have hk:i=its.toArray.size\/(i<its.toArray.size/\i=its2.toArray.size):=by
   rw[y0h,y0h]
   omega
  unfold pyNext
  refine y02 (wpAny_attempt (y2i (name:=Str.ofString "__next__") hT F.slot_zip_next (y2p F.slot_zip_next hT F.entry_zip_next ?_ (F.args_zip_next_1 _))))
  refine zlp (S1:=fun i h=>itK b1 h i1 l1 i/\sqK b1 h l1 its.toArray) (S2:=fun i h=>itK b2 h i2 l2 i/\sqK b2 h l2 its2.toArray) D (zbe (A:=X.A.in1) b1 hh i1 l1 D.l1i1 its.toArray) (zbe (A:=X.A.in1) b2 hh i2 l2 D.l2i2 its2.toArray) hz hTI hTO ⟨h1,p1⟩ ⟨h2,p2⟩ hk fun h' e tk kp he=>?_
  obtain⟨o,ho,hc'⟩:=he
  refine y02 (wpAny_isInstance (T:="StopIteration") (b:=true) ⟨o,ho,hc'⟩ isSubtype_stop (y06 ⟨rfl,?_⟩))
  obtain⟨z0,z1,z2,z3,z4,z5⟩:=hf z (by simp)
  obtain⟨o0,o1,o2,o3,o4,o5⟩:=hf TO (by simp)
  obtain⟨f0,f1,f2,f3,f4,f5⟩:=hf i1 (by simp)
  obtain⟨g0,g1,g2,g3,g4,g5⟩:=hf i2 (by simp)
  have k3:∀b o,b∉[z,TO,i1,i2]->s.heap.get? b=some o->h'.get? b=some o:=fun b o hb q=>by
   simp only[y09,y25,or_false,not_or] at hb
   exact kp b o hb.1 hb.2.1 hb.2.2.1 hb.2.2.2 q
  have nH3:∀b o,H b=some o->b∉[z,TO,i1,i2]:=fun b o q=>by
   simp only[y09,y25,or_false,not_or]
   exact⟨fun e=>(by rw[e,z0] at q;cases q),fun e=>(by rw[e,o0] at q;cases q),fun e=>(by rw[e,f0] at q;cases q),fun e=>(by rw[e,g0] at q;cases q)⟩
  have hok2:HOk X.prog X.w H h':=by
   intro b o q
   refine (I.hok b o q).stay (fun c v hc' q'=>k3 c v ?_ q') (fun c q'=>q') fun c ys q'=>q'
   rcases hc' with rfl|hc'
   ·exact nH3 _ _ q
   ·exact nH3 _ _ hc'
  refine I.step (g':=s.gens) (d':=s.drawn) (ch:=[z,TO,i1,i2]) (fun b hb=>?_) (fun b o _ _ hc' q _=>k3 b o hc' q) (fun b o _ _ hc' q _=>⟨o.slots,k3 b o hc' q⟩) (fun b o _ q n=>n)
    (fun b o hc' q=>⟨o,k3 b o hc' q⟩) (fun b ys q=>q) (fun b o u q=>q) (fun b ps q=>⟨#[],by rw[q];simp⟩) (fun m hm=>?_) hok2 I.bare
  ·simp only[y09,y25,or_false] at hb
   rcases hb with rfl|rfl|rfl|rfl
   ·exact⟨z3,z1,z4,z5⟩
   ·exact⟨o3,o1,o4,o5⟩
   ·exact⟨f3,f1,f4,f5⟩
   ·exact⟨g3,g1,g4,g5⟩
  ·obtain⟨o,es',ep,ho',r⟩:=hm
   exact⟨o,es',ep,kp _ o (Ne.symm z1) (Ne.symm o1) (Ne.symm f1) (Ne.symm g1) ho',r⟩
 self:=fun _ _ _ _ _ st h=>wpAny_pyIter_zip (f0:=.none) st.1 h
def iZp2 (K:y00) (ta:TA):TI:=fun σ H R=>ta σ H fun vs H1=>∃b1 b2 a b xs ys,vs=[.ref a,.ref b]/\SqX K b1 H1 a xs/\SqX K b2 H1 b ys/\R (Itz2 K b1 b2 a b xs.length ys.length) H1
section
variable {X:Cx} {es:List Expr} {k:Nat} {p pos p2:Pos} {a b:Expr} {f g:Fe}
theorem zp8 {ta:TA} (hg:Gl X "zip") (hm:X.mg "zip"=none) (ha:PA X [a,b] ta) (hs:y0a [a,b] X.env=(false,eval a X.env)::y0a [b] X.env) (hpl:(y2g pos (y0a [b] X.env)).any (·.1)=false):PI X (.Tuple es k p2) (.Call (.Name "zip" p) [a,b] [] pos) (iZp2 X.K ta):=by
 intro pins s σ H R I h
 refine Call_ (z93 I hg hm PyProof.Rows.boot_zip (y1s (thn (ha pos pins s σ H _ I h) fun us s1 ⟨vs,H1,I1,r1,q1⟩=>?_) hs hpl))
 obtain⟨b1,b2,l1,l2,xs,ys,rfl,hq1,hq2,q⟩:=q1
 obtain⟨u1,u2,rfl,e1,e2⟩:=r1.two
 cases e1
 cases e2
 obtain⟨its,rv,k1,_⟩:=Inv.sqx I1 hq1
 obtain⟨its2,rv2,k2,_⟩:=Inv.sqx I1 hq2
 refine zl7 k1 k2 fun h' hzr hTI hTO hi1 hi2 hsz hk=>wpAny_pyIter_zip (f0:=.none) hzr ?_
 refine⟨s1.heap.objs.size+4,[s1.heap.objs.size+4,s1.heap.objs.size+2,s1.heap.objs.size+3,s1.heap.objs.size,s1.heap.objs.size+1],_,_,H1,rfl,I1.kept (t':=s1.toks) hk,ziw (ze9 k1.lt k2.lt),⟨hzr,hTI,⟨_,_,hTO⟩,hi1,hi2,y21 _,y21 _⟩,fun b hb=>?_,q⟩
 have hb':s1.heap.objs.size<=b:=by
  simp only[y09,y25,or_false] at hb
  rcases hb with rfl|rfl|rfl|rfl|rfl
  ·exact y30 _ _
  ·exact y30 _ _
  ·exact y30 _ _
  ·exact y0o _
  ·exact y30 _ _
 exact I1.fpOk hb' (I1.hok.fresh hb')
theorem zki {b1 b2:Bool} {K:y00} {a b:Addr} {F1:Addr->Prop} {H1:Hp} {ts us:List T} {vs ws:List V} (hr:SqF K F1 H1 b1 a vs) (q:RepL K F1 H1 ts vs) (hr2:SqF K F1 H1 b2 b ws) (q2:RepL K F1 H1 us ws):ItOk K (Itz2 K b1 b2 a b vs.length ws.length) F1 H1 (zipT ts us) where
 go:=fun i F H t kp d e=>by
  have hi:=(y0k.mp e).1
  simp only[zipT,List.length_zipWith] at hi
  obtain⟨v,h1,_⟩:=q.get (y0v (show i<ts.length by omega))
  obtain⟨v2,h2,_⟩:=q2.get (y0v (show i<us.length by omega))
  exact⟨vs,v,ws,v2,hr.kp kp,h1,hr2.kp kp,h2,rfl,rfl⟩
 yld:=fun i F H t x H' kp d e y=>by
  obtain⟨p,v,v2,hp,rfl,rfl,y1,y2⟩:=y
  have hi:=(y0k.mp e).1
  simp only[zipT,List.length_zipWith] at hi
  have hi1:i<ts.length:=by omega
  have hi2:i<us.length:=by omega
  obtain⟨v',h1,h2⟩:=(q.kp kp).get (y0v hi1)
  obtain⟨v2',h3,h4⟩:=(q2.kp kp).get (y0v hi2)
  have h5:=y1 vs (hr.kp kp)
  rw[h1] at h5
  cases h5
  have h6:=y2 ws (hr2.kp kp)
  rw[h3] at h6
  cases h6
  have x1:=Ext.laid (o:=.tup [v,v2]) d hp
  refine⟨F,x1,?_⟩
  have et:t=.tuple [ts[i],us[i]]:=by
   rw[zipT,List.getElem?_zipWith,y0v hi1,y0v hi2] at e
   exact (y29 e).symm
  subst et
  simp only[Rep]
  exact⟨p,_,rfl,SqT.of z0h,RepL.cons (h2.ext x1) (RepL.cons (h4.ext x1) RepL.nil)⟩
 stop:=fun i F H kp hl=>⟨vs,ws,hr.kp kp,hr2.kp kp,rfl,rfl,by
  simp only[zipT,List.length_zipWith] at hl
  rw[<- q.length,<- q2.length]
  omega⟩
theorem znz {K:y00} {F:Addr->Prop} {H:Hp} {t:T} {ts:List T} {v:V} (h:(match t with|.tuple ts=>some ts|.list ts=>some ts|_=>(none:Option (List T)))=some ts) (q:Rep K F H t v):∃b a vs,v=.ref a/\SqF K F H b a vs/\RepL K F H ts vs:=by
 split at h
 ·cases h
  simp only[Rep] at q
  obtain⟨a,vs,rfl,hs,hr⟩:=q
  exact⟨false,a,vs,rfl,hs,hr⟩
 ·cases h
  simp only[Rep] at q
  obtain⟨a,vs,rfl,f,hs,hr⟩:=q
  exact⟨true,a,vs,rfl,⟨f,hs⟩,hr⟩
 ·cases h
theorem zs2 (hm:X.mg "zip"=none) (ha:PEv X a f) (hb:PEv X b g) (hg:Gl X "zip":=by rfl) (hs:y0a [a,b] X.env=(false,eval a X.env)::y0a [b] X.env:=by rfl) (hs2:y0a [b] X.env=(false,eval b X.env)::y0a [] X.env:=by rfl) (hpl:(y2g pos (y0a [b] X.env)).any (·.1)=false:=by rfl) :
  PIt X (.Tuple es k p2) (.Call (.Name "zip" p) [a,b] [] pos) (zi2 (z2s f) (z2s g)):=zgz (zp8 hg hm (z5s ha (z5s hb z8w hs2) hs) hs hpl) fun σ H R ⟨F₀,H₀,O,F,ε,ts,r,e,k⟩=>by
 simp only[zi2,z2s,y07,y01] at e
 obtain⟨xs,⟨t,et,e1⟩,ys,⟨u,eu,e2⟩,rfl⟩:=e
 refine⟨F₀,H₀,O,F,ε,_,r,et,fun v F1 H1 x1 q1=>⟨F₀,H₀,O,F1,ε,_,r.ext x1,eu,fun w F2 H2 x2 q2=>?_⟩⟩
 obtain⟨c1,a1,vs,rfl,hs1,hr1⟩:=znz e1 (q1.ext x2)
 obtain⟨c2,a2,ws,rfl,hs2,hr2⟩:=znz e2 q2
 exact⟨c1,c2,a1,a2,vs,ws,rfl,hs1.kp Kp.refl,hs2.kp Kp.refl,k _ F2 H2 (x1.trans x2) (zki hs1 hr1 hs2 hr2)⟩
end
end
section
variable [Tbl]
section
variable {X:Cx} {a b e:Expr} {es:List Expr} {f g h:Fe} {fs:List Fe} {pos p p2 apos cpos:Pos}
theorem zl8:z5j X (.type "str") (fun xs H Q=>(∃x,xs=[.str x]/\Q (.str x) H)\/∃i,xs=[.int i]/\zk6 i=true/\Q (.str (strI i)) H):=by
 intro pins s σ H xs us Q I r h
 rcases h with ⟨x,rfl,q⟩|⟨i,rfl,hz,q⟩
 ·obtain⟨u,rfl,t,rfl⟩:=vals1 r
  exact PySem.P.str_of_str ⟨.str x,H,I,⟨t,rfl⟩,q⟩
 ·obtain⟨u,rfl,t,rfl⟩:=vals1 r
  exact PySem.P.str_of_int (of_decide_eq_true hz) ⟨.str _,H,I.tok _,⟨_,rfl⟩,q⟩
theorem zo0 (hm:X.mg "str"=none) (ha:PAr X (e::es) fs) (hg:Gl X "str":=by rfl) (he:y0a (e::es) X.env=(false,eval e X.env)::y0a es X.env:=by rfl) (hpl:(y2g pos (y0a es X.env)).any (·.1)=false:=by rfl) :
  PEv X (.Call (.Name "str" p) (e::es) [] pos) (opN oStr fs):=z0t (z6y zl8 hg hm (by decide +kernel) ha (he:=he) (hpl:=hpl)) (z8y (by
 intro O F H ts t vs Q d q e k
 unfold oStr at e
 split at e
 ·cases e
  cases q with
  | cons q1 q2 =>
   cases q2
   exact .inl ⟨_,by rw[q1.str],k _ F H (Ext.refl d) (by simp[Rep])⟩
 ·split at e
  next hz =>
   cases e
   cases q with
   | cons q1 q2 =>
    cases q2
    exact .inr ⟨_,by rw[q1.int],hz,k _ F H (Ext.refl d) (by simp[Rep])⟩
  next=>cases e
 ·cases e))
theorem zqq (ha:PEr X a f) (hb:PEr X b g):PEv X (.BinOp a .Pow b pos) (op2 zjy f g) :=
 z0t (zcj zrk ha hb) (z4u (by
  intro O F H x y t vx vy Q d rx ry e k
  unfold zjy at e
  split at e
  ·split at e
   next hm =>
    cases e
    rw[rx.int,ry.int]
    obtain⟨rfl,h1,h2⟩:=hm
    exact⟨10,_,rfl,rfl,⟨h1,by omega,by decide⟩,k _ F _ (Ext.refl d) (by simp[Rep])⟩
   next=>cases e
  ·cases e))
theorem zcl:OpR X (y2l .IsNot) (fun x y H Q=>∃b c,x=.bl b/\y=.bl c/\Q (.bl !(b == c)) H):=by
 intro pins s σ H x y v u Q I rx ry h
 obtain⟨b,c,rfl,rfl,q⟩:=h
 cases rx
 cases ry
 exact isnot_bool (zdf I q rfl)
theorem zcn:Op2 X.K zcq (fun x y H Q=>∃b c,x=.bl b/\y=.bl c/\Q (.bl !(b == c)) H):=by
 intro O F H x y t vx vy Q d rx ry e k
 unfold zcq at e
 split at e
 ·cases e
  exact⟨_,_,rx.bl,ry.bl,k _ F H (Ext.refl d) (by simp[Rep])⟩
 ·cases e
end
end
section
variable [Tbl]
end
section
variable [Tbl]
theorem zgw:∀{ts:List T} {bs:List Bool},bools ts=some bs->ts=bs.map .bool
 | [],bs,e=>by
  cases e
  rfl
 | t::ts,bs,e=>by
  unfold bools at e
  split at e
  ·rename_i h
   cases h
  ·rename_i h
   cases h
   simp only[y07] at e
   obtain⟨r,e1,rfl⟩:=e
   rw[zgw e1]
   rfl
  ·cases e
section
variable {X:Cx} {e:Expr} {es:List Expr} {fs:List Fe} {pos p:Pos}
theorem zlb (hc:X.calm=true):z5j X (.builtin "all") (fun xs H Q=>∃(p:Addr) (bs:List Bool),xs=[.ref p]/\SqL X.K H p (bs.map V.bl)/\Q (.bl (bs.all id)) H):=by
 intro pins s σ H xs us Q I r h
 obtain⟨p,bs,rfl,hq,q⟩:=h
 obtain⟨u,rfl,rx⟩:=vals1 r
 cases rx
 obtain⟨its,r',pl,hz⟩:=I.list hq
 have hlt:p<s.heap.objs.size:=by obtain⟨o,n,ho,_⟩:=pl;exact y0c ho
 have hlen:its.length=bs.length:=by have:=r'.length;simpa using this.symm
 refine PySem.call_all_walk (wpAny_pyIter_list (items:=its.toArray) pl.isList ?_)
 refine⟨_,[s.heap.objs.size,p],[s.heap.objs.size],_,_,_,(fun i=>bs.getD i true),rfl,Walks.list (A:=X.A.in1) (I.ok.hd hc) _ p (y0y hlt) its.toArray,⟨⟨_,y0l _ rfl,rfl,rfl⟩,pl.isList.push _⟩,fun i v s' Q' E' hP hQ'=>?_,fun h' tk hk=>?_⟩
 ·have hi:its[i]?=some v:=by simpa using hP
  have hlt':i<bs.length:=by rw[<- hlen];exact (y0k.mp hi).1
  obtain⟨u',e1,e2⟩:=r'.get (i:=i) (x:=V.bl bs[i]) (by simp[hlt'])
  rw[hi] at e1
  cases e1
  have e2':v=.bool bs[i]:=e2
  subst e2'
  refine y2s ?_
  have:bs.getD i true=bs[i]:=by simp[hlt']
  exact this▸hQ'
 ·have e:((List.range its.toArray.size).all fun i=>bs.getD i true)=bs.all id:=by
   rw[y0h,hlen,Bool.eq_iff_iff,List.all_eq_true,List.all_eq_true]
   constructor
   ·intro h b hb
    obtain⟨i,hi,rfl⟩:=List.getElem_of_mem hb
    have:=h i (List.mem_range.mpr hi)
    have e2:bs.getD i true=bs[i]:=by simp[hi]
    rw[e2] at this
    exact this
   ·intro h i hi
    have hi':=List.mem_range.mp hi
    have e2:bs.getD i true=bs[i]:=by simp[hi']
    rw[e2]
    exact h _ (List.getElem_mem hi')
  rw[e]
  exact⟨.bl (bs.all id),H,I.kept (t':=tk) fun b o e=>hk b o (by simp only[y0z];exact y0y (y0c e)) (y03 _ e),rfl,q⟩
theorem zjl (hc:X.calm=true) (hm:X.mg "all"=none) (ha:PAr X (e::es) fs) (hg:Gl X "all":=by rfl) (he:y0a (e::es) X.env=(false,eval e X.env)::y0a es X.env:=by rfl) (hpl:(y2g pos (y0a es X.env)).any (·.1)=false:=by rfl) :
  PEv X (.Call (.Name "all" p) (e::es) [] pos) (opN z71 fs):=z0t (zb3 (zlb hc) hg hm (by decide +kernel) ha (he:=he) (hpl:=hpl)) (z8y (by
 intro O F H ts t vs Q d q e k
 unfold z71 at e
 split at e
 ·simp only[y07] at e
  obtain⟨bs,en,rfl⟩:=e
  have:=zgw en
  subst this
  cases q with
  | cons q1 q2 =>
   cases q2
   obtain⟨l0,ws,rfl,hl,hr⟩:=q1.lst
   have:=za9 hr
   subst this
   exact⟨l0,bs,rfl,.inl hl,k _ F H (Ext.refl d) (by simp[Rep])⟩
 ·cases e))
end
end
section
variable [Tbl]
def frz (i:Nat):Fs:=fun ε=>match ε[i]? with
 | some (some (.own ts))=>some (.nx (ε.set i (some (.imm (.list ts)))))
 | _=>none
section
variable {P:y0q} {w:World} {K:y00} {mg:Str->Option Value} {base:Heap} {k:Nat} {q c':Addr} {N:List Str} {qual:Str} {scope:Scope} {cd:Value} {cl:List (Str×Addr)} {A:Around} {outer:List Env} {s:y04} {H:Hp} {σ:L2.St}
end
end
section
variable [Tbl]
noncomputable def zcp:T->Option T
 | .tuple xs=>some (.tuple xs.reverse)
 | .list xs=>some (.list xs.reverse)
 | .str x=>if x.length<=big then some (.str ⟨x.cps.toList.reverse.toArray⟩) else none
 | _=>none
theorem zny (n:Nat):sliceRange ((n:Int) - 1) (-1) (-1)=(List.range n).reverse:=by
 unfold sliceRange
 have ec:((if (-1:Int) > 0 then (if (n:Int) - 1 < -1 then ((-1) - ((n:Int) - 1)+(-1) - 1) / (-1) else 0) else (if (n:Int) - 1 > -1 then ((n:Int) - 1 - (-1) - (-1) - 1) / (- -1) else 0)):Int).toNat=n:=by
  rw[if_neg (by decide),show (- -1:Int)=1 by decide]
  split
  ·rw[Int.ediv_one]
   omega
  ·omega
 dsimp only
 rw[ec,<- PySem.W.krv_range]
 refine List.map_congr_left fun k _=>?_
 omega
theorem zgf {α:Type} (xs:Array α):(List.range xs.size).reverse.filterMap (fun k=>xs[k]?)=xs.toList.reverse:=by
 rw[List.filterMap_reverse]
 congr 1
 have:∀(l:List α),(List.range l.length).filterMap (fun k=>l[k]?)=l:=fun l=>by
  induction l with
  | nil=>rfl
  | cons a l ih =>
   rw[y0w,List.range_succ_eq_map,List.filterMap_cons,List.filterMap_map]
   simp only[y27]
   congr 1
 have h:=this xs.toList
 simpa using h
section
variable {X:Cx} {e st:Expr} {te:TE} {f:Fe} {pos p2:Pos}
noncomputable def zsh (K:y00) (te:TE):TE:=fun σ H Q=>te σ H fun x H1=>(∃a xs,x=.ref a/\SqT K H1 a xs/\∀p,H1 p=none->Q (.ref p) (upd H1 p (.tup xs.reverse)))\/(∃a xs,x=.ref a/\SqL K H1 a xs/\∀p,H1 p=none->Q (.ref p) (upd H1 p (.lst xs.reverse)))\/∃z,x=.str z/\z.length<=y0j/\Q (.str ⟨z.cps.toList.reverse.toArray⟩) H1
theorem zpc (he:PE X e te) (hst:PE X st (tC (.int (-1)))):PE X (.Subscript e (.Slice none none (some st) p2) pos) (zsh X.K te):=by
 intro pins s σ H Q I h
 refine Subscript_ (thn (he pins s σ H _ I h) fun v s1 ⟨x,H1,I1,r1,q1⟩=>?_)
 refine wpAny_Slice ?_
 rw[evalPart_none]
 refine y06 (y06 ?_)
 rw[evalPart_some]
 refine thn (hst pins s1 σ H1 (fun y H2=>y=.int (-1)/\H2=H1) I1 ⟨rfl,rfl⟩) fun vk s3 ⟨y,H3,I3,pk,ey,eh⟩=>?_
 subst ey
 subst eh
 obtain⟨tk,rfl⟩:=pk
 have I4:Inv X pins σ H3 { s3 with heap:=s3.heap.push { cls:=.type "slice",data:=.fields #[.none,.none,.int (-1) tk] } }:=I3.kept (t':=s3.toks) fun b ob q=>y03 _ q
 show y0u (y2w X.prog X.w) X.A (subscriptTail e (.Slice none none (some st) p2) v (.ref s3.heap.objs.size)) (EP X pins σ Q) X.xe { s3 with heap:=s3.heap.push { cls:=.type "slice",data:=.fields #[.none,.none,.int (-1) tk] } }
 rcases q1 with ⟨a,xs,rfl,hx,q⟩|⟨a,xs,rfl,hx,q⟩|⟨z,rfl,hz,q⟩
 ·cases r1
  obtain⟨its,r,ht,hz⟩:=I4.tuple hx
  have hlen:its.toArray.size=xs.length:=by rw[y0h];exact r.length.symm
  refine tail_any (ops:=[.ref a,.ref s3.heap.objs.size]) ht.typeIs PyProof.Rows.slot_tuple_getitem.lookup ?_ (by with_unfolding_all rfl)
  refine z7g ht (Heap.IsSliceOf.new ..) ?_ (by rw[hlen];exact hz)
  refine⟨.ref _,_,I4.laid (t':=s3.toks) (o:=.tup xs.reverse) (fun b ob q=>y03 _ q) (y0o _) ⟨by simpa using hz,its.reverse,z7e r,?_⟩,rfl,q _ (I4.hok.fresh (y0o _))⟩
  exact IsTup.new _ _
 ·cases r1
  obtain⟨its,r,ht,hz⟩:=I4.list hx
  have hlen:=r.length
  refine tail_any (ops:=[.ref a,.ref s3.heap.objs.size]) ht.isList.typeIs slot_list_getitem.lookup ?_ (by with_unfolding_all rfl)
  refine wpAny_getItem_list_slice ht.isList (Heap.IsSliceOf.new ..) .none .none (.int (-1) tk) (by decide) ?_ (by rw[y0h] <;> omega)
  have es:slicePick its.toArray none none (some (-1))=its.reverse.toArray:=by
   unfold slicePick
   have eb:(sliceBounds none none (some (-1)) its.toArray.size)=((its.toArray.size:Int) - 1,-1,-1):=by simp[sliceBounds]
   rw[eb]
   dsimp only
   rw[zny,zgf]
  rw[es]
  refine⟨.ref _,_,I4.laid (t':=s3.toks) (o:=.lst xs.reverse) (fun b ob q=>y03 _ q) (y0o _) ⟨by simpa using hz,_,0,z7e r,y0l _ rfl⟩,rfl,q _ (I4.hok.fresh (y0o _))⟩
 ·obtain⟨t,rfl⟩:=r1
  refine tail_any (ops:=[.str z t,.ref s3.heap.objs.size]) (typeIs_str _ z t) slot_str_getitem.lookup ?_ (by with_unfolding_all rfl)
  refine wpAny_getItem_str_slice (l:=none) (u:=none) (st:=some (-1,tk)) (Heap.IsSliceOf.new ..) (by rfl) ?_
  unfold sliceMade slicePicked
  dsimp only[Option.map_none,y1r,Option.getD_some]
  rw[if_neg (by simp)]
  have es:List.filterMap (fun k=>z.cps[k]?) (Builtin.Str.strSliceIndices none none (-1) z.length)=z.cps.toList.reverse:=by
   have eb:Builtin.Str.strSliceIndices none none (-1) z.length=sliceRange ((z.length:Int) - 1) (-1) (-1):=by
    unfold Builtin.Str.strSliceIndices
    dsimp only
    rw[if_neg (by decide),if_neg (by decide)]
   rw[eb,zny]
   exact zgf z.cps
  rw[es]
  refine⟨?_,⟨.str _,H3,I4.tok _,⟨_,rfl⟩,q⟩⟩
  show z.cps.toList.reverse.toArray.size<=y0j
  simpa [Str.length] using hz
theorem zo1 (ha:PEr X e f) (hst:PE X st (tC (.int (-1)))):PEv X (.Subscript e (.Slice none none (some st) p2) pos) (op1 zcp f):=z0t (zpc ha hst) fun σ H Q ⟨F₀,H₀,O,F,ε,t,r,e,k⟩=>by
 simp only[op1,y01] at e
 obtain⟨x,ex,e⟩:=e
 unfold zcp at e
 split at e
 ·cases e
  refine⟨F₀,H₀,O,F,ε,_,r,ex,fun v F1 H1 x1 rx=>?_⟩
  obtain⟨a,vs,rfl,hs,hr⟩:=rx.tup
  refine .inl ⟨a,vs,rfl,hs,fun p hp=>?_⟩
  have x2:=Ext.laid (o:=.tup vs.reverse) x1.dom hp
  refine k _ F1 _ (x1.trans x2) ?_
  simp only[Rep]
  exact⟨p,_,rfl,SqT.of z0h,(z5p hr).ext x2⟩
 ·cases e
  refine⟨F₀,H₀,O,F,ε,_,r,ex,fun v F1 H1 x1 rx=>?_⟩
  obtain⟨a,vs,rfl,hs,hr⟩:=rx.lst
  refine .inr (.inl ⟨a,vs,rfl,.inl hs,fun p hp=>?_⟩)
  have x2:=Ext.laidF (o:=.lst vs.reverse) x1.dom hp
  refine k _ _ _ (x1.trans x2) ?_
  simp only[Rep]
  exact⟨p,_,rfl,.inr rfl,.inl z0h,(z5p hr).ext x2⟩
 ·split at e
  next hz =>
   cases e
   refine⟨F₀,H₀,O,F,ε,_,r,ex,fun v F1 H1 x1 rx=>.inr (.inr ⟨_,rx.str,by rw[z6u];exact hz,k _ F1 H1 x1 (by simp[Rep])⟩)⟩
  next=>cases e
 ·cases e
end
end
section
variable [Tbl]
section
variable {X:Cx} {a b:Expr} {f g:Fe} {p pos:Pos}
theorem zqw (ha:PEr X a f) (hb:PEr X b g):PEn X (.BinOp a .Add b pos) (op2 oAdd f g) :=
 z0t (zcj zjs ha hb) fun σ H Q ⟨F₀,H₀,O,F,ε,ts,r,e,k⟩=>by
  simp only[op2,y01] at e
  obtain⟨x,ex,y,ey,eo⟩:=e
  refine⟨F₀,H₀,O,F,ε,x,r,ex,fun vx F1 H1 x1 rx=>⟨F₀,H₀,O,F1,ε,y,r.ext x1,ey,fun vy F2 H2 x2 ry=>?_⟩⟩
  unfold oAdd at eo
  split at eo
  ·cases eo
  ·split at eo <;> cases eo
  ·split at eo <;> cases eo
  ·split at eo
   next xs ys hz =>
    cases eo
    obtain⟨ax,vs,rfl,hs,hr⟩:=(rx.ext x2).lst
    obtain⟨ay,ws,rfl,hs',hr'⟩:=ry.lst
    refine⟨_,_,_,_,rfl,rfl,hs,hs',by rw[z6u,<- hr.length,<- hr'.length];exact hz,fun q hq=>?_⟩
    have x3:Ext F2 H2 F2 (upd H2 q (.lst (vs++ws))):=Ext.laid x2.dom hq
    exact k q _ F2 _ ((x1.trans x2).trans x3) ((x1.trans x2).same.none hq) (fun fp=>by
     obtain⟨o,eo⟩:=x2.dom q fp
     rw[hq] at eo
     cases eo) z0h ((hr.append hr').ext x3)
   next=>cases eo
  ·cases eo
end
end
section
variable [Tbl]
def zab:T->Option T
 | .str x=>if x.length<=1000 then some (.str (Txt.upper x)) else none
 | _=>none
def zac:T->T->Option T
 | .str x,.int i=>if i=2/\x.length<=1000 then some (.str (x++x)) else none
 | _,_=>none
section
variable {X:Cx} {a b:Expr} {f g:Fe} {p pos apos cpos:Pos}
def zqn:V->List V->Hp->VK->Prop:=fun x vs H Q=>∃z,x=.str z/\vs=[]/\z.length<=1000/\Q (.str (Txt.upper z)) H
theorem zn0:MtM X "str.upper" zqn:=by
 intro pins s σ H x vs v us Q I rx rv h
 obtain⟨z,rfl,rfl,hz,q⟩:=h
 obtain⟨t,rfl⟩:=rx
 cases rv
 exact SCL.upper (by omega) fun _=>⟨.str _,H,I.tok _,⟨_,rfl⟩,q⟩
theorem zow (ha:PEr X a f) (hbase:attributeBase a "upper" X.env (eval a X.env)=eval a X.env:=by rfl) (hline:(apos.endLine == cpos.line)=true:=by rfl) :
  PEv X (.Call (.Attribute a "upper" apos) [] [] cpos) (op1 zab f) :=
 z0t (zrf PySem.F.plainAttrs_str PySem.F.slot_str_upper PySem.F.type_str_upper zn0 ha hbase hline) fun σ H Q ⟨F₀,H₀,O,F,ε,t,r,e,k⟩=>by
 simp only[op1,y01] at e
 obtain⟨x,ex,e⟩:=e
 unfold zab at e
 split at e
 ·split at e
  next hc =>
   cases e
   refine⟨F₀,H₀,O,F,ε,_,r,ex,fun vx F1 H1 x1 rx=>?_⟩
   rw[rx.str]
   exact⟨rfl,_,rfl,rfl,hc,k _ F1 H1 x1 (by simp[Rep])⟩
  next=>cases e
 ·cases e
def zqo:R2:=fun x y H Q=>∃z,x=.str z/\y=.int 2/\z.length<=1000/\Q (.str (z++z)) H
theorem zmq:OpR X (y2u .Mult) zqo:=by
 intro pins s σ H x y v u Q I rx ry h
 obtain⟨z,rfl,rfl,hz,q⟩:=h
 obtain⟨t,rfl⟩:=rx
 obtain⟨t2,rfl⟩:=ry
 refine PySem.P.mul_str (by decide) (fun _ _=>by omega) (fun _ _=>?_) ?_
 ·unfold Builtin.Str.tooLong
  have:y0j=big:=z6u
  unfold big at this
  simp
  omega
 ·rw[if_neg (by decide)]
  split
  next h =>
   have h0:z.length=0:=by simpa using h
   have e:z++z=z:=by
    have:z.cps=#[]:=Array.eq_empty_of_size_eq_zero h0
    show (⟨z.cps++z.cps⟩:Str)=z
    rw[this]
    obtain⟨c⟩:=z
    simp at this
    rw[this]
    rfl
   rw[e] at q
   exact⟨.str z,H,I,⟨t,rfl⟩,q⟩
  next h =>
   have e:(⟨(y0g (2:Int).toNat z.cps).foldl (·++·) #[]⟩:Str)=z++z:=by
    show (⟨(#[]++z.cps)++z.cps⟩:Str)=⟨z.cps++z.cps⟩
    simp
   rw[e]
   refine⟨?_,.str _,H,I.tok _,⟨_,rfl⟩,q⟩
   have:y0j=big:=z6u
   unfold big at this
   have h2:(z++z).length=z.length+z.length:=by
    show (z.cps++z.cps).size=_
    rw[Array.size_append]
    rfl
   first|omega|(rw[h2];omega)|(show (z++z).length<=y0j;rw[h2];omega)
theorem zox (ha:PEr X a f) (hb:PEr X b g):PEv X (.BinOp a .Mult b pos) (op2 zac f g) :=
 z0t (zcj zmq ha hb) (z4u (by
  intro O F H x y t vx vy Q d rx ry e k
  unfold zac at e
  split at e
  ·split at e
   next hm =>
    cases e
    rw[rx.str,ry.int,hm.1]
    exact⟨_,rfl,rfl,hm.2,k _ F H (Ext.refl d) (by simp[Rep])⟩
   next=>cases e
  ·cases e))
theorem zar {es:List Expr} {fs:List Fe} (h:PAw X es fs):PEw X (.List es pos) (z11 fs):=⟨z8s h.h⟩
end
end
section
variable [Tbl]
section
variable {X:Cx} {a:Expr} {f:Fe} {p pos:Pos}
end
end
section
variable [Tbl]
structure PRw (X:Cx) (e:Expr) (f:Fe):Prop where
 h:PEr X e f
structure PNw (X:Cx) (e:Expr) (f:Fe):Prop where
 h:PEn X e f
structure PBw (X:Cx) (b:List Stmt) (g:Fs):Prop where
 h:PBt X b g
def zch:Expr->Bool
 | .Starred ..=>false
 | _=>true
section
variable {X:Cx} {e a b c:Expr} {es:List Expr} {f g:Fe} {fs:List Fe} {ft:Ft} {gs hs:Fs} {st:Stmt} {rest els:List Stmt} {pos:Pos}
theorem z60 (h:zch e=true):y0a (e::es) X.env=(false,eval e X.env)::y0a es X.env:=by
 cases e <;> first|rfl|cases h
theorem v_cE (h:PEw X e f) (t:PAw X es fs) (hp:zch e=true:=by rfl):PAw X (e::es) (f::fs):=⟨z00 h.h t.h (z60 hp)⟩
theorem v_mk (h:PEv X e f):PEw X e f:=⟨h⟩
theorem v_r (h:PEw X e f):PRw X e f:=⟨v2r h.h⟩
theorem v_mr (h:PEr X e f):PRw X e f:=⟨h⟩
theorem v_ix (ha:PRw X a f) (hb:PRw X b g) (hp:zfw b:=by intro _ _;rfl):PEw X (.Subscript a b pos) (op2 oIx f g):=⟨q_ix ha.h hb.h hp⟩
theorem v_add (ha:PRw X a f) (hb:PRw X b g):PEw X (.BinOp a .Add b pos) (op2 oAdd f g):=⟨z4t ha.h hb.h⟩
theorem zq6 (ha:PRw X a f) (hb:PRw X b g):PNw X (.BinOp a .Add b pos) (op2 oAdd f g):=⟨zqw ha.h hb.h⟩
theorem zq4 (h:PAw X es fs):PNw X (.List es pos) (z11 fs):=⟨zqs h.h⟩
theorem v_sl {lo hi:Option Expr} {fl fh:Ev->Option (Option Int)} {p2:Pos} (ha:PRw X e f) (hl:PO X lo (tOt X.K fl)) (hu:PO X hi (tOt X.K fh)):PEw X (.Subscript e (.Slice lo hi none p2) pos) (z0l f fl fh):=⟨zgb ha.h hl hu⟩
theorem zq5 {x:Str} {k n:Nat} {d:List T->Option T} {p:Pos} (C:Cl X.prog X.w X.K X.mg X.base x k n d) (hr:Room k X.A) (ha:PAw X (e::es) fs) (hg:Gl X x:=by rfl) (hn:fs.length=n:=by rfl) (hdb:(x == ("__debug__":Str))=false:=by decide)
  (hp:zch e=true:=by rfl) (hpl:(y2g pos (y0a es X.env)).any (·.1)=false:=by rfl):PEw X (.Call (.Name x p) (e::es) [] pos) (opN d fs):=⟨z05 C hr ha.h hg hn hdb (z60 hp) hpl⟩
theorem zh3 (h:PEw X e f):PSw X (.Return (some e) pos) (rtn f):=⟨z0m h.h⟩
theorem v_if (hc:PTt X c ft) (ha:PBw X rest gs) (hb:PBw X els hs):PSw X (.If c rest els pos) (iff ft gs hs):=⟨s_if hc ha.h hb.h⟩
theorem zas (i:Nat) {x:Str} {pos':Pos} (hN:X.N.Nodup) (he:PEw X e f) (hi:X.N[i]?=some x:=by rfl) (hx:Loc X.env.scope x:=by first|exact Or.inl rfl|exact Or.inr rfl)
  (hs:swapsWith e (some (.Name x pos')) pos.line X.env=pure false:=by rfl) (hf:X.fn x=true\/X.env.scope.names.lookup x=some .local:=by first|exact .inl rfl|exact .inr rfl) :
  PSw X (.Assign [.Name x pos'] e pos) (asg i f):=⟨z31 i hN he.h hi hx hs hf⟩
theorem znv (i:Nat) {x:Str} {pos':Pos} (hN:X.N.Nodup) (he:PNw X e f) (hi:X.N[i]?=some x:=by rfl) (hx:Loc X.env.scope x:=by first|exact Or.inl rfl|exact Or.inr rfl)
  (hs:swapsWith e (some (.Name x pos')) pos.line X.env=pure false:=by rfl) (hf:X.fn x=true\/X.env.scope.names.lookup x=some .local:=by first|exact .inl rfl|exact .inr rfl) :
  PSw X (.Assign [.Name x pos'] e pos) (asgN i f):=⟨zqj i hN he.h hi hx hs hf⟩
theorem few1 {cpos:Pos} (h:zch e=true):((y2g cpos (y0a [e] X.env)).all (fun x=>!x.1) && (backToKw cpos (keywordEach [] X.env)).all (fun x=>x.1.isSome)
   && decide (([e]:List Expr).length+([]:List Keyword).length+(if ([]:List Keyword).isEmpty then 0 else 1)<30))=true:=by
 rw[z60 h]
 rfl
theorem zlv (i:Nat) {x:Str} {px apos cpos:Pos} (he:PEw X e f) (hN:X.N[i]?=some x:=by rfl) (hv:Vis X.env.scope x:=by first|exact Or.inl rfl|exact Or.inr (Or.inl rfl)|exact Or.inr (Or.inr rfl)) (hd:(x == ("__debug__":Str))=false:=by decide)
  (hcd:(x == ("__classdict__":Str))=false:=by decide) (hp:zch e=true:=by rfl)
  (hbase:attributeBase (.Name x px) "append" X.env (eval (.Name x px) X.env)=eval (.Name x px) X.env:=by rfl)
  (hline:(apos.endLine == cpos.line)=true:=by rfl)
  (hsw:swapsWith (.Call (.Attribute (.Name x px) "append" apos) [e] [] cpos) none pos.line X.env=pure false:=by rfl) :
  PSw X (.Expr (.Call (.Attribute (.Name x px) "append" apos) [e] [] cpos) pos) (app i f):=⟨zsq i he.h hN hv hd hcd (z60 hp) hbase (few1 hp) hline rfl hsw⟩
theorem zlu:PBw X [] skip:=⟨z21⟩
theorem zh4 (h:PSw X st gs):PBw X [st] gs:=⟨z0k h.h⟩
theorem z2l (h:PSw X st gs) (t:PBw X rest hs):PBw X (st::rest) (seq gs hs):=⟨z0d h.h t.h⟩
theorem v_of (h:PBw X rest gs):PBt X rest gs:=h.h
end
end
end D
end
section
namespace Co
open D
end Co
end
section
namespace Co
open D Co
def z2f:Fs :=
  (seq (iff (tstB (op2 oLt (nm 1) (opN oLen [(nm 0)]))) (rtn (op2 oIx (nm 0) (nm 1))) skip)
  (rtn (cst (.int 0))))
def z0s:List T->Option T:=runF z2f 2
noncomputable def z4e:Fs :=
  (seq (asg 2 (op2 oMod (op2 oMul (op2 oAdd (op2 oAdd (opN z0s [(nmV 0),(nmV 1)]) (op2 oMul (cst (.int 7919)) (nm 1))) (cst (.int 1))) (cst (.int 48271))) (cst (.int 2147483647))))
  (rtn (op2 oMod (op2 oAdd (op2 oAdd (op2 oMul (nm 2) (nm 2)) (op2 oMul (cst (.int 7)) (nm 2))) (nm 1)) (cst (.int 2147483629)))))
def z0r:List T->Option T:=runF z4e 3
noncomputable def z4f:Fs :=
  (seq (asg 2 (op2 oMod (op2 oMul (op2 oAdd (op2 oAdd (nm 0) (op2 oMul (cst (.int 104729)) (nm 1))) (cst (.int 17))) (cst (.int 69621))) (cst (.int 2147483647))))
  (rtn (op2 oMod (op2 oAdd (op2 oAdd (op2 oMul (nm 2) (nm 2)) (op2 oMul (cst (.int 3)) (nm 2))) (nm 1)) (cst (.int 2147483629)))))
def z0x:List T->Option T:=runF z4f 3
noncomputable def znp:Fs :=
  (seq (asg 1 (z04 []))
  (seq (for_ (z5e (z81 (z04 [(cst (.str "a")),(cst (.str "b")),(cst (.str "back")),(cst (.str "d")),(cst (.str "hall")),(cst (.str "r")),(cst (.str "win")),(cst (.str "z"))]))) (gTu [(gNm 2),(gNm 3)])
  (seq (asg 4 (op2 oDiv (opN z0x [(nmV 0),(nmV 2)]) (cst (.int 4))))
  (iff (orT (tstB (op2 oLt (op2 oMod (nm 4) (cst (.int 8))) (op2 oAdd (cst (.int 3)) (op2 oMod (nm 0) (cst (.int 5)))))) (tstB (op2 oEq (nm 2) (op2 oMod (op2 oDiv (nm 0) (cst (.int 8))) (cst (.int 8)))))) (asg 1 (op2 oAdd (nm 1) (z04 [(z04 [(nmV 3),(op2 oIx (z04 [(cst (.str "day")),(cst (.str "inner")),(cst (.str "once")),(cst (.str "way")),(cst (.str "way"))]) (op2 oMod (op2 oDiv (nm 4) (cst (.int 8))) (cst (.int 5))))])]))) skip)))
  (seq (asg 5 (z04 []))
  (seq (for_ (z5e (z81 (z04 [(cst (.str "0000")),(cst (.str "1234")),(cst (.str "4321")),(cst (.str "7777")),(cst (.str "9990")),(cst (.str "9999"))]))) (gTu [(gNm 2),(gNm 6)])
  (seq (asg 4 (op2 oDiv (opN z0x [(nmV 0),(op2 oAdd (cst (.int 10)) (nm 2))]) (cst (.int 4))))
  (iff (orT (tstB (op2 oGt (op2 oMod (nm 4) (cst (.int 3))) (cst (.int 0)))) (tstB (op2 oEq (nm 2) (cst (.int 1))))) (seq (asg 7 (opN z43 [(comp 1 [4] (z4o (cst (.int 3))) (gNm 0) (tstB (op2 oGt (op2 oMod (op2 oDiv (nm 1) (op2 oIx (z04 [(cst (.int 4)),(cst (.int 16)),(cst (.int 64))]) (nm 0))) (cst (.int 4))) (cst (.int 0)))) (op2 oIx (z04 [(cst (.str "set")),(cst (.str "shunt")),(cst (.str "unset"))]) (nm 0)))]))
  (seq (asg 8 (op2 oIx (z04 [(cst (.str "ann")),(cst (.str "bo")),(cst (.str "cy"))]) (op2 oMod (op2 oDiv (nm 4) (cst (.int 256))) (cst (.int 3)))))
  (asg 5 (op2 oAdd (nm 5) (z04 [(z04 [(nmV 6),(nmV 8),(nmV 7),(op2 oIx (z04 [(cst (.int 0)),(cst (.int 0)),(cst (.int 1)),(cst (.int 2)),(cst (.int 9))]) (op2 oMod (op2 oDiv (nm 4) (cst (.int 1024))) (cst (.int 5))))])]))))) skip)))
  (seq (asg 4 (op2 oDiv (opN z0x [(nmV 0),(cst (.int 20))]) (cst (.int 4))))
  (seq (asg 9 (z04 [(op2 oIx (z04 [(cst (.int 0)),(cst (.int 5)),(cst (.int 30)),(cst (.int 60))]) (op2 oMod (nm 4) (cst (.int 4)))),(op2 oIx (z04 [(cst (.int 0)),(cst (.int 4)),(cst (.int 20)),(cst (.int 60))]) (op2 oMod (op2 oDiv (nm 4) (cst (.int 4))) (cst (.int 4)))),(op2 oIx (z04 [(cst (.int 1)),(cst (.int 9)),(cst (.int 120)),(cst (.int 300))]) (op2 oMod (op2 oDiv (nm 4) (cst (.int 16))) (cst (.int 4))))]))
  (rtn (z04 [(nmV 1),(nmV 5),(nmV 9)]))))))))
def z8b:List T->Option T:=runF znp 10
noncomputable def ze1:Fs :=
  (seq (asg 2 (op2 oIx (op2 oIx (op2 oIx (nm 0) (cst (.int 0))) (op2 oMod (op2 oDiv (nm 1) (cst (.int 8))) (opN oLen [(op2 oIx (nm 0) (cst (.int 0)))]))) (cst (.int 0))))
  (seq (asg 3 (op2 oMod (nm 1) (cst (.int 10))))
  (seq (iff (tstB (op2 oLt (nm 3) (cst (.int 5)))) (rtn (z04 [(cst (.str "line")),(nmV 2),(op2 oIx (z04 [(cst (.str "shut")),(cst (.str "open")),(cst (.str "open")),(cst (.str "cut"))]) (op2 oMod (op2 oDiv (nm 1) (cst (.int 512))) (cst (.int 4))))])) skip)
  (seq (iff (tstB (op2 oLt (nm 3) (cst (.int 7)))) (rtn (z04 [(cst (.str "ticks")),(op2 oAdd (cst (.int 1)) (op2 oMod (op2 oDiv (nm 1) (cst (.int 64))) (op2 oIx (z04 [(cst (.int 3)),(cst (.int 40)),(cst (.int 200))]) (op2 oMod (op2 oDiv (nm 1) (cst (.int 4096))) (cst (.int 3))))))])) skip)
  (seq (asg 4 (op2 oIx (op2 oIx (op2 oIx (nm 0) (cst (.int 1))) (op2 oMod (op2 oDiv (nm 1) (cst (.int 64))) (opN oLen [(op2 oIx (nm 0) (cst (.int 1)))]))) (cst (.int 0))))
  (seq (iff (tstB (op2 oEq (op2 oMod (op2 oDiv (nm 1) (cst (.int 65536))) (cst (.int 4))) (cst (.int 0)))) (asg 4 (op2 oIx (z04 [(cst (.str "0001")),(cst (.str "1111")),(cst (.str "9999")),(cst (.str "0000"))]) (op2 oMod (op2 oDiv (nm 1) (cst (.int 512))) (cst (.int 4))))) skip)
  (seq (asg 5 (op2 oIx (z04 [(cst (.str "set")),(cst (.str "set")),(cst (.str "unset")),(cst (.str "shunt")),(cst (.str "free")),(cst (.str "shunt"))]) (op2 oMod (op2 oDiv (nm 1) (cst (.int 4096))) (cst (.int 6)))))
  (seq (iff (tstB (op2 (oIn false) (nm 5) (z04 [(cst (.str "set")),(cst (.str "unset"))]))) (rtn (z04 [(cst (.str "code")),(nmV 4),(nmV 5),(cst .none)])) skip)
  (rtn (z04 [(cst (.str "code")),(nmV 4),(nmV 5),(nmV 2)]))))))))))
def z5u:List T->Option T:=runF ze1 6
end Co
end
section
namespace Fo
open D Co
def zin:Fs :=
  (rtn (andV (op1 (oIsI "tuple") (nm 0)) (chain oLe oLe (nm 1) (opN oLen [(nm 0)]) (nm 2))))
def z06:List T->Option T:=runF zin 3
def zq1:Fs :=
  (rtn (opN z71 [(comp 2 [] (zi2 (z2s (nmV 0)) (z2s (z0l (nm 0) (opt (cst (.int 1))) optN))) (gTu [(gNm 0),(gNm 1)]) (cstT true) (op2 oLt (nm 0) (nm 1)))]))
def z47:List T->Option T:=runF zq1 1
noncomputable def ze3:Fs :=
  (seq (iff (orT (notT (tstB (op1 (oIsI "str") (nm 0)))) (notT (tstB (chain oLe oLe (nm 1) (opN oLen [(nm 0)]) (nm 2))))) (rtn (cst (.bool false))) skip)
  (rtn (opN z71 [(comp 1 [3,4] (itA (nmV 0)) (gNm 0) (cstT true) (chain oLe oLe (nm 1) (nm 0) (nm 2)))])))
def z1v:List T->Option T:=runF ze3 5
def zli:Fs :=
  (rtn (opN z1v [(nmV 0),(cst (.int 1)),(cst (.int 4)),(cst (.str "a")),(cst (.str "z"))]))
def z51:List T->Option T:=runF zli 1
noncomputable def zlg:Fs :=
  (rtn (andV (opN z06 [(nmV 0),(cst (.int 2)),(cst (.int 2))]) (andV (opN z51 [(op2 oIx (nm 0) (cst (.int 0)))]) (op2 (oIn false) (op2 oIx (nm 0) (cst (.int 1))) (cst (.tuple (z7a ["day","inner","once","way"])))))))
def z4z:List T->Option T:=runF zlg 1
noncomputable def z9s:Fs :=
  (seq (iff (orT (notT (tstB (opN z06 [(nmV 0),(cst (.int 1)),(cst (.int 8))]))) (notT (tstB (opN z71 [(comp 1 [] (itA (nmV 0)) (gNm 0) (cstT true) (opN z4z [(nmV 0)]))])))) (rtn (cst (.bool false))) skip)
  (rtn (opN z47 [(comp 1 [] (itA (nmV 0)) (gNm 0) (cstT true) (op2 oIx (nm 0) (cst (.int 0))))])))
def z48:List T->Option T:=runF z9s 1
def ze4:Fs :=
  (rtn (opN z1v [(nmV 0),(cst (.int 4)),(cst (.int 4)),(cst (.str "0")),(cst (.str "9"))]))
def z1w:List T->Option T:=runF ze4 1
noncomputable def ze6:Fs :=
  (rtn (andV (opN z06 [(nmV 0),(cst (.int 0)),(cst (.int 3))]) (andV (opN z71 [(comp 1 [] (itA (nmV 0)) (gNm 0) (cstT true) (op2 (oIn false) (nm 0) (cst (.tuple (z7a ["set","shunt","unset"])))))]) (opN z47 [(nmV 0)]))))
def z4p:List T->Option T:=runF ze6 1
def zim:Fs :=
  (rtn (andV (op1 (oIsI "int") (nm 0)) (notV (op1 (oIsI "bool") (nm 0)))))
def z3o:List T->Option T:=runF zim 1
def zfu:Fs :=
  (rtn (andV (opN z3o [(nmV 0)]) (chain oLe oLe (nm 1) (nm 0) (nm 2))))
def z1n:List T->Option T:=runF zfu 3
noncomputable def ze5:Fs :=
  (seq (iff (notT (tstB (opN z06 [(nmV 0),(cst (.int 4)),(cst (.int 4))]))) (rtn (cst (.bool false))) skip)
  (rtn (andV (opN z1w [(op2 oIx (nm 0) (cst (.int 0)))]) (andV (opN z51 [(op2 oIx (nm 0) (cst (.int 1)))]) (andV (opN z4p [(op2 oIx (nm 0) (cst (.int 2)))]) (opN z1n [(op2 oIx (nm 0) (cst (.int 3))),(cst (.int 0)),(cst (.int 9))]))))))
def z52:List T->Option T:=runF ze5 1
noncomputable def z9u:Fs :=
  (seq (iff (orT (notT (tstB (opN z06 [(nmV 0),(cst (.int 1)),(cst (.int 6))]))) (notT (tstB (opN z71 [(comp 1 [] (itA (nmV 0)) (gNm 0) (cstT true) (opN z52 [(nmV 0)]))])))) (rtn (cst (.bool false))) skip)
  (rtn (opN z47 [(comp 1 [] (itA (nmV 0)) (gNm 0) (cstT true) (op2 oIx (nm 0) (cst (.int 0))))])))
def z4a:List T->Option T:=runF z9u 1
noncomputable def z9t:Fs :=
  (seq (iff (notT (tstB (opN z06 [(nmV 0),(cst (.int 3)),(cst (.int 3))]))) (rtn (cst (.bool false))) skip)
  (rtn (andV (opN z1n [(op2 oIx (nm 0) (cst (.int 0))),(cst (.int 0)),(cst (.int 60))]) (andV (opN z1n [(op2 oIx (nm 0) (cst (.int 1))),(cst (.int 0)),(cst (.int 60))]) (opN z1n [(op2 oIx (nm 0) (cst (.int 2))),(cst (.int 1)),(cst (.int 300))])))))
def z49:List T->Option T:=runF z9t 1
noncomputable def zlh:Fs :=
  (rtn (andV (opN z06 [(nmV 0),(cst (.int 3)),(cst (.int 3))]) (andV (opN z48 [(op2 oIx (nm 0) (cst (.int 0)))]) (andV (opN z4a [(op2 oIx (nm 0) (cst (.int 1)))]) (opN z49 [(op2 oIx (nm 0) (cst (.int 2)))])))))
def z50:List T->Option T:=runF zlh 1
def ziq:Fs :=
  (rtn (op2 (oIn false) (nm 1) (comp 1 [] (itA (op2 oIx (nm 0) (cst (.int 0)))) (gNm 0) (cstT true) (op2 oIx (nm 0) (cst (.int 0))))))
def z3q:List T->Option T:=runF ziq 2
noncomputable def z9r:Fs :=
  (rtn (andV (opN z06 [(nmV 1),(cst (.int 3)),(cst (.int 3))]) (andV (op2 oEq (op2 oIx (nm 1) (cst (.int 0))) (cst (.str "line"))) (andV (opN z3q [(nmV 0),(op2 oIx (nm 1) (cst (.int 1)))]) (op2 (oIn false) (op2 oIx (nm 1) (cst (.int 2))) (cst (.tuple (z7a ["shut","open","cut"]))))))))
def z2p:List T->Option T:=runF z9r 2
noncomputable def z5z:Fs :=
  (seq (iff (orT (notT (tstB (opN z06 [(nmV 1),(cst (.int 4)),(cst (.int 4))]))) (orT (tstB (op2 oNe (op2 oIx (nm 1) (cst (.int 0))) (cst (.str "code")))) (notT (tstB (opN z1w [(op2 oIx (nm 1) (cst (.int 1)))]))))) (rtn (cst (.bool false))) skip)
  (seq (iff (tstB (op2 (oIn false) (op2 oIx (nm 1) (cst (.int 2))) (cst (.tuple (z7a ["set","unset"]))))) (rtn (op1 oIsN (op2 oIx (nm 1) (cst (.int 3))))) skip)
  (rtn (andV (op2 (oIn false) (op2 oIx (nm 1) (cst (.int 2))) (cst (.tuple (z7a ["shunt","free"])))) (opN z3q [(nmV 0),(op2 oIx (nm 1) (cst (.int 3)))])))))
def z1x:List T->Option T:=runF z5z 2
noncomputable def z85:Fs :=
  (rtn (andV (opN z06 [(nmV 0),(cst (.int 2)),(cst (.int 2))]) (andV (op2 oEq (op2 oIx (nm 0) (cst (.int 0))) (cst (.str "ticks"))) (andV (opN z3o [(op2 oIx (nm 0) (cst (.int 1)))]) (op2 oGe (op2 oIx (nm 0) (cst (.int 1))) (cst (.int 1)))))))
def z29:List T->Option T:=runF z85 1
def zio:Fs :=
  (rtn (orV (opN z2p [(nmV 0),(nmV 1)]) (orV (opN z1x [(nmV 0),(nmV 1)]) (opN z29 [(nmV 1)]))))
def z3p:List T->Option T:=runF zio 2
noncomputable def z9p:Fs :=
  (seq (iff (notT (tstB (opN z1v [(nmV 0),(cst (.int 1)),(opN oLen [(nm 0)]),(cst (.str "0")),(cst (.str "9"))]))) (rtn (cst .none)) skip)
  (seq (asg 1 (cst (.int 0)))
  (seq (for_ (itA (nmV 0)) (gNm 2)
  (asg 1 (op2 oSub (op2 oAdd (op2 oMul (nm 1) (cst (.int 10))) (opN oOrd [(nm 2)])) (opN oOrd [(cst (.str "0"))]))))
  (rtn (nm 1)))))
def z9d:List T->Option T:=runF z9p 3
end Fo
end
section
namespace K01
open D Co Fo
noncomputable def z66 (rec:List T->Option T):Fs :=
  (seq (iff (andT (tstB (op2 oGt (nm 2) (cst (.int 0)))) (andT (tstB (op1 (oIsI "tuple") (nm 0))) (andT (tstB (op2 oGt (opN oLen [(nm 0)]) (cst (.int 0)))) (tstB (op2 oGt (op2 oMod (nm 1) (cst (.int 6))) (cst (.int 0))))))) (seq (asg 3 (op2 oMod (op2 oDiv (nm 1) (cst (.int 6))) (opN oLen [(nm 0)])))
  (seq (asg 4 (opN rec [(op2 oIx (nm 0) (nm 3)),(op2 oDiv (opN z0x [(nmV 1),(nmV 2)]) (cst (.int 4))),(op2 oSub (nm 2) (cst (.int 1)))]))
  (rtn (op2 oAdd (op2 oAdd (z0l (nm 0) optN (opt (nm 3))) (z04 [(nmV 4)])) (z0l (nm 0) (opt (op2 oAdd (nm 3) (cst (.int 1)))) optN))))) skip)
  (seq (iff (andT (tstB (op1 (oIsI "tuple") (nm 0))) (andT (tstB (op2 oGt (opN oLen [(nm 0)]) (cst (.int 0)))) (tstB (op2 oEq (op2 oMod (op2 oDiv (nm 1) (cst (.int 6))) (cst (.int 2))) (cst (.int 0)))))) (rtn (op2 oIx (z11 [(opN z9y [(nm 0)]),(z0l (nm 0) optN (opt (op1 oNeg (cst (.int 1))))),(op2 oAdd (nm 0) (z0l (nm 0) (opt (op1 oNeg (cst (.int 1)))) optN)),(z0l (nm 0) (opt (cst (.int 1))) optN),(op1 zcp (nm 0)),(z04 [])]) (op2 oMod (op2 oDiv (nm 1) (cst (.int 12))) (cst (.int 6))))) skip)
  (seq (iff (andT (tstB (op1 (oIsI "str") (nm 0))) (tstB (op2 oEq (op2 oMod (op2 oDiv (nm 1) (cst (.int 6))) (cst (.int 2))) (cst (.int 0))))) (rtn (op2 oIx (z11 [(op2 oAdd (nm 0) (cst (.str "a"))),(z0l (nm 0) (opt (cst (.int 1))) optN),(op2 oAdd (nm 0) (cst (.str "1"))),(op1 zab (nm 0)),(op2 zac (nm 0) (cst (.int 2))),(op1 zcp (nm 0))]) (op2 oMod (op2 oDiv (nm 1) (cst (.int 12))) (cst (.int 6))))) skip)
  (seq (iff (andT (tstB (op1 (oIsI "int") (nm 0))) (tstB (op2 oEq (op2 oMod (op2 oDiv (nm 1) (cst (.int 6))) (cst (.int 2))) (cst (.int 0))))) (rtn (op2 oIx (z11 [(opN oStr [(nm 0)]),(op2 oSub (cst (.int 0)) (nm 0)),(op2 oAdd (nm 0) (cst (.int 1))),(op2 oEq (nm 0) (cst (.int 1))),(op2 oSub (nm 0) (cst (.int 1))),(op2 oAdd (nm 0) (cst (.int 60)))]) (op2 oMod (op2 oDiv (nm 1) (cst (.int 12))) (cst (.int 6))))) skip)
  (seq (asg 5 (z11 [(cst .none),(cst (.bool true)),(cst (.bool false)),(cst (.int 0)),(cst (.int 1)),(cst (.int 7)),(cst (.int 8)),(cst (.int 60)),(cst (.int 61)),(cst (.int 301)),(op1 oNeg (cst (.int 1))),(cst (.str "")),(cst (.str "a")),(cst (.str "set")),(cst (.str "open")),(cst (.str "1234")),(cst (.str "way")),(z04 []),(z11 []),(z04 [(cst (.str "a")),(cst (.str "way"))])]))
  (rtn (op2 oIx (nm 5) (op2 oMod (op2 oDiv (nm 1) (cst (.int 6))) (cst (.int 20))))))))))
def z1p:Nat->List T->Option T
 | 0=>fun _=>none
 | n+1=>runF (z66 (z1p n)) 6
noncomputable def ze2:Fs :=
  (seq (asg 1 (op2 oMod (nm 0) (cst (.int 3))))
  (seq (asg 2 (opN z43 [(comp 1 [] (z4o (op2 oAdd (cst (.int 7)) (nm 1))) (gNm 0) (cstT true) (z04 [(op2 oIx (cst (.str "abcdefghij")) (nm 0)),(cst (.str "way"))]))]))
  (seq (asg 3 (opN z43 [(comp 1 [] (z4o (op2 oAdd (cst (.int 5)) (nm 1))) (gNm 0) (cstT true) (z04 [(opN oStr [(op2 oAdd (cst (.int 1000)) (nm 0))]),(cst (.str "x")),(z04 []),(cst (.int 0))]))]))
  (seq (asg 4 (z04 [(z04 [(cst (.str "a")),(op2 oIx (z04 [(cst (.str "day")),(cst (.str "inner")),(cst (.str "once")),(cst (.str "way"))]) (op2 oMod (op2 oDiv (nm 0) (cst (.int 4))) (cst (.int 4))))])]))
  (seq (asgN 5 (z11 [(z04 [(nmV 2),(z0l (nm 3) optN (opt (cst (.int 1)))),(z04 [(cst (.int 0)),(cst (.int 0)),(cst (.int 1))])]),(z04 [(nmV 4),(nmV 3),(z04 [(cst (.int 0)),(cst (.int 0)),(cst (.int 1))])]),(z04 [(nmV 4),(z0l (nm 3) optN (opt (cst (.int 1)))),(z04 [(op2 oAdd (cst (.int 59)) (nm 1)),(cst (.int 0)),(cst (.int 1))])])]))
  (seq (asgN 5 (op2 oAdd (nm 5) (z11 [(z04 [(nmV 4),(z0l (nm 3) optN (opt (cst (.int 1)))),(z04 [(cst (.int 0)),(op2 oAdd (cst (.int 59)) (nm 1)),(cst (.int 1))])]),(z04 [(nmV 4),(z0l (nm 3) optN (opt (cst (.int 1)))),(z04 [(cst (.int 0)),(cst (.int 0)),(op2 oAdd (cst (.int 299)) (nm 1))])])])))
  (seq (app 5 (z04 [(nmV 4),(z0l (nm 3) optN (opt (cst (.int 1)))),(z04 [(cst (.int 0)),(cst (.int 0)),(nmV 1)])]))
  (seq (app 5 (z04 [(nmV 4),(z04 [(z04 [(cst (.str "1234")),(cst (.str "who")),(z0l (z04 [(cst (.str "set")),(cst (.str "shunt")),(cst (.str "unset"))]) (opt (nm 1)) optN),(op2 oAdd (cst (.int 8)) (nm 1))])]),(z04 [(cst (.int 0)),(cst (.int 0)),(cst (.int 1))])]))
  (seq (asg 6 (z11 [(z04 [(cst (.str "set")),(cst (.str "set"))]),(z04 [(cst (.str "unset")),(cst (.str "set"))]),(z04 [(cst (.str "set")),(cst (.str "unset"))]),(z04 [(cst (.str "free"))]),(z11 [(cst (.str "set"))]),(cst (.str "set")),(z04 [(cst (.int 5))]),(cst .none)]))
  (seq (asg 6 (op2 oIx (nm 6) (op2 oMod (op2 oDiv (nm 0) (cst (.int 64))) (cst (.int 8)))))
  (seq (app 5 (z04 [(nmV 4),(z04 [(z04 [(cst (.str "1234")),(cst (.str "who")),(nmV 6),(cst (.int 0))])]),(z04 [(cst (.int 0)),(cst (.int 0)),(cst (.int 1))])]))
  (seq (app 5 (z04 [(z04 [(z04 [(op2 oAdd (z0l (cst (.str "abcd")) optN (opt (op2 oAdd (cst (.int 2)) (nm 1)))) (cst (.str "e"))),(cst (.str "way"))])]),(z0l (nm 3) optN (opt (cst (.int 1)))),(z04 [(cst (.int 0)),(cst (.int 0)),(cst (.int 1))])]))
  (rtn (op2 oAdd (nm 5) (z11 [(z04 [(z04 []),(z0l (nm 3) optN (opt (cst (.int 1)))),(z04 [(cst (.int 0)),(cst (.int 0)),(cst (.int 1))])]),(z04 [(nmV 4),(z04 []),(z04 [(cst (.int 0)),(cst (.int 0)),(cst (.int 1))])])])))))))))))))))
def z4y:List T->Option T:=runF ze2 7
def zil:Fs :=
  (rtn (andV (op1 (oIsI "int") (nm 0)) (andV (notV (op1 (oIsI "bool") (nm 0))) (chain oLe oLe (nm 1) (nm 0) (nm 2)))))
def z18:List T->Option T:=runF zil 3
def zlf:Fs :=
  (rtn (andV (op1 (oIsI "tuple") (nm 0)) (op2 oEq (opN oLen [(nm 0)]) (nm 1))))
def z27:List T->Option T:=runF zlf 2
def zik:Fs :=
  (rtn (andV (op1 (oIsI "str") (nm 0)) (op2 (oIn false) (nm 0) (nm 1))))
def z0p:List T->Option T:=runF zik 2
noncomputable def zgx:Fs :=
  (seq (iff (orT (notT (tstB (op1 (oIsI "str") (nm 0)))) (notT (tstB (chain oLe oLe (cst (.int 1)) (opN oLen [(nm 0)]) (cst (.int 4)))))) (rtn (cst (.bool false))) skip)
  (rtn (op2 oEq (comp 1 [] (itA (nmV 0)) (gNm 0) (notT (tstB (chain oLe oLe (cst (.str "a")) (nm 0) (cst (.str "z"))))) (nmV 0)) (z11 []))))
def z3l:List T->Option T:=runF zgx 1
noncomputable def zft:Fs :=
  (rtn (andV (op1 (oIsI "str") (nm 0)) (andV (op2 oEq (opN oLen [(nm 0)]) (cst (.int 4))) (op2 oEq (comp 1 [] (itA (nmV 0)) (gNm 0) (notT (tstB (chain oLe oLe (cst (.str "0")) (nm 0) (cst (.str "9"))))) (nmV 0)) (z11 [])))))
def z2d:List T->Option T:=runF zft 1
noncomputable def z9q:Fs :=
  (seq (iff (orT (notT (tstB (opN z27 [(nmV 0),(cst (.int 3))]))) (orT (notT (tstB (op1 (oIsI "tuple") (op2 oIx (nm 0) (cst (.int 0)))))) (notT (tstB (chain oLe oLe (cst (.int 1)) (opN oLen [(op2 oIx (nm 0) (cst (.int 0)))]) (cst (.int 8))))))) (rtn (cst (.bool false))) skip)
  (seq (iff (orT (notT (tstB (op1 (oIsI "tuple") (op2 oIx (nm 0) (cst (.int 1)))))) (orT (notT (tstB (chain oLe oLe (cst (.int 1)) (opN oLen [(op2 oIx (nm 0) (cst (.int 1)))]) (cst (.int 6))))) (notT (tstB (opN z27 [(op2 oIx (nm 0) (cst (.int 2))),(cst (.int 3))]))))) (rtn (cst (.bool false))) skip)
  (seq (for_ (itA (op2 oIx (nm 0) (cst (.int 0)))) (gNm 1)
  (seq (iff (orT (notT (tstB (opN z27 [(nmV 1),(cst (.int 2))]))) (notT (tstB (opN z3l [(op2 oIx (nm 1) (cst (.int 0)))])))) (rtn (cst (.bool false))) skip)
  (iff (notT (tstB (opN z0p [(op2 oIx (nm 1) (cst (.int 1))),(z04 [(cst (.str "day")),(cst (.str "inner")),(cst (.str "once")),(cst (.str "way"))])]))) (rtn (cst (.bool false))) skip)))
  (seq (for_ (itA (op2 oIx (nm 0) (cst (.int 1)))) (gNm 2)
  (seq (iff (orT (notT (tstB (opN z27 [(nmV 2),(cst (.int 4))]))) (orT (notT (tstB (opN z2d [(op2 oIx (nm 2) (cst (.int 0)))]))) (notT (tstB (opN z3l [(op2 oIx (nm 2) (cst (.int 1)))]))))) (rtn (cst (.bool false))) skip)
  (seq (iff (orT (notT (tstB (op1 (oIsI "tuple") (op2 oIx (nm 2) (cst (.int 2)))))) (notT (tstB (opN z18 [(op2 oIx (nm 2) (cst (.int 3))),(cst (.int 0)),(cst (.int 9))])))) (rtn (cst (.bool false))) skip)
  (seq (iff (tstB (op2 oNe (comp 1 [] (itA (op2 oIx (nm 2) (cst (.int 2)))) (gNm 0) (notT (tstB (opN z0p [(nmV 0),(z04 [(cst (.str "set")),(cst (.str "shunt")),(cst (.str "unset"))])]))) (nmV 0)) (z11 []))) (rtn (cst (.bool false))) skip)
  (iff (tstB (op2 oNe (opN z9y [(op2 oIx (nm 2) (cst (.int 2)))]) (opN z1m [(op2 oIx (nm 2) (cst (.int 2)))]))) (rtn (cst (.bool false))) skip)))))
  (seq (for_ (itA (z04 [(comp 1 [] (itA (op2 oIx (nm 0) (cst (.int 0)))) (gNm 0) (cstT true) (op2 oIx (nm 0) (cst (.int 0)))),(comp 1 [] (itA (op2 oIx (nm 0) (cst (.int 1)))) (gNm 0) (cstT true) (op2 oIx (nm 0) (cst (.int 0))))])) (gNm 3)
  (iff (tstB (op2 oNe (nm 3) (opN z1m [(nm 3)]))) (rtn (cst (.bool false))) skip))
  (seq (asgT (gTu [(gNm 4),(gNm 5),(gNm 6)]) (op2 oIx (nm 0) (cst (.int 2))))
  (rtn (andV (opN z18 [(nmV 4),(cst (.int 0)),(cst (.int 60))]) (andV (opN z18 [(nmV 5),(cst (.int 0)),(cst (.int 60))]) (opN z18 [(nmV 6),(cst (.int 1)),(cst (.int 300))]))))))))))
def z32:List T->Option T:=runF z9q 7
noncomputable def z7v:Fs :=
  (seq (asg 2 (comp 1 [] (itA (op2 oIx (nm 0) (cst (.int 0)))) (gNm 0) (cstT true) (op2 oIx (nm 0) (cst (.int 0)))))
  (seq (iff (orT (notT (tstB (op1 (oIsI "tuple") (nm 1)))) (orT (tstB (op2 oEq (nm 1) (z04 []))) (notT (tstB (op1 (oIsI "str") (op2 oIx (nm 1) (cst (.int 0)))))))) (rtn (cst (.bool false))) skip)
  (seq (iff (tstB (op2 oEq (op2 oIx (nm 1) (cst (.int 0))) (cst (.str "line")))) (rtn (andV (op2 oEq (opN oLen [(nm 1)]) (cst (.int 3))) (andV (opN z0p [(op2 oIx (nm 1) (cst (.int 1))),(nmV 2)]) (opN z0p [(op2 oIx (nm 1) (cst (.int 2))),(z04 [(cst (.str "shut")),(cst (.str "open")),(cst (.str "cut"))])])))) skip)
  (seq (iff (tstB (op2 oEq (op2 oIx (nm 1) (cst (.int 0))) (cst (.str "ticks")))) (rtn (andV (op2 oEq (opN oLen [(nm 1)]) (cst (.int 2))) (opN z18 [(op2 oIx (nm 1) (cst (.int 1))),(cst (.int 1)),(op2 zjy (cst (.int 10)) (cst (.int 30)))]))) skip)
  (seq (iff (orT (tstB (op2 oNe (op2 oIx (nm 1) (cst (.int 0))) (cst (.str "code")))) (orT (tstB (op2 oNe (opN oLen [(nm 1)]) (cst (.int 4)))) (notT (tstB (opN z2d [(op2 oIx (nm 1) (cst (.int 1)))]))))) (rtn (cst (.bool false))) skip)
  (seq (iff (tstB (opN z0p [(op2 oIx (nm 1) (cst (.int 2))),(z04 [(cst (.str "set")),(cst (.str "unset"))])])) (rtn (op1 oIsN (op2 oIx (nm 1) (cst (.int 3))))) skip)
  (rtn (andV (opN z0p [(op2 oIx (nm 1) (cst (.int 2))),(z04 [(cst (.str "shunt")),(cst (.str "free"))])]) (opN z0p [(op2 oIx (nm 1) (cst (.int 3))),(nmV 2)])))))))))
def z2j:List T->Option T:=runF z7v 3
noncomputable def zsd:Fs :=
  (seq (asg 1 (opN z0r [(nmV 0),(cst (.int 0))]))
  (seq (asg 2 (opN z8b [(opN z0r [(nmV 0),(cst (.int 1))])]))
  (seq (asg 3 (opN z5u [(nmV 2),(opN z0r [(nmV 0),(cst (.int 2))])]))
  (seq (iff (orT (tstB (op2 zcq (opN z50 [(nmV 2)]) (cst (.bool true)))) (tstB (op2 zcq (opN z3p [(nmV 2),(nmV 3)]) (cst (.bool true))))) (rtn (cst (.bool false))) skip)
  (seq (asg 4 (nmV 2))
  (seq (iff (tstB (op2 oGt (op2 oMod (nm 1) (cst (.int 3))) (cst (.int 0)))) (seq (asg 4 (opN (z1p 20) [(nmV 4),(opN z0r [(nmV 0),(cst (.int 3))]),(op2 oMod (op2 oDiv (nm 1) (cst (.int 4))) (cst (.int 5)))]))
  (asg 3 (opN (z1p 20) [(nmV 3),(opN z0r [(nmV 0),(cst (.int 4))]),(op2 oMod (op2 oDiv (nm 1) (cst (.int 32))) (cst (.int 2)))]))) skip)
  (seq (for_ (itA (op2 oAdd (opN z4y [(opN z0r [(nmV 0),(cst (.int 5))])]) (z11 [(nmV 4),(nmV 3)]))) (gNm 5)
  (seq (asg 6 (opN z50 [(nmV 5)]))
  (iff (orT (notT (tstB (op1 (oIsI "bool") (nm 6)))) (tstB (op2 oNe (nm 6) (opN z32 [(nmV 5)])))) (rtn (cst (.bool false))) skip)))
  (seq (asg 7 (z11 [(z04 [(cst (.str "ticks")),(op2 oMod (op2 oDiv (nm 1) (cst (.int 64))) (cst (.int 3)))]),(z04 [(cst (.str "ticks")),(cst (.bool true))]),(z04 [(cst (.str "line")),(cst (.str "zzzz")),(cst (.str "open"))])]))
  (seq (for_ (itA (op2 oAdd (nm 7) (z11 [(nmV 3),(z04 [(cst (.str "code")),(cst (.str "1234")),(cst (.str "set")),(cst (.str "a"))])]))) (gNm 5)
  (seq (asg 6 (opN z3p [(nmV 2),(nmV 5)]))
  (iff (orT (notT (tstB (op1 (oIsI "bool") (nm 6)))) (tstB (op2 oNe (nm 6) (opN z2j [(nmV 2),(nmV 5)])))) (rtn (cst (.bool false))) skip)))
  (rtn (cst (.bool true))))))))))))
def zi7:List T->Option T:=runF zsd 8
end K01
end
section
namespace K01
open PySem PySem.Spec PyProof.Rows L2 D Co Fo
variable [Tbl]
def top (i:Nat):Stmt:=PySem.Challenge.pw_doorwatch_k01_plans_and_events.main.body.getD i (.Pass ⟨0,0,0,0⟩)
section
variable {P:y0q} {w:World} {K:y00} {mg:Str->Option Value} {base:Heap}
abbrev z2a:Stmt:=top 27
theorem zc4:FnScope ["_law_script","_law_k"] ["_law_script","_law_k"] (z02 z2a):=⟨rfl,rfl,rfl,by decide +kernel,rfl,by decide +kernel,by decide +kernel⟩
theorem zdw {K:y00} {f:Addr} {fd:y0b} (F:Fun K "_law_cell_at" "_law_cell_at" z2a f fd):Binds K fd ["_law_script","_law_k"] []:=F.binds (ps:=["_law_script","_law_k"]) fun _ _ _ _ _ _ us hl=>match us,hl with|[_,_],_=>rfl
theorem z6l {k:Nat} {f:Addr} {fd:y0b} (F:Fun K "_law_cell_at" "_law_cell_at" z2a f fd) (m:mg "_law_cell_at"=some (.ref f)) (z_len:mg "len"=none):Cl P w K mg base "_law_cell_at" (k+1) 2 z0s :=
 z24 F zc4 (zdw F) m fun cdv A outer s H E hr =>
  (z0d (s_if (z25 (zjq.or z5t) zcm (q_nm 1) (v2r (z68 (by exact z_len) (z0n (q_nm 0) z19)))) (z0k (z0m (q_ix (q_nm 0) (q_nm 1)))) z21)
  (z0k (z0m z01)))
abbrev z3u:Stmt:=top 28
theorem za4:FnScope ["_law_script","_law_k","_law_drawn_here"] ["_law_script","_law_k"] (z02 z3u):=⟨rfl,rfl,rfl,by decide +kernel,rfl,by decide +kernel,by decide +kernel⟩
theorem zib {K:y00} {f:Addr} {fd:y0b} (F:Fun K "_law_mixed" "_law_mixed" z3u f fd):Binds K fd ["_law_script","_law_k"] []:=F.binds (ps:=["_law_script","_law_k"]) fun _ _ _ _ _ _ us hl=>match us,hl with|[_,_],_=>rfl
theorem z3c {k:Nat} {f:Addr} {fd:y0b} (F:Fun K "_law_mixed" "_law_mixed" z3u f fd) (m:mg "_law_mixed"=some (.ref f)) (z6l:Cl P w K mg base "_law_cell_at" k 2 z0s):Cl P w K mg base "_law_mixed" (k+1) 2 z0r :=
 z24 F za4 (zib F) m fun cdv A outer s H E hr =>
  (z0d (z31 2 za4.nd (z1f (v2r (zcg (v2r (z4t (v2r (z4t (v2r (z05 z6l hr (z00 (z09 0) (z00 (z09 1) z03)))) (v2r (zcg (v2r z01) (q_nm 1))))) (v2r z01))) (v2r z01))) (v2r z01)))
  (z0k (z0m (z1f (v2r (z4t (v2r (z4t (v2r (zcg (q_nm 2) (q_nm 2))) (v2r (zcg (v2r z01) (q_nm 2))))) (q_nm 1))) (v2r z01)))))
abbrev z3w:Stmt:=top 29
theorem za5:FnScope ["_law_number_here","_law_k","_law_drawn_here"] ["_law_number_here","_law_k"] (z02 z3w):=⟨rfl,rfl,rfl,by decide +kernel,rfl,by decide +kernel,by decide +kernel⟩
theorem zie {K:y00} {f:Addr} {fd:y0b} (F:Fun K "_law_drawn" "_law_drawn" z3w f fd):Binds K fd ["_law_number_here","_law_k"] []:=F.binds (ps:=["_law_number_here","_law_k"]) fun _ _ _ _ _ _ us hl=>match us,hl with|[_,_],_=>rfl
theorem z28 {k:Nat} {f:Addr} {fd:y0b} (F:Fun K "_law_drawn" "_law_drawn" z3w f fd) (m:mg "_law_drawn"=some (.ref f)) :Cl P w K mg base "_law_drawn" (k+1) 2 z0x :=
 z24 F za5 (zie F) m fun cdv A outer s H E hr =>
  (z0d (z31 2 za5.nd (z1f (v2r (zcg (v2r (z4t (v2r (z4t (q_nm 0) (v2r (zcg (v2r z01) (q_nm 1))))) (v2r z01))) (v2r z01))) (v2r z01)))
  (z0k (z0m (z1f (v2r (z4t (v2r (z4t (v2r (zcg (q_nm 2) (q_nm 2))) (v2r (zcg (v2r z01) (q_nm 2))))) (q_nm 1))) (v2r z01)))))
abbrev z4l:Stmt:=top 30
theorem z13:FnScope ["_law_number_here","_law_zones","_law_k","_law_name","_law_drawn_here","_law_codes","_law_figures_here","_law_rights","_law_who","_law_times"] ["_law_number_here"] (z02 z4l):=⟨rfl,rfl,rfl,by decide +kernel,rfl,by decide +kernel,by decide +kernel⟩
theorem zle {K:y00} {f:Addr} {fd:y0b} (F:Fun K "_law_plan" "_law_plan" z4l f fd):Binds K fd ["_law_number_here"] []:=F.binds (ps:=["_law_number_here"]) fun _ _ _ _ _ _ us hl=>match us,hl with|[_],_=>rfl
theorem zbh {k:Nat} {f:Addr} {fd:y0b} (F:Fun K "_law_plan" "_law_plan" z4l f fd) (m:mg "_law_plan"=some (.ref f)) (z_enumerate:mg "enumerate"=none) (z28:Cl P w K mg base "_law_drawn" k 2 z0x) (z_tuple:mg "tuple"=none) (z_range:mg "range"=none):Cl P w K mg base "_law_plan" (k+1) 1 z8b :=
 z24 F z13 (zle F) m fun cdv A outer s H E hr =>
  (z0d (z31 1 z13.nd (z1c z03))
  (z0d (zek y23 (zod z_enumerate (z1c (z00 z07 (z00 z07 (z00 z07 (z00 z07 (z00 z07 (z00 z07 (z00 z07 (z00 z07 z03)))))))))) (znd (z74 (g_nm 2 z13.nd) (z74 (g_nm 3 z13.nd) zne)))
  (z0d (z31 4 z13.nd (z26 (v2r (z05 z28 hr (z00 (z09 0) (z00 (z09 2) z03)))) (v2r z01)))
  (z0k (s_if (w_t (w_or (z25 (zjq.or z5t) zcm (v2r (z1f (q_nm 4) (v2r z01))) (v2r (z4t (v2r z01) (v2r (z1f (q_nm 0) (v2r z01)))))) (z5k (z25 (z2t (by exact hr.units)) z2u (q_nm 2) (v2r (z1f (v2r (z26 (q_nm 0) (v2r z01))) (v2r z01))))))) (z0k (z31 1 z13.nd (z4t (q_nm 1) (v2r (z1c (z00 (z1c (z00 (z09 3) (z00 (q_ix (v2r (z1c (z00 z07 (z00 z07 (z00 z07 (z00 z07 (z00 z07 z03))))))) (v2r (z1f (v2r (z26 (q_nm 4) (v2r z01))) (v2r z01)))) z03))) z03)))))) z21))))
  (z0d (z31 5 z13.nd (z1c z03))
  (z0d (zek y23 (zod z_enumerate (z1c (z00 z07 (z00 z07 (z00 z07 (z00 z07 (z00 z07 (z00 z07 z03)))))))) (znd (z74 (g_nm 2 z13.nd) (z74 (g_nm 6 z13.nd) zne)))
  (z0d (z31 4 z13.nd (z26 (v2r (z05 z28 hr (z00 (z09 0) (z00 (z4t (v2r z01) (q_nm 2)) z03)))) (v2r z01)))
  (z0k (s_if (w_t (w_or (z25 (zer.or z42) z8z (v2r (z1f (q_nm 4) (v2r z01))) (v2r z01)) (z5k (z25 (z2t (by exact hr.units)) z2u (q_nm 2) (v2r z01))))) (z0d (z31 7 z13.nd (zeo z_tuple (z0n (v2r (z23 (own:=["_law_j"]) (caps:=[(4,"_law_drawn_here")]) (z3a (sc:=z02 z4l) ["_law_number_here","_law_zones","_law_k","_law_name","_law_drawn_here","_law_codes","_law_figures_here","_law_rights","_law_who","_law_times"] rfl rfl rfl (by decide +kernel)) (zkr z_range (v2r z01)) (fun _ _ _ _ _ _=>(g_nm 0 (show y1q (["_law_j","_law_drawn_here"]:List Str) by decide +kernel))) (fun _ _ _ _ _ _=>(zg2 (z25 (zer.or z42) z8z (v2r (z1f (v2r (z26 (q_nm 1) (v2r (q_ix (v2r (z1c (z00 z01 (z00 z01 (z00 z01 z03))))) (q_nm 0))))) (v2r z01))) (v2r z01)))) (fun _ _ _ _ _ _=>(q_ix (v2r (z1c (z00 z07 (z00 z07 (z00 z07 z03))))) (q_nm 0))))) z19)))
  (z0d (z31 8 z13.nd (q_ix (v2r (z1c (z00 z07 (z00 z07 (z00 z07 z03))))) (v2r (z1f (v2r (z26 (q_nm 4) (v2r z01))) (v2r z01)))))
  (z0k (z31 5 z13.nd (z4t (q_nm 5) (v2r (z1c (z00 (z1c (z00 (z09 6) (z00 (z09 8) (z00 (z09 7) (z00 (q_ix (v2r (z1c (z00 z01 (z00 z01 (z00 z01 (z00 z01 (z00 z01 z03))))))) (v2r (z1f (v2r (z26 (q_nm 4) (v2r z01))) (v2r z01)))) z03))))) z03)))))))) z21))))
  (z0d (z31 4 z13.nd (z26 (v2r (z05 z28 hr (z00 (z09 0) (z00 z01 z03)))) (v2r z01)))
  (z0d (z31 9 z13.nd (z1c (z00 (q_ix (v2r (z1c (z00 z01 (z00 z01 (z00 z01 (z00 z01 z03)))))) (v2r (z1f (q_nm 4) (v2r z01)))) (z00 (q_ix (v2r (z1c (z00 z01 (z00 z01 (z00 z01 (z00 z01 z03)))))) (v2r (z1f (v2r (z26 (q_nm 4) (v2r z01))) (v2r z01)))) (z00 (q_ix (v2r (z1c (z00 z01 (z00 z01 (z00 z01 (z00 z01 z03)))))) (v2r (z1f (v2r (z26 (q_nm 4) (v2r z01))) (v2r z01)))) z03)))))
  (z0k (z0m (z1c (z00 (z09 1) (z00 (z09 5) (z00 (z09 9) z03))))))))))))
abbrev z3v:Stmt:=top 31
theorem z3n:FnScope ["_law_plan_here","_law_number_here","_law_zone","_law_kind","_law_figures_here","_law_deed"] ["_law_plan_here","_law_number_here"] (z02 z3v):=⟨rfl,rfl,rfl,by decide +kernel,rfl,by decide +kernel,by decide +kernel⟩
theorem zic {K:y00} {f:Addr} {fd:y0b} (F:Fun K "_law_event" "_law_event" z3v f fd):Binds K fd ["_law_plan_here","_law_number_here"] []:=F.binds (ps:=["_law_plan_here","_law_number_here"]) fun _ _ _ _ _ _ us hl=>match us,hl with|[_,_],_=>rfl
theorem z9j {k:Nat} {f:Addr} {fd:y0b} (F:Fun K "_law_event" "_law_event" z3v f fd) (m:mg "_law_event"=some (.ref f)) (z_len:mg "len"=none):Cl P w K mg base "_law_event" (k+1) 2 z5u :=
 z24 F z3n (zic F) m fun cdv A outer s H E hr =>
  (z0d (z31 2 z3n.nd (q_ix (v2r (q_ix (v2r (q_ix (q_nm 0) (v2r z01))) (v2r (z1f (v2r (z26 (q_nm 1) (v2r z01))) (v2r (z68 (by exact z_len) (z0n (v2r (q_ix (q_nm 0) (v2r z01))) z19))))))) (v2r z01)))
  (z0d (z31 3 z3n.nd (z1f (q_nm 1) (v2r z01)))
  (z0d (s_if (z25 (zjq.or z5t) zcm (q_nm 3) (v2r z01)) (z0k (z0m (z1c (z00 z07 (z00 (z09 2) (z00 (q_ix (v2r (z1c (z00 z07 (z00 z07 (z00 z07 (z00 z07 z03)))))) (v2r (z1f (v2r (z26 (q_nm 1) (v2r z01))) (v2r z01)))) z03)))))) z21)
  (z0d (s_if (z25 (zjq.or z5t) zcm (q_nm 3) (v2r z01)) (z0k (z0m (z1c (z00 z07 (z00 (z4t (v2r z01) (v2r (z1f (v2r (z26 (q_nm 1) (v2r z01))) (v2r (q_ix (v2r (z1c (z00 z01 (z00 z01 (z00 z01 z03))))) (v2r (z1f (v2r (z26 (q_nm 1) (v2r z01))) (v2r z01)))))))) z03))))) z21)
  (z0d (z31 4 z3n.nd (q_ix (v2r (q_ix (v2r (q_ix (q_nm 0) (v2r z01))) (v2r (z1f (v2r (z26 (q_nm 1) (v2r z01))) (v2r (z68 (by exact z_len) (z0n (v2r (q_ix (q_nm 0) (v2r z01))) z19))))))) (v2r z01)))
  (z0d (s_if (z25 (z2t (by exact hr.units)) z2u (v2r (z1f (v2r (z26 (q_nm 1) (v2r z01))) (v2r z01))) (v2r z01)) (z0k (z31 4 z3n.nd (q_ix (v2r (z1c (z00 z07 (z00 z07 (z00 z07 (z00 z07 z03)))))) (v2r (z1f (v2r (z26 (q_nm 1) (v2r z01))) (v2r z01)))))) z21)
  (z0d (z31 5 z3n.nd (q_ix (v2r (z1c (z00 z07 (z00 z07 (z00 z07 (z00 z07 (z00 z07 (z00 z07 z03)))))))) (v2r (z1f (v2r (z26 (q_nm 1) (v2r z01))) (v2r z01)))))
  (z0d (s_if (z25 (z7s (by exact hr.units)) z7u (q_nm 5) (v2r (z1c (z00 z07 (z00 z07 z03))))) (z0k (z0m (z1c (z00 z07 (z00 (z09 4) (z00 (z09 5) (z00 zoz z03))))))) z21)
  (z0k (z0m (z1c (z00 z07 (z00 (z09 4) (z00 (z09 5) (z00 (z09 2) z03)))))))))))))))
abbrev z2g:Stmt:=top 38
theorem z56:FnScope ["_law_thing","_law_number_here","_law_deep","_law_at","_law_part","_law_some"] ["_law_thing","_law_number_here","_law_deep"] (z02 z2g):=⟨rfl,rfl,rfl,by decide +kernel,rfl,by decide +kernel,by decide +kernel⟩
theorem z9o {K:y00} {f:Addr} {fd:y0b} (F:Fun K "_law_spoilt" "_law_spoilt" z2g f fd):Binds K fd ["_law_thing","_law_number_here","_law_deep"] []:=F.binds (ps:=["_law_thing","_law_number_here","_law_deep"]) fun _ _ _ _ _ _ us hl=>match us,hl with|[_,_,_],_=>rfl
theorem zfm {d:List T->Option T} {k:Nat} {f:Addr} {fd:y0b} (F:Fun K "_law_spoilt" "_law_spoilt" z2g f fd) (m:mg "_law_spoilt"=some (.ref f)) (z35:Cl P w K mg base "_law_spoilt" k 3 d) (z_isinstance:mg "isinstance"=none) (z_tuple:mg "tuple"=none) (z_len:mg "len"=none) (z28:Cl P w K mg base "_law_drawn" k 2 z0x) (z_list:mg "list"=none) (z_str:mg "str"=none) (z_int:mg "int"=none):Cl P w K mg base "_law_spoilt" (k+1) 3 (runF (z66 d) 6) :=
 z24 F z56 (z9o F) m fun cdv A outer s H E hr =>
  (v_of (z2l (v_if (w_t (w_and (z25 (zer.or z42) z8z (q_nm 2) (v2r z01)) (w_and (z10 (v2r (z4s z4n z4r z_isinstance z_tuple (q_nm 0)))) (w_and (z25 (zer.or z42) z8z (v2r (z68 (by exact z_len) (z0n (q_nm 0) z19))) (v2r z01)) (zg0 (z25 (zer.or z42) z8z (v2r (z1f (q_nm 1) (v2r z01))) (v2r z01))))))) (z2l (zas 3 z56.nd (v_mk (z1f (v2r (z26 (q_nm 1) (v2r z01))) (v2r (z68 (by exact z_len) (z0n (q_nm 0) z19))))))
(z2l (zas 4 z56.nd (zq5 z35 hr (v_cE (v_ix (v_mr (q_nm 0)) (v_mr (q_nm 3))) (v_cE (v_mk (z26 (v2r (z05 z28 hr (z00 (z09 1) (z00 (z09 2) z03)))) (v2r z01))) (v_cE (v_mk (zoy (q_nm 2) (v2r z01))) z0u)))))
(zh4 (zh3 (v_add (v_r (v_add (v_r (v_sl (v_mr (q_nm 0)) z3j (z3i (q_nm 3)))) (v_r (z1a (v_cE (v_mk (z09 4)) z0u))))) (v_r (v_sl (v_mr (q_nm 0)) (z3i (v2r (z4t (q_nm 3) (v2r z01)))) z3j))))))) zlu)
(z2l (v_if (w_t (w_and (z10 (v2r (z4s z4n z4r z_isinstance z_tuple (q_nm 0)))) (w_and (z25 (zer.or z42) z8z (v2r (z68 (by exact z_len) (z0n (q_nm 0) z19))) (v2r z01)) (zg0 (z25 (z2t (by exact hr.units)) z2u (v2r (z1f (v2r (z26 (q_nm 1) (v2r z01))) (v2r z01))) (v2r z01)))))) (zh4 (zh3 (v_ix (v_r (zar (v_cE (v_mk (zo2 z_list (z0n (q_nm 0) z19))) (v_cE (v_sl (v_mr (q_nm 0)) z3j (z3i (v2r (zp0 (v2r z01))))) (v_cE (v_add (v_mr (q_nm 0)) (v_r (v_sl (v_mr (q_nm 0)) (z3i (v2r (zp0 (v2r z01)))) z3j))) (v_cE (v_sl (v_mr (q_nm 0)) (z3i (v2r z01)) z3j) (v_cE (v_mk (zo1 (q_nm 0) neg1)) (v_cE (z1a z0u) z0u)))))))) (v_r (v_mk (z1f (v2r (z26 (q_nm 1) (v2r z01))) (v2r z01))))))) zlu)
(z2l (v_if (w_t (w_and (z10 (v2r (z4s zag zal z_isinstance z_str (q_nm 0)))) (zg0 (z25 (z2t (by exact hr.units)) z2u (v2r (z1f (v2r (z26 (q_nm 1) (v2r z01))) (v2r z01))) (v2r z01))))) (zh4 (zh3 (v_ix (v_r (zar (v_cE (v_add (v_mr (q_nm 0)) (v_r (v_mk z07))) (v_cE (v_sl (v_mr (q_nm 0)) (z3i (v2r z01)) z3j) (v_cE (v_add (v_mr (q_nm 0)) (v_r (v_mk z07))) (v_cE (v_mk (zow (q_nm 0))) (v_cE (v_mk (zox (q_nm 0) (v2r z01))) (v_cE (v_mk (zo1 (q_nm 0) neg1)) z0u)))))))) (v_r (v_mk (z1f (v2r (z26 (q_nm 1) (v2r z01))) (v2r z01))))))) zlu)
(z2l (v_if (w_t (w_and (z10 (v2r (z4s zkd zlc z_isinstance z_int (q_nm 0)))) (zg0 (z25 (z2t (by exact hr.units)) z2u (v2r (z1f (v2r (z26 (q_nm 1) (v2r z01))) (v2r z01))) (v2r z01))))) (zh4 (zh3 (v_ix (v_r (zar (v_cE (v_mk (zo0 z_str (z0n (q_nm 0) z19))) (v_cE (v_mk (zoy (v2r z01) (q_nm 0))) (v_cE (v_add (v_mr (q_nm 0)) (v_r (v_mk z01))) (v_cE (v_mk (z5q (z2t (by exact hr.units)) z2u (q_nm 0) (v2r z01))) (v_cE (v_mk (zoy (q_nm 0) (v2r z01))) (v_cE (v_add (v_mr (q_nm 0)) (v_r (v_mk z01))) z0u)))))))) (v_r (v_mk (z1f (v2r (z26 (q_nm 1) (v2r z01))) (v2r z01))))))) zlu)
(z2l (zas 5 z56.nd (zar (v_cE (v_mk zoz) (v_cE (v_mk q_bl) (v_cE (v_mk q_bl) (v_cE (v_mk z01) (v_cE (v_mk z01) (v_cE (v_mk z01) (v_cE (v_mk z01) (v_cE (v_mk z01) (v_cE (v_mk z01) (v_cE (v_mk z01) (v_cE (v_mk (zp0 (v2r z01))) (v_cE (v_mk z07) (v_cE (v_mk z07) (v_cE (v_mk z07) (v_cE (v_mk z07) (v_cE (v_mk z07) (v_cE (v_mk z07) (v_cE (z1a z0u) (v_cE (zar z0u) (v_cE (z1a (v_cE (v_mk z07) (v_cE (v_mk z07) z0u))) z0u))))))))))))))))))))))
(zh4 (zh3 (v_ix (v_mr (q_nm 5)) (v_r (v_mk (z1f (v2r (z26 (q_nm 1) (v2r z01))) (v2r z01)))))))))))))
theorem z35 {k:Nat} {f:Addr} {fd:y0b} (F:Fun K "_law_spoilt" "_law_spoilt" z2g f fd) (m:mg "_law_spoilt"=some (.ref f)) (z_isinstance:mg "isinstance"=none) (z_tuple:mg "tuple"=none) (z_len:mg "len"=none) (z28:Cl P w K mg base "_law_drawn" k 2 z0x) (z_list:mg "list"=none) (z_str:mg "str"=none) (z_int:mg "int"=none):∀n,Cl P w K mg base "_law_spoilt" (k+n) 3 (z1p n)
 | 0=>.mk' zkv m F.kp (z9o F)
 | n+1=>zfm F m (z35 F m z_isinstance z_tuple z_len z28 z_list z_str z_int  n) z_isinstance z_tuple z_len (z28.mono (y30 _ _)) z_list z_str z_int
abbrev z2m:Stmt:=top 41
theorem z1z:FnScope ["_law_number_here","_law_few","_law_zones","_law_codes","_law_plain","_law_found","_law_rights"] ["_law_number_here"] (z02 z2m):=⟨rfl,rfl,rfl,by decide +kernel,rfl,by decide +kernel,by decide +kernel⟩
theorem zid {K:y00} {f:Addr} {fd:y0b} (F:Fun K "_law_edges" "_law_edges" z2m f fd):Binds K fd ["_law_number_here"] []:=F.binds (ps:=["_law_number_here"]) fun _ _ _ _ _ _ us hl=>match us,hl with|[_],_=>rfl
theorem z9k {k:Nat} {f:Addr} {fd:y0b} (F:Fun K "_law_edges" "_law_edges" z2m f fd) (m:mg "_law_edges"=some (.ref f)) (z_tuple:mg "tuple"=none) (z_range:mg "range"=none) (z_str:mg "str"=none):Cl P w K mg base "_law_edges" (k+1) 1 z4y :=
 z24 F z1z (zid F) m fun cdv A outer s H E hr =>
  (v_of (z2l (zas 1 z1z.nd (v_mk (z1f (q_nm 0) (v2r z01))))
(z2l (zas 2 z1z.nd (v_mk (zeo z_tuple (z0n (v2r (z23 (own:=["_law_k"]) (caps:=[]) (z3a (sc:=z02 z2m) ["_law_number_here","_law_few","_law_zones","_law_codes","_law_plain","_law_found","_law_rights"] rfl rfl rfl (by decide +kernel)) (zkr z_range (v2r (z4t (v2r z01) (q_nm 1)))) (fun _ _ _ _ _ _=>(g_nm 0 (show y1q (["_law_k"]:List Str) by decide +kernel))) (fun _ _ _ _ _ _=>z4w) (fun _ _ _ _ _ _=>(z1c (z00 (q_ix (v2r z07) (q_nm 0)) (z00 z07 z03)))))) z19))))
(z2l (zas 3 z1z.nd (v_mk (zeo z_tuple (z0n (v2r (z23 (own:=["_law_k"]) (caps:=[]) (z3a (sc:=z02 z2m) ["_law_number_here","_law_few","_law_zones","_law_codes","_law_plain","_law_found","_law_rights"] rfl rfl rfl (by decide +kernel)) (zkr z_range (v2r (z4t (v2r z01) (q_nm 1)))) (fun _ _ _ _ _ _=>(g_nm 0 (show y1q (["_law_k"]:List Str) by decide +kernel))) (fun _ _ _ _ _ _=>z4w) (fun _ _ _ _ _ _=>(z1c (z00 (zo0 (by exact z_str) (z0n (v2r (z4t (v2r z01) (q_nm 0))) z19)) (z00 z07 (z00 (z1c z03) (z00 z01 z03)))))))) z19))))
(z2l (zas 4 z1z.nd (z1a (v_cE (z1a (v_cE (v_mk z07) (v_cE (v_ix (v_r (z1a (v_cE (v_mk z07) (v_cE (v_mk z07) (v_cE (v_mk z07) (v_cE (v_mk z07) z0u)))))) (v_r (v_mk (z1f (v2r (z26 (q_nm 0) (v2r z01))) (v2r z01))))) z0u))) z0u)))
(z2l (znv 5 z1z.nd (zq4 (v_cE (z1a (v_cE (v_mk (z09 2)) (v_cE (v_sl (v_mr (q_nm 3)) z3j (z3i (v2r z01))) (v_cE (z1a (v_cE (v_mk z01) (v_cE (v_mk z01) (v_cE (v_mk z01) z0u)))) z0u)))) (v_cE (z1a (v_cE (v_mk (z09 4)) (v_cE (v_mk (z09 3)) (v_cE (z1a (v_cE (v_mk z01) (v_cE (v_mk z01) (v_cE (v_mk z01) z0u)))) z0u)))) (v_cE (z1a (v_cE (v_mk (z09 4)) (v_cE (v_sl (v_mr (q_nm 3)) z3j (z3i (v2r z01))) (v_cE (z1a (v_cE (v_add (v_r (v_mk z01)) (v_mr (q_nm 1))) (v_cE (v_mk z01) (v_cE (v_mk z01) z0u)))) z0u)))) z0u)))))
(z2l (znv 5 z1z.nd (zq6 (v_mr (q_nm 5)) (v_r (zar (v_cE (z1a (v_cE (v_mk (z09 4)) (v_cE (v_sl (v_mr (q_nm 3)) z3j (z3i (v2r z01))) (v_cE (z1a (v_cE (v_mk z01) (v_cE (v_add (v_r (v_mk z01)) (v_mr (q_nm 1))) (v_cE (v_mk z01) z0u)))) z0u)))) (v_cE (z1a (v_cE (v_mk (z09 4)) (v_cE (v_sl (v_mr (q_nm 3)) z3j (z3i (v2r z01))) (v_cE (z1a (v_cE (v_mk z01) (v_cE (v_mk z01) (v_cE (v_add (v_r (v_mk z01)) (v_mr (q_nm 1))) z0u)))) z0u)))) z0u))))))
(z2l (zlv 5 (z1a (v_cE (v_mk (z09 4)) (v_cE (v_sl (v_mr (q_nm 3)) z3j (z3i (v2r z01))) (v_cE (z1a (v_cE (v_mk z01) (v_cE (v_mk z01) (v_cE (v_mk (z09 1)) z0u)))) z0u)))))
(z2l (zlv 5 (z1a (v_cE (v_mk (z09 4)) (v_cE (z1a (v_cE (z1a (v_cE (v_mk z07) (v_cE (v_mk z07) (v_cE (v_sl (v_r (z1a (v_cE (v_mk z07) (v_cE (v_mk z07) (v_cE (v_mk z07) z0u))))) (z3i (q_nm 1)) z3j) (v_cE (v_add (v_r (v_mk z01)) (v_mr (q_nm 1))) z0u))))) z0u)) (v_cE (z1a (v_cE (v_mk z01) (v_cE (v_mk z01) (v_cE (v_mk z01) z0u)))) z0u)))))
(z2l (zas 6 z1z.nd (zar (v_cE (z1a (v_cE (v_mk z07) (v_cE (v_mk z07) z0u))) (v_cE (z1a (v_cE (v_mk z07) (v_cE (v_mk z07) z0u))) (v_cE (z1a (v_cE (v_mk z07) (v_cE (v_mk z07) z0u))) (v_cE (z1a (v_cE (v_mk z07) z0u)) (v_cE (zar (v_cE (v_mk z07) z0u)) (v_cE (v_mk z07) (v_cE (z1a (v_cE (v_mk z01) z0u)) (v_cE (v_mk zoz) z0u))))))))))
(z2l (zas 6 z1z.nd (v_ix (v_mr (q_nm 6)) (v_r (v_mk (z1f (v2r (z26 (q_nm 0) (v2r z01))) (v2r z01))))))
(z2l (zlv 5 (z1a (v_cE (v_mk (z09 4)) (v_cE (z1a (v_cE (z1a (v_cE (v_mk z07) (v_cE (v_mk z07) (v_cE (v_mk (z09 6)) (v_cE (v_mk z01) z0u))))) z0u)) (v_cE (z1a (v_cE (v_mk z01) (v_cE (v_mk z01) (v_cE (v_mk z01) z0u)))) z0u)))))
(z2l (zlv 5 (z1a (v_cE (z1a (v_cE (z1a (v_cE (v_add (v_r (v_sl (v_r (v_mk z07)) z3j (z3i (v2r (z4t (v2r z01) (q_nm 1)))))) (v_r (v_mk z07))) (v_cE (v_mk z07) z0u))) z0u)) (v_cE (v_sl (v_mr (q_nm 3)) z3j (z3i (v2r z01))) (v_cE (z1a (v_cE (v_mk z01) (v_cE (v_mk z01) (v_cE (v_mk z01) z0u)))) z0u)))))
(zh4 (zh3 (v_add (v_mr (q_nm 5)) (v_r (zar (v_cE (z1a (v_cE (z1a z0u) (v_cE (v_sl (v_mr (q_nm 3)) z3j (z3i (v2r z01))) (v_cE (z1a (v_cE (v_mk z01) (v_cE (v_mk z01) (v_cE (v_mk z01) z0u)))) z0u)))) (v_cE (z1a (v_cE (v_mk (z09 4)) (v_cE (z1a z0u) (v_cE (z1a (v_cE (v_mk z01) (v_cE (v_mk z01) (v_cE (v_mk z01) z0u)))) z0u)))) z0u))))))))))))))))))))
abbrev z2z:Stmt:=top 3
theorem zeh:FnScope ["thing","least","most"] ["thing","least","most"] (z02 z2z):=⟨rfl,rfl,rfl,by decide +kernel,rfl,by decide +kernel,by decide +kernel⟩
theorem zfq {K:y00} {f:Addr} {fd:y0b} (F:Fun K "is_tuple" "is_tuple" z2z f fd):Binds K fd ["thing","least","most"] []:=F.binds (ps:=["thing","least","most"]) fun _ _ _ _ _ _ us hl=>match us,hl with|[_,_,_],_=>rfl
theorem z0i {k:Nat} {f:Addr} {fd:y0b} (F:Fun K "is_tuple" "is_tuple" z2z f fd) (m:mg "is_tuple"=some (.ref f)) (z_isinstance:mg "isinstance"=none) (z_tuple:mg "tuple"=none) (z_len:mg "len"=none):Cl P w K mg base "is_tuple" (k+1) 3 z06 :=
 z24 F zeh (zfq F) m fun cdv A outer s H E hr =>
  (z0k (z0m (z20 (z4s z4n z4r z_isinstance z_tuple (q_nm 0)) (z2n (zgc (q_nm 1) (v2r (z68 (by exact z_len) (z0n (q_nm 0) z19))) (q_nm 2))))))
abbrev z5m:Stmt:=top 7
theorem zme:FnScope ["things"] ["things"] (z02 z5m):=⟨rfl,rfl,rfl,by decide +kernel,rfl,by decide +kernel,by decide +kernel⟩
theorem zno {K:y00} {f:Addr} {fd:y0b} (F:Fun K "rises" "rises" z5m f fd):Binds K fd ["things"] []:=F.binds (ps:=["things"]) fun _ _ _ _ _ _ us hl=>match us,hl with|[_],_=>rfl
theorem z6j {k:Nat} {f:Addr} {fd:y0b} (F:Fun K "rises" "rises" z5m f fd) (m:mg "rises"=some (.ref f)) (z_all:mg "all"=none) (z_zip:mg "zip"=none):Cl P w K mg base "rises" (k+1) 1 z47 :=
 z24 F zme (zno F) m fun cdv A outer s H E hr =>
  (z0k (z0m (zjl rfl z_all (z0n (v2r (z23 (own:=["one","other"]) (caps:=[]) (z3a (sc:=z02 z5m) ["things"] rfl rfl rfl (by decide +kernel)) (zs2 z_zip (z09 0) (zgb (q_nm 0) (z3i (v2r z01)) z3j)) (fun _ _ _ _ _ _=>(znd (z74 (g_nm 0 (show y1q (["one","other"]:List Str) by decide +kernel)) (z74 (g_nm 1 (show y1q (["one","other"]:List Str) by decide +kernel)) zne)))) (fun _ _ _ _ _ _=>z4w) (fun _ _ _ _ _ _=>(z5q (zjq.or z5t) zcm (q_nm 0) (q_nm 1))))) z19))))
abbrev z37:Stmt:=top 4
theorem zhd:FnScope ["thing","least","most","first","last"] ["thing","least","most","first","last"] (z02 z37):=⟨rfl,rfl,rfl,by decide +kernel,rfl,by decide +kernel,by decide +kernel⟩
theorem zig {K:y00} {f:Addr} {fd:y0b} (F:Fun K "is_text" "is_text" z37 f fd):Binds K fd ["thing","least","most","first","last"] []:=F.binds (ps:=["thing","least","most","first","last"]) fun _ _ _ _ _ _ us hl=>match us,hl with|[_,_,_,_,_],_=>rfl
theorem z5w {k:Nat} {f:Addr} {fd:y0b} (F:Fun K "is_text" "is_text" z37 f fd) (m:mg "is_text"=some (.ref f)) (z_all:mg "all"=none) (z_isinstance:mg "isinstance"=none) (z_len:mg "len"=none) (z_str:mg "str"=none):Cl P w K mg base "is_text" (k+1) 5 z1v :=
 z24 F zhd (zig F) m fun cdv A outer s H E hr =>
  (z0d (s_if (w_t (w_or (z1y (z10 (v2r (z4s zag zal z_isinstance z_str (q_nm 0))))) (z5k (z1y (za2 (q_nm 1) (v2r (z68 (by exact z_len) (z0n (q_nm 0) z19))) (q_nm 2)))))) (z0k (z0m q_bl)) z21)
  (z0k (z0m (zjl rfl z_all (z0n (v2r (z23 (own:=["sign"]) (caps:=[(3,"first"),(4,"last")]) (z3a (sc:=z02 z37) ["thing","least","most","first","last"] rfl rfl rfl (by decide +kernel)) (i_A (z09 0)) (fun _ _ _ _ _ _=>(g_nm 0 (show y1q (["sign","first","last"]:List Str) by decide +kernel))) (fun _ _ _ _ _ _=>z4w) (fun _ _ _ _ _ _=>(zgc (q_nm 1) (q_nm 0) (q_nm 2))))) z19)))))
abbrev z3z:Stmt:=top 5
theorem zhf:FnScope ["thing"] ["thing"] (z02 z3z):=⟨rfl,rfl,rfl,by decide +kernel,rfl,by decide +kernel,by decide +kernel⟩
theorem zii {K:y00} {f:Addr} {fd:y0b} (F:Fun K "is_name" "is_name" z3z f fd):Binds K fd ["thing"] []:=F.binds (ps:=["thing"]) fun _ _ _ _ _ _ us hl=>match us,hl with|[_],_=>rfl
theorem z5x {k:Nat} {f:Addr} {fd:y0b} (F:Fun K "is_name" "is_name" z3z f fd) (m:mg "is_name"=some (.ref f)) (z5w:Cl P w K mg base "is_text" k 5 z1v):Cl P w K mg base "is_name" (k+1) 1 z51 :=
 z24 F zhf (zii F) m fun cdv A outer s H E hr =>
  (z0k (z0m (z05 z5w hr (z00 (z09 0) (z00 z01 (z00 z01 (z00 z07 (z00 z07 z03))))))))
abbrev z3x:Stmt:=top 14
theorem zhc:FnScope ["thing"] ["thing"] (z02 z3x):=⟨rfl,rfl,rfl,by decide +kernel,rfl,by decide +kernel,by decide +kernel⟩
theorem zif {K:y00} {f:Addr} {fd:y0b} (F:Fun K "is_zone" "is_zone" z3x f fd):Binds K fd ["thing"] []:=F.binds (ps:=["thing"]) fun _ _ _ _ _ _ us hl=>match us,hl with|[_],_=>rfl
theorem z9l {k:Nat} {f:Addr} {fd:y0b} (F:Fun K "is_zone" "is_zone" z3x f fd) (m:mg "is_zone"=some (.ref f)) (z0i:Cl P w K mg base "is_tuple" k 3 z06) (z5x:Cl P w K mg base "is_name" k 1 z51) {a_KINDS:Addr} (m_KINDS:mg "KINDS"=some (.ref a_KINDS)) (t_KINDS:∃(o:Obj) (its:Array Value) (n:Nat),K.lookup a_KINDS=some o/\o.cls=.type "tuple"/\o.data=.seq its n/\its.size<=y0j/\Vals ((["day","inner","once","way"]:List Str).map V.str) its.toList):Cl P w K mg base "is_zone" (k+1) 1 z4z :=
 z24 F zhc (zif F) m fun cdv A outer s H E hr =>
  (z0k (z0m (z20 (z05 z0i hr (z00 (z09 0) (z00 z01 (z00 z01 z03)))) (z20 (z05 z5x hr (z00 (q_ix (q_nm 0) (v2r z01)) z03)) (z2n (z5q (z7s (by exact hr.units)) z7u (v2r (q_ix (q_nm 0) (v2r z01))) (v2r (q_gT m_KINDS t_KINDS))))))))
abbrev z1j:Stmt:=top 15
theorem zc6:FnScope ["thing"] ["thing"] (z02 z1j):=⟨rfl,rfl,rfl,by decide +kernel,rfl,by decide +kernel,by decide +kernel⟩
theorem zdy {K:y00} {f:Addr} {fd:y0b} (F:Fun K "are_zones" "are_zones" z1j f fd):Binds K fd ["thing"] []:=F.binds (ps:=["thing"]) fun _ _ _ _ _ _ us hl=>match us,hl with|[_],_=>rfl
theorem z6m {k:Nat} {f:Addr} {fd:y0b} (F:Fun K "are_zones" "are_zones" z1j f fd) (m:mg "are_zones"=some (.ref f)) (z6j:Cl P w K mg base "rises" k 1 z47) (z0i:Cl P w K mg base "is_tuple" k 3 z06) (z_all:mg "all"=none) (z9l:Cl P w K mg base "is_zone" k 1 z4z):Cl P w K mg base "are_zones" (k+1) 1 z48 :=
 z24 F zc6 (zdy F) m fun cdv A outer s H E hr =>
  (z0d (s_if (w_t (w_or (z1y (z10 (v2r (z05 z0i hr (z00 (z09 0) (z00 z01 (z00 z01 z03))))))) (z5k (z1y (z10 (v2r (zjl rfl z_all (z0n (v2r (z23 (own:=["zone"]) (caps:=[]) (z3a (sc:=z02 z1j) ["thing"] rfl rfl rfl (by decide +kernel)) (i_A (z09 0)) (fun _ _ _ _ _ _=>(g_nm 0 (show y1q (["zone"]:List Str) by decide +kernel))) (fun _ _ _ _ _ _=>z4w) (fun _ _ _ _ _ _=>(z05 (by exact z9l) (by exact hr) (z00 (z09 0) z03))))) z19)))))))) (z0k (z0m q_bl)) z21)
  (z0k (z0m (z05 z6j hr (z00 (z23 (own:=["zone"]) (caps:=[]) (z3a (sc:=z02 z1j) ["thing"] rfl rfl rfl (by decide +kernel)) (i_A (z09 0)) (fun _ _ _ _ _ _=>(g_nm 0 (show y1q (["zone"]:List Str) by decide +kernel))) (fun _ _ _ _ _ _=>z4w) (fun _ _ _ _ _ _=>(q_ix (q_nm 0) (v2r z01)))) z03)))))
abbrev z1u:Stmt:=top 6
theorem zax:FnScope ["thing"] ["thing"] (z02 z1u):=⟨rfl,rfl,rfl,by decide +kernel,rfl,by decide +kernel,by decide +kernel⟩
theorem zbl {K:y00} {f:Addr} {fd:y0b} (F:Fun K "is_figures" "is_figures" z1u f fd):Binds K fd ["thing"] []:=F.binds (ps:=["thing"]) fun _ _ _ _ _ _ us hl=>match us,hl with|[_],_=>rfl
theorem z3d {k:Nat} {f:Addr} {fd:y0b} (F:Fun K "is_figures" "is_figures" z1u f fd) (m:mg "is_figures"=some (.ref f)) (z5w:Cl P w K mg base "is_text" k 5 z1v):Cl P w K mg base "is_figures" (k+1) 1 z1w :=
 z24 F zax (zbl F) m fun cdv A outer s H E hr =>
  (z0k (z0m (z05 z5w hr (z00 (z09 0) (z00 z01 (z00 z01 (z00 z07 (z00 z07 z03))))))))
abbrev z1h:Stmt:=top 16
theorem zay:FnScope ["thing"] ["thing"] (z02 z1h):=⟨rfl,rfl,rfl,by decide +kernel,rfl,by decide +kernel,by decide +kernel⟩
theorem zbm {K:y00} {f:Addr} {fd:y0b} (F:Fun K "are_rights" "are_rights" z1h f fd):Binds K fd ["thing"] []:=F.binds (ps:=["thing"]) fun _ _ _ _ _ _ us hl=>match us,hl with|[_],_=>rfl
theorem z5y {k:Nat} {f:Addr} {fd:y0b} (F:Fun K "are_rights" "are_rights" z1h f fd) (m:mg "are_rights"=some (.ref f)) (z0i:Cl P w K mg base "is_tuple" k 3 z06) (z_all:mg "all"=none) (z6j:Cl P w K mg base "rises" k 1 z47) {a_RIGHTS:Addr} (m_RIGHTS:mg "RIGHTS"=some (.ref a_RIGHTS)) (t_RIGHTS:∃(o:Obj) (its:Array Value) (n:Nat),K.lookup a_RIGHTS=some o/\o.cls=.type "tuple"/\o.data=.seq its n/\its.size<=y0j/\Vals ((["set","shunt","unset"]:List Str).map V.str) its.toList):Cl P w K mg base "are_rights" (k+1) 1 z4p :=
 z24 F zay (zbm F) m fun cdv A outer s H E hr =>
  (z0k (z0m (z20 (z05 z0i hr (z00 (z09 0) (z00 z01 (z00 z01 z03)))) (z20 (zjl rfl z_all (z0n (v2r (z23 (own:=["right"]) (caps:=[]) (z3a (sc:=z02 z1h) ["thing"] rfl rfl rfl (by decide +kernel)) (i_A (z09 0)) (fun _ _ _ _ _ _=>(g_nm 0 (show y1q (["right"]:List Str) by decide +kernel))) (fun _ _ _ _ _ _=>z4w) (fun _ _ _ _ _ _=>(z5q (z7s (by exact hr.units)) z7u (q_nm 0) (v2r (q_gT (by exact m_RIGHTS) (by exact t_RIGHTS))))))) z19)) (z2n (z05 z6j hr (z00 (z09 0) z03)))))))
abbrev z2y:Stmt:=top 1
theorem zeg:FnScope ["thing"] ["thing"] (z02 z2y):=⟨rfl,rfl,rfl,by decide +kernel,rfl,by decide +kernel,by decide +kernel⟩
theorem zfp {K:y00} {f:Addr} {fd:y0b} (F:Fun K "is_whole" "is_whole" z2y f fd):Binds K fd ["thing"] []:=F.binds (ps:=["thing"]) fun _ _ _ _ _ _ us hl=>match us,hl with|[_],_=>rfl
theorem z54 {k:Nat} {f:Addr} {fd:y0b} (F:Fun K "is_whole" "is_whole" z2y f fd) (m:mg "is_whole"=some (.ref f)) (z_isinstance:mg "isinstance"=none) (z_int:mg "int"=none) (z_bool:mg "bool"=none):Cl P w K mg base "is_whole" (k+1) 1 z3o :=
 z24 F zeg (zfp F) m fun cdv A outer s H E hr =>
  (z0k (z0m (z20 (z4s zkd zlc z_isinstance z_int (q_nm 0)) (z2n (zqr (z4s zbb zbi z_isinstance z_bool (q_nm 0)))))))
abbrev z2b:Stmt:=top 2
theorem zc5:FnScope ["thing","least","most"] ["thing","least","most"] (z02 z2b):=⟨rfl,rfl,rfl,by decide +kernel,rfl,by decide +kernel,by decide +kernel⟩
theorem zdx {K:y00} {f:Addr} {fd:y0b} (F:Fun K "is_within" "is_within" z2b f fd):Binds K fd ["thing","least","most"] []:=F.binds (ps:=["thing","least","most"]) fun _ _ _ _ _ _ us hl=>match us,hl with|[_,_,_],_=>rfl
theorem z2e {k:Nat} {f:Addr} {fd:y0b} (F:Fun K "is_within" "is_within" z2b f fd) (m:mg "is_within"=some (.ref f)) (z54:Cl P w K mg base "is_whole" k 1 z3o):Cl P w K mg base "is_within" (k+1) 3 z1n :=
 z24 F zc5 (zdx F) m fun cdv A outer s H E hr =>
  (z0k (z0m (z20 (z05 z54 hr (z00 (z09 0) z03)) (z2n (zgc (q_nm 1) (q_nm 0) (q_nm 2))))))
abbrev z40:Stmt:=top 17
theorem zhg:FnScope ["thing"] ["thing"] (z02 z40):=⟨rfl,rfl,rfl,by decide +kernel,rfl,by decide +kernel,by decide +kernel⟩
theorem zij {K:y00} {f:Addr} {fd:y0b} (F:Fun K "is_code" "is_code" z40 f fd):Binds K fd ["thing"] []:=F.binds (ps:=["thing"]) fun _ _ _ _ _ _ us hl=>match us,hl with|[_],_=>rfl
theorem z9m {k:Nat} {f:Addr} {fd:y0b} (F:Fun K "is_code" "is_code" z40 f fd) (m:mg "is_code"=some (.ref f)) (z0i:Cl P w K mg base "is_tuple" k 3 z06) (z3d:Cl P w K mg base "is_figures" k 1 z1w) (z5x:Cl P w K mg base "is_name" k 1 z51) (z5y:Cl P w K mg base "are_rights" k 1 z4p) (z2e:Cl P w K mg base "is_within" k 3 z1n):Cl P w K mg base "is_code" (k+1) 1 z52 :=
 z24 F zhg (zij F) m fun cdv A outer s H E hr =>
  (z0d (s_if (z1y (z10 (v2r (z05 z0i hr (z00 (z09 0) (z00 z01 (z00 z01 z03))))))) (z0k (z0m q_bl)) z21)
  (z0k (z0m (z20 (z05 z3d hr (z00 (q_ix (q_nm 0) (v2r z01)) z03)) (z20 (z05 z5x hr (z00 (q_ix (q_nm 0) (v2r z01)) z03)) (z20 (z05 z5y hr (z00 (q_ix (q_nm 0) (v2r z01)) z03)) (z2n (z05 z2e hr (z00 (q_ix (q_nm 0) (v2r z01)) (z00 z01 (z00 z01 z03)))))))))))
abbrev z1k:Stmt:=top 18
theorem zc8:FnScope ["thing"] ["thing"] (z02 z1k):=⟨rfl,rfl,rfl,by decide +kernel,rfl,by decide +kernel,by decide +kernel⟩
theorem ze0 {K:y00} {f:Addr} {fd:y0b} (F:Fun K "are_codes" "are_codes" z1k f fd):Binds K fd ["thing"] []:=F.binds (ps:=["thing"]) fun _ _ _ _ _ _ us hl=>match us,hl with|[_],_=>rfl
theorem z6o {k:Nat} {f:Addr} {fd:y0b} (F:Fun K "are_codes" "are_codes" z1k f fd) (m:mg "are_codes"=some (.ref f)) (z6j:Cl P w K mg base "rises" k 1 z47) (z0i:Cl P w K mg base "is_tuple" k 3 z06) (z_all:mg "all"=none) (z9m:Cl P w K mg base "is_code" k 1 z52):Cl P w K mg base "are_codes" (k+1) 1 z4a :=
 z24 F zc8 (ze0 F) m fun cdv A outer s H E hr =>
  (z0d (s_if (w_t (w_or (z1y (z10 (v2r (z05 z0i hr (z00 (z09 0) (z00 z01 (z00 z01 z03))))))) (z5k (z1y (z10 (v2r (zjl rfl z_all (z0n (v2r (z23 (own:=["code"]) (caps:=[]) (z3a (sc:=z02 z1k) ["thing"] rfl rfl rfl (by decide +kernel)) (i_A (z09 0)) (fun _ _ _ _ _ _=>(g_nm 0 (show y1q (["code"]:List Str) by decide +kernel))) (fun _ _ _ _ _ _=>z4w) (fun _ _ _ _ _ _=>(z05 (by exact z9m) (by exact hr) (z00 (z09 0) z03))))) z19)))))))) (z0k (z0m q_bl)) z21)
  (z0k (z0m (z05 z6j hr (z00 (z23 (own:=["code"]) (caps:=[]) (z3a (sc:=z02 z1k) ["thing"] rfl rfl rfl (by decide +kernel)) (i_A (z09 0)) (fun _ _ _ _ _ _=>(g_nm 0 (show y1q (["code"]:List Str) by decide +kernel))) (fun _ _ _ _ _ _=>z4w) (fun _ _ _ _ _ _=>(q_ix (q_nm 0) (v2r z01)))) z03)))))
abbrev z2c:Stmt:=top 19
theorem zc7:FnScope ["thing"] ["thing"] (z02 z2c):=⟨rfl,rfl,rfl,by decide +kernel,rfl,by decide +kernel,by decide +kernel⟩
theorem zdz {K:y00} {f:Addr} {fd:y0b} (F:Fun K "are_times" "are_times" z2c f fd):Binds K fd ["thing"] []:=F.binds (ps:=["thing"]) fun _ _ _ _ _ _ us hl=>match us,hl with|[_],_=>rfl
theorem z6n {k:Nat} {f:Addr} {fd:y0b} (F:Fun K "are_times" "are_times" z2c f fd) (m:mg "are_times"=some (.ref f)) (z0i:Cl P w K mg base "is_tuple" k 3 z06) (z2e:Cl P w K mg base "is_within" k 3 z1n):Cl P w K mg base "are_times" (k+1) 1 z49 :=
 z24 F zc7 (zdz F) m fun cdv A outer s H E hr =>
  (z0d (s_if (z1y (z10 (v2r (z05 z0i hr (z00 (z09 0) (z00 z01 (z00 z01 z03))))))) (z0k (z0m q_bl)) z21)
  (z0k (z0m (z20 (z05 z2e hr (z00 (q_ix (q_nm 0) (v2r z01)) (z00 z01 (z00 z01 z03)))) (z20 (z05 z2e hr (z00 (q_ix (q_nm 0) (v2r z01)) (z00 z01 (z00 z01 z03)))) (z2n (z05 z2e hr (z00 (q_ix (q_nm 0) (v2r z01)) (z00 z01 (z00 z01 z03))))))))))
abbrev z3y:Stmt:=top 20
theorem zhe:FnScope ["thing"] ["thing"] (z02 z3y):=⟨rfl,rfl,rfl,by decide +kernel,rfl,by decide +kernel,by decide +kernel⟩
theorem zih {K:y00} {f:Addr} {fd:y0b} (F:Fun K "is_plan" "is_plan" z3y f fd):Binds K fd ["thing"] []:=F.binds (ps:=["thing"]) fun _ _ _ _ _ _ us hl=>match us,hl with|[_],_=>rfl
theorem z77 {k:Nat} {f:Addr} {fd:y0b} (F:Fun K "is_plan" "is_plan" z3y f fd) (m:mg "is_plan"=some (.ref f)) (z0i:Cl P w K mg base "is_tuple" k 3 z06) (z6m:Cl P w K mg base "are_zones" k 1 z48) (z6o:Cl P w K mg base "are_codes" k 1 z4a) (z6n:Cl P w K mg base "are_times" k 1 z49):Cl P w K mg base "is_plan" (k+1) 1 z50 :=
 z24 F zhe (zih F) m fun cdv A outer s H E hr =>
  (z0k (z0m (z20 (z05 z0i hr (z00 (z09 0) (z00 z01 (z00 z01 z03)))) (z20 (z05 z6m hr (z00 (q_ix (q_nm 0) (v2r z01)) z03)) (z20 (z05 z6o hr (z00 (q_ix (q_nm 0) (v2r z01)) z03)) (z2n (z05 z6n hr (z00 (q_ix (q_nm 0) (v2r z01)) z03))))))))
abbrev z2h:Stmt:=top 21
theorem zej:FnScope ["plan","name"] ["plan","name"] (z02 z2h):=⟨rfl,rfl,rfl,by decide +kernel,rfl,by decide +kernel,by decide +kernel⟩
theorem zfs {K:y00} {f:Addr} {fd:y0b} (F:Fun K "has_zone" "has_zone" z2h f fd):Binds K fd ["plan","name"] []:=F.binds (ps:=["plan","name"]) fun _ _ _ _ _ _ us hl=>match us,hl with|[_,_],_=>rfl
theorem z55 {k:Nat} {f:Addr} {fd:y0b} (F:Fun K "has_zone" "has_zone" z2h f fd) (m:mg "has_zone"=some (.ref f)) :Cl P w K mg base "has_zone" (k+1) 2 z3q :=
 z24 F zej (zfs F) m fun cdv A outer s H E hr =>
  (z0k (z0m (z5q (z7s (by exact hr.units)) z7u (q_nm 1) (v2r (z23 (own:=["zone"]) (caps:=[]) (z3a (sc:=z02 z2h) ["plan","name"] rfl rfl rfl (by decide +kernel)) (i_A (q_ix (q_nm 0) (v2r z01))) (fun _ _ _ _ _ _=>(g_nm 0 (show y1q (["zone"]:List Str) by decide +kernel))) (fun _ _ _ _ _ _=>z4w) (fun _ _ _ _ _ _=>(q_ix (q_nm 0) (v2r z01))))))))
abbrev z14:Stmt:=top 22
theorem z7x:FnScope ["plan","thing"] ["plan","thing"] (z02 z14):=⟨rfl,rfl,rfl,by decide +kernel,rfl,by decide +kernel,by decide +kernel⟩
theorem z83 {K:y00} {f:Addr} {fd:y0b} (F:Fun K "is_line_event" "is_line_event" z14 f fd):Binds K fd ["plan","thing"] []:=F.binds (ps:=["plan","thing"]) fun _ _ _ _ _ _ us hl=>match us,hl with|[_,_],_=>rfl
theorem z4c {k:Nat} {f:Addr} {fd:y0b} (F:Fun K "is_line_event" "is_line_event" z14 f fd) (m:mg "is_line_event"=some (.ref f)) (z0i:Cl P w K mg base "is_tuple" k 3 z06) (z55:Cl P w K mg base "has_zone" k 2 z3q) {a_LINES:Addr} (m_LINES:mg "LINES"=some (.ref a_LINES)) (t_LINES:∃(o:Obj) (its:Array Value) (n:Nat),K.lookup a_LINES=some o/\o.cls=.type "tuple"/\o.data=.seq its n/\its.size<=y0j/\Vals ((["shut","open","cut"]:List Str).map V.str) its.toList):Cl P w K mg base "is_line_event" (k+1) 2 z2p :=
 z24 F z7x (z83 F) m fun cdv A outer s H E hr =>
  (z0k (z0m (z20 (z05 z0i hr (z00 (z09 1) (z00 z01 (z00 z01 z03)))) (z20 (z5q (z2t (by exact hr.units)) z2u (v2r (q_ix (q_nm 1) (v2r z01))) (v2r z07)) (z20 (z05 z55 hr (z00 (z09 0) (z00 (q_ix (q_nm 1) (v2r z01)) z03))) (z2n (z5q (z7s (by exact hr.units)) z7u (v2r (q_ix (q_nm 1) (v2r z01))) (v2r (q_gT m_LINES t_LINES)))))))))
abbrev z15:Stmt:=top 23
theorem z7y:FnScope ["plan","thing"] ["plan","thing"] (z02 z15):=⟨rfl,rfl,rfl,by decide +kernel,rfl,by decide +kernel,by decide +kernel⟩
theorem z84 {K:y00} {f:Addr} {fd:y0b} (F:Fun K "is_code_event" "is_code_event" z15 f fd):Binds K fd ["plan","thing"] []:=F.binds (ps:=["plan","thing"]) fun _ _ _ _ _ _ us hl=>match us,hl with|[_,_],_=>rfl
theorem z4d {k:Nat} {f:Addr} {fd:y0b} (F:Fun K "is_code_event" "is_code_event" z15 f fd) (m:mg "is_code_event"=some (.ref f)) (z55:Cl P w K mg base "has_zone" k 2 z3q) (z0i:Cl P w K mg base "is_tuple" k 3 z06) (z3d:Cl P w K mg base "is_figures" k 1 z1w) {a_DEEDS_ALONE:Addr} (m_DEEDS_ALONE:mg "DEEDS_ALONE"=some (.ref a_DEEDS_ALONE)) (t_DEEDS_ALONE:∃(o:Obj) (its:Array Value) (n:Nat),K.lookup a_DEEDS_ALONE=some o/\o.cls=.type "tuple"/\o.data=.seq its n/\its.size<=y0j/\Vals ((["set","unset"]:List Str).map V.str) its.toList) {a_DEEDS_OF_ZONES:Addr} (m_DEEDS_OF_ZONES:mg "DEEDS_OF_ZONES"=some (.ref a_DEEDS_OF_ZONES)) (t_DEEDS_OF_ZONES:∃(o:Obj) (its:Array Value) (n:Nat),K.lookup a_DEEDS_OF_ZONES=some o/\o.cls=.type "tuple"/\o.data=.seq its n/\its.size<=y0j/\Vals ((["shunt","free"]:List Str).map V.str) its.toList):Cl P w K mg base "is_code_event" (k+1) 2 z1x :=
 z24 F z7y (z84 F) m fun cdv A outer s H E hr =>
  (z0d (s_if (w_t (w_or (z1y (z10 (v2r (z05 z0i hr (z00 (z09 1) (z00 z01 (z00 z01 z03))))))) (w_or (z25 (z7r (by exact hr.units)) z7t (v2r (q_ix (q_nm 1) (v2r z01))) (v2r z07)) (z5k (z1y (z10 (v2r (z05 z3d hr (z00 (q_ix (q_nm 1) (v2r z01)) z03))))))))) (z0k (z0m q_bl)) z21)
  (z0d (s_if (z25 (z7s (by exact hr.units)) z7u (v2r (q_ix (q_nm 1) (v2r z01))) (v2r (q_gT m_DEEDS_ALONE t_DEEDS_ALONE))) (z0k (z0m (zqt (v2r (q_ix (q_nm 1) (v2r z01)))))) z21)
  (z0k (z0m (z20 (z5q (z7s (by exact hr.units)) z7u (v2r (q_ix (q_nm 1) (v2r z01))) (v2r (q_gT m_DEEDS_OF_ZONES t_DEEDS_OF_ZONES))) (z2n (z05 z55 hr (z00 (z09 0) (z00 (q_ix (q_nm 1) (v2r z01)) z03)))))))))
abbrev z0z:Stmt:=top 24
theorem z7b:FnScope ["thing"] ["thing"] (z02 z0z):=⟨rfl,rfl,rfl,by decide +kernel,rfl,by decide +kernel,by decide +kernel⟩
theorem z7n {K:y00} {f:Addr} {fd:y0b} (F:Fun K "is_ticks_event" "is_ticks_event" z0z f fd):Binds K fd ["thing"] []:=F.binds (ps:=["thing"]) fun _ _ _ _ _ _ us hl=>match us,hl with|[_],_=>rfl
theorem z3g {k:Nat} {f:Addr} {fd:y0b} (F:Fun K "is_ticks_event" "is_ticks_event" z0z f fd) (m:mg "is_ticks_event"=some (.ref f)) (z0i:Cl P w K mg base "is_tuple" k 3 z06) (z54:Cl P w K mg base "is_whole" k 1 z3o):Cl P w K mg base "is_ticks_event" (k+1) 1 z29 :=
 z24 F z7b (z7n F) m fun cdv A outer s H E hr =>
  (z0k (z0m (z20 (z05 z0i hr (z00 (z09 0) (z00 z01 (z00 z01 z03)))) (z20 (z5q (z2t (by exact hr.units)) z2u (v2r (q_ix (q_nm 0) (v2r z01))) (v2r z07)) (z20 (z05 z54 hr (z00 (q_ix (q_nm 0) (v2r z01)) z03)) (z2n (z5q (zt3.or zjr) zro (v2r (q_ix (q_nm 0) (v2r z01))) (v2r z01))))))))
abbrev z30:Stmt:=top 25
theorem zei:FnScope ["plan","thing"] ["plan","thing"] (z02 z30):=⟨rfl,rfl,rfl,by decide +kernel,rfl,by decide +kernel,by decide +kernel⟩
theorem zfr {K:y00} {f:Addr} {fd:y0b} (F:Fun K "is_event" "is_event" z30 f fd):Binds K fd ["plan","thing"] []:=F.binds (ps:=["plan","thing"]) fun _ _ _ _ _ _ us hl=>match us,hl with|[_,_],_=>rfl
theorem z65 {k:Nat} {f:Addr} {fd:y0b} (F:Fun K "is_event" "is_event" z30 f fd) (m:mg "is_event"=some (.ref f)) (z4c:Cl P w K mg base "is_line_event" k 2 z2p) (z4d:Cl P w K mg base "is_code_event" k 2 z1x) (z3g:Cl P w K mg base "is_ticks_event" k 1 z29):Cl P w K mg base "is_event" (k+1) 2 z3p :=
 z24 F zei (zfr F) m fun cdv A outer s H E hr =>
  (z0k (z0m (q_or (z05 z4c hr (z00 (z09 0) (z00 (z09 1) z03))) (q_or (z05 z4d hr (z00 (z09 0) (z00 (z09 1) z03))) (zst (z05 z3g hr (z00 (z09 1) z03)))))))
abbrev z2x:Stmt:=top 33
theorem zef:FnScope ["_law_thing","_law_low","_law_high"] ["_law_thing","_law_low","_law_high"] (z02 z2x):=⟨rfl,rfl,rfl,by decide +kernel,rfl,by decide +kernel,by decide +kernel⟩
theorem zfo {K:y00} {f:Addr} {fd:y0b} (F:Fun K "_law_number" "_law_number" z2x f fd):Binds K fd ["_law_thing","_law_low","_law_high"] []:=F.binds (ps:=["_law_thing","_law_low","_law_high"]) fun _ _ _ _ _ _ us hl=>match us,hl with|[_,_,_],_=>rfl
theorem z2k {k:Nat} {f:Addr} {fd:y0b} (F:Fun K "_law_number" "_law_number" z2x f fd) (m:mg "_law_number"=some (.ref f)) (z_isinstance:mg "isinstance"=none) (z_int:mg "int"=none) (z_bool:mg "bool"=none):Cl P w K mg base "_law_number" (k+1) 3 z18 :=
 z24 F zef (zfo F) m fun cdv A outer s H E hr =>
  (z0k (z0m (z20 (z4s zkd zlc z_isinstance z_int (q_nm 0)) (z20 (zqr (z4s zbb zbi z_isinstance z_bool (q_nm 0))) (z2n (zgc (q_nm 1) (q_nm 0) (q_nm 2)))))))
abbrev z3t:Stmt:=top 34
theorem zhb:FnScope ["_law_thing","_law_many"] ["_law_thing","_law_many"] (z02 z3t):=⟨rfl,rfl,rfl,by decide +kernel,rfl,by decide +kernel,by decide +kernel⟩
theorem zia {K:y00} {f:Addr} {fd:y0b} (F:Fun K "_law_tuple" "_law_tuple" z3t f fd):Binds K fd ["_law_thing","_law_many"] []:=F.binds (ps:=["_law_thing","_law_many"]) fun _ _ _ _ _ _ us hl=>match us,hl with|[_,_],_=>rfl
theorem z53 {k:Nat} {f:Addr} {fd:y0b} (F:Fun K "_law_tuple" "_law_tuple" z3t f fd) (m:mg "_law_tuple"=some (.ref f)) (z_isinstance:mg "isinstance"=none) (z_tuple:mg "tuple"=none) (z_len:mg "len"=none):Cl P w K mg base "_law_tuple" (k+1) 2 z27 :=
 z24 F zhb (zia F) m fun cdv A outer s H E hr =>
  (z0k (z0m (z20 (z4s z4n z4r z_isinstance z_tuple (q_nm 0)) (z2n (z5q (z2t (by exact hr.units)) z2u (v2r (z68 (by exact z_len) (z0n (q_nm 0) z19))) (q_nm 1))))))
abbrev z2w:Stmt:=top 37
theorem zee:FnScope ["_law_thing","_law_some"] ["_law_thing","_law_some"] (z02 z2w):=⟨rfl,rfl,rfl,by decide +kernel,rfl,by decide +kernel,by decide +kernel⟩
theorem zfn {K:y00} {f:Addr} {fd:y0b} (F:Fun K "_law_one_of" "_law_one_of" z2w f fd):Binds K fd ["_law_thing","_law_some"] []:=F.binds (ps:=["_law_thing","_law_some"]) fun _ _ _ _ _ _ us hl=>match us,hl with|[_,_],_=>rfl
theorem z1q {k:Nat} {f:Addr} {fd:y0b} (F:Fun K "_law_one_of" "_law_one_of" z2w f fd) (m:mg "_law_one_of"=some (.ref f)) (z_isinstance:mg "isinstance"=none) (z_str:mg "str"=none):Cl P w K mg base "_law_one_of" (k+1) 2 z0p :=
 z24 F zee (zfn F) m fun cdv A outer s H E hr =>
  (z0k (z0m (z20 (z4s zag zal z_isinstance z_str (q_nm 0)) (z2n (z5q (z7s (by exact hr.units)) z7u (q_nm 0) (q_nm 1))))))
abbrev z4k:Stmt:=top 35
theorem zje:FnScope ["_law_thing"] ["_law_thing"] (z02 z4k):=⟨rfl,rfl,rfl,by decide +kernel,rfl,by decide +kernel,by decide +kernel⟩
theorem zld {K:y00} {f:Addr} {fd:y0b} (F:Fun K "_law_word" "_law_word" z4k f fd):Binds K fd ["_law_thing"] []:=F.binds (ps:=["_law_thing"]) fun _ _ _ _ _ _ us hl=>match us,hl with|[_],_=>rfl
theorem z8d {k:Nat} {f:Addr} {fd:y0b} (F:Fun K "_law_word" "_law_word" z4k f fd) (m:mg "_law_word"=some (.ref f)) (z_isinstance:mg "isinstance"=none) (z_len:mg "len"=none) (z_str:mg "str"=none):Cl P w K mg base "_law_word" (k+1) 1 z3l :=
 z24 F zje (zld F) m fun cdv A outer s H E hr =>
  (z0d (s_if (w_t (w_or (z1y (z10 (v2r (z4s zag zal z_isinstance z_str (q_nm 0))))) (z5k (z1y (za2 (v2r z01) (v2r (z68 (by exact z_len) (z0n (q_nm 0) z19))) (v2r z01)))))) (z0k (z0m q_bl)) z21)
  (z0k (z0m (z5q (z2t (by exact hr.units)) z2u (v2r (z23 (own:=["_law_sign"]) (caps:=[]) (z3a (sc:=z02 z4k) ["_law_thing"] rfl rfl rfl (by decide +kernel)) (i_A (z09 0)) (fun _ _ _ _ _ _=>(g_nm 0 (show y1q (["_law_sign"]:List Str) by decide +kernel))) (fun _ _ _ _ _ _=>(zg2 (z1y (za2 (v2r z07) (q_nm 0) (v2r z07))))) (fun _ _ _ _ _ _=>(z09 0)))) (v2r (z8s z03))))))
abbrev z1t:Stmt:=top 36
theorem zc3:FnScope ["_law_thing"] ["_law_thing"] (z02 z1t):=⟨rfl,rfl,rfl,by decide +kernel,rfl,by decide +kernel,by decide +kernel⟩
theorem zdv {K:y00} {f:Addr} {fd:y0b} (F:Fun K "_law_figures" "_law_figures" z1t f fd):Binds K fd ["_law_thing"] []:=F.binds (ps:=["_law_thing"]) fun _ _ _ _ _ _ us hl=>match us,hl with|[_],_=>rfl
theorem z4b {k:Nat} {f:Addr} {fd:y0b} (F:Fun K "_law_figures" "_law_figures" z1t f fd) (m:mg "_law_figures"=some (.ref f)) (z_isinstance:mg "isinstance"=none) (z_len:mg "len"=none) (z_str:mg "str"=none):Cl P w K mg base "_law_figures" (k+1) 1 z2d :=
 z24 F zc3 (zdv F) m fun cdv A outer s H E hr =>
  (z0k (z0m (z20 (z4s zag zal z_isinstance z_str (q_nm 0)) (z20 (z5q (z2t (by exact hr.units)) z2u (v2r (z68 (by exact z_len) (z0n (q_nm 0) z19))) (v2r z01)) (z2n (z5q (z2t (by exact hr.units)) z2u (v2r (z23 (own:=["_law_sign"]) (caps:=[]) (z3a (sc:=z02 z1t) ["_law_thing"] rfl rfl rfl (by decide +kernel)) (i_A (z09 0)) (fun _ _ _ _ _ _=>(g_nm 0 (show y1q (["_law_sign"]:List Str) by decide +kernel))) (fun _ _ _ _ _ _=>(zg2 (z1y (za2 (v2r z07) (q_nm 0) (v2r z07))))) (fun _ _ _ _ _ _=>(z09 0)))) (v2r (z8s z03))))))))
abbrev z1b:Stmt:=top 39
theorem z1s:FnScope ["_law_thing","_law_zone","_law_code","_law_row_here","_law_leave","_law_come","_law_loud"] ["_law_thing"] (z02 z1b):=⟨rfl,rfl,rfl,by decide +kernel,rfl,by decide +kernel,by decide +kernel⟩
theorem zdu {K:y00} {f:Addr} {fd:y0b} (F:Fun K "_law_is_plan" "_law_is_plan" z1b f fd):Binds K fd ["_law_thing"] []:=F.binds (ps:=["_law_thing"]) fun _ _ _ _ _ _ us hl=>match us,hl with|[_],_=>rfl
theorem z6k {k:Nat} {f:Addr} {fd:y0b} (F:Fun K "_law_is_plan" "_law_is_plan" z1b f fd) (m:mg "_law_is_plan"=some (.ref f)) (z2k:Cl P w K mg base "_law_number" k 3 z18) (z53:Cl P w K mg base "_law_tuple" k 2 z27) (z_isinstance:mg "isinstance"=none) (z_tuple:mg "tuple"=none) (z1q:Cl P w K mg base "_law_one_of" k 2 z0p) (z_list:mg "list"=none) (z_sorted:mg "sorted"=none) (z_len:mg "len"=none) (z8d:Cl P w K mg base "_law_word" k 1 z3l) (z4b:Cl P w K mg base "_law_figures" k 1 z2d) (z_set:mg "set"=none):Cl P w K mg base "_law_is_plan" (k+1) 1 z32 :=
 z24 F z1s (zdu F) m fun cdv A outer s H E hr =>
  (z0d (s_if (w_t (w_or (z1y (z10 (v2r (z05 z53 hr (z00 (z09 0) (z00 z01 z03)))))) (w_or (z1y (z10 (v2r (z4s z4n z4r z_isinstance z_tuple (v2r (q_ix (q_nm 0) (v2r z01))))))) (z5k (z1y (za2 (v2r z01) (v2r (z68 (by exact z_len) (z0n (v2r (q_ix (q_nm 0) (v2r z01))) z19))) (v2r z01))))))) (z0k (z0m q_bl)) z21)
  (z0d (s_if (w_t (w_or (z1y (z10 (v2r (z4s z4n z4r z_isinstance z_tuple (v2r (q_ix (q_nm 0) (v2r z01))))))) (w_or (z1y (za2 (v2r z01) (v2r (z68 (by exact z_len) (z0n (v2r (q_ix (q_nm 0) (v2r z01))) z19))) (v2r z01))) (z5k (z1y (z10 (v2r (z05 z53 hr (z00 (q_ix (q_nm 0) (v2r z01)) (z00 z01 z03)))))))))) (z0k (z0m q_bl)) z21)
  (z0d (zek y23 (i_A (q_ix (q_nm 0) (v2r z01))) (g_nm 1 z1s.nd)
  (z0d (s_if (w_t (w_or (z1y (z10 (v2r (z05 z53 hr (z00 (z09 1) (z00 z01 z03)))))) (z5k (z1y (z10 (v2r (z05 z8d hr (z00 (q_ix (q_nm 1) (v2r z01)) z03)))))))) (z0k (z0m q_bl)) z21)
  (z0k (s_if (z1y (z10 (v2r (z05 z1q hr (z00 (q_ix (q_nm 1) (v2r z01)) (z00 (z1c (z00 z07 (z00 z07 (z00 z07 (z00 z07 z03))))) z03)))))) (z0k (z0m q_bl)) z21))))
  (z0d (zek y23 (i_A (q_ix (q_nm 0) (v2r z01))) (g_nm 2 z1s.nd)
  (z0d (s_if (w_t (w_or (z1y (z10 (v2r (z05 z53 hr (z00 (z09 2) (z00 z01 z03)))))) (w_or (z1y (z10 (v2r (z05 z4b hr (z00 (q_ix (q_nm 2) (v2r z01)) z03))))) (z5k (z1y (z10 (v2r (z05 z8d hr (z00 (q_ix (q_nm 2) (v2r z01)) z03))))))))) (z0k (z0m q_bl)) z21)
  (z0d (s_if (w_t (w_or (z1y (z10 (v2r (z4s z4n z4r z_isinstance z_tuple (v2r (q_ix (q_nm 2) (v2r z01))))))) (z5k (z1y (z10 (v2r (z05 z2k hr (z00 (q_ix (q_nm 2) (v2r z01)) (z00 z01 (z00 z01 z03)))))))))) (z0k (z0m q_bl)) z21)
  (z0d (s_if (z25 (z7r (by exact hr.units)) z7t (v2r (z23 (own:=["_law_one"]) (caps:=[]) (z3a (sc:=z02 z1b) ["_law_thing","_law_zone","_law_code","_law_row_here","_law_leave","_law_come","_law_loud"] rfl rfl rfl (by decide +kernel)) (i_A (q_ix (q_nm 2) (v2r z01))) (fun _ _ _ _ _ _=>(g_nm 0 (show y1q (["_law_one"]:List Str) by decide +kernel))) (fun _ _ _ _ _ _=>(zg2 (z1y (z10 (v2r (z05 (by exact z1q) (by exact hr) (z00 (z09 0) (z00 (z1c (z00 z07 (z00 z07 (z00 z07 z03)))) z03)))))))) (fun _ _ _ _ _ _=>(z09 0)))) (v2r (z8s z03))) (z0k (z0m q_bl)) z21)
  (z0k (s_if (z25 (z7r (by exact hr.units)) z7t (v2r (zo2 z_list (z0n (v2r (q_ix (q_nm 2) (v2r z01))) z19))) (v2r (z7q rfl z_sorted z_set (v2r (q_ix (q_nm 2) (v2r z01)))))) (z0k (z0m q_bl)) z21))))))
  (z0d (zek y23 (i_A (z1c (z00 (z23 (own:=["_law_zone"]) (caps:=[]) (z3a (sc:=z02 z1b) ["_law_thing","_law_zone","_law_code","_law_row_here","_law_leave","_law_come","_law_loud"] rfl rfl rfl (by decide +kernel)) (i_A (q_ix (q_nm 0) (v2r z01))) (fun _ _ _ _ _ _=>(g_nm 0 (show y1q (["_law_zone"]:List Str) by decide +kernel))) (fun _ _ _ _ _ _=>z4w) (fun _ _ _ _ _ _=>(q_ix (q_nm 0) (v2r z01)))) (z00 (z23 (own:=["_law_code"]) (caps:=[]) (z3a (sc:=z02 z1b) ["_law_thing","_law_zone","_law_code","_law_row_here","_law_leave","_law_come","_law_loud"] rfl rfl rfl (by decide +kernel)) (i_A (q_ix (q_nm 0) (v2r z01))) (fun _ _ _ _ _ _=>(g_nm 0 (show y1q (["_law_code"]:List Str) by decide +kernel))) (fun _ _ _ _ _ _=>z4w) (fun _ _ _ _ _ _=>(q_ix (q_nm 0) (v2r z01)))) z03)))) (g_nm 3 z1s.nd)
  (z0k (s_if (z25 (z7r (by exact hr.units)) z7t (q_nm 3) (v2r (z7q rfl z_sorted z_set (q_nm 3)))) (z0k (z0m q_bl)) z21)))
  (z0d (zqi (q_ix (q_nm 0) (v2r z01)) (znd (z74 (g_nm 4 z1s.nd) (z74 (g_nm 5 z1s.nd) (z74 (g_nm 6 z1s.nd) zne)))))
  (z0k (z0m (z20 (z05 z2k hr (z00 (z09 4) (z00 z01 (z00 z01 z03)))) (z20 (z05 z2k hr (z00 (z09 5) (z00 z01 (z00 z01 z03)))) (z2n (z05 z2k hr (z00 (z09 6) (z00 z01 (z00 z01 z03)))))))))))))))
abbrev z1g:Stmt:=top 40
theorem z6v:FnScope ["_law_plan_here","_law_thing","_law_names"] ["_law_plan_here","_law_thing"] (z02 z1g):=⟨rfl,rfl,rfl,by decide +kernel,rfl,by decide +kernel,by decide +kernel⟩
theorem zbk {K:y00} {f:Addr} {fd:y0b} (F:Fun K "_law_is_event" "_law_is_event" z1g f fd):Binds K fd ["_law_plan_here","_law_thing"] []:=F.binds (ps:=["_law_plan_here","_law_thing"]) fun _ _ _ _ _ _ us hl=>match us,hl with|[_,_],_=>rfl
theorem z5v {k:Nat} {f:Addr} {fd:y0b} (F:Fun K "_law_is_event" "_law_is_event" z1g f fd) (m:mg "_law_is_event"=some (.ref f)) (z1q:Cl P w K mg base "_law_one_of" k 2 z0p) (z_isinstance:mg "isinstance"=none) (z_tuple:mg "tuple"=none) (z2k:Cl P w K mg base "_law_number" k 3 z18) (z_len:mg "len"=none) (z4b:Cl P w K mg base "_law_figures" k 1 z2d) (z_str:mg "str"=none):Cl P w K mg base "_law_is_event" (k+1) 2 z2j :=
 z24 F z6v (zbk F) m fun cdv A outer s H E hr =>
  (z0d (zqk 2 z6v.nd (own:=["_law_zone"]) (caps:=[]) (z3a (sc:=z02 z1g) ["_law_plan_here","_law_thing","_law_names"] rfl rfl rfl (by decide +kernel)) (i_A (q_ix (q_nm 0) (v2r z01))) (fun _ _ _ _ _ _=>(g_nm 0 (show y1q (["_law_zone"]:List Str) by decide +kernel))) (fun _ _ _ _ _ _=>z4w) (fun _ _ _ _ _ _=>(q_ix (q_nm 0) (v2r z01))))
  (z0d (s_if (w_t (w_or (z1y (z10 (v2r (z4s z4n z4r z_isinstance z_tuple (q_nm 1))))) (w_or (z25 (z2t (by exact hr.units)) z2u (q_nm 1) (v2r (z1c z03))) (z5k (z1y (z10 (v2r (z4s zag zal z_isinstance z_str (v2r (q_ix (q_nm 1) (v2r z01))))))))))) (z0k (z0m q_bl)) z21)
  (z0d (s_if (z25 (z2t (by exact hr.units)) z2u (v2r (q_ix (q_nm 1) (v2r z01))) (v2r z07)) (z0k (z0m (z20 (z5q (z2t (by exact hr.units)) z2u (v2r (z68 (by exact z_len) (z0n (q_nm 1) z19))) (v2r z01)) (z20 (z05 z1q hr (z00 (q_ix (q_nm 1) (v2r z01)) (z00 (z09 2) z03))) (z2n (z05 z1q hr (z00 (q_ix (q_nm 1) (v2r z01)) (z00 (z1c (z00 z07 (z00 z07 (z00 z07 z03)))) z03)))))))) z21)
  (z0d (s_if (z25 (z2t (by exact hr.units)) z2u (v2r (q_ix (q_nm 1) (v2r z01))) (v2r z07)) (z0k (z0m (z20 (z5q (z2t (by exact hr.units)) z2u (v2r (z68 (by exact z_len) (z0n (q_nm 1) z19))) (v2r z01)) (z2n (z05 z2k hr (z00 (q_ix (q_nm 1) (v2r z01)) (z00 z01 (z00 (zqq (v2r z01) (v2r z01)) z03)))))))) z21)
  (z0d (s_if (w_t (w_or (z25 (z7r (by exact hr.units)) z7t (v2r (q_ix (q_nm 1) (v2r z01))) (v2r z07)) (w_or (z25 (z7r (by exact hr.units)) z7t (v2r (z68 (by exact z_len) (z0n (q_nm 1) z19))) (v2r z01)) (z5k (z1y (z10 (v2r (z05 z4b hr (z00 (q_ix (q_nm 1) (v2r z01)) z03))))))))) (z0k (z0m q_bl)) z21)
  (z0d (s_if (z10 (v2r (z05 z1q hr (z00 (q_ix (q_nm 1) (v2r z01)) (z00 (z1c (z00 z07 (z00 z07 z03))) z03))))) (z0k (z0m (zqt (v2r (q_ix (q_nm 1) (v2r z01)))))) z21)
  (z0k (z0m (z20 (z05 z1q hr (z00 (q_ix (q_nm 1) (v2r z01)) (z00 (z1c (z00 z07 (z00 z07 z03))) z03))) (z2n (z05 z1q hr (z00 (q_ix (q_nm 1) (v2r z01)) (z00 (z09 2) z03)))))))))))))
abbrev zaz:Stmt:=top 42
theorem z5c:FnScope ["_law_script","_law_number_here","_law_plan_here","_law_event_here","_law_thing","_law_one","_law_got","_law_odd"] ["_law_script"] (z02 zaz):=⟨rfl,rfl,rfl,by decide +kernel,rfl,by decide +kernel,by decide +kernel⟩
theorem zt9 {k:Nat} {f:Addr} {fd:y0b} (F:Fun K "law" "law" zaz f fd) (z3c:Cl P w K mg base "_law_mixed" k 2 z0r) (zbh:Cl P w K mg base "_law_plan" k 1 z8b) (z9j:Cl P w K mg base "_law_event" k 2 z5u) (z35:Cl P w K mg base "_law_spoilt" k 3 (z1p 20)) (z9k:Cl P w K mg base "_law_edges" k 1 z4y) (z77:Cl P w K mg base "is_plan" k 1 z50) (z65:Cl P w K mg base "is_event" k 2 z3p) (z_isinstance:mg "isinstance"=none) (z6k:Cl P w K mg base "_law_is_plan" k 1 z32) (z5v:Cl P w K mg base "_law_is_event" k 2 z2j) (z_bool:mg "bool"=none):FnOk P w K mg base CX0 (k+1) f fd ["_law_script"] (spT K 1 zi7) :=
 zoe F z5c fun cdv A outer s H E hr =>
  (z0d (z31 1 z5c.nd (z05 z3c hr (z00 (z09 0) (z00 z01 z03))))
  (z0d (z31 2 z5c.nd (z05 zbh hr (z00 (z05 z3c hr (z00 (z09 0) (z00 z01 z03))) z03)))
  (z0d (z31 3 z5c.nd (z05 z9j hr (z00 (z09 2) (z00 (z05 z3c hr (z00 (z09 0) (z00 z01 z03))) z03))))
  (z0d (s_if (w_t (w_or (z25 zcl zcn (v2r (z05 z77 hr (z00 (z09 2) z03))) (v2r q_bl)) (z5k (z25 zcl zcn (v2r (z05 z65 hr (z00 (z09 2) (z00 (z09 3) z03)))) (v2r q_bl))))) (z0k (z0m q_bl)) z21)
  (z0d (z31 4 z5c.nd (z09 2))
  (z0d (s_if (z25 (zer.or z42) z8z (v2r (z1f (q_nm 1) (v2r z01))) (v2r z01)) (z0d (z31 4 z5c.nd (z05 z35 hr (z00 (z09 4) (z00 (z05 z3c hr (z00 (z09 0) (z00 z01 z03))) (z00 (z1f (v2r (z26 (q_nm 1) (v2r z01))) (v2r z01)) z03)))))
  (z0k (z31 3 z5c.nd (z05 z35 hr (z00 (z09 3) (z00 (z05 z3c hr (z00 (z09 0) (z00 z01 z03))) (z00 (z1f (v2r (z26 (q_nm 1) (v2r z01))) (v2r z01)) z03))))))) z21)
  (z0d (zek y23 (i_A (z4t (v2r (z05 z9k hr (z00 (z05 z3c hr (z00 (z09 0) (z00 z01 z03))) z03))) (v2r (z8s (z00 (z09 4) (z00 (z09 3) z03)))))) (g_nm 5 z5c.nd)
  (z0d (z31 6 z5c.nd (z05 z77 hr (z00 (z09 5) z03)))
  (z0k (s_if (w_t (w_or (z1y (z10 (v2r (z4s zbb zbi z_isinstance z_bool (q_nm 6))))) (z5k (z25 (z7r (by exact hr.units)) z7t (q_nm 6) (v2r (z05 z6k hr (z00 (z09 5) z03))))))) (z0k (z0m q_bl)) z21))))
  (z0d (z31 7 z5c.nd (z8s (z00 (z1c (z00 z07 (z00 (z1f (v2r (z26 (q_nm 1) (v2r z01))) (v2r z01)) z03))) (z00 (z1c (z00 z07 (z00 q_bl z03))) (z00 (z1c (z00 z07 (z00 z07 (z00 z07 z03)))) z03)))))
  (z0d (zek y23 (i_A (z4t (q_nm 7) (v2r (z8s (z00 (z09 3) (z00 (z1c (z00 z07 (z00 z07 (z00 z07 (z00 z07 z03))))) z03)))))) (g_nm 5 z5c.nd)
  (z0d (z31 6 z5c.nd (z05 z65 hr (z00 (z09 2) (z00 (z09 5) z03))))
  (z0k (s_if (w_t (w_or (z1y (z10 (v2r (z4s zbb zbi z_isinstance z_bool (q_nm 6))))) (z5k (z25 (z7r (by exact hr.units)) z7t (q_nm 6) (v2r (z05 z5v hr (z00 (z09 2) (z00 (z09 5) z03)))))))) (z0k (z0m q_bl)) z21))))
  (z0k (z0m q_bl)))))))))))
end
end K01
end
section
namespace Fo
open D PySem
def ls (x:Str):List Nat:=x.cps.toList
def st (l:List Nat):Str:=⟨l.toArray⟩
theorem zba (l:List Nat):ls (st l)=l:=rfl
theorem z45 (x:Str):x.length=(ls x).length:=by simp[Str.length,ls]
theorem zd9 (x y:Str):ls (x++y)=ls x++ls y:=by
 show (x.cps++y.cps).toList=_
 simp[ls]
def jn (c:Nat):List (List Nat)->List Nat
 | []=>[]
 | [p]=>p
 | p::q::r=>p++c::jn c (q::r)
def asc (l:List Nat):Prop:=∀a∈l,a<128
theorem z3r (x:Str):zao x=true <-> asc (ls x):=by
 unfold zao asc ls
 rw[List.all_eq_true]
 constructor
 ·intro h a ha
  exact of_decide_eq_true (h a ha)
 ·intro h a ha
  exact decide_eq_true (h a ha)
theorem z87 {x:Str} (h:asc (ls x)):PyData.strOk x=true:=by
 unfold PyData.strOk
 rw[<- Array.all_toList,List.all_eq_true]
 intro a ha
 have:=h a ha
 exact decide_eq_true (by omega)
theorem zbo {a b:List Nat} (h1:asc a) (h2:asc b):asc (a++b):=fun x hx=>(y11.mp hx).elim (h1 x) (h2 x)
theorem zbn {a b:List Nat} (h:asc b) (hs:∀x∈a,x∈b):asc a:=fun x hx=>h x (hs x hx)
theorem zj2 (m:Nat):ls (strI (m:Int))=(Nat.toDigits 10 m).map Char.toNat:=W.KIN.signs_num m
theorem zm7 (m:Nat):NumText.AllDigits (ls (strI (m:Int))):=by
 rw[zj2]
 intro c hc
 obtain⟨d,hd,rfl⟩:=y0m.mp hc
 have h:=Nat.isDigit_of_mem_toDigits (by decide) (by decide) hd
 simp only[Char.isDigit,y1c,decide_eq_true_eq] at h
 exact⟨h.1,h.2⟩
end Fo
end
section
namespace D
open PySem
theorem z89 (ss:List Str) (h:∀x∈ss,(y1v x).canLay0=true):y1h (ss.map .str)=true/\y1f (ss.map .str)<=1:=by
 induction ss with
 | nil=>simp[y1h,y1f]
 | cons n ns ih =>
  have h1:=h n (by simp)
  have h2:=ih fun x hx=>h x (by simp[hx])
  simp[y1h,y1f,y22,h1,h2]
theorem z9b:∀(ns ms:List Str),PyData.eqvAll (ns.map .str) (ms.map .str)=decide (ns=ms)
 | [],[]=>by simp[PyData.eqvAll]
 | [],_::_=>by simp[PyData.eqvAll]
 | _::_,[]=>by simp[PyData.eqvAll]
 | n::ns,m::ms=>by simp[PyData.eqvAll,y1y,z9b ns ms,Bool.beq_eq_decide_eq]
theorem zgp (ns ms:List Str):y1y (.tuple (ns.map .str)) (.tuple (ms.map .str))=decide (ns=ms):=by rw[y1y,z9b]
theorem zgj (n:Str):∀ns:List Str,hasT (.str n) (ns.map .str)=decide (n∈ns)
 | []=>by simp[hasT]
 | m::ns=>by
  have ih:=zgj n ns
  unfold hasT at ih ⊢
  rw[y0d,List.any_cons,ih]
  simp[y1y,Bool.beq_eq_decide_eq,eq_comm]
theorem zet (n:Int):okT (.int n)=true:=by simp[okT,PyData.canLay0,y22]
theorem zpi {x:Str} (h:(y1v x).canLay0=true):okT (.str x)=true:=by simp[okT,y22,h]
theorem zjw (ss:List Str) (h:∀x∈ss,(y1v x).canLay0=true):okL (ss.map .str)=true:=by
 have:=z89 ss h
 simp[okL,this.1]
 omega
theorem zpk (neg:Bool) (n:Str) (ns:List Str) (h0:(y1v n).canLay0=true) (h:∀x∈ns,(y1v x).canLay0=true):oIn neg (.str n) (.tuple (ns.map .str))=some (.bool (if neg then !decide (n∈ns) else decide (n∈ns))):=by
 simp only[oIn,zpi h0,zjw ns h,zgj,Bool.and_self,if_true]
end D
end
section
namespace Co
open D PySem
structure Cd where
 fig:Str
 who:Str
 rights:List Str
 uses:Int
structure Pl where
 zones:List (Str×Str)
 codes:List Cd
 leave:Int
 come:Int
 loud:Int
structure Cs where
 mode:Str
 left:Int
 came:Option Str
 lines:List (Str×Str)
 shunts:List Str
 siren:Int
 alarms:List Str
 tries:Int
 locked:Int
 used:List (Str×Int)
 past:Int
 told:List (Int×Str×Option Str)
def oS:Option Str->T
 | none=>.none
 | some x=>.str x
def encZ (z:Str×Str):T:=.tuple [.str z.1,.str z.2]
def z4i (c:Cd):T:=.tuple [.str c.fig,.str c.who,.tuple (c.rights.map .str),.int c.uses]
def encP (p:Pl):T:=.tuple [.tuple (p.zones.map encZ),.tuple (p.codes.map z4i),.tuple [.int p.leave,.int p.come,.int p.loud]]
def encW (w:Int×Str×Option Str):T:=.tuple [.int w.1,.str w.2.1,oS w.2.2]
def dS (l:List (Str×Str)):List (D.Key×T):=l.map fun p=>(.inr p.1,.str p.2)
def dI (l:List (Str×Int)):List (D.Key×T):=l.map fun p=>(.inr p.1,.int p.2)
noncomputable def encC (p:Pl) (c:Cs):List Sl:=[.imm (encP p),.imm (.str c.mode),.imm (.int c.left),.imm (oS c.came),.dic (dS c.lines),.own (c.shunts.map .str),.imm (.int c.siren),.own (c.alarms.map .str),.imm (.int c.tries),.imm (.int c.locked),.dic (dI c.used),.imm (.int c.past),.own (c.told.map encW)]
theorem zb8:¬(("off":Str)="leaving"):=by decide +kernel
theorem zmz:¬(("off":Str)="on"):=by decide +kernel
theorem zcz:¬(("off":Str)="coming"):=by decide +kernel
theorem zb9:¬(("leaving":Str)="off"):=by decide +kernel
theorem zd1:¬(("leaving":Str)="on"):=by decide +kernel
theorem z7z:¬(("leaving":Str)="coming"):=by decide +kernel
theorem zmy:¬(("on":Str)="off"):=by decide +kernel
theorem zcy:¬(("on":Str)="leaving"):=by decide +kernel
theorem zf2:¬(("on":Str)="coming"):=by decide +kernel
theorem zd5:¬(("coming":Str)="off"):=by decide +kernel
theorem z80:¬(("coming":Str)="leaving"):=by decide +kernel
theorem zf7:¬(("coming":Str)="on"):=by decide +kernel
theorem zex:¬(("shut":Str)="open"):=by decide +kernel
theorem zhq:¬(("shut":Str)="cut"):=by decide +kernel
theorem zf1:¬(("open":Str)="shut"):=by decide +kernel
theorem zhs:¬(("open":Str)="cut"):=by decide +kernel
theorem zhx:¬(("cut":Str)="shut"):=by decide +kernel
theorem zhy:¬(("cut":Str)="open"):=by decide +kernel
theorem zf6:¬(("day":Str)="inner"):=by decide +kernel
theorem zhw:¬(("day":Str)="once"):=by decide +kernel
theorem zk3:¬(("day":Str)="way"):=by decide +kernel
theorem zf5:¬(("inner":Str)="day"):=by decide +kernel
theorem zd2:¬(("inner":Str)="once"):=by decide +kernel
theorem zf4:¬(("inner":Str)="way"):=by decide +kernel
theorem zhu:¬(("once":Str)="day"):=by decide +kernel
theorem zcx:¬(("once":Str)="inner"):=by decide +kernel
theorem zht:¬(("once":Str)="way"):=by decide +kernel
theorem zk2:¬(("way":Str)="day"):=by decide +kernel
theorem zev:¬(("way":Str)="inner"):=by decide +kernel
theorem zhp:¬(("way":Str)="once"):=by decide +kernel
theorem zez:¬(("set":Str)="unset"):=by decide +kernel
theorem zf0:¬(("set":Str)="shunt"):=by decide +kernel
theorem zhr:¬(("set":Str)="free"):=by decide +kernel
theorem zew:¬(("unset":Str)="set"):=by decide +kernel
theorem zb6:¬(("unset":Str)="shunt"):=by decide +kernel
theorem zct:¬(("unset":Str)="free"):=by decide +kernel
theorem zey:¬(("shunt":Str)="set"):=by decide +kernel
theorem zb7:¬(("shunt":Str)="unset"):=by decide +kernel
theorem zcw:¬(("shunt":Str)="free"):=by decide +kernel
theorem zhv:¬(("free":Str)="set"):=by decide +kernel
theorem zd3:¬(("free":Str)="unset"):=by decide +kernel
theorem zd4:¬(("free":Str)="shunt"):=by decide +kernel
theorem zf3:¬(("line":Str)="code"):=by decide +kernel
theorem zd0:¬(("line":Str)="ticks"):=by decide +kernel
theorem zf8:¬(("code":Str)="line"):=by decide +kernel
theorem zd6:¬(("code":Str)="ticks"):=by decide +kernel
theorem zcu:¬(("ticks":Str)="line"):=by decide +kernel
theorem zcv:¬(("ticks":Str)="code"):=by decide +kernel
def tell (w:Str) (n:Option Str) (c:Cs):Cs:={ c with told:=c.told++[(c.past,w,n)] }
def beLoud (p:Pl) (c:Cs):Cs:={ c with siren:=p.loud }
def alarm (p:Pl) (z:Str) (c:Cs):Cs:=if z∈c.alarms then beLoud p c else tell "alarm" (some z) { beLoud p c with alarms:=c.alarms++[z] }
section
variable (p:Pl) (c:Cs)
theorem zni:(encC p c).length=13:=rfl
theorem e0:(encC p c)[0]?=some (.imm (encP p)):=rfl
theorem e1:(encC p c)[1]?=some (.imm (.str c.mode)):=rfl
theorem e2:(encC p c)[2]?=some (.imm (.int c.left)):=rfl
theorem e3:(encC p c)[3]?=some (.imm (oS c.came)):=rfl
theorem e4:(encC p c)[4]?=some (.dic (dS c.lines)):=rfl
theorem e5:(encC p c)[5]?=some (.own (c.shunts.map .str)):=rfl
theorem e6:(encC p c)[6]?=some (.imm (.int c.siren)):=rfl
theorem e7:(encC p c)[7]?=some (.own (c.alarms.map .str)):=rfl
theorem e8:(encC p c)[8]?=some (.imm (.int c.tries)):=rfl
theorem e9:(encC p c)[9]?=some (.imm (.int c.locked)):=rfl
theorem e10:(encC p c)[10]?=some (.dic (dI c.used)):=rfl
theorem e11:(encC p c)[11]?=some (.imm (.int c.past)):=rfl
theorem e12:(encC p c)[12]?=some (.own (c.told.map encW)):=rfl
theorem s1 (x:Str):(encC p c).set 1 (.imm (.str x))=encC p { c with mode:=x }:=rfl
theorem s2 (x:Int):(encC p c).set 2 (.imm (.int x))=encC p { c with left:=x }:=rfl
theorem s3 (x:Str):(encC p c).set 3 (.imm (.str x))=encC p { c with came:=some x }:=rfl
theorem s3n:(encC p c).set 3 (.imm .none)=encC p { c with came:=none }:=rfl
theorem s4 (l:List (Str×Str)):(encC p c).set 4 (.dic (dS l))=encC p { c with lines:=l }:=rfl
theorem s5 (l:List Str):(encC p c).set 5 (.own (l.map .str))=encC p { c with shunts:=l }:=rfl
theorem s5n:(encC p c).set 5 (.own [])=encC p { c with shunts:=[] }:=rfl
theorem s6 (x:Int):(encC p c).set 6 (.imm (.int x))=encC p { c with siren:=x }:=rfl
theorem s7 (l:List Str):(encC p c).set 7 (.own (l.map .str))=encC p { c with alarms:=l }:=rfl
theorem s7n:(encC p c).set 7 (.own [])=encC p { c with alarms:=[] }:=rfl
theorem s7a (l:List Str) (z:Str):(encC p c).set 7 (.own (l.map .str++[.str z]))=encC p { c with alarms:=l++[z] }:=by simp[encC]
theorem s8 (x:Int):(encC p c).set 8 (.imm (.int x))=encC p { c with tries:=x }:=rfl
theorem s9 (x:Int):(encC p c).set 9 (.imm (.int x))=encC p { c with locked:=x }:=rfl
theorem s10 (l:List (Str×Int)):(encC p c).set 10 (.dic (dI l))=encC p { c with used:=l }:=rfl
theorem s11 (x:Int):(encC p c).set 11 (.imm (.int x))=encC p { c with past:=x }:=rfl
theorem s12a (l:List (Int×Str×Option Str)) (i:Int) (w:Str) (n:Option Str):(encC p c).set 12 (.own (l.map encW++[.tuple [.int i,.str w,oS n]]))=encC p { c with told:=l++[(i,w,n)] }:=by simp[encC,encW]
end
end Co
open D Co
open PySem hiding run fresh code
local macro_rules
 | `(tactic| simp! [sp1,$xs,*] $[$l]?)=>`(tactic| simp[zni,e0,e1,e2,e3,e4,e5,e6,e7,e8,e9,e10,e11,e12,s1,s2,s3,s3n,s4,s5,s5n,s6,s7,s7n,s7a,s8,s9,s10,s11,s12a,runM,runR,z8k,z92,exX,zk5,zk4,rtnM,zjg,rtnX,asgF,zlk,augF,appF,setF,objF,fld,fldV,fldD,fldL,fGet,zjm,zlj,zeu,never,asgX,ifE,z7a,runF,seq,iff,tstB,tstL,andT,orT,notT,cstT,ofT,op1,op2,opN,args,cst,nm,nmV,rtn,skip,asg,asgN,asgT,par,z04,z11,oIsN,z69,oIx,atZ,ixOf,gNm,gTu,gAll,z2s,comp,z22,$xs,*] $[$l]?)
local macro_rules
 | `(tactic| simp! [sp2,$xs,*] $[$l]?)=>`(tactic| simp[runF,seq,iff,tstB,tstL,andT,orT,notT,cstT,ofT,op1,op2,opN,args,cst,nm,nmV,rtn,skip,asg,asgN,asgT,par,z04,z11,oIsN,z69,oIx,atZ,ixOf,gNm,gTu,gAll,z2s,comp,z22,$xs,*] $[$l]?)
 | `(tactic| simp! [sp2] $[$l]?)=>`(tactic| simp[runF,seq,iff,tstB,tstL,andT,orT,notT,cstT,ofT,op1,op2,opN,args,cst,nm,nmV,rtn,skip,asg,asgN,asgT,par,z04,z11,oIsN,z69,oIx,atZ,ixOf,gNm,gTu,gAll,z2s,comp,z22] $[$l]?)
local macro_rules
 | `(tactic| simp! [sp3,$xs,*] $[$l]?)=>`(tactic| simp[oAdd,oSub,oMul,oDiv,oMod,oNeg,oLen,oMin,oMax,z43,z9y,oInt,oLt,oLe,oGt,oGe,big,zni,e0,e1,e2,e3,e4,e5,e6,e7,e8,e9,e10,e11,e12,s1,s2,s3,s3n,s4,s5,s5n,s6,s7,s7n,s7a,s8,s9,s10,s11,s12a,runM,runR,z8k,z92,exX,zk5,zk4,rtnM,zjg,rtnX,asgF,zlk,augF,appF,setF,objF,fld,fldV,fldD,fldL,fGet,zjm,zlj,zeu,never,asgX,ifE,z7a,runF,seq,iff,tstB,tstL,andT,orT,notT,cstT,ofT,op1,op2,opN,args,cst,nm,nmV,rtn,skip,asg,asgN,asgT,par,z04,z11,oIsN,z69,oIx,atZ,ixOf,gNm,gTu,gAll,z2s,comp,z22,$xs,*] $[$l]?)
local macro_rules
 | `(tactic| simp! [sp4,$xs,*] $[$l]?)=>`(tactic| simp[runM,runR,z8k,z92,exX,zk5,zk4,rtnM,zjg,rtnX,asgF,zlk,augF,appF,setF,objF,fld,fldV,fldD,fldL,fGet,zjm,zlj,zeu,never,asgX,ifE,z7a,runF,seq,iff,tstB,tstL,andT,orT,notT,cstT,ofT,op1,op2,opN,args,cst,nm,nmV,rtn,skip,asg,asgN,asgT,par,z04,z11,oIsN,z69,oIx,atZ,ixOf,gNm,gTu,gAll,z2s,comp,z22,$xs,*] $[$l]?)
local macro_rules
 | `(tactic| simp! [sp5,$xs,*] $[$l]?)=>`(tactic| simp[zni,e0,e1,e2,e3,e4,e5,e6,e7,e8,e9,e10,e11,e12,s1,s2,s3,s3n,s4,s5,s5n,s6,s7,s7n,s7a,s8,s9,s10,s11,s12a,runM,runR,z8k,z92,exX,zk5,zk4,rtnM,zjg,rtnX,asgF,zlk,augF,appF,setF,objF,fld,fldV,fldD,fldL,fGet,zjm,zlj,zeu,never,asgX,ifE,z7a,zb8,zmz,zcz,zb9,zd1,z7z,zmy,zcy,zf2,zd5,z80,zf7,zex,zhq,zf1,zhs,zhx,zhy,zf6,zhw,zk3,zf5,zd2,zf4,zhu,zcx,zht,zk2,zev,zhp,zez,zf0,zhr,zew,zb6,zct,zey,zb7,zcw,zhv,zd3,zd4,zf3,zd0,zf8,zd6,zcu,zcv,runF,seq,iff,tstB,tstL,andT,orT,notT,cstT,ofT,op1,op2,opN,args,cst,nm,nmV,rtn,skip,asg,asgN,asgT,par,z04,z11,oIsN,z69,oIx,atZ,ixOf,gNm,gTu,gAll,z2s,comp,z22,$xs,*] $[$l]?)
local macro_rules
 | `(tactic| simp! [sp6,$xs,*] $[$l]?)=>`(tactic| simp[oAdd,oSub,oMul,oDiv,oMod,oNeg,oLen,oMin,oMax,z43,z9y,oInt,oLt,oLe,oGt,oGe,big,runF,seq,iff,tstB,tstL,andT,orT,notT,cstT,ofT,op1,op2,opN,args,cst,nm,nmV,rtn,skip,asg,asgN,asgT,par,z04,z11,oIsN,z69,oIx,atZ,ixOf,gNm,gTu,gAll,z2s,comp,z22,$xs,*] $[$l]?)
local macro_rules
 | `(tactic| simp! [sp7,$xs,*] $[$l]?)=>`(tactic| simp[runM,runR,z8k,z92,exX,zk5,zk4,rtnM,zjg,rtnX,asgF,zlk,augF,appF,setF,objF,fld,fldV,fldD,fldL,fGet,zjm,zlj,zeu,never,asgX,ifE,z7a,$xs,*] $[$l]?)
local macro_rules
 | `(tactic| simp! [sp8,$xs,*] $[$l]?)=>`(tactic| simp[zni,e0,e1,e2,e3,e4,e5,e6,e7,e8,e9,e10,e11,e12,s1,s2,s3,s3n,s4,s5,s5n,s6,s7,s7n,s7a,s8,s9,s10,s11,s12a,$xs,*] $[$l]?)
local macro_rules
 | `(tactic| simp! [sp9,$xs,*] $[$l]?)=>`(tactic| simp[runF,seq,iff,tstB,tstL,andT,orT,notT,cstT,ofT,op1,op2,opN,args,cst,nm,nmV,rtn,skip,asg,asgN,asgT,par,z04,z11,oIsN,z69,gNm,gTu,gAll,z2s,comp,z22,$xs,*] $[$l]?)
 | `(tactic| simp! [sp9] $[$l]?)=>`(tactic| simp[runF,seq,iff,tstB,tstL,andT,orT,notT,cstT,ofT,op1,op2,opN,args,cst,nm,nmV,rtn,skip,asg,asgN,asgT,par,z04,z11,oIsN,z69,gNm,gTu,gAll,z2s,comp,z22] $[$l]?)
namespace Co
open D PySem
def okS (x:Str):Prop:=(y1v x).canLay0=true
theorem zmu (neg:Bool) {n:Str} {ns:List Str} (h0:okS n) (h:∀x∈ns,okS x):oIn neg (.str n) (.tuple (ns.map .str))=some (.bool (if neg then !decide (n∈ns) else decide (n∈ns))):=zpk neg n ns h0 h
def kindOf (p:Pl) (z:Str):Str:=((p.zones.find? fun x=>decide (x.1=z)).map (·.2)).getD ""
def codeOf (p:Pl) (f:Str):Option Cd:=p.codes.find? fun k=>decide (k.fig=f)
def zk7 (c:Cs) (z:Str):Str:=(c.lines.lookup z).getD ""
def setL (l:List (Str×Str)) (z w:Str):List (Str×Str):=l.map fun p=>if p.1=z then (z,w) else p
def zq8 (c:Cs) (f:Str):Int:=(c.used.lookup f).getD 0
def addU (l:List (Str×Int)) (f:Str):List (Str×Int):=l.map fun p=>if p.1=f then (f,p.2+1) else p
def bare (p:Pl) (kinds:List Str) (c:Cs):List Str:=((p.zones.filter fun z=>decide (z.2∈kinds)).map (·.1)).filter fun z=>decide (zk7 c z≠"shut") && !decide (z∈c.shunts)
def zsc (p:Pl) (z k:Str) (c:Cs):Cs:=if k≠"way"\/p.come<=0 then alarm p z c else tell "coming" (some z) { c with mode:="coming",left:=p.come,came:=some z }
noncomputable def zpz (p:Pl) (z w:Str) (c:Cs):Cs :=
 if kindOf p z="day" then alarm p z c
 else if c.mode="off" then (if w="cut" then tell "fault" (some z) c else c)
 else if w="cut"\/kindOf p z="once" then alarm p z c
 else if c.mode="on" then zsc p z (kindOf p z) c else c
noncomputable def line (p:Pl) (z w:Str) (c:Cs):Cs :=
 if w=zk7 c z then c
 else if w="shut" then (if zk7 c z="cut" then tell "mended" (some z) { c with lines:=setL c.lines z w } else { c with lines:=setL c.lines z w })
 else if z∈c.shunts then { c with lines:=setL c.lines z w } else zpz p z w { c with lines:=setL c.lines z w }
def less (a n:Int):Int:=if 0 > a - n then 0 else a - n
def z9f (n:Int) (c:Cs):Cs:={ c with past:=c.past+n,locked:=less c.locked n,siren:=less c.siren n,left:=less c.left n }
def alarms (p:Pl) (zs:List Str) (c:Cs):Cs:=zs.foldl (fun c z=>alarm p z c) c
def zaj (p:Pl) (c:Cs):Cs:=alarms p (bare p ["inner","way"] (tell "on" none { c with mode:="on",left:=0 })) (tell "on" none { c with mode:="on",left:=0 })
def zl1 (p:Pl) (c:Cs):Cs:=alarm p (c.came.getD "") { c with mode:="on",came:=none }
def zpx (p:Pl) (c:Cs):Cs:=if c.mode="leaving" then zaj p c else zl1 p c
noncomputable def ticks (p:Pl) (n:Int) (c:Cs):Cs :=
 if n<1 then c else if (c.mode="leaving"\/c.mode="coming")/\c.left<=n then z9f (n - c.left) (zpx p (z9f c.left c)) else z9f n c
def zq7 (k:Cd) (c:Cs):Bool:=decide (k.uses≠0) && decide (k.uses<=zq8 c k.fig)
def wrong1 (c:Cs):Cs:={ tell "wrong" none c with tries:=c.tries+1 }
def zbw (p:Pl) (c:Cs):Cs:=if 3<=c.tries+1 then tell "attack" none (beLoud p { wrong1 c with tries:=0,locked:=90 }) else wrong1 c
noncomputable def zly (p:Pl) (d:Str) (z:Option Str) (c:Cs):Bool :=
 if d="unset" then false else if c.mode≠"off" then true
 else if d="shunt" then decide (kindOf p (z.getD "")="day") || decide (z.getD ""∈c.shunts)
 else decide (d="free") && !decide (z.getD ""∈c.shunts)
noncomputable def zq3 (p:Pl) (k:Cd) (d:Str) (z:Option Str) (c:Cs):Option (Str×Str) :=
 if (if d="free" then ("shunt":Str) else d)∉k.rights then some ("denied",k.who)
 else if zly p d z c then some ("no",k.who)
 else if d="set"/\bare p ["day","once"] c≠[] then some ("open",(bare p ["day","once"] c).headD "") else none
def ztc (p:Pl) (who:Str) (c:Cs):Cs :=
 let c1:=tell "set" (some who) { c with alarms:=[],siren:=0,mode:="leaving",left:=p.leave }
 if p.leave<=0 then zaj p c1 else c1
def zpy (who:Str) (c:Cs):Cs:=tell "unset" (some who) { c with mode:="off",left:=0,siren:=0,came:=none,shunts:=[] }
noncomputable def zs8 (p:Pl) (who d:Str) (z:Option Str) (c:Cs):Cs :=
 if d="set" then ztc p who c else if d="unset" then zpy who c
 else if d="shunt" then tell "shunt" z { c with shunts:=z5g (c.shunts++[z.getD ""]) }
 else tell "free" z { c with shunts:=c.shunts.erase (z.getD "") }
noncomputable def takeRight (p:Pl) (k:Cd) (d:Str) (z:Option Str) (c:Cs):Cs:=match zq3 p k d z c with
 | none=>zs8 p k.who d z { c with used:=addU c.used k.fig }
 | some (w,n)=>tell w (some n) c
noncomputable def code (p:Pl) (f d:Str) (z:Option Str) (c:Cs):Cs :=
 if 0<c.locked then tell "locked" none c else match codeOf p f with
  | none=>zbw p c
  | some k=>if zq7 k c then zbw p c else takeRight p k d z { c with tries:=0 }
end Co
section
namespace Co
open D PySem
theorem zbt:(2<=big)=True:=by simp[big]
inductive Et where
 | line (z w:Str)
 | code (f d:Str) (z:Option Str)
 | ticks (n:Int)
def encE:Et->T
 | .line z w=>.tuple [.str "line",.str z,.str w]
 | .code f d z=>.tuple [.str "code",.str f,.str d,oS z]
 | .ticks n=>.tuple [.str "ticks",.int n]
def zs3 (p:Pl) (c:Cs):Et->Cs
 | .line z w=>line p z w c
 | .code f d z=>code p f d z c
 | .ticks n=>ticks p n c
end Co
end
section
namespace Co
open D PySem
local instance:Tbl:=⟨[],fun _=>[],fun _=>none⟩
def run (p:Pl) (c:Cs) (es:List Et):Cs:=es.foldl (zs3 p) c
def fresh (c:Cs):Cs:={ c with past:=0,told:=[] }
end Co
end
section
namespace Co
open D PySem
local instance:Tbl:=⟨[],fun _=>[],fun _=>none⟩
theorem zfk (ns:List Int) (k:Nat):z0s [z0b ns,.int k]=some (.int (ns.getD k 0)):=by
 by_cases h:k<ns.length
 ·have h':(k:Int)<(ns.length:Int):=by omega
  simp! [sp6,z0s,z2f,z0b,h,h',List.getD]
 ·have h':¬(k:Int)<(ns.length:Int):=by omega
  simp! [sp6,z0s,z2f,z0b,h,h',List.getD]
theorem mul_ok {i j:Int} (h:-(2 ^ 64)<j/\j<2 ^ 64):oMul (.int i) (.int j)=some (.int (i*j)):=by
 unfold oMul zhz
 simp only[decide_eq_true h.1,decide_eq_true h.2,Bool.and_self,Bool.or_true,if_true]
theorem z6e {i j:Int} (h:0<j):oMod (.int i) (.int j)=some (.int (i % j)):=if_pos h
theorem zog {i j:Int} (h:0<j/\j<1073741824):oDiv (.int i) (.int j)=some (.int (i / j)):=if_pos h
theorem z4h {i j:Int}:oAdd (.int i) (.int j)=some (.int (i+j)):=rfl
theorem seq_nx {a b:Fs} {ε ε':Ev} (h:a ε=some (.nx ε')):seq a b ε=b ε':=by
 unfold seq
 rw[h]
 rfl
theorem mixed_eq (ns:List Int) (k:Nat):∃m:Int,0<=m/\z0r [z0b ns,.int k]=some (.int m):=by
 have hc:=zfk ns k
 have hd:0<=(ns.getD k 0+7919*(k:Int)+1)*48271 % 2147483647/\(ns.getD k 0+7919*(k:Int)+1)*48271 % 2147483647<2147483647:=⟨y2c _ (by decide),y2d _ (by decide)⟩
 generalize hx:(ns.getD k 0+7919*(k:Int)+1)*48271 % 2147483647=d at hd
 refine⟨(d*d+7*d+k) % 2147483629,y2c _ (by decide),?_⟩
 have e0:z0r [z0b ns,.int k]=(z4e [some (.imm (z0b ns)),some (.imm (.int k)),none]).bind fun o=>match o with|.rt t=>some t|.nx _=>some .none|_=>none:=rfl
 have m1:oMul (.int 7919) (.int k)=some (.int (7919*k)):=by
  unfold oMul zhz
  simp
 have n0:nmV 0 [some (.imm (z0b ns)),some (.imm (.int k)),none]=some (z0b ns):=rfl
 have n1:nmV 1 [some (.imm (z0b ns)),some (.imm (.int k)),none]=some (.int k):=rfl
 have n1':nm 1 [some (.imm (z0b ns)),some (.imm (.int k)),none]=some (.int k):=rfl
 have s1:asg 2 (op2 oMod (op2 oMul (op2 oAdd (op2 oAdd (opN z0s [(nmV 0),(nmV 1)]) (op2 oMul (cst (.int 7919)) (nm 1))) (cst (.int 1))) (cst (.int 48271))) (cst (.int 2147483647))) [some (.imm (z0b ns)),some (.imm (.int k)),none]=some (.nx [some (.imm (z0b ns)),some (.imm (.int k)),some (.imm (.int d))]):=by
  simp only[asg,op2,opN,args,n0,n1,n1',y0p,y1r,hc,cst,m1,z4h,mul_ok (i:=ns.getD k 0+7919*(k:Int)+1) (j:=48271) (by decide),z6e (j:=2147483647) (by decide),hx]
  rfl
 have m2:oMul (.int d) (.int d)=some (.int (d*d)):=mul_ok (by omega)
 have m3:oMul (.int 7) (.int d)=some (.int (7*d)):=mul_ok (by omega)
 rw[e0]
 unfold z4e
 rw[seq_nx s1]
 have q2:nm 2 [some (.imm (z0b ns)),some (.imm (.int k)),some (.imm (.int d))]=some (.int d):=rfl
 have q1:nm 1 [some (.imm (z0b ns)),some (.imm (.int k)),some (.imm (.int d))]=some (.int k):=rfl
 simp only[rtn,op2,q2,q1,y0p,y1r,cst,m2,m3,z4h,z6e (j:=2147483629) (by decide)]
theorem drawn_eq (n k:Int) (hk:-(2 ^ 64)<k/\k<2 ^ 64):∃m:Int,0<=m/\z0x [.int n,.int k]=some (.int m):=by
 have hd:0<=(n+104729*k+17)*69621 % 2147483647/\(n+104729*k+17)*69621 % 2147483647<2147483647:=⟨y2c _ (by decide),y2d _ (by decide)⟩
 generalize hx:(n+104729*k+17)*69621 % 2147483647=d at hd
 refine⟨(d*d+3*d+k) % 2147483629,y2c _ (by decide),?_⟩
 have e0:z0x [.int n,.int k]=(z4f [some (.imm (.int n)),some (.imm (.int k)),none]).bind fun o=>match o with|.rt t=>some t|.nx _=>some .none|_=>none:=rfl
 have m1:oMul (.int 104729) (.int k)=some (.int (104729*k)):=mul_ok hk
 have n0:nm 0 [some (.imm (.int n)),some (.imm (.int k)),none]=some (.int n):=rfl
 have n1:nm 1 [some (.imm (.int n)),some (.imm (.int k)),none]=some (.int k):=rfl
 have s1:asg 2 (op2 oMod (op2 oMul (op2 oAdd (op2 oAdd (nm 0) (op2 oMul (cst (.int 104729)) (nm 1))) (cst (.int 17))) (cst (.int 69621))) (cst (.int 2147483647))) [some (.imm (.int n)),some (.imm (.int k)),none]=some (.nx [some (.imm (.int n)),some (.imm (.int k)),some (.imm (.int d))]):=by
  simp only[asg,op2,n0,n1,y0p,y1r,cst,m1,z4h,mul_ok (i:=n+104729*k+17) (j:=69621) (by decide),z6e (j:=2147483647) (by decide),hx]
  rfl
 have m2:oMul (.int d) (.int d)=some (.int (d*d)):=mul_ok (by omega)
 have m3:oMul (.int 3) (.int d)=some (.int (3*d)):=mul_ok (by omega)
 rw[e0]
 unfold z4f
 rw[seq_nx s1]
 have q2:nm 2 [some (.imm (.int n)),some (.imm (.int k)),some (.imm (.int d))]=some (.int d):=rfl
 have q1:nm 1 [some (.imm (.int n)),some (.imm (.int k)),some (.imm (.int d))]=some (.int k):=rfl
 simp only[rtn,op2,q2,q1,y0p,y1r,cst,m2,m3,z4h,z6e (j:=2147483629) (by decide)]
theorem oEq_int (a b:Int):oEq (.int a) (.int b)=some (.bool (decide (a=b))):=by
 unfold oEq
 rw[zet,zet]
 by_cases e:a=b <;> simp[y1y,e]
theorem divQ (m:Int) (j:Int) (h:0<j/\j<1073741824:=by decide):∃q,q=m / j/\oDiv (.int m) (.int j)=some (.int q):=⟨_,rfl,zog h⟩
theorem modQ (m:Int) (j:Int) (h:0<j:=by decide):∃q,q=m % j/\0<=q/\q<j/\oMod (.int m) (.int j)=some (.int q):=⟨_,rfl,y2c _ (by omega),y2d _ h,z6e h⟩
theorem ixT {ts:List T} {j:Int} (h0:0<=j) (h1:j<ts.length):∃t∈ts,oIx (.tuple ts) (.int j)=some t:=by
 have hj:j.toNat<ts.length:=by omega
 refine⟨ts[j.toNat],List.getElem_mem hj,?_⟩
 simp only[oIx,atZ,ixOf,if_pos h0,if_pos h1,y0p]
 exact y0v hj
theorem ixS (ss:List Str) {j:Int} (h0:0<=j) (h1:j<ss.length):∃s∈ss,oIx (.tuple (ss.map .str)) (.int j)=some (.str s):=by
 obtain⟨t,ht,e⟩:=ixT (ts:=ss.map .str) h0 (by simpa using h1)
 obtain⟨s,hs,rfl⟩:=y0m.mp ht
 exact⟨s,hs,e⟩
theorem ixI (ss:List Int) {j:Int} (h0:0<=j) (h1:j<ss.length):∃s∈ss,oIx (.tuple (ss.map .int)) (.int j)=some (.int s):=by
 obtain⟨t,ht,e⟩:=ixT (ts:=ss.map .int) h0 (by simpa using h1)
 obtain⟨s,hs,rfl⟩:=y0m.mp ht
 exact⟨s,hs,e⟩
theorem zfi:(5<=big)=True:=by simp[big]
theorem z7h:(4<=big)=True:=by simp[big]
theorem z3k:(3<=big)=True:=by simp[big]
theorem zjb:(6<=big)=True:=by simp[big]
theorem zng:(8<=big)=True:=by simp[big]
theorem one_le:(1<=big)=True:=by simp[big]
noncomputable def bZ:Fs:=(seq (asg 4 (op2 oDiv (opN z0x [(nmV 0),(nmV 2)]) (cst (.int 4))))
  (iff (orT (tstB (op2 oLt (op2 oMod (nm 4) (cst (.int 8))) (op2 oAdd (cst (.int 3)) (op2 oMod (nm 0) (cst (.int 5)))))) (tstB (op2 oEq (nm 2) (op2 oMod (op2 oDiv (nm 0) (cst (.int 8))) (cst (.int 8)))))) (asg 1 (op2 oAdd (nm 1) (z04 [(z04 [(nmV 3),(op2 oIx (z04 [(cst (.str "day")),(cst (.str "inner")),(cst (.str "once")),(cst (.str "way")),(cst (.str "way"))]) (op2 oMod (op2 oDiv (nm 4) (cst (.int 8))) (cst (.int 5))))])]))) skip))
def encK (x:Int×Str):T:=.tuple [.int x.1,.str x.2]
def kinds:List Str:=["day","inner","once","way","way"]
theorem z8g (n:Int):∀(l:List (Int×Str)) (acc:List (Str×Str)) (s2 s3 s4:Option Sl),(∀x∈l,0<=x.1/\x.1<100)->acc.length+l.length<=20->∃zs s2' s3' s4',(zs.map (·.1)).Sublist (l.map (·.2))/\(∀z∈zs,z.2∈kinds)/\((∃x∈l,x.1=n / 8 % 8)->zs≠[]) /\
  forL (gTu [(gNm 2),(gNm 3)]) bZ (l.map encK) [some (.imm (.int n)),some (.imm (.tuple (acc.map encZ))),s2,s3,s4,none,none,none,none,none]=some (.nx [some (.imm (.int n)),some (.imm (.tuple ((acc++zs).map encZ))),s2',s3',s4',none,none,none,none,none])
 | [],acc,s2,s3,s4,_,_=>⟨[],s2,s3,s4,.refl _,by simp,by simp,by simp[forL]⟩
 | x::l,acc,s2,s3,s4,hx,hl=>by
  obtain⟨m,hm,e1_⟩:=drawn_eq n x.1 (by have:=hx x y0e;omega)
  obtain⟨q,hq,e2_⟩:=divQ m 4
  obtain⟨r,_,_,_,e3_⟩:=modQ q 8
  obtain⟨r',_,_,_,e4_⟩:=modQ n 5
  obtain⟨q1,hq1,e5_⟩:=divQ n 8
  obtain⟨r1,hr1,_,_,e6_⟩:=modQ q1 8
  obtain⟨q2,hq2,e7_⟩:=divQ q 8
  obtain⟨r2,_,h0,h1,e8_⟩:=modQ q2 5
  obtain⟨s,hs,e9_⟩:=ixS kinds h0 h1
  simp only[kinds,y0d,y1a] at e9_
  simp only[y0w] at hl
  have b1:acc.length+1<=big:=by unfold big;omega
  have hx':∀y∈l,0<=y.1/\y.1<100:=fun y hy=>hx y (y05 _ hy)
  by_cases hc:r<3+r'\/x.1=r1
  ·obtain⟨zs,s2',s3',s4',i1,i2,i3,i4⟩:=z8g n l (acc++[(x.2,s)]) (some (.imm (.int x.1))) (some (.imm (.str x.2))) (some (.imm (.int q))) hx' (by simp;omega)
   refine⟨(x.2,s)::zs,s2',s3',s4',by simpa using i1,fun z hz=>?_,fun _=>by simp,?_⟩
   ·rcases y09.mp hz with rfl|hz
    ·exact hs
    ·exact i2 z hz
   ·rw[y0d,forL]
    have:bZ [some (.imm (.int n)),some (.imm (.tuple (acc.map encZ))),some (.imm (.int x.1)),some (.imm (.str x.2)),s4,none,none,none,none,none]=some (.nx [some (.imm (.int n)),some (.imm (.tuple ((acc++[(x.2,s)]).map encZ))),some (.imm (.int x.1)),some (.imm (.str x.2)),some (.imm (.int q)),none,none,none,none,none]):=by
     by_cases hc':r<3+r'
     ·simp! [sp9,bZ,e1_,e2_,e3_,e4_,e5_,e6_,e7_,e8_,e9_,z4h,oLt,hc',oAdd,b1,zfi,zbt,one_le,encZ]
     ·have e10_:oEq (.int x.1) (.int r1)=some (.bool true):=by rw[oEq_int,decide_eq_true (hc.resolve_left hc')]
      simp! [sp9,bZ,e1_,e2_,e3_,e4_,e5_,e6_,e7_,e8_,e9_,z4h,oLt,hc',e10_,oAdd,b1,zfi,zbt,one_le,encZ]
    simp only[encK,gTu,gAll,gNm,y0p,y1l,y1j,this]
    simpa using i4
  ·obtain⟨zs,s2',s3',s4',i1,i2,i3,i4⟩:=z8g n l acc (some (.imm (.int x.1))) (some (.imm (.str x.2))) (some (.imm (.int q))) hx' (by omega)
   refine⟨zs,s2',s3',s4',i1.cons _,i2,fun⟨y,hy,e⟩=>i3 ?_,?_⟩
   ·rcases y09.mp hy with rfl|hy
    ·exact absurd (.inr (by rw[e,hr1,hq1])) hc
    ·exact⟨y,hy,e⟩
   ·rw[y0d,forL]
    have:bZ [some (.imm (.int n)),some (.imm (.tuple (acc.map encZ))),some (.imm (.int x.1)),some (.imm (.str x.2)),s4,none,none,none,none,none]=some (.nx [some (.imm (.int n)),some (.imm (.tuple (acc.map encZ))),some (.imm (.int x.1)),some (.imm (.str x.2)),some (.imm (.int q)),none,none,none,none,none]):=by
     have h1':¬r<3+r':=fun z=>hc (.inl z)
     have h2':¬x.1=r1:=fun z=>hc (.inr z)
     simp! [sp9,bZ,e1_,e2_,e3_,e4_,e5_,e6_,e7_,e8_,e9_,z4h,oLt,h1',h2',oEq_int]
    simp only[encK,gTu,gAll,gNm,y0p,y1l,y1j,this]
    exact i4
theorem rng3:rng 0 3=[.int 0,.int 1,.int 2]:=by simp[rng,List.range_succ]
def cR:Ft:=tstB (op2 oGt (op2 oMod (op2 oDiv (nm 1) (op2 oIx (z04 [(cst (.int 4)),(cst (.int 16)),(cst (.int 64))]) (nm 0))) (cst (.int 4))) (cst (.int 0)))
def eR:Fe:=op2 oIx (z04 [(cst (.str "set")),(cst (.str "shunt")),(cst (.str "unset"))]) (nm 0)
def z0q:List Str:=["set","shunt","unset"]
theorem zjj (q:Int) (ε:Ev) (h:(ε[4]?).join=some (.imm (.int q))):∃rs:List Str,rs.Sublist z0q/\comp 1 [4] (z4o (cst (.int 3))) (gNm 0) cR eR ε=some (.list (rs.map .str)):=by
 have key:∀j j':Int,oIx (.tuple [.int 4,.int 16,.int 64]) (.int j)=some (.int j')->0<j'->j'<1073741824->∃b,cR [some (.imm (.int j)),some (.imm (.int q))]=some b:=by
  intro j j' h1 h2 h3
  obtain⟨q1,_,e1_⟩:=divQ q j' ⟨h2,h3⟩
  obtain⟨r1,_,_,_,e2_⟩:=modQ q1 4
  exact⟨decide (0<r1),by simp! [sp9,cR,h1,e1_,e2_,oGt,z3k]⟩
 obtain⟨b0,k0⟩:=key 0 4 (by simp[oIx,atZ,ixOf]) (by decide) (by decide)
 obtain⟨b1,k1⟩:=key 1 16 (by simp[oIx,atZ,ixOf]) (by decide) (by decide)
 obtain⟨b2,k2⟩:=key 2 64 (by simp[oIx,atZ,ixOf]) (by decide) (by decide)
 have r0:eR [some (.imm (.int 0)),some (.imm (.int q))]=some (.str "set"):=by simp! [sp2,eR,z3k]
 have r1:eR [some (.imm (.int 1)),some (.imm (.int q))]=some (.str "shunt"):=by simp! [sp2,eR,z3k]
 have r2:eR [some (.imm (.int 2)),some (.imm (.int q))]=some (.str "unset"):=by simp! [sp2,eR,z3k]
 have c0:comp 1 [4] (z4o (cst (.int 3))) (gNm 0) cR eR ε=(z34 (gNm 0) cR eR [.int 0,.int 1,.int 2] [none,some (.imm (.int q))]).map .list:=by
  have s3:z8o 3=true:=by decide
  simp[comp,z4o,cst,s3,rng3,z22,h,z3k]
 rw[c0]
 cases b0 <;> cases b1 <;> cases b2
 ·exact⟨[],by simp,by simp[z34,gNm,k0,k1,k2]⟩
 ·exact⟨["unset"],by decide,by simp[z34,gNm,k0,k1,k2,r0,r1,r2]⟩
 ·exact⟨["shunt"],by decide,by simp[z34,gNm,k0,k1,k2,r0,r1,r2]⟩
 ·exact⟨["shunt","unset"],by decide,by simp[z34,gNm,k0,k1,k2,r0,r1,r2]⟩
 ·exact⟨["set"],by decide,by simp[z34,gNm,k0,k1,k2,r0,r1,r2]⟩
 ·exact⟨["set","unset"],by decide,by simp[z34,gNm,k0,k1,k2,r0,r1,r2]⟩
 ·exact⟨["set","shunt"],by decide,by simp[z34,gNm,k0,k1,k2,r0,r1,r2]⟩
 ·exact⟨["set","shunt","unset"],by decide,by simp[z34,gNm,k0,k1,k2,r0,r1,r2]⟩
noncomputable def bC:Fs:=(seq (asg 4 (op2 oDiv (opN z0x [(nmV 0),(op2 oAdd (cst (.int 10)) (nm 2))]) (cst (.int 4))))
  (iff (orT (tstB (op2 oGt (op2 oMod (nm 4) (cst (.int 3))) (cst (.int 0)))) (tstB (op2 oEq (nm 2) (cst (.int 1))))) (seq (asg 7 (opN z43 [(comp 1 [4] (z4o (cst (.int 3))) (gNm 0) cR eR)]))
  (seq (asg 8 (op2 oIx (z04 [(cst (.str "ann")),(cst (.str "bo")),(cst (.str "cy"))]) (op2 oMod (op2 oDiv (nm 4) (cst (.int 256))) (cst (.int 3)))))
  (asg 5 (op2 oAdd (nm 5) (z04 [(z04 [(nmV 6),(nmV 8),(nmV 7),(op2 oIx (z04 [(cst (.int 0)),(cst (.int 0)),(cst (.int 1)),(cst (.int 2)),(cst (.int 9))]) (op2 oMod (op2 oDiv (nm 4) (cst (.int 1024))) (cst (.int 5))))])]))))) skip))
def whos:List Str:=["ann","bo","cy"]
theorem z7k (n:Int) (s1 s3:Option Sl):∀(l:List (Int×Str)) (acc:List Cd) (s2 s4 s6 s7 s8:Option Sl),(∀x∈l,0<=x.1/\x.1<100)->acc.length+l.length<=20->∃ks s2' s4' s6' s7' s8',(ks.map (·.fig)).Sublist (l.map (·.2))/\(∀k∈ks,k.who∈whos/\k.rights.Sublist z0q/\k.uses∈([0,0,1,2,9]:List Int))/\((∃x∈l,x.1=1)->ks≠[]) /\
  forL (gTu [(gNm 2),(gNm 6)]) bC (l.map encK) [some (.imm (.int n)),s1,s2,s3,s4,some (.imm (.tuple (acc.map z4i))),s6,s7,s8,none]=some (.nx [some (.imm (.int n)),s1,s2',s3,s4',some (.imm (.tuple ((acc++ks).map z4i))),s6',s7',s8',none])
 | [],acc,s2,s4,s6,s7,s8,_,_=>⟨[],s2,s4,s6,s7,s8,.refl _,by simp,by simp,by simp[forL]⟩
 | x::l,acc,s2,s4,s6,s7,s8,hx,hl=>by
  obtain⟨m,hm,e1_⟩:=drawn_eq n (10+x.1) (by have:=hx x y0e;omega)
  obtain⟨q,hq,e2_⟩:=divQ m 4
  obtain⟨r,_,_,_,e3_⟩:=modQ q 3
  obtain⟨q1,hq1,e5_⟩:=divQ q 256
  obtain⟨r1,hr1,h0,h1,e6_⟩:=modQ q1 3
  obtain⟨q2,hq2,e7_⟩:=divQ q 1024
  obtain⟨r2,_,h2,h3,e8_⟩:=modQ q2 5
  obtain⟨s,hs,e9_⟩:=ixS whos h0 h1
  obtain⟨u,hu,e10_⟩:=ixI [0,0,1,2,9] h2 h3
  simp only[whos,y0d,y1a] at e9_ e10_
  simp only[y0w] at hl
  have b1:acc.length+1<=big:=by unfold big;omega
  have hx':∀y∈l,0<=y.1/\y.1<100:=fun y hy=>hx y (y05 _ hy)
  obtain⟨rs,hrs,e11_⟩:=zjj q [some (.imm (.int n)),s1,some (.imm (.int x.1)),s3,some (.imm (.int q)),some (.imm (.tuple (acc.map z4i))),some (.imm (.str x.2)),s7,s8,none] rfl
  by_cases hc:0<r\/x.1=1
  ·obtain⟨ks,s2',s4',s6',s7',s8',i1,i2,i3,i4⟩:=z7k n s1 s3 l (acc++[(⟨x.2,s,rs,u⟩:Cd)]) (some (.imm (.int x.1))) (some (.imm (.int q))) (some (.imm (.str x.2))) (some (.imm (.tuple (rs.map .str)))) (some (.imm (.str s))) hx' (by simp;omega)
   refine⟨⟨x.2,s,rs,u⟩::ks,s2',s4',s6',s7',s8',by simpa using i1,fun z hz=>?_,fun _=>by simp,?_⟩
   ·rcases y09.mp hz with rfl|hz
    ·exact⟨hs,hrs,hu⟩
    ·exact i2 z hz
   ·rw[y0d,forL]
    have:bC [some (.imm (.int n)),s1,some (.imm (.int x.1)),s3,s4,some (.imm (.tuple (acc.map z4i))),some (.imm (.str x.2)),s7,s8,none]=some (.nx [some (.imm (.int n)),s1,some (.imm (.int x.1)),s3,some (.imm (.int q)),some (.imm (.tuple ((acc++[(⟨x.2,s,rs,u⟩:Cd)]).map z4i))),some (.imm (.str x.2)),some (.imm (.tuple (rs.map .str))),some (.imm (.str s)),none]):=by
     have s1':asg 4 (op2 oDiv (opN z0x [(nmV 0),(op2 oAdd (cst (.int 10)) (nm 2))]) (cst (.int 4))) [some (.imm (.int n)),s1,some (.imm (.int x.1)),s3,s4,some (.imm (.tuple (acc.map z4i))),some (.imm (.str x.2)),s7,s8,none]=some (.nx [some (.imm (.int n)),s1,some (.imm (.int x.1)),s3,some (.imm (.int q)),some (.imm (.tuple (acc.map z4i))),some (.imm (.str x.2)),s7,s8,none]):=by
      simp! [sp9,z4h,e1_,e2_]
     have s2':asg 7 (opN z43 [(comp 1 [4] (z4o (cst (.int 3))) (gNm 0) cR eR)]) [some (.imm (.int n)),s1,some (.imm (.int x.1)),s3,some (.imm (.int q)),some (.imm (.tuple (acc.map z4i))),some (.imm (.str x.2)),s7,s8,none]=some (.nx [some (.imm (.int n)),s1,some (.imm (.int x.1)),s3,some (.imm (.int q)),some (.imm (.tuple (acc.map z4i))),some (.imm (.str x.2)),some (.imm (.tuple (rs.map .str))),s8,none]):=by
      simp only[asg,opN,args,e11_,y0p,y1r,z43]
      rfl
     unfold bC
     rw[seq_nx s1']
     have ct:orT (tstB (op2 oGt (op2 oMod (nm 4) (cst (.int 3))) (cst (.int 0)))) (tstB (op2 oEq (nm 2) (cst (.int 1)))) [some (.imm (.int n)),s1,some (.imm (.int x.1)),s3,some (.imm (.int q)),some (.imm (.tuple (acc.map z4i))),some (.imm (.str x.2)),s7,s8,none]=some true:=by
      by_cases hc':0<r
      ·simp! [sp9,e3_,oGt,hc']
      ·have e12_:oEq (.int x.1) (.int 1)=some (.bool true):=by rw[oEq_int,decide_eq_true (hc.resolve_left hc')]
       simp! [sp9,e3_,oGt,hc',e12_]
     simp only[iff,ct,y0p,if_true]
     rw[seq_nx s2']
     simp! [sp9,e3_,e5_,e6_,e7_,e8_,e9_,e10_,oAdd,b1,zfi,z7h,z3k,one_le,z4i]
    simp only[encK,gTu,gAll,gNm,y0p,y1l,y1j,this]
    simpa using i4
  ·obtain⟨ks,s2',s4',s6',s7',s8',i1,i2,i3,i4⟩:=z7k n s1 s3 l acc (some (.imm (.int x.1))) (some (.imm (.int q))) (some (.imm (.str x.2))) s7 s8 hx' (by omega)
   refine⟨ks,s2',s4',s6',s7',s8',i1.cons _,i2,fun⟨y,hy,e⟩=>i3 ?_,?_⟩
   ·rcases y09.mp hy with rfl|hy
    ·exact absurd (.inr e) hc
    ·exact⟨y,hy,e⟩
   ·rw[y0d,forL]
    have:bC [some (.imm (.int n)),s1,some (.imm (.int x.1)),s3,s4,some (.imm (.tuple (acc.map z4i))),some (.imm (.str x.2)),s7,s8,none]=some (.nx [some (.imm (.int n)),s1,some (.imm (.int x.1)),s3,some (.imm (.int q)),some (.imm (.tuple (acc.map z4i))),some (.imm (.str x.2)),s7,s8,none]):=by
     have h1':¬0<r:=fun z=>hc (.inl z)
     have e12_:oEq (.int x.1) (.int 1)=some (.bool false):=by rw[oEq_int,decide_eq_false fun z=>hc (.inr z)]
     simp! [sp9,bC,e1_,e2_,e3_,z4h,oGt,h1',e12_]
    simp only[encK,gTu,gAll,gNm,y0p,y1l,y1j,this]
    exact i4
def zN:List (Int×Str):=[(0,"a"),(1,"b"),(2,"back"),(3,"d"),(4,"hall"),(5,"r"),(6,"win"),(7,"z")]
def cN:List (Int×Str):=[(0,"0000"),(1,"1234"),(2,"4321"),(3,"7777"),(4,"9990"),(5,"9999")]
structure DP (p:Pl):Prop where
 zs:(p.zones.map (·.1)).Sublist (zN.map (·.2))
 zk:∀z∈p.zones,z.2∈kinds
 z0:p.zones≠[]
 cs:(p.codes.map (·.fig)).Sublist (cN.map (·.2))
 ck:∀k∈p.codes,k.who∈whos/\k.rights.Sublist z0q/\k.uses∈([0,0,1,2,9]:List Int)
 c0:p.codes≠[]
 tl:p.leave∈([0,5,30,60]:List Int)
 tc:p.come∈([0,4,20,60]:List Int)
 to:p.loud∈([1,9,120,300]:List Int)
theorem plan_eq (n:Int):∃p,DP p/\z8b [.int n]=some (encP p):=by
 obtain⟨zs,s2,s3,s4,i1,i2,i3,i4⟩:=z8g n zN [] none none none (by decide) (by decide)
 have hz0:zs≠[]:=i3 (by
  have h1:0<=n / 8 % 8:=y2c _ (by decide)
  have h2:n / 8 % 8<8:=y2d _ (by decide)
  generalize n / 8 % 8=r at h1 h2
  have:r=0\/r=1\/r=2\/r=3\/r=4\/r=5\/r=6\/r=7:=by omega
  rcases this with rfl|rfl|rfl|rfl|rfl|rfl|rfl|rfl
  ·exact⟨(0,"a"),by simp[zN],rfl⟩
  ·exact⟨(1,"b"),by simp[zN],rfl⟩
  ·exact⟨(2,"back"),by simp[zN],rfl⟩
  ·exact⟨(3,"d"),by simp[zN],rfl⟩
  ·exact⟨(4,"hall"),by simp[zN],rfl⟩
  ·exact⟨(5,"r"),by simp[zN],rfl⟩
  ·exact⟨(6,"win"),by simp[zN],rfl⟩
  ·exact⟨(7,"z"),by simp[zN],rfl⟩)
 obtain⟨ks,t2,t4,t6,t7,t8,j1,j2,j3,j4⟩:=z7k n (some (.imm (.tuple (zs.map encZ)))) s3 cN [] s2 s4 none none none (by decide) (by decide)
 have hk0:ks≠[]:=j3 ⟨(1,"1234"),by simp[cN],rfl⟩
 obtain⟨m,hm,e1_⟩:=drawn_eq n 20 (by decide)
 obtain⟨q,hq,e2_⟩:=divQ m 4
 obtain⟨r,_,a0,a1,e3_⟩:=modQ q 4
 obtain⟨q1,hq1,e4_⟩:=divQ q 4
 obtain⟨r1,_,b0,b1,e5_⟩:=modQ q1 4
 obtain⟨q2,hq2,e6_⟩:=divQ q 16
 obtain⟨r2,_,c0,c1,e7_⟩:=modQ q2 4
 obtain⟨u,hu,e8_⟩:=ixI [0,5,30,60] a0 a1
 obtain⟨v,hv,e9_⟩:=ixI [0,4,20,60] b0 b1
 obtain⟨w,hw,e10_⟩:=ixI [1,9,120,300] c0 c1
 simp only[y0d,y1a] at e8_ e9_ e10_
 refine⟨⟨zs,ks,u,v,w⟩,⟨i1,i2,hz0,j1,j2,hk0,hu,hv,hw⟩,?_⟩
 have f1:for_ (z5e (z81 (z04 [(cst (.str "a")),(cst (.str "b")),(cst (.str "back")),(cst (.str "d")),(cst (.str "hall")),(cst (.str "r")),(cst (.str "win")),(cst (.str "z"))]))) (gTu [(gNm 2),(gNm 3)]) bZ [some (.imm (.int n)),some (.imm (.tuple [])),none,none,none,none,none,none,none,none]=some (.nx [some (.imm (.int n)),some (.imm (.tuple (zs.map encZ))),s2,s3,s4,none,none,none,none,none]):=by
  have:(z5e (z81 (z04 [(cst (.str "a")),(cst (.str "b")),(cst (.str "back")),(cst (.str "d")),(cst (.str "hall")),(cst (.str "r")),(cst (.str "win")),(cst (.str "z"))]))) [some (.imm (.int n)),some (.imm (.tuple [])),none,none,none,none,none,none,none,none]=some (zN.map encK):=by
   simp[z5e,z81,z04,args,cst,zng,enum,zN,encK,List.zipIdx]
  unfold for_
  rw[this]
  exact i4
 have f2:for_ (z5e (z81 (z04 [(cst (.str "0000")),(cst (.str "1234")),(cst (.str "4321")),(cst (.str "7777")),(cst (.str "9990")),(cst (.str "9999"))]))) (gTu [(gNm 2),(gNm 6)]) bC [some (.imm (.int n)),some (.imm (.tuple (zs.map encZ))),s2,s3,s4,some (.imm (.tuple [])),none,none,none,none]=some (.nx [some (.imm (.int n)),some (.imm (.tuple (zs.map encZ))),t2,s3,t4,some (.imm (.tuple (ks.map z4i))),t6,t7,t8,none]):=by
  have:(z5e (z81 (z04 [(cst (.str "0000")),(cst (.str "1234")),(cst (.str "4321")),(cst (.str "7777")),(cst (.str "9990")),(cst (.str "9999"))]))) [some (.imm (.int n)),some (.imm (.tuple (zs.map encZ))),s2,s3,s4,some (.imm (.tuple [])),none,none,none,none]=some (cN.map encK):=by
   simp[z5e,z81,z04,args,cst,zjb,enum,cN,encK,List.zipIdx]
  unfold for_
  rw[this]
  exact j4
 show runF (seq (asg 1 (z04 [])) (seq (for_ (z5e (z81 (z04 [(cst (.str "a")),(cst (.str "b")),(cst (.str "back")),(cst (.str "d")),(cst (.str "hall")),(cst (.str "r")),(cst (.str "win")),(cst (.str "z"))]))) (gTu [(gNm 2),(gNm 3)]) bZ)
  (seq (asg 5 (z04 [])) (seq (for_ (z5e (z81 (z04 [(cst (.str "0000")),(cst (.str "1234")),(cst (.str "4321")),(cst (.str "7777")),(cst (.str "9990")),(cst (.str "9999"))]))) (gTu [(gNm 2),(gNm 6)]) bC) _)))) 10 [.int n]=_
 unfold runF
 have g0:seq (asg 1 (z04 []))=fun b=>seq (asg 1 (z04 [])) b:=rfl
 have h1:asg 1 (z04 []) [some (.imm (.int n)),none,none,none,none,none,none,none,none,none]=some (.nx [some (.imm (.int n)),some (.imm (.tuple [])),none,none,none,none,none,none,none,none]):=by simp[asg,z04,args]
 have h5:asg 5 (z04 []) [some (.imm (.int n)),some (.imm (.tuple (zs.map encZ))),s2,s3,s4,none,none,none,none,none]=some (.nx [some (.imm (.int n)),some (.imm (.tuple (zs.map encZ))),s2,s3,s4,some (.imm (.tuple [])),none,none,none,none]):=by simp[asg,z04,args]
 show (seq _ _ [some (.imm (.int n)),none,none,none,none,none,none,none,none,none]).bind _=_
 rw[seq_nx h1,seq_nx f1,seq_nx h5,seq_nx f2]
 simp! [sp9,e1_,e2_,e3_,e4_,e5_,e6_,e7_,e8_,e9_,e10_,z7h,z3k,encP]
theorem DP.zl {p:Pl} (h:DP p):p.zones.length<=8:=by simpa [zN] using h.zs.length_le
theorem DP.cl {p:Pl} (h:DP p):p.codes.length<=6:=by simpa [cN] using h.cs.length_le
theorem zgh {l:List Str} (h:l.all (fun x=>(y1v x).canLay0)=true:=by decide +kernel) {x:Str} (hx:x∈l):okS x:=List.all_eq_true.mp h x hx
end Co
end
section
namespace Co
open D PySem
theorem ix_z (p:Pl):oIx (encP p) (.int 0)=some (.tuple (p.zones.map encZ)):=by simp[oIx,atZ,ixOf,encP]
theorem ix_c (p:Pl):oIx (encP p) (.int 1)=some (.tuple (p.codes.map z4i)):=by simp[oIx,atZ,ixOf,encP]
theorem zn5 (z:Str×Str):oIx (encZ z) (.int 0)=some (.str z.1):=by simp[oIx,atZ,ixOf,encZ]
theorem zt4 (k:Cd):oIx (z4i k) (.int 0)=some (.str k.fig):=by simp[oIx,atZ,ixOf,z4i]
theorem modL (m:Int) {l:List T} (h:l≠[]):∃q:Int,0<=q/\q<l.length/\oMod (.int m) (.int l.length)=some (.int q):=by
 have hl:0<(l.length:Int):=by
  have:=List.length_pos_iff.mpr h
  omega
 obtain⟨q,_,h1,h2,e⟩:=modQ m l.length hl
 exact⟨q,h1,h2,e⟩
def zi4:List Str:=["0000","1234","4321","7777","9990","9999","0001","1111","5555"]
noncomputable def DE (p:Pl):Et->Prop
 | .line z w=>z∈p.zones.map (·.1)/\w∈(["shut","open","open","cut"]:List Str)
 | .code f d z=>f∈zi4/\(((d="set"\/d="unset")/\z=none)\/((d="shunt"\/d="free")/\∃x,z=some x/\x∈p.zones.map (·.1)))
 | .ticks n=>1<=n/\n<=1000000000
theorem event_eq {p:Pl} (h:DP p) (n:Int):∃e,DE p e/\z5u [encP p,.int n]=some (encE e):=by
 obtain⟨q1,_,e1_⟩:=divQ n 8
 obtain⟨i,i0,i1,e2_⟩:=modL (l:=p.zones.map encZ) q1 (by simpa using h.z0)
 obtain⟨t,ht,e3_⟩:=ixT i0 i1
 obtain⟨z,hz,rfl⟩:=y0m.mp ht
 have hz1:z.1∈p.zones.map (·.1):=y0m.mpr ⟨z,hz,rfl⟩
 obtain⟨k,_,_,_,e4_⟩:=modQ n 10
 obtain⟨q2,_,e5_⟩:=divQ n 512
 obtain⟨r2,_,j0,j1,e6_⟩:=modQ q2 4
 obtain⟨w,hw,e7_⟩:=ixS ["shut","open","open","cut"] j0 j1
 obtain⟨f',hf',e8_⟩:=ixS ["0001","1111","9999","0000"] j0 j1
 obtain⟨q3,_,e9_⟩:=divQ n 64
 obtain⟨q4,_,e10_⟩:=divQ n 4096
 obtain⟨r4,_,k0,k1,e11_⟩:=modQ q4 3
 obtain⟨u,hu,e12_⟩:=ixI [3,40,200] k0 k1
 have hu':0<u/\u<=200:=by
  simp at hu
  omega
 obtain⟨r3,_,l0,l1,e13_⟩:=modQ q3 u hu'.1
 obtain⟨i',i0',i1',e14_⟩:=modL (l:=p.codes.map z4i) q3 (by simpa using h.c0)
 obtain⟨t',ht',e15_⟩:=ixT i0' i1'
 obtain⟨c,hc,rfl⟩:=y0m.mp ht'
 have hcf:c.fig∈zi4:=by
  have:=h.cs.subset (y0m.mpr ⟨c,hc,rfl⟩)
  simp[cN,zi4] at this ⊢
  rcases this with q|q|q|q|q|q <;> simp[q]
 obtain⟨q5,_,e16_⟩:=divQ n 65536
 obtain⟨r5,_,_,_,e17_⟩:=modQ q5 4
 obtain⟨r6,_,m0,m1,e18_⟩:=modQ q4 6
 obtain⟨d,hd,e19_⟩:=ixS ["set","set","unset","shunt","free","shunt"] m0 m1
 simp only[y0d,y1a] at e7_ e8_ e12_ e19_
 simp only[y14] at e2_ e14_
 have L1:oLen [.tuple (p.zones.map encZ)]=some (.int p.zones.length):=by simp[oLen]
 have L2:oLen [.tuple (p.codes.map z4i)]=some (.int p.codes.length):=by simp[oLen]
 simp only[z5u,ze1,runF,y0d,y1a,y0w,y2a,y0g,List.cons_append,List.nil_append]
 by_cases h1:k<5
 ·exact⟨.line z.1 w,⟨hz1,hw⟩,by simp! [sp9,ix_z,zn5,e1_,L1,e2_,e3_,e4_,oLt,h1,e5_,e6_,e7_,z7h,z3k,encE]⟩
 ·by_cases h2:k<7
  ·exact⟨.ticks (1+r3),⟨by omega,by omega⟩,by simp! [sp9,ix_z,zn5,e1_,L1,e2_,e3_,e4_,oLt,h1,h2,e9_,e10_,e11_,e12_,e13_,z4h,z3k,zbt,encE]⟩
  ·have od:okS d:=zgh (l:=["set","set","unset","shunt","free","shunt"]) (hx:=hd)
   have qi:=zmu false (n:=d) (ns:=["set","unset"]) od (by
    intro k hk
    exact zgh (l:=["set","unset"]) (hx:=hk))
   simp only[y0d,y1a] at qi
   obtain⟨f,hf,ef⟩:∃f∈zi4,(iff (tstB (op2 oEq (op2 oMod (op2 oDiv (nm 1) (cst (.int 65536))) (cst (.int 4))) (cst (.int 0)))) (asg 4 (op2 oIx (z04 [(cst (.str "0001")),(cst (.str "1111")),(cst (.str "9999")),(cst (.str "0000"))]) (op2 oMod (op2 oDiv (nm 1) (cst (.int 512))) (cst (.int 4))))) skip) [some (.imm (encP p)),some (.imm (.int n)),some (.imm (.str z.1)),some (.imm (.int k)),some (.imm (.str c.fig)),none]=some (.nx [some (.imm (encP p)),some (.imm (.int n)),some (.imm (.str z.1)),some (.imm (.int k)),some (.imm (.str f)),none]):=by
    by_cases h3:r5=0
    ·refine⟨f',?_,by simp! [sp9,e16_,e17_,oEq_int,h3,e5_,e6_,e8_,z7h]⟩
     simp[zi4] at hf' ⊢
     rcases hf' with q|q|q|q <;> simp[q]
    ·exact⟨c.fig,hcf,by simp! [sp9,e16_,e17_,oEq_int,h3]⟩
   have sA:∀X:Fs,iff (tstB (op2 oLt (nm 3) (cst (.int 5)))) X skip [some (.imm (encP p)),some (.imm (.int n)),some (.imm (.str z.1)),some (.imm (.int k)),none,none]=some (.nx [some (.imm (encP p)),some (.imm (.int n)),some (.imm (.str z.1)),some (.imm (.int k)),none,none]):=fun X=>by simp! [sp9,oLt,h1]
   have sB:∀X:Fs,iff (tstB (op2 oLt (nm 3) (cst (.int 7)))) X skip [some (.imm (encP p)),some (.imm (.int n)),some (.imm (.str z.1)),some (.imm (.int k)),none,none]=some (.nx [some (.imm (encP p)),some (.imm (.int n)),some (.imm (.str z.1)),some (.imm (.int k)),none,none]):=fun X=>by simp! [sp9,oLt,h2]
   have sC:asg 4 (op2 oIx (op2 oIx (op2 oIx (nm 0) (cst (.int 1))) (op2 oMod (op2 oDiv (nm 1) (cst (.int 64))) (opN oLen [(op2 oIx (nm 0) (cst (.int 1)))]))) (cst (.int 0))) [some (.imm (encP p)),some (.imm (.int n)),some (.imm (.str z.1)),some (.imm (.int k)),none,none]=some (.nx [some (.imm (encP p)),some (.imm (.int n)),some (.imm (.str z.1)),some (.imm (.int k)),some (.imm (.str c.fig)),none]):=by simp! [sp9,ix_c,L2,e9_,e14_,e15_,zt4]
   by_cases h4:d="set"\/d="unset"
   ·refine⟨.code f d none,⟨hf,.inl ⟨h4,rfl⟩⟩,?_⟩
    have qi':oIn false (.str d) (.tuple [.str "set",.str "unset"])=some (.bool true):=by
     rw[qi]
     simp[h4]
    have pre:∀B:Fs,(seq (asg 2 (op2 oIx (op2 oIx (op2 oIx (nm 0) (cst (.int 0))) (op2 oMod (op2 oDiv (nm 1) (cst (.int 8))) (opN oLen [(op2 oIx (nm 0) (cst (.int 0)))]))) (cst (.int 0)))) (seq (asg 3 (op2 oMod (nm 1) (cst (.int 10)))) B)) [some (.imm (encP p)),some (.imm (.int n)),none,none,none,none]=B [some (.imm (encP p)),some (.imm (.int n)),some (.imm (.str z.1)),some (.imm (.int k)),none,none]:=by
     intro B
     simp! [sp9,ix_z,zn5,e1_,L1,e2_,e3_,e4_]
    rw[pre]
    rw[seq_nx (sA _),seq_nx (sB _),seq_nx sC,seq_nx ef]
    simp! [sp9,e10_,e18_,e19_,zjb,zbt,qi',z7h,encE,oS]
   ·refine⟨.code f d (some z.1),⟨hf,.inr ⟨?_,z.1,rfl,hz1⟩⟩,?_⟩
    ·simp at hd
     rcases hd with q|q|q|q|q
     ·exact absurd (.inl q) h4
     ·exact absurd (.inr q) h4
     ·exact .inl q
     ·exact .inr q
     ·exact .inl q
    have qi':oIn false (.str d) (.tuple [.str "set",.str "unset"])=some (.bool false):=by
     rw[qi]
     simp at h4
     simp[h4]
    have pre:∀B:Fs,(seq (asg 2 (op2 oIx (op2 oIx (op2 oIx (nm 0) (cst (.int 0))) (op2 oMod (op2 oDiv (nm 1) (cst (.int 8))) (opN oLen [(op2 oIx (nm 0) (cst (.int 0)))]))) (cst (.int 0)))) (seq (asg 3 (op2 oMod (nm 1) (cst (.int 10)))) B)) [some (.imm (encP p)),some (.imm (.int n)),none,none,none,none]=B [some (.imm (encP p)),some (.imm (.int n)),some (.imm (.str z.1)),some (.imm (.int k)),none,none]:=by
     intro B
     simp! [sp9,ix_z,zn5,e1_,L1,e2_,e3_,e4_]
    rw[pre]
    rw[seq_nx (sA _),seq_nx (sB _),seq_nx sC,seq_nx ef]
    simp! [sp9,e10_,e18_,e19_,zjb,zbt,qi',z7h,encE,oS]
end Co
end
section
namespace Co
open D PySem
section
variable (k:Int) (pre:List (Int×Str×Option Str)) (p:Pl)
end
end Co
end
section
namespace Co
open D PySem
def okN (d:Nat) (t:T):Prop:=t.canLay0=true/\t.depth<=d
theorem okN.okT {d:Nat} {t:T} (h:okN d t) (hd:d<=60:=by decide):okT t=true:=by
 unfold D.okT
 rw[h.1,decide_eq_true (y1p h.2 hd)]
 rfl
theorem zb5 {d:Nat}:∀{ts:List T},(∀t∈ts,okN d t)->y1h ts=true/\y1f ts<=d
 | [],_=>by simp[y1h,y1f]
 | t::ts,h=>by
  obtain⟨h1,h2⟩:=zb5 fun x hx=>h x (y05 _ hx)
  obtain⟨h3,h4⟩:=h t y0e
  constructor
  ·rw[y1h,h3,h1]
   rfl
  ·rw[y1f]
   omega
theorem zjv {d:Nat} {ts:List T} (h:∀t∈ts,okN d t):okN (d+1) (.tuple ts):=by
 obtain⟨h1,h2⟩:=zb5 h
 constructor
 ·rw[PyData.canLay0];exact h1
 ·rw[y22];omega
theorem zmt {d:Nat} {ts:List T} (h:∀t∈ts,okN d t):okN (d+1) (.list ts):=by
 obtain⟨h1,h2⟩:=zb5 h
 constructor
 ·rw[PyData.canLay0];exact h1
 ·rw[y22];omega
theorem oNe_self {d:Nat} {t:T} (h:okN d t) (hd:d<=60:=by decide):oNe t t=some (.bool false):=by
 unfold oNe
 rw[h.okT hd,PySem.SeqAt.eqv_refl t h.1]
 rfl
end Co
end
section
namespace Fo
open D Co PySem
section
variable {f g:Fe} {ft gt:Ft} {ε:Ev} {a b:Bool}
theorem z0a (hf:f ε=some (.bool a)) (hg:a=true->g ε=some (.bool b)):andV f g ε=some (.bool (a && b)):=by
 cases a with
 | true=>simp[andV,hf,hg rfl]
 | false=>simp[andV,hf]
theorem zri (hf:f ε=some (.bool a)) (hg:a=false->g ε=some (.bool b)):orV f g ε=some (.bool (a || b)):=by
 cases a with
 | false=>simp[orV,hf,hg rfl]
 | true=>simp[orV,hf]
theorem zk0 (hf:f ε=some (.bool a)):notV f ε=some (.bool !a):=by simp[notV,hf]
theorem z08 (hf:f ε=some (.bool a)):tstB f ε=some a:=by simp[tstB,hf]
theorem z1o (hf:ft ε=some a) (hg:a=false->gt ε=some b):orT ft gt ε=some (a || b):=by
 cases a with
 | false=>simp[orT,hf,hg rfl]
 | true=>simp[orT,hf]
theorem z3e (hf:ft ε=some a) (hg:a=true->gt ε=some b):andT ft gt ε=some (a && b):=by
 cases a with
 | true=>simp[andT,hf,hg rfl]
 | false=>simp[andT,hf]
theorem z0j (hf:ft ε=some a):notT ft ε=some !a:=by simp[notT,hf]
theorem opN1 {d:List T->Option T} {t:T} (h:f ε=some t):opN d [f] ε=d [t]:=by simp[opN,args,h]
theorem opN2 {d:List T->Option T} {t u:T} (h:f ε=some t) (h2:g ε=some u):opN d [f,g] ε=d [t,u]:=by simp[opN,args,h,h2]
theorem z0c {o:T->T->Option T} {t u:T} (h:f ε=some t) (h2:g ε=some u):op2 o f g ε=o t u:=by simp[op2,h,h2]
theorem z17 {o:T->Option T} {t:T} (h:f ε=some t):op1 o f ε=o t:=by simp[op1,h]
theorem z5o {n:Nat} {as:List T} {r:Option T} (h:f ((as.map fun t=>some (.imm t))++y0g (n - as.length) none)=r):runF (rtn f) n as=r:=by
 unfold runF rtn
 rw[h]
 cases r <;> rfl
theorem z12 {ft:Ft} {s1 s2:Fs} (h:ft ε=some a):seq (iff ft s1 skip) s2 ε=if a=true then seq s1 s2 ε else s2 ε:=by
 cases a with
 | true =>
  show (iff ft s1 skip ε).bind _=_
  rw[show iff ft s1 skip ε=s1 ε by simp[iff,h]]
  rfl
 | false=>simp[seq,iff,h,skip]
theorem z1d {f:Fe} {s2:Fs} {t:T} (h:f ε=some t):seq (rtn f) s2 ε=some (.rt t):=by simp[seq,rtn,h]
end
theorem zsb {r:Ev} {e:Fe} {f:T->T}:∀(ts:List T) (s0:Option Sl),(∀t∈ts,e (some (.imm t)::r)=some (f t))->z34 (gNm 0) (cstT true) e ts (s0::r)=some (ts.map f)
 | [],_,_=>rfl
 | t::ts,s0,h=>by
  have h1:=h t (by simp)
  have h2:=zsb (f:=f) ts (some (.imm t)) fun u hu=>h u (y05 _ hu)
  simp[z34,gNm,cstT,h1,h2]
theorem zoi {r:Ev} {c:Ft} {e:Fe} {p:T->Bool} {f:T->T}:∀(ts:List T) (s0:Option Sl),(∀t∈ts,c (some (.imm t)::r)=some (p t))->(∀t∈ts,p t=true->e (some (.imm t)::r)=some (f t))->z34 (gNm 0) c e ts (s0::r)=some ((ts.filter p).map f)
 | [],_,_,_=>rfl
 | t::ts,s0,hc,h=>by
  have h0:=hc t (by simp)
  have h2:=zoi (p:=p) (f:=f) ts (some (.imm t)) (fun u hu=>hc u (y05 _ hu)) fun u hu=>h u (y05 _ hu)
  cases hp:p t with
  | true =>
   have h1:=h t (by simp) hp
   rw[hp] at h0
   simp[z34,gNm,h0,h1,h2,hp]
  | false =>
   rw[hp] at h0
   simp[z34,gNm,h0,h2,hp]
theorem zdj {it:Fi} {caps:List Nat} {e:Fe} {f:T->T} {ε:Ev} {ts:List T} (hi:it ε=some ts) (hl:ts.length<=big) (h:∀t∈ts,e (some (.imm t)::caps.map fun i=>(ε[i]?).join)=some (f t)):comp 1 caps it (gNm 0) (cstT true) e ε=some (.list (ts.map f)):=by
 simp only[comp,hi,y0p,if_pos hl]
 rw[show z22 1 caps ε=none::caps.map fun i=>(ε[i]?).join from rfl,zsb (f:=f) ts none h]
 rfl
theorem zoh {it:Fi} {caps:List Nat} {c:Ft} {e:Fe} {p:T->Bool} {f:T->T} {ε:Ev} {ts:List T} (hi:it ε=some ts) (hl:ts.length<=big) (hc:∀t∈ts,c (some (.imm t)::caps.map fun i=>(ε[i]?).join)=some (p t)) (h:∀t∈ts,p t=true->e (some (.imm t)::caps.map fun i=>(ε[i]?).join)=some (f t)):comp 1 caps it (gNm 0) c e ε=some (.list ((ts.filter p).map f)):=by
 simp only[comp,hi,y0p,if_pos hl]
 rw[show z22 1 caps ε=none::caps.map fun i=>(ε[i]?).join from rfl,zoi (p:=p) (f:=f) ts none hc h]
 rfl
theorem z9n {α:Type} (f:α->Bool):∀l:List α,bools (l.map fun x=>.bool (f x))=some (l.map f)
 | []=>rfl
 | x::l=>by simp[bools,z9n f l]
theorem znr {it:Fi} {caps:List Nat} {e:Fe} {f:T->Bool} {ε:Ev} {ts:List T} (hi:it ε=some ts) (hl:ts.length<=big) (h:∀t∈ts,e (some (.imm t)::caps.map fun i=>(ε[i]?).join)=some (.bool (f t))):opN z71 [comp 1 caps it (gNm 0) (cstT true) e] ε=some (.bool (ts.all f)):=by
 rw[opN1 (zdj (f:=fun t=>.bool (f t)) hi hl h)]
 simp only[z71,z9n,y1r]
 simp[List.all_map]
mutual
noncomputable def gd:T->Bool
 | .str x=>zao x && decide (x.length<=1000000)
 | .tuple ts=>gdL ts
 | .list ts=>gdL ts
 | .dict _=>false
 | _=>true
noncomputable def gdL:List T->Bool
 | []=>true
 | t::ts=>gd t && gdL ts
end
theorem zbd:∀{ts:List T},gdL ts=true <-> ∀t∈ts,gd t=true
 | []=>by simp[gdL]
 | t::ts=>by
  rw[gdL,y1c,zbd (ts:=ts)]
  simp
mutual
theorem zdl:∀{t:T},gd t=true->t.canLay0=true
 | .str x,h=>by
  rw[gd,y1c] at h
  rw[PyData.canLay0]
  exact z87 ((z3r x).mp h.1)
 | .tuple ts,h=>by
  rw[gd] at h
  rw[PyData.canLay0]
  exact z7m h
 | .list ts,h=>by
  rw[gd] at h
  rw[PyData.canLay0]
  exact z7m h
 | .dict _,h=>by simp[gd] at h
 | .none,_=>rfl
 | .int _,_=>rfl
 | .bool _,_=>rfl
theorem z7m:∀{ts:List T},gdL ts=true->y1h ts=true
 | [],_=>rfl
 | t::ts,h=>by
  rw[gdL,y1c] at h
  rw[y1h,zdl h.1,z7m h.2]
  rfl
end
structure Gd (d:Nat) (t:T):Prop where
 g:gd t=true
 d:t.depth<=d
theorem Gd.okN {d:Nat} {t:T} (h:Gd d t):Co.okN d t:=⟨zdl h.g,h.d⟩
theorem Gd.okT {d:Nat} {t:T} (h:Gd d t) (hd:d<=60:=by decide):okT t=true:=h.okN.okT hd
theorem Gd.le {d e:Nat} {t:T} (h:Gd d t) (hd:d<=e):Gd e t:=⟨h.g,y1p h.d hd⟩
theorem zdh:∀{ts:List T} {t:T},t∈ts->t.depth<=y1f ts
 | u::ts,t,h=>by
  rw[y1f]
  rcases y09.mp h with rfl|h
  ·omega
  ·have:=zdh h
   omega
theorem Gd.tup {d:Nat} {ts:List T} (h:Gd (d+1) (.tuple ts)):∀t∈ts,Gd d t:=fun t ht=>by
 have h1:=h.g
 have h2:=h.d
 rw[gd] at h1
 rw[y22] at h2
 have:=zdh ht
 exact⟨zbd.mp h1 t ht,by omega⟩
theorem Gd.mk_tup {d:Nat} {ts:List T} (h:∀t∈ts,Gd d t):Gd (d+1) (.tuple ts) :=
 ⟨by rw[gd];exact zbd.mpr fun t ht=>(h t ht).g,(zjv fun t ht=>(h t ht).okN).2⟩
theorem Gd.mk_lst {d:Nat} {ts:List T} (h:∀t∈ts,Gd d t):Gd (d+1) (.list ts) :=
 ⟨by rw[gd];exact zbd.mpr fun t ht=>(h t ht).g,(zmt fun t ht=>(h t ht).okN).2⟩
theorem zgk {d:Nat} {x:Str} (h:asc (ls x)) (hl:x.length<=1000000):Gd d (.str x):=⟨by rw[gd,y1c];exact⟨(z3r x).mpr h,decide_eq_true hl⟩,by rw[y22];omega⟩
theorem zs5 {d:Nat} {i:Int}:Gd d (.int i):=⟨rfl,by rw[y22];omega⟩
theorem zs4 {d:Nat}:Gd d .none:=⟨rfl,by rw[y22];omega⟩
theorem zfg {d:Nat} {b:Bool}:Gd d (.bool b):=⟨rfl,by rw[y22];omega⟩
def z6d:T->Bool
 | .int _=>true
 | _=>false
def z0v (t:T) (lo hi:Int):Bool:=match t with
 | .int i=>decide (lo<=i) && decide (i<=hi)
 | _=>false
def tupB (t:T) (lo hi:Int):Bool:=match t with
 | .tuple ts=>decide (lo<=ts.length) && decide ((ts.length:Int)<=hi)
 | _=>false
theorem z5i (ct:String) {t:T} (h:gd t=true):oIsI ct t=some (.bool (isI ct t)):=by
 cases t <;> first|rfl|simp[gd] at h
theorem zfz {t:T} (h:gd t=true):z3o [t]=some (.bool (z6d t)):=by
 refine z5o ?_
 have e1:=z5i "int" h
 have e2:=z5i "bool" h
 refine (z0a (a:=isI "int" t) (b:=!isI "bool" t) (by rw[z17 (t:=t) rfl];exact e1) fun _=>zk0 (by rw[z17 (t:=t) rfl];exact e2)).trans ?_
 cases t <;> first|rfl|simp[gd] at h
theorem z64 {f g h:Fe} {ε:Ev} {i j k:Int} (hf:f ε=some (.int i)) (hg:g ε=some (.int j)) (hh:h ε=some (.int k)):chain oLe oLe f g h ε=some (.bool (decide (i<=j) && decide (j<=k))):=by
 simp only[chain,hf,hg,hh,oLe,y0p]
 cases decide (i<=j) <;> rfl
theorem zbr {t:T} {lo hi:Int} (h:gd t=true):z1n [t,.int lo,.int hi]=some (.bool (z0v t lo hi)):=by
 refine z5o ?_
 have hb:z6d t=true->chain oLe oLe (nm 1) (nm 0) (nm 2) [some (.imm t),some (.imm (.int lo)),some (.imm (.int hi))]=some (.bool (z0v t lo hi)):=by
  intro hw
  cases t with
  | int i=>exact z64 rfl rfl rfl
  | _=>simp[z6d] at hw
 refine (z0a (a:=z6d t) (b:=z0v t lo hi) (by rw[opN1 (t:=t) rfl];exact zfz h) hb).trans ?_
 cases t <;> rfl
theorem z36 {t:T} {lo hi:Int} (h:gd t=true):z06 [t,.int lo,.int hi]=some (.bool (tupB t lo hi)):=by
 refine z5o ?_
 have hb:isI "tuple" t=true->chain oLe oLe (nm 1) (opN oLen [(nm 0)]) (nm 2) [some (.imm t),some (.imm (.int lo)),some (.imm (.int hi))]=some (.bool (tupB t lo hi)):=by
  intro hw
  cases t with
  | tuple ts=>exact z64 rfl (by rw[opN1 (t:=.tuple ts) rfl];rfl) rfl
  | _=>simp[isI] at hw
 refine (z0a (a:=isI "tuple" t) (b:=tupB t lo hi) (by rw[z17 (t:=t) rfl];exact z5i _ h) hb).trans ?_
 cases t <;> rfl
noncomputable def z79 (t:T) (lo hi:Int) (a b:Nat):Bool:=match t with
 | .str x=>decide (lo<=x.length) && decide ((x.length:Int)<=hi) && (ls x).all fun c=>decide (a<=c) && decide (c<=b)
 | _=>false
theorem zm6 (a b:Nat):strLt ⟨#[a]⟩ ⟨#[b]⟩=decide (a<b):=by
 simp[strLt,List.cons_lt_cons_iff]
theorem zgu {f g h:Fe} {ε:Ev} {i j k:Nat} (hf:f ε=some (chT i)) (hg:g ε=some (chT j)) (hh:h ε=some (chT k)):chain oLe oLe f g h ε=some (.bool (decide (i<=j) && decide (j<=k))):=by
 simp only[chain,hf,hg,hh,oLe,chT,y0p,zm6]
 have e1:(!decide (j<i))=decide (i<=j):=by
  by_cases q:i<=j
  ·simp[q]
  ·simp[q];omega
 have e2:(!decide (k<j))=decide (j<=k):=by
  by_cases q:j<=k
  ·simp[q]
  ·simp[q];omega
 rw[e1,e2]
 cases decide (i<=j) <;> rfl
theorem zea {t:T} {lo hi:Int} {a b:Nat} (h:gd t=true):z1v [t,.int lo,.int hi,chT a,chT b]=some (.bool (z79 t lo hi a b)):=by
 unfold z1v runF ze3
 show (seq _ _ [some (.imm t),some (.imm (.int lo)),some (.imm (.int hi)),some (.imm (chT a)),some (.imm (chT b))]).bind _=_
 generalize hε:[some (Sl.imm t),some (.imm (.int lo)),some (.imm (.int hi)),some (.imm (chT a)),some (.imm (chT b))]=ε
 have h0:nm 0 ε=some t:=by subst hε;rfl
 have h1:nm 1 ε=some (.int lo):=by subst hε;rfl
 have h2:nm 2 ε=some (.int hi):=by subst hε;rfl
 cases t with
 | str x =>
  rw[gd,y1c] at h
  have hx:=of_decide_eq_true h.2
  have hle:chain oLe oLe (nm 1) (opN oLen [(nm 0)]) (nm 2) ε=some (.bool (decide (lo<=x.length) && decide ((x.length:Int)<=hi))):=z64 h1 (by rw[opN1 h0];simp only[oLen];rw[if_pos (by unfold big;omega)]) h2
  rw[z12 (a:=!(decide (lo<=x.length) && decide ((x.length:Int)<=hi)))]
  ·cases hq:(decide (lo<=x.length) && decide ((x.length:Int)<=hi)) with
   | false =>
    simp only[Bool.not_false,if_true]
    rw[z1d (t:=.bool false) rfl]
    simp only[y0p]
    simp only[z79,hq,Bool.false_and]
   | true =>
    simp only[Bool.not_true,y1t,if_false,rtn]
    have:=znr (it:=itA (nmV 0)) (caps:=[3,4]) (e:=chain oLe oLe (nm 1) (nm 0) (nm 2)) (f:=fun t=>match t with|.str y=>decide (a<=y.cps.getD 0 0) && decide (y.cps.getD 0 0<=b)|_=>false) (ε:=ε) (ts:=(ls x).map chT) (by subst hε;simp[itA,nmV,h.1,ls]) (by rw[y14,<- z45];unfold big;omega) (by
     intro t ht
     obtain⟨c,hc,rfl⟩:=y0m.mp ht
     subst hε
     exact zgu rfl rfl rfl)
    rw[this]
    simp only[y1r,y0p,z79,hq,Bool.true_and,List.all_map]
    rfl
  ·have e:orT (notT (tstB (op1 (oIsI "str") (nm 0)))) (notT (tstB (chain oLe oLe (nm 1) (opN oLen [(nm 0)]) (nm 2)))) ε=some (false || !(decide (lo<=x.length) && decide ((x.length:Int)<=hi))) :=
    z1o (a:=false) (z0j (a:=true) (z08 (by rw[z17 h0];rfl))) fun _=>z0j (z08 hle)
   rw[e]
   rfl
 | dict d=>simp[gd] at h
 | _ =>
  rw[z12 (a:=true) (by
   refine z1o (a:=true) (b:=false) (z0j (a:=false) (z08 (by rw[z17 h0];rfl))) fun z=>by cases z)]
  rfl
def z44 (t:T):Bool:=z79 t 1 4 97 122
def figB (t:T):Bool:=z79 t 4 4 48 57
theorem zk1 {t:T} (h:gd t=true):z51 [t]=some (.bool (z44 t)):=by
 refine z5o ?_
 show opN z1v [_,_,_,_,_] _=_
 simp only[opN,args,nmV,cst,y0p,y1r,y0d,y1a,List.cons_append,y27]
 exact zea (a:=97) (b:=122) h
theorem zai {t:T} (h:gd t=true):z1w [t]=some (.bool (figB t)):=by
 refine z5o ?_
 show opN z1v [_,_,_,_,_] _=_
 simp only[opN,args,nmV,cst,y0p,y1r,y0d,y1a,List.cons_append,y27]
 exact zea (a:=48) (b:=57) h
end Fo
end
section
namespace Fo
open D Co PySem
def z1e:List Str->Bool
 | x::y::r=>strLt x y && z1e (y::r)
 | _=>true
theorem zsa {r:Ev} {e:Fe} {f:T->T->T}:∀(ps:List (T×T)) (s0 s1:Option Sl),(∀p∈ps,e (some (.imm p.1)::some (.imm p.2)::r)=some (f p.1 p.2))->z34 (gTu [gNm 0,gNm 1]) (cstT true) e (ps.map fun p=>.tuple [p.1,p.2]) (s0::s1::r)=some (ps.map fun p=>f p.1 p.2)
 | [],_,_,_=>rfl
 | p::ps,s0,s1,h=>by
  have h1:=h p (by simp)
  have h2:=zsa (f:=f) ps (some (.imm p.1)) (some (.imm p.2)) fun u hu=>h u (y05 _ hu)
  simp[z34,gTu,gAll,gNm,cstT,h1,h2]
theorem zip_map (a b:List T):List.zipWith (fun x y=>PyData.tuple [x,y]) a b=(a.zip b).map fun p=>.tuple [p.1,p.2]:=by
 rw[List.zip,List.map_zipWith]
theorem zcd:∀ss:List Str,(List.zipWith strLt ss ss.tail).all id=z1e ss
 | []=>rfl
 | [x]=>rfl
 | x::y::r=>by
  have:=zcd (y::r)
  simp only[List.tail_cons] at this
  simp only[List.tail_cons,List.zipWith_cons_cons,List.all_cons,z1e,id,this]
theorem cut1 {α:Type} (l:List α):cutZ l (some 1) none=l.tail:=by
 unfold cutZ
 cases l with
 | nil=>rfl
 | cons a r =>
  have e1:D.sIx (a::r).length 0 (some 1)=1:=by simp[D.sIx];omega
  have e2:D.sIx (a::r).length (a::r).length none=(a::r).length:=rfl
  rw[e1,e2]
  simp
def sq:T->Option (List T)
 | .tuple ts=>some ts
 | .list ts=>some ts
 | _=>none
theorem zkh {f:Fe} {ε:Ev} {t:T} (h:f ε=some t):z2s f ε=sq t:=by
 simp only[z2s,h,y0p]
 cases t <;> rfl
theorem za7 {ss:List Str} {t u:T} (ht:sq t=some (ss.map .str)) (hu:oSlA t (some 1) none=some u) (hu2:sq u=some (ss.tail.map .str)) (hl:ss.length<=big):z47 [t]=some (.bool (z1e ss)):=by
 refine z5o ?_
 have e1:zi2 (z2s (nmV 0)) (z2s (z0l (nm 0) (opt (cst (.int 1))) optN)) [some (.imm t)]=some (((ss.map y1v).zip (ss.tail.map y1v)).map fun p=>.tuple [p.1,p.2]):=by
  simp only[zi2]
  rw[zkh (t:=t) rfl,zkh (t:=u) (by simp only[z0l,nm,opt,optN,cst,y27,y0p,hu]),ht,hu2]
  simp only[y0p,y1r,zip_map]
 show opN z71 [_] [some (.imm t)]=_
 have e2:comp 2 [] (zi2 (z2s (nmV 0)) (z2s (z0l (nm 0) (opt (cst (.int 1))) optN))) (gTu [(gNm 0),(gNm 1)]) (cstT true) (op2 oLt (nm 0) (nm 1)) [some (.imm t)]=some (.list ((List.zipWith strLt ss ss.tail).map .bool)):=by
  simp only[comp,e1,y0p]
  rw[if_pos (by simp;omega)]
  rw[show z22 2 [] [some (.imm t)]=[none,none] from rfl,zsa (f:=fun a b=>match a,b with|.str x,.str y=>.bool (strLt x y)|_,_=>.none) _ none none (by
   intro p hp
   obtain⟨h1,h2⟩:=List.of_mem_zip hp
   obtain⟨x,_,ex⟩:=y0m.mp h1
   obtain⟨y,_,ey⟩:=y0m.mp h2
   rw[<- ex,<- ey]
   rfl)]
  simp only[y1r]
  congr 2
  rw[List.zip_map,y2e,List.map_zipWith,List.zip,List.map_zipWith]
  rfl
 rw[opN1 e2]
 have e3:=z9n (fun x:Bool=>x) (List.zipWith strLt ss ss.tail)
 simp only[z71,e3,y1r,List.map_id']
 rw[zcd]
theorem zhh {ss:List Str} (hl:ss.length<=big):z47 [.list (ss.map .str)]=some (.bool (z1e ss)) :=
 za7 (u:=.list (ss.tail.map .str)) rfl (by simp only[oSlA,oSl,cut1,List.map_tail]) rfl hl
theorem zji {ss:List Str} (hl:ss.length<=big):z47 [.tuple (ss.map .str)]=some (.bool (z1e ss)) :=
 za7 (u:=.tuple (ss.tail.map .str)) rfl (by simp only[oSlA,oSl,cut1,List.map_tail]) rfl hl
def inB (ss:List Str) (t:T):Bool:=match t with
 | .str x=>decide (x∈ss)
 | _=>false
theorem zkz (s:Str) (t:T):y1y (.str s) t=match t with|.str x=>decide (s=x)|_=>false:=by
 cases t with
 | str x =>
  rw[y1y,Bool.eq_iff_iff]
  simp
 | _=>simp[y1y]
theorem zdd (ss:List Str) (t:T):hasT t (ss.map .str)=inB ss t:=by
 unfold hasT inB
 rw[List.any_map]
 cases t with
 | str x =>
  simp only[y17,zkz]
  rw[Bool.eq_iff_iff,List.any_eq_true,decide_eq_true_iff]
  constructor
  ·rintro⟨y,hy,e⟩
   rw[<- of_decide_eq_true e]
   exact hy
  ·intro h
   exact⟨x,h,decide_eq_true rfl⟩
 | _=>simp[y17,zkz]
theorem z89 {ss:List Str} (h:∀s∈ss,asc (ls s)):okL (ss.map .str)=true:=by
 unfold okL
 have:=zb5 (d:=0) (ts:=ss.map .str) fun t ht=>by
  obtain⟨s,hs,rfl⟩:=y0m.mp ht
  exact⟨by rw[PyData.canLay0];exact z87 (h s hs),by rw[y22];omega⟩
 rw[this.1,Bool.true_and]
 exact decide_eq_true (by omega)
theorem zah {ss:List Str} {t:T} {d:Nat} (h:∀s∈ss,asc (ls s)) (ht:Gd d t) (hd:d<=60:=by decide):oIn false t (.tuple (ss.map .str))=some (.bool (inB ss t)):=by
 simp only[oIn,ht.okT hd,z89 h,Bool.and_self,if_true,zdd]
 rfl
theorem zoc {ss:List Str} {t:T} {d:Nat} (h:∀s∈ss,asc (ls s)) (ht:Gd d t) (hd:d<=60:=by decide):oIn false t (.list (ss.map .str))=some (.bool (inB ss t)):=by
 simp only[oIn,ht.okT hd,z89 h,Bool.and_self,if_true,zdd]
 rfl
def ascB (ss:List Str):Bool:=ss.all fun s=>(ls s).all fun c=>decide (c<128)
theorem z9v {ss:List Str} (h:ascB ss=true):∀s∈ss,asc (ls s):=fun s hs a ha=>of_decide_eq_true (List.all_eq_true.mp (List.all_eq_true.mp h s hs) a ha)
def z46:List Str:=["day","inner","once","way"]
def zaf:List Str:=["shut","open","cut"]
theorem zbq:∀s∈z46,asc (ls s):=z9v (by decide +kernel)
theorem z8e:∀s∈z0q,asc (ls s):=z9v (by decide +kernel)
theorem zlm:∀s∈zaf,asc (ls s):=z9v (by decide +kernel)
theorem a_da:∀s∈(["set","unset"]:List Str),asc (ls s):=z9v (by decide +kernel)
theorem a_dz:∀s∈(["shunt","free"]:List Str),asc (ls s):=z9v (by decide +kernel)
theorem ix_0 {a:T} {r:List T}:oIx (.tuple (a::r)) (.int 0)=some a:=by
 simp only[oIx,atZ,ixOf]
 rw[if_pos (by decide),if_pos (by simp only[y0w];omega)]
 rfl
theorem ix_1 {a b:T} {r:List T}:oIx (.tuple (a::b::r)) (.int 1)=some b:=by
 simp only[oIx,atZ,ixOf]
 rw[if_pos (by decide),if_pos (by simp only[y0w];omega)]
 rfl
theorem ix_2 {a b c:T} {r:List T}:oIx (.tuple (a::b::c::r)) (.int 2)=some c:=by
 simp only[oIx,atZ,ixOf]
 rw[if_pos (by decide),if_pos (by simp only[y0w];omega)]
 rfl
theorem ix_3 {a b c d:T} {r:List T}:oIx (.tuple (a::b::c::d::r)) (.int 3)=some d:=by
 simp only[oIx,atZ,ixOf]
 rw[if_pos (by decide),if_pos (by simp only[y0w];omega)]
 rfl
theorem zm0 {t:T} {n:Nat} (h:tupB t n n=true):∃ts,t=.tuple ts/\ts.length=n:=by
 cases t with
 | tuple ts =>
  simp only[tupB,y1c,decide_eq_true_eq] at h
  exact⟨ts,rfl,by omega⟩
 | _=>simp[tupB] at h
theorem zm2 {t:T} (h:tupB t 2 2=true):∃a b,t=.tuple [a,b]:=by
 obtain⟨ts,rfl,hl⟩:=zm0 (n:=2) h
 match ts,hl with
 | [a,b],_=>exact⟨a,b,rfl⟩
theorem zh7 {t:T} (h:tupB t 3 3=true):∃a b c,t=.tuple [a,b,c]:=by
 obtain⟨ts,rfl,hl⟩:=zm0 (n:=3) h
 match ts,hl with
 | [a,b,c],_=>exact⟨a,b,c,rfl⟩
theorem zm1 {t:T} (h:tupB t 4 4=true):∃a b c d,t=.tuple [a,b,c,d]:=by
 obtain⟨ts,rfl,hl⟩:=zm0 (n:=4) h
 match ts,hl with
 | [a,b,c,d],_=>exact⟨a,b,c,d,rfl⟩
def z67 (t:T):Bool:=match t with
 | .tuple [a,b]=>z44 a && inB z46 b
 | _=>false
theorem zoq {d:Nat} {t:T} (h:Gd (d+1) t) (hd:d<=59):z4z [t]=some (.bool (z67 t)):=by
 refine z5o ?_
 have h1:opN z06 [(nmV 0),(cst (.int 2)),(cst (.int 2))] [some (.imm t)]=some (.bool (tupB t 2 2)):=by
  simp only[opN,args,nmV,cst,y27,y0p,y1r]
  exact z36 h.g
 cases hb:tupB t 2 2 with
 | false =>
  rw[hb] at h1
  refine (z0a h1 (b:=false) fun z=>by cases z).trans ?_
  have:z67 t=false:=by
   unfold z67
   split
   ·simp[tupB] at hb
   ·rfl
  rw[this]
  rfl
 | true =>
  obtain⟨a,b,rfl⟩:=zm2 hb
  have ha:=h.tup a (by simp)
  have hb2:=h.tup b (by simp)
  rw[hb] at h1
  refine (z0a h1 fun _=>z0a (a:=z44 a) (b:=inB z46 b) ?_ fun _=>?_).trans ?_
  ·rw[opN1 (t:=a) (by rw[z0c rfl rfl];exact ix_0)]
   exact zk1 ha.g
  ·rw[z0c (t:=b) (u:=.tuple (z46.map .str)) (by rw[z0c rfl rfl];exact ix_1) rfl]
   exact zah zbq hb2 (by omega)
  ·rfl
def fstS (t:T):Str:=match t with
 | .tuple (.str x::_)=>x
 | _=>⟨#[]⟩
def z4j (t:T):Bool:=match t with
 | .tuple ts=>decide (1<=ts.length) && decide (ts.length<=8) && ts.all z67 && z1e (ts.map fstS)
 | _=>false
theorem zcs {t:T} (h:z44 t=true):∃x,t=.str x:=by
 cases t with
 | str x=>exact⟨x,rfl⟩
 | _=>simp[z44,z79] at h
theorem znf {t:T} (h:figB t=true):∃x,t=.str x:=by
 cases t with
 | str x=>exact⟨x,rfl⟩
 | _=>simp[figB,z79] at h
theorem z8h {t:T} (h:z67 t=true):∃x k,t=.tuple [.str x,.str k]/\k∈z46/\z44 (.str x)=true:=by
 unfold z67 at h
 split at h
 next a b =>
  rw[y1c] at h
  obtain⟨x,rfl⟩:=zcs h.1
  cases b with
  | str k=>exact⟨x,k,rfl,of_decide_eq_true h.2,h.1⟩
  | _=>simp[inB] at h
 next=>cases h
theorem zde {ts:List T} {ε:Ev} (hε:nmV 0 ε=some (.tuple ts)) (hl:ts.length<=big) (h:∀t∈ts,∃x r,t=.tuple (.str x::r)):opN z47 [comp 1 [] (itA (nmV 0)) (gNm 0) (cstT true) (op2 oIx (nm 0) (cst (.int 0)))] ε=some (.bool (z1e (ts.map fstS))):=by
 rw[opN1 (t:=.list ((ts.map fstS).map .str)) (by
  rw[y2e]
  refine zdj (f:=y1v ∘ fstS) (ts:=ts) (by simp[itA,hε]) hl fun t ht=>?_
  obtain⟨x,r,rfl⟩:=h t ht
  rw[z0c rfl rfl]
  exact ix_0)]
 exact zhh (by rw[y14];exact hl)
theorem zff {d:Nat} {ts:List T} (h:Gd (d+2) (.tuple ts)) (hd:d<=50) {ε:Ev} (hε:nmV 0 ε=some (.tuple ts)) (hl:ts.length<=big):opN z71 [comp 1 [] (itA (nmV 0)) (gNm 0) (cstT true) (opN z4z [(nmV 0)])] ε=some (.bool (ts.all z67)) :=
 znr (by simp[itA,hε]) hl fun t ht=>by
  rw[opN1 (t:=t) rfl]
  exact zoq (h.tup t ht) (by omega)
theorem zfx {d:Nat} {t:T} (h:Gd (d+2) t) (hd:d<=50):z48 [t]=some (.bool (z4j t)):=by
 unfold z48 runF z9s
 show (seq _ _ [some (.imm t)]).bind _=_
 have h1:opN z06 [(nmV 0),(cst (.int 1)),(cst (.int 8))] [some (.imm t)]=some (.bool (tupB t 1 8)):=by
  simp only[opN,args,nmV,cst,y27,y0p,y1r]
  exact z36 h.g
 cases hb:tupB t 1 8 with
 | false =>
  rw[hb] at h1
  rw[z12 (a:=true) (z1o (a:=true) (b:=false) (z0j (z08 h1)) fun z=>by cases z),if_pos rfl,z1d (t:=.bool false) rfl]
  have:z4j t=false:=by
   unfold z4j
   split
   next ts =>
    have:(decide (1<=ts.length) && decide (ts.length<=8))=false:=by
     simp only[tupB] at hb
     rw[<- hb]
     congr 1 <;> (congr 1;apply propext;omega)
    rw[this]
    rfl
   next=>rfl
  rw[this]
  rfl
 | true =>
  cases t with
  | tuple ts =>
   have hl:decide (1<=ts.length)=true/\decide (ts.length<=8)=true:=by
    simp only[tupB,y1c,decide_eq_true_eq] at hb ⊢
    omega
   have hl8:=of_decide_eq_true hl.2
   have hlb:ts.length<=big:=by unfold big;omega
   have hc:orT (notT (tstB (opN z06 [(nmV 0),(cst (.int 1)),(cst (.int 8))]))) (notT (tstB (opN z71 [(comp 1 [] (itA (nmV 0)) (gNm 0) (cstT true) (opN z4z [(nmV 0)]))]))) [some (.imm (.tuple ts))]=some (false || !ts.all z67):=by
    rw[hb] at h1
    exact z1o (z0j (z08 h1)) fun _=>z0j (z08 (zff h hd rfl hlb))
   rw[z12 hc]
   cases ha:ts.all z67 with
   | false =>
    rw[if_pos (by rfl),z1d (t:=.bool false) rfl]
    simp only[z4j,ha,Bool.and_false,Bool.false_and]
    rfl
   | true =>
    rw[if_neg (by simp)]
    simp only[rtn]
    rw[zde (ts:=ts) rfl hlb fun t ht=>by
     obtain⟨x,k,rfl,_⟩:=z8h (List.all_eq_true.mp ha t ht)
     exact⟨x,_,rfl⟩]
    simp only[z4j,ha,hl.1,hl.2,Bool.true_and]
    rfl
  | _=>simp[tupB] at hb
end Fo
end
section
namespace Fo
open D Co PySem
def txS (t:T):Str:=match t with
 | .str x=>x
 | _=>⟨#[]⟩
theorem zps {ss:List Str} {t:T} (h:inB ss t=true):∃x,t=.str x/\x∈ss:=by
 cases t with
 | str x=>exact⟨x,rfl,of_decide_eq_true h⟩
 | _=>simp[inB] at h
def z5n (t:T):Bool:=match t with
 | .tuple ts=>decide (ts.length<=3) && (ts.all (inB z0q) && z1e (ts.map txS))
 | _=>false
theorem zhi {d:Nat} {t:T} (h:Gd (d+1) t) (hd:d<=50):z4p [t]=some (.bool (z5n t)):=by
 refine z5o ?_
 have h1:opN z06 [(nmV 0),(cst (.int 0)),(cst (.int 3))] [some (.imm t)]=some (.bool (tupB t 0 3)):=by
  simp only[opN,args,nmV,cst,y27,y0p,y1r]
  exact z36 h.g
 cases t with
 | tuple ts =>
  have e:tupB (.tuple ts) 0 3=decide (ts.length<=3):=by
   simp only[tupB]
   rw[decide_eq_true (show (0:Int)<=ts.length by omega),Bool.true_and]
   congr 1
   apply propext
   omega
  rw[e] at h1
  refine (z0a h1 fun hl=>?_).trans rfl
  have hl3:=of_decide_eq_true hl
  have hlb:ts.length<=big:=by unfold big;omega
  refine z0a (a:=ts.all (inB z0q)) (znr (ts:=ts) rfl hlb fun t ht=>?_) fun ha=>?_
  ·rw[z0c (t:=t) (u:=.tuple (z0q.map .str)) rfl rfl]
   exact zah z8e (h.tup t ht) (by omega)
  ·rw[opN1 (t:=.tuple ts) rfl]
   have e2:ts=(ts.map txS).map .str:=by
    rw[y2e]
    conv=>lhs;rw[<- List.map_id ts]
    refine List.map_congr_left fun t ht=>?_
    obtain⟨x,rfl,_⟩:=zps (List.all_eq_true.mp ha t ht)
    rfl
   rw[e2]
   rw[zji (by rw[y14];exact hlb),<- e2]
 | _=>exact (z0a (b:=false) h1 fun z=>by cases z).trans rfl
def codeB (t:T):Bool:=match t with
 | .tuple [f,w,r,u]=>figB f && (z44 w && (z5n r && z0v u 0 9))
 | _=>false
theorem ifF {f:Fe} {ε:Ev} {s2:Fs} (h:f ε=some (.bool false)):seq (iff (notT (tstB f)) (rtn (cst (.bool false))) skip) s2 ε=some (.rt (.bool false)):=by
 rw[z12 (z0j (z08 h)),if_pos (by rfl),z1d (t:=.bool false) rfl]
theorem ifT {f:Fe} {ε:Ev} {s2:Fs} (h:f ε=some (.bool true)):seq (iff (notT (tstB f)) (rtn (cst (.bool false))) skip) s2 ε=s2 ε:=by
 rw[z12 (z0j (z08 h)),if_neg (by simp)]
theorem znm {d:Nat} {t:T} (h:Gd (d+2) t) (hd:d<=50):z52 [t]=some (.bool (codeB t)):=by
 unfold z52 runF ze5
 show (seq _ _ [some (.imm t)]).bind _=_
 have h1:opN z06 [(nmV 0),(cst (.int 4)),(cst (.int 4))] [some (.imm t)]=some (.bool (tupB t 4 4)):=by
  simp only[opN,args,nmV,cst,y27,y0p,y1r]
  exact z36 h.g
 cases hb:tupB t 4 4 with
 | false =>
  rw[hb] at h1
  rw[ifF h1]
  have:codeB t=false:=by
   unfold codeB
   split
   ·simp[tupB] at hb
   ·rfl
  rw[this]
  rfl
 | true =>
  rw[hb] at h1
  rw[ifT h1]
  obtain⟨f,w,r,u,rfl⟩:=zm1 hb
  have hf:=h.tup f (by simp)
  have hw:=h.tup w (by simp)
  have hr:=h.tup r (by simp)
  have hu:=h.tup u (by simp)
  simp only[rtn]
  rw[z0a (a:=figB f) (b:=z44 w && (z5n r && z0v u 0 9)) (by rw[opN1 (t:=f) (by rw[z0c rfl rfl];exact ix_0)];exact zai hf.g) fun _ =>
   z0a (by rw[opN1 (t:=w) (by rw[z0c rfl rfl];exact ix_1)];exact zk1 hw.g) fun _ =>
   z0a (by rw[opN1 (t:=r) (by rw[z0c rfl rfl];exact ix_2)];exact zhi hr hd) fun _=>by
    simp only[opN,args,cst,y0p,y1r]
    rw[show op2 oIx (nm 0) (cst (.int 3)) [some (.imm (.tuple [f,w,r,u]))]=some u from by rw[z0c rfl rfl];exact ix_3]
    exact zbr hu.g]
  rfl
def z4q (t:T):Bool:=match t with
 | .tuple ts=>decide (1<=ts.length) && decide (ts.length<=6) && ts.all codeB && z1e (ts.map fstS)
 | _=>false
theorem z9i {t:T} (h:codeB t=true):∃f w r u,t=.tuple [.str f,.str w,r,u]/\figB (.str f)=true/\z44 (.str w)=true/\z5n r=true/\z0v u 0 9=true:=by
 unfold codeB at h
 split at h
 next f w r u =>
  simp only[y1c] at h
  obtain⟨h1,h2,h3,h4⟩:=h
  obtain⟨x,rfl⟩:=znf h1
  obtain⟨y,rfl⟩:=zcs h2
  exact⟨x,y,r,u,rfl,h1,h2,h3,h4⟩
 next=>cases h
theorem znl {d:Nat} {t:T} (h:Gd (d+3) t) (hd:d<=50):z4a [t]=some (.bool (z4q t)):=by
 unfold z4a runF z9u
 show (seq _ _ [some (.imm t)]).bind _=_
 have h1:opN z06 [(nmV 0),(cst (.int 1)),(cst (.int 6))] [some (.imm t)]=some (.bool (tupB t 1 6)):=by
  simp only[opN,args,nmV,cst,y27,y0p,y1r]
  exact z36 h.g
 cases hb:tupB t 1 6 with
 | false =>
  rw[hb] at h1
  rw[z12 (a:=true) (z1o (a:=true) (b:=false) (z0j (z08 h1)) fun z=>by cases z),if_pos rfl,z1d (t:=.bool false) rfl]
  have:z4q t=false:=by
   unfold z4q
   split
   next ts =>
    have:(decide (1<=ts.length) && decide (ts.length<=6))=false:=by
     simp only[tupB] at hb
     rw[<- hb]
     congr 1 <;> (congr 1;apply propext;omega)
    rw[this]
    rfl
   next=>rfl
  rw[this]
  rfl
 | true =>
  cases t with
  | tuple ts =>
   have hl:decide (1<=ts.length)=true/\decide (ts.length<=6)=true:=by
    simp only[tupB,y1c,decide_eq_true_eq] at hb ⊢
    omega
   have hl8:=of_decide_eq_true hl.2
   have hlb:ts.length<=big:=by unfold big;omega
   have hc:orT (notT (tstB (opN z06 [(nmV 0),(cst (.int 1)),(cst (.int 6))]))) (notT (tstB (opN z71 [(comp 1 [] (itA (nmV 0)) (gNm 0) (cstT true) (opN z52 [(nmV 0)]))]))) [some (.imm (.tuple ts))]=some (false || !ts.all codeB):=by
    rw[hb] at h1
    exact z1o (z0j (z08 h1)) fun _=>z0j (z08 (znr (ts:=ts) rfl hlb fun t ht=>by
     rw[opN1 (t:=t) rfl]
     exact znm (h.tup t ht) hd))
   rw[z12 hc]
   cases ha:ts.all codeB with
   | false =>
    rw[if_pos (by rfl),z1d (t:=.bool false) rfl]
    simp only[z4q,ha,Bool.and_false,Bool.false_and]
    rfl
   | true =>
    rw[if_neg (by simp)]
    simp only[rtn]
    rw[zde (ts:=ts) rfl hlb fun t ht=>by
     obtain⟨x,w,r,u,rfl,_⟩:=z9i (List.all_eq_true.mp ha t ht)
     exact⟨x,_,rfl⟩]
    simp only[z4q,ha,hl.1,hl.2,Bool.true_and]
    rfl
  | _=>simp[tupB] at hb
def z6s (t:T):Bool:=match t with
 | .tuple [a,b,c]=>z0v a 0 60 && (z0v b 0 60 && z0v c 1 300)
 | _=>false
theorem w_ix {ε:Ev} {e:Fe} {u:T} {lo hi:Int} (he:e ε=some u) (hu:gd u=true):opN z1n [e,cst (.int lo),cst (.int hi)] ε=some (.bool (z0v u lo hi)):=by
 simp only[opN,args,cst,y0p,y1r,he]
 exact zbr hu
theorem zm3 {d:Nat} {t:T} (h:Gd (d+1) t):z49 [t]=some (.bool (z6s t)):=by
 unfold z49 runF z9t
 show (seq _ _ [some (.imm t)]).bind _=_
 have h1:opN z06 [(nmV 0),(cst (.int 3)),(cst (.int 3))] [some (.imm t)]=some (.bool (tupB t 3 3)):=by
  simp only[opN,args,nmV,cst,y27,y0p,y1r]
  exact z36 h.g
 cases hb:tupB t 3 3 with
 | false =>
  rw[hb] at h1
  rw[ifF h1]
  have:z6s t=false:=by
   unfold z6s
   split
   ·simp[tupB] at hb
   ·rfl
  rw[this]
  rfl
 | true =>
  rw[hb] at h1
  rw[ifT h1]
  obtain⟨a,b,c,rfl⟩:=zh7 hb
  have ha:=h.tup a (by simp)
  have hb:=h.tup b (by simp)
  have hc:=h.tup c (by simp)
  simp only[rtn]
  rw[z0a (a:=z0v a 0 60) (b:=z0v b 0 60 && z0v c 1 300) (w_ix (by rw[z0c rfl rfl];exact ix_0) ha.g) fun _ =>
   z0a (w_ix (by rw[z0c rfl rfl];exact ix_1) hb.g) fun _=>w_ix (by rw[z0c rfl rfl];exact ix_2) hc.g]
  rfl
def z5h (t:T):Bool:=match t with
 | .tuple [z,c,m]=>z4j z && (z4q c && z6s m)
 | _=>false
theorem zge {d:Nat} {t:T} (h:Gd (d+4) t) (hd:d<=40):z50 [t]=some (.bool (z5h t)):=by
 refine z5o ?_
 have h1:opN z06 [(nmV 0),(cst (.int 3)),(cst (.int 3))] [some (.imm t)]=some (.bool (tupB t 3 3)):=by
  simp only[opN,args,nmV,cst,y27,y0p,y1r]
  exact z36 h.g
 cases hb:tupB t 3 3 with
 | false =>
  rw[hb] at h1
  refine (z0a h1 (b:=false) fun z=>by cases z).trans ?_
  have:z5h t=false:=by
   unfold z5h
   split
   ·simp[tupB] at hb
   ·rfl
  rw[this]
  rfl
 | true =>
  obtain⟨z,c,m,rfl⟩:=zh7 hb
  have hz:=h.tup z (by simp)
  have hc:=h.tup c (by simp)
  have hm:=h.tup m (by simp)
  rw[hb] at h1
  refine (z0a h1 fun _=>z0a (a:=z4j z) (b:=z4q c && z6s m) ?_ fun _=>z0a ?_ fun _=>?_).trans rfl
  ·rw[opN1 (t:=z) (by rw[z0c rfl rfl];exact ix_0)]
   exact zfx (d:=d+1) hz (by omega)
  ·rw[opN1 (t:=c) (by rw[z0c rfl rfl];exact ix_1)]
   exact znl hc (by omega)
  ·rw[opN1 (t:=m) (by rw[z0c rfl rfl];exact ix_2)]
   exact zm3 hm
def zpm (t:T):Bool:=match t with
 | .none=>true
 | _=>false
theorem zt5 {f:Fe} {ε:Ev} {t:T} (h:f ε=some t):op1 oIsN f ε=some (.bool (zpm t)):=by
 rw[z17 h]
 cases t <;> rfl
end Fo
end
section
namespace Fo
open D Co PySem
def z2v (p:Pl):List Str:=p.zones.map (·.1)
structure Pok (p:Pl):Prop where
 z:∀s∈z2v p,asc (ls s)
 l:p.zones.length<=1000
theorem zfy {p:Pl} (hp:Pok p) {d:Nat} {t:T} (ht:Gd d t) (hd:d<=60):z3q [encP p,t]=some (.bool (inB (z2v p) t)):=by
 refine z5o ?_
 have e:comp 1 [] (itA (op2 oIx (nm 0) (cst (.int 0)))) (gNm 0) (cstT true) (op2 oIx (nm 0) (cst (.int 0))) [some (.imm (encP p)),some (.imm t)]=some (.list ((z2v p).map .str)):=by
  rw[zdj (f:=fun t=>.str (fstS t)) (ts:=p.zones.map encZ) (by
   simp only[itA]
   rw[z0c (t:=encP p) rfl rfl,show oIx (encP p) (.int 0)=some (.tuple (p.zones.map encZ)) from ix_0]
   rfl) (by rw[y14];have:=hp.l;unfold big;omega) fun t ht=>by
    obtain⟨z,_,rfl⟩:=y0m.mp ht
    rw[z0c rfl rfl]
    exact ix_0]
  simp only[y2e,z2v]
  rfl
 show op2 (oIn false) (nm 1) _ [some (.imm (encP p)),some (.imm t)]=_
 rw[z0c (t:=t) rfl e]
 exact zoc hp.z ht hd
def eqS (s:Str) (t:T):Bool:=match t with
 | .str x=>decide (x=s)
 | _=>false
theorem zgq (s:Str) (t:T):y1y t (.str s)=eqS s t:=by
 cases t with
 | str x =>
  rw[y1y,Bool.eq_iff_iff]
  simp[eqS]
 | _=>simp[y1y,eqS]
theorem eq_s {d:Nat} {f:Fe} {ε:Ev} {t:T} {s:Str} (h:f ε=some t) (ht:Gd d t) (hs:asc (ls s)) (hd:d<=60:=by decide):op2 oEq f (cst (.str s)) ε=some (.bool (eqS s t)):=by
 rw[z0c h rfl]
 simp only[oEq,ht.okT hd,show okT (.str s)=true from Co.okN.okT (d:=0) ⟨by rw[PyData.canLay0];exact z87 hs,by rw[y22];omega⟩,Bool.and_self,if_true,zgq]
theorem ne_s {d:Nat} {f:Fe} {ε:Ev} {t:T} {s:Str} (h:f ε=some t) (ht:Gd d t) (hs:asc (ls s)) (hd:d<=60:=by decide):op2 oNe f (cst (.str s)) ε=some (.bool !(eqS s t)):=by
 rw[z0c h rfl]
 simp only[oNe,ht.okT hd,show okT (.str s)=true from Co.okN.okT (d:=0) ⟨by rw[PyData.canLay0];exact z87 hs,by rw[y22];omega⟩,Bool.and_self,if_true,zgq]
theorem z78 {s:Str} (h:((ls s).all fun c=>decide (c<128))=true:=by decide +kernel):asc (ls s):=fun a ha=>of_decide_eq_true (List.all_eq_true.mp h a ha)
theorem zok:asc (ls "line"):=z78
theorem zol:asc (ls "code"):=z78
theorem zll:asc (ls "ticks"):=z78
def z6h (p:Pl) (t:T):Bool:=match t with
 | .tuple [a,z,w]=>eqS "line" a && (inB (z2v p) z && inB zaf w)
 | _=>false
theorem zn2 {p:Pl} (hp:Pok p) {d:Nat} {t:T} (h:Gd (d+1) t) (hd:d<=50):z2p [encP p,t]=some (.bool (z6h p t)):=by
 refine z5o ?_
 have h1:opN z06 [(nmV 1),(cst (.int 3)),(cst (.int 3))] [some (.imm (encP p)),some (.imm t)]=some (.bool (tupB t 3 3)):=by
  simp only[opN,args,nmV,cst,y27,y28,y0p,y1r]
  exact z36 h.g
 cases hb:tupB t 3 3 with
 | false =>
  rw[hb] at h1
  refine (z0a h1 (b:=false) fun z=>by cases z).trans ?_
  have:z6h p t=false:=by
   unfold z6h
   split
   ·simp[tupB] at hb
   ·rfl
  rw[this]
  rfl
 | true =>
  obtain⟨a,z,w,rfl⟩:=zh7 hb
  have ha:=h.tup a (by simp)
  have hz:=h.tup z (by simp)
  have hw:=h.tup w (by simp)
  rw[hb] at h1
  refine (z0a h1 fun _=>z0a (eq_s (t:=a) (by rw[z0c rfl rfl];exact ix_0) ha zok (by omega)) fun _=>z0a (a:=inB (z2v p) z) ?_ fun _=>?_).trans rfl
  ·rw[opN2 (t:=encP p) (u:=z) rfl (by rw[z0c rfl rfl];exact ix_1)]
   exact zfy hp hz (by omega)
  ·rw[z0c (t:=w) (u:=.tuple (zaf.map .str)) (by rw[z0c rfl rfl];exact ix_2) rfl]
   exact zah zlm hw (by omega)
noncomputable def z3b (p:Pl) (t:T):Bool:=match t with
 | .tuple [a,f,e,z]=>eqS "code" a && (figB f && (if inB ["set","unset"] e=true then zpm z else inB ["shunt","free"] e && inB (z2v p) z))
 | _=>false
theorem zl4 {p:Pl} (hp:Pok p) {d:Nat} {t:T} (h:Gd (d+1) t) (hd:d<=50):z1x [encP p,t]=some (.bool (z3b p t)):=by
 unfold z1x runF z5z
 show (seq _ _ [some (.imm (encP p)),some (.imm t)]).bind _=_
 have h1:opN z06 [(nmV 1),(cst (.int 4)),(cst (.int 4))] [some (.imm (encP p)),some (.imm t)]=some (.bool (tupB t 4 4)):=by
  simp only[opN,args,nmV,cst,y27,y28,y0p,y1r]
  exact z36 h.g
 cases hb:tupB t 4 4 with
 | false =>
  rw[hb] at h1
  rw[z12 (a:=true) (z1o (a:=true) (b:=false) (z0j (z08 h1)) fun z=>by cases z),if_pos rfl,z1d (t:=.bool false) rfl]
  have:z3b p t=false:=by
   unfold z3b
   split
   ·simp[tupB] at hb
   ·rfl
  rw[this]
  rfl
 | true =>
  obtain⟨a,f,e,z,rfl⟩:=zm1 hb
  have ha:=h.tup a (by simp)
  have hf:=h.tup f (by simp)
  have he:=h.tup e (by simp)
  have hz:=h.tup z (by simp)
  rw[hb] at h1
  generalize hε:[some (Sl.imm (encP p)),some (.imm (.tuple [a,f,e,z]))]=ε at *
  have e0:op2 oIx (nm 1) (cst (.int 0)) ε=some a:=by subst hε;rw[z0c rfl rfl];exact ix_0
  have e1:op2 oIx (nm 1) (cst (.int 1)) ε=some f:=by subst hε;rw[z0c rfl rfl];exact ix_1
  have e2:op2 oIx (nm 1) (cst (.int 2)) ε=some e:=by subst hε;rw[z0c rfl rfl];exact ix_2
  have e3:op2 oIx (nm 1) (cst (.int 3)) ε=some z:=by subst hε;rw[z0c rfl rfl];exact ix_3
  have hc:=z1o (z0j (z08 h1)) fun _=>z1o (z08 (ne_s e0 ha zol (by omega))) fun _=>z0j (z08 (show opN z1w [(op2 oIx (nm 1) (cst (.int 1)))] ε=some (.bool (figB f)) by rw[opN1 e1];exact zai hf.g))
  rw[z12 hc]
  cases hq:(eqS "code" a && figB f) with
  | false =>
   rw[if_pos (by
    rw[<- Bool.not_and,hq]
    rfl),z1d (t:=.bool false) rfl]
   simp only[z3b]
   rw[<- Bool.and_assoc,hq,Bool.false_and]
   rfl
  | true =>
   rw[if_neg (by
    rw[<- Bool.not_and,hq]
    simp)]
   have hs:op2 (oIn false) (op2 oIx (nm 1) (cst (.int 2))) (cst (.tuple (z7a ["set","unset"]))) ε=some (.bool (inB ["set","unset"] e)):=by
    rw[z0c (t:=e) (u:=.tuple ((["set","unset"]:List Str).map .str)) e2 rfl]
    exact zah a_da he (by omega)
   rw[z12 (z08 hs)]
   simp only[z3b]
   rw[<- Bool.and_assoc,hq,Bool.true_and]
   cases hi:inB ["set","unset"] e with
   | true =>
    rw[if_pos rfl,z1d (zt5 e3),if_pos rfl]
    rfl
   | false =>
    rw[if_neg (by simp),if_neg (by simp)]
    simp only[rtn]
    rw[z0a (a:=inB ["shunt","free"] e) (b:=inB (z2v p) z) (by
     rw[z0c (t:=e) (u:=.tuple ((["shunt","free"]:List Str).map .str)) e2 rfl]
     exact zah a_dz he (by omega)) fun _=>by
     rw[opN2 (t:=encP p) (u:=z) (by subst hε;rfl) e3]
     exact zfy hp hz (by omega)]
    rfl
def posB (t:T):Bool:=match t with
 | .int i=>decide (1<=i)
 | _=>false
def z3s (t:T):Bool:=match t with
 | .tuple [a,n]=>eqS "ticks" a && (z6d n && posB n)
 | _=>false
theorem zj0 {d:Nat} {t:T} (h:Gd (d+1) t) (hd:d<=50):z29 [t]=some (.bool (z3s t)):=by
 refine z5o ?_
 have h1:opN z06 [(nmV 0),(cst (.int 2)),(cst (.int 2))] [some (.imm t)]=some (.bool (tupB t 2 2)):=by
  simp only[opN,args,nmV,cst,y27,y0p,y1r]
  exact z36 h.g
 cases hb:tupB t 2 2 with
 | false =>
  rw[hb] at h1
  refine (z0a h1 (b:=false) fun z=>by cases z).trans ?_
  have:z3s t=false:=by
   unfold z3s
   split
   ·simp[tupB] at hb
   ·rfl
  rw[this]
  rfl
 | true =>
  obtain⟨a,n,rfl⟩:=zm2 hb
  have ha:=h.tup a (by simp)
  have hn:=h.tup n (by simp)
  rw[hb] at h1
  refine (z0a h1 fun _=>z0a (eq_s (t:=a) (by rw[z0c rfl rfl];exact ix_0) ha zll (by omega)) fun _=>z0a (a:=z6d n) (b:=posB n) ?_ fun hw=>?_).trans rfl
  ·rw[opN1 (t:=n) (by rw[z0c rfl rfl];exact ix_1)]
   exact zfz hn.g
  ·cases n with
   | int i =>
    rw[z0c (t:=.int i) (u:=.int 1) (by rw[z0c rfl rfl];exact ix_1) rfl]
    rfl
   | _=>simp[z6d] at hw
def z39 (p:Pl) (t:T):Bool:=z6h p t || (z3b p t || z3s t)
theorem zdg {p:Pl} (hp:Pok p) {d:Nat} {t:T} (h:Gd (d+1) t) (hd:d<=50):z3p [encP p,t]=some (.bool (z39 p t)):=by
 refine z5o ?_
 refine (zri (a:=z6h p t) (b:=z3b p t || z3s t) ?_ fun _=>zri ?_ fun _=>?_).trans rfl
 ·rw[opN2 (t:=encP p) (u:=t) rfl rfl]
  exact zn2 hp h hd
 ·rw[opN2 (t:=encP p) (u:=t) rfl rfl]
  exact zl4 hp h hd
 ·rw[opN1 (t:=t) rfl]
  exact zj0 h hd
end Fo
end
section
namespace Fo
open D Co PySem
def W64:Int:=10 ^ 64
theorem zsf:W64<2 ^ 213:=by decide +kernel
theorem zo9 {a:Int} (h0:0<=a) (h:a<W64):zk6 a=true:=by
 unfold zk6
 refine decide_eq_true ?_
 have h1:=zsf
 have h2:a.natAbs<2 ^ 213:=by
  have e:((2 ^ 213:Nat):Int)=2 ^ 213:=by norm_cast
  have:a<((2 ^ 213:Nat):Int):=by rw[e];exact Int.lt_trans h h1
  generalize 2 ^ 213=q at this ⊢
  omega
 by_cases hz:a.natAbs=0
 ·rw[hz]
  decide
 ·have:=(Nat.log2_lt hz).mpr h2
  omega
def dig (l:List Nat):Prop:=NumText.AllDigits l
theorem zg4 {a:Int} (h:0<=a):strI a=strI ((a.toNat:Nat):Int):=by rw[Int.toNat_of_nonneg h]
theorem zbx {a:Int} (h:0<=a):dig (ls (strI a)):=by
 rw[zg4 h]
 exact zm7 _
def dv (l:List Nat):Nat:=NumText.digitsVal l
end Fo
end
section
namespace Ho
open D
noncomputable def z7o:Fs :=
  (rtn (opN z43 [(opN z1l [(comp 1 [] (z2s (op2 oIx (nm 0) (cst (.int 1)))) (gNm 0) (tstB (op1 z69 (op2 oIx (nm 0) (cst (.int 2))))) (op2 oIx (nm 0) (cst (.int 2))))])]))
def zak:List T->Option T:=runF z7o 1
def z2f:Fs :=
  (seq (iff (tstB (op2 oLt (nm 1) (opN oLen [(nm 0)]))) (rtn (op2 oIx (nm 0) (nm 1))) skip)
  (rtn (cst (.int 0))))
def z0s:List T->Option T:=runF z2f 2
noncomputable def z4e:Fs :=
  (seq (asg 2 (op2 oMod (op2 oMul (op2 oAdd (op2 oAdd (opN z0s [(nmV 0),(nmV 1)]) (op2 oMul (cst (.int 7919)) (nm 1))) (cst (.int 1))) (cst (.int 48271))) (cst (.int 2147483647))))
  (rtn (op2 oMod (op2 oAdd (op2 oAdd (op2 oMul (nm 2) (nm 2)) (op2 oMul (cst (.int 7)) (nm 2))) (nm 1)) (cst (.int 2147483629)))))
def z0r:List T->Option T:=runF z4e 3
noncomputable def z4f:Fs :=
  (seq (asg 2 (op2 oMod (op2 oMul (op2 oAdd (op2 oAdd (nm 0) (op2 oMul (cst (.int 104729)) (nm 1))) (cst (.int 17))) (cst (.int 69621))) (cst (.int 2147483647))))
  (rtn (op2 oMod (op2 oAdd (op2 oAdd (op2 oMul (nm 2) (nm 2)) (op2 oMul (cst (.int 3)) (nm 2))) (nm 1)) (cst (.int 2147483629)))))
def z0x:List T->Option T:=runF z4f 3
end Ho
end
section
namespace Hg
def adj (e:Int×Int) (x:Int):Option Int:=if e.1=x then some e.2 else if e.2=x then some e.1 else none
def Within (R:Int) (E:List (Int×Int)):Prop:=∀e∈E,0<=e.1/\e.1<=R/\0<=e.2/\e.2<=R
noncomputable def inner (h:Int):List (Int×Int)->List Int->List Int->List Int×List Int
 | [],r,w=>(r,w)
 | e::es,r,w=>match adj e h with
  | some t=>if t∈r then inner h es r w else inner h es (r++[t]) (w++[t])
  | none=>inner h es r w
end Hg
end
section
namespace Ho
open PySem D
abbrev Op:=Int×Int×Option Str
def zT:Option Str->T
 | none=>.none
 | some x=>.str x
def opT (o:Op):T:=.tuple [.int o.1,.int o.2.1,zT o.2.2]
def z99 (R:Int) (os:List Op):T:=.tuple [.int R,.tuple (os.map opT)]
def free (ns:List Str) (o:Op):Bool:=match o.2.2 with
 | none=>true
 | some x=>decide (x∈ns)
theorem oEq_int (a b:Int):oEq (.int a) (.int b)=some (.bool (decide (a=b))):=by
 simp[oEq,zet,y1y,Bool.beq_eq_decide_eq]
theorem seq_nx {a b:Fs} {ε ε':Ev} (h:a ε=some (.nx ε')):seq a b ε=b ε':=by
 simp only[seq,h,y0p]
theorem z7j:∀(os:List Op) (j:Option Sl),z34 (gNm 0) (tstB (op1 z69 (op2 oIx (nm 0) (cst (.int 2))))) (op2 oIx (nm 0) (cst (.int 2))) (os.map opT) [j]=some ((os.filterMap (·.2.2)).map .str)
  | [],j=>rfl
  | (a,b,none)::os,j=>by
    have ih:=z7j os (some (.imm (opT (a,b,none))))
    simp[z34,runF,seq,iff,tstB,tstL,andT,orT,notT,cstT,ofT,op1,op2,opN,args,cst,nm,nmV,rtn,skip,asg,asgN,asgT,par,z04,z11,oIsN,z69,oIx,atZ,ixOf,gNm,gTu,gAll,z2s,comp,z22,opT,zT] at ih ⊢
    exact ih
  | (a,b,some x)::os,j=>by
    have ih:=z7j os (some (.imm (opT (a,b,some x))))
    simp[z34,runF,seq,iff,tstB,tstL,andT,orT,notT,cstT,ofT,op1,op2,opN,args,cst,nm,nmV,rtn,skip,asg,asgN,asgT,par,z04,z11,oIsN,z69,oIx,atZ,ixOf,gNm,gTu,gAll,z2s,comp,z22,opT,zT] at ih ⊢
    exact ih
def ziu (os:List Op):List Str:=z5g (dedup (os.filterMap (·.2.2)))
theorem zfe:∀(ss:List Str),ss≠[]->intsOf (ss.map .str)=none
 | [],h=>absurd rfl h
 | x::r,_=>rfl
theorem z8j:∀(ss:List Str),strsOf (ss.map .str)=some ss
 | []=>rfl
 | x::r=>by
  simp only[y0d,strsOf,z8j r]
  rfl
theorem zfx {R:Int} {os:List Op} (hl:os.length<=10):zak [z99 R os]=some (.tuple ((ziu os).map .str)):=by
 have hit:z2s (op2 oIx (nm 0) (cst (.int 1))) [some (.imm (z99 R os))]=some (os.map opT):=by
  simp[z2s,op2,nm,z99,oIx,cst,atZ,ixOf]
 have hcap:z22 1 [] [some (.imm (z99 R os))]=[none]:=rfl
 have hc:comp 1 [] (z2s (op2 oIx (nm 0) (cst (.int 1)))) (gNm 0) (tstB (op1 z69 (op2 oIx (nm 0) (cst (.int 2))))) (op2 oIx (nm 0) (cst (.int 2))) [some (.imm (z99 R os))]=some (.list ((os.filterMap (·.2.2)).map .str)):=by
  simp only[comp,hit,y0p,hcap,z7j,y14]
  rw[if_pos (by unfold big;omega)]
  rfl
 have hz:(os.filterMap (·.2.2)).length<64:=Nat.lt_of_le_of_lt (List.length_filterMap_le _ _) (by omega)
 have hs:z1l [.list ((os.filterMap (·.2.2)).map .str)]=some (.list ((ziu os).map .str)):=by
  unfold z1l
  simp only[y14]
  rw[if_pos hz]
  by_cases he:os.filterMap (·.2.2)=[]
  ·simp only[ziu,he]
   rfl
  ·rw[zfe _ he,z8j]
   rfl
 have e0:zak [z99 R os]=(z7o [some (.imm (z99 R os))]).bind fun o=>match o with|.rt t=>some t|.nx _=>some .none|_=>none:=rfl
 rw[e0]
 simp only[z7o,rtn,opN,args,hc,y0p,y1r,hs,z43]
end Ho
end
section
namespace Ho
open PySem D
end Ho
end
section
namespace Ho
open PySem D
def z0b (ns:List Int):T:=.list (ns.map .int)
theorem zfk (ns:List Int) (k:Nat):z0s [z0b ns,.int k]=some (.int (ns.getD k 0)):=by
 by_cases h:k<ns.length
 ·have h':(k:Int)<(ns.length:Int):=by omega
  simp[z0s,z2f,z0b,runF,seq,iff,tstB,tstL,andT,orT,notT,cstT,ofT,op1,op2,opN,args,cst,nm,nmV,rtn,skip,asg,asgN,asgT,par,z04,z11,oIsN,z69,oIx,atZ,ixOf,gNm,gTu,gAll,z2s,comp,z22,oAdd,oSub,oMul,oDiv,oMod,oNeg,oLen,oMin,oMax,z43,z9y,oInt,oLt,oLe,oGt,oGe,big,h,h',List.getD]
 ·have h':¬(k:Int)<(ns.length:Int):=by omega
  simp[z0s,z2f,z0b,runF,seq,iff,tstB,tstL,andT,orT,notT,cstT,ofT,op1,op2,opN,args,cst,nm,nmV,rtn,skip,asg,asgN,asgT,par,z04,z11,oIsN,z69,oIx,atZ,ixOf,gNm,gTu,gAll,z2s,comp,z22,oAdd,oSub,oMul,oDiv,oMod,oNeg,oLen,oMin,oMax,z43,z9y,oInt,oLt,oLe,oGt,oGe,big,h,h',List.getD]
theorem mul_ok {i j:Int} (h:-(2 ^ 64)<j/\j<2 ^ 64):oMul (.int i) (.int j)=some (.int (i*j)):=by
 unfold oMul zhz
 simp only[decide_eq_true h.1,decide_eq_true h.2,Bool.and_self,Bool.or_true,if_true]
theorem z6e {i j:Int} (h:0<j):oMod (.int i) (.int j)=some (.int (i % j)):=if_pos h
theorem zog {i j:Int} (h:0<j/\j<1073741824):oDiv (.int i) (.int j)=some (.int (i / j)):=if_pos h
theorem z4h {i j:Int}:oAdd (.int i) (.int j)=some (.int (i+j)):=rfl
theorem mixed_eq (ns:List Int) (k:Nat):∃m:Int,0<=m/\z0r [z0b ns,.int k]=some (.int m):=by
 have hc:=zfk ns k
 have hd:0<=(ns.getD k 0+7919*(k:Int)+1)*48271 % 2147483647/\(ns.getD k 0+7919*(k:Int)+1)*48271 % 2147483647<2147483647:=⟨y2c _ (by decide),y2d _ (by decide)⟩
 generalize hx:(ns.getD k 0+7919*(k:Int)+1)*48271 % 2147483647=d at hd
 refine⟨(d*d+7*d+k) % 2147483629,y2c _ (by decide),?_⟩
 have e0:z0r [z0b ns,.int k]=(z4e [some (.imm (z0b ns)),some (.imm (.int k)),none]).bind fun o=>match o with|.rt t=>some t|.nx _=>some .none|_=>none:=rfl
 have m1:oMul (.int 7919) (.int k)=some (.int (7919*k)):=by
  unfold oMul zhz
  simp
 have n0:nmV 0 [some (.imm (z0b ns)),some (.imm (.int k)),none]=some (z0b ns):=rfl
 have n1:nmV 1 [some (.imm (z0b ns)),some (.imm (.int k)),none]=some (.int k):=rfl
 have n1':nm 1 [some (.imm (z0b ns)),some (.imm (.int k)),none]=some (.int k):=rfl
 have s1:asg 2 (op2 oMod (op2 oMul (op2 oAdd (op2 oAdd (opN z0s [(nmV 0),(nmV 1)]) (op2 oMul (cst (.int 7919)) (nm 1))) (cst (.int 1))) (cst (.int 48271))) (cst (.int 2147483647))) [some (.imm (z0b ns)),some (.imm (.int k)),none]=some (.nx [some (.imm (z0b ns)),some (.imm (.int k)),some (.imm (.int d))]):=by
  simp only[asg,op2,opN,args,n0,n1,n1',y0p,y1r,hc,cst,m1,z4h,mul_ok (i:=ns.getD k 0+7919*(k:Int)+1) (j:=48271) (by decide),z6e (j:=2147483647) (by decide),hx]
  rfl
 have m2:oMul (.int d) (.int d)=some (.int (d*d)):=mul_ok (by omega)
 have m3:oMul (.int 7) (.int d)=some (.int (7*d)):=mul_ok (by omega)
 rw[e0]
 unfold z4e
 rw[seq_nx s1]
 have q2:nm 2 [some (.imm (z0b ns)),some (.imm (.int k)),some (.imm (.int d))]=some (.int d):=rfl
 have q1:nm 1 [some (.imm (z0b ns)),some (.imm (.int k)),some (.imm (.int d))]=some (.int k):=rfl
 simp only[rtn,op2,q2,q1,y0p,y1r,cst,m2,m3,z4h,z6e (j:=2147483629) (by decide)]
theorem drawn_eq (n k:Int) (hk:-(2 ^ 64)<k/\k<2 ^ 64):∃m:Int,0<=m/\z0x [.int n,.int k]=some (.int m):=by
 have hd:0<=(n+104729*k+17)*69621 % 2147483647/\(n+104729*k+17)*69621 % 2147483647<2147483647:=⟨y2c _ (by decide),y2d _ (by decide)⟩
 generalize hx:(n+104729*k+17)*69621 % 2147483647=d at hd
 refine⟨(d*d+3*d+k) % 2147483629,y2c _ (by decide),?_⟩
 have e0:z0x [.int n,.int k]=(z4f [some (.imm (.int n)),some (.imm (.int k)),none]).bind fun o=>match o with|.rt t=>some t|.nx _=>some .none|_=>none:=rfl
 have m1:oMul (.int 104729) (.int k)=some (.int (104729*k)):=mul_ok hk
 have n0:nm 0 [some (.imm (.int n)),some (.imm (.int k)),none]=some (.int n):=rfl
 have n1:nm 1 [some (.imm (.int n)),some (.imm (.int k)),none]=some (.int k):=rfl
 have s1:asg 2 (op2 oMod (op2 oMul (op2 oAdd (op2 oAdd (nm 0) (op2 oMul (cst (.int 104729)) (nm 1))) (cst (.int 17))) (cst (.int 69621))) (cst (.int 2147483647))) [some (.imm (.int n)),some (.imm (.int k)),none]=some (.nx [some (.imm (.int n)),some (.imm (.int k)),some (.imm (.int d))]):=by
  simp only[asg,op2,n0,n1,y0p,y1r,cst,m1,z4h,mul_ok (i:=n+104729*k+17) (j:=69621) (by decide),z6e (j:=2147483647) (by decide),hx]
  rfl
 have m2:oMul (.int d) (.int d)=some (.int (d*d)):=mul_ok (by omega)
 have m3:oMul (.int 3) (.int d)=some (.int (3*d)):=mul_ok (by omega)
 rw[e0]
 unfold z4f
 rw[seq_nx s1]
 have q2:nm 2 [some (.imm (.int n)),some (.imm (.int k)),some (.imm (.int d))]=some (.int d):=rfl
 have q1:nm 1 [some (.imm (.int n)),some (.imm (.int k)),some (.imm (.int d))]=some (.int k):=rfl
 simp only[rtn,op2,q2,q1,y0p,y1r,cst,m2,m3,z4h,z6e (j:=2147483629) (by decide)]
def names5:List Str:=["a","b","back","hall","win"]
def OpOk (R:Int) (o:Op):Prop:=0<=o.1/\o.1<o.2.1/\o.2.1<=R/\∀x,o.2.2=some x->x∈names5
structure Drawn (R:Int) (os:List Op):Prop where
 r1:1<=R
 r7:R<=7
 len:os.length<=10
 ok:∀o∈os,OpOk R o
end Ho
end
section
namespace Fo
open D Co PySem
def rowL (ps:List Str):List Nat:=jn 32 (ps.map ls)++[10]
def txL (rs:List (List Str)):List Nat:=(rs.map rowL).flatten
def tx (rs:List (List Str)):Str:=st (txL rs)
theorem zg3:∀ss:List Str,strsOf (ss.map .str)=some ss
 | []=>rfl
 | s::ss=>by simp[strsOf,zg3 ss]
end Fo
end
section
namespace Fo
open D Co PySem
structure Ow (o:Ho.Op):Prop where
 a:0<=o.1/\o.1<1000000000
 b:0<=o.2.1/\o.2.1<1000000000
 z:∀x,o.2.2=some x->x.length<=100/\asc (ls x)
theorem zta:eqS "ticks" (.str "ticks")=true:=by decide +kernel
theorem ztb:eqS "code" (.str "code")=true:=by decide +kernel
end Fo
end
section
namespace Fo
open D Co PySem
def digB (p:Str):Bool:=decide (1<=p.length) && (ls p).all fun c=>decide (48<=c) && decide (c<=57)
def numT (p:Str):T:=if digB p=true then .int (dv (ls p):Nat) else .none
theorem znj {p:Str} (h:digB p=true):dig (ls p)/\1<=p.length:=by
 rw[digB,y1c,List.all_eq_true] at h
 exact⟨fun c hc=>by
  have:=h.2 c hc
  rw[y1c,decide_eq_true_eq,decide_eq_true_eq] at this
  exact this,of_decide_eq_true h.1⟩
def bNum:Fs:=asg 1 (op2 oSub (op2 oAdd (op2 oMul (nm 1) (cst (.int 10))) (opN oOrd [(nm 2)])) (opN oOrd [(cst (.str "0"))]))
theorem zmv (a:Int) (c:Nat) (s0:Option Sl):bNum [s0,some (.imm (.int a)),some (.imm (chT c))]=some (.nx [s0,some (.imm (.int (a*10+c - 48))),some (.imm (chT c))]):=by
 unfold bNum asg
 have e1:op2 oMul (nm 1) (cst (.int 10)) [s0,some (.imm (.int a)),some (.imm (chT c))]=some (.int (a*10)):=by
  rw[z0c (t:=.int a) rfl rfl]
  exact Co.mul_ok (i:=a) (j:=10) ⟨by decide +kernel,by decide +kernel⟩
 have e2:opN oOrd [(nm 2)] [s0,some (.imm (.int a)),some (.imm (chT c))]=some (.int (c:Nat)):=by
  rw[opN1 (t:=chT c) rfl]
  rfl
 have e3:op2 oAdd (op2 oMul (nm 1) (cst (.int 10))) (opN oOrd [(nm 2)]) [s0,some (.imm (.int a)),some (.imm (chT c))]=some (.int (a*10+c)):=by
  rw[z0c e1 e2]
  rfl
 have e4:opN oOrd [(cst (.str "0"))] [s0,some (.imm (.int a)),some (.imm (chT c))]=some (.int 48):=by
  rw[opN1 (t:=chT 48) rfl]
  rfl
 rw[z0c e3 e4]
 rfl
theorem zmw (a c:Nat) (h:48<=c):((a:Int)*10+c - 48)=((a*10+(c - 48):Nat):Int):=by omega
def zm8 (acc c:Nat):Nat:=acc*10+(c - 48)
theorem zpl (a c:Nat) (l:List T) (s0 s2:Option Sl) (h:48<=c):forL (gNm 2) bNum (chT c::l) [s0,some (.imm (.int (a:Int))),s2]=forL (gNm 2) bNum l [s0,some (.imm (.int ((zm8 a c:Nat):Int))),some (.imm (chT c))]:=by
 have e1:((a:Int)*10+(c:Int) - 48)=((zm8 a c:Nat):Int):=zmw a c h
 have e2:=zmv (a:Int) c s0
 rw[e1] at e2
 rw[forL,show gNm 2 (chT c) [s0,some (.imm (.int (a:Int))),s2]=some [s0,some (.imm (.int (a:Int))),some (.imm (chT c))] from rfl,y0p,e2,y0p]
theorem zjz:∀(l:List Nat) (a:Nat) (s0 s2:Option Sl),dig l->∃s2',forL (gNm 2) bNum (l.map chT) [s0,some (.imm (.int (a:Int))),s2]=some (.nx [s0,some (.imm (.int ((l.foldl zm8 a:Nat):Int))),s2'])
 | [],a,s0,s2,_=>⟨s2,rfl⟩
 | c::l,a,s0,s2,h=>by
  have hc:=h c (by simp)
  obtain⟨s2',e⟩:=zjz l (zm8 a c) s0 (some (.imm (chT c))) fun x hx=>h x (y05 _ hx)
  refine⟨s2',?_⟩
  rw[y0d,zpl a c _ s0 s2 hc.1,List.foldl_cons]
  exact e
theorem z4x {p:Str} (hp:asc (ls p)) (hl:p.length<=900000):z9d [.str p]=some (numT p):=by
 unfold z9d runF z9p
 show (seq _ _ [some (.imm (.str p)),none,none]).bind _=_
 have hg:gd (.str p)=true:=(zgk (d:=0) hp (by omega)).g
 have e1:opN z1v [(nmV 0),(cst (.int 1)),(opN oLen [(nm 0)]),(cst (.str "0")),(cst (.str "9"))] [some (.imm (.str p)),none,none]=some (.bool (digB p)):=by
  have e0:opN oLen [(nm 0)] [some (.imm (.str p)),none,none]=some (.int p.length):=by
   rw[opN1 (t:=.str p) rfl]
   simp only[oLen]
   rw[if_pos (by unfold big;omega)]
  simp only[opN,args] at e0 ⊢
  simp only[nmV,cst,y27,y0p,y1r]
  simp only[nm,y27,y0p,y1r] at e0 ⊢
  rw[e0]
  simp only[y0p,y1r]
  have:=zea (t:=.str p) (lo:=1) (hi:=p.length) (a:=48) (b:=57) hg
  rw[show ([.str p,.int 1,.int p.length,.str "0",.str "9"]:List T)=[.str p,.int 1,.int p.length,chT 48,chT 57] from rfl,this]
  simp only[z79,digB]
  rw[decide_eq_true (show (p.length:Int)<=p.length by omega),Bool.and_true]
  congr 3
  congr 1
  apply propext
  omega
 rw[z12 (z0j (z08 e1))]
 unfold numT
 cases hd:digB p with
 | false =>
  rw[if_pos (by rfl),z1d (t:=.none) rfl,if_neg (by simp)]
  rfl
 | true =>
  rw[if_neg (by simp),if_pos rfl]
  obtain⟨h1,h2⟩:=znj hd
  rw[Co.seq_nx (ε':=[some (.imm (.str p)),some (.imm (.int 0)),none]) rfl]
  obtain⟨s2',e2⟩:=zjz (ls p) 0 (some (.imm (.str p))) none h1
  have e3:for_ (itA (nmV 0)) (gNm 2) bNum [some (.imm (.str p)),some (.imm (.int 0)),none]=some (.nx [some (.imm (.str p)),some (.imm (.int (dv (ls p):Nat))),s2']):=by
   unfold for_
   rw[show itA (nmV 0) [some (.imm (.str p)),some (.imm (.int 0)),none]=some ((ls p).map chT) by
    simp only[itA,nmV,y27,y0p]
    rw[if_pos ((z3r p).mpr hp)]
    rfl]
   exact e2
  show (seq (for_ (itA (nmV 0)) (gNm 2) bNum) (rtn (nm 1)) _).bind _=_
  rw[Co.seq_nx e3]
  rfl
theorem z5a {α:Type} {l:List α} {a b:Option Int} {x:α} (h:x∈cutZ l a b):x∈l:=by
 unfold cutZ at h
 exact List.mem_of_mem_drop (List.mem_of_mem_take h)
theorem z33 {α:Type} (l:List α) (a b:Option Int):(cutZ l a b).length<=l.length:=by
 unfold cutZ
 rw[List.length_take,List.length_drop]
 omega
end Fo
end
section
namespace Fo
open D Co PySem
theorem z72 {x:Str} (h:z44 (.str x)=true):1<=x.length/\x.length<=4/\∀c∈ls x,97<=c/\c<=122:=by
 simp only[z44,z79,y1c,decide_eq_true_eq,List.all_eq_true] at h
 exact⟨by omega,by omega,h.2⟩
theorem z7i {x:Str} (h:figB (.str x)=true):x.length=4/\∀c∈ls x,48<=c/\c<=57:=by
 simp only[figB,z79,y1c,decide_eq_true_eq,List.all_eq_true] at h
 exact⟨by omega,h.2⟩
theorem z8a {x:Str} (h:z44 (.str x)=true):asc (ls x):=fun a ha=>by
 have:=(z72 h).2.2 a ha
 omega
theorem zk8 {l:List Str} {x:Str} (n:Nat) (h:(l.all fun s=>decide (s.length<=n))=true) (hx:x∈l):x.length<=n:=of_decide_eq_true (List.all_eq_true.mp h x hx)
theorem zkc {x:Str} (h:x∈z46):x.length<=100/\asc (ls x):=⟨zk8 100 (by decide +kernel) h,zbq x h⟩
structure Pv (p:Pl):Prop where
 z1:1<=p.zones.length
 z8:p.zones.length<=8
 zs:∀z∈p.zones,z44 (.str z.1)=true/\z.2∈z46
 zr:z1e (p.zones.map (·.1))=true
 c1:1<=p.codes.length
 c6:p.codes.length<=6
 cs:∀k∈p.codes,figB (.str k.fig)=true/\z44 (.str k.who)=true/\k.rights.length<=3/\(∀r∈k.rights,r∈z0q)/\z1e k.rights=true/\0<=k.uses/\k.uses<=9
 cr:z1e (p.codes.map (·.fig))=true
 t1:0<=p.leave/\p.leave<=60
 t2:0<=p.come/\p.come<=60
 t3:1<=p.loud/\p.loud<=300
def hd (s:Str) (ps:List Str):Bool:=decide (ps.head?=some s)
end Fo
end
section
namespace Fo
open D Co PySem
noncomputable def evOk (p:Pl):Et->Prop
 | .line z w=>z∈z2v p/\w∈zaf
 | .code f d z=>figB (.str f)=true/\((z=none/\d∈(["set","unset"]:List Str))\/∃x,z=some x/\x∈z2v p/\d∈(["shunt","free"]:List Str))
 | .ticks n=>1<=n
structure PokN (p:Pl):Prop where
 ok:Pok p
 n:∀s∈z2v p,s.length<=4
end Fo
end
section
namespace Fo
open D Co PySem
theorem z6w:∀{ss:List Str},ss.Pairwise (fun a b=>strLt a b=true)->z1e ss=true
 | [],_=>rfl
 | [x],_=>rfl
 | x::y::r,h=>by
  rw[y19] at h
  simp only[z1e,h.1 y (by simp),Bool.true_and]
  exact z6w h.2
theorem pw_z:(zN.map (·.2)).Pairwise (fun a b=>strLt a b=true):=by decide +kernel
theorem pw_c:(cN.map (·.2)).Pairwise (fun a b=>strLt a b=true):=by decide +kernel
theorem pw_r:z0q.Pairwise (fun a b=>strLt a b=true):=by decide +kernel
theorem ze7 {l:List Str} {f:Str->Bool} (h:l.all f=true) {x:Str} (hx:x∈l):f x=true:=List.all_eq_true.mp h x hx
theorem n_z:(zN.map (·.2)).all (fun s=>z44 (.str s))=true:=by decide +kernel
theorem n_c:(cN.map (·.2)).all (fun s=>figB (.str s))=true:=by decide +kernel
theorem n_w:whos.all (fun s=>z44 (.str s))=true:=by decide +kernel
theorem n_k:kinds.all (fun s=>decide (s∈z46))=true:=by decide +kernel
theorem zsv {p:Pl} (h:DP p):Pv p:=by
 refine⟨?_,h.zl,fun z hz=>⟨?_,?_⟩,z6w (pw_z.sublist h.zs),?_,h.cl,fun k hk=>?_,z6w (pw_c.sublist h.cs),?_,?_,?_⟩
 ·have:=List.length_pos_iff.mpr h.z0
  omega
 ·exact ze7 n_z (h.zs.subset (y0m.mpr ⟨z,hz,rfl⟩))
 ·exact of_decide_eq_true (ze7 n_k (h.zk z hz))
 ·have:=List.length_pos_iff.mpr h.c0
  omega
 ·obtain⟨h1,h2,h3⟩:=h.ck k hk
  refine⟨ze7 n_c (h.cs.subset (y0m.mpr ⟨k,hk,rfl⟩)),ze7 n_w h1,h2.length_le,fun r hr=>h2.subset hr,z6w (pw_r.sublist h2),?_,?_⟩
  ·simp only[y09,y25,or_false] at h3
   omega
  ·simp only[y09,y25,or_false] at h3
   omega
 ·have:=h.tl
  simp only[y09,y25,or_false] at this
  omega
 ·have:=h.tc
  simp only[y09,y25,or_false] at this
  omega
 ·have:=h.to
  simp only[y09,y25,or_false] at this
  omega
theorem zr4 {p:Pl} (h:Pv p):PokN p:=by
 refine⟨⟨fun s hs=>?_,?_⟩,fun s hs=>?_⟩
 ·obtain⟨z,hz,rfl⟩:=y0m.mp hs
  exact z8a (h.zs z hz).1
 ·have:=h.z8
  omega
 ·obtain⟨z,hz,rfl⟩:=y0m.mp hs
  have:=z72 (h.zs z hz).1
  omega
theorem zj3 {a:Int} {k:Nat} (h0:0<=a) (hk:0<k) (h:a.toNat<10 ^ k):(strI a).length<=k:=by
 rw[zg4 h0,z45,zj2,y14]
 exact (Nat.length_toDigits_le_iff (by decide) hk).mpr h
theorem f_5:zi4.all (fun s=>figB (.str s))=true:=by decide +kernel
theorem zpw {p:Pl} {e:Et} (h:DE p e):evOk p e:=by
 cases e with
 | line z w =>
  refine⟨h.1,?_⟩
  have:=h.2
  simp only[y09,y25,or_false] at this
  rcases this with rfl|rfl|rfl|rfl
  ·decide
  ·decide
  ·decide
  ·decide
 | code f d z =>
  refine⟨ze7 f_5 h.1,?_⟩
  rcases h.2 with ⟨h1,h2⟩|⟨h1,x,h2,h3⟩
  ·refine .inl ⟨h2,?_⟩
   rcases h1 with rfl|rfl
   ·decide
   ·decide
  ·refine .inr ⟨x,h2,h3,?_⟩
   rcases h1 with rfl|rfl
   ·decide
   ·decide
 | ticks n=>exact h.1
theorem DE.tick {p:Pl} {e:Et} (h:DE p e):∀n,e=.ticks n->n<=1000000000:=fun n en=>by
 subst en
 exact h.2
end Fo
end
section
namespace Fo
open D Co PySem
def okP (q:Str):Prop:=32∉ls q/\10∉ls q
structure Cl (ps:List Str):Prop where
 ne:ps≠[]
 p:∀q∈ps,okP q
theorem zmk {p:Pl} (h:Pv p):z5h (encP p)=true:=by
 have hz:z4j (.tuple (p.zones.map encZ))=true:=by
  simp only[z4j,y1c,decide_eq_true_eq,y14,List.all_eq_true]
  refine⟨⟨⟨h.z1,h.z8⟩,fun t ht=>?_⟩,?_⟩
  ·obtain⟨z,hz,rfl⟩:=y0m.mp ht
   obtain⟨h1,h2⟩:=h.zs z hz
   simp only[z67,encZ,h1,inB,decide_eq_true h2,Bool.and_self]
  ·rw[y2e]
   exact h.zr
 have hc:z4q (.tuple (p.codes.map z4i))=true:=by
  simp only[z4q,y1c,decide_eq_true_eq,y14,List.all_eq_true]
  refine⟨⟨⟨h.c1,h.c6⟩,fun t ht=>?_⟩,?_⟩
  ·obtain⟨k,hk,rfl⟩:=y0m.mp ht
   obtain⟨h1,h2,h3,h4,h5,h6,h7⟩:=h.cs k hk
   have hr:z5n (.tuple (k.rights.map .str))=true:=by
    simp only[z5n,y1c,decide_eq_true_eq,y14,List.all_eq_true]
    refine⟨h3,fun t ht=>?_,?_⟩
    ·obtain⟨r,hr,rfl⟩:=y0m.mp ht
     exact decide_eq_true (h4 r hr)
    ·rw[y2e,show txS ∘ y1v=id from rfl,List.map_id]
     exact h5
   simp only[codeB,z4i,h1,h2,hr,z0v,decide_eq_true h6,decide_eq_true h7,Bool.and_self]
  ·rw[y2e]
   exact h.cr
 have t1:=h.t1
 have t2:=h.t2
 have t3:=h.t3
 simp only[z5h,encP,hz,hc,z6s,z0v,decide_eq_true t1.1,decide_eq_true t1.2,decide_eq_true t2.1,decide_eq_true t2.2,decide_eq_true t3.1,decide_eq_true t3.2,Bool.and_self]
theorem zkx {p:Pl} {e:Et} (h:evOk p e):z39 p (encE e)=true:=by
 unfold z39
 cases e with
 | line z w =>
  rw[Bool.or_eq_true]
  left
  simp only[z6h,encE,inB,decide_eq_true h.1,decide_eq_true h.2,Bool.and_self,Bool.and_true]
  decide +kernel
 | code f d z =>
  rw[Bool.or_eq_true,Bool.or_eq_true]
  right
  left
  obtain⟨h1,h2⟩:=h
  simp only[z3b,encE,h1,Bool.true_and]
  rw[show eqS "code" (.str "code")=true from ztb,Bool.true_and]
  rcases h2 with ⟨rfl,h2⟩|⟨x,rfl,h3,h2⟩
  ·rw[if_pos (show inB ["set","unset"] (.str d)=true from decide_eq_true h2)]
   rfl
  ·have hn:¬(inB ["set","unset"] (.str d)=true):=by
    intro hq
    have hq':=of_decide_eq_true (show decide (d∈(["set","unset"]:List Str))=true from hq)
    simp only[y09,y25,or_false] at hq' h2
    rcases hq' with rfl|rfl <;> rcases h2 with h2|h2 <;> revert h2 <;> decide +kernel
   rw[if_neg hn,y1c]
   exact⟨decide_eq_true h2,decide_eq_true h3⟩
 | ticks n =>
  rw[Bool.or_eq_true,Bool.or_eq_true]
  right
  right
  simp only[z3s,encE,z6d,posB,Bool.true_and,y1c]
  exact⟨zta,decide_eq_true h⟩
end Fo
end
section
namespace Fo
open D Co PySem
theorem ne_self {d:Nat} {f g:Fe} {ε:Ev} {t:T} (hf:f ε=some t) (hg:g ε=some t) (h:Gd d t) (hd:d<=60:=by decide):tstB (op2 oNe f g) ε=some false:=by
 refine z08 ?_
 rw[z0c hf hg]
 exact Co.oNe_self h.okN hd
theorem orF {ft gt:Ft} {ε:Ev} (h1:ft ε=some false) (h2:gt ε=some false):orT ft gt ε=some false:=z1o (a:=false) (b:=false) h1 fun _=>h2
theorem zou {ft:Ft} {s1 s2:Fs} {ε:Ev} (h:ft ε=some false):seq (iff ft s1 skip) s2 ε=s2 ε:=by rw[z12 h,if_neg (by simp)]
theorem opN3 {d:List T->Option T} {f g h:Fe} {ε:Ev} {t u v:T} (h1:f ε=some t) (h2:g ε=some u) (h3:h ε=some v):opN d [f,g,h] ε=d [t,u,v]:=by simp[opN,args,h1,h2,h3]
theorem z5b {i:Nat} {f:Fe} {ε:Ev} {t:T} (h:f ε=some t):asg i f ε=some (.nx (ε.set i (some (.imm t)))):=by simp[asg,h]
end Fo
end
section
namespace Fo
open D Co PySem
theorem zja {f:Fe} {ε:Ev} {x:Str} {lo hi:Ev->Option (Option Int)} {a b:Option Int} (hf:f ε=some (.str x)) (h1:lo ε=some a) (h2:hi ε=some b) (hl:x.length<=1000000):z0l f lo hi ε=some (.str (st (cutZ (ls x) a b))):=by
 simp only[z0l,hf,h1,h2,y0p,oSlA]
 rw[if_pos (by unfold big;omega)]
 rfl
theorem add_l {f g:Fe} {ε:Ev} {a b:List T} (hf:f ε=some (.list a)) (hg:g ε=some (.list b)) (hl:a.length+b.length<=1000000):op2 oAdd f g ε=some (.list (a++b)):=by
 rw[z0c hf hg]
 simp only[oAdd]
 rw[if_pos (by unfold big;omega)]
end Fo
end
section
namespace K01
open D Co Fo PySem
local instance:Tbl:=⟨[],fun _=>[],fun _=>none⟩
theorem z4x {t:T} {lo hi:Int} (h:gd t=true):z18 [t,.int lo,.int hi]=some (.bool (z0v t lo hi)):=by
 refine z5o ?_
 show andV _ _ [some (.imm t),some (.imm (.int lo)),some (.imm (.int hi))]=_
 have e1:=z5i "int" h
 have e2:=z5i "bool" h
 cases t with
 | int i =>
  refine (z0a (a:=true) (b:=true && (decide (lo<=i) && decide (i<=hi))) (by rw[z17 (t:=.int i) rfl];exact e1) fun _=>z0a (zk0 (a:=false) (by rw[z17 (t:=.int i) rfl];exact e2)) fun _=>z64 rfl rfl rfl).trans ?_
  simp[z0v]
 | bool b =>
  exact (z0a (a:=true) (b:=false) (by rw[z17 (t:=.bool b) rfl];exact e1) fun _=>z0a (a:=false) (b:=true) (zk0 (a:=true) (by rw[z17 (t:=.bool b) rfl];exact e2)) fun z=>by cases z).trans rfl
 | dict d=>simp[gd] at h
 | none=>exact (z0a (a:=false) (b:=true) (by rw[z17 (t:=.none) rfl];exact e1) fun z=>by cases z).trans rfl
 | str x=>exact (z0a (a:=false) (b:=true) (by rw[z17 (t:=.str x) rfl];exact e1) fun z=>by cases z).trans rfl
 | tuple x=>exact (z0a (a:=false) (b:=true) (by rw[z17 (t:=.tuple x) rfl];exact e1) fun z=>by cases z).trans rfl
 | list x=>exact (z0a (a:=false) (b:=true) (by rw[z17 (t:=.list x) rfl];exact e1) fun z=>by cases z).trans rfl
def tupN (t:T) (n:Nat):Bool:=match t with
 | .tuple ts=>decide (ts.length=n)
 | _=>false
theorem ziz {t:T} {n:Nat} (h:gd t=true):z27 [t,.int (n:Int)]=some (.bool (tupN t n)):=by
 refine z5o ?_
 show andV _ _ [some (.imm t),some (.imm (.int (n:Int)))]=_
 have e1:=z5i "tuple" h
 cases t with
 | tuple x =>
  refine (z0a (a:=true) (b:=decide (x.length=n)) (by rw[z17 (t:=.tuple x) rfl];exact e1) fun _=>?_).trans rfl
  rw[z0c (t:=.int x.length) (u:=.int n) (by rw[opN1 (t:=.tuple x) rfl];rfl) rfl,Co.oEq_int]
  congr 2
  exact decide_eq_decide.mpr (by omega)
 | dict d=>simp[gd] at h
 | none=>exact (z0a (a:=false) (b:=true) (by rw[z17 (t:=.none) rfl];exact e1) fun z=>by cases z).trans rfl
 | bool x=>exact (z0a (a:=false) (b:=true) (by rw[z17 (t:=.bool x) rfl];exact e1) fun z=>by cases z).trans rfl
 | int x=>exact (z0a (a:=false) (b:=true) (by rw[z17 (t:=.int x) rfl];exact e1) fun z=>by cases z).trans rfl
 | str x=>exact (z0a (a:=false) (b:=true) (by rw[z17 (t:=.str x) rfl];exact e1) fun z=>by cases z).trans rfl
 | list x=>exact (z0a (a:=false) (b:=true) (by rw[z17 (t:=.list x) rfl];exact e1) fun z=>by cases z).trans rfl
theorem z90 {t s:T} {ss:List Str} {d:Nat} (h:Gd d t) (hd:d<=60) (hs:s=.tuple (ss.map .str)\/s=.list (ss.map .str)) (ha:∀x∈ss,asc (ls x)):z0p [t,s]=some (.bool (inB ss t)):=by
 refine z5o ?_
 show andV _ _ [some (.imm t),some (.imm s)]=_
 have e1:=z5i "str" h.g
 cases t with
 | str x =>
  refine (z0a (a:=true) (b:=inB ss (.str x)) (by rw[z17 (t:=.str x) rfl];exact e1) fun _=>?_).trans rfl
  rw[z0c (t:=.str x) (u:=s) rfl rfl]
  rcases hs with rfl|rfl
  ·exact zah ha h hd
  ·exact zoc ha h hd
 | dict x=>have:=h.g;simp[gd] at this
 | none=>exact (z0a (a:=false) (b:=true) (by rw[z17 (t:=.none) rfl];exact e1) fun z=>by cases z).trans rfl
 | bool x=>exact (z0a (a:=false) (b:=true) (by rw[z17 (t:=.bool x) rfl];exact e1) fun z=>by cases z).trans rfl
 | int x=>exact (z0a (a:=false) (b:=true) (by rw[z17 (t:=.int x) rfl];exact e1) fun z=>by cases z).trans rfl
 | tuple x=>exact (z0a (a:=false) (b:=true) (by rw[z17 (t:=.tuple x) rfl];exact e1) fun z=>by cases z).trans rfl
 | list x=>exact (z0a (a:=false) (b:=true) (by rw[z17 (t:=.list x) rfl];exact e1) fun z=>by cases z).trans rfl
theorem zjc {ε:Ev} {x:Str} {a b:Nat} {ca cb:Fe} (h0:nmV 0 ε=some (.str x)) (hx:asc (ls x)) (hl:x.length<=1000000) (ha:∀ε,ca ε=some (chT a)) (hb:∀ε,cb ε=some (chT b)):op2 oEq (comp 1 [] (itA (nmV 0)) (gNm 0) (notT (tstB (chain oLe oLe ca (nm 0) cb))) (nmV 0)) (z11 []) ε=some (.bool ((ls x).all fun c=>decide (a<=c) && decide (c<=b))):=by
 have e1:comp 1 [] (itA (nmV 0)) (gNm 0) (notT (tstB (chain oLe oLe ca (nm 0) cb))) (nmV 0) ε=some (.list ((((ls x).map chT).filter fun t=>match t with|.str y=>!(decide (a<=y.cps.getD 0 0) && decide (y.cps.getD 0 0<=b))|_=>false).map id)):=by
  refine zoh (ts:=(ls x).map chT) (by simp[itA,h0,(z3r x).mpr hx,ls]) (by rw[y14,<- z45];unfold big;omega) (fun t ht=>?_) fun t ht _=>rfl
  obtain⟨c,hc,rfl⟩:=y0m.mp ht
  exact z0j (z08 (zgu (ha _) rfl (hb _)))
 have hg:∀l:List Nat,asc l->okT (.list (l.map chT))=true:=fun l hl=>by
  have:Gd 1 (.list (l.map chT)):=Gd.mk_lst fun t ht=>by
   obtain⟨c,hc,rfl⟩:=y0m.mp ht
   exact zgk (x:=⟨#[c]⟩) (fun a ha=>by
    have:a=c:=by simpa [ls] using ha
    rw[this]
    exact hl c hc) (by show (1:Nat)<=_;omega)
  exact this.okT (by omega)
 have e2:(((ls x).map chT).filter fun t=>match t with|.str y=>!(decide (a<=y.cps.getD 0 0) && decide (y.cps.getD 0 0<=b))|_=>false).map id=((ls x).filter fun c=>!(decide (a<=c) && decide (c<=b))).map chT:=by
  rw[List.map_id,List.filter_map]
  rfl
 rw[e2] at e1
 rw[z0c e1 (u:=.list []) rfl]
 simp only[oEq]
 rw[hg _ (zbn hx fun y hy=>(List.mem_filter.mp hy).1),show okT (.list [])=true from rfl,Bool.and_self,if_pos rfl]
 congr 2
 cases hq:(ls x).all fun c=>decide (a<=c) && decide (c<=b) with
 | true =>
  have:(ls x).filter (fun c=>!(decide (a<=c) && decide (c<=b)))=[]:=by
   rw[List.filter_eq_nil_iff]
   intro c hc
   rw[List.all_eq_true.mp hq c hc]
   simp
  rw[this]
  rfl
 | false =>
  have:(ls x).filter (fun c=>!(decide (a<=c) && decide (c<=b)))≠[]:=by
   intro e
   rw[List.filter_eq_nil_iff] at e
   have:(ls x).all (fun c=>decide (a<=c) && decide (c<=b))=true:=List.all_eq_true.mpr fun c hc=>by
    have:=e c hc
    simpa using this
   rw[hq] at this
   cases this
  cases hz:(ls x).filter (fun c=>!(decide (a<=c) && decide (c<=b))) with
  | nil=>exact absurd hz this
  | cons c r=>rfl
theorem ziv {t:T} (h:gd t=true):z3l [t]=some (.bool (z44 t)):=by
 unfold z3l runF zgx
 show (seq _ _ [some (.imm t)]).bind _=_
 cases t with
 | str x =>
  rw[gd,y1c] at h
  have hx:=(z3r x).mp h.1
  have hl:=of_decide_eq_true h.2
  have hle:chain oLe oLe (cst (.int 1)) (opN oLen [(nm 0)]) (cst (.int 4)) [some (.imm (.str x))]=some (.bool (decide ((1:Int)<=x.length) && decide ((x.length:Int)<=4))):=z64 rfl (by rw[opN1 (t:=.str x) rfl];simp only[oLen];rw[if_pos (by unfold big;omega)]) rfl
  rw[z12 (z1o (a:=false) (z0j (a:=true) (z08 rfl)) fun _=>z0j (z08 hle))]
  have hs:=zjc (ε:=[some (.imm (.str x))]) (a:=97) (b:=122) (ca:=cst (.str "a")) (cb:=cst (.str "z")) rfl hx hl (fun _=>rfl) (fun _=>rfl)
  cases hq:(decide ((1:Int)<=x.length) && decide ((x.length:Int)<=4)) with
  | false =>
   rw[if_pos (by rfl),z1d (t:=.bool false) rfl]
   simp only[y0p,z44,z79,hq,Bool.false_and]
  | true =>
   rw[if_neg (by simp)]
   simp only[rtn]
   rw[hs]
   simp only[y1r,y0p,z44,z79,hq,Bool.true_and]
 | dict d=>simp[gd] at h
 | _ =>
  rw[z12 (a:=true) (by
   refine z1o (a:=true) (b:=false) (z0j (a:=false) (z08 rfl)) fun z=>by cases z)]
  rfl
theorem zkw {t:T} (h:gd t=true):z2d [t]=some (.bool (figB t)):=by
 refine z5o ?_
 show andV _ _ [some (.imm t)]=_
 have e1:=z5i "str" h
 cases t with
 | str x =>
  rw[gd,y1c] at h
  have hx:=(z3r x).mp h.1
  have hl:=of_decide_eq_true h.2
  have hs:=zjc (ε:=[some (.imm (.str x))]) (a:=48) (b:=57) (ca:=cst (.str "0")) (cb:=cst (.str "9")) rfl hx hl (fun _=>rfl) (fun _=>rfl)
  refine (z0a (a:=true) (b:=decide ((x.length:Int)=4) && (ls x).all fun c=>decide (48<=c) && decide (c<=57)) (by rw[z17 (t:=.str x) rfl];exact e1) fun _=>z0a ?_ fun _=>hs).trans ?_
  ·rw[z0c (t:=.int x.length) (u:=.int 4) (by rw[opN1 (t:=.str x) rfl];simp only[oLen];rw[if_pos (by unfold big;omega)]) rfl]
   exact Co.oEq_int _ _
  ·simp only[Bool.true_and,figB,z79]
   congr 2
   congr 1
   rw[<- Bool.decide_and]
   exact decide_eq_decide.mpr (by omega)
 | dict d=>simp[gd] at h
 | none=>exact (z0a (a:=false) (b:=true) (by rw[z17 (t:=.none) rfl];exact e1) fun z=>by cases z).trans rfl
 | bool x=>exact (z0a (a:=false) (b:=true) (by rw[z17 (t:=.bool x) rfl];exact e1) fun z=>by cases z).trans rfl
 | int x=>exact (z0a (a:=false) (b:=true) (by rw[z17 (t:=.int x) rfl];exact e1) fun z=>by cases z).trans rfl
 | tuple x=>exact (z0a (a:=false) (b:=true) (by rw[z17 (t:=.tuple x) rfl];exact e1) fun z=>by cases z).trans rfl
 | list x=>exact (z0a (a:=false) (b:=true) (by rw[z17 (t:=.list x) rfl];exact e1) fun z=>by cases z).trans rfl
theorem zgm {g:Fg} {body:Fs} {P:T->Bool} {E:Option Sl->Ev} (hg:∀t s,g t (E s)=some (E (some (.imm t)))):∀(ts:List T) (s:Option Sl),(∀t∈ts,body (E (some (.imm t)))=if P t=true then some (.nx (E (some (.imm t)))) else some (.rt (.bool false))) ->
  (ts.all P=true/\∃s',forL g body ts (E s)=some (.nx (E s')))\/(ts.all P=false/\forL g body ts (E s)=some (.rt (.bool false)))
 | [],s,_=>.inl ⟨rfl,s,rfl⟩
 | t::ts,s,h=>by
  have h1:=h t (by simp)
  cases hp:P t with
  | true =>
   rw[hp,if_pos rfl] at h1
   rcases zgm hg ts (some (.imm t)) fun u hu=>h u (y05 _ hu) with ⟨a,s',e⟩|⟨a,e⟩
   ·refine .inl ⟨by rw[List.all_cons,hp,a];rfl,s',?_⟩
    rw[forL,hg,y0p,h1,y0p]
    exact e
   ·refine .inr ⟨by rw[List.all_cons,hp,a];rfl,?_⟩
    rw[forL,hg,y0p,h1,y0p]
    exact e
  | false =>
   rw[hp,if_neg (by simp)] at h1
   refine .inr ⟨by rw[List.all_cons,hp];rfl,?_⟩
   rw[forL,hg,y0p,h1,y0p]
theorem lt_trans {x y z:Str} (h1:strLt x y=true) (h2:strLt y z=true):strLt x z=true:=by
 simp only[strLt,decide_eq_true_eq] at *
 exact List.lt_trans h1 h2
theorem zrq (x:Str):strLt x x=false:=by
 simp only[strLt,decide_eq_false_iff_not]
 exact List.lt_irrefl _
theorem zgd:∀{ss:List Str},z1e ss=true->ss.Pairwise (fun a b=>strLt a b=true)
 | [],_=>.nil
 | [x],_=>by simp
 | x::y::r,h=>by
  rw[z1e,y1c] at h
  have ih:=zgd h.2
  refine y19.mpr ⟨fun z hz=>?_,ih⟩
  rcases y09.mp hz with rfl|hz
  ·exact h.1
  ·exact lt_trans h.1 ((y19.mp ih).1 z hz)
theorem zcc (ss:List Str):z5g (dedup ss)=ss <-> z1e ss=true:=by
 constructor
 ·intro e
  refine z6w ?_
  have h1:ss.Pairwise sLe:=e▸z88 (dedup ss)
  have h2:ss.Nodup:=by
   have:=(z3m (dedup ss)).nodup_iff.mpr (z59 ss)
   rw[e] at this
   exact this
  refine (h1.and h2).imp fun {a b} ⟨ha,hb⟩=>?_
  cases hq:strLt a b with
  | true=>rfl
  | false =>
   exfalso
   apply hb
   by_cases hz:sLe b a
   ·exact zg9 ha hz
   ·have:=zjf hz
    rw[hq] at this
    cases this
 ·intro h
  have pw:=zgd h
  have nd:ss.Nodup:=pw.imp fun {a b} hab e=>by
   rw[e,zrq] at hab
   cases hab
  have pm:ss.Perm (dedup ss):=by
   refine (List.perm_ext_iff_of_nodup nd (z59 ss)).mpr fun a=>?_
   exact z75.symm
  exact (zau pm (pw.imp fun {a b} hab=>zca hab)).symm
theorem zg6 {ts:List T} {ss:List Str} (h:ts=ss.map .str) (hl:ss.length<60) {t:T} (ht:t=.list ts\/t=.tuple ts):z1m [t]=some (.list ((z5g (dedup ss)).map .str)):=by
 have e:z1m [t]=z1l [.list ts]:=by rcases ht with rfl|rfl <;> rfl
 rw[e,h]
 simp only[z1l]
 rw[if_pos (by rw[y14];omega)]
 cases ss with
 | nil=>rfl
 | cons x r =>
  rw[show intsOf ((x::r).map y1v)=none from rfl]
  simp only[zg3]
  rfl
theorem zgp (a b:List Str):y1y (.list (a.map .str)) (.list (b.map .str))=decide (a=b):=by
 rw[y1y]
 induction a generalizing b with
 | nil=>cases b <;> simp[PyData.eqvAll]
 | cons x a ih =>
  cases b with
  | nil=>simp[PyData.eqvAll]
  | cons y b =>
   rw[y0d,y0d,PyData.eqvAll,ih,y1y]
   simp only[List.cons.injEq,Bool.decide_and]
   rfl
theorem zkt {ss:List Str} (h:∀x∈ss,asc (ls x)/\x.length<=1000000):Gd 1 (.list (ss.map .str)):=Gd.mk_lst fun t ht=>by
 obtain⟨x,hx,rfl⟩:=y0m.mp ht
 exact zgk (h x hx).1 (h x hx).2
theorem zj8 {f g:Fe} {ε:Ev} {ss:List Str} (h:∀x∈ss,asc (ls x)/\x.length<=1000000) (hf:f ε=some (.list (ss.map .str))) (hg:g ε=some (.list ((z5g (dedup ss)).map .str))):tstB (op2 oNe f g) ε=some !(z1e ss):=by
 refine z08 ?_
 have h2:∀x∈z5g (dedup ss),asc (ls x)/\x.length<=1000000:=fun x hx=>h x (z75.mp ((z3m _).mem_iff.mp hx))
 rw[z0c hf hg]
 simp only[oNe,(zkt h).okT (by omega),(zkt h2).okT (by omega),Bool.and_self,if_true,zgp]
 congr 3
 cases hr:z1e ss with
 | true=>exact decide_eq_true ((zcc ss).mpr hr).symm
 | false =>
  refine decide_eq_false fun e=>?_
  have:=(zcc ss).mp e.symm
  rw[hr] at this
  cases this
theorem zdc {c:Ft} {ε:Ev} {b:Bool} (h:c ε=some b):iff c (rtn (cst (.bool false))) skip ε=if b=true then some (.rt (.bool false)) else some (.nx ε):=by
 simp only[iff,h,y0p]
 cases b <;> rfl
theorem z1r {c:Ft} {g:Fs} {ε:Ev} {b:Bool} (h:c ε=some b):seq (iff c (rtn (cst (.bool false))) skip) g ε=if b=true then some (.rt (.bool false)) else g ε:=by
 rw[z12 h]
 cases b with
 | true=>rw[if_pos rfl,if_pos rfl,z1d (t:=.bool false) rfl]
 | false=>rfl
theorem tN {t:T} {n:Nat} (h:tupN t n=true):tupB t n n=true:=by
 cases t with
 | tuple ts =>
  have:=of_decide_eq_true h
  simp only[tupB,y1c,decide_eq_true_eq]
  omega
 | _=>cases h
theorem tNf {t:T} {n:Nat} (h:tupN t n=false):tupB t n n=false:=by
 cases hb:tupB t n n with
 | false=>rfl
 | true =>
  obtain⟨ts,rfl,hl⟩:=zm0 hb
  rw[tupN,decide_eq_false_iff_not] at h
  exact absurd hl h
theorem zat {f:Fe} {ε:Ev} {t:T} {i:Int} (n:Nat) (hi:i=(n:Int)) (hf:f ε=some t) (h:gd t=true):opN z27 [f,cst (.int i)] ε=some (.bool (tupN t n)):=by
 rw[hi,opN2 hf (u:=.int (n:Int)) rfl]
 exact ziz h
noncomputable def bZ:Fs:=(seq (iff (orT (notT (tstB (opN z27 [(nmV 1),(cst (.int 2))]))) (notT (tstB (opN z3l [(op2 oIx (nm 1) (cst (.int 0)))])))) (rtn (cst (.bool false))) skip)
  (iff (notT (tstB (opN z0p [(op2 oIx (nm 1) (cst (.int 1))),(z04 [(cst (.str "day")),(cst (.str "inner")),(cst (.str "once")),(cst (.str "way"))])]))) (rtn (cst (.bool false))) skip))
theorem ztd {s0:Option Sl} {r:Ev} {t:T} {d:Nat} (h:Gd (d+1) t) (hd:d<=50):bZ (s0::some (.imm t)::r)=if z67 t=true then some (.nx (s0::some (.imm t)::r)) else some (.rt (.bool false)):=by
 unfold bZ
 have h1:=zat (f:=nmV 1) (ε:=s0::some (.imm t)::r) (i:=2) 2 rfl rfl h.g
 cases hb:tupN t 2 with
 | false =>
  rw[hb] at h1
  rw[z1r (z1o (a:=true) (b:=false) (z0j (z08 h1)) fun z=>by cases z),if_pos (by rfl)]
  have:z67 t=false:=by
   have hb:=tNf hb
   unfold z67
   split
   ·simp[tupB] at hb
   ·rfl
  rw[this,if_neg (by simp)]
 | true =>
  rw[hb] at h1
  obtain⟨a,b,rfl⟩:=zm2 (tN hb)
  have ha:=h.tup a (by simp)
  have hb':=h.tup b (by simp)
  have w0:opN z3l [(op2 oIx (nm 1) (cst (.int 0)))] (s0::some (.imm (.tuple [a,b]))::r)=some (.bool (z44 a)):=by rw[opN1 (t:=a) (by rw[z0c (t:=.tuple [a,b]) (u:=.int 0) rfl rfl];exact ix_0)];exact ziv ha.g
  have w1:opN z0p [(op2 oIx (nm 1) (cst (.int 1))),(z04 [(cst (.str "day")),(cst (.str "inner")),(cst (.str "once")),(cst (.str "way"))])] (s0::some (.imm (.tuple [a,b]))::r)=some (.bool (inB z46 b)):=by
   rw[opN2 (t:=b) (u:=.tuple (z46.map .str)) (by rw[z0c (t:=.tuple [a,b]) (u:=.int 1) rfl rfl];exact ix_1) rfl]
   exact z90 hb' (by omega) (.inl rfl) zbq
  rw[z1r (z1o (a:=false) (z0j (z08 h1)) fun _=>z0j (z08 w0)),zdc (z0j (z08 w1))]
  simp only[z67,Bool.false_or]
  by_cases q1:z44 a=true <;> by_cases q2:inB z46 b=true <;> simp[q1,q2]
theorem zoj {ss:List Str}:∀{ts:List T},ts.all (inB ss)=true->∃xs:List Str,ts=xs.map .str/\∀x∈xs,x∈ss
 | [],_=>⟨[],rfl,by simp⟩
 | t::ts,h=>by
  rw[List.all_cons,y1c] at h
  obtain⟨xs,rfl,hx⟩:=zoj h.2
  cases t with
  | str x=>exact⟨x::xs,rfl,fun y hy=>by
    rcases y09.mp hy with rfl|hy
    ·exact of_decide_eq_true h.1
    ·exact hx y hy⟩
  | _=>exact absurd h.1 (by simp[inB])
theorem no4:(z0q.all fun a=>z0q.all fun b=>z0q.all fun c=>z0q.all fun d=>!(strLt a b && (strLt b c && strLt c d)))=true:=by decide +kernel
theorem zi5 {xs:List Str} (h:∀x∈xs,x∈z0q) (hr:z1e xs=true):xs.length<=3:=by
 match xs,h,hr with
 | [],_,_=>simp
 | [_],_,_=>simp
 | [_,_],_,_=>simp
 | [_,_,_],_,_=>simp
 | a::b::c::d::r,h,hr =>
  exfalso
  simp only[z1e,y1c] at hr
  have h1:=List.all_eq_true.mp (List.all_eq_true.mp (List.all_eq_true.mp (List.all_eq_true.mp no4 a (h a (by simp))) b (h b (by simp))) c (h c (by simp))) d (h d (by simp))
  rw[hr.1,hr.2.1,hr.2.2.1] at h1
  cases h1
noncomputable def bC:Fs:=(seq (iff (orT (notT (tstB (opN z27 [(nmV 2),(cst (.int 4))]))) (orT (notT (tstB (opN z2d [(op2 oIx (nm 2) (cst (.int 0)))]))) (notT (tstB (opN z3l [(op2 oIx (nm 2) (cst (.int 1)))]))))) (rtn (cst (.bool false))) skip)
  (seq (iff (orT (notT (tstB (op1 (oIsI "tuple") (op2 oIx (nm 2) (cst (.int 2)))))) (notT (tstB (opN z18 [(op2 oIx (nm 2) (cst (.int 3))),(cst (.int 0)),(cst (.int 9))])))) (rtn (cst (.bool false))) skip)
  (seq (iff (tstB (op2 oNe (comp 1 [] (itA (op2 oIx (nm 2) (cst (.int 2)))) (gNm 0) (notT (tstB (opN z0p [(nmV 0),(z04 [(cst (.str "set")),(cst (.str "shunt")),(cst (.str "unset"))])]))) (nmV 0)) (z11 []))) (rtn (cst (.bool false))) skip)
  (iff (tstB (op2 oNe (opN z9y [(op2 oIx (nm 2) (cst (.int 2)))]) (opN z1m [(op2 oIx (nm 2) (cst (.int 2)))]))) (rtn (cst (.bool false))) skip))))
mutual
noncomputable def wd:T->Bool
 | .tuple ts=>decide (ts.length<60) && wdL ts
 | .list ts=>decide (ts.length<60) && wdL ts
 | _=>true
noncomputable def wdL:List T->Bool
 | []=>true
 | t::ts=>wd t && wdL ts
end
theorem zaq:∀{ts:List T},wdL ts=true <-> ∀t∈ts,wd t=true
 | []=>by simp[wdL]
 | t::ts=>by rw[wdL,y1c,zaq];simp
theorem za1 {ts:List T} (h:wd (.tuple ts)=true):ts.length<60/\∀t∈ts,wd t=true:=by
 rw[wd,y1c] at h
 exact⟨of_decide_eq_true h.1,zaq.mp h.2⟩
theorem ne_nil {d:Nat} {f:Fe} {ε:Ev} {us:List T} (hf:f ε=some (.list us)) (h:Gd d (.list us)) (hd:d<=60):tstB (op2 oNe f (z11 [])) ε=some !us.isEmpty:=by
 refine z08 ?_
 rw[z0c hf (u:=.list []) rfl]
 simp only[oNe,h.okT hd,show okT (.list [])=true from rfl,Bool.and_self,if_true]
 congr 2
 cases us <;> rfl
theorem zte {s0 s1:Option Sl} {r:Ev} {t:T} {d:Nat} (h:Gd (d+2) t) (hd:d<=50) (hw:wd t=true):bC (s0::s1::some (.imm t)::r)=if codeB t=true then some (.nx (s0::s1::some (.imm t)::r)) else some (.rt (.bool false)):=by
 unfold bC
 have h1:=zat (f:=nmV 2) (ε:=s0::s1::some (.imm t)::r) (i:=4) 4 rfl rfl h.g
 cases hb:tupN t 4 with
 | false =>
  rw[hb] at h1
  rw[z1r (z1o (a:=true) (b:=false) (z0j (z08 h1)) fun z=>by cases z),if_pos (by rfl)]
  have:codeB t=false:=by
   have hb:=tNf hb
   unfold codeB
   split
   ·simp[tupB] at hb
   ·rfl
  rw[this,if_neg (by simp)]
 | true =>
  rw[hb] at h1
  obtain⟨f,w,q,u,rfl⟩:=zm1 (tN hb)
  have hf:=h.tup f (by simp)
  have hw':=h.tup w (by simp)
  have hq:=h.tup q (by simp)
  have hu:=h.tup u (by simp)
  have hwq:=(za1 hw).2 q (by simp)
  generalize hE:s0::s1::some (Sl.imm (.tuple [f,w,q,u]))::r=E at *
  have n2:nm 2 E=some (.tuple [f,w,q,u]):=by subst hE;rfl
  have j0:op2 oIx (nm 2) (cst (.int 0)) E=some f:=by rw[z0c n2 (u:=.int 0) rfl];exact ix_0
  have j1:op2 oIx (nm 2) (cst (.int 1)) E=some w:=by rw[z0c n2 (u:=.int 1) rfl];exact ix_1
  have j2:op2 oIx (nm 2) (cst (.int 2)) E=some q:=by rw[z0c n2 (u:=.int 2) rfl];exact ix_2
  have j3:op2 oIx (nm 2) (cst (.int 3)) E=some u:=by rw[z0c n2 (u:=.int 3) rfl];exact ix_3
  rw[z1r (z1o (a:=false) (z0j (z08 h1)) fun _=>z1o (z0j (z08 (by rw[opN1 j0];exact zkw hf.g))) fun _=>z0j (z08 (by rw[opN1 j1];exact ziv hw'.g)))]
  have w3:opN z18 [(op2 oIx (nm 2) (cst (.int 3))),(cst (.int 0)),(cst (.int 9))] E=some (.bool (z0v u 0 9)):=by rw[opN3 j3 (u:=.int 0) (v:=.int 9) rfl rfl];exact z4x hu.g
  have eI:=z5i "tuple" hq.g
  have k1:orT (notT (tstB (op1 (oIsI "tuple") (op2 oIx (nm 2) (cst (.int 2)))))) (notT (tstB (opN z18 [(op2 oIx (nm 2) (cst (.int 3))),(cst (.int 0)),(cst (.int 9))]))) E=some (!(isI "tuple" q) || !(z0v u 0 9)):=z1o (z0j (z08 (by rw[z17 j2];exact eI))) fun _=>z0j (z08 w3)
  rw[z1r k1]
  simp only[codeB]
  by_cases q1:figB f=false
  ·simp[q1]
  rw[Bool.not_eq_false] at q1
  by_cases q2:z44 w=false
  ·simp[q2]
  rw[Bool.not_eq_false] at q2
  by_cases q3:z0v u 0 9=false
  ·simp[q3]
  rw[Bool.not_eq_false] at q3
  simp only[q1,q2,q3,Bool.not_true,Bool.false_or,Bool.or_false,Bool.true_and,Bool.and_true,y1t,if_false]
  cases q with
  | tuple rs =>
   simp only[show isI "tuple" (.tuple rs)=true from rfl,Bool.not_true,y1t,if_false]
   have hrs:=hq.tup
   have c1:comp 1 [] (itA (op2 oIx (nm 2) (cst (.int 2)))) (gNm 0) (notT (tstB (opN z0p [(nmV 0),(z04 [(cst (.str "set")),(cst (.str "shunt")),(cst (.str "unset"))])]))) (nmV 0) E=some (.list ((rs.filter fun t=>!inB z0q t).map id)):=by
    refine zoh (ts:=rs) (by simp only[itA,j2,y0p]) (by have:=(za1 hwq).1;unfold big;omega) (fun t ht=>?_) fun t _ _=>rfl
    refine z0j (z08 ?_)
    rw[opN2 (t:=t) (u:=.tuple (z0q.map .str)) rfl rfl]
    exact z90 (hrs t ht) (by omega) (.inl rfl) z8e
   rw[List.map_id] at c1
   rw[z1r (ne_nil (d:=d+1) c1 (Gd.mk_lst fun t ht=>hrs t (List.mem_filter.mp ht).1) (by omega))]
   cases ha:rs.all (inB z0q) with
   | false =>
    have:(rs.filter fun t=>!inB z0q t).isEmpty=false:=by
     cases he:(rs.filter fun t=>!inB z0q t).isEmpty with
     | false=>rfl
     | true =>
      rw[List.isEmpty_iff,List.filter_eq_nil_iff] at he
      have:rs.all (inB z0q)=true:=List.all_eq_true.mpr fun t ht=>by simpa using he t ht
      rw[ha] at this
      cases this
    rw[this]
    simp[z5n,ha]
   | true =>
    have:(rs.filter fun t=>!inB z0q t).isEmpty=true:=by
     rw[List.isEmpty_iff,List.filter_eq_nil_iff]
     intro t ht
     simp[List.all_eq_true.mp ha t ht]
    rw[this]
    simp only[Bool.not_true,y1t,if_false]
    obtain⟨xs,rfl,hx⟩:=zoj ha
    have hxl:xs.length<60:=by have:=(za1 hwq).1;simpa using this
    rw[zdc (zj8 (ss:=xs) (fun x hx'=>⟨z8e x (hx x hx'),by have:=zk8 (l:=z0q) 100 (by decide +kernel) (hx x hx');omega⟩) (by rw[opN1 j2];rfl) (by rw[opN1 j2];exact zg6 rfl hxl (.inr rfl)))]
    have e2:(xs.map y1v).map txS=xs:=by rw[y2e];exact (List.map_congr_left fun x _=>rfl).trans (List.map_id _)
    simp only[z5n,ha,e2,y14,Bool.true_and]
    cases hr:z1e xs with
    | false=>simp
    | true =>
     have:=zi5 hx hr
     simp[this]
  | dict x=>have:=hq.g;simp[gd] at this
  | _=>rfl
theorem zg8 {f g:Fs} {ε:Ev} {t:T} (h:f ε=some (.rt t)):seq f g ε=some (.rt t):=by simp[seq,h]
theorem zru {f:Fe} {ε:Ev} {ts:List T} {lo hi:Int} (hf:f ε=some (.tuple ts)):chain oLe oLe (cst (.int lo)) (opN oLen [f]) (cst (.int hi)) ε=some (.bool (decide (lo<=ts.length) && decide ((ts.length:Int)<=hi))):=z64 rfl (by rw[opN1 hf];rfl) rfl
def risT (t:T):Bool:=match t with
 | .list ts=>z1e (ts.map txS)
 | _=>false
def bR:Fs:=iff (tstB (op2 oNe (nm 3) (opN z1m [(nm 3)]))) (rtn (cst (.bool false))) skip
theorem zse {s0 s1 s2:Option Sl} {r:Ev} {xs:List Str} (h:∀x∈xs,asc (ls x)/\x.length<=1000000) (hl:xs.length<60):bR (s0::s1::s2::some (.imm (.list (xs.map .str)))::r)=if risT (.list (xs.map .str))=true then some (.nx (s0::s1::s2::some (.imm (.list (xs.map .str)))::r)) else some (.rt (.bool false)):=by
 unfold bR
 rw[zdc (zj8 (ss:=xs) h rfl (by rw[opN1 (t:=.list (xs.map .str)) rfl];exact zg6 rfl hl (.inl rfl)))]
 have e2:(xs.map y1v).map txS=xs:=by rw[y2e];exact (List.map_congr_left fun x _=>rfl).trans (List.map_id _)
 simp only[risT,e2]
 by_cases q:z1e xs=true <;> simp[q]
theorem zfd (t:T) (h:isI "tuple" t=true) (hg:gd t=true):∃ts,t=.tuple ts:=by
 cases t with
 | tuple ts=>exact⟨ts,rfl⟩
 | dict d=>simp[gd] at hg
 | _=>cases h
theorem fsts {f:Fe} {ε:Ev} {zs:List T} {P:T->Bool} (hf:f ε=some (.tuple zs)) (hl:zs.length<=100) (ha:zs.all P=true) (hP:∀t,P t=true->∃x r,t=.tuple (.str x::r)):comp 1 [] (itA f) (gNm 0) (cstT true) (op2 oIx (nm 0) (cst (.int 0))) ε=some (.list ((zs.map fstS).map .str)):=by
 rw[zdj (ts:=zs) (f:=fun t=>.str (fstS t)) (by simp only[itA,hf,y0p]) (by unfold big;omega) fun t ht=>?_,y2e]
 ·rfl
 ·obtain⟨x,r,rfl⟩:=hP t (List.all_eq_true.mp ha t ht)
  rw[z0c (t:=.tuple (.str x::r)) (u:=.int 0) rfl rfl,ix_0]
  rfl
theorem zi3 {d:Nat} {t:T} (h:Gd (d+4) t) (hd:d<=40) (hw:wd t=true):z32 [t]=some (.bool (z5h t)):=by
 unfold z32 runF z9q
 show (seq _ _ [some (.imm t),none,none,none,none,none,none]).bind _=_
 have h1:=zat (f:=nmV 0) (ε:=[some (.imm t),none,none,none,none,none,none]) (i:=3) 3 rfl rfl h.g
 by_cases hb:tupN t 3=false
 ·rw[hb] at h1
  rw[z1r (z1o (a:=true) (b:=false) (z0j (z08 h1)) fun z=>by cases z),if_pos (by rfl)]
  have:z5h t=false:=by
   have hb:=tNf hb
   unfold z5h
   split
   ·simp[tupB] at hb
   ·rfl
  rw[this]
  rfl
 rw[Bool.not_eq_false] at hb
 rw[hb] at h1
 obtain⟨z,c,m,rfl⟩:=zh7 (tN hb)
 have hz:=h.tup z (by simp)
 have hc:=h.tup c (by simp)
 have hm:=h.tup m (by simp)
 have wz:=(za1 hw).2 z (by simp)
 have wc:=(za1 hw).2 c (by simp)
 have j0:∀r:Ev,op2 oIx (nm 0) (cst (.int 0)) (some (.imm (.tuple [z,c,m]))::r)=some z:=fun r=>by rw[z0c (t:=.tuple [z,c,m]) (u:=.int 0) rfl rfl];exact ix_0
 have j1:∀r:Ev,op2 oIx (nm 0) (cst (.int 1)) (some (.imm (.tuple [z,c,m]))::r)=some c:=fun r=>by rw[z0c (t:=.tuple [z,c,m]) (u:=.int 1) rfl rfl];exact ix_1
 have j2:∀r:Ev,op2 oIx (nm 0) (cst (.int 2)) (some (.imm (.tuple [z,c,m]))::r)=some m:=fun r=>by rw[z0c (t:=.tuple [z,c,m]) (u:=.int 2) rfl rfl];exact ix_2
 by_cases q0:isI "tuple" z=false
 ·rw[z1r (z1o (a:=false) (z0j (z08 h1)) fun _=>z1o (a:=true) (b:=false) (z0j (a:=false) (z08 (by rw[z17 (j0 _),z5i "tuple" hz.g,q0]))) fun z=>by cases z),if_pos (by rfl)]
  have:z4j z=false:=by cases z <;> first|rfl|cases q0
  simp[z5h,this]
 rw[Bool.not_eq_false] at q0
 obtain⟨zs,rfl⟩:=zfd z q0 hz.g
 rw[z1r (z1o (a:=false) (z0j (z08 h1)) fun _=>z1o (a:=false) (z0j (a:=true) (z08 (by rw[z17 (j0 _),z5i "tuple" hz.g,q0]))) fun _=>z0j (z08 (zru (j0 _))))]
 by_cases q1:(decide ((1:Int)<=zs.length) && decide ((zs.length:Int)<=8))=false
 ·rw[q1,if_pos (by rfl)]
  have:(decide (1<=zs.length) && decide (zs.length<=8))=false:=by
   rw[Bool.and_eq_false_iff,decide_eq_false_iff_not,decide_eq_false_iff_not] at q1 ⊢
   omega
  simp[z5h,z4j,this]
 rw[Bool.not_eq_false] at q1
 rw[q1,if_neg (by simp)]
 have hzl:1<=zs.length/\zs.length<=8:=by
  rw[y1c,decide_eq_true_eq,decide_eq_true_eq] at q1
  omega
 by_cases q2:isI "tuple" c=false
 ·rw[z1r (z1o (a:=true) (b:=false) (z0j (a:=false) (z08 (by rw[z17 (j1 _),z5i "tuple" hc.g,q2]))) fun z=>by cases z),if_pos (by rfl)]
  have:z4q c=false:=by cases c <;> first|rfl|cases q2
  simp[z5h,this]
 rw[Bool.not_eq_false] at q2
 obtain⟨cs,rfl⟩:=zfd c q2 hc.g
 rw[z1r (z1o (a:=false) (z0j (a:=true) (z08 (by rw[z17 (j1 _),z5i "tuple" hc.g,q2]))) fun _=>z1o (z0j (z08 (zru (j1 _)))) fun _=>z0j (z08 (zat (i:=3) 3 rfl (j2 _) hm.g)))]
 by_cases q3:(decide ((1:Int)<=cs.length) && decide ((cs.length:Int)<=6))=false
 ·rw[q3,if_pos (by rfl)]
  have:(decide (1<=cs.length) && decide (cs.length<=6))=false:=by
   rw[Bool.and_eq_false_iff,decide_eq_false_iff_not,decide_eq_false_iff_not] at q3 ⊢
   omega
  simp[z5h,z4q,this]
 rw[Bool.not_eq_false] at q3
 rw[q3]
 have hcl:1<=cs.length/\cs.length<=6:=by
  rw[y1c,decide_eq_true_eq,decide_eq_true_eq] at q3
  omega
 by_cases q4:tupN m 3=false
 ·rw[q4,if_pos (by rfl)]
  have:z6s m=false:=by
   have hb:=tNf q4
   unfold z6s
   split
   ·simp[tupB] at hb
   ·rfl
  simp[z5h,this]
 rw[Bool.not_eq_false] at q4
 rw[q4,if_neg (by simp)]
 obtain⟨a,b,e,rfl⟩:=zh7 (tN q4)
 have ez:z4j (.tuple zs)=(zs.all z67 && z1e (zs.map fstS)):=by simp[z4j,hzl]
 have ec:z4q (.tuple cs)=(cs.all codeB && z1e (cs.map fstS)):=by simp[z4q,hcl]
 have eP:z5h (.tuple [.tuple zs,.tuple cs,.tuple [a,b,e]])=(z4j (.tuple zs) && (z4q (.tuple cs) && z6s (.tuple [a,b,e]))):=rfl
 rcases (zgm (g:=gNm 1) (body:=bZ) (P:=z67) (E:=fun s=>[some (.imm (.tuple [.tuple zs,.tuple cs,.tuple [a,b,e]])),s,none,none,none,none,none]) (fun _ _=>rfl) zs none fun t ht=>ztd (d:=d+1) (hz.tup t ht |>.le (by omega)) (by omega)).symm with ⟨az,fz⟩|⟨az,s1,fz⟩
 ·rw[zg8 (t:=.bool false) (by unfold for_;simp only[itA];rw[j0];exact fz),eP,ez,az]
  rfl
 rw[Co.seq_nx (ε':=[some (.imm (.tuple [.tuple zs,.tuple cs,.tuple [a,b,e]])),s1,none,none,none,none,none]) (by unfold for_;simp only[itA];rw[j0];exact fz)]
 rcases (zgm (g:=gNm 2) (body:=bC) (P:=codeB) (E:=fun s=>[some (.imm (.tuple [.tuple zs,.tuple cs,.tuple [a,b,e]])),s1,s,none,none,none,none]) (fun _ _=>rfl) cs none fun t ht=>zte (d:=d) (hc.tup t ht |>.le (by omega)) (by omega) ((za1 wc).2 t ht)).symm with ⟨ac,fc⟩|⟨ac,s2,fc⟩
 ·rw[zg8 (t:=.bool false) (by unfold for_;simp only[itA];rw[j1];exact fc),eP,ec,ac]
  simp
 rw[Co.seq_nx (ε':=[some (.imm (.tuple [.tuple zs,.tuple cs,.tuple [a,b,e]])),s1,s2,none,none,none,none]) (by unfold for_;simp only[itA];rw[j1];exact fc)]
 have hZ:∀x∈zs.map fstS,asc (ls x)/\x.length<=1000000:=fun x hx=>by
  obtain⟨t,ht,rfl⟩:=y0m.mp hx
  obtain⟨y,k,rfl,hk,hy⟩:=z8h (List.all_eq_true.mp az t ht)
  have:=(z72 hy).2.1
  exact⟨z8a hy,by show y.length<=_;omega⟩
 have hC:∀x∈cs.map fstS,asc (ls x)/\x.length<=1000000:=fun x hx=>by
  obtain⟨t,ht,rfl⟩:=y0m.mp hx
  obtain⟨f,w,r,u,rfl,hf,_⟩:=z9i (List.all_eq_true.mp ac t ht)
  have:=(z7i hf).1
  exact⟨fun c hc=>by have:=(z7i hf).2 c hc;omega,by show f.length<=_;omega⟩
 have f1:=fsts (ε:=[some (.imm (.tuple [.tuple zs,.tuple cs,.tuple [a,b,e]])),s1,s2,none,none,none,none]) (j0 _) (by omega) az fun t ht=>by
  obtain⟨y,k,rfl,_⟩:=z8h ht
  exact⟨y,_,rfl⟩
 have f2:=fsts (ε:=[some (.imm (.tuple [.tuple zs,.tuple cs,.tuple [a,b,e]])),s1,s2,none,none,none,none]) (j1 _) (by omega) ac fun t ht=>by
  obtain⟨f,w,r,u,rfl,_⟩:=z9i ht
  exact⟨f,_,rfl⟩
 have hitm:itA (z04 [(comp 1 [] (itA (op2 oIx (nm 0) (cst (.int 0)))) (gNm 0) (cstT true) (op2 oIx (nm 0) (cst (.int 0)))),(comp 1 [] (itA (op2 oIx (nm 0) (cst (.int 1)))) (gNm 0) (cstT true) (op2 oIx (nm 0) (cst (.int 0))))]) [some (.imm (.tuple [.tuple zs,.tuple cs,.tuple [a,b,e]])),s1,s2,none,none,none,none]=some [.list ((zs.map fstS).map .str),.list ((cs.map fstS).map .str)]:=by
  rw[itA,z04]
  simp only[args]
  rw[f1,f2]
  rfl
 have e2:∀l:List Str,(l.map y1v).map txS=l:=fun l=>by rw[y2e];exact (List.map_congr_left fun x _=>rfl).trans (List.map_id _)
 rcases (zgm (g:=gNm 3) (body:=bR) (P:=risT) (E:=fun s=>[some (.imm (.tuple [.tuple zs,.tuple cs,.tuple [a,b,e]])),s1,s2,s,none,none,none]) (fun _ _=>rfl) [.list ((zs.map fstS).map .str),.list ((cs.map fstS).map .str)] none fun t ht=>by
  simp only[y09,y25,or_false] at ht
  rcases ht with rfl|rfl
  ·exact zse hZ (by simp;omega)
  ·exact zse hC (by simp;omega)).symm with ⟨ar,fr⟩|⟨ar,s3,fr⟩
 ·rw[zg8 (t:=.bool false) (by unfold for_;rw[hitm];exact fr),eP,ez,ec,az,ac]
  simp only[List.all_cons,List.all_nil,risT,e2,Bool.and_true] at ar
  simp only[Bool.true_and]
  rw[<- Bool.and_assoc,ar]
  rfl
 rw[Co.seq_nx (ε':=[some (.imm (.tuple [.tuple zs,.tuple cs,.tuple [a,b,e]])),s1,s2,s3,none,none,none]) (by unfold for_;rw[hitm];exact fr)]
 rw[Co.seq_nx (ε':=[some (.imm (.tuple [.tuple zs,.tuple cs,.tuple [a,b,e]])),s1,s2,s3,some (.imm a),some (.imm b),some (.imm e)]) (by unfold asgT;rw[j2];rfl)]
 simp only[List.all_cons,List.all_nil,risT,e2,Bool.and_true,y1c] at ar
 have ha:=hm.tup a (by simp)
 have hb_:=hm.tup b (by simp)
 have he:=hm.tup e (by simp)
 simp only[rtn]
 rw[z0a (a:=z0v a 0 60) (b:=z0v b 0 60 && z0v e 1 300) (by rw[opN3 (t:=a) (u:=.int 0) (v:=.int 60) rfl rfl rfl];exact z4x ha.g) fun _=>z0a (by rw[opN3 (t:=b) (u:=.int 0) (v:=.int 60) rfl rfl rfl];exact z4x hb_.g) fun _=>by rw[opN3 (t:=e) (u:=.int 1) (v:=.int 300) rfl rfl rfl];exact z4x he.g]
 rw[eP,ez,ec,az,ac,ar.1,ar.2]
 rfl
theorem ix0T {a:T} {r:List T} {f:Fe} {ε:Ev} (h:f ε=some (.tuple (a::r))):op2 oIx f (cst (.int 0)) ε=some a:=by rw[z0c h (u:=.int 0) rfl];exact ix_0
theorem zoa {f:Fe} {ε:Ev} {ts:List T} {i:Int} (n:Nat) (hi:i=(n:Int)) (hf:f ε=some (.tuple ts)):op2 oEq (opN oLen [f]) (cst (.int i)) ε=some (.bool (decide (ts.length=n))):=by
 rw[z0c (t:=.int ts.length) (u:=.int i) (by rw[opN1 hf];rfl) rfl,Co.oEq_int]
 congr 2
 exact decide_eq_decide.mpr (by omega)
theorem zrt {f:Fe} {ε:Ev} {ts:List T} {i:Int} (n:Nat) (hi:i=(n:Int)) (hf:f ε=some (.tuple ts)):op2 oNe (opN oLen [f]) (cst (.int i)) ε=some (.bool !(decide (ts.length=n))):=by
 rw[z0c (t:=.int ts.length) (u:=.int i) (by rw[opN1 hf];rfl) rfl]
 show some (PyData.bool !(((ts.length:Int) == i)))=_
 congr 3
 rw[Bool.eq_iff_iff]
 simp
 omega
theorem zjt {f g:Fe} {ε:Ev} {t s:T} {ss:List Str} {d:Nat} (hf:f ε=some t) (hg:g ε=some s) (h:Gd d t) (hd:d<=60) (hs:s=.tuple (ss.map .str)\/s=.list (ss.map .str)) (ha:∀x∈ss,asc (ls x)):opN z0p [f,g] ε=some (.bool (inB ss t)):=by
 rw[opN2 hf hg]
 exact z90 h hd hs ha
theorem zs7 {p:Pl} {a:T} {r:List T} (h1:eqS "line" a=false) (h2:eqS "code" a=false) (h3:eqS "ticks" a=false):z39 p (.tuple (a::r))=false:=by
 have l1:z6h p (.tuple (a::r))=false:=by
  unfold z6h
  split
  next a' z w e=>cases e;simp[h1]
  next=>rfl
 have l2:z3b p (.tuple (a::r))=false:=by
  unfold z3b
  split
  next a' f e' z e=>cases e;simp[h2]
  next=>rfl
 have l3:z3s (.tuple (a::r))=false:=by
  unfold z3s
  split
  next a' n e=>cases e;simp[h3]
  next=>rfl
 simp[z39,l1,l2,l3]
theorem zpo {p:Pl} {ts:List T} (h:ts.length≠3):z6h p (.tuple ts)=false:=by
 unfold z6h
 split
 next a' z w e=>cases e;simp at h
 next=>rfl
theorem zq0 {p:Pl} {ts:List T} (h:ts.length≠4):z3b p (.tuple ts)=false:=by
 unfold z3b
 split
 next a' f e' z e=>cases e;simp at h
 next=>rfl
theorem zm4 {ts:List T} (h:ts.length≠2):z3s (.tuple ts)=false:=by
 unfold z3s
 split
 next a' n e=>cases e;simp at h
 next=>rfl
theorem sl_c:¬(("line":Str)="code"):=by decide +kernel
theorem sl_t:¬(("line":Str)="ticks"):=by decide +kernel
theorem st_c:¬(("ticks":Str)="code"):=by decide +kernel
theorem zsx {ε:Ev}:op2 zjy (cst (.int 10)) (cst (.int 30)) ε=some (.int (10 ^ 30)):=by
 rw[z0c (t:=.int 10) (u:=.int 30) rfl rfl]
 simp only[zjy]
 rw[if_pos ⟨trivial,by decide,by decide⟩]
 rfl
theorem zfc {p:Pl} (hp:Pok p) {d:Nat} {t:T} (h:Gd (d+1) t) (hd:d<=50) (hi:∀a i,t=.tuple [a,.int i]->i<=10 ^ 30):z2j [encP p,t]=some (.bool (z39 p t)):=by
 unfold z2j runF z7v
 show (seq _ _ [some (.imm (encP p)),some (.imm t),none]).bind _=_
 have e0:comp 1 [] (itA (op2 oIx (nm 0) (cst (.int 0)))) (gNm 0) (cstT true) (op2 oIx (nm 0) (cst (.int 0))) [some (.imm (encP p)),some (.imm t),none]=some (.list ((z2v p).map .str)):=by
  rw[zdj (f:=fun t=>.str (fstS t)) (ts:=p.zones.map encZ) (by
   simp only[itA]
   rw[z0c (t:=encP p) rfl rfl,show oIx (encP p) (.int 0)=some (.tuple (p.zones.map encZ)) from ix_0]
   rfl) (by rw[y14];have:=hp.l;unfold big;omega) fun t ht=>by
    obtain⟨z,_,rfl⟩:=y0m.mp ht
    rw[z0c rfl rfl]
    exact ix_0]
  simp only[y2e,z2v]
  rfl
 rw[Co.seq_nx (z5b e0)]
 simp only[y1l,y1j]
 by_cases q0:isI "tuple" t=false
 ·rw[z1r (z1o (a:=true) (b:=false) (z0j (a:=false) (z08 (by rw[z17 (t:=t) rfl,z5i "tuple" h.g,q0]))) fun z=>by cases z),if_pos (by rfl)]
  have:z39 p t=false:=by cases t <;> first|rfl|cases q0
  rw[this]
  rfl
 rw[Bool.not_eq_false] at q0
 obtain⟨ts,rfl⟩:=zfd t q0 h.g
 generalize hE:[some (Sl.imm (encP p)),some (.imm (.tuple ts)),some (.imm (.list ((z2v p).map .str)))]=E
 have n1:nm 1 E=some (.tuple ts):=by subst hE;rfl
 have n2:nmV 2 E=some (.list ((z2v p).map .str)):=by subst hE;rfl
 have k0:tstB (op1 (oIsI "tuple") (nm 1)) E=some true:=z08 (by rw[z17 n1,z5i "tuple" h.g,q0])
 have kE:op2 oEq (nm 1) (z04 []) E=some (.bool ts.isEmpty):=by
  rw[z0c n1 (u:=.tuple []) rfl]
  simp only[oEq,h.okT (by omega),show okT (.tuple [])=true from rfl,Bool.and_self,if_true]
  cases ts <;> rfl
 cases ts with
 | nil =>
  rw[z1r (z1o (a:=false) (z0j k0) fun _=>z1o (a:=true) (b:=false) (z08 kE) fun z=>by cases z),if_pos (by rfl)]
  rfl
 | cons a r =>
  have ha:=h.tup a (by simp)
  have j0:=ix0T n1
  by_cases q1:isI "str" a=false
  ·rw[z1r (z1o (a:=false) (z0j k0) fun _=>z1o (a:=false) (z08 kE) fun _=>z0j (a:=false) (z08 (by rw[z17 j0,z5i "str" ha.g,q1]))),if_pos (by rfl)]
   have:∀s,eqS s a=false:=fun s=>by cases a <;> first|rfl|cases q1
   rw[zs7 (this _) (this _) (this _)]
   rfl
  rw[Bool.not_eq_false] at q1
  rw[z1r (z1o (a:=false) (z0j k0) fun _=>z1o (a:=false) (z08 kE) fun _=>z0j (a:=true) (z08 (by rw[z17 j0,z5i "str" ha.g,q1]))),if_neg (by simp)]
  have c1:=eq_s j0 ha zok (by omega)
  have c2:=eq_s j0 ha zll (by omega)
  have c3:=ne_s j0 ha zol (by omega)
  by_cases qa:eqS "line" a=true
  ·rw[z12 (z08 c1),qa,if_pos rfl]
   have xa:a=.str "line":=by
    cases a with
    | str x=>rw[of_decide_eq_true qa]
    | _=>cases qa
   have z2:z3b p (.tuple (a::r))=false:=by
    unfold z3b
    split
    next a' f e' z e=>cases e;rw[xa];simp[eqS,sl_c]
    next=>rfl
   have z3:z3s (.tuple (a::r))=false:=by
    unfold z3s
    split
    next a' n e=>cases e;rw[xa];simp[eqS,sl_t]
    next=>rfl
   have hL:=zoa (i:=3) 3 rfl n1
   by_cases ql:(a::r).length=3
   ·obtain⟨a',z,w,e⟩:=zh7 (t:=.tuple (a::r)) (by simp only[tupB,y1c,decide_eq_true_eq];omega)
    cases e
    have hz:=h.tup z (by simp)
    have hw:=h.tup w (by simp)
    rw[z1d (t:=.bool (true && (inB (z2v p) z && inB zaf w))) (z0a (by rw[hL,decide_eq_true ql]) fun _=>z0a (zjt (by rw[z0c n1 (u:=.int 1) rfl];exact ix_1) n2 hz (by omega) (.inr rfl) hp.z) fun _=>zjt (by rw[z0c n1 (u:=.int 2) rfl];exact ix_2) rfl hw (by omega) (.inl rfl) zlm)]
    simp only[z39,z2,z3,z6h,qa,Bool.true_and,Bool.or_false,y0p]
   ·rw[z1d (t:=.bool (false && true)) (z0a (by rw[hL,decide_eq_false ql]) fun z=>by cases z)]
    simp only[z39,z2,z3,zpo ql,y0p]
    rfl
  rw[Bool.not_eq_true] at qa
  rw[z12 (z08 c1),qa,if_neg (by simp)]
  by_cases qt:eqS "ticks" a=true
  ·rw[z12 (z08 c2),qt,if_pos rfl]
   have xa:a=.str "ticks":=by
    cases a with
    | str x=>rw[of_decide_eq_true qt]
    | _=>cases qt
   have z2:z3b p (.tuple (a::r))=false:=by
    unfold z3b
    split
    next a' f e' z e=>cases e;rw[xa];simp[eqS,st_c]
    next=>rfl
   have z1:z6h p (.tuple (a::r))=false:=by
    unfold z6h
    split
    next a' z w e=>cases e;simp[qa]
    next=>rfl
   have hL:=zoa (i:=2) 2 rfl n1
   by_cases ql:(a::r).length=2
   ·obtain⟨a',n,e⟩:=zm2 (t:=.tuple (a::r)) (by simp only[tupB,y1c,decide_eq_true_eq];omega)
    cases e
    have hn:=h.tup n (by simp)
    rw[z1d (t:=.bool (true && z0v n 1 (10 ^ 30))) (z0a (by rw[hL,decide_eq_true ql]) fun _=>by
     rw[opN3 (t:=n) (u:=.int 1) (v:=.int (10 ^ 30)) (by rw[z0c n1 (u:=.int 1) rfl];exact ix_1) rfl zsx]
     exact z4x hn.g)]
    have:z0v n 1 (10 ^ 30)=(z6d n && posB n):=by
     cases n with
     | int i =>
      have:=hi a i rfl
      simp only[z0v,z6d,posB,Bool.true_and]
      rw[decide_eq_true this,Bool.and_true]
     | _=>rfl
    simp only[z39,z1,z2,z3s,qt,this,Bool.true_and,Bool.false_or,y0p]
   ·rw[z1d (t:=.bool (false && true)) (z0a (by rw[hL,decide_eq_false ql]) fun z=>by cases z)]
    simp only[z39,z1,z2,zm4 ql,y0p]
    rfl
  rw[Bool.not_eq_true] at qt
  rw[z12 (z08 c2),qt,if_neg (by simp)]
  by_cases qc:eqS "code" a=false
  ·rw[z1r (z1o (a:=true) (b:=false) (z08 (by rw[c3,qc];rfl)) fun z=>by cases z),if_pos (by rfl),zs7 qa qc qt]
   rfl
  rw[Bool.not_eq_false] at qc
  have z1:z6h p (.tuple (a::r))=false:=by
   unfold z6h
   split
   next a' z w e=>cases e;simp[qa]
   next=>rfl
  have z3:z3s (.tuple (a::r))=false:=by
   unfold z3s
   split
   next a' n e=>cases e;simp[qt]
   next=>rfl
  have hL:=zrt (i:=4) 4 rfl n1
  by_cases ql:(a::r).length=4
  ·obtain⟨a',f,e',z,e⟩:=zm1 (t:=.tuple (a::r)) (by simp only[tupB,y1c,decide_eq_true_eq];omega)
   cases e
   have hf:=h.tup f (by simp)
   have he:=h.tup e' (by simp)
   have hz:=h.tup z (by simp)
   have j1:op2 oIx (nm 1) (cst (.int 1)) E=some f:=by rw[z0c n1 (u:=.int 1) rfl];exact ix_1
   have j2:op2 oIx (nm 1) (cst (.int 2)) E=some e':=by rw[z0c n1 (u:=.int 2) rfl];exact ix_2
   have j3:op2 oIx (nm 1) (cst (.int 3)) E=some z:=by rw[z0c n1 (u:=.int 3) rfl];exact ix_3
   rw[z1r (z1o (a:=false) (z08 (by rw[c3,qc];rfl)) fun _=>z1o (a:=false) (z08 (by rw[hL,decide_eq_true ql];rfl)) fun _=>z0j (z08 (by rw[opN1 j1];exact zkw hf.g)))]
   simp only[z39,z1,z3,z3b,qc,Bool.true_and,Bool.false_or,Bool.or_false]
   by_cases qf:figB f=false
   ·simp[qf]
   rw[Bool.not_eq_false] at qf
   simp only[qf,Bool.not_true,y1t,if_false,Bool.true_and]
   have o1:=zjt (g:=z04 [(cst (.str "set")),(cst (.str "unset"))]) (ss:=["set","unset"]) j2 rfl he (by omega) (.inl rfl) a_da
   have o2:=zjt (g:=z04 [(cst (.str "shunt")),(cst (.str "free"))]) (ss:=["shunt","free"]) j2 rfl he (by omega) (.inl rfl) a_dz
   have o3:=zjt (ss:=z2v p) j3 n2 hz (by omega) (.inr rfl) hp.z
   rw[z12 (z08 o1)]
   by_cases qd:inB ["set","unset"] e'=true
   ·rw[qd,if_pos rfl,if_pos rfl,z1d (t:=.bool (zpm z)) (by rw[z17 j3];cases z <;> rfl)]
    rfl
   ·rw[if_neg qd,if_neg qd]
    simp only[rtn]
    rw[z0a o2 fun _=>o3]
    rfl
  ·rw[z1r (z1o (a:=false) (z08 (by rw[c3,qc];rfl)) fun _=>z1o (a:=true) (b:=false) (z08 (by rw[hL,decide_eq_false ql];rfl)) fun z=>by cases z),if_pos (by rfl)]
   simp only[z39,z1,z3,zq0 ql]
   rfl
theorem zq9:((List.range 128).all fun c=>(Unicode.upperOf c).all (fun a=>decide (a<128)) && decide ((Unicode.upperOf c).length<=3))=true:=by decide +kernel
theorem up_c {c:Nat} (h:c<128):(∀a∈Unicode.upperOf c,a<128)/\(Unicode.upperOf c).length<=3:=by
 have:=List.all_eq_true.mp zq9 c (List.mem_range.mpr h)
 rw[y1c,List.all_eq_true] at this
 exact⟨fun a ha=>of_decide_eq_true (this.1 a ha),of_decide_eq_true this.2⟩
theorem zlx (x:Str):ls (Txt.upper x)=((ls x).map Unicode.upperOf).flatten:=by
 show ((x.cps.mapIdx fun _ c=>(Unicode.upperOf c).toArray).flatten).toList=_
 rw[Array.toList_flatten]
 congr 1
 apply List.ext_getElem?
 intro i
 simp[ls]
 rfl
theorem zlw {x:Str} (h:asc (ls x)):asc (ls (Txt.upper x))/\(Txt.upper x).length<=3*x.length:=by
 rw[z45 (Txt.upper x),zlx,z45 x]
 generalize ls x=l at h
 induction l with
 | nil=>exact⟨fun a ha=>by simp at ha,by simp⟩
 | cons c l ih =>
  have h1:=up_c (h c (by simp))
  have h2:=ih fun a ha=>h a (y05 _ ha)
  refine⟨fun a ha=>?_,?_⟩
  ·simp only[y0d,List.flatten_cons,y11] at ha
   rcases ha with ha|ha
   ·exact h1.1 a ha
   ·exact h2.1 a ha
  ·simp only[y0d,List.flatten_cons,y20,y0w]
   omega
noncomputable def Src:Nat->T->Prop
 | _,.int i=>0<=i/\i<=1000000000
 | _,.str x=>asc (ls x)/\x.length<=10
 | _,.none=>True
 | d+1,.tuple ts=>ts.length<=10/\∀t∈ts,Src d t
 | _,_=>False
structure Ok (d:Nat) (t:T):Prop where
 g:Gd d t
 w:wd t=true
 i:∀i,t=.int i->i<=10 ^ 30
 c:∀ts,t=.tuple ts->∀i,PyData.int i∈ts->i<=10 ^ 30
theorem Ok.le {d e:Nat} {t:T} (h:Ok d t) (hd:d<=e):Ok e t:=⟨h.g.le hd,h.w,h.i,h.c⟩
theorem z2i {d:Nat} {ts:List T} (h:∀t∈ts,Ok d t) (hl:ts.length<60):Ok (d+1) (.tuple ts) :=
 ⟨Gd.mk_tup fun t ht=>(h t ht).g,by rw[wd,y1c];exact⟨decide_eq_true hl,zaq.mpr fun t ht=>(h t ht).w⟩,fun i e=>(by cases e),fun us e i hi=>(by cases e;exact (h _ hi).i i rfl)⟩
theorem zju {d:Nat} {ts:List T} (h:∀t∈ts,Ok d t) (hl:ts.length<60):Ok (d+1) (.list ts) :=
 ⟨Gd.mk_lst fun t ht=>(h t ht).g,by rw[wd,y1c];exact⟨decide_eq_true hl,zaq.mpr fun t ht=>(h t ht).w⟩,fun i e=>(by cases e),fun us e=>(by cases e)⟩
theorem z70 {d:Nat} {i:Int} (h:i<=10 ^ 30):Ok d (.int i):=⟨zs5,rfl,fun j e=>(by cases e;exact h),fun us e=>(by cases e)⟩
theorem z38 {d:Nat} {x:Str} (h:asc (ls x)) (hl:x.length<=1000000):Ok d (.str x):=⟨zgk h hl,rfl,fun j e=>(by cases e),fun us e=>(by cases e)⟩
theorem zes {d:Nat}:Ok d .none:=⟨zs4,rfl,fun j e=>(by cases e),fun us e=>(by cases e)⟩
theorem zb4 {d:Nat} {b:Bool}:Ok d (.bool b):=⟨zfg,rfl,fun j e=>(by cases e),fun us e=>(by cases e)⟩
theorem e30:(1000000060:Int)<=10 ^ 30:=by decide +kernel
theorem zj4 {d:Nat} {i:Int} (h:Src d (.int i)):0<=i/\i<=1000000000:=by cases d <;> exact h
theorem zeb {d:Nat} {x:Str} (h:Src d (.str x)):asc (ls x)/\x.length<=10:=by cases d <;> exact h
theorem zd8 {d:Nat} {i:Int} (h:0<=i/\i<=1000000000):Src d (.int i):=by cases d <;> exact h
theorem zad {d:Nat} {x:Str} (h:asc (ls x)/\x.length<=10):Src d (.str x):=by cases d <;> exact h
theorem zpn {d:Nat}:Src d .none:=by cases d <;> exact trivial
theorem zbz:∀{d:Nat} {t:T},Src d t->Ok (d+1) t
 | d,.int i,h=>z70 (Int.le_trans (zj4 h).2 (Int.le_trans (by omega) e30))
 | d,.str x,h=>z38 (zeb h).1 (by have:=(zeb h).2;omega)
 | d,.none,_=>zes
 | d+1,.tuple ts,h=>z2i (fun t ht=>zbz (h.2 t ht)) (by have:=h.1;omega)
 | 0,.tuple ts,h=>by simp[Src] at h
 | d,.bool _,h=>by cases d <;> simp[Src] at h
 | d,.list _,h=>by cases d <;> simp[Src] at h
 | d,.dict _,h=>by cases d <;> simp[Src] at h
theorem z33 {α:Type} (l:List α) (a b:Option Int):(cutZ l a b).length<=l.length:=by
 unfold cutZ
 rw[List.length_take,List.length_drop]
 omega
theorem zkg {L:List T} {k:Int} (h0:0<=k) (h:k<L.length):∃u∈L,oIx (.list L) (.int k)=some u:=by
 obtain⟨n,rfl⟩:∃n:Nat,k=n:=⟨k.toNat,by omega⟩
 have hn:n<L.length:=by omega
 refine⟨L[n],List.getElem_mem _,?_⟩
 simp only[oIx,atZ,ixOf]
 rw[if_pos (by omega),if_pos (by omega)]
 exact y0v hn
theorem pick {ε:Ev} {fs:List Fe} {L:List T} {g:Fe} {k:Int} {d:Nat} (hl:args fs ε=some L) (hn:L.length<=100) (hg:g ε=some (.int k)) (h0:0<=k) (hk:k<L.length) (ho:∀u∈L,Ok d u):∃u,op2 oIx (z11 fs) g ε=some u/\Ok d u:=by
 obtain⟨u,hu,e⟩:=zkg h0 hk
 refine⟨u,?_,ho u hu⟩
 rw[z0c (t:=.list L) (u:=.int k) (by
  simp only[z11,hl,y0p]
  rw[if_pos (by unfold big;omega)]) hg]
 exact e
theorem m_b {f:Fe} {ε:Ev} {a k b:Int} (hf:f ε=some (.int a)) (e:oMod (.int a) (.int k)=some (.int b)):op2 oMod f (cst (.int k)) ε=some (.int b):=by rw[z0c hf rfl];exact e
theorem d_b {f:Fe} {ε:Ev} {a k b:Int} (hf:f ε=some (.int a)) (e:oDiv (.int a) (.int k)=some (.int b)):op2 oDiv f (cst (.int k)) ε=some (.int b):=by rw[z0c hf rfl];exact e
theorem gt_b {f:Fe} {ε:Ev} {a:Int} (hf:f ε=some (.int a)):tstB (op2 oGt f (cst (.int 0))) ε=some (decide (0<a)):=z08 (by rw[z0c hf (u:=.int 0) rfl];rfl)
theorem eq_b {f:Fe} {ε:Ev} {a k:Int} (hf:f ε=some (.int a)):tstB (op2 oEq f (cst (.int k))) ε=some (decide (a=k)):=z08 (by rw[z0c hf (u:=.int k) rfl];exact Co.oEq_int _ _)
theorem str_1:asc (ls "1"):=z78
theorem zsp:asc (ls "a"):=z78
theorem z6g {f:Fe} {ε:Ev} {ts:List T} {lo hi:Ev->Option (Option Int)} {a b:Option Int} (hf:f ε=some (.tuple ts)) (h1:lo ε=some a) (h2:hi ε=some b):z0l f lo hi ε=some (.tuple (cutZ ts a b)):=by
 simp only[z0l,hf,h1,h2,y0p,oSlA,oSl]
theorem addT {f g:Fe} {ε:Ev} {a b:List T} (hf:f ε=some (.tuple a)) (hg:g ε=some (.tuple b)) (hl:a.length+b.length<=1000000):op2 oAdd f g ε=some (.tuple (a++b)):=by
 rw[z0c hf hg]
 simp only[oAdd]
 rw[if_pos (by unfold big;omega)]
theorem addS {f g:Fe} {ε:Ev} {a b:Str} (hf:f ε=some (.str a)) (hg:g ε=some (.str b)) (hl:a.length+b.length<=1000000):op2 oAdd f g ε=some (.str (a++b)):=by
 rw[z0c hf hg]
 simp only[oAdd]
 rw[if_pos (by unfold big;omega)]
theorem zbp (a b:Str):(a++b).length=a.length+b.length:=by rw[z45,zd9,y20,<- z45,<- z45]
theorem zpr (c:String) {f:Fe} {ε:Ev} {t:T} (hf:f ε=some t) (h:gd t=true):tstB (op1 (oIsI c) f) ε=some (isI c t):=z08 (by rw[z17 hf];exact z5i c h)
theorem zqe:∀u∈([.none,.bool true,.bool false,.int 0,.int 1,.int 7,.int 8,.int 60,.int 61,.int 301,.int (-1),.str "",.str "a",.str "set",.str "open",.str "1234",.str "way",.tuple [],.list [],.tuple [.str "a",.str "way"]]:List T),Ok 2 u:=by
 have s:∀{d:Nat} {x:Str},((ls x).all fun c=>decide (c<128))=true->x.length<=1000000->Ok d (.str x):=fun h1 h2=>z38 (z78 h1) h2
 have i:∀{d:Nat} {i:Int},i<=1000000060->Ok d (.int i):=fun h=>z70 (Int.le_trans h e30)
 intro u hu
 simp only[y09,y25,or_false] at hu
 rcases hu with rfl|rfl|rfl|rfl|rfl|rfl|rfl|rfl|rfl|rfl|rfl|rfl|rfl|rfl|rfl|rfl|rfl|rfl|rfl|rfl
 ·exact zes
 ·exact zb4
 ·exact zb4
 ·exact i (by omega)
 ·exact i (by omega)
 ·exact i (by omega)
 ·exact i (by omega)
 ·exact i (by omega)
 ·exact i (by omega)
 ·exact i (by omega)
 ·exact i (by omega)
 ·exact s (by decide +kernel) (by decide +kernel)
 ·exact s (by decide +kernel) (by decide +kernel)
 ·exact s (by decide +kernel) (by decide +kernel)
 ·exact s (by decide +kernel) (by decide +kernel)
 ·exact s (by decide +kernel) (by decide +kernel)
 ·exact s (by decide +kernel) (by decide +kernel)
 ·exact z2i (by simp) (by simp)
 ·exact zju (by simp) (by simp)
 ·refine z2i (fun t ht=>?_) (by simp)
  simp only[y09,y25,or_false] at ht
  rcases ht with rfl|rfl
  ·exact s (by decide +kernel) (by decide +kernel)
  ·exact s (by decide +kernel) (by decide +kernel)
noncomputable def spL:Fs:=(seq (asg 5 (z11 [(cst .none),(cst (.bool true)),(cst (.bool false)),(cst (.int 0)),(cst (.int 1)),(cst (.int 7)),(cst (.int 8)),(cst (.int 60)),(cst (.int 61)),(cst (.int 301)),(op1 oNeg (cst (.int 1))),(cst (.str "")),(cst (.str "a")),(cst (.str "set")),(cst (.str "open")),(cst (.str "1234")),(cst (.str "way")),(z04 []),(z11 []),(z04 [(cst (.str "a")),(cst (.str "way"))])]))
  (rtn (op2 oIx (nm 5) (op2 oMod (op2 oDiv (nm 1) (cst (.int 6))) (cst (.int 20))))))
theorem zqd {s0 s2 s3 s4 s5:Option Sl} {m:Int}:∃u,spL [s0,some (.imm (.int m)),s2,s3,s4,s5]=some (.rt u)/\Ok 2 u:=by
 obtain⟨a1,_,e1⟩:=divQ m 6
 obtain⟨a2,_,a20,a21,e2⟩:=modQ a1 20
 unfold spL
 rw[Co.seq_nx (z5b (t:=.list [.none,.bool true,.bool false,.int 0,.int 1,.int 7,.int 8,.int 60,.int 61,.int 301,.int (-1),.str "",.str "a",.str "set",.str "open",.str "1234",.str "way",.tuple [],.list [],.tuple [.str "a",.str "way"]]) rfl)]
 simp only[y1l,y1j]
 obtain⟨u,hu,e⟩:=zkg (L:=[.none,.bool true,.bool false,.int 0,.int 1,.int 7,.int 8,.int 60,.int 61,.int 301,.int (-1),.str "",.str "a",.str "set",.str "open",.str "1234",.str "way",.tuple [],.list [],.tuple [.str "a",.str "way"]]) a20 (by simpa using a21)
 refine⟨u,?_,zqe u hu⟩
 simp only[rtn]
 rw[z0c (u:=.int a2) rfl (m_b (d_b rfl e1) e2),e]
 rfl
theorem z8l:∀(n deep d:Nat) (t:T) (m:Int),Src d t->deep<n->n<=1000->∃u,z1p n [t,.int m,.int (deep:Int)]=some u/\Ok (d+2) u
 | 0,_,_,_,_,_,h,_=>absurd h (Nat.not_lt_zero _)
 | n+1,deep,d,t,m,hs,hn,hn2=>by
  have hok:=zbz hs
  obtain⟨r6,_,r60,r61,er6⟩:=modQ m 6
  obtain⟨d6,_,ed6⟩:=divQ m 6
  obtain⟨q2,_,q20,q21,eq2⟩:=modQ d6 2
  obtain⟨d12,_,ed12⟩:=divQ m 12
  obtain⟨k6,_,k60,k61,ek6⟩:=modQ d12 6
  obtain⟨uL,eL,oL⟩:=zqd (s0:=some (.imm t)) (s2:=some (.imm (.int (deep:Int)))) (s3:=none) (s4:=none) (s5:=none) (m:=m)
  show ∃u,(z66 (z1p n) [some (.imm t),some (.imm (.int m)),some (.imm (.int (deep:Int))),none,none,none]).bind _=some u/\_
  unfold z66
  generalize hE:[some (Sl.imm t),some (.imm (.int m)),some (.imm (.int (deep:Int))),none,none,none]=E at eL
  have n0:nm 0 E=some t:=by subst hE;rfl
  have n1:nm 1 E=some (.int m):=by subst hE;rfl
  have n1v:nmV 1 E=some (.int m):=by subst hE;rfl
  have n2:nm 2 E=some (.int (deep:Int)):=by subst hE;rfl
  have n2v:nmV 2 E=some (.int (deep:Int)):=by subst hE;rfl
  have cD:=gt_b n2
  have c6:=gt_b (m_b n1 er6)
  have c2:=eq_b (k:=0) (m_b (d_b n1 ed6) eq2)
  have ik:op2 oMod (op2 oDiv (nm 1) (cst (.int 12))) (cst (.int 6)) E=some (.int k6):=m_b (d_b n1 ed12) ek6
  have iT:=zpr "tuple" n0 hok.g.g
  have iS:=zpr "str" n0 hok.g.g
  have iI:=zpr "int" n0 hok.g.g
  have last:∀o,spL E=some (.rt o)->∃u,(spL E).bind (fun o=>match o with|.rt t=>some t|.nx _=>some .none|_=>none)=some u/\Ok (d+2) u:=fun o _=>⟨uL,by rw[eL];rfl,oL.le (by omega)⟩
  have no1:∀{c1 c2:Ft} {X Y c3':Fs},isI "tuple" t=false->seq (iff (andT (tstB (op2 oGt (nm 2) (cst (.int 0)))) (andT (tstB (op1 (oIsI "tuple") (nm 0))) c1)) X skip) (seq (iff (andT (tstB (op1 (oIsI "tuple") (nm 0))) c2) Y skip) c3') E=c3' E:=fun h=>by
   rw[z12 (z3e (b:=false) cD fun _=>z3e (a:=false) (b:=true) (by rw[iT,h]) fun z=>by cases z),if_neg (by simp),z12 (z3e (a:=false) (b:=true) (by rw[iT,h]) fun z=>by cases z),if_neg (by simp)]
  have noS:∀{c2:Ft} {X Y:Fs},isI "str" t=false->seq (iff (andT (tstB (op1 (oIsI "str") (nm 0))) c2) X skip) Y E=Y E:=fun h=>by
   rw[z12 (z3e (a:=false) (b:=true) (by rw[iS,h]) fun z=>by cases z),if_neg (by simp)]
  have noI:∀{c2:Ft} {X Y:Fs},isI "int" t=false->seq (iff (andT (tstB (op1 (oIsI "int") (nm 0))) c2) X skip) Y E=Y E:=fun h=>by
   rw[z12 (z3e (a:=false) (b:=true) (by rw[iI,h]) fun z=>by cases z),if_neg (by simp)]
  cases t with
  | none =>
   rw[no1 rfl,noS rfl,noI rfl]
   exact last _ eL
  | bool b=>cases d <;> simp[Src] at hs
  | list b=>cases d <;> simp[Src] at hs
  | dict b=>cases d <;> simp[Src] at hs
  | int i =>
   have hi:=zj4 hs
   rw[no1 rfl,noS rfl,z12 (z3e (a:=true) (by rw[iI];rfl) fun _=>c2)]
   by_cases hq:q2=0
   ·rw[decide_eq_true hq,if_pos (by rfl)]
    have hlog:zk6 i=true:=zo9 hi.1 (Int.lt_of_le_of_lt hi.2 (by decide +kernel))
    have eS:opN oStr [(nm 0)] E=some (.str (strI i)):=by rw[opN1 n0];simp only[oStr];rw[if_pos hlog]
    obtain⟨u,eu,ou⟩:=pick (d:=d+2) (fs:=[(opN oStr [(nm 0)]),(op2 oSub (cst (.int 0)) (nm 0)),(op2 oAdd (nm 0) (cst (.int 1))),(op2 oEq (nm 0) (cst (.int 1))),(op2 oSub (nm 0) (cst (.int 1))),(op2 oAdd (nm 0) (cst (.int 60)))]) (L:=[.str (strI i),.int (0 - i),.int (i+1),.bool (decide (i=1)),.int (i - 1),.int (i+60)]) (by
     simp only[args]
     rw[eS,z0c (t:=.int 0) rfl n0,z0c n0 (u:=.int 1) rfl,z0c n0 (u:=.int 1) rfl,z0c n0 (u:=.int 1) rfl,z0c n0 (u:=.int 60) rfl,Co.oEq_int]
     rfl) (by simp) ik k60 (by simpa using k61) fun u hu=>by
     simp only[y09,y25,or_false] at hu
     have l:=e30
     rcases hu with rfl|rfl|rfl|rfl|rfl|rfl
     ·refine z38 (fun a ha=>?_) ?_
      ·have:=zbx hi.1 a ha
       omega
      ·have:=zj3 (k:=10) hi.1 (by decide) (by omega)
       omega
     ·exact z70 (Int.le_trans (by omega) l)
     ·exact z70 (Int.le_trans (by omega) l)
     ·exact zb4
     ·exact z70 (Int.le_trans (by omega) l)
     ·exact z70 (Int.le_trans (by omega) l)
    rw[z1d eu]
    exact⟨u,rfl,ou⟩
   ·rw[decide_eq_false hq,if_neg (by simp)]
    exact last _ eL
  | str x =>
   have hx:=zeb hs
   rw[no1 rfl,z12 (z3e (a:=true) (by rw[iS];rfl) fun _=>c2)]
   by_cases hq:q2=0
   ·rw[decide_eq_true hq,if_pos (by rfl)]
    have hu:=zlw hx.1
    have eR:op1 zcp (nm 0) E=some (.str (st (ls x).reverse)):=by
     rw[z17 n0]
     simp only[zcp]
     rw[if_pos (by unfold big;omega)]
     rfl
    have eU:op1 zab (nm 0) E=some (.str (Txt.upper x)):=by rw[z17 n0];simp only[zab];rw[if_pos (by omega)]
    have eW:op2 zac (nm 0) (cst (.int 2)) E=some (.str (x++x)):=by rw[z0c n0 (u:=.int 2) rfl];simp only[zac];rw[if_pos ⟨trivial,by omega⟩]
    have eC:=zja (f:=nm 0) (lo:=opt (cst (.int 1))) (hi:=optN) (a:=some 1) (b:=none) n0 rfl rfl (by omega)
    have la:("a":Str).length=1:=by decide +kernel
    have l1:("1":Str).length=1:=by decide +kernel
    obtain⟨u,eu,ou⟩:=pick (d:=d+2) (fs:=[(op2 oAdd (nm 0) (cst (.str "a"))),(z0l (nm 0) (opt (cst (.int 1))) optN),(op2 oAdd (nm 0) (cst (.str "1"))),(op1 zab (nm 0)),(op2 zac (nm 0) (cst (.int 2))),(op1 zcp (nm 0))]) (L:=[.str (x++"a"),.str (st (cutZ (ls x) (some 1) none)),.str (x++"1"),.str (Txt.upper x),.str (x++x),.str (st (ls x).reverse)]) (by
     simp only[args]
     rw[addS (b:="a") n0 rfl (by omega),eC,addS (b:="1") n0 rfl (by omega),eU,eW,eR]
     rfl) (by simp) ik k60 (by simpa using k61) fun u hu'=>by
     simp only[y09,y25,or_false] at hu'
     rcases hu' with rfl|rfl|rfl|rfl|rfl|rfl
     ·exact z38 (by rw[zd9];exact zbo hx.1 zsp) (by rw[zbp];omega)
     ·exact z38 (by rw[zba];exact zbn hx.1 fun y hy=>z5a hy) (by
       rw[z45,zba]
       have:=z33 (ls x) (some 1) none
       rw[<- z45] at this
       omega)
     ·exact z38 (by rw[zd9];exact zbo hx.1 str_1) (by rw[zbp];omega)
     ·exact z38 hu.1 (by omega)
     ·exact z38 (by rw[zd9];exact zbo hx.1 hx.1) (by rw[zbp];omega)
     ·exact z38 (by rw[zba];exact zbn hx.1 fun y hy=>List.mem_reverse.mp hy) (by rw[z45,zba,List.length_reverse,<- z45];omega)
    rw[z1d eu]
    exact⟨u,rfl,ou⟩
   ·rw[decide_eq_false hq,if_neg (by simp),noI rfl]
    exact last _ eL
  | tuple ts=>cases d with
   | zero=>simp[Src] at hs
   | succ d =>
    obtain⟨hl,hc⟩:ts.length<=10/\∀t∈ts,Src d t:=hs
    have iT':tstB (op1 (oIsI "tuple") (nm 0)) E=some true:=iT
    have cL:tstB (op2 oGt (opN oLen [(nm 0)]) (cst (.int 0))) E=some (decide (0<(ts.length:Int))):=gt_b (by rw[opN1 n0];rfl)
    cases ts with
    | nil =>
     rw[z12 (z3e (b:=false) cD fun _=>z3e (a:=true) (b:=false) iT' fun _=>z3e (a:=false) (b:=true) cL fun z=>by cases z),if_neg (by simp),z12 (z3e (a:=true) (b:=false) iT' fun _=>z3e (a:=false) (b:=true) cL fun z=>by cases z),if_neg (by simp),noS rfl,noI rfl]
     exact last _ eL
    | cons x r =>
     have hlen:(0:Int)<((x::r).length:Int):=by simp only[y0w];omega
     have hco:∀u∈x::r,Ok (d+2) u:=fun u hu=>(zbz (hc u hu)).le (by omega)
     have cA:andT (tstB (op2 oGt (nm 2) (cst (.int 0)))) (andT (tstB (op1 (oIsI "tuple") (nm 0))) (andT (tstB (op2 oGt (opN oLen [(nm 0)]) (cst (.int 0)))) (tstB (op2 oGt (op2 oMod (nm 1) (cst (.int 6))) (cst (.int 0)))))) E=some (decide (0<(deep:Int)) && (true && (decide (0<((x::r).length:Int)) && decide (0<r6)))):=z3e cD fun _=>z3e iT' fun _=>z3e cL fun _=>c6
     have cB:andT (tstB (op1 (oIsI "tuple") (nm 0))) (andT (tstB (op2 oGt (opN oLen [(nm 0)]) (cst (.int 0)))) (tstB (op2 oEq (op2 oMod (op2 oDiv (nm 1) (cst (.int 6))) (cst (.int 2))) (cst (.int 0))))) E=some (true && (decide (0<((x::r).length:Int)) && decide (q2=0))):=z3e iT' fun _=>z3e cL fun _=>c2
     by_cases hA:(decide (0<(deep:Int)) && (true && (decide (0<((x::r).length:Int)) && decide (0<r6))))=true
     ·rw[z12 cA,hA,if_pos rfl]
      have hdp:0<deep:=by
       rw[y1c,decide_eq_true_eq] at hA
       omega
      obtain⟨k,rfl⟩:∃k,deep=k+1:=⟨deep - 1,by omega⟩
      obtain⟨at_,_,at0,at1,eat⟩:=modQ d6 ((x::r).length:Int) hlen
      obtain⟨v,hv,ev⟩:=ixT (ts:=x::r) at0 at1
      obtain⟨m',_,em'⟩:=Co.drawn_eq m ((k+1:Nat):Int) ⟨by omega,by omega⟩
      obtain⟨m4,_,em4⟩:=divQ m' 4
      obtain⟨u,eu,ou⟩:=z8l n k d v m4 (hc v hv) (by omega) (by omega)
      refine⟨.tuple (cutZ (x::r) none (some at_)++[u]++cutZ (x::r) (some (at_+1)) none),?_,?_⟩
      ·have g1:asg 3 (op2 oMod (op2 oDiv (nm 1) (cst (.int 6))) (opN oLen [(nm 0)])) E=some (.nx (E.set 3 (some (.imm (.int at_))))):=z5b (by rw[z0c (d_b n1 ed6) (u:=.int ((x::r).length:Int)) (by rw[opN1 n0];rfl)];exact eat)
       subst hE
       have g2:(seq (asg 3 (op2 oMod (op2 oDiv (nm 1) (cst (.int 6))) (opN oLen [(nm 0)])))
  (seq (asg 4 (opN (z1p n) [(op2 oIx (nm 0) (nm 3)),(op2 oDiv (opN z0x [(nmV 1),(nmV 2)]) (cst (.int 4))),(op2 oSub (nm 2) (cst (.int 1)))]))
  (rtn (op2 oAdd (op2 oAdd (z0l (nm 0) optN (opt (nm 3))) (z04 [(nmV 4)])) (z0l (nm 0) (opt (op2 oAdd (nm 3) (cst (.int 1)))) optN))))) [some (Sl.imm (.tuple (x::r))),some (.imm (.int m)),some (.imm (.int ((k+1:Nat):Int))),none,none,none]=some (.rt (.tuple (cutZ (x::r) none (some at_)++[u]++cutZ (x::r) (some (at_+1)) none))):=by
        rw[Co.seq_nx g1]
        simp only[y1l,y1j]
        rw[Co.seq_nx (z5b (t:=u) (by
         rw[opN3 (t:=v) (u:=.int m4) (v:=.int (k:Int)) (by rw[z0c (t:=.tuple (x::r)) (u:=.int at_) rfl rfl];exact ev) (d_b (by rw[opN2 (t:=.int m) (u:=.int ((k+1:Nat):Int)) rfl rfl];exact em') em4) (by
          rw[z0c (t:=.int ((k+1:Nat):Int)) (u:=.int 1) rfl rfl]
          simp only[oSub]
          congr 2
          omega)]
         exact eu))]
        simp only[y1l,y1j,rtn]
        have hc1:=z33 (x::r) none (some at_)
        have hc2:=z33 (x::r) (some (at_+1)) none
        rw[addT (a:=cutZ (x::r) none (some at_)++[u]) (b:=cutZ (x::r) (some (at_+1)) none) (addT (z6g (ts:=x::r) (a:=none) (b:=some at_) rfl rfl rfl) rfl (by simp only[List.length_singleton];omega)) (z6g (ts:=x::r) (a:=some (at_+1)) (b:=none) rfl rfl rfl) (by rw[y20];simp only[List.length_singleton];omega)]
        rfl
       rw[zg8 g2]
       rfl
      ·have hc1:=z33 (x::r) none (some at_)
       have hc2:=z33 (x::r) (some (at_+1)) none
       refine z2i (fun w hw=>?_) (by simp only[y20,List.length_singleton];omega)
       simp only[y11,y0z] at hw
       rcases hw with (hw|rfl)|hw
       ·exact hco w (z5a hw)
       ·exact ou
       ·exact hco w (z5a hw)
     ·rw[Bool.not_eq_true] at hA
      rw[z12 cA,hA,if_neg (by simp),z12 cB]
      by_cases hq:q2=0
      ·rw[decide_eq_true hq,decide_eq_true hlen,if_pos (by rfl)]
       have neg1:opt (op1 oNeg (cst (.int 1))) E=some (some (-1)):=rfl
       have s1:=z6g (lo:=optN) (hi:=opt (op1 oNeg (cst (.int 1)))) (a:=none) (b:=some (-1)) n0 rfl rfl
       have s2:=z6g (lo:=opt (op1 oNeg (cst (.int 1)))) (hi:=optN) (a:=some (-1)) (b:=none) n0 rfl rfl
       have s3:=z6g (lo:=opt (cst (.int 1))) (hi:=optN) (a:=some 1) (b:=none) n0 rfl rfl
       have l1:=z33 (x::r) none (some (-1))
       have l2:=z33 (x::r) (some (-1)) none
       have l3:=z33 (x::r) (some 1) none
       obtain⟨u,eu,ou⟩:=pick (d:=d+1+2) (fs:=[(opN z9y [(nm 0)]),(z0l (nm 0) optN (opt (op1 oNeg (cst (.int 1))))),(op2 oAdd (nm 0) (z0l (nm 0) (opt (op1 oNeg (cst (.int 1)))) optN)),(z0l (nm 0) (opt (cst (.int 1))) optN),(op1 zcp (nm 0)),(z04 [])]) (L:=[.list (x::r),.tuple (cutZ (x::r) none (some (-1))),.tuple ((x::r)++cutZ (x::r) (some (-1)) none),.tuple (cutZ (x::r) (some 1) none),.tuple (x::r).reverse,.tuple []]) (by
        simp only[args]
        rw[opN1 n0,s1,addT n0 s2 (by omega),s3,z17 n0]
        rfl) (by simp) ik k60 (by simpa using k61) fun u hu=>by
        simp only[y09,y25,or_false] at hu
        rcases hu with rfl|rfl|rfl|rfl|rfl|rfl
        ·exact zju hco (by omega)
        ·exact z2i (fun w hw=>hco w (z5a hw)) (by omega)
        ·refine z2i (fun w hw=>?_) (by rw[y20];omega)
         rcases y11.mp hw with hw|hw
         ·exact hco w hw
         ·exact hco w (z5a hw)
        ·exact z2i (fun w hw=>hco w (z5a hw)) (by omega)
        ·exact z2i (fun w hw=>hco w (List.mem_reverse.mp hw)) (by rw[List.length_reverse];omega)
        ·exact z2i (by simp) (by simp)
       rw[z1d eu]
       exact⟨u,rfl,ou⟩
      ·rw[decide_eq_false hq,decide_eq_true hlen,if_neg (by simp),noS rfl,noI rfl]
       exact last _ eL
theorem zos {d:Nat} {x:Str} (h1:((ls x).all fun c=>decide (c<128))=true:=by decide +kernel) (h2:x.length<=10:=by decide +kernel):Src d (.str x):=zad ⟨z78 h1,h2⟩
theorem zdb {d:Nat} {x:Str} {l:List Str} (h:(l.all fun q=>(ls q).all (fun c=>decide (c<128)) && decide (q.length<=10))=true) (hx:x∈l):Src d (.str x):=by
 have:=List.all_eq_true.mp h x hx
 rw[y1c] at this
 exact zad ⟨z78 this.1,of_decide_eq_true this.2⟩
theorem zmb {p:Pl} (dp:DP p) (h:Pv p):Src 4 (encP p):=by
 refine⟨by simp,fun t ht=>?_⟩
 simp only[y09,y25,or_false] at ht
 have nm:∀{d:Nat} {x:Str},z44 (.str x)=true->Src d (.str x):=fun hx=>zad ⟨z8a hx,by have:=(z72 hx).2.1;omega⟩
 rcases ht with rfl|rfl|rfl
 ·refine⟨by rw[y14];have:=h.z8;omega,fun t ht=>?_⟩
  obtain⟨z,hz,rfl⟩:=y0m.mp ht
  have:=h.zs z hz
  refine⟨by simp,fun t ht=>?_⟩
  simp only[y09,y25,or_false] at ht
  rcases ht with rfl|rfl
  ·exact nm this.1
  ·exact zdb (l:=z46) (by decide +kernel) this.2
 ·refine⟨by rw[y14];have:=h.c6;omega,fun t ht=>?_⟩
  obtain⟨k,hk,rfl⟩:=y0m.mp ht
  obtain⟨k1,k2,k3,k4,_,k5,k6⟩:=h.cs k hk
  refine⟨by simp,fun t ht=>?_⟩
  simp only[y09,y25,or_false] at ht
  rcases ht with rfl|rfl|rfl|rfl
  ·exact zad ⟨fun c hc=>by have:=(z7i k1).2 c hc;omega,by have:=(z7i k1).1;omega⟩
  ·exact nm k2
  ·refine⟨by rw[y14];omega,fun t ht=>?_⟩
   obtain⟨r,hr,rfl⟩:=y0m.mp ht
   exact zdb (l:=z0q) (by decide +kernel) (k4 r hr)
  ·exact zd8 ⟨k5,by omega⟩
 ·refine⟨by simp,fun t ht=>?_⟩
  simp only[y09,y25,or_false] at ht
  have t1:=h.t1
  have t2:=h.t2
  have t3:=h.t3
  rcases ht with rfl|rfl|rfl
  ·exact zd8 ⟨t1.1,by omega⟩
  ·exact zd8 ⟨t2.1,by omega⟩
  ·exact zd8 ⟨by omega,by omega⟩
theorem zj5 {p:Pl} (h:Pv p) {e:Et} (he:evOk p e) (ht:∀n,e=.ticks n->n<=1000000000):Src 1 (encE e):=by
 have nz:∀{d:Nat} {x:Str},x∈z2v p->Src d (.str x):=fun hx=>by
  obtain⟨z,hz,rfl⟩:=y0m.mp hx
  have:=(h.zs z hz).1
  exact zad ⟨z8a this,by have:=(z72 this).2.1;omega⟩
 cases e with
 | line z w =>
  refine⟨by simp,fun t hm=>?_⟩
  simp only[y09,y25,or_false] at hm
  rcases hm with rfl|rfl|rfl
  ·exact zos
  ·exact nz he.1
  ·exact zdb (l:=zaf) (by decide +kernel) he.2
 | ticks n =>
  refine⟨by simp,fun t hm=>?_⟩
  simp only[y09,y25,or_false] at hm
  have h1:1<=n:=he
  rcases hm with rfl|rfl
  ·exact zos
  ·exact zd8 ⟨by omega,ht n rfl⟩
 | code f d z =>
  refine⟨by simp,fun t hm=>?_⟩
  simp only[y09,y25,or_false] at hm
  have h1:Src 0 (.str f):=zad ⟨fun c hc=>by have:=(z7i he.1).2 c hc;omega,by have:=(z7i he.1).1;omega⟩
  have h2:Src 0 (.str d)/\Src 0 (oS z):=by
   rcases he.2 with ⟨rfl,hd⟩|⟨x,rfl,hx,hd⟩
   ·exact⟨zdb (l:=["set","unset"]) (by decide +kernel) hd,zpn⟩
   ·exact⟨zdb (l:=["shunt","free"]) (by decide +kernel) hd,nz hx⟩
  rcases hm with rfl|rfl|rfl|rfl
  ·exact zos
  ·exact h1
  ·exact h2.1
  ·exact h2.2
def Ev1 (d:Nat) (f:Fe) (ε:Ev):Prop:=∃u,f ε=some u/\Ok d u
def EvL (d:Nat) (fs:List Fe) (ε:Ev):Prop:=∃us,args fs ε=some us/\us.length=fs.length/\∀u∈us,Ok d u
theorem evn {d:Nat} {ε:Ev}:EvL d [] ε:=⟨[],rfl,rfl,by simp⟩
theorem evc {d:Nat} {f:Fe} {fs:List Fe} {ε:Ev} (h:Ev1 d f ε) (hs:EvL d fs ε):EvL d (f::fs) ε:=by
 obtain⟨u,h1,h2⟩:=h
 obtain⟨us,g1,g2,g3⟩:=hs
 refine⟨u::us,by simp[args,h1,g1],by simp[g2],fun v hv=>?_⟩
 rcases y09.mp hv with rfl|hv
 ·exact h2
 ·exact g3 v hv
theorem evt {d:Nat} {fs:List Fe} {ε:Ev} (h:EvL d fs ε) (hl:fs.length<60:=by decide):Ev1 (d+1) (z04 fs) ε:=by
 obtain⟨us,g1,g2,g3⟩:=h
 refine⟨.tuple us,?_,z2i g3 (by omega)⟩
 simp only[z04,g1,y0p]
 first|rfl|(rw[if_pos (by unfold big;omega)])
theorem evi {d:Nat} {f:Fe} {ε:Ev} {i:Int} (h:f ε=some (.int i)) (hi:i<=1000000060):Ev1 d f ε:=⟨_,h,z70 (Int.le_trans hi e30)⟩
theorem evs {d:Nat} {ε:Ev} {x:Str} (h1:((ls x).all fun c=>decide (c<128))=true:=by decide +kernel) (h2:x.length<=1000000:=by decide +kernel):Ev1 d (cst (.str x)) ε:=⟨_,rfl,z38 (z78 h1) h2⟩
theorem zpv {d i:Nat} {fs:List Fe} {ε:Ev} (h:EvL d fs ε) (hl:fs.length<=100):∃L,asgN i (z11 fs) ε=some (.nx (ε.set i (some (.own L))))/\L.length=fs.length/\∀u∈L,Ok d u:=by
 obtain⟨us,g1,g2,g3⟩:=h
 refine⟨us,?_,g2,g3⟩
 simp only[asgN,z11,g1,y0p]
 rw[if_pos (by unfold big;omega)]
 rfl
theorem zgo {d i:Nat} {f:Fe} {ε:Ev} {L:List T} (h:Ev1 d f ε) (hi:ε[i]?=some (some (.own L))) (hl:L.length<=100) (hL:∀u∈L,Ok d u):∃L',app i f ε=some (.nx (ε.set i (some (.own L'))))/\L'.length=L.length+1/\∀u∈L',Ok d u:=by
 obtain⟨u,g1,g2⟩:=h
 refine⟨L++[u],?_,by simp,fun v hv=>?_⟩
 ·simp only[app,hi,g1,y0p]
  rw[if_pos (by unfold big;omega)]
 ·rcases y11.mp hv with hv|hv
  ·exact hL v hv
  ·rw[y0z.mp hv]
   exact g2
def ten:Str:="abcdefghij"
theorem zqa (i:Int) (h0:0<=i) (h:i<10):∃x,oIx (.str ten) (.int i)=some (.str x)/\asc (ls x)/\x.length<=10:=by
 obtain⟨n,rfl⟩:∃n:Nat,i=n:=⟨i.toNat,by omega⟩
 have hn:n<10:=by omega
 have hls:(ls ten).length=10:=by decide +kernel
 have hb:ten.length<=big:=by decide +kernel
 have ha:asc (ls ten):=z78
 have hget:(ls ten)[n]?=some ((ls ten)[n]'(by omega)):=y0v _
 refine⟨st [(ls ten)[n]'(by omega)],?_,by rw[zba];exact fun a ha'=>by rw[y0z.mp ha'];exact ha _ (List.getElem_mem _),by rw[z45,zba];simp⟩
 simp only[oIx]
 rw[if_pos hb]
 have e:atZ ten.cps.toList (n:Int)=some ((ls ten)[n]'(by omega)):=by
  simp only[atZ,ixOf]
  rw[if_pos (by omega),if_pos (by
   show (n:Int)<((ls ten).length:Int)
   omega)]
  exact hget
 rw[e]
 rfl
theorem z9g {d:Nat} {it:Fi} {e:Fe} {ε:Ev}:∀{ts:List T} (s:Option Sl),(∀t∈ts,Ev1 d e [some (.imm t)])->∃us,z34 (gNm 0) (cstT true) e ts [s]=some us/\us.length=ts.length/\∀u∈us,Ok d u
 | [],s,_=>⟨[],rfl,rfl,by simp⟩
 | t::ts,s,h=>by
  obtain⟨u,h1,h2⟩:=h t (by simp)
  obtain⟨us,g1,g2,g3⟩:=z9g (it:=it) (ε:=ε) (ts:=ts) (some (.imm t)) fun v hv=>h v (y05 _ hv)
  refine⟨u::us,?_,by simp[g2],fun v hv=>?_⟩
  ·rw[z34,show gNm 0 t [s]=some [some (.imm t)] from rfl]
   simp only[y0p,cstT,if_true,h1]
   rw[g1]
   rfl
  ·rcases y09.mp hv with rfl|hv
   ·exact h2
   ·exact g3 v hv
theorem zgs {d:Nat} {f e:Fe} {ε:Ev} {n:Int} (hf:f ε=some (.int n)) (h0:0<=n) (hn:n<=50) (h:∀k:Int,0<=k->k<n->Ev1 d e [some (.imm (.int k))]):∃us,opN z43 [comp 1 [] (z4o f) (gNm 0) (cstT true) e] ε=some (.tuple us)/\(us.length:Int)=n/\∀u∈us,Ok d u:=by
 have hit:z4o f ε=some ((List.range n.toNat).map fun (k:Nat)=>PyData.int (k:Int)):=by
  unfold z4o
  rw[hf]
  simp only[y0p]
  rw[if_pos (by
   unfold z8o
   rw[y1c]
   exact⟨decide_eq_true (by omega),decide_eq_true (by omega)⟩)]
  unfold rng
  rw[Int.sub_zero]
  congr 1
  refine List.map_congr_left fun a _=>?_
  show PyData.int (0+(a:Int))=.int (a:Int)
  rw[Int.zero_add]
 obtain⟨us,g1,g2,g3⟩:=z9g (it:=z4o f) (ε:=ε) (d:=d) (e:=e) (ts:=(List.range n.toNat).map fun (k:Nat)=>PyData.int (k:Int)) none fun t ht=>by
  obtain⟨k,hk,rfl⟩:=y0m.mp ht
  have:=List.mem_range.mp hk
  exact h k (by omega) (by omega)
 refine⟨us,?_,by rw[g2,y14,List.length_range];omega,g3⟩
 rw[opN1 (t:=.list us) (by
  simp only[comp,hit,y0p]
  rw[if_pos (by rw[y14,List.length_range];unfold big;omega),show z22 1 [] ε=[none] from rfl,g1]
  rfl)]
 rfl
theorem zof {d i:Nat} {fs:List Fe} {ε:Ev} {L:List T} (hi:nm i ε=some (.list L)) (hL:∀u∈L,Ok d u) (hl:L.length+fs.length<=100) (h:EvL d fs ε):∃L',op2 oAdd (nm i) (z11 fs) ε=some (.list L')/\L'.length=L.length+fs.length/\∀u∈L',Ok d u:=by
 obtain⟨us,g1,g2,g3⟩:=h
 refine⟨L++us,add_l hi (by
  simp only[z11,g1,y0p]
  rw[if_pos (by unfold big;omega)]) (by omega),by rw[y20,g2],fun u hu=>?_⟩
 rcases y11.mp hu with hu|hu
 ·exact hL u hu
 ·exact g3 u hu
theorem zky {d:Nat}:∀u∈([.tuple [.str "set",.str "set"],.tuple [.str "unset",.str "set"],.tuple [.str "set",.str "unset"],.tuple [.str "free"],.list [.str "set"],.str "set",.tuple [.int 5],.none]:List T),Ok (d+1) u:=by
 have s:∀{d:Nat} {x:Str},((ls x).all fun c=>decide (c<128))=true->x.length<=1000000->Ok d (.str x):=fun h1 h2=>z38 (z78 h1) h2
 have cs:∀{ts:List T},(∀t∈ts,t∈([.str "set",.str "unset",.str "free",.int 5]:List T))->∀t∈ts,Ok d t:=fun h t ht=>by
  have:=h t ht
  simp only[y09,y25,or_false] at this
  rcases this with rfl|rfl|rfl|rfl
  ·exact s (by decide +kernel) (by decide +kernel)
  ·exact s (by decide +kernel) (by decide +kernel)
  ·exact s (by decide +kernel) (by decide +kernel)
  ·exact z70 (Int.le_trans (by omega) e30)
 intro u hu
 simp only[y09,y25,or_false] at hu
 rcases hu with rfl|rfl|rfl|rfl|rfl|rfl|rfl|rfl
 ·exact z2i (cs (by simp)) (by simp)
 ·exact z2i (cs (by simp)) (by simp)
 ·exact z2i (cs (by simp)) (by simp)
 ·exact z2i (cs (by simp)) (by simp)
 ·exact zju (cs (by simp)) (by simp)
 ·exact s (by decide +kernel) (by decide +kernel)
 ·exact z2i (cs (by simp)) (by simp)
 ·exact zes
theorem znh (n:Int):∃L,z4y [.int n]=some (.list L)/\L.length<=50/\∀u∈L,Ok 4 u:=by
 obtain⟨w,_,w0,w1,ew⟩:=modQ n 3
 obtain⟨n4,_,en4⟩:=divQ n 4
 obtain⟨k4,_,k40,k41,ek4⟩:=modQ n4 4
 obtain⟨n64,_,en64⟩:=divQ n 64
 obtain⟨k8,_,k80,k81,ek8⟩:=modQ n64 8
 unfold z4y runF ze2
 show ∃L,(seq _ _ [some (.imm (.int n)),none,none,none,none,none,none]).bind _=_/\_
 rw[Co.seq_nx (z5b (m_b (a:=n) rfl ew))]
 simp only[y1l,y1j]
 obtain⟨zs,ez,lz,oz⟩:=zgs (d:=1) (f:=op2 oAdd (cst (.int 7)) (nm 1)) (e:=z04 [(op2 oIx (cst (.str "abcdefghij")) (nm 0)),(cst (.str "way"))]) (ε:=[some (.imm (.int n)),some (.imm (.int w)),none,none,none,none,none]) (n:=7+w) rfl (by omega) (by omega) fun k h0 hk=>by
  obtain⟨x,ex,ax,lx⟩:=zqa k h0 (by omega)
  refine evt (evc ⟨.str x,?_,z38 ax (by omega)⟩ (evc evs evn))
  rw[z0c (t:=.str ten) (u:=.int k) rfl rfl]
  exact ex
 rw[Co.seq_nx (z5b ez)]
 simp only[y1l,y1j]
 obtain⟨cs,ecs,lc,oc⟩:=zgs (d:=2) (f:=op2 oAdd (cst (.int 5)) (nm 1)) (e:=z04 [(opN oStr [(op2 oAdd (cst (.int 1000)) (nm 0))]),(cst (.str "x")),(z04 []),(cst (.int 0))]) (ε:=[some (.imm (.int n)),some (.imm (.int w)),some (.imm (.tuple zs)),none,none,none,none]) (n:=5+w) rfl (by omega) (by omega) fun k h0 hk=>by
  have hs:oStr [.int (1000+k)]=some (.str (strI (1000+k))):=by
   simp only[oStr]
   rw[if_pos (zo9 (by omega) (Int.lt_of_le_of_lt (b:=2000) (by omega) (by decide +kernel)))]
  refine evt (evc ⟨.str (strI (1000+k)),?_,z38 (fun a ha=>?_) ?_⟩ (evc evs (evc (evt (d:=0) evn) (evc (evi rfl (by omega)) evn))))
  ·rw[opN1 (t:=.int (1000+k)) rfl]
   exact hs
  ·have:=zbx (show 0<=1000+k by omega) a ha
   omega
  ·have:=zj3 (a:=1000+k) (k:=10) (by omega) (by decide) (by omega)
   omega
 rw[Co.seq_nx (z5b ecs)]
 simp only[y1l,y1j]
 have hzs:Ok 3 (.tuple zs):=(z2i oz (by omega)).le (by omega)
 have hcs:Ok 3 (.tuple cs):=z2i oc (by omega)
 obtain⟨P,eP,oP⟩:Ev1 2 (z04 [(z04 [(cst (.str "a")),(op2 oIx (z04 [(cst (.str "day")),(cst (.str "inner")),(cst (.str "once")),(cst (.str "way"))]) (op2 oMod (op2 oDiv (nm 0) (cst (.int 4))) (cst (.int 4))))])]) [some (.imm (.int n)),some (.imm (.int w)),some (.imm (.tuple zs)),some (.imm (.tuple cs)),none,none,none]:=by
  refine evt (evc (evt (evc evs (evc ?_ evn))) evn)
  obtain⟨v,hv,ev⟩:=ixT (ts:=z46.map .str) k40 (by simpa [z46] using k41)
  obtain⟨x,hx,rfl⟩:=y0m.mp hv
  refine⟨.str x,?_,z38 (zbq x hx) (by have:=zkc hx;omega)⟩
  rw[z0c (t:=.tuple (z46.map .str)) (u:=.int k4) rfl (m_b (d_b rfl en4) ek4)]
  exact ev
 rw[Co.seq_nx (z5b eP)]
 simp only[y1l,y1j]
 have E1:∀{s5 s6:Option Sl},Ev1 3 (nmV 2) [some (.imm (.int n)),some (.imm (.int w)),some (.imm (.tuple zs)),some (.imm (.tuple cs)),some (.imm P),s5,s6]:=⟨_,rfl,hzs⟩
 have E2:∀{s5 s6:Option Sl},Ev1 3 (nmV 3) [some (.imm (.int n)),some (.imm (.int w)),some (.imm (.tuple zs)),some (.imm (.tuple cs)),some (.imm P),s5,s6]:=⟨_,rfl,hcs⟩
 have E3:∀{s5 s6:Option Sl},Ev1 3 (nmV 4) [some (.imm (.int n)),some (.imm (.int w)),some (.imm (.tuple zs)),some (.imm (.tuple cs)),some (.imm P),s5,s6]:=⟨_,rfl,oP.le (by omega)⟩
 have E4:∀{s5 s6:Option Sl},Ev1 3 (z0l (nm 3) optN (opt (cst (.int 1)))) [some (.imm (.int n)),some (.imm (.int w)),some (.imm (.tuple zs)),some (.imm (.tuple cs)),some (.imm P),s5,s6]:=⟨_,z6g (ts:=cs) (a:=none) (b:=some 1) rfl rfl rfl,z2i (fun u hu=>oc u (z5a hu)) (by have:=z33 cs none (some 1);omega)⟩
 have T3:∀{f g h:Fe} {ε:Ev},Ev1 2 f ε->Ev1 2 g ε->Ev1 2 h ε->Ev1 3 (z04 [f,g,h]) ε:=fun a b c=>evt (evc a (evc b (evc c evn))) (by simp)
 have M3:∀{f g h:Fe} {ε:Ev},Ev1 3 f ε->Ev1 3 g ε->Ev1 3 h ε->Ev1 4 (z04 [f,g,h]) ε:=fun a b c=>evt (evc a (evc b (evc c evn))) (by simp)
 have Z:∀{ε:Ev},Ev1 2 (cst (.int 0)) ε:=evi rfl (by omega)
 have O:∀{ε:Ev},Ev1 2 (cst (.int 1)) ε:=evi rfl (by omega)
 have N:∀{c:Int} {s5 s6:Option Sl},c<=1000->Ev1 2 (op2 oAdd (cst (.int c)) (nm 1)) [some (.imm (.int n)),some (.imm (.int w)),some (.imm (.tuple zs)),some (.imm (.tuple cs)),some (.imm P),s5,s6]:=fun h=>evi rfl (by omega)
 obtain⟨L1,g1,l1,o1⟩:=zpv (i:=5) (d:=4) (fs:=[(z04 [(nmV 2),(z0l (nm 3) optN (opt (cst (.int 1)))),(z04 [(cst (.int 0)),(cst (.int 0)),(cst (.int 1))])]),(z04 [(nmV 4),(nmV 3),(z04 [(cst (.int 0)),(cst (.int 0)),(cst (.int 1))])]),(z04 [(nmV 4),(z0l (nm 3) optN (opt (cst (.int 1)))),(z04 [(op2 oAdd (cst (.int 59)) (nm 1)),(cst (.int 0)),(cst (.int 1))])])]) (ε:=[some (.imm (.int n)),some (.imm (.int w)),some (.imm (.tuple zs)),some (.imm (.tuple cs)),some (.imm P),none,none]) (evc (M3 E1 E4 (T3 Z Z O)) (evc (M3 E3 E2 (T3 Z Z O)) (evc (M3 E3 E4 (T3 (N (by omega)) Z O)) evn))) (by simp)
 rw[Co.seq_nx g1]
 simp only[y1l,y1j]
 obtain⟨L2,g2,l2,o2⟩:=zof (i:=5) (d:=4) (L:=L1) (fs:=[(z04 [(nmV 4),(z0l (nm 3) optN (opt (cst (.int 1)))),(z04 [(cst (.int 0)),(op2 oAdd (cst (.int 59)) (nm 1)),(cst (.int 1))])]),(z04 [(nmV 4),(z0l (nm 3) optN (opt (cst (.int 1)))),(z04 [(cst (.int 0)),(cst (.int 0)),(op2 oAdd (cst (.int 299)) (nm 1))])])]) (ε:=[some (.imm (.int n)),some (.imm (.int w)),some (.imm (.tuple zs)),some (.imm (.tuple cs)),some (.imm P),some (.own L1),none]) rfl o1 (by simp at l1 ⊢;omega) (evc (M3 E3 E4 (T3 Z (N (by omega)) O)) (evc (M3 E3 E4 (T3 Z Z (N (by omega)))) evn))
 simp only[y0w,y2a] at l1 l2
 rw[Co.seq_nx (ε':=[some (.imm (.int n)),some (.imm (.int w)),some (.imm (.tuple zs)),some (.imm (.tuple cs)),some (.imm P),some (.own L2),none]) (by unfold asgN;rw[g2];rfl)]
 obtain⟨L3,g3,l3,o3⟩:=zgo (i:=5) (d:=4) (L:=L2) (f:=z04 [(nmV 4),(z0l (nm 3) optN (opt (cst (.int 1)))),(z04 [(cst (.int 0)),(cst (.int 0)),(nmV 1)])]) (ε:=[some (.imm (.int n)),some (.imm (.int w)),some (.imm (.tuple zs)),some (.imm (.tuple cs)),some (.imm P),some (.own L2),none]) (M3 E3 E4 (T3 Z Z (evi rfl (by omega)))) rfl (by omega) o2
 rw[Co.seq_nx g3]
 simp only[y1l,y1j]
 obtain⟨L4,g4,l4,o4⟩:=zgo (i:=5) (d:=4) (L:=L3) (f:=z04 [(nmV 4),(z04 [(z04 [(cst (.str "1234")),(cst (.str "who")),(z0l (z04 [(cst (.str "set")),(cst (.str "shunt")),(cst (.str "unset"))]) (opt (nm 1)) optN),(op2 oAdd (cst (.int 8)) (nm 1))])]),(z04 [(cst (.int 0)),(cst (.int 0)),(cst (.int 1))])]) (ε:=[some (.imm (.int n)),some (.imm (.int w)),some (.imm (.tuple zs)),some (.imm (.tuple cs)),some (.imm P),some (.own L3),none]) (M3 E3 (evt (evc (evt (evc (d:=1) evs (evc evs (evc ⟨.tuple (cutZ (z0q.map .str) (some w) none),z6g (ts:=z0q.map .str) (a:=some w) (b:=none) rfl rfl rfl,z2i (fun u hu=>by
  obtain⟨x,hx,rfl⟩:=y0m.mp (z5a hu)
  exact z38 (z8e x hx) (by have:=zk8 (l:=z0q) 100 (by decide +kernel) hx;omega)) (by have:=z33 (z0q.map y1v) (some w) none;have h3:(z0q.map y1v).length=3:=rfl;omega)⟩ (evc (evi rfl (by omega)) evn))))) evn)) (T3 Z Z O)) rfl (by omega) o3
 rw[Co.seq_nx g4]
 simp only[y1l,y1j]
 rw[Co.seq_nx (z5b (t:=.list [.tuple [.str "set",.str "set"],.tuple [.str "unset",.str "set"],.tuple [.str "set",.str "unset"],.tuple [.str "free"],.list [.str "set"],.str "set",.tuple [.int 5],.none]) rfl)]
 simp only[y1l,y1j]
 obtain⟨R,hR,eR⟩:=zkg (L:=[.tuple [.str "set",.str "set"],.tuple [.str "unset",.str "set"],.tuple [.str "set",.str "unset"],.tuple [.str "free"],.list [.str "set"],.str "set",.tuple [.int 5],.none]) k80 (by simpa using k81)
 have oR:Ok 1 R:=zky (d:=0) R hR
 rw[Co.seq_nx (z5b (t:=R) (by rw[z0c (u:=.int k8) rfl (m_b (d_b rfl en64) ek8)];exact eR))]
 simp only[y1l,y1j]
 obtain⟨L5,g5,l5,o5⟩:=zgo (i:=5) (d:=4) (L:=L4) (f:=z04 [(nmV 4),(z04 [(z04 [(cst (.str "1234")),(cst (.str "who")),(nmV 6),(cst (.int 0))])]),(z04 [(cst (.int 0)),(cst (.int 0)),(cst (.int 1))])]) (ε:=[some (.imm (.int n)),some (.imm (.int w)),some (.imm (.tuple zs)),some (.imm (.tuple cs)),some (.imm P),some (.own L4),some (.imm R)]) (M3 E3 (evt (evc (evt (evc (d:=1) evs (evc evs (evc ⟨R,rfl,oR⟩ (evc (evi rfl (by omega)) evn))))) evn)) (T3 Z Z O)) rfl (by omega) o4
 rw[Co.seq_nx g5]
 simp only[y1l,y1j]
 have eA:op2 oAdd (z0l (cst (.str "abcd")) optN (opt (op2 oAdd (cst (.int 2)) (nm 1)))) (cst (.str "e")) [some (.imm (.int n)),some (.imm (.int w)),some (.imm (.tuple zs)),some (.imm (.tuple cs)),some (.imm P),some (.own L5),some (.imm R)]=some (.str (st (cutZ (ls "abcd") none (some (2+w)))++"e")):=addS (zja (x:="abcd") (a:=none) (b:=some (2+w)) rfl rfl rfl (by decide +kernel)) rfl (by
  rw[z45,zba]
  have:=z33 (ls "abcd") none (some (2+w))
  have h4:(ls "abcd").length=4:=by decide +kernel
  have h1:("e":Str).length=1:=by decide +kernel
  omega)
 obtain⟨L6,g6,l6,o6⟩:=zgo (i:=5) (d:=4) (L:=L5) (f:=z04 [(z04 [(z04 [(op2 oAdd (z0l (cst (.str "abcd")) optN (opt (op2 oAdd (cst (.int 2)) (nm 1)))) (cst (.str "e"))),(cst (.str "way"))])]),(z0l (nm 3) optN (opt (cst (.int 1)))),(z04 [(cst (.int 0)),(cst (.int 0)),(cst (.int 1))])]) (ε:=[some (.imm (.int n)),some (.imm (.int w)),some (.imm (.tuple zs)),some (.imm (.tuple cs)),some (.imm P),some (.own L5),some (.imm R)]) (M3 (evt (evc (evt (evc (d:=1) ⟨_,eA,z38 (by rw[zd9,zba];exact zbo (zbn (z78 (s:="abcd")) fun y hy=>z5a hy) z78) (by
  rw[zbp,z45,zba]
  have:=z33 (ls "abcd") none (some (2+w))
  have h4:(ls "abcd").length=4:=by decide +kernel
  have h1:("e":Str).length=1:=by decide +kernel
  omega)⟩ (evc evs evn))) evn)) E4 (T3 Z Z O)) rfl (by omega) o5
 rw[Co.seq_nx g6]
 simp only[y1l,y1j]
 obtain⟨L7,g7,l7,o7⟩:=zof (i:=5) (d:=4) (L:=L6) (fs:=[(z04 [(z04 []),(z0l (nm 3) optN (opt (cst (.int 1)))),(z04 [(cst (.int 0)),(cst (.int 0)),(cst (.int 1))])]),(z04 [(nmV 4),(z04 []),(z04 [(cst (.int 0)),(cst (.int 0)),(cst (.int 1))])])]) (ε:=[some (.imm (.int n)),some (.imm (.int w)),some (.imm (.tuple zs)),some (.imm (.tuple cs)),some (.imm P),some (.own L6),some (.imm R)]) rfl o6 (by simp;omega) (evc (M3 (evt (d:=2) evn) E4 (T3 Z Z O)) (evc (M3 E3 (evt (d:=2) evn) (T3 Z Z O)) evn))
 simp only[y0w,y2a] at l7
 refine⟨L7,?_,by omega,o7⟩
 simp only[rtn]
 rw[g7]
 rfl
def bP:Fs:=(seq (asg 6 (opN z50 [(nmV 5)]))
  (iff (orT (notT (tstB (op1 (oIsI "bool") (nm 6)))) (tstB (op2 oNe (nm 6) (opN z32 [(nmV 5)])))) (rtn (cst (.bool false))) skip))
noncomputable def bE:Fs:=(seq (asg 6 (opN z3p [(nmV 2),(nmV 5)]))
  (iff (orT (notT (tstB (op1 (oIsI "bool") (nm 6)))) (tstB (op2 oNe (nm 6) (opN z2j [(nmV 2),(nmV 5)])))) (rtn (cst (.bool false))) skip))
theorem zrr {s0 s1 s2 s3 s4 s7:Option Sl}:∀(us:List T) (s5 s6:Option Sl),(∀u∈us,Ok 6 u)->∃s5' s6',forL (gNm 5) bP us [s0,s1,s2,s3,s4,s5,s6,s7]=some (.nx [s0,s1,s2,s3,s4,s5',s6',s7])
 | [],s5,s6,_=>⟨s5,s6,rfl⟩
 | u::us,s5,s6,h=>by
  have hu:=h u (by simp)
  obtain⟨a,b,e⟩:=zrr (s0:=s0) (s1:=s1) (s2:=s2) (s3:=s3) (s4:=s4) (s7:=s7) us (some (.imm u)) (some (.imm (.bool (z5h u)))) fun v hv=>h v (y05 _ hv)
  refine⟨a,b,?_⟩
  rw[forL,show gNm 5 u [s0,s1,s2,s3,s4,s5,s6,s7]=some [s0,s1,s2,s3,s4,some (.imm u),s6,s7] from rfl,y0p]
  have e1:bP [s0,s1,s2,s3,s4,some (.imm u),s6,s7]=some (.nx [s0,s1,s2,s3,s4,some (.imm u),some (.imm (.bool (z5h u))),s7]):=by
   unfold bP
   rw[Co.seq_nx (z5b (t:=.bool (z5h u)) (by rw[opN1 (t:=u) rfl];exact zge (d:=2) hu.g (by omega)))]
   simp only[y1l,y1j]
   rw[zdc (orF (z0j (a:=true) (z08 rfl)) (ne_self (d:=0) (t:=.bool (z5h u)) rfl (by rw[opN1 (t:=u) rfl];exact zi3 (d:=2) hu.g (by omega) hu.w) zfg)),if_neg (by simp)]
  rw[e1,y0p]
  exact e
theorem zrs {s0 s1 s3 s4 s7:Option Sl} {p:Pl} (hp:Pok p):∀(us:List T) (s5 s6:Option Sl),(∀u∈us,Ok 3 u)->∃s5' s6',forL (gNm 5) bE us [s0,s1,some (.imm (encP p)),s3,s4,s5,s6,s7]=some (.nx [s0,s1,some (.imm (encP p)),s3,s4,s5',s6',s7])
 | [],s5,s6,_=>⟨s5,s6,rfl⟩
 | u::us,s5,s6,h=>by
  have hu:=h u (by simp)
  obtain⟨a,b,e⟩:=zrs (s0:=s0) (s1:=s1) (s3:=s3) (s4:=s4) (s7:=s7) hp us (some (.imm u)) (some (.imm (.bool (z39 p u)))) fun v hv=>h v (y05 _ hv)
  refine⟨a,b,?_⟩
  rw[forL,show gNm 5 u [s0,s1,some (.imm (encP p)),s3,s4,s5,s6,s7]=some [s0,s1,some (.imm (encP p)),s3,s4,some (.imm u),s6,s7] from rfl,y0p]
  have e1:bE [s0,s1,some (.imm (encP p)),s3,s4,some (.imm u),s6,s7]=some (.nx [s0,s1,some (.imm (encP p)),s3,s4,some (.imm u),some (.imm (.bool (z39 p u))),s7]):=by
   unfold bE
   rw[Co.seq_nx (z5b (t:=.bool (z39 p u)) (by rw[opN2 (t:=encP p) (u:=u) rfl rfl];exact zdg hp (d:=2) hu.g (by omega)))]
   simp only[y1l,y1j]
   rw[zdc (orF (z0j (a:=true) (z08 rfl)) (ne_self (d:=0) (t:=.bool (z39 p u)) rfl (by
    rw[opN2 (t:=encP p) (u:=u) rfl rfl]
    exact zfc hp (d:=2) hu.g (by omega) fun a i e=>hu.c _ e i (by simp)) zfg)),if_neg (by simp)]
  rw[e1,y0p]
  exact e
theorem zn3 (ns:List Int) (h:ns.length<=63):zi7 [z0b ns]=some (.bool true):=by
 obtain⟨m0,hm0,x0⟩:=Co.mixed_eq ns 0
 obtain⟨m1,hm1,x1⟩:=Co.mixed_eq ns 1
 obtain⟨m2,hm2,x2⟩:=Co.mixed_eq ns 2
 obtain⟨m3,hm3,x3⟩:=Co.mixed_eq ns 3
 obtain⟨m4,hm4,x4⟩:=Co.mixed_eq ns 4
 obtain⟨m5,hm5,x5⟩:=Co.mixed_eq ns 5
 obtain⟨p,hp,xp⟩:=Co.plan_eq m1
 obtain⟨e,he,xe⟩:=Co.event_eq hp m2
 have hv:=zsv hp
 have hpn:=zr4 hv
 have heo:=zpw he
 have sP:=zmb hp hv
 have sE:=zj5 hv heo (DE.tick he)
 have oP:Ok 6 (encP p):=(zbz sP).le (by omega)
 have oE:Ok 3 (encE e):=(zbz sE).le (by omega)
 unfold zi7 runF zsd
 show (seq _ _ [some (.imm (z0b ns)),none,none,none,none,none,none,none]).bind _=_
 have S:∀(j m:Int) (r:Ev),z0r [z0b ns,.int j]=some (.int m)->opN z0r [(nmV 0),(cst (.int j))] (some (.imm (z0b ns))::r)=some (.int m):=fun j m r e=>by
  rw[opN2 (t:=z0b ns) (u:=.int j) rfl rfl]
  exact e
 rw[Co.seq_nx (z5b (S 0 m0 _ x0))]
 simp only[y1l,y1j]
 rw[Co.seq_nx (z5b (t:=encP p) (by rw[opN1 (S 1 m1 _ x1),xp]))]
 simp only[y1l,y1j]
 rw[Co.seq_nx (z5b (t:=encE e) (by rw[opN2 (t:=encP p) rfl (S 2 m2 _ x2),xe]))]
 simp only[y1l,y1j]
 have isn:∀{f:Fe} {ε:Ev},f ε=some (.bool true)->tstB (op2 zcq f (cst (.bool true))) ε=some false:=fun hf=>z08 (by rw[z0c hf (u:=.bool true) rfl];rfl)
 rw[zou (orF (isn (by rw[opN1 (t:=encP p) rfl,zge (d:=2) oP.g (by omega),zmk hv])) (isn (by rw[opN2 (t:=encP p) (u:=encE e) rfl rfl,zdg hpn.ok (d:=2) oE.g (by omega),zkx heo])))]
 rw[Co.seq_nx (z5b (t:=encP p) rfl)]
 simp only[y1l,y1j]
 obtain⟨r3,_,r30,r31,er3⟩:=modQ m0 3
 obtain⟨d4,_,ed4⟩:=divQ m0 4
 obtain⟨k5,_,k50,k51,ek5⟩:=modQ d4 5
 obtain⟨d32,_,ed32⟩:=divQ m0 32
 obtain⟨k2,_,k20,k21,ek2⟩:=modQ d32 2
 obtain⟨a5,rfl⟩:∃a:Nat,k5=a:=⟨k5.toNat,by omega⟩
 obtain⟨a2,rfl⟩:∃a:Nat,k2=a:=⟨k2.toNat,by omega⟩
 obtain⟨u,eu,ou⟩:=z8l 20 a5 4 (encP p) m3 sP (by omega) (by omega)
 obtain⟨v,ev,ov⟩:=z8l 20 a2 1 (encE e) m4 sE (by omega) (by omega)
 obtain⟨t,w,ot,ow,est⟩:∃t w,Ok 6 t/\Ok 3 w/\iff (tstB (op2 oGt (op2 oMod (nm 1) (cst (.int 3))) (cst (.int 0)))) (seq (asg 4 (opN (z1p 20) [(nmV 4),(opN z0r [(nmV 0),(cst (.int 3))]),(op2 oMod (op2 oDiv (nm 1) (cst (.int 4))) (cst (.int 5)))]))
  (asg 3 (opN (z1p 20) [(nmV 3),(opN z0r [(nmV 0),(cst (.int 4))]),(op2 oMod (op2 oDiv (nm 1) (cst (.int 32))) (cst (.int 2)))]))) skip [some (.imm (z0b ns)),some (.imm (.int m0)),some (.imm (encP p)),some (.imm (encE e)),some (.imm (encP p)),none,none,none]=some (.nx [some (.imm (z0b ns)),some (.imm (.int m0)),some (.imm (encP p)),some (.imm w),some (.imm t),none,none,none]):=by
  simp only[iff]
  rw[gt_b (m_b (a:=m0) rfl er3),y0p]
  by_cases hq:0<r3
  ·refine⟨u,v,ou,ov,?_⟩
   rw[decide_eq_true hq,if_pos rfl]
   rw[Co.seq_nx (z5b (t:=u) (by rw[opN3 (t:=encP p) (u:=.int m3) (v:=.int (a5:Int)) rfl (S 3 m3 _ x3) (m_b (d_b (a:=m0) rfl ed4) ek5)];exact eu))]
   simp only[y1l,y1j]
   rw[z5b (t:=v) (by rw[opN3 (t:=encE e) (u:=.int m4) (v:=.int (a2:Int)) rfl (S 4 m4 _ x4) (m_b (d_b (a:=m0) rfl ed32) ek2)];exact ev)]
   rfl
  ·refine⟨encP p,encE e,oP,oE,?_⟩
   rw[decide_eq_false hq,if_neg (by simp)]
   rfl
 rw[Co.seq_nx est]
 obtain⟨L,eL,lL,oL⟩:=znh m5
 have hit:itA (op2 oAdd (opN z4y [(opN z0r [(nmV 0),(cst (.int 5))])]) (z11 [(nmV 4),(nmV 3)])) [some (.imm (z0b ns)),some (.imm (.int m0)),some (.imm (encP p)),some (.imm w),some (.imm t),none,none,none]=some (L++[t,w]):=by
  simp only[itA]
  rw[add_l (a:=L) (b:=[t,w]) (by rw[opN1 (S 5 m5 _ x5)];exact eL) rfl (by simp;omega)]
  rfl
 obtain⟨s5,s6,ep⟩:=zrr (s0:=some (.imm (z0b ns))) (s1:=some (.imm (.int m0))) (s2:=some (.imm (encP p))) (s3:=some (.imm w)) (s4:=some (.imm t)) (s7:=none) (L++[t,w]) none none fun x hx=>by
  rcases y11.mp hx with hx|hx
  ·exact (oL x hx).le (by omega)
  ·simp only[y09,y25,or_false] at hx
   rcases hx with rfl|rfl
   ·exact ot
   ·exact ow.le (by omega)
 rw[Co.seq_nx (ε':=[some (.imm (z0b ns)),some (.imm (.int m0)),some (.imm (encP p)),some (.imm w),some (.imm t),s5,s6,none]) (by unfold for_;rw[hit];exact ep)]
 obtain⟨d64,_,ed64⟩:=divQ m0 64
 obtain⟨k3,_,k30,k31,ek3⟩:=modQ d64 3
 rw[Co.seq_nx (z5b (t:=.list [.tuple [.str "ticks",.int k3],.tuple [.str "ticks",.bool true],.tuple [.str "line",.str "zzzz",.str "open"]]) (by
  simp only[z11,z04,args]
  rw[m_b (d_b (a:=m0) rfl ed64) ek3]
  rfl))]
 simp only[y1l,y1j]
 have oS:∀{d:Nat} {x:Str},((ls x).all fun c=>decide (c<128))=true->x.length<=1000000->Ok d (.str x):=fun h1 h2=>z38 (z78 h1) h2
 obtain⟨s5',s6',ee⟩:=zrs (s0:=some (.imm (z0b ns))) (s1:=some (.imm (.int m0))) (s3:=some (.imm w)) (s4:=some (.imm t)) (s7:=some (.imm (.list [.tuple [.str "ticks",.int k3],.tuple [.str "ticks",.bool true],.tuple [.str "line",.str "zzzz",.str "open"]]))) hpn.ok [.tuple [.str "ticks",.int k3],.tuple [.str "ticks",.bool true],.tuple [.str "line",.str "zzzz",.str "open"],w,.tuple [.str "code",.str "1234",.str "set",.str "a"]] s5 s6 fun x hx=>by
  simp only[y09,y25,or_false] at hx
  have tp:∀{ts:List T},(∀y∈ts,Ok 0 y)->ts.length<60->Ok 3 (.tuple ts):=fun h1 h2=>(z2i h1 h2).le (by omega)
  rcases hx with rfl|rfl|rfl|rfl|rfl
  ·refine tp (fun y hy=>?_) (by simp)
   simp only[y09,y25,or_false] at hy
   rcases hy with rfl|rfl
   ·exact oS (by decide +kernel) (by decide +kernel)
   ·exact z70 (Int.le_trans (by omega) e30)
  ·refine tp (fun y hy=>?_) (by simp)
   simp only[y09,y25,or_false] at hy
   rcases hy with rfl|rfl
   ·exact oS (by decide +kernel) (by decide +kernel)
   ·exact zb4
  ·refine tp (fun y hy=>?_) (by simp)
   simp only[y09,y25,or_false] at hy
   rcases hy with rfl|rfl|rfl <;> exact oS (by decide +kernel) (by decide +kernel)
  ·exact ow
  ·refine tp (fun y hy=>?_) (by simp)
   simp only[y09,y25,or_false] at hy
   rcases hy with rfl|rfl|rfl|rfl <;> exact oS (by decide +kernel) (by decide +kernel)
 rw[Co.seq_nx (ε':=[some (.imm (z0b ns)),some (.imm (.int m0)),some (.imm (encP p)),some (.imm w),some (.imm t),s5',s6',some (.imm (.list [.tuple [.str "ticks",.int k3],.tuple [.str "ticks",.bool true],.tuple [.str "line",.str "zzzz",.str "open"]]))]) (by
  unfold for_
  rw[show itA (op2 oAdd (nm 7) (z11 [(nmV 3),(z04 [(cst (.str "code")),(cst (.str "1234")),(cst (.str "set")),(cst (.str "a"))])])) [some (.imm (z0b ns)),some (.imm (.int m0)),some (.imm (encP p)),some (.imm w),some (.imm t),s5,s6,some (.imm (.list [.tuple [.str "ticks",.int k3],.tuple [.str "ticks",.bool true],.tuple [.str "line",.str "zzzz",.str "open"]]))]=some [.tuple [.str "ticks",.int k3],.tuple [.str "ticks",.bool true],.tuple [.str "line",.str "zzzz",.str "open"],w,.tuple [.str "code",.str "1234",.str "set",.str "a"]] from rfl]
  exact ee)]
 rfl
end K01
end
end
section
namespace K01
open PySem PySem.Spec PyProof.Rows L2 D Co Fo
theorem all_mk {l:PySem.W.OpenLaw} {w:World} {K:y00} {h:Heap} {mg:Str->Option Value} {fa f1 f2 f3 f4 f5 f6 f7 f8 f9 f10 f11 f12 f13 f14 f15 f16 f17 f18 f19 f20 f21 f22 f23 f24 f25 f26 f27 f28 f29 f30 f31 f32 f33 f34 a_KINDS a_RIGHTS a_LINES a_DEEDS_ALONE a_DEEDS_OF_ZONES:Addr} {od1 an1 od2 an2 od3 an3 od4 an4 od5 an5 od6 an6 od7 an7 od8 an8 od9 an9 od10 an10 od11 an11 od12 an12 od13 an13 od14 an14 od15 an15 od16 an16 od17 an17 od18 an18 od19 an19 od20 an20 od21 an21 od22 an22 od23 an23 od24 an24 od25 an25 od26 an26 od27 an27 od28 an28 od29 an29 od30 an30 od31 an31 od32 an32 od33 an33 od34 an34 od_KINDS od_RIGHTS od_LINES od_DEEDS_ALONE od_DEEDS_OF_ZONES:Option Addr} {sl1 sl2 sl3 sl4 sl5 sl6 sl7 sl8 sl9 sl10 sl11 sl12 sl13 sl14 sl15 sl16 sl17 sl18 sl19 sl20 sl21 sl22 sl23 sl24 sl25 sl26 sl27 sl28 sl29 sl30 sl31 sl32 sl33 sl34 sl_KINDS sl_RIGHTS sl_LINES sl_DEEDS_ALONE sl_DEEDS_OF_ZONES:Array (Option Value)} {oc1 kV1 dc1 pm1 cd1 ct1 oc2 kV2 dc2 pm2 cd2 ct2 oc3 kV3 dc3 pm3 cd3 ct3 oc4 kV4 dc4 pm4 cd4 ct4 oc5 kV5 dc5 pm5 cd5 ct5 oc6 kV6 dc6 pm6 cd6 ct6 oc7 kV7 dc7 pm7 cd7 ct7 oc8 kV8 dc8 pm8 cd8 ct8 oc9 kV9 dc9 pm9 cd9 ct9 oc10 kV10 dc10 pm10 cd10 ct10 oc11 kV11 dc11 pm11 cd11 ct11 oc12 kV12 dc12 pm12 cd12 ct12 oc13 kV13 dc13 pm13 cd13 ct13 oc14 kV14 dc14 pm14 cd14 ct14 oc15 kV15 dc15 pm15 cd15 ct15 oc16 kV16 dc16 pm16 cd16 ct16 oc17 kV17 dc17 pm17 cd17 ct17 oc18 kV18 dc18 pm18 cd18 ct18 oc19 kV19 dc19 pm19 cd19 ct19 oc20 kV20 dc20 pm20 cd20 ct20 oc21 kV21 dc21 pm21 cd21 ct21 oc22 kV22 dc22 pm22 cd22 ct22 oc23 kV23 dc23 pm23 cd23 ct23 oc24 kV24 dc24 pm24 cd24 ct24 oc25 kV25 dc25 pm25 cd25 ct25 oc26 kV26 dc26 pm26 cd26 ct26 oc27 kV27 dc27 pm27 cd27 ct27 oc28 kV28 dc28 pm28 cd28 ct28 oc29 kV29 dc29 pm29 cd29 ct29 oc30 kV30 dc30 pm30 cd30 ct30 oc31 kV31 dc31 pm31 cd31 ct31 oc32 kV32 dc32 pm32 cd32 ct32 oc33 kV33 dc33 pm33 cd33 ct33 oc34 kV34 dc34 pm34 cd34 ct34:Value} {t_KINDS0 t_KINDS1 t_KINDS2 t_KINDS3 t_RIGHTS0 t_RIGHTS1 t_RIGHTS2 t_LINES0 t_LINES1 t_LINES2 t_DEEDS_ALONE0 t_DEEDS_ALONE1 t_DEEDS_OF_ZONES0 t_DEEDS_OF_ZONES1:Tok} {n_KINDS n_RIGHTS n_LINES n_DEEDS_ALONE n_DEEDS_OF_ZONES:Nat} (X:K.In h) (G:h.Ns y0n mg) (hfa:mg "law"=some (.ref fa))
  (a1:y0s K y0n "_law_cell_at"=some (some (.ref f1)))
  (l1:K.lookup f1=some ⟨oc1,od1,.func (y0i "_law_cell_at" "_law_cell_at" (z0g z2a) (z0e z2a) (z02 z2a) .none kV1 dc1 pm1 an1 cd1 ct1),sl1⟩)
  (c1:y0f K cd1 "_law_cell_at"=true)
  (k1:y08 K (.ref f1)=true)
  (a2:y0s K y0n "_law_mixed"=some (some (.ref f2)))
  (l2:K.lookup f2=some ⟨oc2,od2,.func (y0i "_law_mixed" "_law_mixed" (z0g z3u) (z0e z3u) (z02 z3u) .none kV2 dc2 pm2 an2 cd2 ct2),sl2⟩)
  (c2:y0f K cd2 "_law_mixed"=true)
  (k2:y08 K (.ref f2)=true)
  (a3:y0s K y0n "_law_drawn"=some (some (.ref f3)))
  (l3:K.lookup f3=some ⟨oc3,od3,.func (y0i "_law_drawn" "_law_drawn" (z0g z3w) (z0e z3w) (z02 z3w) .none kV3 dc3 pm3 an3 cd3 ct3),sl3⟩)
  (c3:y0f K cd3 "_law_drawn"=true)
  (k3:y08 K (.ref f3)=true)
  (a4:y0s K y0n "_law_plan"=some (some (.ref f4)))
  (l4:K.lookup f4=some ⟨oc4,od4,.func (y0i "_law_plan" "_law_plan" (z0g z4l) (z0e z4l) (z02 z4l) .none kV4 dc4 pm4 an4 cd4 ct4),sl4⟩)
  (c4:y0f K cd4 "_law_plan"=true)
  (k4:y08 K (.ref f4)=true)
  (a5:y0s K y0n "_law_event"=some (some (.ref f5)))
  (l5:K.lookup f5=some ⟨oc5,od5,.func (y0i "_law_event" "_law_event" (z0g z3v) (z0e z3v) (z02 z3v) .none kV5 dc5 pm5 an5 cd5 ct5),sl5⟩)
  (c5:y0f K cd5 "_law_event"=true)
  (k5:y08 K (.ref f5)=true)
  (a6:y0s K y0n "_law_spoilt"=some (some (.ref f6)))
  (l6:K.lookup f6=some ⟨oc6,od6,.func (y0i "_law_spoilt" "_law_spoilt" (z0g z2g) (z0e z2g) (z02 z2g) .none kV6 dc6 pm6 an6 cd6 ct6),sl6⟩)
  (c6:y0f K cd6 "_law_spoilt"=true)
  (k6:y08 K (.ref f6)=true)
  (a7:y0s K y0n "_law_edges"=some (some (.ref f7)))
  (l7:K.lookup f7=some ⟨oc7,od7,.func (y0i "_law_edges" "_law_edges" (z0g z2m) (z0e z2m) (z02 z2m) .none kV7 dc7 pm7 an7 cd7 ct7),sl7⟩)
  (c7:y0f K cd7 "_law_edges"=true)
  (k7:y08 K (.ref f7)=true)
  (a8:y0s K y0n "is_tuple"=some (some (.ref f8)))
  (l8:K.lookup f8=some ⟨oc8,od8,.func (y0i "is_tuple" "is_tuple" (z0g z2z) (z0e z2z) (z02 z2z) .none kV8 dc8 pm8 an8 cd8 ct8),sl8⟩)
  (c8:y0f K cd8 "is_tuple"=true)
  (k8:y08 K (.ref f8)=true)
  (a9:y0s K y0n "rises"=some (some (.ref f9)))
  (l9:K.lookup f9=some ⟨oc9,od9,.func (y0i "rises" "rises" (z0g z5m) (z0e z5m) (z02 z5m) .none kV9 dc9 pm9 an9 cd9 ct9),sl9⟩)
  (c9:y0f K cd9 "rises"=true)
  (k9:y08 K (.ref f9)=true)
  (a10:y0s K y0n "is_text"=some (some (.ref f10)))
  (l10:K.lookup f10=some ⟨oc10,od10,.func (y0i "is_text" "is_text" (z0g z37) (z0e z37) (z02 z37) .none kV10 dc10 pm10 an10 cd10 ct10),sl10⟩)
  (c10:y0f K cd10 "is_text"=true)
  (k10:y08 K (.ref f10)=true)
  (a11:y0s K y0n "is_name"=some (some (.ref f11)))
  (l11:K.lookup f11=some ⟨oc11,od11,.func (y0i "is_name" "is_name" (z0g z3z) (z0e z3z) (z02 z3z) .none kV11 dc11 pm11 an11 cd11 ct11),sl11⟩)
  (c11:y0f K cd11 "is_name"=true)
  (k11:y08 K (.ref f11)=true)
  (a12:y0s K y0n "is_zone"=some (some (.ref f12)))
  (l12:K.lookup f12=some ⟨oc12,od12,.func (y0i "is_zone" "is_zone" (z0g z3x) (z0e z3x) (z02 z3x) .none kV12 dc12 pm12 an12 cd12 ct12),sl12⟩)
  (c12:y0f K cd12 "is_zone"=true)
  (k12:y08 K (.ref f12)=true)
  (a13:y0s K y0n "are_zones"=some (some (.ref f13)))
  (l13:K.lookup f13=some ⟨oc13,od13,.func (y0i "are_zones" "are_zones" (z0g z1j) (z0e z1j) (z02 z1j) .none kV13 dc13 pm13 an13 cd13 ct13),sl13⟩)
  (c13:y0f K cd13 "are_zones"=true)
  (k13:y08 K (.ref f13)=true)
  (a14:y0s K y0n "is_figures"=some (some (.ref f14)))
  (l14:K.lookup f14=some ⟨oc14,od14,.func (y0i "is_figures" "is_figures" (z0g z1u) (z0e z1u) (z02 z1u) .none kV14 dc14 pm14 an14 cd14 ct14),sl14⟩)
  (c14:y0f K cd14 "is_figures"=true)
  (k14:y08 K (.ref f14)=true)
  (a15:y0s K y0n "are_rights"=some (some (.ref f15)))
  (l15:K.lookup f15=some ⟨oc15,od15,.func (y0i "are_rights" "are_rights" (z0g z1h) (z0e z1h) (z02 z1h) .none kV15 dc15 pm15 an15 cd15 ct15),sl15⟩)
  (c15:y0f K cd15 "are_rights"=true)
  (k15:y08 K (.ref f15)=true)
  (a16:y0s K y0n "is_whole"=some (some (.ref f16)))
  (l16:K.lookup f16=some ⟨oc16,od16,.func (y0i "is_whole" "is_whole" (z0g z2y) (z0e z2y) (z02 z2y) .none kV16 dc16 pm16 an16 cd16 ct16),sl16⟩)
  (c16:y0f K cd16 "is_whole"=true)
  (k16:y08 K (.ref f16)=true)
  (a17:y0s K y0n "is_within"=some (some (.ref f17)))
  (l17:K.lookup f17=some ⟨oc17,od17,.func (y0i "is_within" "is_within" (z0g z2b) (z0e z2b) (z02 z2b) .none kV17 dc17 pm17 an17 cd17 ct17),sl17⟩)
  (c17:y0f K cd17 "is_within"=true)
  (k17:y08 K (.ref f17)=true)
  (a18:y0s K y0n "is_code"=some (some (.ref f18)))
  (l18:K.lookup f18=some ⟨oc18,od18,.func (y0i "is_code" "is_code" (z0g z40) (z0e z40) (z02 z40) .none kV18 dc18 pm18 an18 cd18 ct18),sl18⟩)
  (c18:y0f K cd18 "is_code"=true)
  (k18:y08 K (.ref f18)=true)
  (a19:y0s K y0n "are_codes"=some (some (.ref f19)))
  (l19:K.lookup f19=some ⟨oc19,od19,.func (y0i "are_codes" "are_codes" (z0g z1k) (z0e z1k) (z02 z1k) .none kV19 dc19 pm19 an19 cd19 ct19),sl19⟩)
  (c19:y0f K cd19 "are_codes"=true)
  (k19:y08 K (.ref f19)=true)
  (a20:y0s K y0n "are_times"=some (some (.ref f20)))
  (l20:K.lookup f20=some ⟨oc20,od20,.func (y0i "are_times" "are_times" (z0g z2c) (z0e z2c) (z02 z2c) .none kV20 dc20 pm20 an20 cd20 ct20),sl20⟩)
  (c20:y0f K cd20 "are_times"=true)
  (k20:y08 K (.ref f20)=true)
  (a21:y0s K y0n "is_plan"=some (some (.ref f21)))
  (l21:K.lookup f21=some ⟨oc21,od21,.func (y0i "is_plan" "is_plan" (z0g z3y) (z0e z3y) (z02 z3y) .none kV21 dc21 pm21 an21 cd21 ct21),sl21⟩)
  (c21:y0f K cd21 "is_plan"=true)
  (k21:y08 K (.ref f21)=true)
  (a22:y0s K y0n "has_zone"=some (some (.ref f22)))
  (l22:K.lookup f22=some ⟨oc22,od22,.func (y0i "has_zone" "has_zone" (z0g z2h) (z0e z2h) (z02 z2h) .none kV22 dc22 pm22 an22 cd22 ct22),sl22⟩)
  (c22:y0f K cd22 "has_zone"=true)
  (k22:y08 K (.ref f22)=true)
  (a23:y0s K y0n "is_line_event"=some (some (.ref f23)))
  (l23:K.lookup f23=some ⟨oc23,od23,.func (y0i "is_line_event" "is_line_event" (z0g z14) (z0e z14) (z02 z14) .none kV23 dc23 pm23 an23 cd23 ct23),sl23⟩)
  (c23:y0f K cd23 "is_line_event"=true)
  (k23:y08 K (.ref f23)=true)
  (a24:y0s K y0n "is_code_event"=some (some (.ref f24)))
  (l24:K.lookup f24=some ⟨oc24,od24,.func (y0i "is_code_event" "is_code_event" (z0g z15) (z0e z15) (z02 z15) .none kV24 dc24 pm24 an24 cd24 ct24),sl24⟩)
  (c24:y0f K cd24 "is_code_event"=true)
  (k24:y08 K (.ref f24)=true)
  (a25:y0s K y0n "is_ticks_event"=some (some (.ref f25)))
  (l25:K.lookup f25=some ⟨oc25,od25,.func (y0i "is_ticks_event" "is_ticks_event" (z0g z0z) (z0e z0z) (z02 z0z) .none kV25 dc25 pm25 an25 cd25 ct25),sl25⟩)
  (c25:y0f K cd25 "is_ticks_event"=true)
  (k25:y08 K (.ref f25)=true)
  (a26:y0s K y0n "is_event"=some (some (.ref f26)))
  (l26:K.lookup f26=some ⟨oc26,od26,.func (y0i "is_event" "is_event" (z0g z30) (z0e z30) (z02 z30) .none kV26 dc26 pm26 an26 cd26 ct26),sl26⟩)
  (c26:y0f K cd26 "is_event"=true)
  (k26:y08 K (.ref f26)=true)
  (a27:y0s K y0n "_law_number"=some (some (.ref f27)))
  (l27:K.lookup f27=some ⟨oc27,od27,.func (y0i "_law_number" "_law_number" (z0g z2x) (z0e z2x) (z02 z2x) .none kV27 dc27 pm27 an27 cd27 ct27),sl27⟩)
  (c27:y0f K cd27 "_law_number"=true)
  (k27:y08 K (.ref f27)=true)
  (a28:y0s K y0n "_law_tuple"=some (some (.ref f28)))
  (l28:K.lookup f28=some ⟨oc28,od28,.func (y0i "_law_tuple" "_law_tuple" (z0g z3t) (z0e z3t) (z02 z3t) .none kV28 dc28 pm28 an28 cd28 ct28),sl28⟩)
  (c28:y0f K cd28 "_law_tuple"=true)
  (k28:y08 K (.ref f28)=true)
  (a29:y0s K y0n "_law_one_of"=some (some (.ref f29)))
  (l29:K.lookup f29=some ⟨oc29,od29,.func (y0i "_law_one_of" "_law_one_of" (z0g z2w) (z0e z2w) (z02 z2w) .none kV29 dc29 pm29 an29 cd29 ct29),sl29⟩)
  (c29:y0f K cd29 "_law_one_of"=true)
  (k29:y08 K (.ref f29)=true)
  (a30:y0s K y0n "_law_word"=some (some (.ref f30)))
  (l30:K.lookup f30=some ⟨oc30,od30,.func (y0i "_law_word" "_law_word" (z0g z4k) (z0e z4k) (z02 z4k) .none kV30 dc30 pm30 an30 cd30 ct30),sl30⟩)
  (c30:y0f K cd30 "_law_word"=true)
  (k30:y08 K (.ref f30)=true)
  (a31:y0s K y0n "_law_figures"=some (some (.ref f31)))
  (l31:K.lookup f31=some ⟨oc31,od31,.func (y0i "_law_figures" "_law_figures" (z0g z1t) (z0e z1t) (z02 z1t) .none kV31 dc31 pm31 an31 cd31 ct31),sl31⟩)
  (c31:y0f K cd31 "_law_figures"=true)
  (k31:y08 K (.ref f31)=true)
  (a32:y0s K y0n "_law_is_plan"=some (some (.ref f32)))
  (l32:K.lookup f32=some ⟨oc32,od32,.func (y0i "_law_is_plan" "_law_is_plan" (z0g z1b) (z0e z1b) (z02 z1b) .none kV32 dc32 pm32 an32 cd32 ct32),sl32⟩)
  (c32:y0f K cd32 "_law_is_plan"=true)
  (k32:y08 K (.ref f32)=true)
  (a33:y0s K y0n "_law_is_event"=some (some (.ref f33)))
  (l33:K.lookup f33=some ⟨oc33,od33,.func (y0i "_law_is_event" "_law_is_event" (z0g z1g) (z0e z1g) (z02 z1g) .none kV33 dc33 pm33 an33 cd33 ct33),sl33⟩)
  (c33:y0f K cd33 "_law_is_event"=true)
  (k33:y08 K (.ref f33)=true)
  (a34:y0s K y0n "law"=some (some (.ref f34)))
  (l34:K.lookup f34=some ⟨oc34,od34,.func (y0i "law" "law" (z0g zaz) (z0e zaz) (z02 zaz) .none kV34 dc34 pm34 an34 cd34 ct34),sl34⟩)
  (c34:y0f K cd34 "law"=true)
  (k34:y08 K (.ref f34)=true)
  (z_len:y0s K y0n "len"=some none)
  (z_enumerate:y0s K y0n "enumerate"=some none)
  (z_tuple:y0s K y0n "tuple"=some none)
  (z_range:y0s K y0n "range"=some none)
  (z_isinstance:y0s K y0n "isinstance"=some none)
  (z_list:y0s K y0n "list"=some none)
  (z_str:y0s K y0n "str"=some none)
  (z_int:y0s K y0n "int"=some none)
  (z_all:y0s K y0n "all"=some none)
  (z_zip:y0s K y0n "zip"=some none)
  (z_bool:y0s K y0n "bool"=some none)
  (z_sorted:y0s K y0n "sorted"=some none)
  (z_set:y0s K y0n "set"=some none)
  (g_KINDS:y0s K y0n "KINDS"=some (some (.ref a_KINDS)))
  (q_KINDS:K.lookup a_KINDS=some ⟨.type "tuple",od_KINDS,.seq #[.str "day" t_KINDS0,.str "inner" t_KINDS1,.str "once" t_KINDS2,.str "way" t_KINDS3] n_KINDS,sl_KINDS⟩)
  (g_RIGHTS:y0s K y0n "RIGHTS"=some (some (.ref a_RIGHTS)))
  (q_RIGHTS:K.lookup a_RIGHTS=some ⟨.type "tuple",od_RIGHTS,.seq #[.str "set" t_RIGHTS0,.str "shunt" t_RIGHTS1,.str "unset" t_RIGHTS2] n_RIGHTS,sl_RIGHTS⟩)
  (g_LINES:y0s K y0n "LINES"=some (some (.ref a_LINES)))
  (q_LINES:K.lookup a_LINES=some ⟨.type "tuple",od_LINES,.seq #[.str "shut" t_LINES0,.str "open" t_LINES1,.str "cut" t_LINES2] n_LINES,sl_LINES⟩)
  (g_DEEDS_ALONE:y0s K y0n "DEEDS_ALONE"=some (some (.ref a_DEEDS_ALONE)))
  (q_DEEDS_ALONE:K.lookup a_DEEDS_ALONE=some ⟨.type "tuple",od_DEEDS_ALONE,.seq #[.str "set" t_DEEDS_ALONE0,.str "unset" t_DEEDS_ALONE1] n_DEEDS_ALONE,sl_DEEDS_ALONE⟩)
  (g_DEEDS_OF_ZONES:y0s K y0n "DEEDS_OF_ZONES"=some (some (.ref a_DEEDS_OF_ZONES)))
  (q_DEEDS_OF_ZONES:K.lookup a_DEEDS_OF_ZONES=some ⟨.type "tuple",od_DEEDS_OF_ZONES,.seq #[.str "shunt" t_DEEDS_OF_ZONES0,.str "free" t_DEEDS_OF_ZONES1] n_DEEDS_OF_ZONES,sl_DEEDS_OF_ZONES⟩) :
  ∃fd:y0b,(∀(s:y04) (v:Value),BindsTo s fd ⟨[v],[]⟩ [("_law_script",v)])/\∀base:Heap,K.In base->base.Ns y0n mg->FnOk l.prog w K mg base CX0 22 fa fd ["_law_script"] (@spT t0 K 1 zi7):=by
 have e:=hfa.symm.trans (y12 X G a34)
 cases e
 refine⟨y0i "law" "law" (z0g zaz) (z0e zaz) (z02 zaz) .none kV34 dc34 pm34 an34 cd34 ct34,fun s v=>.of_eq rfl,fun base _ _=>?_⟩
 letI tt:Tbl:=⟨[],fun c=>match c with  | _=>[],fun c=>match c with  | _=>none⟩
 replace z_len:=y1d X G z_len
 replace z_enumerate:=y1d X G z_enumerate
 replace z_tuple:=y1d X G z_tuple
 replace z_range:=y1d X G z_range
 replace z_isinstance:=y1d X G z_isinstance
 replace z_list:=y1d X G z_list
 replace z_str:=y1d X G z_str
 replace z_int:=y1d X G z_int
 replace z_all:=y1d X G z_all
 replace z_zip:=y1d X G z_zip
 replace z_bool:=y1d X G z_bool
 replace z_sorted:=y1d X G z_sorted
 replace z_set:=y1d X G z_set
 replace g_KINDS:=y12 X G g_KINDS
 have tt_KINDS:∃(o:Obj) (its:Array Value) (n:Nat),K.lookup a_KINDS=some o/\o.cls=.type "tuple"/\o.data=.seq its n/\its.size<=y0j/\Vals ((["day","inner","once","way"]:List Str).map V.str) its.toList:=⟨_,_,_,q_KINDS,rfl,rfl,by show 4<=y0j;decide,(.cons ⟨_,rfl⟩ (.cons ⟨_,rfl⟩ (.cons ⟨_,rfl⟩ (.cons ⟨_,rfl⟩ .nil))))⟩
 replace g_RIGHTS:=y12 X G g_RIGHTS
 have tt_RIGHTS:∃(o:Obj) (its:Array Value) (n:Nat),K.lookup a_RIGHTS=some o/\o.cls=.type "tuple"/\o.data=.seq its n/\its.size<=y0j/\Vals ((["set","shunt","unset"]:List Str).map V.str) its.toList:=⟨_,_,_,q_RIGHTS,rfl,rfl,by show 3<=y0j;decide,(.cons ⟨_,rfl⟩ (.cons ⟨_,rfl⟩ (.cons ⟨_,rfl⟩ .nil)))⟩
 replace g_LINES:=y12 X G g_LINES
 have tt_LINES:∃(o:Obj) (its:Array Value) (n:Nat),K.lookup a_LINES=some o/\o.cls=.type "tuple"/\o.data=.seq its n/\its.size<=y0j/\Vals ((["shut","open","cut"]:List Str).map V.str) its.toList:=⟨_,_,_,q_LINES,rfl,rfl,by show 3<=y0j;decide,(.cons ⟨_,rfl⟩ (.cons ⟨_,rfl⟩ (.cons ⟨_,rfl⟩ .nil)))⟩
 replace g_DEEDS_ALONE:=y12 X G g_DEEDS_ALONE
 have tt_DEEDS_ALONE:∃(o:Obj) (its:Array Value) (n:Nat),K.lookup a_DEEDS_ALONE=some o/\o.cls=.type "tuple"/\o.data=.seq its n/\its.size<=y0j/\Vals ((["set","unset"]:List Str).map V.str) its.toList:=⟨_,_,_,q_DEEDS_ALONE,rfl,rfl,by show 2<=y0j;decide,(.cons ⟨_,rfl⟩ (.cons ⟨_,rfl⟩ .nil))⟩
 replace g_DEEDS_OF_ZONES:=y12 X G g_DEEDS_OF_ZONES
 have tt_DEEDS_OF_ZONES:∃(o:Obj) (its:Array Value) (n:Nat),K.lookup a_DEEDS_OF_ZONES=some o/\o.cls=.type "tuple"/\o.data=.seq its n/\its.size<=y0j/\Vals ((["shunt","free"]:List Str).map V.str) its.toList:=⟨_,_,_,q_DEEDS_OF_ZONES,rfl,rfl,by show 2<=y0j;decide,(.cons ⟨_,rfl⟩ (.cons ⟨_,rfl⟩ .nil))⟩
 have F1:=z0y (st:=z2a) l1 c1 k1
 have C_l_cell_at:=z6l (P:=l.prog) (w:=w) (base:=base) (k:=0) F1 (y12 X G a1) z_len
 have F2:=z0y (st:=z3u) l2 c2 k2
 have C_l_mixed:=z3c (P:=l.prog) (w:=w) (base:=base) (k:=1) F2 (y12 X G a2) (C_l_cell_at.mono (by decide))
 have F3:=z0y (st:=z3w) l3 c3 k3
 have C_l_drawn:=z28 (P:=l.prog) (w:=w) (base:=base) (k:=0) F3 (y12 X G a3)
 have F4:=z0y (st:=z4l) l4 c4 k4
 have C_l_plan:=zbh (P:=l.prog) (w:=w) (base:=base) (k:=1) F4 (y12 X G a4) z_enumerate (C_l_drawn.mono (by decide)) z_tuple z_range
 have F5:=z0y (st:=z3v) l5 c5 k5
 have C_l_event:=z9j (P:=l.prog) (w:=w) (base:=base) (k:=0) F5 (y12 X G a5) z_len
 have F6:=z0y (st:=z2g) l6 c6 k6
 have C_l_spoilt:=z35 (P:=l.prog) (w:=w) (base:=base) (k:=1) F6 (y12 X G a6) z_isinstance z_tuple z_len (C_l_drawn.mono (by decide)) z_list z_str z_int 20
 have F7:=z0y (st:=z2m) l7 c7 k7
 have C_l_edges:=z9k (P:=l.prog) (w:=w) (base:=base) (k:=0) F7 (y12 X G a7) z_tuple z_range z_str
 have F8:=z0y (st:=z2z) l8 c8 k8
 have C_is_tuple:=z0i (P:=l.prog) (w:=w) (base:=base) (k:=0) F8 (y12 X G a8) z_isinstance z_tuple z_len
 have F9:=z0y (st:=z5m) l9 c9 k9
 have C_rises:=z6j (P:=l.prog) (w:=w) (base:=base) (k:=0) F9 (y12 X G a9) z_all z_zip
 have F10:=z0y (st:=z37) l10 c10 k10
 have C_is_text:=z5w (P:=l.prog) (w:=w) (base:=base) (k:=0) F10 (y12 X G a10) z_all z_isinstance z_len z_str
 have F11:=z0y (st:=z3z) l11 c11 k11
 have C_is_name:=z5x (P:=l.prog) (w:=w) (base:=base) (k:=1) F11 (y12 X G a11) (C_is_text.mono (by decide))
 have F12:=z0y (st:=z3x) l12 c12 k12
 have C_is_zone:=z9l (P:=l.prog) (w:=w) (base:=base) (k:=2) F12 (y12 X G a12) (C_is_tuple.mono (by decide)) (C_is_name.mono (by decide)) g_KINDS tt_KINDS
 have F13:=z0y (st:=z1j) l13 c13 k13
 have C_are_zones:=z6m (P:=l.prog) (w:=w) (base:=base) (k:=3) F13 (y12 X G a13) (C_rises.mono (by decide)) (C_is_tuple.mono (by decide)) z_all (C_is_zone.mono (by decide))
 have F14:=z0y (st:=z1u) l14 c14 k14
 have C_is_figures:=z3d (P:=l.prog) (w:=w) (base:=base) (k:=1) F14 (y12 X G a14) (C_is_text.mono (by decide))
 have F15:=z0y (st:=z1h) l15 c15 k15
 have C_are_rights:=z5y (P:=l.prog) (w:=w) (base:=base) (k:=1) F15 (y12 X G a15) (C_is_tuple.mono (by decide)) z_all (C_rises.mono (by decide)) g_RIGHTS tt_RIGHTS
 have F16:=z0y (st:=z2y) l16 c16 k16
 have C_is_whole:=z54 (P:=l.prog) (w:=w) (base:=base) (k:=0) F16 (y12 X G a16) z_isinstance z_int z_bool
 have F17:=z0y (st:=z2b) l17 c17 k17
 have C_is_within:=z2e (P:=l.prog) (w:=w) (base:=base) (k:=1) F17 (y12 X G a17) (C_is_whole.mono (by decide))
 have F18:=z0y (st:=z40) l18 c18 k18
 have C_is_code:=z9m (P:=l.prog) (w:=w) (base:=base) (k:=2) F18 (y12 X G a18) (C_is_tuple.mono (by decide)) (C_is_figures.mono (by decide)) (C_is_name.mono (by decide)) (C_are_rights.mono (by decide)) (C_is_within.mono (by decide))
 have F19:=z0y (st:=z1k) l19 c19 k19
 have C_are_codes:=z6o (P:=l.prog) (w:=w) (base:=base) (k:=3) F19 (y12 X G a19) (C_rises.mono (by decide)) (C_is_tuple.mono (by decide)) z_all (C_is_code.mono (by decide))
 have F20:=z0y (st:=z2c) l20 c20 k20
 have C_are_times:=z6n (P:=l.prog) (w:=w) (base:=base) (k:=2) F20 (y12 X G a20) (C_is_tuple.mono (by decide)) (C_is_within.mono (by decide))
 have F21:=z0y (st:=z3y) l21 c21 k21
 have C_is_plan:=z77 (P:=l.prog) (w:=w) (base:=base) (k:=4) F21 (y12 X G a21) (C_is_tuple.mono (by decide)) (C_are_zones.mono (by decide)) (C_are_codes.mono (by decide)) (C_are_times.mono (by decide))
 have F22:=z0y (st:=z2h) l22 c22 k22
 have C_has_zone:=z55 (P:=l.prog) (w:=w) (base:=base) (k:=0) F22 (y12 X G a22)
 have F23:=z0y (st:=z14) l23 c23 k23
 have C_is_line_event:=z4c (P:=l.prog) (w:=w) (base:=base) (k:=1) F23 (y12 X G a23) (C_is_tuple.mono (by decide)) (C_has_zone.mono (by decide)) g_LINES tt_LINES
 have F24:=z0y (st:=z15) l24 c24 k24
 have C_is_code_event:=z4d (P:=l.prog) (w:=w) (base:=base) (k:=2) F24 (y12 X G a24) (C_has_zone.mono (by decide)) (C_is_tuple.mono (by decide)) (C_is_figures.mono (by decide)) g_DEEDS_ALONE tt_DEEDS_ALONE g_DEEDS_OF_ZONES tt_DEEDS_OF_ZONES
 have F25:=z0y (st:=z0z) l25 c25 k25
 have C_is_ticks_event:=z3g (P:=l.prog) (w:=w) (base:=base) (k:=1) F25 (y12 X G a25) (C_is_tuple.mono (by decide)) (C_is_whole.mono (by decide))
 have F26:=z0y (st:=z30) l26 c26 k26
 have C_is_event:=z65 (P:=l.prog) (w:=w) (base:=base) (k:=3) F26 (y12 X G a26) (C_is_line_event.mono (by decide)) (C_is_code_event.mono (by decide)) (C_is_ticks_event.mono (by decide))
 have F27:=z0y (st:=z2x) l27 c27 k27
 have C_l_number:=z2k (P:=l.prog) (w:=w) (base:=base) (k:=0) F27 (y12 X G a27) z_isinstance z_int z_bool
 have F28:=z0y (st:=z3t) l28 c28 k28
 have C_l_tuple:=z53 (P:=l.prog) (w:=w) (base:=base) (k:=0) F28 (y12 X G a28) z_isinstance z_tuple z_len
 have F29:=z0y (st:=z2w) l29 c29 k29
 have C_l_one_of:=z1q (P:=l.prog) (w:=w) (base:=base) (k:=0) F29 (y12 X G a29) z_isinstance z_str
 have F30:=z0y (st:=z4k) l30 c30 k30
 have C_l_word:=z8d (P:=l.prog) (w:=w) (base:=base) (k:=0) F30 (y12 X G a30) z_isinstance z_len z_str
 have F31:=z0y (st:=z1t) l31 c31 k31
 have C_l_figures:=z4b (P:=l.prog) (w:=w) (base:=base) (k:=0) F31 (y12 X G a31) z_isinstance z_len z_str
 have F32:=z0y (st:=z1b) l32 c32 k32
 have C_l_is_plan:=z6k (P:=l.prog) (w:=w) (base:=base) (k:=1) F32 (y12 X G a32) (C_l_number.mono (by decide)) (C_l_tuple.mono (by decide)) z_isinstance z_tuple (C_l_one_of.mono (by decide)) z_list z_sorted z_len (C_l_word.mono (by decide)) (C_l_figures.mono (by decide)) z_set
 have F33:=z0y (st:=z1g) l33 c33 k33
 have C_l_is_event:=z5v (P:=l.prog) (w:=w) (base:=base) (k:=1) F33 (y12 X G a33) (C_l_one_of.mono (by decide)) z_isinstance z_tuple (C_l_number.mono (by decide)) z_len (C_l_figures.mono (by decide)) z_str
 have F34:=z0y (st:=zaz) l34 c34 k34
 exact zpu rfl (zt9 (k:=21) F34 (C_l_mixed.mono (by decide)) (C_l_plan.mono (by decide)) (C_l_event.mono (by decide)) (C_l_spoilt.mono (by decide)) (C_l_edges.mono (by decide)) (C_is_plan.mono (by decide)) (C_is_event.mono (by decide)) z_isinstance (C_l_is_plan.mono (by decide)) (C_l_is_event.mono (by decide)) z_bool)
theorem walk {l:PySem.W.OpenLaw} {q:y0q} {loose:List Str} {XP:(Str->Option Value)->Heap->Prop} {YP:World->Heap->Prop} {d:DefRec} {K:Params->y00} (hn:l.most=some 63) (hdf:d.params.defaults=[])
  (hL:∀w:World,noL (K w.params)=true) (hY:∀(w:World) (h:Heap),YP w h->(K w.params).In h)
  (F:∀(w:World) (mg:Str->Option Value) (fa:Addr) (h:Heap),(K w.params).In h->h.Ns y0n mg->mg d.name=some (.ref fa) ->
   ∃fd:y0b,(∀(s:y04) (u:Value),BindsTo s fd ⟨[u],[]⟩ [("_law_script",u)])/\∀base:Heap,(K w.params).In base->base.Ns y0n mg->FnOk l.prog w (K w.params) mg base CX0 22 fa fd ["_law_script"] (@spT t0 (K w.params) 1 zi7)) :
  PySem.W.WalkO q loose XP YP l.row.toRowW d [] (fun f vs=>PySem.call f vs) :=
 L2.walk_of (n:=63) (k:=22) (x:="_law_script") (CX:=fun _=>CX0) (sp:=fun w=>@spT t0 (K w.params) 1 zi7) hn (by decide) hdf ⟨rfl,by decide,by decide,rfl⟩ hY F (fun w _ _ ns hl _ hS=>zj6 (hL w) (zn3 ns hl) hS) fun _ _ _ _ _ z=>z
end K01
open PySem PySem.W PyProof.Rows
set_option maxRecDepth 100000 in
set_option maxHeartbeats 0 in
theorem PySem.Challenge.cw_doorwatch_k01_plans_and_events_holds : PySem.Challenge.rw_doorwatch_k01_plans_and_events.Holds := by
 w_on;o_law;k_head;(case hw=>w_witness2)
 k_fill
 refine K01.walk (l:=PySem.Challenge.rw_doorwatch_k01_plans_and_events) rfl rfl ?L (fun w h Y=>PySem.W.kIn_of Y) ?F
 case L =>
  intro w
  first|rfl|(with_unfolding_all rfl)|kernel_rfl
 case F =>
  intro w mg fa h KX G hmg
  refine' K01.all_mk KX G hmg ?a1 ?l1 ?c1 ?k1 ?a2 ?l2 ?c2 ?k2 ?a3 ?l3 ?c3 ?k3 ?a4 ?l4 ?c4 ?k4 ?a5 ?l5 ?c5 ?k5 ?a6 ?l6 ?c6 ?k6 ?a7 ?l7 ?c7 ?k7 ?a8 ?l8 ?c8 ?k8 ?a9 ?l9 ?c9 ?k9 ?a10 ?l10 ?c10 ?k10 ?a11 ?l11 ?c11 ?k11 ?a12 ?l12 ?c12 ?k12 ?a13 ?l13 ?c13 ?k13 ?a14 ?l14 ?c14 ?k14 ?a15 ?l15 ?c15 ?k15 ?a16 ?l16 ?c16 ?k16 ?a17 ?l17 ?c17 ?k17 ?a18 ?l18 ?c18 ?k18 ?a19 ?l19 ?c19 ?k19 ?a20 ?l20 ?c20 ?k20 ?a21 ?l21 ?c21 ?k21 ?a22 ?l22 ?c22 ?k22 ?a23 ?l23 ?c23 ?k23 ?a24 ?l24 ?c24 ?k24 ?a25 ?l25 ?c25 ?k25 ?a26 ?l26 ?c26 ?k26 ?a27 ?l27 ?c27 ?k27 ?a28 ?l28 ?c28 ?k28 ?a29 ?l29 ?c29 ?k29 ?a30 ?l30 ?c30 ?k30 ?a31 ?l31 ?c31 ?k31 ?a32 ?l32 ?c32 ?k32 ?a33 ?l33 ?c33 ?k33 ?a34 ?l34 ?c34 ?k34 ?z_len ?z_enumerate ?z_tuple ?z_range ?z_isinstance ?z_list ?z_str ?z_int ?z_all ?z_zip ?z_bool ?z_sorted ?z_set ?g_KINDS ?q_KINDS ?g_RIGHTS ?q_RIGHTS ?g_LINES ?q_LINES ?g_DEEDS_ALONE ?q_DEEDS_ALONE ?g_DEEDS_OF_ZONES ?q_DEEDS_OF_ZONES
  (case a1=>k_is)
  (case l1=>k_is)
  (case c1=>k_is)
  (case k1=>k_is)
  (case a2=>k_is)
  (case l2=>k_is)
  (case c2=>k_is)
  (case k2=>k_is)
  (case a3=>k_is)
  (case l3=>k_is)
  (case c3=>k_is)
  (case k3=>k_is)
  (case a4=>k_is)
  (case l4=>k_is)
  (case c4=>k_is)
  (case k4=>k_is)
  (case a5=>k_is)
  (case l5=>k_is)
  (case c5=>k_is)
  (case k5=>k_is)
  (case a6=>k_is)
  (case l6=>k_is)
  (case c6=>k_is)
  (case k6=>k_is)
  (case a7=>k_is)
  (case l7=>k_is)
  (case c7=>k_is)
  (case k7=>k_is)
  (case a8=>k_is)
  (case l8=>k_is)
  (case c8=>k_is)
  (case k8=>k_is)
  (case a9=>k_is)
  (case l9=>k_is)
  (case c9=>k_is)
  (case k9=>k_is)
  (case a10=>k_is)
  (case l10=>k_is)
  (case c10=>k_is)
  (case k10=>k_is)
  (case a11=>k_is)
  (case l11=>k_is)
  (case c11=>k_is)
  (case k11=>k_is)
  (case a12=>k_is)
  (case l12=>k_is)
  (case c12=>k_is)
  (case k12=>k_is)
  (case a13=>k_is)
  (case l13=>k_is)
  (case c13=>k_is)
  (case k13=>k_is)
  (case a14=>k_is)
  (case l14=>k_is)
  (case c14=>k_is)
  (case k14=>k_is)
  (case a15=>k_is)
  (case l15=>k_is)
  (case c15=>k_is)
  (case k15=>k_is)
  (case a16=>k_is)
  (case l16=>k_is)
  (case c16=>k_is)
  (case k16=>k_is)
  (case a17=>k_is)
  (case l17=>k_is)
  (case c17=>k_is)
  (case k17=>k_is)
  (case a18=>k_is)
  (case l18=>k_is)
  (case c18=>k_is)
  (case k18=>k_is)
  (case a19=>k_is)
  (case l19=>k_is)
  (case c19=>k_is)
  (case k19=>k_is)
  (case a20=>k_is)
  (case l20=>k_is)
  (case c20=>k_is)
  (case k20=>k_is)
  (case a21=>k_is)
  (case l21=>k_is)
  (case c21=>k_is)
  (case k21=>k_is)
  (case a22=>k_is)
  (case l22=>k_is)
  (case c22=>k_is)
  (case k22=>k_is)
  (case a23=>k_is)
  (case l23=>k_is)
  (case c23=>k_is)
  (case k23=>k_is)
  (case a24=>k_is)
  (case l24=>k_is)
  (case c24=>k_is)
  (case k24=>k_is)
  (case a25=>k_is)
  (case l25=>k_is)
  (case c25=>k_is)
  (case k25=>k_is)
  (case a26=>k_is)
  (case l26=>k_is)
  (case c26=>k_is)
  (case k26=>k_is)
  (case a27=>k_is)
  (case l27=>k_is)
  (case c27=>k_is)
  (case k27=>k_is)
  (case a28=>k_is)
  (case l28=>k_is)
  (case c28=>k_is)
  (case k28=>k_is)
  (case a29=>k_is)
  (case l29=>k_is)
  (case c29=>k_is)
  (case k29=>k_is)
  (case a30=>k_is)
  (case l30=>k_is)
  (case c30=>k_is)
  (case k30=>k_is)
  (case a31=>k_is)
  (case l31=>k_is)
  (case c31=>k_is)
  (case k31=>k_is)
  (case a32=>k_is)
  (case l32=>k_is)
  (case c32=>k_is)
  (case k32=>k_is)
  (case a33=>k_is)
  (case l33=>k_is)
  (case c33=>k_is)
  (case k33=>k_is)
  (case a34=>k_is)
  (case l34=>k_is)
  (case c34=>k_is)
  (case k34=>k_is)
  (case z_len=>k_is)
  (case z_enumerate=>k_is)
  (case z_tuple=>k_is)
  (case z_range=>k_is)
  (case z_isinstance=>k_is)
  (case z_list=>k_is)
  (case z_str=>k_is)
  (case z_int=>k_is)
  (case z_all=>k_is)
  (case z_zip=>k_is)
  (case z_bool=>k_is)
  (case z_sorted=>k_is)
  (case z_set=>k_is)
  (case g_KINDS=>k_is)
  (case q_KINDS=>k_is)
  (case g_RIGHTS=>k_is)
  (case q_RIGHTS=>k_is)
  (case g_LINES=>k_is)
  (case q_LINES=>k_is)
  (case g_DEEDS_ALONE=>k_is)
  (case q_DEEDS_ALONE=>k_is)
  (case g_DEEDS_OF_ZONES=>k_is)
  (case q_DEEDS_OF_ZONES=>k_is)
end
end
