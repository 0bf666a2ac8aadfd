import PyProof.Rows.All
import Wide.All
import OpenK.AllK
import Wide.FinOn
import Lean
import PyProof.EqAt
import PyProof.EqKinds
import PyProof.TupleCall
import PyProof.P3Statements
import KE.KSortTup
import PyProof.AttrMissHeap
import PyProof.ZipIter
import PyProof.Draws
import PyProof.ListMulRoad
import Wide.Seal
import KE.KLam
import KE.KNest
import KE.KNestM
import KE.KIsAll
import PyProof.ExcArgs
import PyProof.ReprStr
import PyProof.FString
import PyProof.FitsInt
import KE.KMinKey
import PySem.Challenge.RW_doorwatch_k20_ways_of_houses
set_option Elab.async false
set_option linter.all false
set_option maxRecDepth 100000
set_option maxHeartbeats 0
open PySem.W renaming Frag → y00, keepIn → y08, codeIn → y0f, fnOf → y0i, nsIn → y0s, mg_of → y11, mg_none_of → y1a
open Option renaming bind_eq_some_iff → y01, map_eq_some_iff → y07, bind_some → y0p, map_some → y1l
open PySem renaming wpAny_bind → y02, Shared → y04, wpAny_pure → y06, starEach → y0a, FuncData → y0b, sizeLine → y0j, mainGlobals → y0n, Program → y0q, wpAny → y0u, wpAny_mono → y1b, mem_of_lookup → y24
open PySem.Heap renaming get?_push_of_some → y03, lt_size → y0c, get?_push_size → y0l, size_push → y15
open List renaming mem_cons_of_mem → y05, mem_cons → y09, map_cons → y0d, mem_cons_self → y0e, replicate → y0g, size_toArray → y0h, getElem?_eq_some_iff → y0k, mem_map → y0m, nodup_cons → y0r, getElem?_eq_getElem → y0v, length_cons → y0w, mem_singleton → y0z, mem_append → y10, length_map → y12, getElem?_map → y13, pairwise_cons → y16, map_nil → y17, mem_append_right → y18, lookup_cons → y1d, set_cons_zero → y1f, set_cons_succ → y1g, getElem?_append_right → y1h, nodup_append → y1i, getElem?_append_left → y1j, find?_cons → y1m, mem_of_getElem? → y1p, append_nil → y1t, zip_cons_cons → y1w, length_append → y1x, length_filter_le → y22, getElem?_cons_zero → y25, getElem?_cons_succ → y26, length_nil → y28, append_assoc → y2b, nil_append → y2c, map_map → y2d
open Nat renaming le_refl → y0o, lt_of_lt_of_le → y0x, ne_of_lt → y0y, ne_of_gt → y14, le_trans → y1k, zero_le → y1z
open PySem.Builtin.SmallTypes renaming nextOf → y0t
open Bool renaming and_eq_true → y19, false_eq_true → y1o, false_ne_true → y1y
open PySem.PyData renaming depthAll → y1c, canLayAll0 → y1e, str → y1r, eqv → y1v, depth → y20
open PyProof.Rows renaming callWith_type1 → y1n
open PySem.Around renaming under_plainId → y1q
open False renaming elim → y1s
open Array renaming length_toList → y1u
open PySem.PassesOwn renaming never → y21
open PySem.F renaming slot_tuple_iterator_next → y23
open Option.some renaming inj → y27
open Int renaming emod_nonneg → y29, emod_lt_of_pos → y2a
namespace PySem.W.Fast
def tw11780111827735626671:=0
def tw6594519396720981971:=0
def tw13594457461531251093:=0
def tw1605731640337935688:=0
def tw2371933696788879551:=0
def tw2259059003444921738:=0
def tw3993965620724133505:=0
def tw8593729609169782709:=0
def tw5197577706034619750:=0
def tw2897702009895521719:=0
def tw13870693978665325431:=0
def tw11708043634033901532:=0
def tw10841651710356693178:=0
def tw12285826949268139267:=0
def tw2167404734610248649:=0
def tw5064095508291202261:=0
def tw17895286328855469910:=0
def tw6150268438260197057:=0
def tw7368263277081385115:=0
def tw7295807282277572981:=0
def tw7461751434404258461:=0
def tw6383910773141106829:=0
def tw9888391315473445184:=0
def tw2234937967884314421:=0
def tw16836250709130633896:=0
def tw4983503779855396478:=0
def tw7609750892740421088:=0
def tw7776029871419802131:=0
end PySem.W.Fast
noncomputable section
section
namespace L2
open PySem PySem.Spec PyProof.Rows
abbrev Key:=Sum Int Str
def zao:Key->Value->Bool
 | .inl k,v=>Value.isInt k v
 | .inr x,v=>Value.isStrOf x v
def keyH (w:World):Key->Int
 | .inl k=>hashInt k
 | .inr x=>hashStr w x
theorem z0k:∀{k:Key} {v:Value},zao k v=true->(∃i t,k=Sum.inl i/\v=Value.int i t)\/(∃x t,k=Sum.inr x/\v=Value.str x t)
 | .inl i,v,h=>by
  obtain⟨t,e⟩:=Value.isInt_shape (k:=i) (v:=v) h
  exact .inl ⟨i,t,rfl,e⟩
 | .inr x,v,h=>by
  obtain⟨t,e⟩:=Value.isStrOf_shape (x:=x) (v:=v) h
  exact .inr ⟨x,t,rfl,e⟩
theorem zfh (i:Int) (t:Tok):zao (.inl i) (.int i t)=true:=by simp[zao,Value.isInt]
theorem zfg (x:Str) (t:Tok):zao (.inr x) (.str x t)=true:=by simp[zao,Value.isStrOf]
theorem zn4 (a b:Int):decide ((Sum.inl a:Key)=Sum.inl b)=(a == b):=by
 by_cases e:a=b
 ·subst e;simp
 ·have h:¬(Sum.inl a:Key)=Sum.inl b:=fun q=>e (Sum.inl.inj q)
  rw[decide_eq_false h]
  exact (beq_eq_false_iff_ne.mpr e).symm
theorem zn1 (a b:Str):decide ((Sum.inr a:Key)=Sum.inr b)=decide (a=b):=by
 by_cases e:a=b
 ·subst e;simp
 ·have h:¬(Sum.inr a:Key)=Sum.inr b:=fun q=>e (Sum.inr.inj q)
  rw[decide_eq_false h,decide_eq_false e]
theorem zn3 (a:Int) (b:Str):decide ((Sum.inl a:Key)=Sum.inr b)=false:=decide_eq_false (fun q=>nomatch q)
theorem zn2 (a:Str) (b:Int):decide ((Sum.inr a:Key)=Sum.inl b)=false:=decide_eq_false (fun q=>nomatch q)
noncomputable def z0j (prog:y0q) (w:World):PySem.KeyKind prog w Key where
 is:=zao
 hash:=keyH w
 inj:=fun v a b ha hb=>by
  rcases z0k ha with ⟨i,t,rfl,rfl⟩|⟨x,t,rfl,rfl⟩
  ·rcases z0k hb with ⟨j,u,rfl,e⟩|⟨y,u,rfl,e⟩
   ·injection e with e1 _;rw[e1]
   ·exact nomatch e
  ·rcases z0k hb with ⟨j,u,rfl,e⟩|⟨y,u,rfl,e⟩
   ·exact nomatch e
   ·injection e with e1 _;rw[e1]
 byValue:=fun k v h=>by
  rcases z0k h with ⟨i,t,rfl,rfl⟩|⟨x,t,rfl,rfl⟩ <;> rfl
 pyHash:=fun hv h=>by
  rcases z0k hv with ⟨i,t,rfl,rfl⟩|⟨x,t,rfl,rfl⟩
  ·exact wpAny_pyHash_int h
  ·exact wpAny_pyHash_str h
 eqBool:=fun hu hv h=>by
  rcases z0k hu with ⟨i,t,rfl,rfl⟩|⟨x,t,rfl,rfl⟩
  ·rcases z0k hv with ⟨j,u,rfl,rfl⟩|⟨y,u,rfl,rfl⟩
   ·rw[zn4] at h;exact wpAny_eqBool_int h
   ·rw[zn3] at h;exact SeqAt.EqAt.int_str i t y u _ _ _ _ h
  ·rcases z0k hv with ⟨j,u,rfl,rfl⟩|⟨y,u,rfl,rfl⟩
   ·rw[zn2] at h;exact SeqAt.EqAt.str_int x t j u _ _ _ _ h
   ·rw[zn1] at h;exact wpAny_eqBool_str h
 «strs»:=fun k x t v h=>by
  rcases z0k h with ⟨i,u,rfl,e⟩|⟨y,u,rfl,e⟩
  ·exact nomatch e
  ·injection e with e1 _
   subst e1
   cases v <;> rfl
theorem z71 (prog:y0q) (w:World) (k:Key) (v:Value):(z0j prog w).is k v=zao k v:=rfl
theorem zak (prog:y0q) (w:World) (i:Int) (t:Tok):(z0j prog w).is (.inl i) (.int i t)=true:=zfh i t
theorem zaj (prog:y0q) (w:World) (x:Str) (t:Tok):(z0j prog w).is (.inr x) (.str x t)=true:=zfg x t
end L2
namespace L2
open PySem PySem.Spec PyProof.Rows
inductive V where
 | non|bl (b:Bool)|int (i:Int)|str (x:Str)|byt (b:Array UInt8)|flt (b:UInt64)|ref (a:Addr)|ty (n:String)
 deriving DecidableEq
noncomputable def RelV:V->Value->Prop
 | .non,u=>u=Value.none
 | .bl b,u=>u=Value.bool b
 | .int i,u=>∃t,u=Value.int i t
 | .str x,u=>∃t,u=Value.str x t
 | .byt b,u=>∃t,u=Value.bytes b t
 | .flt b,u=>∃t,u=Value.float b t
 | .ref a,u=>u=Value.ref a
 | .ty n,u=>u=Value.type n
abbrev Vals:List V->List Value->Prop:=Paired RelV
theorem Vals.length {xs:List V} {us:List Value} (r:Vals xs us):xs.length=us.length:=Paired.length r
theorem Vals.get:∀{xs:List V} {us:List Value} {i:Nat} {x:V},Vals xs us->xs[i]?=some x->∃u,us[i]?=some u/\RelV x u
 | _,_,_,_,.nil,e=>by simp at e
 | _,_,0,_,.cons r _,e=>by simp at e;subst e;exact⟨_,rfl,r⟩
 | _,_,i+1,x,.cons _ t,e=>by
  obtain⟨u,h1,h2⟩:=Vals.get (i:=i) (x:=x) t (by simpa using e)
  exact⟨u,by simpa using h1,h2⟩
theorem Vals.append:∀{xs ys:List V} {us ws:List Value},Vals xs us->Vals ys ws->Vals (xs++ys) (us++ws)
 | _,_,_,_,.nil,s=>s
 | _,_,_,_,.cons r t,s=>.cons r (Vals.append t s)
def RelO:Option V->Option Value->Prop
 | some v,some u=>RelV v u
 | none,none=>True
 | _,_=>False
def KV {κ:Type}:List (κ×V)->List (κ×Value)->Prop:=Paired fun (p:κ×V) (q:κ×Value)=>p.1=q.1/\RelV p.2 q.2
def kV:Key->V
 | .inl i=>.int i
 | .inr x=>.str x
inductive HO where
 | lst (xs:List V)
 | tup (xs:List V)
 | dK (kvs:List (Key×V))|dT (kvs:List (List Key×V))
 | set (S:Int->Bool) (n:Nat)
 | ins (C dx:Addr) (fs:List (Str×V))
 | own (x:Addr)
 | xd (fs:List (Str×V))
 | met (f x:Addr)
 | rng (lo hi:Int)
 | frz (o:Obj) (u:HO)
 | tbl (ps:Array Value)
 | ext (φ:Heap->Prop)
abbrev Hp:=Addr->Option HO
def upd (H:Hp) (a:Addr) (o:HO):Hp:=fun b=>if b=a then some o else H b
theorem z05 {H:Hp} {a:Addr} {o:HO}:upd H a o a=some o:=by unfold upd;rw[if_pos rfl]
theorem z04 {H:Hp} {a b:Addr} {o:HO} (h:b≠a):upd H a o b=H b:=by unfold upd;rw[if_neg h]
theorem ne_of {H:Hp} {a b:Addr} {o u:HO} (h:H a=some o) (h':H b=some u) (d:o≠u):a≠b:=by
 intro e;subst e;rw[h] at h';exact d (y27 h')
theorem z0d {H:Hp} {a b:Addr} {o:HO} (h:H a=some o) (h':H b=none):a≠b:=by
 intro e;subst e;rw[h] at h';cases h'
section
variable (P:y0q) (w:World)
noncomputable def z26 (H:Hp) (h:Heap) (a:Addr):HO->Prop
 | .lst xs=>xs.length<=y0j/\∃(its:List Value) (n:Nat),Vals xs its/\h.get? a=some { cls:=.type "list",data:=.seq its.toArray n }
 | .tup xs=>xs.length<=y0j/\∃its:List Value,Vals xs its/\IsTup h a its.toArray
 | .dK kvs=>kvs.length<=y0j/\(a == sysModules)=false/\∃vs,KV kvs vs/\h.DictOf (z0j P w) a vs
 | .dT kvs=>kvs.length<=y0j/\(a == sysModules)=false/\∃xs:List (List Key×Addr×Value),
   Paired (fun (p:List Key×V) (q:List Key×Addr×Value)=>p.1=q.1/\H q.2.1=some (.tup (p.1.map kV))/\RelV p.2 q.2.2) kvs xs /\
   ∃o es ep,h.get? a=some o/\o.ExactDict/\o.data=.dict es ep/\es.toList=xs.map (entryOfKey (tupleKind (z0j P w)))/\(xs.map (·.1)).Nodup
 | .set S n=>h.SetOf (intKind P w) a S n
 | .ins C dx fs=>H dx=some (.own a)/\fs.length<=1000/\dx≠a/\h.get? a=some (PySem.W.instObj C dx) /\
   ∃mA,h.Ns1 dx mA/\(∀f,RelO (fs.lookup f) (mA f))/\PySem.Within mA (fs.map (·.1))
 | .own _=>∃o,h.get? a=some o
 | .xd fs=>∃mA,h.Ns1 a mA/\∀f,RelO (fs.lookup f) (mA f)
 | .rng lo hi=>∃t u v,h.get? a=some { cls:=.type "range",data:=.fields #[.int lo t,.int hi u,.int 1 v] }
 | .frz o u=>h.get? a=some o/\z26 H h a u
 | .tbl ps=>h.get? a=some { cls:=.none,data:=.fields ps }
 | .met f x=>h.get? a=some (PySem.W.methodObj (.ref f) (.ref x))
 | .ext φ=>φ h/\(∃o,h.get? a=some o)/\∀h1 h2:Heap,φ h1->(∀o,h1.get? a=some o->h2.get? a=some o)->φ h2
def HOk (H:Hp) (h:Heap):Prop:=∀a o,H a=some o->z26 P w H h a o
end
section
variable {P:y0q} {w:World} {H H':Hp} {h h':Heap} {a:Addr} {o:HO}
theorem z26.lt (x:z26 P w H h a o):a<h.objs.size:=by
 cases o with
 | lst xs=>obtain⟨_,_,_,_,e⟩:=x;exact y0c e
 | tup xs=>obtain⟨_,_,_,p⟩:=x;exact p.lt
 | dK kvs=>obtain⟨_,_,_,_,o,_,_,e,_⟩:=x;exact y0c e
 | dT kvs=>obtain⟨_,_,_,_,o,_,_,e,_⟩:=x;exact y0c e
 | set S n=>obtain⟨o,_,_,_,e,_⟩:=x;exact y0c e
 | ins C dx fs=>obtain⟨_,_,_,e,_⟩:=x;exact y0c e
 | own y=>obtain⟨_,e⟩:=x;exact y0c e
 | xd fs=>obtain⟨_,⟨_,_,_,e,_⟩,_⟩:=x;exact y0c e
 | rng lo hi=>obtain⟨_,_,_,e⟩:=x;exact y0c e
 | frz ob u=>obtain⟨e,_⟩:=x;exact y0c e
 | tbl ps=>exact y0c (show h.get? a=some _ from x)
 | met f y=>exact y0c (show h.get? a=some _ from x)
 | ext φ=>obtain⟨_,⟨_,e⟩,_⟩:=x;exact y0c e
theorem Paired.mapP {α β:Type} {F G:α->β->Prop}:∀{l₁:List α} {l₂:List β},Paired F l₁ l₂->(∀a b,F a b->G a b)->Paired G l₁ l₂
 | _,_,.nil,_=>.nil
 | _,_,.cons r t,f=>.cons (f _ _ r) (Paired.mapP t f)
theorem z26.stay (x:z26 P w H h a o) (k:∀b u,(b=a\/H b=some (.own a))->h.get? b=some u->h'.get? b=some u)
  (ho:∀b,H b=some (.own a)->H' b=some (.own a)) (ht:∀b xs,H b=some (.tup xs)->H' b=some (.tup xs)):z26 P w H' h' a o:=by
 induction o with
 | lst xs=>obtain⟨z,its,n,r,e⟩:=x;exact⟨z,its,n,r,k _ _ (.inl rfl) e⟩
 | tup xs=>obtain⟨z,its,r,ob,e,c⟩:=x;exact⟨z,its,r,ob,k _ _ (.inl rfl) e,c⟩
 | dK kvs=>obtain⟨z,y,vs,r,ob,es,ep,e,c⟩:=x;exact⟨z,y,vs,r,ob,es,ep,k _ _ (.inl rfl) e,c⟩
 | dT kvs =>
  obtain⟨z,y,xs,r,ob,es,ep,e,c⟩:=x
  exact⟨z,y,xs,Paired.mapP r fun p q z=>⟨z.1,ht _ _ z.2.1,z.2.2⟩,ob,es,ep,k _ _ (.inl rfl) e,c⟩
 | set S n=>obtain⟨ob,es,ep,t,e,c⟩:=x;exact⟨ob,es,ep,t,k _ _ (.inl rfl) e,c⟩
 | ins C dx fs =>
  obtain⟨d,z,ne,e,mA,⟨od,es,ep,e2,c⟩,r⟩:=x
  exact⟨ho _ d,z,ne,k _ _ (.inl rfl) e,mA,⟨od,es,ep,k _ _ (.inr d) e2,c⟩,r⟩
 | own y=>obtain⟨ob,e⟩:=x;exact⟨ob,k _ _ (.inl rfl) e⟩
 | xd fs=>obtain⟨mA,⟨od,es,ep,e,c⟩,r⟩:=x;exact⟨mA,⟨od,es,ep,k _ _ (.inl rfl) e,c⟩,r⟩
 | rng lo hi=>obtain⟨t,u,v,e⟩:=x;exact⟨t,u,v,k _ _ (.inl rfl) e⟩
 | frz ob u ih=>obtain⟨e,q⟩:=x;exact⟨k _ _ (.inl rfl) e,ih q⟩
 | tbl ps =>
  have e:h.get? a=some { cls:=.none,data:=.fields ps }:=x
  show h'.get? a=some { cls:=.none,data:=.fields ps }
  exact k a _ (.inl rfl) e
 | met f y =>
  have e:h.get? a=some (PySem.W.methodObj (.ref f) (.ref y)):=x
  show h'.get? a=some (PySem.W.methodObj (.ref f) (.ref y))
  exact k a _ (.inl rfl) e
 | ext φ=>obtain⟨p,⟨o,e⟩,st⟩:=x;exact⟨st _ _ p fun o q=>k _ _ (.inl rfl) q,⟨o,k _ _ (.inl rfl) e⟩,st⟩
theorem HOk.lt (x:HOk P w H h) (e:H a=some o):a<h.objs.size:=(x a o e).lt
theorem HOk.fresh (x:HOk P w H h) (e:h.objs.size<=a):H a=none:=by
 cases q:H a with
 | none=>rfl
 | some u=>exact absurd (y0x (x.lt q) e) (Nat.lt_irrefl _)
theorem HOk.kept (x:HOk P w H h) (k:∀b u,h.get? b=some u->h'.get? b=some u):HOk P w H h':=fun a o e =>
 (x a o e).stay (fun b u _ q=>k b u q) (fun _ q=>q) fun _ _ q=>q
theorem HOk.laid (x:HOk P w H h) (k:∀b u,h.get? b=some u->h'.get? b=some u) (hp:h.objs.size<=a) (new:z26 P w (upd H a o) h' a o):HOk P w (upd H a o) h':=fun b u e=>by
 have hn:=x.fresh hp
 by_cases hb:b=a
 ·subst hb;rw[z05] at e;cases e;exact new
 ·rw[z04 hb] at e
  exact (x b u e).stay (fun c v _ q=>k c v q) (fun c q=>by rw[z04 (z0d q hn)];exact q) fun c xs q=>by rw[z04 (z0d q hn)];exact q
end
def Rd (H:Hp) (a:Addr) (u:HO):Prop:=H a=some u\/∃o,H a=some (.frz o u)
theorem Rd.ok {P:y0q} {w:World} {H:Hp} {h:Heap} {a:Addr} {u:HO} (r:Rd H a u) (x:HOk P w H h):z26 P w H h a u:=by
 rcases r with r|⟨o,r⟩
 ·exact x a u r
 ·obtain⟨_,q⟩:=x a _ r
  exact q
def Mut:Option HO->Prop
 | some (.lst _)=>True
 | some (.dK _)=>True
 | some (.dT _)=>True
 | some (.set _ _)=>True
 | some (.ins _ _ _)=>True
 | some (.ext _)=>True
 | _=>False
section
variable {P:y0q} {w:World} {H:Hp} {h h':Heap} {x e:Addr} {o':HO}
theorem HOk.write (ok:HOk P w H h) (mu:Mut (H x)) (he:e=x\/H e=some (.own x)) (k:∀b u,b≠e->h.get? b=some u->h'.get? b=some u) (heo:∃u,h'.get? e=some u)
  (new:z26 P w (upd H x o') h' x o'):HOk P w (upd H x o') h':=fun b u q=>by
 have nown:∀c y,H c=some (.own y)->c≠x:=fun c y r z=>by subst z;rw[r] at mu;exact mu
 have ntup:∀c xs,H c=some (.tup xs)->c≠x:=fun c xs r z=>by subst z;rw[r] at mu;exact mu
 by_cases hb:b=x
 ·subst hb;rw[z05] at q;cases q;exact new
 ·rw[z04 hb] at q
  by_cases hbe:b=e
  ·have q':H b=some (.own x):=by
    rcases he with z|z
    ·exact absurd (hbe.trans z) hb
    ·rw[hbe];exact z
   rw[q] at q';cases q'
   obtain⟨v,hv⟩:=heo
   exact⟨v,by rw[hbe];exact hv⟩
  ·refine (ok b u q).stay (fun c v hc r=>k c v ?_ r) (fun c r=>by rw[z04 (nown c b r)];exact r) fun c xs r=>by rw[z04 (ntup c xs r)];exact r
   rcases hc with rfl|hc
   ·exact hbe
   ·rintro rfl
    rcases he with z|z
    ·exact nown c b hc z
    ·rw[hc] at z;cases z;exact hb rfl
end
structure Un (fs ex:List Addr) (H H':Hp) (h h':Heap):Prop where
 keep:∀b o,h.get? b=some o->H b=none->b∉fs->b∉ex->h'.get? b=some o
 slot:∀b o,h.get? b=some o->H b=none->b∈fs->b∉ex->∃sl,h'.get? b=some { o with slots:=sl }
 free:∀b o,h.get? b=some o->H b=none->b∉ex->H' b=none
 there:∀b o,h.get? b=some o->b∉ex->∃o',h'.get? b=some o'
 tups:∀b xs,H b=some (.tup xs)->H' b=some (.tup xs)
 frzs:∀b o u,H b=some (.frz o u)->H' b=some (.frz o u)
 tbls:∀b ps,H b=some (.tbl ps)->∃more,H' b=some (.tbl (ps++more))
section
variable {fs fs' ex ex':List Addr} {H H1 H2:Hp} {h h1 h2 h':Heap} {a x e:Addr} {o:HO}
theorem Un.any (u:Un fs ex H H1 h h1) {b:Addr} {ob:Obj} (q:h.get? b=some ob) (n:H b=none) (hx:b∉ex):∃sl,h1.get? b=some { ob with slots:=sl }:=by
 by_cases hb:b∈fs
 ·exact u.slot b ob q n hb hx
 ·exact⟨ob.slots,u.keep b ob q n hb hx⟩
theorem Un.kept (k:∀b u,h.get? b=some u->h'.get? b=some u):Un fs ex H H h h' :=
 ⟨fun b ob q _ _ _=>k b ob q,fun b ob q _ _ _=>⟨ob.slots,k b ob q⟩,fun _ _ _ n _=>n,fun b ob q _=>⟨ob,k b ob q⟩,fun _ _ q=>q,fun _ _ _ q=>q,fun _ ps q=>⟨#[],by rw[q];simp⟩⟩
theorem Un.refl:Un fs ex H H h h:=Un.kept fun _ _ q=>q
theorem Un.laid (k:∀b u,h.get? b=some u->h'.get? b=some u) (hp:h.objs.size<=a) (hn:H a=none):Un fs ex H (upd H a o) h h' where
 keep:=fun b u q _ _ _=>k b u q
 slot:=fun b u q _ _ _=>⟨u.slots,k b u q⟩
 free:=fun b u q n _=>by rw[z04 (y0y (y0x (y0c q) hp))];exact n
 there:=fun b u q _=>⟨u,k b u q⟩
 tups:=fun b xs q=>by rw[z04 (z0d q hn)];exact q
 frzs:=fun b u xs q=>by rw[z04 (z0d q hn)];exact q
 tbls:=fun b ps q=>⟨#[],by rw[z04 (z0d q hn),q];simp⟩
theorem Un.write (mu:Mut (H x)) (he:e=x\/H e=some (.own x)) (k:∀b u,b≠e->h.get? b=some u->h'.get? b=some u) (heo:∃u,h'.get? e=some u):Un fs ex H (upd H x o) h h':=by
 have hx:∀b,H b=none->b≠x:=fun b n z=>by subst z;rw[n] at mu;exact mu
 have hb:∀b,H b=none->b≠e:=fun b n z=>by
  subst z
  rcases he with r|r
  ·exact hx b n r
  ·rw[n] at r;cases r
 have hm:∀b u,H b=some u->¬Mut (some u)->b≠x:=fun b u q nm z=>by subst z;rw[q] at mu;exact nm mu
 refine⟨fun b u q n _ _=>k b u (hb b n) q,fun b u q n _ _=>⟨u.slots,k b u (hb b n) q⟩,fun b u q n _=>by rw[z04 (hx b n)];exact n,fun b u q _=>?_,
  fun b xs q=>by rw[z04 (hm b _ q fun z=>z)];exact q,fun b u xs q=>by rw[z04 (hm b _ q fun z=>z)];exact q,fun b ps q=>⟨#[],by rw[z04 (hm b _ q fun z=>z),q];simp⟩⟩
 by_cases hbe:b=e
 ·subst hbe;exact heo
 ·exact⟨u,k b u hbe q⟩
end
def trk (h:Heap) (H:Hp):List Addr:=(List.range h.objs.size).filter fun a=>(H a).isSome
def hidT (h:Heap) (H:Hp):Heap:=PySem.W.hideAll h (trk h H)
theorem zfu (h:Heap) (H:Hp):(hidT h H).objs.size=h.objs.size:=PySem.W.hideAll_size _ _
theorem zig {h:Heap} {H:Hp} {b:Addr} {o:Obj} (e:h.get? b=some o) (n:H b=none):(hidT h H).get? b=some o :=
 PySem.W.hideAll_get _ e fun hm=>by
  have q:(H b).isSome=true:=(List.mem_filter.mp hm).2
  rw[n] at q;simp at q
theorem zkv {h:Heap} {H:Hp} {b:Addr} {o:Obj} (e:(hidT h H).get? b=some o):h.get? b=some o/\H b=none:=by
 have e':h.get? b=some o:=PySem.W.of_hideAll (trk h H) e
 refine⟨e',?_⟩
 cases q:H b with
 | none=>rfl
 | some x =>
  have hm:b∈trk h H:=List.mem_filter.mpr ⟨List.mem_range.mpr (y0c e'),by simp[q]⟩
  have z:(hidT h H).get? b=none:=PySem.W.hideAll_none (trk h H) hm
  rw[z] at e;cases e
def zli (g h:Heap) (L:Addr):List (Addr×Obj):=(List.range h.objs.size).filterMap fun a=>if a=L\/(g.get? a).isSome=true then none else (h.get? a).map fun o=>(a,o)
def rest (g h:Heap) (L d:Addr):List (Addr×Obj):=(zli g h L).filter fun p=>decide (p.1≠d)
end L2
namespace L2
open PySem PySem.Spec PyProof.Rows
structure Mod (K:y00) (mg:Str->Option Value) (base:Heap):Prop where
 kin:K.In base
 glob:base.Ns y0n mg
 blt:∃mb,base.Ns builtinsNs mb/\∀x:Str,x≠"__name__"->mb x=bootBuiltins x
 nolimit:base.NoLimit
structure Cx where
 prog:y0q
 w:World
 K:y00
 mg:Str->Option Value
 base:Heap
 A:Around
 N:List Str
 s₀:y04
 H₀:Hp
 env:Env
 outer:List Env
 stack:List Env
 ex:List Addr
 fn:Str->Bool
 calm:Bool
 pn:List (Addr×Obj)
 xe:Value->y04->Prop
def frs (l:List Env):List Addr:=l.filterMap (·.frame)
abbrev Cx.fs (X:Cx):List Addr:=frs X.outer
def Vis (sc:Scope) (x:Str):Prop:=sc.names.lookup x=some .local\/sc.names.lookup x=some .cell\/sc.names.lookup x=some .free
def Loc (sc:Scope) (x:Str):Prop:=sc.names.lookup x=some .local\/sc.names.lookup x=some .cell
noncomputable def Look (env:Env) (h:Heap) (m:Str->Option Value) (x:Str) (u:Value):Prop :=
 (env.kindOf x=some .local/\m x=some u)\/((env.kindOf x=some .cell\/env.kindOf x=some .free)/\∃c,env.cells.lookup x=some c/\h.IsCell c (some u))
structure Cx.Ok (X:Cx):Prop where
 mod:Mod X.K X.mg X.base
 kind:X.env.scope.kind=.function
 glob:X.env.globals=y0n
 blt:X.env.builtins=builtinsNs
 above:X.s₀.heap.objs.size<=X.env.locals
 inj:∀x y c,X.env.cells.lookup x=some c->X.env.cells.lookup y=some c->x=y
 has:∀x,(X.env.kindOf x=some .cell\/X.env.kindOf x=some .free)->∃c,X.env.cells.lookup x=some c
 cab:∀x c,X.fn x=true->X.env.cells.lookup x=some c->X.s₀.heap.objs.size<=c
 hd:X.calm=true->X.A.handled=none
 frames:X.A.frames=some X.stack
 stk:X.stack=X.outer\/(X.stack=X.env::X.outer/\X.env.frame=some X.env.locals)
 exf:∀b∈X.ex,b≠X.env.locals/\∀x c,X.env.cells.lookup x=some c->c≠b
 bs:∀b o,X.base.get? b=some o->X.s₀.heap.get? b=some o/\X.H₀ b=none
 bsz:X.base.objs.size<=X.s₀.heap.objs.size
 noex:∀b o,X.base.get? b=some o->b∉X.ex
 exfs:∀b∈X.ex,b∉X.fs
 funs:X.s₀.heap.FunFrames X.base X.outer
 frf:∀b∈X.fs,X.H₀ b=none
structure Inv (X:Cx) (pins:List (Addr×Obj)) (σ:List (Option V)) (H:Hp) (s:y04):Prop where
 ok:X.Ok
 os:s.os=X.s₀.os
 bare:AllBare s.gens
 base:Un X.fs X.ex X.H₀ H X.s₀.heap s.heap
 loc:∃m,s.heap.Ns X.env.locals m/\∀(i:Nat) (x:Str) (v:V),X.N[i]?=some x->σ[i]?=some (some v)->Vis X.env.scope x->∃u,RelV v u/\Look X.env s.heap m x u
 cell:∀x c,X.env.cells.lookup x=some c->∃v,s.heap.IsCell c v
 free:H X.env.locals=none
 freeC:∀x c,X.env.cells.lookup x=some c->H c=none
 pin:∀p∈X.pn++pins,s.heap.get? p.1=some p.2/\H p.1=none/\p.1≠X.env.locals/\p.1∉X.fs/\∀v,p.2.data≠.cell v
 hok:HOk X.prog X.w H s.heap
 len:σ.length=X.N.length
section
variable {X:Cx} {pins:List (Addr×Obj)} {σ:List (Option V)} {H H':Hp} {s:y04} {h':Heap}
theorem Cx.Ok.nofr (ok:X.Ok) {b:Addr} {o:Obj} (e:X.base.get? b=some o):b∉X.fs:=fun hb=>by
 have:=(ok.funs.mem hb).1
 rw[e] at this;cases this
theorem Inv.bs (I:Inv X pins σ H s):∀b o,X.base.get? b=some o->s.heap.get? b=some o/\H b=none:=fun b o e =>
 ⟨I.base.keep b o (I.ok.bs b o e).1 (I.ok.bs b o e).2 (I.ok.nofr e) (I.ok.noex b o e),I.base.free b o (I.ok.bs b o e).1 (I.ok.bs b o e).2 (I.ok.noex b o e)⟩
theorem Inv.bk (I:Inv X pins σ H s):∀b o,X.base.get? b=some o->s.heap.get? b=some o:=fun b o e=>(I.bs b o e).1
theorem Inv.mod (I:Inv X pins σ H s):Mod X.K X.mg X.base:=I.ok.mod
theorem Inv.kIn (I:Inv X pins σ H s):X.K.In s.heap:=I.ok.mod.kin.keeps I.bk
theorem Inv.lt (I:Inv X pins σ H s):X.env.locals<s.heap.objs.size:=let ⟨_,hn,_⟩:=I.loc;hn.lt
theorem Inv.sz (I:Inv X pins σ H s):X.s₀.heap.objs.size<=s.heap.objs.size:=y1k I.ok.above (Nat.le_of_lt I.lt)
theorem Inv.nofs (I:Inv X pins σ H s) {a:Addr} (h:s.heap.objs.size<=a):a∉X.fs:=fun hb=>by
 obtain⟨_,o,ho,_⟩:=I.ok.funs.mem hb
 exact absurd (y0x (y0c ho) (y1k I.sz h)) (Nat.lt_irrefl _)
theorem Inv.cne (I:Inv X pins σ H s):∀x c,X.env.cells.lookup x=some c->c≠X.env.locals:=fun x c e z=>by
 obtain⟨v,o,ho,hd⟩:=I.cell x c e
 obtain⟨m,⟨o',es,ep,ho',hd',_⟩,_⟩:=I.loc
 rw[z,ho'] at ho;cases ho;rw[hd'] at hd;cases hd
theorem Inv.funs (I:Inv X pins σ H s):s.heap.FunFrames X.base X.outer:=by
 have all:∀(l:List Env),(∀b∈frs l,b∈X.fs)->X.s₀.heap.FunFrames X.base l->s.heap.FunFrames X.base l:=by
  intro l
  induction l with
  | nil=>intro _ _;trivial
  | cons env r ih =>
   intro hs hl
   obtain⟨hk,⟨L,o,hf,hn,ho,hd⟩,hr⟩:=hl
   have hL:L∈X.fs:=hs L (by unfold frs;rw[List.filterMap_cons,hf];exact y0e)
   obtain⟨sl,e⟩:=I.base.slot L o ho (I.ok.frf L hL) hL fun z=>I.ok.exfs L z hL
   exact⟨hk,⟨L,_,hf,hn,e,hd⟩,ih (fun b hb=>hs b (by unfold frs;rw[List.filterMap_cons,hf];exact y05 _ hb)) hr⟩
 exact all X.outer (fun _ hb=>hb) I.ok.funs
theorem Inv.stack (I:Inv X pins σ H s):s.heap.FunFrames X.base X.stack:=by
 rcases I.ok.stk with e|⟨e,hf⟩
 ·rw[e];exact I.funs
 ·rw[e]
  obtain⟨m,hn,_⟩:=I.loc
  refine .cons (by rw[I.ok.kind];decide) hf hn ?_ I.funs
  exact Heap.get?_none_of_le (y1k I.ok.bsz I.ok.above)
theorem Inv.stkSub (I:Inv X pins σ H s):∀b∈frs X.stack,b∈X.env.locals::X.fs:=fun b hb=>by
 rcases I.ok.stk with e|⟨e,hf⟩
 ·rw[e] at hb;exact y05 _ hb
 ·rw[e] at hb
  unfold frs at hb
  rw[List.filterMap_cons,hf] at hb
  exact hb
theorem Inv.stkFree (I:Inv X pins σ H s):∀b∈frs X.stack,H b=none:=fun b hb=>by
 rcases y09.mp (I.stkSub b hb) with e|hb
 ·rw[e];exact I.free
 ·obtain⟨_,o,ho,_⟩:=I.ok.funs.mem hb
  exact I.base.free b o ho (I.ok.frf b hb) fun z=>I.ok.exfs b z hb
theorem Inv.step {g':Array GenState} {t':Nat} {d':Drawn} {ch:List Addr} (I:Inv X pins σ H s)
  (hch:∀b∈ch,(b∈X.ex\/X.s₀.heap.objs.size<=b)/\b≠X.env.locals/\(∀x c,X.env.cells.lookup x=some c->c≠b)/\∀p∈X.pn++pins,p.1≠b)
  (keep:∀b o,b≠X.env.locals->b∉X.fs->b∉ch->s.heap.get? b=some o->H b=none->h'.get? b=some o)
  (slot:∀b o,b≠X.env.locals->b∈X.fs->b∉ch->s.heap.get? b=some o->H b=none->∃sl,h'.get? b=some { o with slots:=sl }) (free:∀b o,b∉ch->s.heap.get? b=some o->H b=none->H' b=none)
  (there:∀b o,b∉ch->s.heap.get? b=some o->∃o',h'.get? b=some o')
  (tups:∀b xs,H b=some (.tup xs)->H' b=some (.tup xs)) (frzs:∀b o u,H b=some (.frz o u)->H' b=some (.frz o u)) (tbls:∀b ps,H b=some (.tbl ps)->∃more,H' b=some (.tbl (ps++more)))
  (ns:∀m,s.heap.Ns X.env.locals m->h'.Ns X.env.locals m) (hok:HOk X.prog X.w H' h') (hg:AllBare g') :
  Inv X pins σ H' { s with heap:=h',gens:=g',drawn:=d',toks:=t' }:=by
 have neL:∀b o,X.s₀.heap.get? b=some o->b≠X.env.locals:=fun b o e=>y0y (y0x (y0c e) I.ok.above)
 have neC:∀b o,X.s₀.heap.get? b=some o->b∉X.ex->b∉ch:=fun b o e hx hb=>by
  rcases (hch b hb).1 with z|z
  ·exact hx z
  ·exact absurd (y0x (y0c e) z) (Nat.lt_irrefl _)
 have cellK:∀x c,X.env.cells.lookup x=some c->∀v,s.heap.IsCell c v->h'.IsCell c v:=fun x c e v ⟨o,ho,hd⟩=>by
  have nch:c∉ch:=fun z=>(hch c z).2.2.1 x c e rfl
  by_cases hc:c∈X.fs
  ·obtain⟨sl,q⟩:=slot c o (I.cne x c e) hc nch ho (I.freeC x c e)
   exact⟨_,q,hd⟩
  ·exact⟨o,keep c o (I.cne x c e) hc nch ho (I.freeC x c e),hd⟩
 refine⟨I.ok,I.os,hg,⟨fun b o e n hb hx=>?_,fun b o e n hb hx=>?_,fun b o e n hx=>?_,fun b o e hx=>?_,fun b xs e=>tups b xs (I.base.tups b xs e),fun b o xs e=>frzs b o xs (I.base.frzs b o xs e),fun b ps e=>?_⟩,?_,fun x c e=>?_,?_,fun x c e=>?_,fun p hp=>?_,hok,I.len⟩
 ·exact keep b o (neL b o e) hb (neC b o e hx) (I.base.keep b o e n hb hx) (I.base.free b o e n hx)
 ·obtain⟨sl,e1⟩:=I.base.slot b o e n hb hx
  obtain⟨sl',e2⟩:=slot b _ (neL b o e) hb (neC b o e hx) e1 (I.base.free b o e n hx)
  exact⟨sl',e2⟩
 ·obtain⟨o',e1⟩:=I.base.there b o e hx
  exact free b o' (neC b o e hx) e1 (I.base.free b o e n hx)
 ·obtain⟨o',e1⟩:=I.base.there b o e hx
  exact there b o' (neC b o e hx) e1
 ·obtain⟨m1,e1⟩:=I.base.tbls b ps e
  obtain⟨m2,e2⟩:=tbls b _ e1
  exact⟨m1++m2,by rw[e2,Array.append_assoc]⟩
 ·obtain⟨m,hn,hl⟩:=I.loc
  refine⟨m,ns m hn,fun i x v e1 e2 e3=>?_⟩
  obtain⟨u,r,l⟩:=hl i x v e1 e2 e3
  refine⟨u,r,?_⟩
  rcases l with l|⟨k,c,e,z⟩
  ·exact .inl l
  ·exact .inr ⟨k,c,e,cellK x c e _ z⟩
 ·obtain⟨v,z⟩:=I.cell x c e
  exact⟨v,cellK x c e v z⟩
 ·obtain⟨m,⟨o,_,_,ho,_⟩,_⟩:=I.loc
  exact free _ o (fun z=>(hch _ z).2.1 rfl) ho I.free
 ·obtain⟨v,o,ho,hd⟩:=I.cell x c e
  exact free c o (fun z=>(hch c z).2.2.1 x c e rfl) ho (I.freeC x c e)
 ·obtain⟨e,n,ne,nf,d⟩:=I.pin p hp
  have nch:p.1∉ch:=fun z=>(hch p.1 z).2.2.2 p hp rfl
  exact⟨keep p.1 p.2 ne nf nch e n,free p.1 p.2 nch e n,ne,nf,d⟩
theorem Inv.un {t':Nat} (I:Inv X pins σ H s) (u:Un X.fs [] H H' s.heap h') (hok:HOk X.prog X.w H' h'):Inv X pins σ H' { s with heap:=h',toks:=t' }:=by
 obtain⟨m,⟨o,es,ep,ho,r⟩,_⟩:=id I.loc
 obtain⟨sl,hL⟩:=u.any ho I.free (by simp)
 exact I.step (g':=s.gens) (d':=s.drawn) (ch:=[]) (fun _ z=>nomatch z) (fun b o _ hb _ e n=>u.keep b o e n hb (by simp)) (fun b o _ hb _ e n=>u.slot b o e n hb (by simp)) (fun b o _ e n=>u.free b o e n (by simp)) (fun b o _ e=>u.there b o e (by simp)) u.tups u.frzs u.tbls (fun m' hm=>by
  obtain⟨o',es',ep',ho',r'⟩:=hm
  rw[ho] at ho';cases ho'
  exact⟨_,es',ep',hL,r'⟩) hok I.bare
theorem Inv.call {g':Array GenState} {t':Nat} {d':Drawn} {ch:List Addr} (I:Inv X pins σ H s) (u:Un (frs X.stack) ch H H' s.heap h') (hok:HOk X.prog X.w H' h') (hg:AllBare g')
  (hch:∀b∈ch,(b∈X.ex\/X.s₀.heap.objs.size<=b)/\b≠X.env.locals/\(∀x c,X.env.cells.lookup x=some c->c≠b)/\∀p∈X.pn++pins,p.1≠b) :
  Inv X pins σ H' { s with heap:=h',gens:=g',drawn:=d',toks:=t' }:=by
 obtain⟨m,⟨o,es,ep,ho,r⟩,_⟩:=id I.loc
 obtain⟨sl,hL⟩:=u.any ho I.free fun z=>(hch _ z).2.1 rfl
 exact I.step (ch:=ch) hch (fun b o hL hb hc e n=>u.keep b o e n (fun z=>(y09.mp (I.stkSub b z)).elim hL hb) hc) (fun b o _ _ hc e n=>u.any e n hc) (fun b o hc e n=>u.free b o e n hc) (fun b o hc e=>u.there b o e hc) u.tups u.frzs u.tbls (fun m' hm=>by
  obtain⟨o',es',ep',ho',r'⟩:=hm
  rw[ho] at ho';cases ho'
  exact⟨_,es',ep',hL,r'⟩) hok hg
theorem Inv.turned {t':Nat} {it:Addr} (I:Inv X pins σ H s) (k:∀b o,b≠it->s.heap.get? b=some o->h'.get? b=some o) (hn:H it=none) (hL:it≠X.env.locals)
  (h1:it∈X.ex\/X.s₀.heap.objs.size<=it) (h2:∀x c,X.env.cells.lookup x=some c->c≠it) (h3:∀p∈X.pn++pins,p.1≠it):Inv X pins σ H { s with heap:=h',toks:=t' }:=by
 have nit:∀b u,H b=some u->b≠it:=fun b u e z=>by rw[z,hn] at e;cases e
 refine I.step (g':=s.gens) (d':=s.drawn) (ch:=[it]) (fun b hb=>?_) (fun b o _ _ hc e _=>k b o (fun z=>hc (by simp[z])) e) (fun b o _ _ hc e _=>⟨o.slots,k b o (fun z=>hc (by simp[z])) e⟩) (fun _ _ _ _ n=>n)
  (fun b o hc e=>⟨o,k b o (fun z=>hc (by simp[z])) e⟩) (fun _ _ e=>e) (fun _ _ _ e=>e) (fun b ps e=>⟨#[],by rw[e];simp⟩) (fun m hm=>?_) (fun b u e=>?_) I.bare
 ·have e:b=it:=by simpa using hb
  subst e
  exact⟨h1,hL,h2,h3⟩
 ·obtain⟨o,es,ep,ho,r⟩:=hm
  exact⟨o,es,ep,k _ o (Ne.symm hL) ho,r⟩
 ·refine (I.hok b u e).stay (fun c v hc q=>k c v ?_ q) (fun _ q=>q) fun _ _ q=>q
  rcases hc with z|z
  ·rw[z];exact nit b u e
  ·exact nit c _ z
theorem Inv.tok (I:Inv X pins σ H s) (t:Nat):Inv X pins σ H { s with toks:=t }:=I.un (h':=s.heap) (t':=t) Un.refl I.hok
theorem Inv.kept {t':Nat} (I:Inv X pins σ H s) (k:∀b u,s.heap.get? b=some u->h'.get? b=some u):Inv X pins σ H { s with heap:=h',toks:=t' }:=I.un (Un.kept k) (I.hok.kept k)
theorem Inv.laid {a:Addr} {o:HO} {t':Nat} (I:Inv X pins σ H s) (k:∀b u,s.heap.get? b=some u->h'.get? b=some u) (hp:s.heap.objs.size<=a) (new:z26 X.prog X.w (upd H a o) h' a o) :
  Inv X pins σ (upd H a o) { s with heap:=h',toks:=t' }:=I.un (Un.laid k hp (I.hok.fresh hp)) (I.hok.laid k hp new)
theorem Inv.write {x e:Addr} {o:HO} {t':Nat} (I:Inv X pins σ H s) (mu:Mut (H x)) (he:e=x\/H e=some (.own x)) (k:∀b u,b≠e->s.heap.get? b=some u->h'.get? b=some u) (heo:∃u,h'.get? e=some u)
  (new:z26 X.prog X.w (upd H x o) h' x o):Inv X pins σ (upd H x o) { s with heap:=h',toks:=t' }:=I.un (Un.write mu he k heo) (I.hok.write mu he k heo new)
theorem Inv.pins_of {pins':List (Addr×Obj)} (I:Inv X pins σ H s) (h:∀p∈pins',s.heap.get? p.1=some p.2/\H p.1=none/\p.1≠X.env.locals/\p.1∉X.fs/\∀v,p.2.data≠.cell v):Inv X pins' σ H s :=
 ⟨I.ok,I.os,I.bare,I.base,I.loc,I.cell,I.free,I.freeC,fun p hp=>(y10.mp hp).elim (fun z=>I.pin p (List.mem_append_left _ z)) (h p),I.hok,I.len⟩
theorem z7s {N:List Str} (hN:N.Nodup) {i j:Nat} {x:Str} (a:N[i]?=some x) (b:N[j]?=some x):i=j:=by
 obtain⟨h1,e1⟩:=y0k.mp a
 obtain⟨h2,e2⟩:=y0k.mp b
 exact (List.getElem_inj hN).mp (e1.trans e2.symm)
theorem z8g {M:Model} {A:Around} {E:Value->y04->Prop} {i:Nat} {x:Str} {v:V} {u:Value} {Q:Unit->y04->Prop} (I:Inv X pins σ H s) (hN:X.N.Nodup) (hi:X.N[i]?=some x) (hx:Loc X.env.scope x) (r:RelV v u)
  (h:∀s',Inv X pins (σ.set i (some v)) H s'->(∃a,Heap.SameBut a s.heap s'.heap/\(a=X.env.locals\/X.env.cells.lookup x=some a))->Q () s') (hf:X.fn x=true\/X.env.scope.names.lookup x=some .local:=by first|exact .inl rfl|exact .inr rfl|assumption):y0u M A (storeName X.env x u) Q E s:=by
 obtain⟨m,hn,hl⟩:=id I.loc
 have hcls:(X.env.scope.kind == .class || (X.env.scope.kind == .module && X.env.locals != X.env.globals))=false:=by rw[I.ok.kind];rfl
 have hiσ:i<σ.length:=by rw[I.len];exact (y0k.mp hi).1
 have cne:=I.cne
 have tracked:∀{a:Addr} {h':Heap},(∃o,s.heap.get? a=some o/\H a=none)->Heap.SameBut a s.heap h'->HOk X.prog X.w H h':=fun {a h'} ha hs b ob e=>by
  obtain⟨_,_,hfree⟩:=ha
  refine (I.hok b ob e).stay (fun c w' hc q=>(hs.2 c ?_).trans q) (fun _ q=>q) fun _ _ q=>q
  rintro rfl
  rcases hc with rfl|hc
  ·rw[hfree] at e;cases e
  ·rw[hfree] at hc;cases hc
 rcases hx with hk|hk
 ·refine wpAny_storeName_local hk hn (fun h' hn' hs=>?_) hcls
  obtain⟨oL,_,_,hoL,_⟩:=id hn
  refine h _ ⟨I.ok,I.os,I.bare,⟨fun b o e n hb hx=>?_,fun b o e n hb hx=>?_,I.base.free,fun b o e hx=>?_,I.base.tups,I.base.frzs,I.base.tbls⟩,⟨_,hn',fun j y v' e1 e2 e3=>?_⟩,fun y c e=>?_,I.free,I.freeC,fun p hp=>?_,tracked ⟨oL,hoL,I.free⟩ hs,by simpa using I.len⟩ ⟨_,hs,.inl rfl⟩
  ·exact (hs.2 b (y0y (y0x (y0c e) I.ok.above))).trans (I.base.keep b o e n hb hx)
  ·obtain⟨sl,e1⟩:=I.base.slot b o e n hb hx
   exact⟨sl,(hs.2 b (y0y (y0x (y0c e) I.ok.above))).trans e1⟩
  ·obtain⟨o',e1⟩:=I.base.there b o e hx
   exact⟨o',(hs.2 b (y0y (y0x (y0c e) I.ok.above))).trans e1⟩
  ·by_cases hj:j=i
   ·subst hj
    rw[hi] at e1;cases e1
    rw[List.getElem?_set_self hiσ] at e2
    cases e2
    exact⟨u,r,.inl ⟨hk,by simp⟩⟩
   ·rw[List.getElem?_set_ne (Ne.symm hj)] at e2
    obtain⟨u',r',q⟩:=hl j y v' e1 e2 e3
    refine⟨u',r',?_⟩
    rcases q with ⟨k,e⟩|⟨k,c,e,z⟩
    ·refine .inl ⟨k,?_⟩
     have:y≠x:=fun e=>hj (z7s hN e1 (e▸hi))
     simp[this,e]
    ·exact .inr ⟨k,c,e,z.sameBut hs (cne y c e)⟩
  ·obtain⟨w',z⟩:=I.cell y c e
   exact⟨w',z.sameBut hs (cne y c e)⟩
  ·obtain⟨e,n,ne,nf,d⟩:=I.pin p hp
   exact⟨(hs.2 p.1 ne).trans e,n,ne,nf,d⟩
 ·have hfn:X.fn x=true:=by
   rcases hf with z|z
   ·exact z
   ·rw[z] at hk;cases hk
  obtain⟨c,hc⟩:=I.ok.has x (.inl hk)
  obtain⟨w',z⟩:=I.cell x c hc
  refine wpAny_storeName_cell I.ok.kind hk hc z (fun h' hc' hs=>?_)
  obtain⟨oc,hoc,hocd⟩:=id z
  refine h { s with heap:=h' } ⟨I.ok,I.os,I.bare,⟨fun b o e n hb hx=>?_,fun b o e n hb hx=>?_,I.base.free,fun b o e hx=>?_,I.base.tups,I.base.frzs,I.base.tbls⟩,⟨m,hn.sameBut hs (Ne.symm (cne x c hc)),fun j y v' e1 e2 e3=>?_⟩,fun y c' e=>?_,I.free,I.freeC,fun p hp=>?_,tracked ⟨oc,hoc,I.freeC x c hc⟩ hs,by simpa using I.len⟩ ⟨c,hs,.inr hc⟩
  ·exact (hs.2 b (y0y (y0x (y0c e) (I.ok.cab x c hfn hc)))).trans (I.base.keep b o e n hb hx)
  ·obtain⟨sl,e1⟩:=I.base.slot b o e n hb hx
   exact⟨sl,(hs.2 b (y0y (y0x (y0c e) (I.ok.cab x c hfn hc)))).trans e1⟩
  ·obtain⟨o',e1⟩:=I.base.there b o e hx
   exact⟨o',(hs.2 b (y0y (y0x (y0c e) (I.ok.cab x c hfn hc)))).trans e1⟩
  ·by_cases hj:j=i
   ·subst hj
    rw[hi] at e1;cases e1
    rw[List.getElem?_set_self hiσ] at e2
    cases e2
    exact⟨u,r,.inr ⟨.inl hk,c,hc,hc'⟩⟩
   ·rw[List.getElem?_set_ne (Ne.symm hj)] at e2
    obtain⟨u',r',q⟩:=hl j y v' e1 e2 e3
    refine⟨u',r',?_⟩
    rcases q with q|⟨k,c',e,z'⟩
    ·exact .inl q
    ·refine .inr ⟨k,c',e,z'.sameBut hs ?_⟩
     rintro rfl
     exact hj (z7s hN e1 (I.ok.inj _ _ _ e hc▸hi))
  ·by_cases hcc:c'=c
   ·subst hcc;exact⟨_,hc'⟩
   ·obtain⟨w2,z2⟩:=I.cell y c' e
    exact⟨w2,z2.sameBut hs hcc⟩
  ·obtain⟨e,n,ne,nf,d⟩:=I.pin p hp
   refine⟨(hs.2 p.1 ?_).trans e,n,ne,nf,d⟩
   intro q
   rw[q,hoc] at e
   have q':oc=p.2:=y27 e
   exact d w' (by rw[<- q'];exact hocd)
theorem z7l {M:Model} {A:Around} {E:Value->y04->Prop} {i:Nat} {x:Str} {v:V} {u:Value} {Q:Unit->y04->Prop} (I:Inv X pins σ H s) (hN:X.N.Nodup) (hi:X.N[i]?=some x) (hx:Loc X.env.scope x) (r:RelV v u)
  (h:∀s',Inv X pins (σ.set i (some v)) H s'->Q () s') (hf:X.fn x=true\/X.env.scope.names.lookup x=some .local:=by first|exact .inl rfl|exact .inr rfl|assumption):y0u M A (storeName X.env x u) Q E s :=
 z8g I hN hi hx r (fun s' I' _=>h s' I') hf
theorem Inv.call' {s':y04} {ch:List Addr} (I:Inv X pins σ H s) (ho:s'.os=s.os) (u:Un (frs X.stack) ch H H' s.heap s'.heap) (hok:HOk X.prog X.w H' s'.heap) (hg:AllBare s'.gens)
  (hch:∀b∈ch,(b∈X.ex\/X.s₀.heap.objs.size<=b)/\b≠X.env.locals/\(∀x c,X.env.cells.lookup x=some c->c≠b)/\∀p∈X.pn++pins,p.1≠b):Inv X pins σ H' s':=by
 obtain⟨h',g',d',t',o'⟩:=s'
 have e:o'=s.os:=ho
 subst e
 exact I.call (g':=g') (t':=t') (d':=d') u hok hg hch
end
abbrev XK:=Value->Option Addr->Hp->Prop
abbrev St:=List (Option V)
abbrev VK:=V->Hp->Prop
abbrev TE:=St->Hp->VK->Prop
abbrev TT:=St->Hp->(Bool->Hp->Prop)->Prop
abbrev TA:=St->Hp->(List V->Hp->Prop)->Prop
structure Ends where
 nx:St->Hp->Prop
 rt:VK
 bk:St->Hp->Prop:=fun _ _=>False
 ct:St->Hp->Prop:=fun _ _=>False
abbrev TS:=Ends->St->Hp->Prop
def EP (X:Cx) (pins:List (Addr×Obj)) (σ:St) (Q:VK) (u:Value) (s':y04):Prop:=∃v H',Inv X pins σ H' s'/\RelV v u/\Q v H'
def TP (X:Cx) (pins:List (Addr×Obj)) (σ:St) (Q:Bool->Hp->Prop) (b:Bool) (s':y04):Prop:=∃H',Inv X pins σ H' s'/\Q b H'
def AP (X:Cx) (pins:List (Addr×Obj)) (σ:St) (Q:List V->Hp->Prop) (us:List Value) (s':y04):Prop:=∃vs H',Inv X pins σ H' s'/\Vals vs us/\Q vs H'
noncomputable def SP (X:Cx) (pins:List (Addr×Obj)) (D:Ends) (f:Flow) (s':y04):Prop :=
 match f with
 | .next=>∃σ' H',Inv X pins σ' H' s'/\D.nx σ' H'
 | .brk=>∃σ' H',Inv X pins σ' H' s'/\D.bk σ' H'
 | .cont=>∃σ' H',Inv X pins σ' H' s'/\D.ct σ' H'
 | .ret u=>∃v σ' H',Inv X pins σ' H' s'/\RelV v u/\D.rt v H'
noncomputable def PE (X:Cx) (e:Expr) (t:TE):Prop :=
 ∀(pins:List (Addr×Obj)) (s:y04) (σ:St) (H:Hp) (Q:VK),Inv X pins σ H s->t σ H Q->y0u (model X.prog X.w) X.A (eval e X.env) (EP X pins σ Q) X.xe s
noncomputable def PT (X:Cx) (e:Expr) (t:TT):Prop :=
 ∀(pins:List (Addr×Obj)) (s:y04) (σ:St) (H:Hp) (Q:Bool->Hp->Prop),Inv X pins σ H s->t σ H Q->y0u (model X.prog X.w) X.A (isTrue e X.env (eval e X.env)) (TP X pins σ Q) X.xe s
noncomputable def PW (X:Cx) (e:Expr) (t:TT):Prop :=
 ∀(whole:Sem Value) (pins:List (Addr×Obj)) (s:y04) (σ:St) (H:Hp) (Q:Bool->Hp->Prop),Inv X pins σ H s->t σ H Q->y0u (model X.prog X.w) X.A (isTrue e X.env whole) (TP X pins σ Q) X.xe s
theorem PW.pt {X:Cx} {e:Expr} {t:TT} (h:PW X e t):PT X e t:=h _
noncomputable def PA (X:Cx) (es:List Expr) (t:TA):Prop :=
 ∀(pos:Pos) (pins:List (Addr×Obj)) (s:y04) (σ:St) (H:Hp) (Q:List V->Hp->Prop),Inv X pins σ H s->t σ H Q->y0u (model X.prog X.w) X.A (spliced (backTo pos (y0a es X.env))) (AP X pins σ Q) X.xe s
noncomputable def PS (X:Cx) (st:Stmt) (t:TS):Prop :=
 ∀(pins:List (Addr×Obj)) (s:y04) (σ:St) (H:Hp) (D:Ends),Inv X pins σ H s->t D σ H->y0u (model X.prog X.w) X.A (exec st X.env) (SP X pins D) X.xe s
noncomputable def PSs (X:Cx) (st:List Stmt) (t:TS):Prop :=
 ∀(pins:List (Addr×Obj)) (s:y04) (σ:St) (H:Hp) (D:Ends),Inv X pins σ H s->t D σ H->y0u (model X.prog X.w) X.A (execs st X.env) (SP X pins D) X.xe s
theorem thn {α:Type} {t:Sem α} {Q Q':α->y04->Prop} {M:Model} {A:Around} {E:Value->y04->Prop} {s:y04} (h:y0u M A t Q E s) (hQ:∀a s,Q a s->Q' a s):y0u M A t Q' E s:=y1b h hQ fun _ _ x=>x
end L2
namespace L2
open PySem PySem.Spec PyProof.Rows
section
variable {X:Cx}
def tVar (i:Nat):TE:=fun σ H Q=>∃v,σ[i]?=some (some v)/\Q v H
def tC (v:V):TE:=fun _ H Q=>Q v H
theorem zml {i:Nat} {x:Str} {pos:Pos} (hN:X.N[i]?=some x) (hv:Vis X.env.scope x) (hd:(x == ("__debug__":Str))=false:=by decide) (hcd:(x == ("__classdict__":Str))=false:=by decide):PE X (.Name x pos) (tVar i):=by
 intro pins s σ H Q I h
 obtain⟨v,e,h⟩:=h
 obtain⟨m,hn,hl⟩:=I.loc
 obtain⟨u,r,l⟩:=hl i x v hN e hv
 have fin:EP X pins σ Q u s:=⟨v,H,I,r,h⟩
 rcases l with ⟨hk,hm⟩|⟨hk,c,hc,hcell⟩
 ·exact wpAny_Name (wpAny_loadName_local I.ok.kind hk hn hm fin) hd
 ·rcases hk with hk|hk
  ·exact wpAny_Name (wpAny_loadName_cell I.ok.kind hk hc hcell fin) hd
  ·exact wpAny_Name (wpAny_loadName_free I.ok.kind hk hc hcell fin hcd) hd
theorem zem {i j pos}:PE X (.Constant (.int i) j pos) (tC (.int i)):=fun _ _ _ H _ I h=>wpAny_Constant_int ⟨.int i,H,I.tok _,⟨_,rfl⟩,h⟩
theorem zkn {b j pos}:PE X (.Constant (.bool b) j pos) (tC (.bl b)):=fun _ _ _ H _ I h=>Constant_bool ⟨.bl b,H,I,rfl,h⟩
theorem zmn {j pos}:PE X (.Constant .none j pos) (tC .non):=fun _ _ _ H _ I h=>Constant_none ⟨.non,H,I,rfl,h⟩
theorem z8y {x j pos}:PE X (.Constant (.str x) j pos) (tC (.str x)):=fun _ _ _ H _ I h=>Calls.Constant_str ⟨.str x,H,I.tok _,⟨_,rfl⟩,h⟩
def Gl (X:Cx) (x:Str):Prop:=X.env.kindOf x=some .globalImplicit
theorem z4p {E:Value->y04->Prop} {pins:List (Addr×Obj)} {s:y04} {σ:St} {H:Hp} {x:Str} {u:Value} {pos:Pos} {Q:Value->y04->Prop} (I:Inv X pins σ H s) (hg:Gl X x) (hm:X.mg x=some u) (h:Q u s)
  (hd:(x == ("__debug__":Str))=false:=by decide):y0u (model X.prog X.w) X.A (eval (.Name x pos) X.env) Q E s :=
 Calls.Name_function_global I.ok.kind hg (Calls.loadGlobal_global (by rw[I.ok.glob];exact I.mod.glob.keeps I.bk) hm h) hd
theorem z52 {E:Value->y04->Prop} {pins:List (Addr×Obj)} {s:y04} {σ:St} {H:Hp} {x:Str} {u:Value} {pos:Pos} {Q:Value->y04->Prop} (I:Inv X pins σ H s) (hg:Gl X x) (hm:X.mg x=none) (hv:bootBuiltins x=some u) (h:Q u s)
  (hn:x≠"__name__":=by decide) (hd:(x == ("__debug__":Str))=false:=by decide):y0u (model X.prog X.w) X.A (eval (.Name x pos) X.env) Q E s:=by
 obtain⟨mb,h1,h2⟩:=I.mod.blt
 exact Calls.Name_function_global I.ok.kind hg (Calls.loadGlobal_builtin (by rw[I.ok.glob];exact I.mod.glob.keeps I.bk) hm (by rw[I.ok.blt];exact h1.keeps I.bk) ((h2 x hn).trans hv) h) hd
theorem z5p {x:Str} {v:V} {u:Value} {pos:Pos} (hg:Gl X x) (hm:X.mg x=some u) (r:RelV v u) (hd:(x == ("__debug__":Str))=false:=by decide):PE X (.Name x pos) (tC v) :=
 fun _ _ _ H _ I h=>z4p I hg hm ⟨v,H,I,r,h⟩ hd
theorem zkm {x:Str} {v:V} {u:Value} {pos:Pos} (hg:Gl X x) (hm:X.mg x=none) (hv:bootBuiltins x=some u) (r:RelV v u) (hn:x≠"__name__":=by decide) (hd:(x == ("__debug__":Str))=false:=by decide):PE X (.Name x pos) (tC v) :=
 fun _ _ _ H _ I h=>z52 I hg hm hv ⟨v,H,I,r,h⟩ hn hd
variable {a b:Expr} {ta tb:TE} {pos:Pos}
noncomputable def PC (X:Cx) (op:CmpOp) (a b:Expr) (t:TE):Prop :=
 ∀(pins:List (Addr×Obj)) (s:y04) (σ:St) (H:Hp) (Q:VK),Inv X pins σ H s->t σ H Q ->
  y0u (model X.prog X.w) X.A (eval a X.env) (fun v s₁=>y0u (model X.prog X.w) X.A (eval b X.env) (fun u s₂=>y0u (model X.prog X.w) X.A (compareOp op v u) (EP X pins σ Q) X.xe s₂) X.xe s₁) X.xe s
theorem zhy (b:Expr) {op:CmpOp} (h:op≠.In) (h2:op≠.NotIn):behindInMarks op b=false:=by
 have e1:(op == CmpOp.In)=false:=by cases op <;> first|rfl|exact absurd rfl h
 have e2:(op == CmpOp.NotIn)=false:=by cases op <;> first|rfl|exact absurd rfl h2
 cases b <;> simp[behindInMarks,e1,e2]
def tIsN (ta:TE):TE:=fun σ H Q=>ta σ H fun x H1=>Q (.bl (decide (x=.non))) H1
def zo4 (ta:TE):TE:=fun σ H Q=>ta σ H fun x H1=>Q (.bl (!decide (x=.non))) H1
theorem RelV.none_iff {x:V} {v:Value} (r:RelV x v):(v == Value.none)=decide (x=.non):=by
 cases x with
 | non=>cases r;rfl
 | bl _=>cases r;rfl
 | int _=>obtain⟨t,rfl⟩:=r;rfl
 | str _=>obtain⟨t,rfl⟩:=r;rfl
 | byt _=>obtain⟨t,rfl⟩:=r;rfl
 | flt _=>obtain⟨t,rfl⟩:=r;rfl
 | ref _=>cases r;rfl
 | ty _=>cases r;rfl
theorem zmo {j pos'} (ha:PE X a ta):PC X .Is a (.Constant .none j pos') (tIsN ta):=by
 intro pins s σ H Q I h
 refine thn (ha pins s σ H _ I h) fun v s1 ⟨x,H1,I1,r1,q1⟩=>?_
 exact Constant_none (is_none_gen ⟨.bl _,H1,I1,by rw[r1.none_iff];rfl,q1⟩)
theorem zko {j pos'} (ha:PE X a ta):PC X .IsNot a (.Constant .none j pos') (zo4 ta):=by
 intro pins s σ H Q I h
 refine thn (ha pins s σ H _ I h) fun v s1 ⟨x,H1,I1,r1,q1⟩=>?_
 exact Constant_none (isnot_none_gen ⟨.bl _,H1,I1,by rw[r1.none_iff];rfl,q1⟩)
def tB (t:TE):TT:=fun σ H Q=>t σ H fun x H1=>∃c,x=.bl c/\Q c H1
theorem zef {op:CmpOp} {t:TE} (h:PC X op a b t) (h1:behindInMarks op b=false:=by first|exact zhy _ (by decide) (by decide)|rfl):PT X (.Compare a [op] [b] pos) (tB t):=by
 intro pins s σ H Q I hw
 refine wpAny_isTrue_Compare1 (thn (h pins s σ H _ I hw) fun v s1 h1=>thn h1 fun u s2 h2=>thn h2 fun c s3 ⟨x,H1,I1,r1,q1⟩=>?_) h1
 obtain⟨d,rfl,q⟩:=q1
 cases r1
 exact wpAny_truthy_bool ⟨H1,I1,q⟩
theorem zmd {e:Expr} {t:TE} (h:PE X e t) (he:∀whole,isTrue e X.env whole=(do let v <- whole;standAt e.pos;holding [v] (truthy v)):=by intro _;rfl):PT X e (tB t):=by
 intro pins s σ H Q I hw
 refine isTrue_plain (thn (h pins s σ H _ I hw) fun v s1 ⟨x,H1,I1,r1,q1⟩=>?_) (he _)
 obtain⟨d,rfl,q⟩:=q1
 cases r1
 exact wpAny_truthy_bool ⟨H1,I1,q⟩
variable {tA tB':TT} {rest:List Expr}
def tAnd (t u:TT):TT:=fun σ H Q=>t σ H fun c H1=>if c=true then u σ H1 Q else Q false H1
def tOr (t u:TT):TT:=fun σ H Q=>t σ H fun c H1=>if c=true then Q true H1 else u σ H1 Q
def tNot (t:TT):TT:=fun σ H Q=>t σ H fun c H1=>Q (!c) H1
theorem zed (ha:PT X a tA):PW X (.BoolOp .And [a] pos) tA:=by
 intro wh pins s σ H Q I h
 refine isTrue_and (thn (ha pins s σ H Q I h) fun c s1 e=>?_)
 cases c with
 | true=>exact isTrue_and_nil e
 | false=>exact e
theorem zmc (ha:PT X a tA):PW X (.BoolOp .Or [a] pos) tA:=by
 intro wh pins s σ H Q I h
 refine isTrue_or (thn (ha pins s σ H Q I h) fun c s1 e=>?_)
 cases c with
 | false=>exact isTrue_or_nil e
 | true=>exact e
theorem zj8 (ha:PT X a tA) (hb:PW X (.BoolOp .And (b::rest) pos) tB'):PW X (.BoolOp .And (a::b::rest) pos) (tAnd tA tB'):=by
 intro wh pins s σ H Q I h
 refine isTrue_and (thn (ha pins s σ H _ I h) fun c s1 ⟨H1,I1,q1⟩=>?_)
 cases c with
 | true=>exact hb wh pins s1 σ H1 Q I1 q1
 | false=>exact⟨H1,I1,q1⟩
theorem zok (ha:PT X a tA) (hb:PW X (.BoolOp .Or (b::rest) pos) tB'):PW X (.BoolOp .Or (a::b::rest) pos) (tOr tA tB'):=by
 intro wh pins s σ H Q I h
 refine isTrue_or (thn (ha pins s σ H _ I h) fun c s1 ⟨H1,I1,q1⟩=>?_)
 cases c with
 | true=>exact⟨H1,I1,q1⟩
 | false=>exact hb wh pins s1 σ H1 Q I1 q1
theorem zme (ha:PT X a tA):PT X (.UnaryOp .Not a pos) (tNot tA):=by
 intro pins s σ H Q I h
 exact isTrue_not (ha pins s σ H (fun c H1=>Q (!c) H1) I h)
end
end L2
namespace L2
open PySem PySem.Spec PyProof.Rows
noncomputable def SqL (K:y00) (H:Hp) (a:Addr) (xs:List V):Prop :=
 Rd H a (.lst xs) \/
  ∃(o:Obj) (its:Array Value) (n:Nat),K.lookup a=some o/\o.cls=.type "list"/\o.dict=none/\o.data=.seq its n/\its.size<=y0j/\Vals xs its.toList
noncomputable def SqT (K:y00) (H:Hp) (a:Addr) (xs:List V):Prop :=
 Rd H a (.tup xs) \/
  ∃(o:Obj) (its:Array Value) (n:Nat),K.lookup a=some o/\o.cls=.type "tuple"/\o.data=.seq its n/\its.size<=y0j/\Vals xs its.toList
noncomputable def absV:Value->Option V
 | .none=>some .non
 | .bool b=>some (.bl b)
 | .int i _=>some (.int i)
 | .str x _=>some (.str x)
 | .bytes b _=>some (.byt b)
 | .float b _=>some (.flt b)
 | .ref a=>some (.ref a)
 | .type n=>some (.ty n)
 | _=>none
theorem RelV.abs {x:V} {u:Value} (r:RelV x u):absV u=some x:=by
 cases x with
 | non=>cases r;rfl
 | bl _=>cases r;rfl
 | int _=>obtain⟨t,rfl⟩:=r;rfl
 | str _=>obtain⟨t,rfl⟩:=r;rfl
 | byt _=>obtain⟨t,rfl⟩:=r;rfl
 | flt _=>obtain⟨t,rfl⟩:=r;rfl
 | ref _=>cases r;rfl
 | ty _=>cases r;rfl
theorem RelV.inj {x y:V} {u:Value} (r:RelV x u) (q:RelV y u):x=y:=y27 (r.abs.symm.trans q.abs)
theorem Vals.inj:∀{xs ys:List V} {us:List Value},Vals xs us->Vals ys us->xs=ys
 | _,_,_,.nil,.nil=>rfl
 | _,_,_,.cons r t,.cons r' t'=>by rw[r.inj r',Vals.inj t t']
section
variable {X:Cx} {pins:List (Addr×Obj)} {σ:St} {H:Hp} {s:y04} {a:Addr} {xs ys:List V}
theorem SqL.of {K:y00} (h:H a=some (.lst xs)):SqL K H a xs:=.inl (.inl h)
theorem SqT.of {K:y00} (h:H a=some (.tup xs)):SqT K H a xs:=.inl (.inl h)
theorem Inv.list (I:Inv X pins σ H s) (h:SqL X.K H a xs):∃its:List Value,Vals xs its/\PlainL s.heap a its.toArray/\xs.length<=y0j:=by
 rcases h with h|⟨o,its,n,hk,hc,hd,hs,hz,r⟩
 ·obtain⟨z,its,n,r,e⟩:=h.ok I.hok
  exact⟨its,r,⟨_,n,e,rfl,rfl,rfl⟩,z⟩
 ·refine⟨its.toList,r,⟨o,n,I.kIn a o hk,hc,hd,by simpa using hs⟩,?_⟩
  have e:=r.length
  simp only[y1u] at e
  omega
theorem Inv.tuple (I:Inv X pins σ H s) (h:SqT X.K H a xs):∃its:List Value,Vals xs its/\IsTup s.heap a its.toArray/\xs.length<=y0j:=by
 rcases h with h|⟨o,its,n,hk,hc,hs,hz,r⟩
 ·obtain⟨z,its,r,p⟩:=h.ok I.hok
  exact⟨its,r,p,z⟩
 ·refine⟨its.toList,r,⟨o,I.kIn a o hk,hc,n,by simpa using hs⟩,?_⟩
  have e:=r.length
  simp only[y1u] at e
  omega
theorem Inv.list_inj (I:Inv X pins σ H s) (h:SqL X.K H a xs) (h':SqL X.K H a ys):xs=ys:=by
 obtain⟨its,r,⟨o,n,e,_,_,d⟩,_⟩:=I.list h
 obtain⟨its',r',⟨o',n',e',_,_,d'⟩,_⟩:=I.list h'
 rw[e] at e';cases e'
 rw[d] at d'
 injection d' with d1 _
 have:its=its':=by simpa using congrArg Array.toList d1
 subst this
 exact r.inj r'
theorem Inv.tuple_inj (I:Inv X pins σ H s) (h:SqT X.K H a xs) (h':SqT X.K H a ys):xs=ys:=by
 obtain⟨its,r,⟨o,e,_,n,d⟩,_⟩:=I.tuple h
 obtain⟨its',r',⟨o',e',_,n',d'⟩,_⟩:=I.tuple h'
 rw[e] at e';cases e'
 rw[d] at d'
 injection d' with d1 _
 have:its=its':=by simpa using congrArg Array.toList d1
 subst this
 exact r.inj r'
end
abbrev Cx.wish (X:Cx) (E:Value->y04->Prop):Cx:={ X with xe:=E }
abbrev Cx.nox (X:Cx):Cx:=X.wish fun _ _=>False
theorem Cx.Ok.wish {X:Cx} (ok:X.Ok) (E:Value->y04->Prop):(X.wish E).Ok :=
 ⟨ok.mod,ok.kind,ok.glob,ok.blt,ok.above,ok.inj,ok.has,ok.cab,ok.hd,ok.frames,ok.stk,ok.exf,ok.bs,ok.bsz,ok.noex,ok.exfs,ok.funs,ok.frf⟩
theorem Cx.Ok.unwish {X:Cx} {E:Value->y04->Prop} (ok:(X.wish E).Ok):X.Ok :=
 ⟨ok.mod,ok.kind,ok.glob,ok.blt,ok.above,ok.inj,ok.has,ok.cab,ok.hd,ok.frames,ok.stk,ok.exf,ok.bs,ok.bsz,ok.noex,ok.exfs,ok.funs,ok.frf⟩
section
variable {X:Cx} {pins:List (Addr×Obj)} {σ:St} {H:Hp} {s:y04} {E:Value->y04->Prop}
theorem Inv.wish (I:Inv X pins σ H s) (E:Value->y04->Prop):Inv (X.wish E) pins σ H s:=⟨I.ok.wish E,I.os,I.bare,I.base,I.loc,I.cell,I.free,I.freeC,I.pin,I.hok,I.len⟩
theorem Inv.unwish (I:Inv (X.wish E) pins σ H s):Inv X pins σ H s:=⟨I.ok.unwish,I.os,I.bare,I.base,I.loc,I.cell,I.free,I.freeC,I.pin,I.hok,I.len⟩
theorem SP.unwish {D:Ends} {f:Flow} {s':y04} (h:SP (X.wish E) pins D f s'):SP X pins D f s':=by
 cases f with
 | next=>obtain⟨σ',H',I,q⟩:=h;exact⟨σ',H',I.unwish,q⟩
 | brk=>obtain⟨σ',H',I,q⟩:=h;exact⟨σ',H',I.unwish,q⟩
 | cont=>obtain⟨σ',H',I,q⟩:=h;exact⟨σ',H',I.unwish,q⟩
 | ret u=>obtain⟨v,σ',H',I,r,q⟩:=h;exact⟨v,σ',H',I.unwish,r,q⟩
theorem PE.nox {e:Expr} {t:TE} (h:PE X.nox e t):PE X e t:=fun pins s σ H Q I hw =>
 y1b (h pins s σ H Q (I.wish _) hw) (fun _ _ ⟨v,H',I',r,q⟩=>⟨v,H',I'.unwish,r,q⟩) fun _ _ z=>y1s z
theorem PT.nox {e:Expr} {t:TT} (h:PT X.nox e t):PT X e t:=fun pins s σ H Q I hw =>
 y1b (h pins s σ H Q (I.wish _) hw) (fun _ _ ⟨H',I',q⟩=>⟨H',I'.unwish,q⟩) fun _ _ z=>y1s z
theorem PSs.nox {st:List Stmt} {t:TS} (h:PSs X.nox st t):PSs X st t:=fun pins s σ H D I hw =>
 y1b (h pins s σ H D (I.wish _) hw) (fun _ _ q=>q.unwish) fun _ _ z=>y1s z
end
section
variable {X:Cx} {st:Stmt} {rest:List Stmt} {t u:TS} {e:Expr} {te:TE} {pos:Pos}
def zlv:TS:=fun D σ H=>D.nx σ H
def tSeq (t u:TS):TS:=fun D σ H=>t { D with nx:=u D } σ H
theorem zeg:PSs X [] zlv:=fun _ _ σ H _ I h=>wpAny_execs_nil ⟨σ,H,I,h⟩
theorem z2w (h1:PS X st t) (h2:PSs X rest u):PSs X (st::rest) (tSeq t u):=by
 intro pins s σ H D I h
 refine wpAny_execs_cons (thn (h1 pins s σ H { D with nx:=u D } I h) fun f s1 q=>?_)
 cases f with
 | next =>
  obtain⟨σ',H',I',q⟩:=q
  exact h2 pins s1 σ' H' D I' q
 | ret v=>exact q
 | brk=>exact q
 | cont=>exact q
theorem z41 (h1:PS X st t):PSs X [st] t:=by
 intro pins s σ H D I h
 refine wpAny_execs_cons (thn (h1 pins s σ H D I h) fun f s1 q=>?_)
 cases f with
 | next=>exact wpAny_execs_nil q
 | ret v=>exact q
 | brk=>exact q
 | cont=>exact q
theorem Inv.quiet {pins:List (Addr×Obj)} {σ:St} {H:Hp} {s:y04} (I:Inv X pins σ H s):interactive X.env=false:=by simp[interactive,I.ok.kind]
def zo5 (te:TE):TS:=fun D σ H=>te σ H fun _ H1=>D.nx σ H1
theorem zeh (he:PE X e te) (hs:swapsWith e none pos.line X.env=pure false:=by rfl):PS X (.Expr e pos) (zo5 te):=by
 intro pins s σ H D I h
 exact wpAny_Expr_any (thn (he pins s σ H _ I h) fun v s1 ⟨x,H1,I1,r1,q1⟩=>⟨σ,H1,I1,q1⟩) I.quiet hs
def tRet (te:TE):TS:=fun D σ H=>te σ H D.rt
theorem z8u (he:PE X e te):PS X (.Return (some e) pos) (tRet te):=by
 intro pins s σ H D I h
 exact wpAny_Return_some (thn (he pins s σ H _ I h) fun v s1 ⟨x,H1,I1,r1,q1⟩=>⟨x,σ,H1,I1,r1,q1⟩)
def tIfS (c:TT) (t u:TS):TS:=fun D σ H=>c σ H fun b H1=>if b=true then t D σ H1 else u D σ H1
theorem zhh {c:Expr} {a b:List Stmt} {tc:TT} (hc:PT X c tc) (ha:PSs X a t) (hb:PSs X b u):PS X (.If c a b pos) (tIfS tc t u):=by
 intro pins s σ H D I h
 refine wpAny_If (thn (hc pins s σ H _ I h) fun d s1 ⟨H1,I1,q1⟩=>?_)
 cases d with
 | true=>exact ha pins s1 σ H1 D I1 q1
 | false=>exact hb pins s1 σ H1 D I1 q1
end
abbrev TG:=V->St->Hp->(St->Hp->Prop)->Prop
abbrev TGs:=List V->St->Hp->(St->Hp->Prop)->Prop
noncomputable def PG (X:Cx) (target:Expr) (t:TG):Prop :=
 ∀(pins:List (Addr×Obj)) (s:y04) (σ:St) (H:Hp) (v:V) (u:Value) (Q:St->Hp->Prop),Inv X pins σ H s->RelV v u->t v σ H Q ->
  y0u (model X.prog X.w) X.A (assign target X.env u) (fun _ s'=>∃σ' H',Inv X pins σ' H' s'/\Q σ' H') X.xe s
noncomputable def PGs (X:Cx) (ts:List Expr) (t:TGs):Prop :=
 ∀(pins:List (Addr×Obj)) (s:y04) (σ:St) (H:Hp) (vs:List V) (us:List Value) (Q:St->Hp->Prop),Inv X pins σ H s->Vals vs us->t vs σ H Q ->
  y0u (model X.prog X.w) X.A (assignInOrder ((assignEach ts X.env).map (·.2)) us) (fun _ s'=>∃σ' H',Inv X pins σ' H' s'/\Q σ' H') X.xe s
section
variable {X:Cx} {pos:Pos}
def z9d (i:Nat):TG:=fun v σ H Q=>Q (σ.set i (some v)) H
theorem zki {i:Nat} {x:Str} (hN:X.N.Nodup) (hi:X.N[i]?=some x) (hx:Loc X.env.scope x) (hf:X.fn x=true\/X.env.scope.names.lookup x=some .local:=by first|exact .inl rfl|exact .inr rfl|assumption):PG X (.Name x pos) (z9d i):=by
 intro pins s σ H v u Q I r h
 exact wpAny_assign_Name (z7l I hN hi hx r (fun s' I'=>⟨_,H,I',h⟩) hf)
def gNil:TGs:=fun vs σ H Q=>vs=[]/\Q σ H
def zos (t:TG) (u:TGs):TGs:=fun vs σ H Q=>∃v r,vs=v::r/\t v σ H fun σ' H'=>u r σ' H' Q
theorem zkh:PGs X [] gNil:=by
 intro pins s σ H vs us Q I r h
 obtain⟨e,h⟩:=h
 subst e
 cases r
 exact assignInOrder_nil ⟨σ,H,I,h⟩
theorem zhj {e:Expr} {es:List Expr} {t:TG} {u:TGs} (h1:PG X e t) (h2:PGs X es u)
  (hs:(assignEach (e::es) X.env).map (·.2)=assign e X.env::(assignEach es X.env).map (·.2):=by rfl):PGs X (e::es) (zos t u):=by
 intro pins s σ H vs us Q I r h
 obtain⟨v,vr,e1,h⟩:=h
 subst e1
 cases r with
 | cons r rr =>
  rw[hs]
  refine assignInOrder_cons (thn (h1 pins s σ H _ _ _ I r h) fun _ s1 ⟨σ1,H1,I1,q1⟩=>?_)
  exact h2 pins s1 σ1 H1 _ _ Q I1 rr q1
def gTup (K:y00) (n:Nat) (t:TGs):TG:=fun v σ H Q=>∃a xs,v=.ref a/\SqT K H a xs/\xs.length=n/\t xs σ H Q
theorem zmk {es:List Expr} {k:Nat} {t:TGs} {n:Nat} (hc:X.calm=true) (h:PGs X es t)
  (hn:(assignEach es X.env).length=n:=by rfl) (hst:(assignEach es X.env).findIdx? (·.1)=none:=by rfl):PG X (.Tuple es k pos) (gTup X.K n t):=by
 intro pins s σ H v u Q I r hw
 obtain⟨a,xs,e1,hq,hl,hw⟩:=hw
 subst e1
 cases r
 obtain⟨its,rv,ht,hz⟩:=I.tuple hq
 refine assign_Tuple_tuple (I.ok.hd hc) ht (by simp[hn,<- hl,rv.length]) hst fun h' hx=>?_
 have I1:Inv X pins σ H { s with heap:=h' }:=I.kept (t':=s.toks) fun b o e=>hx b o (y0y (y0c e)) e
 exact h pins _ σ H xs _ Q I1 (by simpa using rv) hw
def tAsg (te:TE) (g:TG):TS:=fun D σ H=>te σ H fun x H1=>g x σ H1 D.nx
theorem zmh {tg e:Expr} {te:TE} {g:TG} (he:PE X e te) (hg:PG X tg g) (hs:swapsWithSole [tg] e pos.line X.env=pure false:=by rfl) (hw:swappedStores [tg] e X.env=pure none:=by rfl)
  (h1:(assignEach [tg] X.env).map (·.2)=[assign tg X.env]:=by rfl):PS X (.Assign [tg] e pos) (tAsg te g):=by
 intro pins s σ H D I h
 refine wpAny_Assign_stores (thn (he pins s σ H _ I h) fun v s1 ⟨x,H1,I1,r1,q1⟩=>?_) hs hw
 rw[h1]
 exact thn (hg pins s1 σ H1 x v _ I1 r1 q1) fun _ s2 q=>q
theorem z4c {i:Nat} {x:Str} {e:Expr} {te:TE} {pos':Pos} (hN:X.N.Nodup) (hi:X.N[i]?=some x) (hx:Loc X.env.scope x) (he:PE X e te) (hs:swapsWith e (some (.Name x pos')) pos.line X.env=pure false:=by rfl) (hf:X.fn x=true\/X.env.scope.names.lookup x=some .local:=by first|exact .inl rfl|exact .inr rfl|assumption) :
  PS X (.Assign [.Name x pos'] e pos) (tAsg te (z9d i)):=by
 intro pins s σ H D I h
 refine wpAny_Assign_Name (thn (he pins s σ H _ I h) fun v s1 ⟨y,H1,I1,r1,q1⟩=>?_) hs
 exact z7l I1 hN hi hx r1 (fun s2 I2=>⟨_,H1,I2,q1⟩) hf
end
section
variable {X:Cx} {pos:Pos}
noncomputable def zlt (c:TT) (tb:TS):TS:=fun D σ H=>∃W:Nat->St->Hp->Prop,(∃m,W m σ H)/\∀m σ H,W m σ H ->
 c σ H fun b H1=>if b=true then ∃N:St->Hp->Prop,(∀σ' H',N σ' H'->∃m',m'<m/\W m' σ' H')/\tb { D with nx:=N,ct:=N,bk:=D.nx } σ H1 else D.nx σ H1
theorem zhf {c:Expr} {body:List Stmt} {tc:TT} {tb:TS} (hp:PassesOwn (model X.prog X.w) X.A X.env X.xe) (hc:PT X c tc) (hb:PSs X body tb):PS X (.While c body [] pos) (zlt tc tb):=by
 intro pins s σ H D I h
 obtain⟨W,⟨m0,w0⟩,turn⟩:=h
 refine wpAny_While (codeAny_whileLoop (fun n s'=>∃σ' H',Inv X pins σ' H' s'/\W n σ' H') ?_ m0 ⟨σ,H,I,w0⟩)
 rintro n s1 ⟨σ1,H1,I1,w1⟩
 refine wpAny_passesOwn hp (thn (hc pins s1 σ1 H1 _ I1 (turn n σ1 H1 w1)) fun b s2 ⟨H2,I2,q2⟩=>?_)
 cases b with
 | true =>
  obtain⟨N,hN,q2⟩:=q2
  rw[if_pos rfl]
  refine wpAny_passesOwn hp (thn (hb pins s2 σ1 H2 _ I2 q2) fun f s3 q3=>?_)
  cases f with
  | next =>
   obtain⟨σ3,H3,I3,n3⟩:=q3
   obtain⟨m',hm,w3⟩:=hN σ3 H3 n3
   exact⟨m',hm,σ3,H3,I3,w3⟩
  | cont =>
   obtain⟨σ3,H3,I3,n3⟩:=q3
   obtain⟨m',hm,w3⟩:=hN σ3 H3 n3
   exact⟨m',hm,σ3,H3,I3,w3⟩
  | brk=>exact q3
  | ret v=>exact q3
 | false =>
  rw[if_neg y1y]
  exact wpAny_execs_nil ⟨σ1,H2,I2,q2⟩
end
structure It where
 go:Nat->Hp->Prop
 yld:Nat->Hp->V->Hp->Prop
 stop:Nat->Hp->Prop
noncomputable def FpOk (X:Cx) (pins:List (Addr×Obj)) (H:Hp) (b:Addr):Prop :=
 H b=none/\b≠X.env.locals/\b∉X.fs/\(b∈X.ex\/X.s₀.heap.objs.size<=b)/\(∀x c,X.env.cells.lookup x=some c->c≠b)/\∀p∈X.pn++pins,p.1≠b
theorem Inv.fpOk {X:Cx} {pins:List (Addr×Obj)} {σ:St} {H H':Hp} {s:y04} {b:Addr} (I:Inv X pins σ H s) (hb:s.heap.objs.size<=b) (hn:H' b=none):FpOk X pins H' b:=by
 refine⟨hn,y14 (y0x I.lt hb),I.nofs hb,.inr (y1k I.sz hb),fun x c e z=>?_,fun p hp z=>?_⟩
 ·obtain⟨v,q⟩:=I.cell x c e
  exact absurd (y0x q.lt (by rw[z];exact hb)) (Nat.lt_irrefl _)
 ·exact absurd (y0x (y0c (I.pin p hp).1) (by rw[z];exact hb)) (Nat.lt_irrefl _)
structure Turn (P:y0q) (w:World) (K:y00) (tg:Expr) (J:It) (fp:List Addr) (it:Addr) (tn:Nat->Heap->Prop):Prop where
 mem:it∈fp
 obj:∀i h,tn i h->∀b∈fp,∃o,h.get? b=some o/\∀v,o.data≠.cell v
 keep:∀i h h',tn i h->(∀b∈fp,∀o,h.get? b=some o->h'.get? b=some o)->tn i h'
 item:∀(X:Cx),X.prog=P->X.w=w->X.K=K->X.calm=true->∀(i:Nat) (pins:List (Addr×Obj)) (s:y04) (σ:St) (H:Hp) (E:Value->y04->Prop),Inv X pins σ H s->(∀b∈fp,FpOk X pins H b)->tn i s.heap->J.go i H ->
  y0u (model P w) X.A (pyNext (.ref it)) (fun r s1=>∃u,r=some u /\
   y0u (model P w) X.A (letOwnedTupleGo tg (.ref it) u) (fun _ s2=>∃x H',Inv X pins σ H' s2/\RelV x u/\J.yld i H x H'/\tn (i+1) s2.heap/\∀b∈fp,H' b=none) E s1) E s
 done:∀(X:Cx),X.prog=P->X.w=w->X.K=K->X.calm=true->∀(i:Nat) (pins:List (Addr×Obj)) (s:y04) (σ:St) (H:Hp) (E:Value->y04->Prop),Inv X pins σ H s->(∀b∈fp,FpOk X pins H b)->tn i s.heap->J.stop i H ->
  y0u (model P w) X.A (pyNext (.ref it)) (fun r s1=>r=none/\Inv X pins σ H s1) E s
 self:∀(A:Around) (i:Nat) (s:y04) (Q:Value->y04->Prop) (E:Value->y04->Prop),tn i s.heap->Q (.ref it) s->y0u (model P w) A (pyIter (.ref it)) Q E s
abbrev TI:=St->Hp->(It->Hp->Prop)->Prop
noncomputable def PIE (X:Cx) (pins:List (Addr×Obj)) (σ:St) (tg:Expr) (R:It->Hp->Prop) (itv:Value) (s2:y04):Prop :=
 ∃(it:Addr) (fp:List Addr) (tn:Nat->Heap->Prop) (J:It) (H':Hp),itv=.ref it/\Inv X pins σ H' s2/\Turn X.prog X.w X.K tg J fp it tn/\tn 0 s2.heap/\(∀b∈fp,FpOk X pins H' b)/\R J H'
noncomputable def PI (X:Cx) (tg iter:Expr) (wi:TI):Prop :=
 ∀(pins:List (Addr×Obj)) (s:y04) (σ:St) (H:Hp) (R:It->Hp->Prop),Inv X pins σ H s->wi σ H R ->
  y0u (model X.prog X.w) X.A (eval iter X.env) (fun v s1=>y0u (model X.prog X.w) X.A (pyIter v) (PIE X pins σ tg R) X.xe s1) X.xe s
theorem zl4 {M:Model} {A:Around} {E:Value->y04->Prop} {s:y04} {tg:Expr} {it:Addr} {u:Value} {o:Obj} {n:String} {vs:Array Value} {Q:Unit->y04->Prop} (ho:s.heap.get? it=some o) (hc:o.cls=.type n) (hd:o.data=.fields vs)
    (hn:["enumerate","zip","dict_itemiterator","dict_reverseitemiterator","odict_iterator","itertools.zip_longest","itertools.pairwise"].contains n=false) (hQ:Q () s):y0u M A (letOwnedTupleGo tg (.ref it) u) Q E s:=by
  unfold letOwnedTupleGo
  cases tg <;> first
    | exact y06 hQ
    | (cases u <;> first
        | exact y06 hQ
        | (refine y02 (wpAny_load ho ?_)
           rw[hc,hd]
           show y0u M A (if (["enumerate","zip","dict_itemiterator","dict_reverseitemiterator","odict_iterator","itertools.zip_longest","itertools.pairwise"].contains n && vs[0]? == some (rawInt _))=true then _ else _) Q E s
           rw[if_neg (by intro h;rw[hn,Bool.false_and] at h;cases h)]
           exact y06 hQ))
noncomputable def Itl (K:y00) (a:Addr):It :=
 ⟨fun i H=>∃xs x,SqL K H a xs/\xs[i]?=some x,fun i H x H'=>H'=H/\∀xs,SqL K H a xs->xs[i]?=some x,fun i H=>∃xs,SqL K H a xs/\xs.length<=i⟩
noncomputable def Itt (K:y00) (a:Addr):It :=
 ⟨fun i H=>∃xs x,SqT K H a xs/\xs[i]?=some x,fun i H x H'=>H'=H/\∀xs,SqT K H a xs->xs[i]?=some x,fun i H=>∃xs,SqT K H a xs/\xs.length<=i⟩
def Itr (lo:Int) (n:Nat):It:=⟨fun i _=>i<n,fun i H x H'=>H'=H/\x=.int (lo+i),fun i _=>n<=i⟩
theorem zdi {P:y0q} {w:World} {K:y00} {tg:Expr} (a it:Addr):Turn P w K tg (Itl K a) [it] it (fun i h=>h.IsListIter it a i) where
 mem:=by simp
 obj:=fun i h st b hb=>by
  have e:b=it:=by simpa using hb
  subst e
  obtain⟨o,e,c,d⟩:=st
  exact⟨o,e,fun v z=>by rw[d] at z;cases z⟩
 keep:=fun i h h' st k=>st.at fun o e=>k it (by simp) o e
 item:=by
  intro X hP hw hK hc i pins s σ H E I hf st hg
  subst hP hw hK
  obtain⟨xs,x,hq,hx⟩:=hg
  obtain⟨its,rv,p,hz⟩:=I.list hq
  obtain⟨u,hu,ru⟩:=rv.get hx
  obtain⟨f0,f1,f2,f3,f4,f5⟩:=hf it (by simp)
  refine wpAny_pyNext_list_item st p.isList (x:=u) (by simpa using hu) fun h' st' sb=>?_
  have I1:Inv X pins σ H { s with heap:=h' }:=I.turned (t':=s.toks) (fun b o hb e=>(sb.2 b hb).trans e) f0 f1 f3 f4 f5
  obtain⟨o,e,c,d⟩:=id st'
  exact⟨u,rfl,zl4 (s:={ s with heap:=h' }) e c d (by decide) ⟨x,H,I1,ru,⟨rfl,fun ys hy=>by rw[I.list_inj hy hq];exact hx⟩,st',fun b hb=>(hf b hb).1⟩⟩
 done:=by
  intro X hP hw hK hc i pins s σ H E I hf st hg
  subst hP hw hK
  obtain⟨xs,hq,hx⟩:=hg
  obtain⟨its,rv,p,hz⟩:=I.list hq
  obtain⟨f0,f1,f2,f3,f4,f5⟩:=hf it (by simp)
  have hl:=rv.length
  exact wpAny_pyNext_list_end (I.ok.hd hc) st p.isList (by simp;omega) fun h' eb=>⟨rfl,I.turned (t':=s.toks) (fun b o hb e=>eb b o hb e) f0 f1 f3 f4 f5⟩
 self:=fun _ _ _ _ _ st h=>wpAny_pyIter_listiter st h
theorem zco {P:y0q} {w:World} {K:y00} {tg:Expr} (a it:Addr):Turn P w K tg (Itt K a) [it] it (fun i h=>h.IsTupleIter it a i) where
 mem:=by simp
 obj:=fun i h st b hb=>by
  have e:b=it:=by simpa using hb
  subst e
  obtain⟨o,e,c,d⟩:=st
  exact⟨o,e,fun v z=>by rw[d] at z;cases z⟩
 keep:=fun i h h' st k=>st.at fun o e=>k it (by simp) o e
 item:=by
  intro X hP hw hK hc i pins s σ H E I hf st hg
  subst hP hw hK
  obtain⟨xs,x,hq,hx⟩:=hg
  obtain⟨its,rv,p,hz⟩:=I.tuple hq
  obtain⟨u,hu,ru⟩:=rv.get hx
  obtain⟨f0,f1,f2,f3,f4,f5⟩:=hf it (by simp)
  refine wpAny_pyNext_tuple_item st (show s.heap.IsTuple a its.toArray from p) (x:=u) (by simpa using hu) fun h' st' sb=>?_
  have I1:Inv X pins σ H { s with heap:=h' }:=I.turned (t':=s.toks) (fun b o hb e=>(sb.2 b hb).trans e) f0 f1 f3 f4 f5
  obtain⟨o,e,c,d⟩:=id st'
  exact⟨u,rfl,zl4 (s:={ s with heap:=h' }) e c d (by decide) ⟨x,H,I1,ru,⟨rfl,fun ys hy=>by rw[I.tuple_inj hy hq];exact hx⟩,st',fun b hb=>(hf b hb).1⟩⟩
 done:=by
  intro X hP hw hK hc i pins s σ H E I hf st hg
  subst hP hw hK
  obtain⟨xs,hq,hx⟩:=hg
  obtain⟨its,rv,p,hz⟩:=I.tuple hq
  obtain⟨f0,f1,f2,f3,f4,f5⟩:=hf it (by simp)
  have hl:=rv.length
  exact wpAny_pyNext_tuple_end (I.ok.hd hc) st (show s.heap.IsTuple a its.toArray from p) (by simp;omega) fun h' eb=>⟨rfl,I.turned (t':=s.toks) (fun b o hb e=>eb b o hb e) f0 f1 f3 f4 f5⟩
 self:=fun _ _ _ _ _ st h=>wpAny_pyIter_tupleiter st h
theorem zcp {P:y0q} {w:World} {K:y00} {tg:Expr} (it:Addr) (lo:Int) (n:Nat):Turn P w K tg (Itr lo n) [it] it (fun i h=>IsRangeIter h it (lo+(i:Nat)*1) ((n:Int) - (i:Nat)) 1) where
 mem:=by simp
 obj:=fun i h st b hb=>by
  have e:b=it:=by simpa using hb
  subst e
  exact⟨_,st,fun v z=>by
   have z':Data.fields _=Data.cell v:=z
   cases z'⟩
 keep:=fun i h h' st k=>k it (by simp) _ st
 item:=by
  intro X hP hw hK hc i pins s σ H E I hf st hg
  subst hP hw hK
  obtain⟨f0,f1,f2,f3,f4,f5⟩:=hf it (by simp)
  have W:=Walks.range (prog:=X.prog) (w:=X.w) (I.ok.hd hc) it lo 1 n
  refine W.item i s _ _ hg st fun v h' tk hv st' kk=>?_
  obtain⟨t,rfl⟩:=hv
  have I1:Inv X pins σ H { s with heap:=h',toks:=tk }:=I.turned (fun b o hb e=>kk b o (by simpa using hb) e) f0 f1 f3 f4 f5
  refine⟨_,rfl,zl4 (s:={ s with heap:=h',toks:=tk }) (n:="range_iterator") st' rfl rfl (by decide) ⟨.int (lo+i),H,I1,⟨t,?_⟩,⟨rfl,rfl⟩,st',fun b hb=>(hf b hb).1⟩⟩
  rw[Int.mul_one]
 done:=by
  intro X hP hw hK hc i pins s σ H E I hf st hg
  subst hP hw hK
  obtain⟨f0,f1,f2,f3,f4,f5⟩:=hf it (by simp)
  exact wpAny_pyNext_range_end (I.ok.hd hc) st (by have:n<=i:=hg;omega) fun h' eb=>⟨rfl,I.turned (t':=s.toks) (fun b o hb e=>eb b o hb e) f0 f1 f3 f4 f5⟩
 self:=fun _ _ _ _ _ st h=>wpAny_pyIter_rangeiter st h
end L2
namespace L2
open PySem PySem.Spec PyProof.Rows
section
variable {X:Cx} {tg:Expr}
theorem zbh {pins:List (Addr×Obj)} {σ:St} {H:Hp} {s:y04} {R:It->Hp->Prop} {E:Value->y04->Prop} {lo hi:Int} {t u v:Tok} {tk:Nat} (I:Inv X pins σ H s) (h1:-(2 ^ 62)<=lo) (h2:lo<2 ^ 62) (h3:-(2 ^ 62)<=hi) (h4:hi<2 ^ 62)
  (q:R (Itr lo (hi - lo).toNat) H):y0u (model X.prog X.w) X.A (pyIter (.ref s.heap.objs.size)) (PIE X pins σ tg R) E { s with heap:=s.heap.push { cls:=.type "range",data:=.fields #[.int lo t,.int hi u,.int 1 v] },toks:=tk }:=by
 refine wpAny_pyIter_range (IsRange.new ..) (small_one h1 h2 h3 h4) ?_
 have I1:Inv X pins σ H { s with heap:=s.heap.push { cls:=.type "range",data:=.fields #[.int lo t,.int hi u,.int 1 v] },toks:=tk }:=I.kept fun b o e=>y03 _ e
 refine⟨(s.heap.push { cls:=.type "range",data:=.fields #[.int lo t,.int hi u,.int 1 v] }).objs.size,[(s.heap.push { cls:=.type "range",data:=.fields #[.int lo t,.int hi u,.int 1 v] }).objs.size],_,_,H,rfl,
  I1.kept (t':=tk) fun b o e=>y03 _ e,zcp _ lo (hi - lo).toNat,?_,fun b hb=>?_,q⟩
 ·have e1:lo+((0:Nat):Int)*1=lo:=by simp
  have e2:(((hi - lo).toNat:Nat):Int) - ((0:Nat):Int)=Builtin.Range.rangeSize lo hi 1:=by rw[rangeSize_one];split <;> omega
  show IsRangeIter _ _ (lo+((0:Nat):Int)*1) ((((hi - lo).toNat:Nat):Int) - ((0:Nat):Int)) 1
  rw[e1,e2]
  exact y0l _ rfl
 ·have e:b=(s.heap.push { cls:=.type "range",data:=.fields #[.int lo t,.int hi u,.int 1 v] }).objs.size:=by simpa using hb
  subst e
  exact I1.fpOk (y0o _) (I1.hok.fresh (y0o _))
def zor (ta:TA):TI:=fun σ H R=>ta σ H fun vs H1=>∃j:Int,vs=[.int j]/\-(2 ^ 62)<=j/\j<2 ^ 62/\R (Itr 0 j.toNat) H1
def zoq (ta:TA):TI:=fun σ H R=>ta σ H fun vs H1=>∃i j:Int,vs=[.int i,.int j]/\(-(2 ^ 62)<=i/\i<2 ^ 62/\-(2 ^ 62)<=j/\j<2 ^ 62)/\R (Itr i (j - i).toNat) H1
theorem zel {a:Expr} {ta:TA} {p pos:Pos} (hg:Gl X "range") (hm:X.mg "range"=none) (ha:PA X [a] ta) (hs:y0a [a] X.env=[(false,eval a X.env)]:=by rfl):PI X tg (.Call (.Name "range" p) [a] [] pos) (zor ta):=by
 intro pins s σ H R I h
 refine Call_ (z52 I hg hm boot_range (y1n (thn (ha pos pins s σ H _ I h) fun us s1 ⟨vs,H1,I1,r1,q1⟩=>?_) hs rfl))
 obtain⟨j,e,q1,q2,q⟩:=q1
 subst e
 cases r1 with
 | cons r rr =>
  cases rr
  obtain⟨t,rfl⟩:=r
  exact call_range_1 (zbh I1 (by omega) (by omega) q1 q2 (by simpa using q))
theorem zek {a b:Expr} {ta:TA} {p pos:Pos} (hg:Gl X "range") (hm:X.mg "range"=none) (ha:PA X [a,b] ta) (hs:y0a [a,b] X.env=[(false,eval a X.env),(false,eval b X.env)]:=by rfl) (hs2:y0a [b] X.env=[(false,eval b X.env)]:=by rfl) :
  PI X tg (.Call (.Name "range" p) [a,b] [] pos) (zoq ta):=by
 intro pins s σ H R I h
 refine Call_ (z52 I hg hm boot_range (y1n (thn (ha pos pins s σ H _ I h) fun us s1 ⟨vs,H1,I1,r1,q1⟩=>?_) (by rw[hs,hs2]) (by rw[hs2];rfl)))
 obtain⟨i,j,e,⟨q1,q2,q3,q4⟩,q⟩:=q1
 subst e
 cases r1 with
 | cons r rr =>
  cases rr with
  | cons r' rr =>
   cases rr
   obtain⟨t,rfl⟩:=r
   obtain⟨t',rfl⟩:=r'
   exact call_range_2 (zbh I1 q1 q2 q3 q4 q)
noncomputable def tFor (wi:TI) (g:TG) (tb:TS):TS:=fun D σ H=>wi σ H fun J H1=>∃W:Nat->Nat->St->Hp->Prop,(∃m,W 0 m σ H1)/\∀i m σ H,W i m σ H ->
 (J.stop i H/\D.nx σ H)\/(J.go i H/\∃N:St->Hp->Prop,(∀σ' H',N σ' H'->∃m',m'<m/\W (i+1) m' σ' H')/\∀x H',J.yld i H x H'->g x σ H' fun σ2 H2=>tb { D with nx:=N,ct:=N,bk:=D.nx } σ2 H2)
def z8v (fp:List Addr) (h:Heap):List (Addr×Obj):=fp.filterMap fun b=>(h.get? b).map fun o=>(b,o)
theorem z3o {fp:List Addr} {h:Heap} {b:Addr} {o:Obj} (hb:b∈fp) (e:h.get? b=some o):(b,o)∈z8v fp h:=List.mem_filterMap.mpr ⟨b,hb,by rw[e];rfl⟩
theorem zex {fp:List Addr} {h:Heap} {p:Addr×Obj} (hp:p∈z8v fp h):p.1∈fp/\h.get? p.1=some p.2:=by
 obtain⟨b,hb,e⟩:=List.mem_filterMap.mp hp
 cases q:h.get? b with
 | none=>rw[q] at e;cases e
 | some o =>
  rw[q] at e
  have e':(b,o)=p:=y27 e
  subst e'
  exact⟨hb,q⟩
theorem Inv.pinned {pins:List (Addr×Obj)} {σ:St} {H:Hp} {s:y04} {fp:List Addr} (I:Inv X pins σ H s) (hf:∀b∈fp,FpOk X pins H b) (ho:∀b∈fp,∃o,s.heap.get? b=some o/\∀v,o.data≠.cell v):Inv X (pins++z8v fp s.heap) σ H s :=
 I.pins_of fun p hp=>(y10.mp hp).elim (fun z=>I.pin p (y18 _ z)) fun z=>by
  obtain⟨hb,e⟩:=zex z
  obtain⟨f0,f1,f2,_⟩:=hf p.1 hb
  obtain⟨o,e',d⟩:=ho p.1 hb
  rw[e] at e';cases e'
  exact⟨e,f0,f1,f2,d⟩
theorem Inv.unpinned {pins pl:List (Addr×Obj)} {σ:St} {H:Hp} {s:y04} (I:Inv X (pins++pl) σ H s):Inv X pins σ H s:=I.pins_of fun p hp=>I.pin p (y18 _ (List.mem_append_left _ hp))
theorem zmg {iter:Expr} {body:List Stmt} {wi:TI} {g:TG} {tb:TS} {pos:Pos} (hp:PassesOwn (model X.prog X.w) X.A X.env X.xe) (hc:X.calm=true) (hi:PI X tg iter wi) (hg:PG X tg g) (hb:PSs X body tb)
  (hs:∀x,foldedSetIterable iter X.env x=pure x:=by intro _;rfl):PS X (.For tg iter body [] pos) (tFor wi g tb):=by
 intro pins s σ H D I h
 refine wpAny_For (thn (hi pins s σ H _ I h) fun v s1 h1=>thn h1 fun itv s2 h2=>?_) hs
 obtain⟨it,fp,tn,J,H2,e,I2,T,st2,f2,W,⟨m0,w0⟩,turn⟩:=h2
 subst e
 have stat:∀{H':Hp},(∀b∈fp,H' b=none)->∀b∈fp,FpOk X pins H' b:=fun hn b hb=>⟨hn b hb,(f2 b hb).2⟩
 refine codeAny_forLoop_any (fun n s'=>∃i σ' H',Inv X pins σ' H' s'/\tn i s'.heap/\(∀b∈fp,H' b=none)/\W i n σ' H') ?_ m0 ⟨0,σ,H2,I2,st2,fun b hb=>(f2 b hb).1,w0⟩
 rintro n s3 ⟨i,σ3,H3,I3,st3,fr3,w3⟩
 rcases turn i n σ3 H3 w3 with ⟨stop,qn⟩|⟨go,N,hN,step⟩
 ·refine wpAny_passesOwn hp (thn (T.done X rfl rfl rfl hc i pins s3 σ3 H3 X.xe I3 (stat fr3) st3 stop) fun r s4 ⟨hr,I4⟩=>?_)
  subst hr
  exact wpAny_execs_nil ⟨σ3,H3,I4,qn⟩
 ·refine wpAny_passesOwn hp (thn (T.item X rfl rfl rfl hc i pins s3 σ3 H3 X.xe I3 (stat fr3) st3 go) fun r s4 ⟨u,hr,h4⟩=>?_)
  subst hr
  refine wpAny_passesOwn hp (thn h4 fun _ s5 ⟨x,H5,I5,r5,y5,st5,fr5⟩=>?_)
  have I5':=I5.pinned (stat fr5) (T.obj _ _ st5)
  refine wpAny_passesOwn hp (thn (hg _ s5 σ3 H5 x u _ I5' r5 (step x H5 y5)) fun _ s6 ⟨σ6,H6,I6,q6⟩=>?_)
  refine wpAny_passesOwn hp (thn (hb _ s6 σ6 H6 _ I6 q6) fun f s7 q7=>?_)
  have again:∀{σ7:St} {H7:Hp},Inv X (pins++z8v fp s5.heap) σ7 H7 s7->N σ7 H7->∃m,m<n/\∃i σ' H',Inv X pins σ' H' s7/\tn i s7.heap/\(∀b∈fp,H' b=none)/\W i m σ' H':=fun {σ7 H7} I7 n7=>by
   obtain⟨m',hm,w7⟩:=hN σ7 H7 n7
   refine⟨m',hm,i+1,σ7,H7,I7.unpinned,T.keep _ _ _ st5 fun b hb o e=>(I7.pin (b,o) (y18 _ (y18 _ (z3o hb e)))).1,fun b hb=>?_,w7⟩
   obtain⟨o,e,d⟩:=T.obj _ _ st5 b hb
   exact (I7.pin (b,o) (y18 _ (y18 _ (z3o hb e)))).2.1
  cases f with
  | next=>obtain⟨σ7,H7,I7,n7⟩:=q7;exact again I7 n7
  | cont=>obtain⟨σ7,H7,I7,n7⟩:=q7;exact again I7 n7
  | brk=>obtain⟨σ7,H7,I7,q7⟩:=q7;exact⟨σ7,H7,I7.unpinned,q7⟩
  | ret v=>obtain⟨x7,σ7,H7,I7,r7,q7⟩:=q7;exact⟨x7,σ7,H7,I7.unpinned,r7,q7⟩
end
end L2
namespace L2
open PySem PySem.Spec PyProof.Rows
abbrev R2:=V->V->Hp->VK->Prop
noncomputable def OpR (X:Cx) (f:Value->Value->Sem Value) (r:R2):Prop :=
 ∀(pins:List (Addr×Obj)) (s:y04) (σ:St) (H:Hp) (x y:V) (v u:Value) (Q:VK),Inv X pins σ H s->RelV x v->RelV y u->r x y H Q ->
  y0u (model X.prog X.w) X.A (f v u) (EP X pins σ Q) X.xe s
noncomputable def UnR (X:Cx) (f:Value->Sem Value) (r:V->Hp->VK->Prop):Prop :=
 ∀(pins:List (Addr×Obj)) (s:y04) (σ:St) (H:Hp) (x:V) (v:Value) (Q:VK),Inv X pins σ H s->RelV x v->r x H Q ->
  y0u (model X.prog X.w) X.A (f v) (EP X pins σ Q) X.xe s
noncomputable def z3v (X:Cx) (f:Value) (r:List V->Hp->VK->Prop):Prop :=
 ∀(pins:List (Addr×Obj)) (s:y04) (σ:St) (H:Hp) (xs:List V) (us:List Value) (Q:VK),Inv X pins σ H s->Vals xs us->r xs H Q ->
  y0u (model X.prog X.w) X.A (call f us) (EP X pins σ Q) X.xe s
noncomputable def TruR (X:Cx) (r:V->Hp->(Bool->Hp->Prop)->Prop):Prop :=
 ∀(pins:List (Addr×Obj)) (s:y04) (σ:St) (H:Hp) (x:V) (v:Value) (Q:Bool->Hp->Prop),Inv X pins σ H s->RelV x v->r x H Q ->
  y0u (model X.prog X.w) X.A (truthy v) (TP X pins σ Q) X.xe s
def tOp (r:R2) (ta tb:TE):TE:=fun σ H Q=>ta σ H fun x H1=>tb σ H1 fun y H2=>r x y H2 Q
def tUn (r:V->Hp->VK->Prop) (ta:TE):TE:=fun σ H Q=>ta σ H fun x H1=>r x H1 Q
def rI (C:Int->Int->Prop) (g:Int->Int->V):R2:=fun x y H Q=>∃i j,x=.int i/\y=.int j/\C i j/\Q (g i j) H
def rI0 (g:Int->Int->V):R2:=fun x y H Q=>∃i j,x=.int i/\y=.int j/\Q (g i j) H
def rU (g:Int->V):V->Hp->VK->Prop:=fun x H Q=>∃i,x=.int i/\Q (g i) H
section
variable {X:Cx} {a b c:Expr} {ta tb tc:TE} {pos:Pos}
theorem binT (ha:PE X a ta) (hb:PE X b tb) {pins:List (Addr×Obj)} {s:y04} {σ:St} {H:Hp} {R:V->V->Hp->Prop} (I:Inv X pins σ H s)
  (h:ta σ H fun x H1=>tb σ H1 fun y H2=>R x y H2) {Q:Value->y04->Prop} {f:Value->Value->Sem Value}
  (hf:∀v u s2 x y H2,Inv X pins σ H2 s2->RelV x v->RelV y u->R x y H2->y0u (model X.prog X.w) X.A (f v u) Q X.xe s2) :
  y0u (model X.prog X.w) X.A (eval a X.env) (fun v s₁=>y0u (model X.prog X.w) X.A (eval b X.env) (fun u s₂=>y0u (model X.prog X.w) X.A (f v u) Q X.xe s₂) X.xe s₁) X.xe s:=by
 refine thn (ha pins s σ H _ I h) fun v s1 ⟨x,H1,I1,r1,q1⟩=>?_
 refine thn (hb pins s1 σ H1 _ I1 q1) fun u s2 ⟨y,H2,I2,r2,q2⟩=>?_
 exact hf v u s2 x y H2 I2 r1 r2 q2
theorem zhk {op:Operator} {r:R2} (ho:OpR X (binaryOp op) r) (ha:PE X a ta) (hb:PE X b tb):PE X (.BinOp a op b pos) (tOp r ta tb):=by
 intro pins s σ H Q I h
 exact wpAny_BinOp (binT ha hb I h fun v u s2 x y H2 I2 rx ry q=>ho pins s2 σ H2 x y v u Q I2 rx ry q)
theorem zmm {op:UnaryOp} {r:V->Hp->VK->Prop} (ho:UnR X (unaryOp op) r) (ha:PE X a ta):PE X (.UnaryOp op a pos) (tUn r ta):=by
 intro pins s σ H Q I h
 exact UnaryOp_ (thn (ha pins s σ H _ I h) fun v s1 ⟨x,H1,I1,r1,q1⟩=>ho pins s1 σ H1 x v Q I1 r1 q1)
theorem opI {f:Value->Value->Sem Value} {C:Int->Int->Prop} {g:Int->Int->Int}
  (rule:∀(i j:Int) (t u:Tok) (s:y04) (Q:Value->y04->Prop) (E:Value->y04->Prop),C i j->Q (.int (g i j) s.toks) { s with toks:=s.toks+1 }->y0u (model X.prog X.w) X.A (f (.int i t) (.int j u)) Q E s) :
  OpR X f (rI C fun i j=>.int (g i j)):=by
 intro pins s σ H x y v u Q I rx ry h
 obtain⟨i,j,rfl,rfl,hc,q⟩:=h
 obtain⟨t,rfl⟩:=rx
 obtain⟨t',rfl⟩:=ry
 exact rule i j t t' s _ _ hc ⟨.int (g i j),H,I.tok _,⟨_,rfl⟩,q⟩
theorem opI0 {f:Value->Value->Sem Value} {g:Int->Int->Int}
  (rule:∀(i j:Int) (t u:Tok) (s:y04) (Q:Value->y04->Prop) (E:Value->y04->Prop),Q (.int (g i j) s.toks) { s with toks:=s.toks+1 }->y0u (model X.prog X.w) X.A (f (.int i t) (.int j u)) Q E s) :
  OpR X f (rI0 fun i j=>.int (g i j)):=by
 intro pins s σ H x y v u Q I rx ry h
 obtain⟨i,j,rfl,rfl,q⟩:=h
 obtain⟨t,rfl⟩:=rx
 obtain⟨t',rfl⟩:=ry
 exact rule i j t t' s _ _ ⟨.int (g i j),H,I.tok _,⟨_,rfl⟩,q⟩
theorem opB0 {f:Value->Value->Sem Value} {g:Int->Int->Bool}
  (rule:∀(i j:Int) (t u:Tok) (s:y04) (Q:Value->y04->Prop) (E:Value->y04->Prop),Q (.bool (g i j)) s->y0u (model X.prog X.w) X.A (f (.int i t) (.int j u)) Q E s) :
  OpR X f (rI0 fun i j=>.bl (g i j)):=by
 intro pins s σ H x y v u Q I rx ry h
 obtain⟨i,j,rfl,rfl,q⟩:=h
 obtain⟨t,rfl⟩:=rx
 obtain⟨t',rfl⟩:=ry
 exact rule i j t t' s _ _ ⟨.bl (g i j),H,I,rfl,q⟩
def CDiv (i j:Int):Prop:=0<j/\j<1073741824
def CMul (i j:Int):Prop:=(-(2 ^ 64)<i/\i<2 ^ 64)\/(-(2 ^ 64)<j/\j<2 ^ 64)
theorem CMul.ok {i j:Int} (h:CMul i j):IntMulOk i j:=by
 rcases h with ⟨h1,h2⟩|⟨h1,h2⟩
 ·exact .of_left (intBits_le_64 h1 h2)
 ·exact .of_right (intBits_le_64 h1 h2)
theorem zmr:OpR X (binaryOp .Add) (rI0 fun i j=>.int (i+j)):=opI0 fun _ _ _ _ _ _ _ q=>add_int q
theorem zmp:OpR X (binaryOp .Mult) (rI CMul fun i j=>.int (i*j)):=opI fun _ _ _ _ _ _ _ hc q=>mul_int q hc.ok
theorem zkq:OpR X (binaryOp .FloorDiv) (rI CDiv fun i j=>.int (i / j)):=opI fun i j _ _ _ _ _ hc q=>by
 have h1:(0:Int)<j:=hc.1
 have h2:j<1073741824:=hc.2
 exact floordiv_int (by omega) (by rw[Int.fdiv_eq_ediv_of_nonneg i (by omega)];exact q) (.inl (PyProof.noPylong_small (by omega)))
theorem zmq:OpR X (binaryOp .Mod) (rI (fun _ j=>0<j) fun i j=>.int (i % j)):=opI fun i j _ _ _ _ _ hc q=>by
 have h1:(0:Int)<j:=hc
 exact mod_int' (by omega) (by rw[Int.fmod_eq_emod_of_nonneg i (by omega)];exact q)
theorem unI {f:Value->Sem Value} {g:Int->Int}
  (rule:∀(i:Int) (t:Tok) (s:y04) (Q:Value->y04->Prop) (E:Value->y04->Prop),Q (.int (g i) s.toks) { s with toks:=s.toks+1 }->y0u (model X.prog X.w) X.A (f (.int i t)) Q E s) :
  UnR X f (rU fun i=>.int (g i)):=by
 intro pins s σ H x v Q I rx h
 obtain⟨i,rfl,q⟩:=h
 obtain⟨t,rfl⟩:=rx
 exact rule i t s _ _ ⟨.int (g i),H,I.tok _,⟨_,rfl⟩,q⟩
theorem zj1:UnR X (unaryOp .USub) (rU fun i=>.int (-i)):=unI fun _ _ _ _ _ q=>neg_int q
end
noncomputable def scal:V->V->Bool
 | .non,.non=>true|.non,.int _=>true|.int _,.non=>true|.non,.bl _=>true|.bl _,.non=>true|.non,.str _=>true|.str _,.non=>true
 | .int _,.int _=>true|.bl _,.bl _=>true|.str _,.str _=>true|.byt _,.byt _=>true
 | .int _,.str _=>true|.str _,.int _=>true|.bl _,.str _=>true|.str _,.bl _=>true
 | _,_=>false
def rEq:R2:=fun x y H Q=>scal x y=true/\Q (.bl (decide (x=y))) H
theorem zlb {i j:Int}:decide (V.int i=V.int j)=(i == j):=by
 rw[Bool.eq_iff_iff]
 simp
theorem znk {i j:Bool}:decide (V.bl i=V.bl j)=(i == j):=by
 rw[Bool.eq_iff_iff]
 simp
theorem zla {i j:Str}:decide (V.str i=V.str j)=(i == j):=by
 rw[Bool.eq_iff_iff]
 simp
theorem zlc {i j:Array UInt8}:decide (V.byt i=V.byt j)=(i.toList == j.toList):=by
 rw[Bool.eq_iff_iff]
 cases i
 cases j
 simp
section
variable {X:Cx} {a b c:Expr} {ta tb tc:TE} {pos:Pos}
theorem z1t {pins:List (Addr×Obj)} {σ:St} {H:Hp} {s:y04} {Q:VK} {k k':Bool} (I:Inv X pins σ H s) (q:Q (.bl k) H) (e:k=k'):EP X pins σ Q (.bool k') s:=by
 subst e
 exact⟨.bl k,H,I,rfl,q⟩
theorem zop:OpR X (compareOp .Eq) rEq:=by
 intro pins s σ H x y v u Q I rx ry h
 obtain⟨hs,q⟩:=h
 cases x with
 | non =>
  cases rx
  cases y with
  | non=>cases ry;exact PySem.EqNone.eq_none_none (z1t I q (by simp))
  | bl j=>cases ry;exact PySem.EqNone.eq_none_bool (z1t I q (by simp))
  | int j=>obtain⟨t',rfl⟩:=ry;exact PySem.EqNone.eq_none_int (z1t I q (by simp))
  | str j=>obtain⟨t',rfl⟩:=ry;exact PySem.EqNone.eq_none_str (z1t I q (by simp))
  | _=>exact absurd (show false=true from hs) y1y
 | bl i =>
  cases rx
  cases y with
  | non=>cases ry;exact PySem.EqNone.eq_bool_none (z1t I q (by simp))
  | bl j=>cases ry;exact eq_bool (z1t I q znk)
  | str j=>obtain⟨t',rfl⟩:=ry;exact PySem.EqMixed.eq_bool_str (z1t I q (by simp))
  | _=>exact absurd (show false=true from hs) y1y
 | int i =>
  obtain⟨t,rfl⟩:=rx
  cases y with
  | non=>cases ry;exact PySem.EqNone.eq_int_none (z1t I q (by simp))
  | int j=>obtain⟨t',rfl⟩:=ry;exact eq_int (z1t I q zlb)
  | str j=>obtain⟨t',rfl⟩:=ry;exact PySem.EqMixed.eq_int_str (z1t I q (by simp))
  | _=>exact absurd (show false=true from hs) y1y
 | str i =>
  obtain⟨t,rfl⟩:=rx
  cases y with
  | non=>cases ry;exact PySem.EqNone.eq_str_none (z1t I q (by simp))
  | bl j=>cases ry;exact PySem.EqMixed.eq_str_bool (z1t I q (by simp))
  | int j=>obtain⟨t',rfl⟩:=ry;exact PySem.EqMixed.eq_str_int (z1t I q (by simp))
  | str j=>obtain⟨t',rfl⟩:=ry;exact eq_str (z1t I q zla)
  | _=>exact absurd (show false=true from hs) y1y
 | byt i =>
  obtain⟨t,rfl⟩:=rx
  cases y with
  | byt j=>obtain⟨t',rfl⟩:=ry;exact PySem.W.eq_bytes (z1t I q zlc)
  | _=>exact absurd (show false=true from hs) y1y
 | _=>cases y <;> exact absurd (show false=true from hs) y1y
theorem zoo:OpR X (compareOp .Lt) (rI0 fun i j=>.bl (decide (i<j))):=opB0 fun _ _ _ _ _ _ _ q=>lt_int q
theorem zer:OpR X (compareOp .Lt) (fun x y H Q=>∃i j,x=.str i/\y=.str j/\Q (.bl (decide (i.cps.toList<j.cps.toList))) H):=by
 intro pins s σ H x y v u Q I rx ry h
 obtain⟨i,j,rfl,rfl,q⟩:=h
 obtain⟨t,rfl⟩:=rx
 obtain⟨t',rfl⟩:=ry
 exact lt_str (z1t I q rfl)
theorem OpR.or {f:Value->Value->Sem Value} {r r':R2} (h:OpR X f r) (h':OpR X f r'):OpR X f (fun x y H Q=>r x y H Q\/r' x y H Q):=by
 intro pins s σ H x y v u Q I rx ry q
 rcases q with q|q
 ·exact h pins s σ H x y v u Q I rx ry q
 ·exact h' pins s σ H x y v u Q I rx ry q
theorem zbo (b:Expr) {op:CmpOp} (h:op≠.In:=by decide) (h2:op≠.NotIn:=by decide):behindInMarks op b=false:=by
 have e1:(op == CmpOp.In)=false:=by cases op <;> first|rfl|exact absurd rfl h
 have e2:(op == CmpOp.NotIn)=false:=by cases op <;> first|rfl|exact absurd rfl h2
 cases b <;> simp[behindInMarks,e1,e2]
theorem zkl {op:CmpOp} {r:R2} (ho:OpR X (compareOp op) r) (ha:PE X a ta) (hb:PE X b tb) (hm:behindInMarks op b=false):PE X (.Compare a [op] [b] pos) (tOp r ta tb):=by
 intro pins s σ H Q I h
 exact wpAny_Compare1 (binT ha hb I h fun v u s2 x y H2 I2 rx ry q=>ho pins s2 σ H2 x y v u Q I2 rx ry q) hm
def zlu (t:TE):TT:=fun σ H Q=>t σ H fun x H'=>∃k,x=.bl k/\Q k H'
theorem zag {op:CmpOp} {r:R2} (ho:OpR X (compareOp op) r) (ha:PE X a ta) (hb:PE X b tb) (hm:behindInMarks op b=false):PT X (.Compare a [op] [b] pos) (zlu (tOp r ta tb)):=by
 intro pins s σ H Q I h
 refine wpAny_isTrue_Compare1 (thn (ha pins s σ H _ I h) fun v s1 ⟨x,H1,I1,r1,q1⟩=>thn (hb pins s1 σ H1 _ I1 q1) fun u s2 ⟨y,H2,I2,r2,q2⟩ =>
  thn (ho pins s2 σ H2 x y v u _ I2 r1 r2 q2) fun c s3 ⟨z,H3,I3,r3,k,e,q3⟩=>?_) hm
 subst e
 cases r3
 exact wpAny_truthy_bool ⟨H3,I3,q3⟩
noncomputable def TruV (K:y00) (x:V) (H:Hp) (k:Bool):Prop :=
 match x with
 | .non=>k=false
 | .bl b=>k=b
 | .int i=>k=(i != 0)
 | .str y=>y.length<=y0j/\k=((y.length:Int) != 0)
 | .byt y=>y.size<=y0j/\k=((y.size:Int) != 0)
 | .ref p=>(∃xs,SqL K H p xs/\k=!xs.isEmpty)\/(∃xs,SqT K H p xs/\k=!xs.isEmpty)\/∃kvs,H p=some (.dK kvs)/\k=!kvs.isEmpty
 | _=>False
theorem zcz {κ:Type} {kvs:List (κ×V)} {vs:List (κ×Value)} (r:KV kvs vs):(!vs.isEmpty)=!kvs.isEmpty:=by
 cases r <;> rfl
theorem z75 {xs:List V} {its:List Value} (r:Vals xs its):(!its.toArray.isEmpty)=!xs.isEmpty:=by
 cases r <;> simp
theorem z73:(y0j:Nat)<2 ^ 63:=by rw[sizeLine_eq];decide
theorem zlp:TruR X (fun x H Q=>∃k,TruV X.K x H k/\Q k H):=by
 intro pins s σ H x v Q I rx h
 obtain⟨k,e,q⟩:=h
 have hl:=z73
 have hs:y0j=16777216:=sizeLine_eq
 cases x with
 | non =>
  cases rx
  have e':k=false:=e
  subst e'
  exact truthy_none ⟨H,I,q⟩
 | bl b =>
  cases rx
  have e':k=b:=e
  subst e'
  exact wpAny_truthy_bool ⟨H,I,q⟩
 | int i =>
  obtain⟨t,rfl⟩:=rx
  have e':k=(i != 0):=e
  subst e'
  exact PySem.P.truthy_int ⟨H,I,q⟩
 | str y =>
  obtain⟨t,rfl⟩:=rx
  obtain⟨hy,e'⟩:y.length<=y0j/\k=((y.length:Int) != 0):=e
  subst e'
  exact PySem.P.truthy_str (by omega) ⟨H,I.tok _,q⟩
 | byt y =>
  obtain⟨t,rfl⟩:=rx
  obtain⟨hy,e'⟩:y.size<=y0j/\k=((y.size:Int) != 0):=e
  subst e'
  exact PySem.W.truthy_bytes (by omega) ⟨H,I.tok _,q⟩
 | ref p =>
  cases rx
  have e':(∃xs,SqL X.K H p xs/\k=!xs.isEmpty)\/(∃xs,SqT X.K H p xs/\k=!xs.isEmpty)\/∃kvs,H p=some (.dK kvs)/\k=!kvs.isEmpty:=e
  rcases e' with ⟨xs,hx,e'⟩|⟨xs,hx,e'⟩|⟨kvs,hx,e'⟩
  ·subst e'
   obtain⟨its,r,pl,hz⟩:=I.list hx
   have hlen:=r.length
   exact wpAny_truthy_list pl.isList (by simp only[y0h];omega) ⟨H,I.tok _,by rw[z75 r];exact q⟩
  ·subst e'
   obtain⟨its,r,pl,hz⟩:=I.tuple hx
   have hlen:=r.length
   exact truthy_tuple pl (by simp only[y0h];omega) ⟨H,I.tok _,by rw[z75 r];exact q⟩
  ·subst e'
   obtain⟨hz,hS,vs,r,m⟩:kvs.length<=y0j/\(p == sysModules)=false/\∃vs,KV kvs vs/\s.heap.DictOf (z0j X.prog X.w) p vs:=I.hok p _ hx
   have hlen:kvs.length=vs.length:=Paired.length r
   exact wpAny_truthy_dict hS m (by omega) ⟨H,I.tok _,by rw[zcz r];exact q⟩
 | _=>exact (show False from e).elim
theorem zhe (ha:PE X a ta) (he:∀whole,isTrue a X.env whole=(do let v <- whole;standAt a.pos;holding [v] (truthy v))) :
  PT X a (fun σ H Q=>ta σ H fun x H'=>∃k,TruV X.K x H' k/\Q k H'):=by
 intro pins s σ H Q I h
 exact isTrue_plain (thn (ha pins s σ H _ I h) fun v s1 ⟨x,H1,I1,r1,q1⟩=>zlp pins s1 σ H1 x v Q I1 r1 q1) (he _)
theorem zcv:OpR X (binaryOp .Add) (fun x y H Q=>∃i j,x=.str i/\y=.str j/\i.length+j.length<=y0j/\Q (.str (i++j)) H):=by
 intro pins s σ H x y v u Q I rx ry h
 obtain⟨i,j,rfl,rfl,hz,q⟩:=h
 obtain⟨t,rfl⟩:=rx
 obtain⟨t',rfl⟩:=ry
 exact add_str (fun t' tk=>⟨.str (i++j),H,I.tok _,⟨_,rfl⟩,q⟩) hz
theorem z8d {x:V} {us:List Value} (r:Vals [x] us):∃u,us=[u]/\RelV x u:=by
 cases r with
 | cons r1 r2=>cases r2;exact⟨_,rfl,r1⟩
theorem zlo {x y:V} {us:List Value} (r:Vals [x,y] us):∃u w',us=[u,w']/\RelV x u/\RelV y w':=by
 cases r with
 | cons r1 r2 =>
  cases r2 with
  | cons r3 r4=>cases r4;exact⟨_,_,rfl,r1,r3⟩
theorem zgg (hc:X.calm=true):z3v X (.builtin "max") (fun xs H Q=>∃i j,xs=[.int i,.int j]/\Q (.int (if j > i then j else i)) H):=by
 intro pins s σ H xs us Q I r h
 obtain⟨i,j,rfl,q⟩:=h
 obtain⟨u,w',rfl,⟨t,rfl⟩,⟨t',rfl⟩⟩:=zlo r
 refine max_two_ints (I.ok.hd hc) fun h' tk k=>⟨_,H,I.kept k,?_,q⟩
 by_cases hj:j > i
 ·rw[if_pos hj,if_pos hj];exact⟨_,rfl⟩
 ·rw[if_neg hj,if_neg hj];exact⟨_,rfl⟩
theorem zgf (hc:X.calm=true):z3v X (.builtin "min") (fun xs H Q=>∃i j,xs=[.int i,.int j]/\Q (.int (if j<i then j else i)) H):=by
 intro pins s σ H xs us Q I r h
 obtain⟨i,j,rfl,q⟩:=h
 obtain⟨u,w',rfl,⟨t,rfl⟩,⟨t',rfl⟩⟩:=zlo r
 refine min_two_ints (I.ok.hd hc) fun h' tk k=>⟨_,H,I.kept k,?_,q⟩
 by_cases hj:j<i
 ·rw[if_pos hj,if_pos hj];exact⟨_,rfl⟩
 ·rw[if_neg hj,if_neg hj];exact⟨_,rfl⟩
theorem zgh:z3v X (.type "int") (fun xs H Q=>(∃i,xs=[.int i]/\Q (.int i) H)\/∃k,xs=[.bl k]/\Q (.int (if k then 1 else 0)) H):=by
 intro pins s σ H xs us Q I r h
 rcases h with ⟨i,rfl,q⟩|⟨k,rfl,q⟩
 ·obtain⟨u,rfl,t,rfl⟩:=z8d r
  exact call_int_int ⟨.int i,H,I,⟨_,rfl⟩,q⟩
 ·obtain⟨u,rfl,r1⟩:=z8d r
  cases r1
  exact call_int_bool ⟨.int (if k then 1 else 0),H,I.tok _,⟨_,rfl⟩,q⟩
end
end L2
namespace L2
open PySem PySem.Spec PyProof.Rows
section
variable {prog:y0q} {w:World} {A:Around} {E:Value->y04->Prop} {s:y04} {K:y00} {x dx C f:Addr} {mA:Str->Option Value} {name:Str} {v:Value}
end
section
variable {P:y0q} {w:World} {H H':Hp} {h h':Heap} {a C dx:Addr} {fs fs':List (Str×V)}
end
section
variable {X:Cx} {pins:List (Addr×Obj)} {σ:St} {H:Hp} {s:y04} {a C dx:Addr} {fs:List (Str×V)} {f:Str} {v:V} {A:Around} {E:Value->y04->Prop}
end
section
variable {X:Cx} {o e value:Expr} {f:Str} {pos pos' tpos:Pos} {ta tv:TE}
end
section
variable {X:Cx} {pins:List (Addr×Obj)} {σ:St} {H:Hp} {s:y04} {A:Around} {E:Value->y04->Prop} {Q:Value->y04->Prop} {c:Value} {b:Bool}
end
end L2
namespace L2
open PySem PySem.Spec PyProof.Rows
structure Room (k:Nat) (A:Around):Prop where
 hd:A.handled=none
 dp:A.depth+3*k+5<recursionLimit
 un:A.units+16*k+200<cLine
theorem Room.mono {j k:Nat} {A:Around} (r:Room k A) (h:j<=k):Room j A:=⟨r.hd,by have:=r.dp;omega,by have:=r.un;omega⟩
theorem Room.deeper {k:Nat} {A:Around} (r:Room (k+1) A) (env:Env):Room k (A.deeper env) :=
 ⟨r.hd,by have:=r.dp;show A.depth+1+3*k+5<_;omega,by have:=r.un;show A.units+3+16*k+200<_;omega⟩
theorem Room.in1 {k:Nat} {A:Around} (r:Room (k+1) A):Room k A.in1 :=
 ⟨r.hd,by have:=r.dp;show A.depth+3*k+5<_;omega,by have:=r.un;show A.units+1+16*k+200<_;omega⟩
theorem Room.depth {k:Nat} {A:Around} (r:Room k A):A.depth<recursionLimit:=by have:=r.dp;omega
theorem Room.units {k:Nat} {A:Around} (r:Room k A):A.units+64<cLine:=by have:=r.un;omega
def tNil:TA:=fun _ H Q=>Q [] H
def z27 (ta:TE) (tr:TA):TA:=fun σ H Q=>ta σ H fun x H1=>tr σ H1 fun xs H2=>Q (x::xs) H2
section
variable {X:Cx} {e:Expr} {es:List Expr} {te:TE} {t:TA} {pos:Pos}
theorem z1a:PA X [] tNil:=fun _ _ _ _ H Q I h=>Calls.spliced_nil ⟨[],H,I,.nil,h⟩
theorem z0c (ha:PE X e te) (hr:PA X es t) (hs:y0a (e::es) X.env=(false,eval e X.env)::y0a es X.env:=by rfl):PA X (e::es) (z27 te t):=by
 intro pos pins s σ H Q I h
 rw[hs]
 show y0u _ _ (spliced ((false,eval e X.env)::backTo pos (y0a es X.env))) _ _ s
 refine Calls.spliced_cons (thn (ha pins s σ H _ I h) fun u s1 ⟨x,H1,I1,r1,q1⟩=>?_)
 exact thn (hr pos pins s1 σ H1 _ I1 q1) fun us s2 ⟨xs,H2,I2,r2,q2⟩=>⟨x::xs,H2,I2,.cons r1 r2,q2⟩
def tTup (t:TA):TE:=fun σ H Q=>t σ H fun xs H1=>xs.length<=y0j/\∀p,H1 p=none->Q (.ref p) (upd H1 p (.tup xs))
def tLst (t:TA):TE:=fun σ H Q=>t σ H fun xs H1=>xs.length<=y0j/\∀p,H1 p=none->Q (.ref p) (upd H1 p (.lst xs))
theorem z8x {x1} (h:PA X es t):PE X (.Tuple es x1 pos) (tTup t):=by
 intro pins s σ H Q I hq
 refine wpAny_Tuple_spliced (thn (h pos pins s σ H _ I hq) fun us s1 ⟨xs,H1,I1,r,z,q⟩=>⟨by rw[<- r.length];exact z,?_⟩)
 have hf:H1 s1.heap.objs.size=none:=I1.hok.fresh (y0o _)
 refine⟨.ref s1.heap.objs.size,upd H1 s1.heap.objs.size (.tup xs),I1.laid (t':=s1.toks) (fun b u e=>y03 _ e) (y0o _) ?_,rfl,q _ hf⟩
 exact⟨z,us,r,⟨_,y0l _ rfl,rfl,_,rfl⟩⟩
theorem zja (h:PA X es t):PE X (.List es pos) (tLst t):=by
 intro pins s σ H Q I hq
 refine wpAny_List_spliced (thn (h pos pins s σ H _ I hq) fun us s1 ⟨xs,H1,I1,r,z,q⟩=>⟨by rw[<- r.length];exact z,?_⟩)
 have hf:H1 s1.heap.objs.size=none:=I1.hok.fresh (y0o _)
 refine⟨.ref s1.heap.objs.size,upd H1 s1.heap.objs.size (.lst xs),I1.laid (t':=s1.toks) (fun b u e=>y03 _ e) (y0o _) ?_,rfl,q _ hf⟩
 exact⟨z,us,0,r,y0l _ rfl⟩
end
abbrev Sp:=List V->Hp->VK->XK->Prop
abbrev CXT:=List Env->Hp->y04->XK->Value->y04->Prop
structure Env0 (P:y0q) (w:World) (K:y00) (mg:Str->Option Value) (base:Heap) (A:Around) (outer:List Env) (s:y04) (H:Hp):Prop where
 frames:A.frames=some outer
 mod:Mod K mg base
 bs:∀b o,base.get? b=some o->s.heap.get? b=some o/\H b=none
 bsz:base.objs.size<=s.heap.objs.size
 funs:s.heap.FunFrames base outer
 frf:∀b∈frs outer,H b=none
 hok:HOk P w H s.heap
 bare:AllBare s.gens
noncomputable def CE (outer:List Env) (P:y0q) (w:World) (H:Hp) (s:y04) (Q:VK) (u:Value) (s':y04):Prop :=
 ∃v H',s'.os=s.os/\AllBare s'.gens/\Un (frs outer) [] H H' s.heap s'.heap/\HOk P w H' s'.heap/\RelV v u/\Q v H'
noncomputable def CR (CX:CXT) (outer:List Env) (P:y0q) (w:World) (H:Hp) (s:y04) (Q:VK) (E:XK) (r:Result) (s':y04):Prop :=
 match r with
 | .ok (.ret u)=>CE outer P w H s Q u s'
 | .ok _=>False
 | .error e=>CX outer H s E e s'
structure FnOk (P:y0q) (w:World) (K:y00) (mg:Str->Option Value) (base:Heap) (CX:CXT) (k:Nat) (f:Addr) (fd:y0b) (ps:List Str) (sp:Sp):Prop where
 len:∀vs H Q E,sp vs H Q E->vs.length=ps.length
 run:∀(A:Around) (outer:List Env) (s:y04) (H:Hp) (args:Args) (us:List Value) (vs:List V) (Q:VK) (E:XK),Room k A->Env0 P w K mg base A outer s H->BindsTo s fd args (ps.zip us)->Vals vs us->sp vs H Q E ->
  codeAny (model P w) A (.call (.ref f) args) (CR CX outer P w H s Q E) s
theorem FnOk.mono {P:y0q} {w:World} {K:y00} {mg:Str->Option Value} {base:Heap} {CX:CXT} {j k:Nat} {f:Addr} {fd:y0b} {ps:List Str} {sp:Sp} (F:FnOk P w K mg base CX j f fd ps sp) (h:j<=k) :
  FnOk P w K mg base CX k f fd ps sp:=⟨F.len,fun A outer s H args us vs Q E hr=>F.run A outer s H args us vs Q E (hr.mono h)⟩
theorem FnOk.imp {P:y0q} {w:World} {K:y00} {mg:Str->Option Value} {base:Heap} {CX:CXT} {k:Nat} {f:Addr} {fd:y0b} {ps:List Str} {sp sp':Sp} (F:FnOk P w K mg base CX k f fd ps sp)
  (h:∀vs H Q E,sp' vs H Q E->sp vs H Q E):FnOk P w K mg base CX k f fd ps sp' :=
 ⟨fun vs H Q E q=>F.len vs H Q E (h _ _ _ _ q),fun A outer s H args us vs Q E hr he hb hv hs=>F.run A outer s H args us vs Q E hr he hb hv (h _ _ _ _ hs)⟩
theorem Env0.in1 {P:y0q} {w:World} {K:y00} {mg:Str->Option Value} {base:Heap} {A:Around} {outer:List Env} {s:y04} {H:Hp} (e:Env0 P w K mg base A outer s H) :
  Env0 P w K mg base A.in1 outer s H:=⟨e.frames,e.mod,e.bs,e.bsz,e.funs,e.frf,e.hok,e.bare⟩
section
variable {X:Cx} {pins:List (Addr×Obj)} {σ:St} {H:Hp} {s s':y04}
theorem Inv.env0 (I:Inv X pins σ H s):Env0 X.prog X.w X.K X.mg X.base X.A X.stack s H :=
 ⟨I.ok.frames,I.ok.mod,I.bs,y1k I.ok.bsz I.sz,I.stack,I.stkFree,I.hok,I.bare⟩
theorem Inv.after {Q:VK} {u:Value} (I:Inv X pins σ H s) (h:CE X.stack X.prog X.w H s Q u s'):EP X pins σ Q u s':=by
 obtain⟨v,H',os,bare,un,hok,r,q⟩:=h
 obtain⟨hh,g,d,t,os'⟩:=s'
 obtain rfl:os'=s.os:=os
 exact⟨v,H',I.call (h':=hh) (g':=g) (d':=d) (t':=t) (ch:=[]) un hok bare (fun b z=>absurd z (by simp)),r,q⟩
end
def zo7 (sp:Sp) (dvs:List V) (E:XK) (t:TA):TE:=fun σ H Q=>t σ H fun vs H1=>sp (vs++dvs) H1 Q E
def z1k (K:y00) (fd:y0b) (ps:List Str) (ds:List Value):Prop :=
 ∀(s:y04) (us:List Value),K.In s.heap->(us++ds).length=ps.length->BindsTo s fd ⟨us,[]⟩ (ps.zip (us++ds))
theorem z1k.all {K:y00} {fd:y0b} {ps:List Str} (h:∀us:List Value,us.length=ps.length->bindArgs fd ⟨us,[]⟩=pure (ps.zip us)):z1k K fd ps []:=fun s us _ hl=>by
 rw[y1t] at hl ⊢
 exact .of_eq (h us hl)
def zci (CX:CXT) (X:Cx) (E:XK):Prop:=∀(pins:List (Addr×Obj)) (σ:St) (H:Hp) (s:y04) (e:Value) (s':y04),Inv X pins σ H s->CX X.stack H s E e s'->X.xe e s'
section
variable {X:Cx} {CX:CXT} {k:Nat} {f C:Addr} {fd:y0b} {ps:List Str} {sp:Sp} {dvs:List V} {ds:List Value} {E:XK} {x m:Str} {p pos apos:Pos} {e o:Expr} {es:List Expr} {ta:TE} {t:TA}
theorem zm2 {pins:List (Addr×Obj)} {σ:St} {H:Hp} {s:y04} {Q:VK} {us:List Value} {vs:List V} (F:FnOk X.prog X.w X.K X.mg X.base CX k f fd ps sp) (hr:Room k X.A) (hb:z1k X.K fd ps ds) (hd:Vals dvs ds) (hx:zci CX X E)
  (I:Inv X pins σ H s) (r:Vals vs us) (h:sp (vs++dvs) H Q E):y0u (model X.prog X.w) X.A (call (.ref f) us) (EP X pins σ Q) X.xe s:=by
 have r2:Vals (vs++dvs) (us++ds):=r.append hd
 have hl:(us++ds).length=ps.length:=by rw[<- r2.length];exact F.len _ _ _ _ h
 refine wpAny_call (codeAny_mono (F.run X.A X.stack s H ⟨us,[]⟩ (us++ds) (vs++dvs) Q E hr I.env0 (hb s us I.kIn hl) r2 h) fun r s' hq=>?_)
 cases r with
 | error e=>exact hx pins σ H s e s' I hq
 | ok fl =>
  cases fl with
  | ret u=>exact I.after hq
  | next=>exact y1s hq
  | brk=>exact y1s hq
  | cont=>exact y1s hq
theorem zen (F:FnOk X.prog X.w X.K X.mg X.base CX k f fd ps sp) (hr:Room k X.A) (hg:Gl X x) (hm:X.mg x=some (.ref f)) (hk:y08 X.K (.ref f)=true) (hb:z1k X.K fd ps ds) (hd:Vals dvs ds) (hx:zci CX X E)
  (ha:PA X (e::es) t) (hdb:(x == ("__debug__":Str))=false:=by decide) (he:y0a (e::es) X.env=(false,eval e X.env)::y0a es X.env:=by rfl) (hpl:(backTo pos (y0a es X.env)).any (·.1)=false:=by rfl) :
  PE X (.Call (.Name x p) (e::es) [] pos) (zo7 sp dvs E t):=by
 intro pins s σ H Q I h
 refine wpAny_Call_Name_kw (z4p I hg hm ?_ hdb)
 refine PySem.W.callWith_K (h₀:=X.base) I.ok.mod.kin hk (thn (ha pos pins s σ H _ I h) fun us s1 ⟨vs,H1,I1,r,q⟩=>⟨I1.kIn,?_⟩) he hpl
 exact zm2 F hr hb hd hx I1 r q
end
section
variable {X:Cx} {CX:CXT} {k:Nat} {f C:Addr} {fd:y0b} {ps ks:List Str} {sp:Sp} {E:XK} {x m:Str} {p pos apos kpos:Pos} {e o:Expr} {es:List Expr} {kws:List Keyword} {te ta:TE} {t tk:TA} {nm:Option Str}
variable {g:List Value->List Value->List Value} {gV:List V->List V->List V}
end
structure FnScope (N P:List Str) (sc:Scope):Prop where
 kind:sc.kind=.function
 co:sc.isCoroutine=false
 gen:sc.isGenerator=false
 nd:N.Nodup
 pre:N.take P.length=P
 par:∀x∈P,sc.names.lookup x=some .local\/sc.names.lookup x=some .cell
 nofree:∀y∈sc.names,y.2≠.free
theorem z9t {kindOf:Str->Option NameKind} {x:Str}:∀{binds:List (Str×Value)} {m:Str->Option Value},(∀v,(x,v)∉binds)->bindL kindOf binds m x=m x
  | [],_,_=>rfl
  | (n,v)::r,m,h=>by
    unfold bindL
    rw[z9t fun w hw=>h w (y05 _ hw)]
    split
    · have:x≠n:=by rintro rfl;exact h v y0e
      simp[this]
    · rfl
theorem z9v {kindOf:Str->Option NameKind} {x:Str}:∀{binds:List (Str×Value)} {m:Str->Option Value},(∀v,(x,v)∉binds)->bindC kindOf binds m x=m x
  | [],_,_=>rfl
  | (n,v)::r,m,h=>by
    unfold bindC
    rw[z9v fun w hw=>h w (y05 _ hw)]
    split
    · rfl
    · have:x≠n:=by rintro rfl;exact h v y0e
      simp[this]
theorem z9u {kindOf:Str->Option NameKind} {x:Str} {v:Value}:∀{P:List Str} {vs:List Value} {i:Nat} {m:Str->Option Value},P.Nodup->P[i]?=some x->vs[i]?=some v->kindOf x=some .local ->
  bindL kindOf (P.zip vs) m x=some v
 | [],_,_,_,_,h,_,_=>by simp at h
 | _::_,[],_,_,_,_,h,_=>by simp at h
 | p::P,w::vs,0,m,nd,h1,h2,hk=>by
  simp at h1 h2;subst h1;subst h2
  show bindL kindOf ((p,w)::P.zip vs) m p=_
  unfold bindL
  rw[z9t fun v hv=>(y0r.mp nd).1 (List.of_mem_zip hv).1,if_pos hk]
  simp
 | p::P,w::vs,i+1,m,nd,h1,h2,hk=>by
  show bindL kindOf ((p,w)::P.zip vs) m x=_
  unfold bindL
  exact z9u (i:=i) (y0r.mp nd).2 (by simpa using h1) (by simpa using h2) hk
theorem z9w {kindOf:Str->Option NameKind} {x:Str} {v:Value}:∀{P:List Str} {vs:List Value} {i:Nat} {m:Str->Option Value},P.Nodup->P[i]?=some x->vs[i]?=some v->kindOf x≠some .local ->
  bindC kindOf (P.zip vs) m x=some v
 | [],_,_,_,_,h,_,_=>by simp at h
 | _::_,[],_,_,_,_,h,_=>by simp at h
 | p::P,w::vs,0,m,nd,h1,h2,hk=>by
  simp at h1 h2;subst h1;subst h2
  show bindC kindOf ((p,w)::P.zip vs) m p=_
  unfold bindC
  rw[z9v fun v hv=>(y0r.mp nd).1 (List.of_mem_zip hv).1,if_neg hk]
  simp
 | p::P,w::vs,i+1,m,nd,h1,h2,hk=>by
  show bindC kindOf ((p,w)::P.zip vs) m x=_
  unfold bindC
  exact z9w (i:=i) (y0r.mp nd).2 (by simpa using h1) (by simpa using h2) hk
def start (N:List Str) (vs:List V):St:=vs.map some++y0g (N.length - vs.length) none
noncomputable def cxOf (CX:CXT) (P:y0q) (w:World) (K:y00) (mg:Str->Option Value) (base:Heap) (N:List Str) (qual:Str) (scope:Scope) (f:Addr) (cd:Value) (A:Around) (outer:List Env) (s:y04) (H:Hp) (E:XK):Cx where
 prog:=P
 w:=w
 K:=K
 mg:=mg
 base:=base
 A:=A.deeper (envOfC qual scope s.heap.objs.size f cd)
 N:=N
 s₀:=s
 H₀:=H
 env:=envOfC qual scope s.heap.objs.size f cd
 outer:=outer
 stack:=envOfC qual scope s.heap.objs.size f cd::outer
 ex:=[]
 calm:=true
 fn:=fun _=>true
 pn:=[]
 xe:=fun e s'=>y0u (model P w) (A.deeper (envOfC qual scope s.heap.objs.size f cd)) (leaving (envOfC qual scope s.heap.objs.size f cd) e) (fun _ s''=>CX outer H s E e s'') (fun e' s''=>CX outer H s E e' s'') s'
theorem zcf {sc:Scope} {n:Nat} {x:Str} (h:sc.names.lookup x=some .cell):∃c,(cellsFrom n sc.names []).lookup x=some c:=by
 have q:=PySem.W.cellsFrom_some sc.names n [] (.inl h)
 exact Option.isSome_iff_exists.mp q
theorem z9b {CX:CXT} {P:y0q} {w:World} {K:y00} {mg:Str->Option Value} {base:Heap} {N ps:List Str} {qual:Str} {scope:Scope} {f:Addr} {cd:Value} {A:Around} {outer:List Env} {s s1:y04} {H:Hp} {E:XK} {us:List Value} {vs:List V}
  (S:FnScope N ps scope) (hd:A.handled=none) (e0:Env0 P w K mg base A outer s H) (hl:vs.length=ps.length) (r:Vals vs us)
  (x:InCallC s s.heap.objs.size (bindL (envOfC qual scope s.heap.objs.size f cd).kindOf (ps.zip us) fun _=>none) (cellsFrom (s.heap.objs.size+1) scope.names []) (bindC (envOfC qual scope s.heap.objs.size f cd).kindOf (ps.zip us) fun _=>none) s1) :
  Inv (cxOf CX P w K mg base N qual scope f cd A outer s H E) [] (start N vs) H s1:=by
 have hpl:ps.length<=N.length:=by have:=congrArg List.length S.pre;rw[List.length_take] at this;omega
 obtain⟨h1,tk,rfl,hk⟩:=x.done
 have noA:∀b:Addr,b∉(cxOf CX P w K mg base N qual scope f cd A outer s H E).ex:=fun b z=>absurd (show b∈([]:List Addr) from z) (by simp)
 refine⟨⟨e0.mod,S.kind,rfl,rfl,y0o _,fun y z c h1 h2=>?_,fun y hy=>?_,fun y c _ h=>?_,fun _=>hd,Around.frames_deeper e0.frames,.inr ⟨rfl,rfl⟩,fun b z=>absurd z (noA b),e0.bs,e0.bsz,fun b _ _=>noA b,fun b z=>absurd z (noA b),e0.funs,e0.frf⟩,
  rfl,e0.bare,Un.kept hk,⟨_,x.toInCall.ns,fun i y v h1 h2 h3=>?_⟩,fun y c h=>⟨_,x.cell y c h⟩,e0.hok.fresh (y0o _),fun y c h=>?_,fun p hp=>absurd (show p∈([]:List (Addr×Obj)) from hp) (by simp),e0.hok.kept hk,?_⟩
 ·exact name_of_addr x.apart (y24 h1) (y24 h2)
 ·have hy:scope.names.lookup y=some .cell\/scope.names.lookup y=some .free:=hy
  rcases hy with hy|hy
  ·exact zcf hy
  ·exact absurd rfl (S.nofree _ (y24 hy))
 ·exact Nat.le_of_lt (x.above y c (y24 h))
 ·have hi:i<vs.length:=by
   unfold start at h2
   by_cases hi:i<vs.length
   ·exact hi
   ·rw[y1h (by simpa using hi)] at h2
    rw[List.getElem?_replicate] at h2
    split at h2 <;> cases h2
  have ha:vs[i]?=some v:=by
   unfold start at h2
   rw[y1j (by simpa using hi),y13] at h2
   cases e:vs[i]? with
   | none=>rw[e] at h2;cases h2
   | some a=>rw[e] at h2;cases h2;rfl
  obtain⟨u,hu,rv⟩:=r.get ha
  have hp:ps[i]?=some y:=by
   rw[<- S.pre,List.getElem?_take_of_lt (by omega)];exact h1
  have ndP:ps.Nodup:=by rw[<- S.pre];exact S.nd.sublist (List.take_sublist _ _)
  refine⟨u,rv,?_⟩
  rcases S.par y (y1p hp) with k|k
  ·exact .inl ⟨k,z9u ndP hp hu k⟩
  ·obtain⟨c,e⟩:=zcf (n:=s.heap.objs.size+1) k
   refine .inr ⟨.inl k,c,e,?_⟩
   have q:=x.cell y c e
   rw[z9w ndP hp hu (by show scope.names.lookup y≠_;rw[k];decide)] at q
   exact q
 ·exact e0.hok.fresh (Nat.le_of_lt (x.above y c (y24 h)))
 ·unfold start
  show _=N.length
  rw[y1x,y12,List.length_replicate]
  omega
theorem zl7 {CX:CXT} {P:y0q} {w:World} {K:y00} {mg:Str->Option Value} {base:Heap} {k:Nat} {f:Addr} {name qual:Str} {params:Arguments} {body:List Stmt} {scope:Scope} {dV kV doc pm cdv ct oc:Value} {an od:Option Addr}
  {osl:Array (Option Value)} {N ps:List Str} {sp:Sp} (lk:K.lookup f=some ⟨oc,od,.func (y0i name qual params body scope dV kV doc pm an cdv ct),osl⟩) (hcd:y0f K cdv qual=true) (S:FnScope N ps scope)
  (len:∀vs H Q E,sp vs H Q E->vs.length=ps.length)
  (hbody:∀(A:Around) (outer:List Env) (s:y04) (H:Hp) (vs:List V) (Q:VK) (E:XK),Room k (A.deeper (envOfC qual scope s.heap.objs.size f cdv))->sp vs H Q E ->
   ∃t,PSs (cxOf CX P w K mg base N qual scope f cdv A outer s H E) body t/\t { nx:=fun _ H'=>Q .non H',rt:=Q } (start N vs) H) :
  FnOk P w K mg base CX (k+1) f (y0i name qual params body scope dV kV doc pm an cdv ct) ps sp:=by
 refine⟨len,fun A outer s H args us vs Q E hr e0 hb r hsp=>?_⟩
 have hl:=len _ _ _ _ hsp
 have KX:K.In s.heap:=e0.mod.kin.keeps fun b o e=>(e0.bs b o e).1
 have lim:s.heap.NoLimit:=e0.mod.nolimit.keeps fun b o e=>(e0.bs b o e).1
 have hkind:∀y∈ps.zip us,scope.names.lookup y.1=some .local\/(scope.names.lookup y.1=some .cell/\((cellsFrom (s.heap.objs.size+1) scope.names []).lookup y.1).isSome=true):=fun⟨n,v⟩ hy=>by
  rcases S.par n (List.of_mem_zip hy).1 with q|q
  ·exact .inl q
  ·exact .inr ⟨q,PySem.W.cellsFrom_some _ _ _ (.inl q)⟩
 refine codeAny_call_function hr.depth (KX _ _ lk) rfl S.co S.gen rfl (PySem.W.codeRec_of KX hcd) (hb _ _ _ _ ?_)
 refine wpAny_newFunctionEnv_cells S.kind hkind fun env he s1 x=>?_
 subst he
 refine⟨lim.keeps x.toInCall.keep,codeAny_func ?_⟩
 obtain⟨t,ht,hq⟩:=hbody A outer s H vs Q E (hr.deeper _) hsp
 have I:Inv (cxOf CX P w K mg base N qual scope f cdv A outer s H E) [] (start N vs) H s1:=z9b S hr.hd e0 hl r x
 refine y1b (ht [] s1 (start N vs) H _ I hq) (fun fl s' hs=>?_) fun e s' hs=>hs
 have fin:∀{σ':St} {H':Hp} {v:V} {u:Value},Inv (cxOf CX P w K mg base N qual scope f cdv A outer s H E) [] σ' H' s'->RelV v u->Q v H'->CE outer P w H s Q u s' :=
  fun {σ' H' v u} J rv q=>⟨v,H',J.os,J.bare,J.base,J.hok,rv,q⟩
 cases fl with
 | ret u =>
  obtain⟨v,σ',H',J,rv,q⟩:=hs
  exact fin J rv q
 | next =>
  obtain⟨σ',H',J,q⟩:=hs
  exact fin (v:=V.non) (u:=Value.none) J rfl q
 | brk =>
  obtain⟨_,_,_,q⟩:=hs
  exact y1s q
 | cont =>
  obtain⟨_,_,_,q⟩:=hs
  exact y1s q
end L2
namespace L2
open PySem PySem.Spec PyProof.Rows
section
variable {X:Cx} {x:Str} {p pos:Pos} {e:Expr} {es:List Expr} {t:TA} {id T:String} {r:List V->Hp->VK->Prop}
def tCB (r:List V->Hp->VK->Prop) (t:TA):TE:=fun σ H Q=>t σ H fun vs H1=>r vs H1 Q
theorem z2x (hc:z3v X (.builtin id) r) (hg:Gl X x) (hm:X.mg x=none) (hv:bootBuiltins x=some (.builtin id)) (ha:PA X (e::es) t) (hn:x≠"__name__":=by decide) (hdb:(x == ("__debug__":Str))=false:=by decide)
  (he:y0a (e::es) X.env=(false,eval e X.env)::y0a es X.env:=by rfl) (hpl:(backTo pos (y0a es X.env)).any (·.1)=false:=by rfl):PE X (.Call (.Name x p) (e::es) [] pos) (tCB r t):=by
 intro pins s σ H Q I h
 refine wpAny_Call_Name_kw (z52 I hg hm hv ?_ hn hdb)
 exact PyProof.Rows.callWith_builtin1 (thn (ha pos pins s σ H _ I h) fun us s1 ⟨vs,H1,I1,r1,q1⟩=>hc pins s1 σ H1 vs us Q I1 r1 q1) he hpl
theorem z90 (hc:z3v X (.type T) r) (hg:Gl X x) (hm:X.mg x=none) (hv:bootBuiltins x=some (.type T)) (ha:PA X (e::es) t) (hn:x≠"__name__":=by decide) (hdb:(x == ("__debug__":Str))=false:=by decide)
  (he:y0a (e::es) X.env=(false,eval e X.env)::y0a es X.env:=by rfl) (hpl:(backTo pos (y0a es X.env)).any (·.1)=false:=by rfl):PE X (.Call (.Name x p) (e::es) [] pos) (tCB r t):=by
 intro pins s σ H Q I h
 refine wpAny_Call_Name_kw (z52 I hg hm hv ?_ hn hdb)
 exact y1n (thn (ha pos pins s σ H _ I h) fun us s1 ⟨vs,H1,I1,r1,q1⟩=>hc pins s1 σ H1 vs us Q I1 r1 q1) he hpl
end
end L2
namespace HT
open PySem PyProof.Rows
section
open PySem.SeqAt
open PySem.AutoSeq1 (wpAny_loadPart')
open PySem.MeetsSeq PySem.MeetsSeq2 PySem.MeetsSeq3
end
section
variable {prog:y0q} {w:World} {A:Around} {E:Value->y04->Prop} {s:y04}
theorem cat_tup {t b:Addr} {vs ws:List Value} {Q:Value->y04->Prop} (ht:IsTup s.heap t vs.toArray) (hb:IsTup s.heap b ws.toArray) (hv:vs≠[])
  (h1:ws=[]->Q (.ref t) s) (h2:ws≠[]->Q (.ref s.heap.objs.size) { s with heap:=s.heap.push { cls:=.type "tuple",data:=.seq (vs++ws).toArray } })
  (hsz:vs.length+ws.length<=y0j):y0u (model prog w) A (binaryOp .Add (.ref t) (.ref b)) Q E s:=by
 obtain⟨⟨cls,dd,data,sl⟩,ho,hc,n,hd⟩:=id ht
 obtain⟨⟨cls2,dd2,data2,sl2⟩,ho2,hc2,n2,hd2⟩:=id hb
 simp only at hc hd hc2 hd2
 subst hc hd hc2 hd2
 have e:vs.toArray++ws.toArray=(vs++ws).toArray:=by simp
 by_cases hw:ws=[]
 ·exact concat_meets ⟨_,ho,rfl⟩ ⟨_,ho2,rfl⟩ noFill_tuple_add seq_tuple_add PySem.F.slot_tuple_add PySem.F.entry_tuple_add (PySem.F.args_tuple_add_2 _ _)
   (tuple_addW1 t b vs.toArray ws.toArray n n2 dd dd2 sl sl2 (by simpa using hv) (by simp[hw])) ⟨ho,ho2,h1 hw⟩
 ·refine concat_meets ⟨_,ho,rfl⟩ ⟨_,ho2,rfl⟩ noFill_tuple_add seq_tuple_add PySem.F.slot_tuple_add PySem.F.entry_tuple_add (PySem.F.args_tuple_add_2 _ _)
   (tuple_addW2 t b vs.toArray ws.toArray n n2 dd dd2 sl sl2 (by simpa using hv) (by simpa using hw) (by rw[y0h,y0h];exact hsz)) ⟨ho,ho2,?_⟩
  rw[e]
  exact h2 hw
def sIx (n d:Nat):Option Int->Nat
 | none=>d
 | some v=>if v<0 then (v+(n:Int)).toNat else min v.toNat n
end
end HT
namespace L2
open PySem PySem.Spec PyProof.Rows
abbrev TO:=St->Hp->(Option Int->Hp->Prop)->Prop
theorem zd1 {ns:List Int}:∀{us:List Value},Vals (ns.map V.int) us->IntsAre us ns:=by
 induction ns with
 | nil=>intro us r;rw[y17] at r;cases r;exact .nil
 | cons n ns ih =>
  intro us r
  rw[y0d] at r
  cases r with
  | cons r1 r2 =>
   obtain⟨t,e⟩:=r1
   subst e
   exact .cons n t (ih r2)
section
variable {X:Cx} {e:Expr} {te:TE} {lo hi:Option Expr} {tl th:TO} {pos p2:Pos}
noncomputable def zog (K:y00):R2:=fun x y H Q=>∃a b xs ys,x=.ref a/\y=.ref b/\SqT K H a xs/\SqT K H b ys/\xs≠[]/\xs.length+ys.length<=y0j /\
 (ys=[]->Q (.ref a) H)/\(ys≠[]->∀p,H p=none->Q (.ref p) (upd H p (.tup (xs++ys))))
theorem Vals.nil_iff {xs:List V} {us:List Value} (r:Vals xs us):us=[] <-> xs=[]:=by
 cases r with
 | nil=>simp
 | cons _ _=>simp
theorem zkr:OpR X (binaryOp .Add) (zog X.K):=by
 intro pins s σ H x y v u Q I rx ry h
 obtain⟨a,b,xs,ys,rfl,rfl,ha,hb,hx,hz,q1,q2⟩:=h
 cases rx
 cases ry
 obtain⟨its,r1,p1,_⟩:=I.tuple ha
 obtain⟨its2,r2,p2,_⟩:=I.tuple hb
 refine HT.cat_tup p1 p2 (fun z=>hx (r1.nil_iff.mp z)) (fun z=>⟨.ref a,H,I,rfl,q1 (r2.nil_iff.mp z)⟩) (fun z=>?_) (by rw[<- r1.length,<- r2.length];exact hz)
 refine⟨.ref s.heap.objs.size,_,I.laid (t':=s.toks) (o:=.tup (xs++ys)) (fun b ob q=>y03 _ q) (y0o _) ?_,rfl,q2 (fun w=>z (r2.nil_iff.mpr w)) _ (I.hok.fresh (y0o _))⟩
 exact⟨by rw[y1x];exact hz,_,r1.append r2,IsTup.new _ _⟩
end
end L2
namespace L2
open PySem PySem.Spec PyProof.Rows
def ixN (n:Nat) (i:Int):Option Nat:=if 0<=i then (if i<n then some i.toNat else none) else if -(n:Int)<=i then some (i+n).toNat else none
def atI {α:Type} (xs:List α) (i:Int):Option α:=(ixN xs.length i).bind fun j=>xs[j]?
theorem zl1 {n:Nat} {i:Int} {j:Nat} (h:ixN n i=some j):seqIndex? i n=some j/\j<n/\-(n:Int)<=i/\i<n:=by
 unfold ixN at h
 by_cases h0:0<=i
 ·rw[if_pos h0] at h
  by_cases h1:i<n
  ·rw[if_pos h1] at h
   have e:i.toNat=j:=y27 h
   exact⟨by rw[seqIndex_of h0 h1,e],by omega,by omega,h1⟩
  ·rw[if_neg h1] at h;cases h
 ·rw[if_neg h0] at h
  by_cases h1:-(n:Int)<=i
  ·rw[if_pos h1] at h
   have e:(i+n).toNat=j:=y27 h
   exact⟨by rw[seqIndex_neg (by omega) h1,e],by omega,h1,by omega⟩
  ·rw[if_neg h1] at h;cases h
theorem zaz {α:Type} {xs:List α} {i:Int} {v:α} (h:atI xs i=some v):∃j,seqIndex? i xs.length=some j/\xs[j]?=some v/\j<xs.length/\-(xs.length:Int)<=i/\i<xs.length:=by
 unfold atI at h
 cases e:ixN xs.length i with
 | none=>rw[e] at h;cases h
 | some j =>
  rw[e] at h
  obtain⟨h1,h2,h3,h4⟩:=zl1 e
  exact⟨j,h1,h,h2,h3,h4⟩
def zb1 (b:Expr):Prop:=∀o i,subscripted b false o i=operate [o,i] (getItem o i)
noncomputable def IxR (X:Cx) (r:R2):Prop :=
 ∀(value z2l:Expr) (pins:List (Addr×Obj)) (s:y04) (σ:St) (H:Hp) (x y:V) (v u:Value) (Q:VK),Inv X pins σ H s->RelV x v->RelV y u->r x y H Q ->
  subscripted z2l false v u=operate [v,u] (getItem v u)->y0u (model X.prog X.w) X.A (subscriptTail value z2l v u) (EP X pins σ Q) X.xe s
noncomputable def MtR (X:Cx) (id:String) (r:V->List V->Hp->VK->Prop):Prop :=
 ∀(pins:List (Addr×Obj)) (s:y04) (σ:St) (H:Hp) (x:V) (xs:List V) (v:Value) (us:List Value) (Q:VK),Inv X pins σ H s->RelV x v->Vals xs us->r x xs H Q ->
  y0u (model X.prog X.w) X.A (call (.builtin id) (v::us)) (EP X pins σ Q) X.xe s
section
variable {X:Cx} {a b:Expr} {ta tb:TE} {pos:Pos}
theorem IxR.or {r r':R2} (h:IxR X r) (h':IxR X r'):IxR X (fun x y H Q=>r x y H Q\/r' x y H Q):=by
 intro value z2l pins s σ H x y v u Q I rx ry q hs
 rcases q with q|q
 ·exact h value z2l pins s σ H x y v u Q I rx ry q hs
 ·exact h' value z2l pins s σ H x y v u Q I rx ry q hs
theorem zom {r:R2} (hr:IxR X r) (ha:PE X a ta) (hb:PE X b tb) (hs:zb1 b):PE X (.Subscript a b pos) (tOp r ta tb):=by
 intro pins s σ H Q I h
 exact Subscript_ (binT ha hb I h fun v u s2 x y H2 I2 rx ry q=>hr a b pins s2 σ H2 x y v u Q I2 rx ry q (hs _ _))
def rIxL (K:y00):R2:=fun x y H Q=>∃p xs i v,x=.ref p/\y=.int i/\SqL K H p xs/\atI xs i=some v/\Q v H
def rIxT (K:y00):R2:=fun x y H Q=>∃p xs i v,x=.ref p/\y=.int i/\SqT K H p xs/\atI xs i=some v/\Q v H
def rIxS:R2:=fun x y H Q=>∃z i c,x=.str z/\y=.int i/\z.length<=y0j/\atI z.cps.toList i=some c/\Q (.str ⟨#[c]⟩) H
theorem zl0:IxR X (rIxL X.K):=by
 intro value z2l pins s σ H x y v u Q I rx ry h hs
 obtain⟨p,xs,i,z,rfl,rfl,hq,he,q⟩:=h
 cases rx
 obtain⟨t,rfl⟩:=ry
 obtain⟨its,r,pl,hz⟩:=I.list hq
 obtain⟨j,h1,h2,h3,h4,h5⟩:=zaz he
 obtain⟨w,ew,rw'⟩:=r.get h2
 have hl:=r.length
 have hn:=z73
 have fin:EP X pins σ Q w s:=⟨z,H,I,rw',q⟩
 by_cases h0:0<=i
 ·have hj:i.toNat=j:=by
   rw[seqIndex_of h0 h5] at h1
   exact y27 h1
  exact item_listR pl.isList h0 (by omega) (by rw[hj];simpa using ew) fin hs
 ·have hj:(i+(its.toArray.size:Int)).toNat=j:=by
   rw[seqIndex_neg (by omega) h4] at h1
   rw[y0h,<- hl]
   exact y27 h1
  exact subscriptTail_builtinR (x:=w) pl.isList.typeIs slot_list_getitem.lookup
   (wpAny_getItem_list_neg (Q:=fun r s'=>r=w/\EP X pins σ Q r s') pl.isList (by omega) (by rw[y0h] <;> omega) (by omega) (by rw[hj];simpa using ew) ⟨rfl,fin⟩) hs
theorem zn5:IxR X (rIxT X.K):=by
 intro value z2l pins s σ H x y v u Q I rx ry h hs
 obtain⟨p,xs,i,z,rfl,rfl,hq,he,q⟩:=h
 cases rx
 obtain⟨t,rfl⟩:=ry
 obtain⟨its,r,pl,hz⟩:=I.tuple hq
 obtain⟨j,h1,h2,h3,h4,h5⟩:=zaz he
 obtain⟨w,ew,rw'⟩:=r.get h2
 have hl:=r.length
 have hn:=z73
 have fin:EP X pins σ Q w s:=⟨z,H,I,rw',q⟩
 exact subscriptTail_builtinR (x:=w) pl.typeIs slot_tuple_getitem.lookup
  (getItem_tuple (j:=j) (Q:=fun r s'=>r=w/\EP X pins σ Q r s') pl (by omega) (by omega) (by rw[y0h,<- hl];exact h1) (by simpa using ew) ⟨rfl,fin⟩) hs
theorem zn6:IxR X rIxS:=by
 intro value z2l pins s σ H x y v u Q I rx ry h hs
 obtain⟨z,i,c,rfl,rfl,hz,he,q⟩:=h
 obtain⟨t,rfl⟩:=rx
 obtain⟨t',rfl⟩:=ry
 obtain⟨j,h1,h2,h3,h4,h5⟩:=zaz he
 have hl:z.cps.toList.length=z.length:=by simp[Str.length]
 rw[hl] at h1 h4 h5
 have hn:=z73
 exact tail_any (typeIs_str s z t) slot_str_getitem.lookup (getItem_str (c:=c) (by
  have e1:decide (i < -(2 ^ 63:Int))=false:=decide_eq_false (by omega)
  have e2:decide (i >= 2 ^ 63)=false:=decide_eq_false (by omega)
  rw[e1,e2,Bool.or_false]) (by rw[h1];simpa using h2) ⟨.str ⟨#[c]⟩,H,I.tok _,⟨_,rfl⟩,q⟩) hs
def rIx (K:y00):R2:=fun x y H Q=>rIxL K x y H Q\/rIxT K x y H Q\/rIxS x y H Q
theorem zn7:IxR X (rIx X.K):=zl0.or (zn5.or zn6)
theorem z9s:z3v X (.builtin "len") (fun xs H Q=>∃p ys,xs=[.ref p]/\(SqL X.K H p ys\/SqT X.K H p ys)/\Q (.int ys.length) H):=by
 intro pins s σ H xs us Q I r h
 obtain⟨p,ys,rfl,hq,q⟩:=h
 obtain⟨u,rfl,rx⟩:=z8d r
 cases rx
 have hn:=z73
 rcases hq with hq|hq
 ·obtain⟨its,r',pl,hz⟩:=I.list hq
  have hlen:=r'.length
  exact Calls.call_len_list pl.isList (by simp only[y0h] <;> omega) ⟨.int ys.length,H,I.tok _,⟨s.toks+1,by rw[y0h,hlen]⟩,q⟩
 ·obtain⟨its,r',pl,hz⟩:=I.tuple hq
  have hlen:=r'.length
  exact len_tuple pl (by simp only[y0h] <;> omega) ⟨.int ys.length,H,I.tok _,⟨s.toks+1,by rw[y0h,hlen]⟩,q⟩
theorem z9r:z3v X (.builtin "len") (fun xs H Q=>∃z,xs=[.str z]/\z.length<=y0j/\Q (.int z.length) H):=by
 intro pins s σ H xs us Q I r h
 obtain⟨z,rfl,hz,q⟩:=h
 obtain⟨u,rfl,t,rfl⟩:=z8d r
 have hn:=z73
 exact len_str (by omega) ⟨.int z.length,H,I.tok _,⟨_,rfl⟩,q⟩
theorem z3v.or {f:Value} {r r':List V->Hp->VK->Prop} (h:z3v X f r) (h':z3v X f r'):z3v X f (fun xs H Q=>r xs H Q\/r' xs H Q):=by
 intro pins s σ H xs us Q I rs q
 rcases q with q|q
 ·exact h pins s σ H xs us Q I rs q
 ·exact h' pins s σ H xs us Q I rs q
theorem z84:z3v X (.type "tuple") (fun xs H Q=>∃p ys,xs=[.ref p]/\((SqL X.K H p ys/\∀l,H l=none->Q (.ref l) (upd H l (.tup ys)))\/(SqT X.K H p ys/\Q (.ref p) H))):=by
 intro pins s σ H xs us Q I r h
 obtain⟨p,ys,rfl,h⟩:=h
 obtain⟨u,rfl,rx⟩:=z8d r
 cases rx
 rcases h with ⟨hq,q⟩|⟨hq,q⟩
 ·obtain⟨its,r',pl,hz⟩:=I.list hq
  have hlen:=r'.length
  refine call_tuple_list pl.isList (fun h' kp=>?_) (by simp only[y0h] <;> omega)
  have I1:Inv X pins σ H { s with heap:=h' }:=I.kept (t':=s.toks) kp
  have I2:Inv X pins σ (upd H h'.objs.size (.tup ys)) { s with heap:=h'.push { cls:=.type "tuple",data:=.seq its.toArray } } :=
   I1.laid (t':=s.toks) (fun b o e=>y03 _ e) (y0o _) (show z26 X.prog X.w _ _ _ (.tup ys) from ⟨hz,its,r',IsTup.new _ _⟩)
  exact⟨.ref h'.objs.size,_,I2,rfl,q _ (I1.hok.fresh (y0o _))⟩
 ·obtain⟨its,r',pl,hz⟩:=I.tuple hq
  exact call_tuple_same pl ⟨.ref p,H,I,rfl,q⟩
noncomputable def tyV (K:y00) (T:String) (x:V) (H:Hp):Prop:=match x with
 | .str _=>T="str"
 | .int _=>T="int"
 | .ref p=>(T="list"/\∃xs,SqL K H p xs)\/(T="tuple"/\∃o,K.lookup p=some o/\o.cls=.type "tuple"/\o.dict=none) \/
   (T="dict"/\((∃kvs,H p=some (.dK kvs))\/∃kvs,H p=some (.dT kvs)))\/(T="set"/\∃S n,H p=some (.set S n))
 | _=>False
theorem zj2 {pins:List (Addr×Obj)} {σ:St} {H:Hp} {s:y04} {T:String} {x:V} {v:Value} (I:Inv X pins σ H s) (r:RelV x v) (ty:tyV X.K T x H) :
  s.TypeIs v T/\∀a,v=.ref a->∃ob,s.heap.get? a=some ob/\ob.dict=none:=by
 cases x with
 | str z =>
  obtain⟨t,rfl⟩:=r
  cases (show T="str" from ty)
  exact⟨typeIs_str s z t,fun _ e=>nomatch e⟩
 | int i =>
  obtain⟨t,rfl⟩:=r
  cases (show T="int" from ty)
  exact⟨typeIs_int s i t,fun _ e=>nomatch e⟩
 | ref p =>
  cases r
  rcases ty with ⟨rfl,xs,hq⟩|⟨rfl,o,hk,hc,hd⟩|⟨rfl,hk⟩|⟨rfl,S,n,hk⟩
  ·obtain⟨its,_,pl,_⟩:=I.list hq
   refine⟨pl.isList.typeIs,fun a e=>?_⟩
   cases e
   obtain⟨o,n,e,c,hd,_⟩:=pl
   exact⟨o,e,hd⟩
  ·refine⟨⟨o,I.kIn p o hk,hc⟩,fun a e=>?_⟩
   cases e
   exact⟨o,I.kIn _ o hk,hd⟩
  ·have z:∃o,s.heap.get? p=some o/\o.ExactDict:=by
    rcases hk with ⟨kvs,hk⟩|⟨kvs,hk⟩
    ·obtain⟨_,_,_,_,o,_,_,e,ex,_⟩:=I.hok p _ hk
     exact⟨o,e,ex⟩
    ·obtain⟨_,_,_,_,o,_,_,e,ex,_⟩:=I.hok p _ hk
     exact⟨o,e,ex⟩
   obtain⟨o,e,ex⟩:=z
   refine⟨⟨o,e,ex.1⟩,fun a e2=>?_⟩
   cases e2
   exact⟨o,e,ex.2.1⟩
  ·obtain⟨o,_,_,_,e,ex,_⟩:=I.hok p _ hk
   refine⟨⟨o,e,ex.1⟩,fun a e2=>?_⟩
   cases e2
   exact⟨o,e,ex.2.1⟩
 | _=>exact y1s ty
def tBM0 (K:y00) (T:String) (r:V->List V->Hp->VK->Prop) (to:TE):TE:=fun σ H Q=>to σ H fun x H1=>tyV K T x H1/\r x [] H1 Q
def tBM (K:y00) (T:String) (r:V->List V->Hp->VK->Prop) (to:TE) (t:TA):TE:=fun σ H Q=>to σ H fun x H1=>tyV K T x H1/\t σ H1 fun xs H2=>r x xs H2 Q
variable {o e:Expr} {es:List Expr} {to:TE} {t:TA} {name:Str} {apos cpos:Pos} {T id:String} {r:V->List V->Hp->VK->Prop}
theorem zjb (pa:PlainAttrs T) (slot:Slot T name id) (hty:typeOf (.builtin id)=pure (.type "method_descriptor")) (hm:MtR X id r) (ho:PE X o to)
  (hbase:attributeBase o name X.env (eval o X.env)=eval o X.env:=by rfl) (hline:(apos.endLine == cpos.line)=true:=by rfl):PE X (.Call (.Attribute o name apos) [] [] cpos) (tBM0 X.K T r to):=by
 intro pins s σ H Q I h
 refine wpAny_Call_method0_late hbase hline (thn (ho pins s σ H _ I h) fun v s1 ⟨x,H1,I1,r1,ty,q1⟩=>?_)
 obtain⟨h1,h2⟩:=zj2 I1 r1 ty
 exact⟨T,id,pa,slot,hty,h1,h2,Calls.callWith_builtin rfl (PySem.evalArgs_none (hm pins s1 σ H1 x [] v [] Q I1 r1 .nil q1))⟩
theorem zhm (pa:PlainAttrs T) (slot:Slot T name id) (hty:typeOf (.builtin id)=pure (.type "method_descriptor")) (hm:MtR X id r) (ho:PE X o to) (ha:PA X (e::es) t)
  (hbase:attributeBase o name X.env (eval o X.env)=eval o X.env:=by rfl)
  (hfew:((backTo cpos (y0a (e::es) X.env)).all (fun x=>!x.1) && (backToKw cpos (keywordEach [] X.env)).all (fun x=>x.1.isSome)
   && decide ((e::es).length+([]:List Keyword).length+(if ([]:List Keyword).isEmpty then 0 else 1)<30))=true:=by rfl)
  (hline:(apos.endLine == cpos.line)=true:=by rfl) (hs:y0a (e::es) X.env=(false,eval e X.env)::y0a es X.env:=by rfl) (hplain:(backTo cpos (y0a es X.env)).any (·.1)=false:=by rfl) :
  PE X (.Call (.Attribute o name apos) (e::es) [] cpos) (tBM X.K T r to t):=by
 intro pins s σ H Q I h
 refine wpAny_Call_method_late hbase hfew hline rfl (thn (ho pins s σ H _ I h) fun v s1 ⟨x,H1,I1,r1,ty,q1⟩=>?_)
 obtain⟨h1,h2⟩:=zj2 I1 r1 ty
 refine⟨T,id,pa,slot,hty,h1,h2,?_⟩
 have hA:=ha cpos pins s1 σ H1 _ I1 q1
 rw[hs] at hA ⊢
 refine Calls.callWith_builtin (by show (false || (backTo cpos (y0a es X.env)).any (·.1))=false;rw[hplain] <;> rfl) (Calls.evalArgs_plain ?_)
 exact thn hA fun us s2 ⟨vs,H2,I2,r2,q2⟩=>hm pins s2 σ H2 x vs v us Q I2 r1 r2 q2
end
end L2
namespace L2
open PySem PySem.Spec PyProof.Rows
noncomputable def MtM (X:Cx) (id:String) (r:V->List V->Hp->VK->Prop):Prop :=
 ∀(pins:List (Addr×Obj)) (s:y04) (σ:St) (H:Hp) (x:V) (xs:List V) (v:Value) (us:List Value) (Q:VK),Inv X pins σ H s->RelV x v->Vals xs us->r x xs H Q ->
  y0u (model X.prog X.w) X.A (call (.builtin id) (v::us)) (EP X pins σ Q) X.xe s
theorem Vals.one:∀{x:V} {us:List Value},Vals [x] us->∃u,us=[u]/\RelV x u
 | _,_,.cons r .nil=>⟨_,rfl,r⟩
theorem Vals.zero:∀{us:List Value},Vals [] us->us=[]
 | _,.nil=>rfl
theorem Vals.dropLast {xs:List V} {us:List Value} (h:Vals xs us):Vals xs.dropLast us.dropLast:=by
 induction h with
 | nil=>exact .nil
 | cons r t ih =>
  cases t with
  | nil=>exact .nil
  | cons q t'=>exact .cons r ih
theorem Vals.eraseIdx:∀{xs:List V} {us:List Value} (i:Nat),Vals xs us->Vals (xs.eraseIdx i) (us.eraseIdx i)
 | _,_,_,.nil=>.nil
 | _,_,0,.cons _ t=>t
 | _,_,i+1,.cons r t=>.cons r (Vals.eraseIdx i t)
theorem zd4 {α:Type} (l:List α):l.eraseIdx (l.length - 1)=l.dropLast:=by
 induction l with
 | nil=>rfl
 | cons a r ih =>
  cases r with
  | nil=>rfl
  | cons b r =>
   have e:(a::b::r).length - 1=((b::r).length - 1)+1:=by
    have h1:(a::b::r).length=r.length+2:=rfl
    have h2:(b::r).length=r.length+1:=rfl
    omega
   rw[e,List.eraseIdx_cons_succ,ih]
   all_goals rfl
section
variable {X:Cx} {pins:List (Addr×Obj)} {σ:St} {H:Hp} {s:y04} {l b:Addr} {xs ys zs:List V}
theorem Inv.lset {its its':List Value} {n:Nat} {f:Array Value->Array Value} {t':Nat} (I:Inv X pins σ H s) (hH:H l=some (.lst xs))
  (e:s.heap.get? l=some { cls:=.type "list",data:=.seq its.toArray n }) (hf:f its.toArray=its'.toArray) (hv:Vals ys its') (hz:ys.length<=y0j) :
  Inv X pins σ (upd H l (.lst ys)) { s with heap:=s.heap.update l (Obj.mapSeq f),toks:=t' }:=by
 have q:=PySem.IsL.update e f
 rw[hf] at q
 refine I.write (x:=l) (e:=l) (by rw[hH];exact trivial) (.inl rfl) (fun b' u hb hu=>(Heap.get?_update_other s.heap (Obj.mapSeq f) (Ne.symm hb)).trans hu) ⟨_,q⟩ ?_
 exact⟨hz,its',_,hv,q⟩
theorem Inv.lnew {its:List Value} {t':Nat} (I:Inv X pins σ H s) (hv:Vals ys its) (hz:ys.length<=y0j) :
  Inv X pins σ (upd H s.heap.objs.size (.lst ys)) { s with heap:=s.heap.push { cls:=.type "list",data:=.seq its.toArray },toks:=t' } :=
 I.laid (fun _ _ q=>y03 _ q) (y0o _) ⟨hz,its,0,hv,y0l _ rfl⟩
theorem Inv.fresh (I:Inv X pins σ H s):H s.heap.objs.size=none:=I.hok.fresh (y0o _)
theorem Inv.lstM (I:Inv X pins σ H s) (hH:H l=some (.lst xs)):xs.length<=y0j/\∃(its:List Value) (n:Nat),Vals xs its/\xs.length=its.length/\s.heap.get? l=some { cls:=.type "list",data:=.seq its.toArray n }:=by
 obtain⟨z,its,n,r,e⟩:=I.hok l _ hH
 exact⟨z,its,n,r,r.length,e⟩
theorem zhx {n:Nat} (h:n<=y0j):Builtin.List.listTooLong n=false:=by
 unfold Builtin.List.listTooLong
 exact decide_eq_false (by omega)
end
section
variable {X:Cx}
def zk9:V->List V->Hp->VK->Prop:=fun x vs H Q=>∃l xs y,x=.ref l/\vs=[y]/\H l=some (.lst xs)/\xs.length<y0j/\Q .non (upd H l (.lst (xs++[y])))
theorem z92:MtM X "list.append" zk9:=by
 intro pins s σ H x vs v us Q I rx rv h
 obtain⟨l,xs,y,rfl,rfl,hH,hz,q⟩:=h
 cases rx
 obtain⟨u,rfl,ru⟩:=rv.one
 obtain⟨z,its,n,r,hl,e⟩:=I.lstM hH
 refine call_meets F.slot_list_append ⟨_,e,rfl⟩ F.entry_list_append (F.args_list_append_2 _ _) (PySem.list_append l its.toArray n u (by rw[y0h];omega)) ⟨e,?_⟩
 refine⟨.non,_,I.lset (its':=its++[u]) hH e (by simp) (r.append (.cons ru .nil)) ?_,rfl,q⟩
 rw[y1x,List.length_singleton]
 omega
def rPop:V->List V->Hp->VK->Prop:=fun x vs H Q=>∃l xs y,x=.ref l/\vs=[]/\H l=some (.lst xs)/\xs[xs.length - 1]?=some y/\Q y (upd H l (.lst xs.dropLast))
theorem zf3:MtM X "list.pop" rPop:=by
 intro pins s σ H x vs v us Q I rx rv h
 obtain⟨l,xs,y,rfl,rfl,hH,hy,q⟩:=h
 cases rx
 have hus:=rv.zero
 subst hus
 obtain⟨z,its,n,r,hl,e⟩:=I.lstM hH
 obtain⟨u,hu,ru⟩:=r.get hy
 have hy':its.toArray[its.toArray.size - 1]?=some u:=by
  show its.toArray[its.length - 1]?=some u
  rw[<- Array.getElem?_toList,<- hl]
  exact hu
 refine call_meets F.slot_list_pop ⟨_,e,rfl⟩ F.entry_list_pop (F.args_list_pop_1 _) (MeetsSeq.list_pop_last l its.toArray n u hy' (by rw[y0h];omega)) ⟨e,?_⟩
 refine⟨y,_,I.lset (its':=its.dropLast) hH e ?_ r.dropLast ?_,ru,q⟩
 ·show its.toArray.eraseIdxIfInBounds (its.toArray.size - 1)=its.dropLast.toArray
  rw[y0h,List.eraseIdxIfInBounds_toArray,zd4]
 ·rw[List.length_dropLast]
  omega
end
section
variable {prog:y0q} {w:World} {A:Around} {E:Value->y04->Prop} {s:y04}
end
section
variable {X:Cx}
end
end L2
namespace Att
open PySem PySem.W PySem.Calls PyProof.Rows
theorem z64 {P:Params} {h:Heap}:∀(ns:List Int) (vs:List Value),WellAll P h vs (ns.map WData.int)->IntsAre vs ns:=by
 intro ns
 induction ns with
 | nil =>
  intro vs w
  rw[y17] at w
  cases w
  exact .nil
 | cons n ns ih =>
  intro vs w
  rw[y0d] at w
  cases w with
  | cons a b =>
   cases a
   exact .cons _ _ (ih _ b)
theorem zdv {l:OpenLaw} {n:Nat} (hn:l.most=some n) {P:Params} {h:Heap} {args:List WData} {vals:List Value}
    (hpre:l.row.toRowW.claim.pre args=true) (hwl:WellAll P h vals args) :
    ∃a vs ns,vals=[Value.ref a]/\args=[WData.list (ns.map WData.int)]/\h.get? a=some { cls:=.type "list",data:=.seq vs.toArray }/\IntsAre vs ns/\ns.length<=n:=by
  have hsh:WShape.hasAll [] args [.list .int]=true:=(pre_splitW hpre).1
  have hc:l.pre.holds [] { args:=args }=true:=(pre_splitW hpre).2
  obtain⟨d,r,rfl,h1,h2⟩:=hasAllW_cons hsh
  obtain rfl:=hasAllW_nil h2
  obtain⟨xs,rfl,h3⟩:=hasW_list h1
  obtain⟨ns,rfl⟩:=items_int h3
  have hlen:ns.length<=n:=by
    unfold OpenLaw.pre at hc
    have h4:(WTm.not (.lt (.lit (.int (n:Int))) (.len (.arg 0)))).holds [] { args:=[.list (ns.map .int)] }=true:=by
      have h4:=(holds_andW hc).1
      rw[hn] at h4
      exact h4
    have h5:=condW_of h4 (w_not (w_lt w_lit (w_len_list (w_arg rfl))))
    rw[y12] at h5
    refine Nat.le_of_not_lt fun q=>?_
    have q':(n:Int)<((ns.length:Nat):Int):=by omega
    first
      | (rw[decide_eq_true q'] at h5;exact absurd h5 (by decide))
      | (simp at h5;omega)
  cases hwl with
  | cons w1 w2 =>
    cases w2
    cases w1 with
    | list ho hall=>exact⟨_,_,ns,rfl,rfl,ho,z64 ns _ hall,hlen⟩
theorem zei (l:OpenLaw) (args:List WData):l.row.toRowW.claim.post args (.bool true) args=true :=
 postW_of (r:=l.row.toRowW) (X:=(true == true))
  (show WShape.has [] (.bool true) .bool=true by first|rfl|decide|simp[WShape.has,WShape.arms,WShape.armsAll])
  (show (WTm.eq .res (.lit (.bool true))).value [] { args:=args,res:=some (.bool true),after:=args }=some (.bool (true == true)) from w_eq_bool (w_res rfl) w_lit) rfl
theorem attach_call {l:OpenLaw} {n:Nat} {q:y0q} {loose:List Str} {XP:(Str->Option Value)->Heap->Prop} {YP:World->Heap->Prop} {d:DefRec}
  (hn:l.most=some n) (hdf:d.params.defaults=[])
  (call:∀(w:World) (s₀ s₁:y04) (mg mb:Str->Option Value) (fa:Addr) (o:Obj) (pm cd doc:Value) (a:Addr) (vs:List Value) (ns:List Int),
   Ground q loose [] XP w s₀ mg mb s₁.heap->YP w s₁.heap ->
   s₁.heap.get? fa=some o->o.data=.func (docDef d.name d.params d.body d.scope pm cd doc)->s₁.heap.CodeRec cd d.name->mg d.name=some (.ref fa) ->
   s₁.heap.get? a=some { cls:=.type "list",data:=.seq vs.toArray }->IntsAre vs ns->ns.length<=n->s₁.gens=#[] ->
   codeAny (model l.prog w) callerA (.call (.ref fa) ⟨[.ref a],[]⟩) (fun r s'=>r=.ok (.ret (.bool true))/\OldK s₁.heap s'.heap/\s'.os=s₁.os/\AllBare s'.gens) s₁) :
  WalkO q loose XP YP l.row.toRowW d [] (fun f vs=>PySem.call f vs):=by
 intro w s₀ s₁ mg mb G Y fa o pm cd doc dV kV ho hd hcd hD hmg hg args vals as hpre hlay hrd hwl hlo
 obtain rfl:dV=.none:=Dflts.none hD hdf
 obtain rfl:kV=.none:=Dflts.noKw hD
 obtain⟨a,vs,ns,rfl,rfl,hobj,hints,hlen⟩:=zdv hn hpre hwl
 refine enter_call (codeAny_mono (call w s₀ s₁ mg mb fa o pm cd doc a vs ns G Y ho (fd_plain hd) hcd hmg hobj hints hlen hg) fun r s' hq=>?_)
 obtain⟨rfl,h2,h3,h4⟩:=hq
 exact⟨.inl ⟨.bool true,.bool true,[],rfl,fun _=>rfl,.bool true,zei l _,fun _=>⟨List.Pairwise.nil,fun _ hm=>(nomatch hm)⟩⟩,h2,h3,h4⟩
section
variable {prog:y0q} {w:World} {A:Around} {E:Value->y04->Prop} {s:y04} {K:Frag}
end
end Att
namespace L2
open PySem PySem.Spec PyProof.Rows
theorem z8c:∀{vs:List Value} {ns:List Int},IntsAre vs ns->Vals (ns.map V.int) vs
 | _,_,.nil=>.nil
 | _,_,.cons n t h=>.cons ⟨t,rfl⟩ (z8c h)
end L2
namespace L2
open PySem PySem.Spec PyProof.Rows
end L2
namespace L2
open PySem PySem.Spec PyProof.Rows
noncomputable def z0l (s:Stmt):Arguments:=match s with
 | .FunctionDef _ a _ _ _ _ _ _ _ _=>a
 | _=>{ posonlyargs:=[],args:=[],vararg:=none,kwonlyargs:=[],kw_defaults:=[],kwarg:=none,defaults:=[] }
def z08 (s:Stmt):List Stmt:=match s with
 | .FunctionDef _ _ b _ _ _ _ _ _ _=>b
 | _=>[]
def z00 (s:Stmt):Scope:=match s with
 | .FunctionDef _ _ _ _ _ _ sc _ _ _=>sc
 | _=>{ kind:=.function,names:=[],isGenerator:=false,isCoroutine:=false }
abbrev CX0:CXT:=fun _ _ _ _ _ _=>False
abbrev E0:XK:=fun _ _ _=>False
theorem zon {X:Cx}:zci CX0 X E0:=fun _ _ _ _ _ _ _ h=>h.elim
structure Fun (K:y00) (x qual:Str) (st:Stmt) (f:Addr) (fd:y0b):Prop where
 ex:∃(oc:Value) (od:Option Addr) (kV doc pm:Value) (an:Option Addr) (cdv ct:Value) (osl:Array (Option Value)),
  fd=y0i x qual (z0l st) (z08 st) (z00 st) .none kV doc pm an cdv ct/\K.lookup f=some ⟨oc,od,.func fd,osl⟩/\y0f K cdv qual=true
 kp:y08 K (.ref f)=true
section
variable {P:y0q} {w:World} {K:y00} {mg:Str->Option Value} {base:Heap}
theorem Fun.ok {x qual:Str} {st:Stmt} {f:Addr} {fd:y0b} {N ps:List Str} {k:Nat} {sp:Sp} (F:Fun K x qual st f fd) (S:FnScope N ps (z00 st)) (len:∀vs H Q E,sp vs H Q E->vs.length=ps.length)
  (hbody:∀(cdv:Value) (A:Around) (outer:List Env) (s:y04) (H:Hp) (vs:List V) (Q:VK) (E:XK),Room k (A.deeper (envOfC qual (z00 st) s.heap.objs.size f cdv))->sp vs H Q E ->
   ∃t,PSs (cxOf CX0 P w K mg base N qual (z00 st) f cdv A outer s H E).nox (z08 st) t/\t { nx:=fun _ H'=>Q .non H',rt:=Q } (start N vs) H):FnOk P w K mg base CX0 (k+1) f fd ps sp:=by
 obtain⟨oc,od,kV,doc,pm,an,cdv,ct,osl,rfl,lk,hcd⟩:=F.ex
 refine zl7 lk hcd S len fun A outer s H vs Q E hr hsp=>?_
 obtain⟨t,h,q⟩:=hbody cdv A outer s H vs Q E hr hsp
 exact⟨t,h.nox,q⟩
theorem Fun.binds {x qual:Str} {st:Stmt} {f:Addr} {fd:y0b} {ps:List Str} (F:Fun K x qual st f fd)
  (h:∀(kV doc pm:Value) (an:Option Addr) (cdv ct:Value) (us:List Value),us.length=ps.length->bindArgs (y0i x qual (z0l st) (z08 st) (z00 st) .none kV doc pm an cdv ct) ⟨us,[]⟩=pure (ps.zip us)):z1k K fd ps []:=by
 obtain⟨oc,od,kV,doc,pm,an,cdv,ct,osl,rfl,lk,hcd⟩:=F.ex
 exact .all (h kV doc pm an cdv ct)
theorem z2c {x qual:Str} {st:Stmt} {f:Addr} {oc:Value} {od an:Option Addr} {osl:Array (Option Value)} {kV doc pm cdv ct:Value} (l:K.lookup f=some ⟨oc,od,.func (y0i x qual (z0l st) (z08 st) (z00 st) .none kV doc pm an cdv ct),osl⟩)
  (c:y0f K cdv qual=true) (k:y08 K (.ref f)=true):Fun K x qual st f (y0i x qual (z0l st) (z08 st) (z00 st) .none kV doc pm an cdv ct):=⟨⟨oc,od,kV,doc,pm,an,cdv,ct,osl,rfl,l,c⟩,k⟩
end
theorem znb {A:Around} {k:Nat} (hr:Room k A):A.units+1<cLine:=Nat.lt_of_le_of_lt (Nat.add_le_add_left (by decide:1<=64) _) hr.units
section
variable {X:Cx}
theorem pv (i:Nat) {x:Str} {pos:Pos} (hN:X.N[i]?=some x:=by rfl) (hv:Vis X.env.scope x:=by first|exact Or.inl rfl|exact Or.inr (Or.inl rfl)|exact Or.inr (Or.inr rfl)) (hd:(x == ("__debug__":Str))=false:=by decide)
  (hcd:(x == ("__classdict__":Str))=false:=by decide):PE X (.Name x pos) (tVar i):=zml hN hv hd hcd
end
theorem iteF {A B:Prop} (h:B):if false=true then A else B:=by
 rw[if_neg y1y]
 exact h
theorem iteT {A B:Prop} (h:A):if true=true then A else B:=by
 rw[if_pos rfl]
 exact h
def Same (H H':Hp):Prop:=∀b o,H b=some o->H' b=some o
end L2
end
section
namespace D
open PySem
abbrev T:=PyData
def okT (a:T):Bool:=a.canLay0 && decide (a.depth<=60)
def okL (as:List T):Bool:=y1e as && decide (y1c as<=60)
abbrev Key:=Sum Int Str
inductive Md where
 | ro|own|lent
 deriving DecidableEq
inductive Sl where
 | imm (t:T)|own (ts:List T)|dic (kvs:List (Key×T))|obj (m:Md) (c:Nat) (fs:List Sl)
abbrev Ev:=List (Option Sl)
inductive Out where
 | nx (ε:Ev)|rt (t:T)|bk (ε:Ev)|ct (ε:Ev)|rtm (t:T) (ε:Ev)|rto (s:Sl)
abbrev Fe:=Ev->Option T
abbrev Ft:=Ev->Option Bool
abbrev Fs:=Ev->Option Out
abbrev Fi:=Ev->Option (List T)
abbrev Fg:=T->Ev->Option Ev
def big:Nat:=16777216
noncomputable def oAdd:T->T->Option T
 | .int i,.int j=>some (.int (i+j))
 | .str x,.str y=>if x.length+y.length<=big then some (.str (x++y)) else none
 | .tuple xs,.tuple ys=>if xs.length+ys.length<=big then some (.tuple (xs++ys)) else none
 | .list xs,.list ys=>if xs.length+ys.length<=big then some (.list (xs++ys)) else none
 | _,_=>none
def oSub:T->T->Option T
 | .int i,.int j=>some (.int (i - j))
 | _,_=>none
def zhz (i j:Int):Bool:=(decide (-(2 ^ 64)<i) && decide (i<2 ^ 64)) || (decide (-(2 ^ 64)<j) && decide (j<2 ^ 64))
def oMul:T->T->Option T
 | .int i,.int j=>if zhz i j then some (.int (i*j)) else none
 | _,_=>none
def oDiv:T->T->Option T
 | .int i,.int j=>if 0<j/\j<1073741824 then some (.int (i / j)) else none
 | _,_=>none
def oMod:T->T->Option T
 | .int i,.int j=>if 0<j then some (.int (i % j)) else none
 | _,_=>none
def oNeg:T->Option T
 | .int i=>some (.int (-i))
 | _=>none
def ixOf (n:Nat) (i:Int):Option Nat:=if 0<=i then (if i<n then some i.toNat else none) else if -(n:Int)<=i then some (i+n).toNat else none
def atZ {α:Type} (xs:List α) (i:Int):Option α:=(ixOf xs.length i).bind fun j=>xs[j]?
noncomputable def oIx:T->T->Option T
 | .tuple xs,.int i=>atZ xs i
 | .list xs,.int i=>atZ xs i
 | .str x,.int i=>if x.length<=big then (atZ x.cps.toList i).map fun c=>.str ⟨#[c]⟩ else none
 | _,_=>none
def oEq (a b:T):Option T:=if okT a && okT b then some (.bool (y1v a b)) else none
def oNe (a b:T):Option T:=if okT a && okT b then some (.bool (!PyData.eqv a b)) else none
def oIsN (a:T):Option T:=some (.bool (match a with|.none=>true|_=>false))
def z0p (a:T):Option T:=some (.bool (match a with|.none=>false|_=>true))
def z4n (x y:Str):Bool:=decide (x.cps.toList<y.cps.toList)
def oLt:T->T->Option T
 | .int i,.int j=>some (.bool (decide (i<j)))
 | .str x,.str y=>some (.bool (z4n x y))
 | _,_=>none
def oLe:T->T->Option T
 | .int i,.int j=>some (.bool (decide (i<=j)))
 | .str x,.str y=>some (.bool (!z4n y x))
 | _,_=>none
def oGt:T->T->Option T
 | .int i,.int j=>some (.bool (decide (j<i)))
 | .str x,.str y=>some (.bool (z4n y x))
 | _,_=>none
def oGe:T->T->Option T
 | .int i,.int j=>some (.bool (decide (j<=i)))
 | .str x,.str y=>some (.bool (!z4n x y))
 | _,_=>none
def hasT (x:T) (ts:List T):Bool:=ts.any fun y=>y1v y x
noncomputable def oIn (neg:Bool):T->T->Option T
 | x,.tuple ys=>if okT x && okL ys then some (.bool (if neg then !hasT x ys else hasT x ys)) else none
 | x,.list ys=>if okT x && okL ys then some (.bool (if neg then !hasT x ys else hasT x ys)) else none
 | _,_=>none
def oLen:List T->Option T
 | [.tuple xs]=>some (.int xs.length)
 | [.list xs]=>some (.int xs.length)
 | [.str x]=>if x.length<=big then some (.int x.length) else none
 | _=>none
def oMin:List T->Option T
 | [.int i,.int j]=>some (.int (if j<i then j else i))
 | _=>none
def oMax:List T->Option T
 | [.int i,.int j]=>some (.int (if j > i then j else i))
 | _=>none
def z2n:List T->Option T
 | [.tuple xs]=>some (.tuple xs)
 | [.list xs]=>some (.tuple xs)
 | _=>none
def zmw:List T->Option T
 | [.tuple xs]=>some (.list xs)
 | [.list xs]=>some (.list xs)
 | _=>none
def oInt:List T->Option T
 | [.int i]=>some (.int i)
 | [.bool b]=>some (.int (if b then 1 else 0))
 | _=>none
def sIx (n d:Nat):Option Int->Nat
 | none=>d
 | some v=>(if v<0 then max (v+n) 0 else min v n).toNat
def cutZ {α:Type} (xs:List α) (lo hi:Option Int):List α:=(xs.drop (sIx xs.length 0 lo)).take (sIx xs.length xs.length hi - sIx xs.length 0 lo)
def oSl (t:T) (lo hi:Option Int):Option T:=match t with
 | .tuple xs=>some (.tuple (cutZ xs lo hi))
 | .list xs=>some (.list (cutZ xs lo hi))
 | _=>none
def z3e:List T->Option (List Int)
 | []=>some []
 | .int i::ts=>(z3e ts).map fun r=>i::r
 | _::_=>none
def insI (x:Int):List Int->List Int
 | []=>[x]
 | y::ys=>if x<=y then x::y::ys else y::insI x ys
def z3a:List Int->List Int
 | []=>[]
 | x::xs=>insI x (z3a xs)
def insS (x:Str):List Str->List Str
 | []=>[x]
 | y::ys=>if !z4n y x then x::y::ys else y::insS x ys
def z8l:List Str->List Str
 | []=>[]
 | x::xs=>insS x (z8l xs)
def z7y:T->Option Key
 | .int i=>some (.inl i)
 | .str x=>some (.inr x)
 | _=>none
def putD (kvs:List (Key×T)) (k:Key) (v:T):List (Key×T):=if kvs.any (fun p=>decide (p.1=k)) then kvs.map fun p=>if p.1=k then (k,v) else p else kvs++[(k,v)]
def hasD (kvs:List (Key×T)) (k:Key):Bool:=kvs.any fun p=>decide (p.1=k)
def keyT:Key->T
 | .inl i=>.int i
 | .inr x=>.str x
def dic? (i:Nat) (ε:Ev):Option (List (Key×T)):=match ε[i]? with
 | some (some (.dic kvs))=>some kvs
 | _=>none
def dIn (neg:Bool) (f:Fe) (i:Nat):Fe:=fun ε=>(f ε).bind fun t=>(z7y t).bind fun k=>(dic? i ε).map fun kvs=>.bool (if neg then !hasD kvs k else hasD kvs k)
def z6b (i:Nat):Fe:=fun ε=>(dic? i ε).bind fun kvs=>if kvs.length<64 then (z3e (kvs.map fun p=>keyT p.1)).map fun ns=>.list ((z3a ns).map .int) else none
def cst (t:T):Fe:=fun _=>some t
def nm (i:Nat):Fe:=fun ε=>match ε[i]? with
 | some (some (.imm t))=>some t
 | some (some (.own ts))=>some (.list ts)
 | _=>none
def nmV (i:Nat):Fe:=fun ε=>match ε[i]? with
 | some (some (.imm t))=>some t
 | _=>none
def op1 (o:T->Option T) (f:Fe):Fe:=fun ε=>(f ε).bind o
def op2 (o:T->T->Option T) (f g:Fe):Fe:=fun ε=>(f ε).bind fun x=>(g ε).bind fun y=>o x y
def args:List Fe->Ev->Option (List T)
 | [],_=>some []
 | f::fs,ε=>(f ε).bind fun t=>(args fs ε).map fun ts=>t::ts
def opN (o:List T->Option T) (fs:List Fe):Fe:=fun ε=>(args fs ε).bind o
def z03 (fs:List Fe):Fe:=fun ε=>(args fs ε).bind fun ts=>if ts.length<=big then some (.tuple ts) else none
def z0i (fs:List Fe):Fe:=fun ε=>(args fs ε).bind fun ts=>if ts.length<=big then some (.list ts) else none
def opt (f:Fe):Ev->Option (Option Int):=fun ε=>(f ε).bind fun t=>match t with|.int i=>some (some i)|_=>none
def optN:Ev->Option (Option Int):=fun _=>some none
def z2l (f:Fe) (lo hi:Ev->Option (Option Int)):Fe:=fun ε=>(f ε).bind fun t=>(lo ε).bind fun l=>(hi ε).bind fun h=>oSl t l h
def notV (f:Fe):Fe:=fun ε=>(f ε).bind fun t=>match t with|.bool b=>some (.bool (!b))|_=>none
def tstB (f:Fe):Ft:=fun ε=>(f ε).bind fun t=>match t with|.bool b=>some b|_=>none
def tstL (f:Fe):Ft:=fun ε=>(f ε).bind fun t=>match t with|.list ts=>some (!ts.isEmpty)|.tuple ts=>some (!ts.isEmpty)|_=>none
def andT (f g:Ft):Ft:=fun ε=>(f ε).bind fun b=>if b then g ε else some false
def orT (f g:Ft):Ft:=fun ε=>(f ε).bind fun b=>if b then some true else g ε
def notT (f:Ft):Ft:=fun ε=>(f ε).map fun b=>!b
def cstT (b:Bool):Ft:=fun _=>some b
def ofT (c:Ft):Fe:=fun ε=>(c ε).map .bool
def z0a (f:Fe):Fi:=fun ε=>(f ε).bind fun t=>match t with|.tuple ts=>some ts|.list ts=>some ts|_=>none
def z4q (f:Fe):Fi:=fun ε=>(f ε).bind fun t=>match t with|.tuple ts=>some ts|_=>none
def rng (lo hi:Int):List T:=(List.range (hi - lo).toNat).map fun (k:Nat)=>.int (lo+(k:Int))
def z1h (i:Int):Bool:=decide (-(2 ^ 62)<=i) && decide (i<2 ^ 62)
def z36 (f:Fe):Fi:=fun ε=>(f ε).bind fun t=>match t with|.int j=>if z1h j then some (rng 0 j) else none|_=>none
def z74 (f g:Fe):Fi:=fun ε=>(f ε).bind fun t=>(g ε).bind fun u=>match t,u with|.int i,.int j=>if z1h i && z1h j then some (rng i j) else none|_,_=>none
def enum (ts:List T):List T:=ts.zipIdx.map fun p=>.tuple [.int p.2,p.1]
def z1p (f:Fi):Fi:=fun ε=>(f ε).map enum
def gNm (i:Nat):Fg:=fun t ε=>some (ε.set i (some (.imm t)))
def gAll:List Fg->List T->Ev->Option Ev
 | [],[],ε=>some ε
 | g::gs,t::ts,ε=>(g t ε).bind fun ε'=>gAll gs ts ε'
 | _,_,_=>none
def gTu (gs:List Fg):Fg:=fun t ε=>match t with|.tuple ts=>gAll gs ts ε|_=>none
noncomputable def z1v (g:Fg) (c:Ft) (e:Fe):List T->Ev->Option (List T)
 | [],_=>some []
 | t::ts,ε=>(g t ε).bind fun ε1=>(c ε1).bind fun b=>if b then (e ε1).bind fun y=>(z1v g c e ts ε1).map fun ys=>y::ys else z1v g c e ts ε1
def z16 (own:Nat) (caps:List Nat) (ε:Ev):Ev:=y0g own none++caps.map fun i=>(ε[i]?).join
def comp (own:Nat) (caps:List Nat) (it:Fi) (g:Fg) (c:Ft) (e:Fe):Fe:=fun ε=>(it ε).bind fun ts=>if ts.length<=big then (z1v g c e ts (z16 own caps ε)).map .list else none
def skip:Fs:=fun ε=>some (.nx ε)
def seq (a b:Fs):Fs:=fun ε=>(a ε).bind fun o=>match o with|.nx ε'=>b ε'|o=>some o
def asg (i:Nat) (f:Fe):Fs:=fun ε=>(f ε).map fun t=>.nx (ε.set i (some (.imm t)))
def asgN (i:Nat) (f:Fe):Fs:=fun ε=>(f ε).bind fun t=>match t with|.list ts=>some (.nx (ε.set i (some (.own ts))))|_=>none
def asgT (g:Fg) (f:Fe):Fs:=fun ε=>(f ε).bind fun t=>(g t ε).map .nx
def rtn (f:Fe):Fs:=fun ε=>(f ε).map .rt
def iff (c:Ft) (a b:Fs):Fs:=fun ε=>(c ε).bind fun x=>if x then a ε else b ε
def brk:Fs:=fun ε=>some (.bk ε)
def cnt:Fs:=fun ε=>some (.ct ε)
noncomputable def forL (g:Fg) (b:Fs):List T->Ev->Option Out
 | [],ε=>some (.nx ε)
 | t::ts,ε=>(g t ε).bind fun ε1=>(b ε1).bind fun o=>match o with
  | .nx ε2=>forL g b ts ε2
  | .ct ε2=>forL g b ts ε2
  | .bk ε2=>some (.nx ε2)
  | .rt t=>some (.rt t)
  | .rtm t ε2=>some (.rtm t ε2)
  | .rto s=>some (.rto s)
def for_ (it:Fi) (g:Fg) (b:Fs):Fs:=fun ε=>(it ε).bind fun ts=>forL g b ts ε
noncomputable def whl (c:Ft) (b:Fs):Nat->Fs
 | 0,_=>none
 | n+1,ε=>(c ε).bind fun x=>if x then (b ε).bind fun o=>(match o with
   | .nx ε2=>whl c b n ε2
   | .ct ε2=>whl c b n ε2
   | .bk ε2=>some (.nx ε2)
   | .rt t=>some (.rt t)
   | .rtm t ε2=>some (.rtm t ε2)
   | .rto s=>some (.rto s)) else some (.nx ε)
noncomputable def app (i:Nat) (f:Fe):Fs:=fun ε=>match ε[i]? with
 | some (some (.own ts))=>(f ε).bind fun t=>if ts.length<big then some (.nx (ε.set i (some (.own (ts++[t]))))) else none
 | _=>none
noncomputable def ext (i:Nat) (f:Fe):Fs:=fun ε=>match ε[i]? with
 | some (some (.own ts))=>(f ε).bind fun t=>match t with
  | .list us=>if ts.length+us.length<=big then some (.nx (ε.set i (some (.own (ts++us))))) else none
  | _=>none
 | _=>none
noncomputable def pop (i j:Nat):Fs:=fun ε=>match ε[j]? with
 | some (some (.own ts))=>(ts.getLast?).bind fun t=>if i=j then none else some (.nx ((ε.set j (some (.own ts.dropLast))).set i (some (.imm t))))
 | _=>none
noncomputable def par (i j:Nat) (own:Bool) (f g:Fe):Fs:=fun ε=>(f ε).bind fun t=>(g ε).bind fun u=>if own then (match u with|.list us=>some (.nx ((ε.set i (some (.imm t))).set j (some (.own us))))|_=>none) else some (.nx ((ε.set i (some (.imm t))).set j (some (.imm u))))
def dNew (i:Nat) (k v:Fe):Fs:=fun ε=>(k ε).bind fun t=>(z7y t).bind fun k=>(v ε).map fun v=>.nx (ε.set i (some (.dic [(k,v)])))
noncomputable def dPut (i:Nat) (k v:Fe):Fs:=fun ε=>(v ε).bind fun v=>(k ε).bind fun t=>(z7y t).bind fun k=>(dic? i ε).bind fun kvs=>if kvs.length<big then some (.nx (ε.set i (some (.dic (putD kvs k v))))) else none
noncomputable def runF (b:Fs) (n:Nat) (as:List T):Option T:=(b ((as.map fun t=>some (.imm t))++y0g (n - as.length) none)).bind fun o=>match o with
 | .rt t=>some t
 | .nx _=>some .none
 | _=>none
end D
end
section
namespace D
open PySem PySem.Spec PyProof.Rows L2
section
mutual
noncomputable def Rep (K:y00) (F:Addr->Prop) (H:Hp):T->V->Prop
 | .none,v=>v=.non
 | .bool b,v=>v=.bl b
 | .int i,v=>v=.int i
 | .str x,v=>v=.str x
 | .dict _,_=>False
 | .tuple ts,v=>∃a vs,v=.ref a/\SqT K H a vs/\RepL K F H ts vs
 | .list ts,v=>∃a vs,v=.ref a/\F a/\Rd H a (.lst vs)/\RepL K F H ts vs
noncomputable def RepL (K:y00) (F:Addr->Prop) (H:Hp):List T->List V->Prop
 | [],vs=>vs=[]
 | t::ts,vs=>∃v r,vs=v::r/\Rep K F H t v/\RepL K F H ts r
end
section
variable {K:y00} {F F':Addr->Prop} {H H':Hp}
mutual
theorem Rep.keep (h1:∀b xs,SqT K H b xs->SqT K H' b xs) (h2:∀b xs,F b->Rd H b (.lst xs)->F' b/\Rd H' b (.lst xs)):∀{t:T} {v:V},Rep K F H t v->Rep K F' H' t v
 | .none,v,h=>by simpa [Rep] using h
 | .bool _,v,h=>by simpa [Rep] using h
 | .dict _,v,h=>by simp[Rep] at h
 | .int _,v,h=>by simpa [Rep] using h
 | .str _,v,h=>by simpa [Rep] using h
 | .tuple ts,v,h=>by
  simp only[Rep] at h ⊢
  obtain⟨a,vs,e,q,r⟩:=h
  exact⟨a,vs,e,h1 _ _ q,RepL.keep h1 h2 r⟩
 | .list ts,v,h=>by
  simp only[Rep] at h ⊢
  obtain⟨a,vs,e,f,q,r⟩:=h
  exact⟨a,vs,e,(h2 _ _ f q).1,(h2 _ _ f q).2,RepL.keep h1 h2 r⟩
theorem RepL.keep (h1:∀b xs,SqT K H b xs->SqT K H' b xs) (h2:∀b xs,F b->Rd H b (.lst xs)->F' b/\Rd H' b (.lst xs)):∀{ts:List T} {vs:List V},RepL K F H ts vs->RepL K F' H' ts vs
 | [],vs,h=>by simpa [RepL] using h
 | t::ts,vs,h=>by
  simp only[RepL] at h ⊢
  obtain⟨v,r,e,q,z⟩:=h
  exact⟨v,r,e,Rep.keep h1 h2 q,RepL.keep h1 h2 z⟩
end
theorem RepL.nil:RepL K F H [] []:=by simp[RepL]
theorem RepL.cons {t:T} {v:V} {ts:List T} {vs:List V} (h:Rep K F H t v) (r:RepL K F H ts vs):RepL K F H (t::ts) (v::vs):=by
 simp only[RepL]
 exact⟨v,vs,rfl,h,r⟩
theorem RepL.length:∀{ts:List T} {vs:List V},RepL K F H ts vs->ts.length=vs.length
 | [],vs,h=>by
  simp only[RepL] at h
  subst h
  rfl
 | t::ts,vs,h=>by
  simp only[RepL] at h
  obtain⟨v,r,e,q,z⟩:=h
  subst e
  simp[RepL.length z]
theorem RepL.get:∀{ts:List T} {vs:List V} {i:Nat} {t:T},RepL K F H ts vs->ts[i]?=some t->∃v,vs[i]?=some v/\Rep K F H t v
 | [],vs,i,t,h,e=>by simp at e
 | x::ts,vs,0,t,h,e=>by
  simp only[RepL] at h
  obtain⟨v,r,rfl,q,z⟩:=h
  simp at e
  subst e
  exact⟨v,rfl,q⟩
 | x::ts,vs,i+1,t,h,e=>by
  simp only[RepL] at h
  obtain⟨v,r,rfl,q,z⟩:=h
  obtain⟨u,h1,h2⟩:=RepL.get (i:=i) (t:=t) z (by simpa using e)
  exact⟨u,by simpa using h1,h2⟩
theorem RepL.append:∀{ts us:List T} {vs ws:List V},RepL K F H ts vs->RepL K F H us ws->RepL K F H (ts++us) (vs++ws)
 | [],us,vs,ws,h,r=>by
  simp only[RepL] at h
  subst h
  exact r
 | t::ts,us,vs,ws,h,r=>by
  simp only[RepL] at h
  obtain⟨v,z,rfl,q,y⟩:=h
  exact RepL.cons q (RepL.append y r)
theorem RepL.take:∀{ts:List T} {vs:List V} (n:Nat),RepL K F H ts vs->RepL K F H (ts.take n) (vs.take n)
 | [],vs,n,h=>by
  simp only[RepL] at h
  subst h
  simpa using RepL.nil
 | t::ts,vs,0,h=>by simpa using RepL.nil
 | t::ts,vs,n+1,h=>by
  simp only[RepL] at h
  obtain⟨v,z,rfl,q,y⟩:=h
  simpa using RepL.cons q (RepL.take n y)
end
class Tbl where
 tb:List (Addr×Str)
 cn:Nat->List Str
 ck:Nat->Option Addr
noncomputable def TbG (H:Hp) (b:Addr) (q:Str):Prop:=∃ps:Array Value,H b=some (.tbl ps)/\TriplesOk ps.toList/\∀pos cv,codeAmong pos ps.toList=some cv->∃c,cv=.ref c/\H c=some (.ext fun h=>h.CodeRec (.ref c) q)
def TbS [t:Tbl] (H:Hp):Prop:=∀p∈t.tb,TbG H p.1 p.2
theorem TbG.keep {H H':Hp} {b:Addr} {q:Str} (h:TbG H b q) (k1:∀a ps,H a=some (.tbl ps)->H' a=some (.tbl ps)) (k2:∀a φ,H a=some (.ext φ)->H' a=some (.ext φ)):TbG H' b q:=by
 obtain⟨ps,h1,h2,h3⟩:=h
 refine⟨ps,k1 _ _ h1,h2,fun pos cv e=>?_⟩
 obtain⟨c,e1,e2⟩:=h3 pos cv e
 exact⟨c,e1,k2 _ _ e2⟩
variable [Tbl]
def HoM (u:HO):Prop:=(∃xs,u=.lst xs)\/(∃xs,u=.dK xs)\/∃C dx fs,u=.ins C dx fs
theorem HoM.cases {P:Prop} {u:HO} (h:HoM u) (h1:∀xs,u=.lst xs->P) (h2:∀xs,u=.dK xs->P) (h3:∀C dx fs,u=.ins C dx fs->P):P:=by
 rcases h with ⟨xs,e⟩|⟨xs,e⟩|⟨C,dx,fs,e⟩
 ·exact h1 xs e
 ·exact h2 xs e
 ·exact h3 C dx fs e
theorem TbS.updM {H:Hp} (h:TbS H) {p:Addr} {o:HO} (hp:∀u,H p=some u->HoM u):TbS (upd H p o):=fun b hb =>
 (h b hb).keep (fun a ps e=>by
  have nb:a≠p:=by
   rintro rfl
   exact (hp _ e).cases (fun _ z=>by cases z) (fun _ z=>by cases z) (fun _ _ _ z=>by cases z)
  rw[z04 nb];exact e) fun a φ e=>by
  have nb:a≠p:=by
   rintro rfl
   exact (hp _ e).cases (fun _ z=>by cases z) (fun _ z=>by cases z) (fun _ _ _ z=>by cases z)
  rw[z04 nb];exact e
theorem TbS.upd {H:Hp} (h:TbS H) {p:Addr} {o:HO} (hp:∀u,H p=some u->(∃xs,u=.lst xs)\/∃xs,u=.dK xs):TbS (upd H p o):=h.updM fun u e=>by
 rcases hp u e with z|z
 ·exact .inl z
 ·exact .inr (.inl z)
theorem TbS.new {H:Hp} (h:TbS H) {p:Addr} {o:HO} (hp:H p=none):TbS (L2.upd H p o):=h.upd fun u e=>by rw[hp] at e;cases e
structure Dom (F:Addr->Prop) (H:Hp):Prop where
 dm:∀a,F a->∃o,H a=some o
 tgs:TbS H
instance {F:Addr->Prop} {H:Hp}:CoeFun (Dom F H) fun _=>∀a,F a->∃o,H a=some o:=⟨Dom.dm⟩
def z39 (H H':Hp):Prop:=∀b o,H b=some o->H' b=some o\/∃ps ps',o=.tbl ps/\H' b=some (.tbl ps')
theorem z39.refl (H:Hp):z39 H H:=fun _ _ h=>.inl h
theorem z39.ne {H H':Hp} (s:z39 H H') {b:Addr} {o:HO} (e:H b=some o):∃u,H' b=some u:=by
 rcases s b o e with h|⟨_,_,_,h⟩
 ·exact⟨_,h⟩
 ·exact⟨_,h⟩
theorem z39.none {H H':Hp} (s:z39 H H') {b:Addr} (e:H' b=none):H b=none:=by
 cases z:H b with
 | none=>rfl
 | some o =>
  obtain⟨u,q⟩:=s.ne z
  rw[e] at q
  cases q
theorem z39.get {H H':Hp} (s:z39 H H') {b:Addr} {o:HO} (e:H b=some o) (n:∀ps,o≠.tbl ps:=by intro _ z;cases z):H' b=some o:=by
 rcases s b o e with h|⟨_,_,z,_⟩
 ·exact h
 ·exact absurd z (n _)
theorem z39.trans {H H1 H2:Hp} (a:z39 H H1) (b:z39 H1 H2):z39 H H2:=fun c o h=>by
 rcases a c o h with q|⟨ps,ps1,z,q⟩
 ·exact b c o q
 ·rcases b c _ q with q2|⟨_,ps2,z2,q2⟩
  ·exact .inr ⟨ps,ps1,z,q2⟩
  ·exact .inr ⟨ps,ps2,z,q2⟩
structure Ext (F:Addr->Prop) (H:Hp) (F':Addr->Prop) (H':Hp):Prop where
 same:z39 H H'
 sub:∀a,F a->F' a
 new:∀a,F' a->F a\/H a=none
 dom:Dom F' H'
section
variable {K:y00} {F F1 F2:Addr->Prop} {H H1 H2:Hp}
theorem Ext.refl (d:Dom F H):Ext F H F H:=⟨z39.refl H,fun _ h=>h,fun _ h=>.inl h,d⟩
theorem Ext.trans (a:Ext F H F1 H1) (b:Ext F1 H1 F2 H2):Ext F H F2 H2 :=
 ⟨a.same.trans b.same,fun x h=>b.sub x (a.sub x h),fun x h=>(b.new x h).elim (fun z=>a.new x z) fun z=>.inr (a.same.none z),b.dom⟩
theorem Rd.same {a:Addr} {u:HO} (s:z39 H H1) (r:Rd H a u) (n:∀ps,u≠.tbl ps:=by intro _ z;cases z):Rd H1 a u:=by
 rcases r with r|⟨o,r⟩
 ·exact .inl (s.get r n)
 ·exact .inr ⟨o,s.get r⟩
theorem SqT.same {a:Addr} {xs:List V} (s:z39 H H1) (r:SqT K H a xs):SqT K H1 a xs:=by
 rcases r with r|r
 ·exact .inl (Rd.same s r)
 ·exact .inr r
theorem Rep.ext {t:T} {v:V} (r:Rep K F H t v) (x:Ext F H F1 H1):Rep K F1 H1 t v:=r.keep (fun _ _ q=>SqT.same x.same q) fun b _ f q=>⟨x.sub b f,Rd.same x.same q⟩
theorem RepL.ext {t:List T} {v:List V} (r:RepL K F H t v) (x:Ext F H F1 H1):RepL K F1 H1 t v:=r.keep (fun _ _ q=>SqT.same x.same q) fun b _ f q=>⟨x.sub b f,Rd.same x.same q⟩
theorem Ext.laid {p:Addr} {o:HO} (d:Dom F H) (hp:H p=none):Ext F H F (upd H p o) :=
 ⟨fun b u q=>.inl (same_new' hp o b u q),fun _ h=>h,fun _ h=>.inl h,⟨fun a h=>by
  obtain⟨u,e⟩:=d a h
  exact⟨u,same_new' hp o a u e⟩,d.tgs.new hp⟩⟩
where same_new' {H:Hp} {p:Addr} (h:H p=none) (o:HO):Same H (upd H p o):=fun b u q=>by rw[z04 (z0d q h)];exact q
theorem Ext.laidF {p:Addr} {o:HO} (d:Dom F H) (hp:H p=none):Ext F H (fun a=>F a\/a=p) (upd H p o) :=
 ⟨fun b u q=>.inl (Ext.laid.same_new' hp o b u q),fun _ h=>.inl h,fun a h=>by
  rcases h with h|rfl
  ·exact .inl h
  ·exact .inr hp,⟨fun a h=>by
  rcases h with h|rfl
  ·obtain⟨u,e⟩:=d a h
   exact⟨u,Ext.laid.same_new' hp o a u e⟩
  ·exact⟨o,z05⟩,d.tgs.new hp⟩⟩
end
structure Kp (K:y00) (F:Addr->Prop) (H:Hp) (F':Addr->Prop) (H':Hp):Prop where
 tup:∀b xs,SqT K H b xs->SqT K H' b xs
 lst:∀b xs,F b->Rd H b (.lst xs)->F' b/\Rd H' b (.lst xs)
section
variable {K:y00} {F F1 F2:Addr->Prop} {H H1 H2:Hp}
theorem Kp.refl:Kp K F H F H:=⟨fun _ _ h=>h,fun _ _ f h=>⟨f,h⟩⟩
theorem Kp.trans (a:Kp K F H F1 H1) (b:Kp K F1 H1 F2 H2):Kp K F H F2 H2:=⟨fun x xs h=>b.tup x xs (a.tup x xs h),fun x xs f h=>b.lst x xs (a.lst x xs f h).1 (a.lst x xs f h).2⟩
theorem Ext.kp (x:Ext F H F1 H1):Kp K F H F1 H1:=⟨fun _ _ q=>SqT.same x.same q,fun b _ f q=>⟨x.sub b f,Rd.same x.same q⟩⟩
theorem Rep.kp {t:T} {v:V} (r:Rep K F H t v) (x:Kp K F H F1 H1):Rep K F1 H1 t v:=r.keep x.tup x.lst
theorem RepL.kp {t:List T} {v:List V} (r:RepL K F H t v) (x:Kp K F H F1 H1):RepL K F1 H1 t v:=r.keep x.tup x.lst
end
def RepR (K:y00) (O F:Addr->Prop) (H:Hp) (t:T) (v:V):Prop :=
 Rep K F H t v\/∃ts a vs,t=.list ts/\v=.ref a/\H a=some (.lst vs)/\RepL K F H ts vs
section
variable {K:y00} {O F F1:Addr->Prop} {H H1:Hp} {v:V}
theorem RepR.ext {t:T} (r:RepR K O F H t v) (x:Ext F H F1 H1):RepR K O F1 H1 t v:=by
 rcases r with r|⟨ts,a,vs,e1,e2,e4,r⟩
 ·exact .inl (r.ext x)
 ·exact .inr ⟨ts,a,vs,e1,e2,x.same.get e4,r.ext x⟩
theorem RepR.non (r:RepR K O F H .none v):v=.non:=by
 rcases r with r|⟨ts,a,vs,e1,_⟩
 ·simpa [Rep] using r
 ·cases e1
theorem RepR.bl {b:Bool} (r:RepR K O F H (.bool b) v):v=.bl b:=by
 rcases r with r|⟨ts,a,vs,e1,_⟩
 ·simpa [Rep] using r
 ·cases e1
theorem RepR.int {i:Int} (r:RepR K O F H (.int i) v):v=.int i:=by
 rcases r with r|⟨ts,a,vs,e1,_⟩
 ·simpa [Rep] using r
 ·cases e1
theorem RepR.str {x:Str} (r:RepR K O F H (.str x) v):v=.str x:=by
 rcases r with r|⟨ts,a,vs,e1,_⟩
 ·simpa [Rep] using r
 ·cases e1
theorem RepR.tup {ts:List T} (r:RepR K O F H (.tuple ts) v):∃a vs,v=.ref a/\SqT K H a vs/\RepL K F H ts vs:=by
 rcases r with r|⟨ts,a,vs,e1,_⟩
 ·simpa [Rep] using r
 ·cases e1
theorem RepR.lst {ts:List T} (r:RepR K O F H (.list ts) v):∃a vs,v=.ref a/\Rd H a (.lst vs)/\RepL K F H ts vs:=by
 rcases r with r|⟨us,a,vs,e1,e2,e4,r⟩
 ·simp only[Rep] at r
  obtain⟨a,vs,e,_,q,z⟩:=r
  exact⟨a,vs,e,q,z⟩
 ·cases e1
  exact⟨a,vs,e2,.inl e4,r⟩
end
def RepD (K:y00) (F:Addr->Prop) (H:Hp):List (D.Key×T)->List (D.Key×V)->Prop
 | [],vs=>vs=[]
 | p::ts,vs=>∃v r,vs=(p.1,v)::r/\Rep K F H p.2 v/\RepD K F H ts r
theorem RepD.kp {K:y00} {F F':Addr->Prop} {H H':Hp} (x:Kp K F H F' H'):∀{ts:List (D.Key×T)} {vs:List (D.Key×V)},RepD K F H ts vs->RepD K F' H' ts vs
 | [],vs,h=>h
 | p::ts,vs,h=>by
  obtain⟨v,r,e,q,z⟩:=h
  exact⟨v,r,e,q.kp x,RepD.kp x z⟩
structure En where
 h:Hp
 la:Addr
def rf:V->List Addr
 | .ref a=>[a]
 | _=>[]
def fp0:Sl->V->List Addr
 | .imm _,_=>[]
 | _,v=>rf v
def fpF:List Sl->List V->List Addr
 | s::ss,v::vs=>fp0 s v++fpF ss vs
 | _,_=>[]
def zb5 (H:Hp):V->List V
 | .ref a=>(match H a with
  | some (.ins _ _ kvs)=>kvs.map (·.2)
  | some (.dK kvs)=>kvs.map (·.2)
  | _=>[])
 | _=>[]
def fpS (H:Hp):Sl->V->List Addr
 | .imm _,_=>[]
 | .own _,v=>rf v
 | .dic _,v=>rf v
 | .obj _ _ fs,v=>rf v++fpF fs (zb5 H v)
noncomputable def z6o (H:Hp) (a:Addr) (c:Nat) (vs:List V):Prop:=vs.length<=(Tbl.cn c).length/\match Tbl.ck c with
 | some C=>∃dx,H a=some (.ins C dx ((Tbl.cn c).zip vs))
 | none=>H a=some (.dK (((Tbl.cn c).zip vs).map fun p=>(.inr p.1,p.2)))
noncomputable def zdd (K:y00) (F:Addr->Prop) (H:Hp):Sl->V->Prop
 | .imm t,v=>Rep K F H t v
 | .own ts,v=>∃b us,v=.ref b/\H b=some (.lst us)/\RepL K F H ts us
 | .dic kvs,v=>∃b us,v=.ref b/\H b=some (.dK us)/\RepD K F H kvs us
 | .obj _ _ _,_=>False
def RelF (K:y00) (F:Addr->Prop) (H:Hp):List Sl->List V->Prop
 | [],vs=>vs=[]
 | s::ss,vs=>∃v r,vs=v::r/\zdd K F H s v/\RelF K F H ss r
def OwnM (E:En) (O F:Addr->Prop) (m:Md) (b:Addr):Prop:=¬F b/\match m with
 | .ro=>E.h b≠none
 | _=>O b
noncomputable def z1g (K:y00) (E:En) (O F:Addr->Prop) (H:Hp):Sl->V->Prop
 | .imm t,v=>Rep K F H t v
 | .own ts,v=>∃a vs,v=.ref a/\¬F a/\O a/\H a=some (.lst vs)/\RepL K F H ts vs
 | .dic kvs,v=>∃a vs,v=.ref a/\¬F a/\O a/\H a=some (.dK vs)/\RepD K F H kvs vs
 | .obj m c fs,v=>∃a vs,v=.ref a/\z6o H a c vs/\RelF K F H fs vs/\(a::fpF fs vs).Nodup/\(∀b∈a::fpF fs vs,OwnM E O F m b)/\(m=.lent->a=E.la)
def Sl.isOwn:Sl->Bool
 | .imm _=>false
 | .obj .ro _ _=>false
 | _=>true
section
variable {K:y00} {F F' O O':Addr->Prop} {H H':Hp} {E:En}
theorem za2 {α β:Type}:∀{xs:List α} {ys:List β},ys.length<=xs.length->(xs.zip ys).map (·.2)=ys
 | xs,[],_=>by simp
 | [],y::ys,h=>by simp at h
 | x::xs,y::ys,h=>by simp[za2 (xs:=xs) (ys:=ys) (by simpa using h)]
theorem z6o.vals {a:Addr} {c:Nat} {vs:List V} (h:z6o H a c vs):zb5 H (.ref a)=vs:=by
 obtain⟨hl,h⟩:=h
 unfold zb5
 split at h
 ·obtain⟨dx,e⟩:=h
  simp only[e]
  exact za2 hl
 ·simp only[h,y2d]
  exact za2 hl
theorem z6o.mem {a:Addr} {c:Nat} {vs:List V} (h:z6o H a c vs):∃o,H a=some o/\HoM o:=by
 obtain⟨hl,h⟩:=h
 split at h
 ·obtain⟨dx,e⟩:=h
  exact⟨_,e,.inr (.inr ⟨_,_,_,rfl⟩)⟩
 ·exact⟨_,h,.inr (.inl ⟨_,rfl⟩)⟩
theorem z6o.keep {a:Addr} {c:Nat} {vs:List V} (h:z6o H a c vs) (e:H' a=H a):z6o H' a c vs:=by
 obtain⟨hl,h⟩:=h
 refine⟨hl,?_⟩
 rw[e]
 exact h
theorem z6x {v:V} {b:Addr} (h:b∈rf v):v=.ref b:=by
 unfold rf at h
 split at h
 ·simp at h
  rw[h]
 ·simp at h
theorem zdd.at {s:Sl} {v:V} {b:Addr} (r:zdd K F H s v) (h:b∈fp0 s v):∃o,H b=some o/\HoM o:=by
 cases s with
 | imm t=>simp[fp0] at h
 | own ts =>
  obtain⟨b',us,e,eh,_⟩:=r
  have:=z6x h
  rw[e] at this
  cases this
  exact⟨_,eh,.inl ⟨_,rfl⟩⟩
 | dic ts =>
  obtain⟨b',us,e,eh,_⟩:=r
  have:=z6x h
  rw[e] at this
  cases this
  exact⟨_,eh,.inr (.inl ⟨_,rfl⟩)⟩
 | obj m c fs=>exact r.elim
theorem RelF.at:∀{fs:List Sl} {vs:List V} {b:Addr},RelF K F H fs vs->b∈fpF fs vs->∃o,H b=some o/\HoM o
 | [],vs,b,r,h=>by simp[fpF] at h
 | s::ss,vs,b,r,h=>by
  obtain⟨v,z,rfl,r1,r2⟩:=r
  rw[show fpF (s::ss) (v::z)=fp0 s v++fpF ss z from rfl] at h
  rcases y10.mp h with h|h
  ·exact r1.at h
  ·exact RelF.at r2 h
theorem z4r {m:Md} {c:Nat} {fs:List Sl} {a:Addr} {vs:List V} (h:z6o H a c vs):fpS H (.obj m c fs) (.ref a)=a::fpF fs vs:=by
 show rf (.ref a)++fpF fs (zb5 H (.ref a))=_
 rw[h.vals]
 rfl
theorem z1g.at {s:Sl} {v:V} {b:Addr} (r:z1g K E O F H s v) (h:b∈fpS H s v):∃o,H b=some o/\HoM o:=by
 cases s with
 | imm t=>simp[fpS] at h
 | own ts =>
  obtain⟨b',us,e,_,_,eh,_⟩:=r
  have:=z6x h
  rw[e] at this
  cases this
  exact⟨_,eh,.inl ⟨_,rfl⟩⟩
 | dic ts =>
  obtain⟨b',us,e,_,_,eh,_⟩:=r
  have:=z6x h
  rw[e] at this
  cases this
  exact⟨_,eh,.inr (.inl ⟨_,rfl⟩)⟩
 | obj m c fs =>
  obtain⟨a,vs,rfl,ha,hf,_⟩:=r
  rw[z4r ha] at h
  rcases y09.mp h with rfl|h
  ·exact ha.mem
  ·exact hf.at h
theorem z1g.held {s:Sl} {v:V} {b:Addr} (r:z1g K E O F H s v) (h:b∈fpS H s v):¬F b/\(s.isOwn=true->O b)/\(s.isOwn=false->E.h b≠none):=by
 cases s with
 | imm t=>simp[fpS] at h
 | own ts =>
  obtain⟨b',us,e,n,o,eh,_⟩:=r
  have:=z6x h
  rw[e] at this
  cases this
  exact⟨n,fun _=>o,fun z=>by cases z⟩
 | dic ts =>
  obtain⟨b',us,e,n,o,eh,_⟩:=r
  have:=z6x h
  rw[e] at this
  cases this
  exact⟨n,fun _=>o,fun z=>by cases z⟩
 | obj m c fs =>
  obtain⟨a,vs,rfl,ha,hf,nd,ow,_⟩:=r
  rw[z4r ha] at h
  obtain⟨n,q⟩:=ow b h
  refine⟨n,fun z=>?_,fun z=>?_⟩
  ·cases m with
   | ro=>cases z
   | own=>exact q
   | lent=>exact q
  ·cases m with
   | ro=>exact q
   | own=>cases z
   | lent=>cases z
theorem zdd.keep {s:Sl} {v:V} (r:zdd K F H s v) (kp:Kp K F H F' H') (hh:∀b∈fp0 s v,H' b=H b):zdd K F' H' s v:=by
 cases s with
 | imm t=>exact Rep.kp r kp
 | own ts =>
  obtain⟨b,us,rfl,eh,z⟩:=r
  exact⟨b,us,rfl,by rw[hh b (by simp[fp0,rf])];exact eh,z.kp kp⟩
 | dic ts =>
  obtain⟨b,us,rfl,eh,z⟩:=r
  exact⟨b,us,rfl,by rw[hh b (by simp[fp0,rf])];exact eh,RepD.kp kp z⟩
 | obj m c fs=>exact r.elim
theorem RelF.keep:∀{fs:List Sl} {vs:List V},RelF K F H fs vs->Kp K F H F' H'->(∀b∈fpF fs vs,H' b=H b)->RelF K F' H' fs vs
 | [],vs,r,_,_=>r
 | s::ss,vs,r,kp,hh=>by
  obtain⟨v,z,rfl,r1,r2⟩:=r
  rw[show fpF (s::ss) (v::z)=fp0 s v++fpF ss z from rfl] at hh
  exact⟨v,z,rfl,r1.keep kp fun b h=>hh b (y10.mpr (.inl h)),RelF.keep r2 kp fun b h=>hh b (y10.mpr (.inr h))⟩
theorem z1g.keep {s:Sl} {v:V} (r:z1g K E O F H s v) (kp:Kp K F H F' H') (hh:∀b∈fpS H s v,H' b=H b) (hf:∀b∈fpS H s v,F' b->F b) (ho:∀b∈fpS H s v,O b->O' b) :
  z1g K E O' F' H' s v/\fpS H' s v=fpS H s v:=by
 cases s with
 | imm t=>exact⟨Rep.kp r kp,rfl⟩
 | own ts =>
  obtain⟨a,vs,rfl,n,o,eh,z⟩:=r
  have m:a∈fpS H (.own ts) (.ref a):=by simp[fpS,rf]
  exact⟨⟨a,vs,rfl,fun f=>n (hf a m f),ho a m o,by rw[hh a m];exact eh,z.kp kp⟩,rfl⟩
 | dic ts =>
  obtain⟨a,vs,rfl,n,o,eh,z⟩:=r
  have m:a∈fpS H (.dic ts) (.ref a):=by simp[fpS,rf]
  exact⟨⟨a,vs,rfl,fun f=>n (hf a m f),ho a m o,by rw[hh a m];exact eh,RepD.kp kp z⟩,rfl⟩
 | obj m c fs =>
  obtain⟨a,vs,rfl,ha,hr,nd,ow,la⟩:=r
  rw[z4r ha] at hh hf ho
  have ha':z6o H' a c vs:=ha.keep (hh a (by simp))
  refine⟨⟨a,vs,rfl,ha',hr.keep kp fun b h=>hh b (y05 _ h),nd,fun b h=>?_,la⟩,by rw[z4r ha,z4r ha']⟩
  obtain⟨n,q⟩:=ow b h
  refine⟨fun f=>n (hf b h f),?_⟩
  cases m with
  | ro=>exact q
  | own=>exact ho b h q
  | lent=>exact ho b h q
theorem z1g.extP {s:Sl} {v:V} (r:z1g K E O F H s v) (x:Ext F H F' H'):z1g K E O F' H' s v/\fpS H' s v=fpS H s v :=
 r.keep x.kp (fun b h=>by
  obtain⟨o,e,m⟩:=r.at h
  rw[e]
  exact x.same.get e fun ps z=>by subst z;exact m.cases (fun _ z=>by cases z) (fun _ z=>by cases z) (fun _ _ _ z=>by cases z)) (fun b h f=>by
  rcases x.new b f with z|z
  ·exact z
  ·obtain⟨o,e,_⟩:=r.at h
   rw[z] at e
   cases e) fun _ _ o=>o
theorem z1g.ext {s:Sl} {v:V} (r:z1g K E O F H s v) (x:Ext F H F' H'):z1g K E O F' H' s v:=(r.extP x).1
end
structure RelE (K:y00) (F₀:Addr->Prop) (E:En) (O F:Addr->Prop) (H:Hp) (ε:Ev) (σ:L2.St):Prop where
 len:ε.length=σ.length
 val:∀(i:Nat) (s:Sl),ε[i]?=some (some s)->∃v,σ[i]?=some (some v)/\z1g K E O F H s v
 ne:∀(i j:Nat) (s u:Sl) (v w:V),i≠j->ε[i]?=some (some s)->ε[j]?=some (some u)->s.isOwn=true->u.isOwn=true->σ[i]?=some (some v)->σ[j]?=some (some w)->∀a∈fpS H s v,a∉fpS H u w
 ent:Ext F₀ E.h F H
 o0:∀a,O a->E.h a=none
 fr:∀a,H a=none->O a
section
variable {K:y00} {F₀ O F F1:Addr->Prop} {E:En} {H H1:Hp} {ε:Ev} {σ:L2.St}
theorem RelE.dom (r:RelE K F₀ E O F H ε σ):Dom F H:=r.ent.dom
theorem RelE.ext (r:RelE K F₀ E O F H ε σ) (x:Ext F H F1 H1):RelE K F₀ E O F1 H1 ε σ :=
 ⟨r.len,fun i s e=>by
  obtain⟨v,h1,h2⟩:=r.val i s e
  exact⟨v,h1,h2.ext x⟩,fun i j s u v w hij e1 e2 o1 o2 h1 h2=>by
  obtain⟨v',h1',r1⟩:=r.val i s e1
  obtain⟨w',h2',r2⟩:=r.val j u e2
  rw[h1] at h1'
  rw[h2] at h2'
  cases h1'
  cases h2'
  rw[(r1.extP x).2,(r2.extP x).2]
  exact r.ne i j s u v w hij e1 e2 o1 o2 h1 h2,r.ent.trans x,r.o0,fun a e=>r.fr a (x.same.none e)⟩
theorem z3g {α:Type} {l:List (Option α)} {i j:Nat} {x:Option α} {y:α} (h:(l.set i x)[j]?=some (some y)):(i=j/\x=some y/\j<l.length)\/(i≠j/\l[j]?=some (some y)):=by
 rw[List.getElem?_set] at h
 by_cases e:i=j
 ·subst e
  rw[if_pos rfl] at h
  split at h
  next hl=>exact .inl ⟨rfl,y27 h,hl⟩
  next=>cases h
 ·rw[if_neg e] at h
  exact .inr ⟨e,h⟩
theorem zaa {α:Type} {l:List (Option α)} {i:Nat} {x:Option α} (h:i<l.length):(l.set i x)[i]?=some x:=by
 rw[List.getElem?_set,if_pos rfl,if_pos h]
theorem z3m {α:Type} {l:List (Option α)} {i j:Nat} {x:Option α} (h:i≠j):(l.set i x)[j]?=l[j]?:=by
 rw[List.getElem?_set,if_neg h]
theorem RelE.setG {s:Sl} {v:V} (r:RelE K F₀ E O F H ε σ) (i:Nat) (h:z1g K E O F H s v) (fr:s.isOwn=true->∀(j:Nat) (u:Sl) (w:V),i≠j->ε[j]?=some (some u)->u.isOwn=true->σ[j]?=some (some w)->∀a∈fpS H s v,a∉fpS H u w) :
  RelE K F₀ E O F H (ε.set i (some s)) (σ.set i (some v)):=by
 refine⟨by simp[r.len],fun j u e=>?_,fun j k u w vu vw hjk e1 e2 o1 o2 h1 h2=>?_,r.ent,r.o0,r.fr⟩
 ·rcases z3g e with ⟨rfl,e',hl⟩|⟨ne,e'⟩
  ·cases e'
   exact⟨_,zaa (by rw[<- r.len];exact hl),h⟩
  ·obtain⟨w,h1,h2⟩:=r.val j u e'
   exact⟨w,by rw[z3m ne];exact h1,h2⟩
 ·rcases z3g e1 with ⟨rfl,e',hl⟩|⟨ne1,e1'⟩
  ·rcases z3g e2 with ⟨rfl,_,_⟩|⟨ne2,e2'⟩
   ·exact absurd rfl hjk
   ·rw[zaa (by rw[<- r.len];exact hl)] at h1
    rw[z3m ne2] at h2
    cases h1
    cases e'
    exact fr o1 k w vw ne2 e2' o2 h2
  ·rw[z3m ne1] at h1
   rcases z3g e2 with ⟨rfl,e',hl⟩|⟨ne2,e2'⟩
   ·rw[zaa (by rw[<- r.len];exact hl)] at h2
    cases h2
    cases e'
    intro a ha hb
    exact fr o2 j u vu ne1 e1' o1 h1 a hb ha
   ·rw[z3m ne2] at h2
    exact r.ne j k u w vu vw hjk e1' e2' o1 o2 h1 h2
theorem RelE.set {t:T} {v:V} (r:RelE K F₀ E O F H ε σ) (i:Nat) (h:Rep K F H t v):RelE K F₀ E O F H (ε.set i (some (.imm t))) (σ.set i (some v)):=r.setG (s:=.imm t) i h fun z=>by cases z
theorem RelE.setNew {s:Sl} {v:V} (r:RelE K F₀ E O F H ε σ) (i:Nat) (x:Ext F H F1 H1) (h:z1g K E O F1 H1 s v) (hn:∀a∈fpS H1 s v,H a=none):RelE K F₀ E O F1 H1 (ε.set i (some s)) (σ.set i (some v)) :=
 (r.ext x).setG i h fun _ j u w _ ej _ hj a ha hb=>by
  obtain⟨w',h1,h2⟩:=r.val j u ej
  rw[hj] at h1
  cases h1
  rw[(h2.extP x).2] at hb
  obtain⟨o,e,_⟩:=h2.at hb
  rw[hn a ha] at e
  cases e
theorem zfe {x:Addr} {o o':HO} (hn:¬F x) (hx:H x=some o) (hm:HoM o):Kp K F H F (upd H x o'):=by
 refine⟨fun b xs q=>?_,fun b xs f q=>⟨f,?_⟩⟩
 ·rcases q with q|q
  ·refine .inl ?_
   have nb:b≠x:=by
    rintro rfl
    rcases q with q|⟨_,q⟩ <;> (rw[hx] at q;cases q;exact hm.cases (fun _ z=>by cases z) (fun _ z=>by cases z) (fun _ _ _ z=>by cases z))
   rcases q with q|⟨u,q⟩
   ·exact .inl (by rw[z04 nb];exact q)
   ·exact .inr ⟨u,by rw[z04 nb];exact q⟩
  ·exact .inr q
 ·have nb:b≠x:=by
   rintro rfl
   exact hn f
  rcases q with q|⟨u,q⟩
  ·exact .inl (by rw[z04 nb];exact q)
  ·exact .inr ⟨u,by rw[z04 nb];exact q⟩
theorem zc4 {x:Addr} {o o':HO} {h0:Hp} (e:Ext F₀ h0 F H) (h0x:h0 x=none) (hn:¬F x) (hx:H x=some o) (hm:HoM o):Ext F₀ h0 F (upd H x o'):=by
 refine⟨fun b u q=>?_,e.sub,e.new,⟨fun b f=>?_,e.dom.tgs.updM fun u z=>by rw[hx] at z;cases z;exact hm⟩⟩
 ·have nb:b≠x:=by
   rintro rfl
   rw[h0x] at q
   cases q
  rw[z04 nb]
  exact e.same b u q
 ·have nb:b≠x:=by
   rintro rfl
   exact hn f
  rw[z04 nb]
  exact e.dom b f
theorem RelE.mutG {s s':Sl} {v:V} {x:Addr} {o':HO} (r:RelE K F₀ E O F H ε σ) {i:Nat} (e:ε[i]?=some (some s)) (ho:s.isOwn=true) (hv:σ[i]?=some (some v)) (hx:x∈fpS H s v)
  (h:Kp K F H F (upd H x o')->z1g K E O F (upd H x o') s' v)
  (hp:∀b∈fpS (upd H x o') s' v,b∈fpS H s v\/∀(j:Nat) (u:Sl) (w:V),i≠j->ε[j]?=some (some u)->u.isOwn=true->σ[j]?=some (some w)->b∉fpS H u w) :
  Kp K F H F (upd H x o')/\RelE K F₀ E O F (upd H x o') (ε.set i (some s')) σ:=by
 obtain⟨v',hv',rs⟩:=r.val i s e
 rw[hv] at hv'
 cases hv'
 obtain⟨o,eo,hm⟩:=rs.at hx
 obtain⟨nF,hO,_⟩:=rs.held hx
 have hOx:=hO ho
 have kp:Kp K F H F (upd H x o'):=zfe nF eo hm
 have h0:=r.o0 x hOx
 have keep:∀(j:Nat) (u:Sl) (w:V),i≠j->ε[j]?=some (some u)->σ[j]?=some (some w)->z1g K E O F H u w->z1g K E O F (upd H x o') u w/\fpS (upd H x o') u w=fpS H u w:=by
  intro j u w hij ej hj ru
  refine ru.keep kp (fun b hb=>z04 ?_) (fun _ _ f=>f) fun _ _ o=>o
  rintro rfl
  cases ou:u.isOwn with
  | true=>exact r.ne i j s u v w hij e ej ho ou hv hj b hx hb
  | false=>exact (ru.held hb).2.2 ou h0
 refine⟨kp,⟨by simp[r.len],fun j u e'=>?_,fun j k u w vu vw hjk e1 e2 o1 o2 h1 h2=>?_,zc4 r.ent h0 nF eo hm,r.o0,fun b e'=>r.fr b ?_⟩⟩
 ·rcases z3g e' with ⟨rfl,e'',hl⟩|⟨ne,e''⟩
  ·cases e''
   exact⟨_,hv,h kp⟩
  ·obtain⟨w,h1,h2⟩:=r.val j u e''
   exact⟨w,h1,(keep j u w ne e'' h1 h2).1⟩
 ·rcases z3g e1 with ⟨rfl,e',hl⟩|⟨ne1,e1'⟩
  ·rcases z3g e2 with ⟨rfl,_,_⟩|⟨ne2,e2'⟩
   ·exact absurd rfl hjk
   ·cases e'
    rw[hv] at h1
    cases h1
    obtain⟨w',h2',r2⟩:=r.val k w e2'
    rw[h2] at h2'
    cases h2'
    rw[(keep k w vw ne2 e2' h2 r2).2]
    intro a ha hb
    rcases hp a ha with z|z
    ·exact r.ne i k s w v vw ne2 e e2' ho o2 hv h2 a z hb
    ·exact z k w vw ne2 e2' o2 h2 hb
  ·obtain⟨v1,h1',r1⟩:=r.val j u e1'
   rw[h1] at h1'
   cases h1'
   rw[(keep j u vu ne1 e1' h1 r1).2]
   rcases z3g e2 with ⟨rfl,e',hl⟩|⟨ne2,e2'⟩
   ·cases e'
    rw[hv] at h2
    cases h2
    intro a ha hb
    rcases hp a hb with z|z
    ·exact r.ne i j s u v vu ne1 e e1' ho o1 hv h1 a z ha
    ·exact z j u vu ne1 e1' o1 h1 ha
   ·obtain⟨w',h2',r2⟩:=r.val k w e2'
    rw[h2] at h2'
    cases h2'
    rw[(keep k w vw ne2 e2' h2 r2).2]
    exact r.ne j k u w vu vw hjk e1' e2' o1 o2 h1 h2
 ·by_cases nb:b=x
  ·subst nb
   rw[z05] at e'
   cases e'
  ·rwa [z04 nb] at e'
theorem RelE.mut {s s':Sl} {a:Addr} {o o':HO} (r:RelE K F₀ E O F H ε σ) {i:Nat} (e:ε[i]?=some (some s)) (ho:s.isOwn=true) (hv:σ[i]?=some (some (.ref a))) (hn:¬F a) (ho':O a) (ha:H a=some o)
  (hk:(∃xs,o=.lst xs)\/∃xs,o=.dK xs) (h:Kp K F H F (upd H a o')->z1g K E O F (upd H a o') s' (.ref a)) (f1:∀H:Hp,fpS H s (.ref a)=[a]:=by intro _;rfl) (f2:∀H:Hp,fpS H s' (.ref a)=[a]:=by intro _;rfl) :
  Kp K F H F (upd H a o')/\RelE K F₀ E O F (upd H a o') (ε.set i (some s')) σ :=
 r.mutG e ho hv (by rw[f1];simp) h fun b hb=>by
  rw[f2] at hb
  rw[f1]
  exact .inl hb
end
def tR (K:y00) (f:Fe):TE:=fun σ H Q=>∃F₀ H₀ O F ε t,RelE K F₀ H₀ O F H ε σ/\f ε=some t/\∀v F' H',Ext F H F' H'->RepR K O F' H' t v->Q v H'
def tV (K:y00) (f:Fe):TE:=fun σ H Q=>∃F₀ H₀ O F ε t,RelE K F₀ H₀ O F H ε σ/\f ε=some t/\∀v F' H',Ext F H F' H'->Rep K F' H' t v->Q v H'
noncomputable def tN (K:y00) (f:Fe):TE:=fun σ H Q=>∃F₀ H₀ O F ε ts,RelE K F₀ H₀ O F H ε σ/\f ε=some (.list ts)/\∀a vs F' H',Ext F H F' H'->H a=none->¬F' a->H' a=some (.lst vs)->RepL K F' H' ts vs->Q (.ref a) H'
def tT (K:y00) (f:Ft):TT:=fun σ H Q=>∃F₀ H₀ O F ε b,RelE K F₀ H₀ O F H ε σ/\f ε=some b/\∀F' H',Ext F H F' H'->Q b H'
def tAR (K:y00) (fs:List Fe):TA:=fun σ H Q=>∃F₀ H₀ O F ε ts,RelE K F₀ H₀ O F H ε σ/\args fs ε=some ts/\∀vs F' H',Ext F H F' H'->Paired (RepR K O F' H') ts vs->Q vs H'
def tAV (K:y00) (fs:List Fe):TA:=fun σ H Q=>∃F₀ H₀ O F ε ts,RelE K F₀ H₀ O F H ε σ/\args fs ε=some ts/\∀vs F' H',Ext F H F' H'->RepL K F' H' ts vs->Q vs H'
abbrev PEr (X:Cx) (e:Expr) (f:Fe):Prop:=PE X e (tR X.K f)
abbrev PEv (X:Cx) (e:Expr) (f:Fe):Prop:=PE X e (tV X.K f)
abbrev PEn (X:Cx) (e:Expr) (f:Fe):Prop:=PE X e (tN X.K f)
abbrev PTt (X:Cx) (e:Expr) (f:Ft):Prop:=PT X e (tT X.K f)
abbrev PWt (X:Cx) (e:Expr) (f:Ft):Prop:=PW X e (tT X.K f)
abbrev PAr (X:Cx) (es:List Expr) (fs:List Fe):Prop:=PA X es (tAR X.K fs)
abbrev PAv (X:Cx) (es:List Expr) (fs:List Fe):Prop:=PA X es (tAV X.K fs)
theorem z0s {X:Cx} {e:Expr} {t t':TE} (h:PE X e t) (k:∀σ H Q,t' σ H Q->t σ H Q):PE X e t':=fun pins s σ H Q I q=>h pins s σ H Q I (k σ H Q q)
theorem z6l {X:Cx} {e:Expr} {t t':TT} (h:PT X e t) (k:∀σ H Q,t' σ H Q->t σ H Q):PT X e t':=fun pins s σ H Q I q=>h pins s σ H Q I (k σ H Q q)
theorem zjt {X:Cx} {e:Expr} {t t':TT} (h:PW X e t) (k:∀σ H Q,t' σ H Q->t σ H Q):PW X e t':=fun w pins s σ H Q I q=>h w pins s σ H Q I (k σ H Q q)
theorem za1 {X:Cx} {e:List Expr} {t t':TA} (h:PA X e t) (k:∀σ H Q,t' σ H Q->t σ H Q):PA X e t':=fun pos pins s σ H Q I q=>h pos pins s σ H Q I (k σ H Q q)
theorem z1u {X:Cx} {e:Stmt} {t t':TS} (h:PS X e t) (k:∀D σ H,t' D σ H->t D σ H):PS X e t':=fun pins s σ H D I q=>h pins s σ H D I (k D σ H q)
theorem z6m {X:Cx} {e:List Stmt} {t t':TS} (h:PSs X e t) (k:∀D σ H,t' D σ H->t D σ H):PSs X e t':=fun pins s σ H D I q=>h pins s σ H D I (k D σ H q)
section
variable {X:Cx} {e:Expr} {f:Fe}
theorem v2r (h:PEv X e f):PEr X e f:=z0s h fun σ H Q ⟨F₀,H₀,O,F,ε,t,r,e,k⟩=>⟨F₀,H₀,O,F,ε,t,r,e,fun v F' H' x q=>k v F' H' x (.inl q)⟩
theorem n2v (h:PEn X e f) (hf:∀ε t,f ε=some t->∃ts,t=.list ts):PEv X e f:=z0s h fun σ H Q ⟨F₀,H₀,O,F,ε,t,r,e,k⟩=>by
 obtain⟨ts,rfl⟩:=hf _ _ e
 refine⟨F₀,H₀,O,F,ε,ts,r,e,fun a vs F' H' x hn nf ha q=>?_⟩
 have y:Ext F H (fun b=>F' b\/b=a) H':=⟨x.same,fun b z=>.inl (x.sub b z),fun b z=>by
  rcases z with z|rfl
  ·exact x.new b z
  ·exact .inr hn,⟨fun b z=>by
  rcases z with z|rfl
  ·exact x.dom b z
  ·exact⟨_,ha⟩,x.dom.tgs⟩⟩
 refine k (.ref a) _ H' y ?_
 simp only[Rep]
 exact⟨a,vs,rfl,.inr rfl,.inl ha,q.keep (fun _ _ z=>z) fun b _ z w=>⟨.inl z,w⟩⟩
end
end
section
variable [Tbl]
section
variable {X:Cx} {a b c e:Expr} {f g h:Fe} {pos:Pos}
theorem zec {t:T} {v:V} (he:PE X e (tC v)) (hr:∀F H,Rep X.K F H t v):PEv X e (cst t):=z0s he fun σ H Q ⟨F₀,H₀,O,F,ε,t',r,e,k⟩=>by
 cases e
 exact k v F H (Ext.refl r.dom) (hr _ _)
theorem z0e {i j}:PEv X (.Constant (.int i) j pos) (cst (.int i)):=zec zem fun _ _=>by simp[Rep]
theorem q_bl {i j}:PEv X (.Constant (.bool i) j pos) (cst (.bool i)):=zec zkn fun _ _=>by simp[Rep]
theorem z8s {i j}:PEv X (.Constant (.str i) j pos) (cst (.str i)):=zec z8y fun _ _=>by simp[Rep]
theorem zka {j}:PEv X (.Constant .none j pos) (cst .none):=zec zmn fun _ _=>by simp[Rep]
theorem q_nm (i:Nat) {x:Str} (hN:X.N[i]?=some x:=by rfl) (hv:Vis X.env.scope x:=by first|exact Or.inl rfl|exact Or.inr (Or.inl rfl)|exact Or.inr (Or.inr rfl)) (hd:(x == ("__debug__":Str))=false:=by decide)
  (hcd:(x == ("__classdict__":Str))=false:=by decide):PEr X (.Name x pos) (nm i):=z0s (pv i hN hv hd hcd) fun σ H Q ⟨F₀,H₀,O,F,ε,t,r,e,k⟩=>by
 unfold nm at e
 split at e
 next t' he =>
  cases e
  obtain⟨v,h1,h2⟩:=r.val _ _ he
  exact⟨v,h1,k v F H (Ext.refl r.dom) (.inl h2)⟩
 next ts he =>
  cases e
  obtain⟨v,h1,a,vs,rfl,n,h0,hh,hr⟩:=r.val _ _ he
  exact⟨_,h1,k _ F H (Ext.refl r.dom) (.inr ⟨ts,a,vs,rfl,rfl,hh,hr⟩)⟩
 next=>cases e
theorem z0g (i:Nat) {x:Str} (hN:X.N[i]?=some x:=by rfl) (hv:Vis X.env.scope x:=by first|exact Or.inl rfl|exact Or.inr (Or.inl rfl)|exact Or.inr (Or.inr rfl)) (hd:(x == ("__debug__":Str))=false:=by decide)
  (hcd:(x == ("__classdict__":Str))=false:=by decide):PEv X (.Name x pos) (nmV i):=z0s (pv i hN hv hd hcd) fun σ H Q ⟨F₀,H₀,O,F,ε,t,r,e,k⟩=>by
 unfold nmV at e
 split at e
 next t' he =>
  cases e
  obtain⟨v,h1,h2⟩:=r.val _ _ he
  exact⟨v,h1,k v F H (Ext.refl r.dom) h2⟩
 next=>cases e
noncomputable def Op2 (K:y00) (o:T->T->Option T) (R:R2):Prop :=
 ∀(O F:Addr->Prop) (H:Hp) (x y t:T) (vx vy:V) (Q:VK),Dom F H->RepR K O F H x vx->RepR K O F H y vy->o x y=some t ->
  (∀v F' H',Ext F H F' H'->Rep K F' H' t v->Q v H')->R vx vy H Q
theorem z43 {o:T->T->Option T} {R:R2} (h:Op2 X.K o R):∀σ H Q,tV X.K (op2 o f g) σ H Q->tOp R (tR X.K f) (tR X.K g) σ H Q:=by
 rintro σ H Q ⟨F₀,H₀,O,F,ε,t,r,e,k⟩
 simp only[op2,y01] at e
 obtain⟨x,ex,y,ey,eo⟩:=e
 refine⟨F₀,H₀,O,F,ε,x,r,ex,fun vx F1 H1 x1 rx=>⟨F₀,H₀,O,F1,ε,y,r.ext x1,ey,fun vy F2 H2 x2 ry=>?_⟩⟩
 exact h O F2 H2 x y t vx vy Q x2.dom (rx.ext x2) ry eo fun v F' H' x3 q3=>k v F' H' ((x1.trans x2).trans x3) q3
theorem Inv.lstR {pins:List (Addr×Obj)} {σ:L2.St} {H:Hp} {s:y04} {l:Addr} {xs:List V} (I:Inv X pins σ H s) (hH:Rd H l (.lst xs)) :
  xs.length<=y0j/\∃(its:List Value) (n:Nat),Vals xs its/\xs.length=its.length/\s.heap.get? l=some { cls:=.type "list",data:=.seq its.toArray n }:=by
 obtain⟨z,its,n,r,e⟩:=hH.ok I.hok
 exact⟨z,its,n,r,r.length,e⟩
noncomputable def zoh:R2:=fun x y H Q=>∃l b xs zs,x=.ref l/\y=.ref b/\Rd H l (.lst xs)/\Rd H b (.lst zs)/\xs.length+zs.length<=y0j/\∀p,H p=none->Q (.ref p) (upd H p (.lst (xs++zs)))
theorem zks:OpR X (binaryOp .Add) zoh:=by
 intro pins s σ H x y v u Q I rx ry h
 obtain⟨l,b,xs,zs,rfl,rfl,hH,hB,hz,q⟩:=h
 cases rx
 cases ry
 obtain⟨z,its,n,r,hl,e⟩:=Inv.lstR I hH
 obtain⟨z2,its2,n2,r2,hl2,e2⟩:=Inv.lstR I hB
 refine PySem.P.add_list e e2 ?_ (by rw[y0h,y0h];omega)
 have ea:its.toArray++its2.toArray=(its++its2).toArray:=by simp
 rw[ea]
 exact⟨.ref _,_,I.lnew (t':=s.toks) (r.append r2) (by rw[y1x];omega),rfl,q _ I.fresh⟩
def zm6 (K:y00):R2:=fun x y H Q=>∃a b ys,x=.ref a/\y=.ref b/\SqT K H a []/\SqT K H b ys/\Q (.ref b) H
theorem zho:OpR X (binaryOp .Add) (zm6 X.K):=by
 intro pins s σ H x y v u Q I rx ry h
 obtain⟨a,b,ys,rfl,rfl,ha,hb,q⟩:=h
 cases rx
 cases ry
 obtain⟨its,r1,p1,_⟩:=I.tuple ha
 obtain⟨its2,r2,p2,_⟩:=I.tuple hb
 have ei:its=[]:=r1.nil_iff.mpr rfl
 subst ei
 obtain⟨⟨cls,dd,data,sl⟩,ho,hc,n,hd⟩:=id p1
 obtain⟨⟨cls2,dd2,data2,sl2⟩,ho2,hc2,n2,hd2⟩:=id p2
 simp only at hc hd hc2 hd2
 subst hc hd hc2 hd2
 exact concat_meets ⟨_,ho,rfl⟩ ⟨_,ho2,rfl⟩ noFill_tuple_add seq_tuple_add PySem.F.slot_tuple_add PySem.F.entry_tuple_add (PySem.F.args_tuple_add_2 _ _)
   (tuple_addW0 a b ([]:List Value).toArray its2.toArray n n2 dd dd2 sl sl2 (by simp)) ⟨ho,ho2,⟨.ref b,H,I,rfl,q⟩⟩
theorem z5i:y0j=big:=by rw[sizeLine_eq];rfl
theorem z28 (ha:PEr X a f) (hb:PEr X b g):PEv X (.BinOp a .Add b pos) (op2 oAdd f g) :=
 z0s (zhk (zmr.or (zcv.or (zho.or (zkr.or zks)))) ha hb) (z43 (by
  intro O F H x y t vx vy Q d rx ry e k
  unfold oAdd at e
  split at e
  ·cases e
   rw[rx.int,ry.int]
   exact .inl ⟨_,_,rfl,rfl,k _ F H (Ext.refl d) (by simp[Rep])⟩
  ·split at e
   next hz =>
    cases e
    rw[rx.str,ry.str]
    exact .inr (.inl ⟨_,_,rfl,rfl,by rw[z5i];exact hz,k _ F H (Ext.refl d) (by simp[Rep])⟩)
   next=>cases e
  ·split at e
   next xs ys hz =>
    cases e
    obtain⟨ax,vs,rfl,hs,hr⟩:=rx.tup
    obtain⟨ay,ws,rfl,hs',hr'⟩:=ry.tup
    cases xs with
    | nil =>
     simp only[RepL] at hr
     subst hr
     refine .inr (.inr (.inl ⟨_,_,_,rfl,rfl,hs,hs',k _ F H (Ext.refl d) ?_⟩))
     simp only[Rep]
     exact⟨_,_,rfl,hs',by simpa using hr'⟩
    | cons x0 xr =>
     refine .inr (.inr (.inr (.inl ⟨_,_,_,_,rfl,rfl,hs,hs',?_,?_,fun e0=>?_,fun e0 p hp=>?_⟩)))
     ·intro z
      subst z
      have:=hr.length
      simp at this
     ·rw[z5i,<- hr.length,<- hr'.length]
      exact hz
     ·refine k _ F H (Ext.refl d) ?_
      subst e0
      have e1:ys=[]:=List.eq_nil_of_length_eq_zero (by rw[hr'.length];rfl)
      subst e1
      simp only[Rep]
      exact⟨_,_,rfl,hs,by simpa using hr⟩
     ·have x1:=Ext.laid (o:=.tup (vs++ws)) d hp
      refine k _ F _ x1 ?_
      simp only[Rep]
      exact⟨p,_,rfl,SqT.of z05,(hr.append hr').ext x1⟩
   next=>cases e
  ·split at e
   next xs ys hz =>
    cases e
    obtain⟨ax,vs,rfl,hs,hr⟩:=rx.lst
    obtain⟨ay,ws,rfl,hs',hr'⟩:=ry.lst
    refine .inr (.inr (.inr (.inr ⟨_,_,_,_,rfl,rfl,hs,hs',by rw[z5i,<- hr.length,<- hr'.length];exact hz,fun p hp=>?_⟩)))
    have x1:=Ext.laidF (o:=.lst (vs++ws)) d hp
    refine k _ _ _ x1 ?_
    simp only[Rep]
    exact⟨p,_,rfl,.inr rfl,.inl z05,(hr.append hr').ext x1⟩
   next=>cases e
  ·cases e))
noncomputable def zh8:V->List V->Hp->VK->Prop:=fun x vs H Q=>∃l b xs zs,x=.ref l/\vs=[.ref b]/\H l=some (.lst xs)/\Rd H b (.lst zs)/\xs.length+zs.length<=y0j/\Q .non (upd H l (.lst (xs++zs)))
theorem zcx:MtM X "list.extend" zh8:=by
 intro pins s σ H x vs v us Q I rx rv h
 obtain⟨l,b,xs,zs,rfl,rfl,hH,hB,hz,q⟩:=h
 cases rx
 obtain⟨u,rfl,ru⟩:=rv.one
 cases ru
 obtain⟨z,its,n,r,hl,e⟩:=I.lstM hH
 obtain⟨z2,its2,n2,r2,hl2,e2⟩:=Inv.lstR I hB
 have hsz:its.toArray.size+its2.toArray.size<=y0j:=by rw[y0h,y0h];omega
 have hlong:¬(!its.toArray.isEmpty && Builtin.List.listTooLong (its.toArray.size+its2.toArray.size))=true:=by
  rw[zhx hsz,Bool.and_false]
  exact y1y
 refine call_meets F.slot_list_extend ⟨_,e,rfl⟩ F.entry_list_extend (F.args_list_extend_2 _ _)
  (AutoSeq1.list_extend_list_list_0 l its.toArray n b its2.toArray n2 hlong (by rw[y0h];omega) (by omega)) ⟨e,e2,?_⟩
 refine⟨.non,_,I.lset (its':=its++its2) hH e (by simp) (r.append r2) ?_,rfl,q⟩
 rw[y1x]
 omega
theorem z8t (ha:PEr X a f) (hb:PEr X b g):PEv X (.BinOp a .Mult b pos) (op2 oMul f g) :=
 z0s (zhk zmp ha hb) (z43 (by
  intro O F H x y t vx vy Q d rx ry e k
  unfold oMul at e
  split at e
  ·split at e
   next hm =>
    cases e
    rw[rx.int,ry.int]
    refine⟨_,_,rfl,rfl,?_,k _ F H (Ext.refl d) (by simp[Rep])⟩
    simpa [zhz,CMul] using hm
   next=>cases e
  ·cases e))
theorem zea (ha:PEr X a f) (hb:PEr X b g):PEv X (.BinOp a .FloorDiv b pos) (op2 oDiv f g) :=
 z0s (zhk zkq ha hb) (z43 (by
  intro O F H x y t vx vy Q d rx ry e k
  unfold oDiv at e
  split at e
  ·split at e
   next hm =>
    cases e
    rw[rx.int,ry.int]
    exact⟨_,_,rfl,rfl,hm,k _ F H (Ext.refl d) (by simp[Rep])⟩
   next=>cases e
  ·cases e))
theorem z55 (ha:PEr X a f) (hb:PEr X b g):PEv X (.BinOp a .Mod b pos) (op2 oMod f g) :=
 z0s (zhk zmq ha hb) (z43 (by
  intro O F H x y t vx vy Q d rx ry e k
  unfold oMod at e
  split at e
  ·split at e
   next hm =>
    cases e
    rw[rx.int,ry.int]
    exact⟨_,_,rfl,rfl,hm,k _ F H (Ext.refl d) (by simp[Rep])⟩
   next=>cases e
  ·cases e))
theorem q_ix (ha:PEr X a f) (hb:PEr X b g) (hs:zb1 b:=by intro _ _;rfl):PEv X (.Subscript a b pos) (op2 oIx f g) :=
 z0s (zom zn7 ha hb hs) (z43 (by
  intro O F H x y t vx vy Q d rx ry e k
  unfold oIx at e
  split at e
  ·obtain⟨ax,vs,rfl,hs,hr⟩:=rx.tup
   rw[ry.int]
   simp only[atZ,y01] at e
   obtain⟨j,hj,et⟩:=e
   obtain⟨v,hv,rv⟩:=hr.get et
   refine .inr (.inl ⟨_,_,_,v,rfl,rfl,hs,?_,k _ F H (Ext.refl d) rv⟩)
   rw[hr.length] at hj
   show (ixN _ _).bind _=_
   rw[show ixN vs.length _=some j from hj]
   exact hv
  ·obtain⟨ax,vs,rfl,hs,hr⟩:=rx.lst
   rw[ry.int]
   simp only[atZ,y01] at e
   obtain⟨j,hj,et⟩:=e
   obtain⟨v,hv,rv⟩:=hr.get et
   refine .inl ⟨_,_,_,v,rfl,rfl,.inl hs,?_,k _ F H (Ext.refl d) rv⟩
   rw[hr.length] at hj
   show (ixN _ _).bind _=_
   rw[show ixN vs.length _=some j from hj]
   exact hv
  ·split at e
   next hz =>
    rw[rx.str,ry.int]
    simp only[y07] at e
    obtain⟨c,hc,rfl⟩:=e
    exact .inr (.inr ⟨_,_,c,rfl,rfl,by rw[z5i];exact hz,hc,k _ F H (Ext.refl d) (by simp[Rep])⟩)
   next=>cases e
  ·cases e))
end
end
section
variable [Tbl]
noncomputable def DO (K:y00) (F₀:Addr->Prop) (H₀:En) (O F:Addr->Prop) (H:Hp) (D:Ends):Out->Prop
 | .nx ε'=>∀σ' F' H',Kp K F H F' H'->RelE K F₀ H₀ O F' H' ε' σ'->D.nx σ' H'
 | .rt t=>∀v F' H',Ext F₀ H₀.h F' H'->Rep K F' H' t v->D.rt v H'
 | .rtm t ε'=>∀v σ' F' H',RelE K F₀ H₀ O F' H' ε' σ'->Rep K F' H' t v->D.rt v H'
 | .rto s=>∀a F' H',Ext F₀ H₀.h F' H'->z1g K H₀ O F' H' s (.ref a)->D.rt (.ref a) H'
 | .bk ε'=>∀σ' F' H',Kp K F H F' H'->RelE K F₀ H₀ O F' H' ε' σ'->D.bk σ' H'
 | .ct ε'=>∀σ' F' H',Kp K F H F' H'->RelE K F₀ H₀ O F' H' ε' σ'->D.ct σ' H'
def tS (K:y00) (g:Fs):TS:=fun D σ H=>∃F₀ H₀ O F ε o,RelE K F₀ H₀ O F H ε σ/\g ε=some o/\DO K F₀ H₀ O F H D o
abbrev PSt (X:Cx) (s:Stmt) (g:Fs):Prop:=PS X s (tS X.K g)
abbrev PBt (X:Cx) (s:List Stmt) (g:Fs):Prop:=PSs X s (tS X.K g)
theorem DO.kp {K:y00} {F₀ O F F1:Addr->Prop} {H₀:En} {H H1:Hp} {D:Ends} {o:Out} (h:DO K F₀ H₀ O F H D o) (x:Kp K F H F1 H1):DO K F₀ H₀ O F1 H1 D o:=by
 cases o with
 | nx ε=>exact fun σ' F' H' k r=>h σ' F' H' (x.trans k) r
 | rt t=>exact h
 | bk ε=>exact fun σ' F' H' k r=>h σ' F' H' (x.trans k) r
 | ct ε=>exact fun σ' F' H' k r=>h σ' F' H' (x.trans k) r
 | rtm t ε=>exact h
 | rto s=>exact h
section
variable {X:Cx} {e a b c:Expr} {f:Fe} {g g':Fs} {ft:Ft} {st:Stmt} {rest:List Stmt} {pos:Pos}
theorem z6h:PBt X [] skip:=z6m zeg fun D σ H ⟨F₀,H₀,O,F,ε,o,r,e,k⟩=>by
 cases e
 exact k σ F H Kp.refl r
theorem z13 (h:PSt X st g):PBt X [st] g:=z41 h
theorem z0b (h1:PSt X st g) (h2:PBt X rest g'):PBt X (st::rest) (seq g g'):=z6m (z2w h1 h2) fun D σ H ⟨F₀,H₀,O,F,ε,o,r,e,k⟩=>by
 simp only[seq,y01] at e
 obtain⟨o1,e1,e2⟩:=e
 refine⟨F₀,H₀,O,F,ε,o1,r,e1,?_⟩
 cases o1 with
 | nx ε'=>exact fun σ' F' H' x r'=>⟨F₀,H₀,O,F',ε',o,r',e2,k.kp x⟩
 | rt t =>
  cases e2
  exact k
 | bk ε' =>
  cases e2
  exact k
 | ct ε' =>
  cases e2
  exact k
 | rtm t ε' =>
  cases e2
  exact k
 | rto s =>
  cases e2
  exact k
theorem z3q (h:PEv X e f):PSt X (.Return (some e) pos) (rtn f):=z1u (z8u h) fun D σ H ⟨F₀,H₀,O,F,ε,o,r,e,k⟩=>by
 simp only[rtn,y07] at e
 obtain⟨t,et,rfl⟩:=e
 exact⟨F₀,H₀,O,F,ε,t,r,et,fun v F' H' x q=>k v F' H' (r.ent.trans x) q⟩
theorem zj5 (i:Nat) {x:Str} {npos:Pos} (hN:X.N[i]?=some x:=by rfl) (hv:Vis X.env.scope x:=by first|exact Or.inl rfl|exact Or.inr (Or.inl rfl)|exact Or.inr (Or.inr rfl)) (hd:(x == ("__debug__":Str))=false:=by decide)
  (hcd:(x == ("__classdict__":Str))=false:=by decide):PSt X (.Return (some (.Name x npos)) pos) (rtn (nm i)):=z1u (z8u (pv i hN hv hd hcd)) fun D σ H ⟨F₀,H₀,O,F,ε,o,r,e,k⟩=>by
 simp only[rtn,y07] at e
 obtain⟨t,et,rfl⟩:=e
 unfold nm at et
 split at et
 next t' he =>
  cases et
  obtain⟨v,h1,h2⟩:=r.val _ _ he
  exact⟨v,h1,k v F H r.ent h2⟩
 next ts he =>
  cases et
  obtain⟨v,h1,a,vs,rfl,n,h0,ha,q⟩:=r.val _ _ he
  have x2:=r.ent
  have y:Ext F₀ H₀.h (fun b=>F b\/b=a) H:=⟨x2.same,fun b z=>.inl (x2.sub b z),fun b z=>by
   rcases z with z|rfl
   ·exact x2.new b z
   ·exact .inr (r.o0 _ h0),⟨fun b z=>by
   rcases z with z|rfl
   ·exact x2.dom b z
   ·exact⟨_,ha⟩,x2.dom.tgs⟩⟩
  refine⟨_,h1,k _ _ H y ?_⟩
  simp only[Rep]
  exact⟨a,vs,rfl,.inr rfl,.inl ha,q.keep (fun _ _ z=>z) fun b _ z w=>⟨.inl z,w⟩⟩
 next=>cases et
theorem s_if (hc:PTt X c ft) (ha:PBt X rest g) {els:List Stmt} (hb:PBt X els g'):PSt X (.If c rest els pos) (iff ft g g'):=z1u (zhh hc ha hb) fun D σ H ⟨F₀,H₀,O,F,ε,o,r,e,k⟩=>by
 simp only[iff,y01] at e
 obtain⟨b,eb,e⟩:=e
 refine⟨F₀,H₀,O,F,ε,b,r,eb,fun F' H' x=>?_⟩
 cases b with
 | true=>exact iteT ⟨F₀,H₀,O,F',ε,o,r.ext x,by simpa using e,k.kp x.kp⟩
 | false=>exact iteF ⟨F₀,H₀,O,F',ε,o,r.ext x,by simpa using e,k.kp x.kp⟩
theorem z2v (i:Nat) {x:Str} {pos':Pos} (hN:X.N.Nodup) (he:PEv X e f) (hi:X.N[i]?=some x:=by rfl) (hx:Loc X.env.scope x:=by first|exact Or.inl rfl|exact Or.inr rfl)
  (hs:swapsWith e (some (.Name x pos')) pos.line X.env=pure false:=by rfl) (hf:X.fn x=true\/X.env.scope.names.lookup x=some .local:=by first|exact .inl rfl|exact .inr rfl) :
  PSt X (.Assign [.Name x pos'] e pos) (asg i f):=z1u (z4c hN hi hx he hs hf) fun D σ H ⟨F₀,H₀,O,F,ε,o,r,e,k⟩=>by
 simp only[asg,y07] at e
 obtain⟨t,et,rfl⟩:=e
 refine⟨F₀,H₀,O,F,ε,t,r,et,fun v F' H' x q=>?_⟩
 exact k _ F' H' x.kp ((r.ext x).set i q)
theorem z6u (i:Nat) {x:Str} {pos':Pos} (hN:X.N.Nodup) (he:PEn X e f) (hi:X.N[i]?=some x:=by rfl) (hx:Loc X.env.scope x:=by first|exact Or.inl rfl|exact Or.inr rfl)
  (hs:swapsWith e (some (.Name x pos')) pos.line X.env=pure false:=by rfl) (hf:X.fn x=true\/X.env.scope.names.lookup x=some .local:=by first|exact .inl rfl|exact .inr rfl) :
  PSt X (.Assign [.Name x pos'] e pos) (asgN i f):=z1u (z4c hN hi hx he hs hf) fun D σ H ⟨F₀,H₀,O,F,ε,o,r,e,k⟩=>by
 simp only[asgN,y01] at e
 obtain⟨t,et,e⟩:=e
 split at e
 next ts =>
  cases e
  refine⟨F₀,H₀,O,F,ε,ts,r,et,fun a vs F' H' x hn nf ha q=>?_⟩
  exact k _ F' H' x.kp (r.setNew (s:=.own ts) i x ⟨a,vs,rfl,nf,r.fr a hn,ha,q⟩ fun b hb=>by
   have:b=a:=by simpa [fpS,rf] using hb
   rw[this]
   exact hn)
 next=>cases e
def tG (K:y00) (g:Fg):TG:=fun v σ H Q=>∃F₀ H₀ O F ε t ε',RelE K F₀ H₀ O F H ε σ/\Rep K F H t v/\g t ε=some ε'/\∀σ',RelE K F₀ H₀ O F H ε' σ'->Q σ' H
def tGs (K:y00) (gs:List Fg):TGs:=fun vs σ H Q=>∃F₀ H₀ O F ε ts ε',RelE K F₀ H₀ O F H ε σ/\RepL K F H ts vs/\gAll gs ts ε=some ε'/\∀σ',RelE K F₀ H₀ O F H ε' σ'->Q σ' H
abbrev PGt (X:Cx) (e:Expr) (g:Fg):Prop:=PG X e (tG X.K g)
abbrev PGst (X:Cx) (es:List Expr) (gs:List Fg):Prop:=PGs X es (tGs X.K gs)
theorem zju {X:Cx} {e:Expr} {t t':TG} (h:PG X e t) (k:∀v σ H Q,t' v σ H Q->t v σ H Q):PG X e t':=fun pins s σ H v u Q I r q=>h pins s σ H v u Q I r (k v σ H Q q)
theorem zgr {X:Cx} {e:List Expr} {t t':TGs} (h:PGs X e t) (k:∀v σ H Q,t' v σ H Q->t v σ H Q):PGs X e t':=fun pins s σ H v u Q I r q=>h pins s σ H v u Q I r (k v σ H Q q)
theorem g_nm (i:Nat) {x:Str} (hN:X.N.Nodup) (hi:X.N[i]?=some x:=by rfl) (hx:Loc X.env.scope x:=by first|exact Or.inl rfl|exact Or.inr rfl)
  (hf:X.fn x=true\/X.env.scope.names.lookup x=some .local:=by first|exact .inl rfl|exact .inr rfl):PGt X (.Name x pos) (gNm i):=zju (zki hN hi hx hf) fun v σ H Q ⟨F₀,H₀,O,F,ε,t,ε',r,q,e,k⟩=>by
 cases e
 exact k _ (r.set i q)
theorem zfw:PGst X [] []:=zgr zkh fun vs σ H Q ⟨F₀,H₀,O,F,ε,ts,ε',r,q,e,k⟩=>by
 cases ts with
 | nil =>
  cases e
  simp only[RepL] at q
  exact⟨q,k σ r⟩
 | cons t ts=>cases e
theorem z3h {es:List Expr} {g:Fg} {gs:List Fg} (h1:PGt X e g) (h2:PGst X es gs) (hs:(assignEach (e::es) X.env).map (·.2)=assign e X.env::(assignEach es X.env).map (·.2):=by rfl):PGst X (e::es) (g::gs) :=
 zgr (zhj h1 h2 hs) fun vs σ H Q ⟨F₀,H₀,O,F,ε,ts,ε',r,q,e,k⟩=>by
 cases ts with
 | nil=>cases e
 | cons t ts =>
  simp only[gAll,y01] at e
  obtain⟨ε1,e1,e2⟩:=e
  simp only[RepL] at q
  obtain⟨v,vr,rfl,q1,q2⟩:=q
  exact⟨v,vr,rfl,F₀,H₀,O,F,ε,t,ε1,r,q1,e1,fun σ1 r1=>⟨F₀,H₀,O,F,ε1,ts,ε',r1,q2,e2,k⟩⟩
theorem zc0:∀{gs:List Fg} {ts:List T} {ε ε':Ev},gAll gs ts ε=some ε'->ts.length=gs.length
 | [],[],_,_,_=>rfl
 | [],_::_,_,_,h=>by cases h
 | _::_,[],_,_,h=>by cases h
 | g::gs,t::ts,ε,ε',h=>by
  simp only[gAll,y01] at h
  obtain⟨ε1,_,h⟩:=h
  simp[zc0 h]
theorem zfv {es:List Expr} {k:Nat} {gs:List Fg} (h:PGst X es gs) (hc:X.calm=true:=by rfl) (hn:(assignEach es X.env).length=gs.length:=by rfl) (hst:(assignEach es X.env).findIdx? (·.1)=none:=by rfl) :
  PGt X (.Tuple es k pos) (gTu gs):=zju (zmk hc h hn hst) fun v σ H Q ⟨F₀,H₀,O,F,ε,t,ε',r,q,e,k⟩=>by
 unfold gTu at e
 split at e
 next ts =>
  simp only[Rep] at q
  obtain⟨a,vs,rfl,hs,hr⟩:=q
  exact⟨a,vs,rfl,hs,by rw[<- hr.length];exact zc0 e,F₀,H₀,O,F,ε,ts,ε',r,hr,e,k⟩
 next=>cases e
structure ItOk (K:y00) (J:It) (F1:Addr->Prop) (H1:Hp) (ts:List T):Prop where
 go:∀i F H t,Kp K F1 H1 F H->Dom F H->ts[i]?=some t->J.go i H
 yld:∀i F H t x H',Kp K F1 H1 F H->Dom F H->ts[i]?=some t->J.yld i H x H'->∃F',Ext F H F' H'/\Rep K F' H' t x
 stop:∀i F H,Kp K F1 H1 F H->ts.length<=i->J.stop i H
def tI (K:y00) (f:Fi):TI:=fun σ H R=>∃F₀ H₀ O F ε ts,RelE K F₀ H₀ O F H ε σ/\f ε=some ts/\∀J F' H',Ext F H F' H'->ItOk K J F' H' ts->R J H'
abbrev PIt (X:Cx) (tg e:Expr) (f:Fi):Prop:=PI X tg e (tI X.K f)
theorem zcj {X:Cx} {tg e:Expr} {t t':TI} (h:PI X tg e t) (k:∀σ H R,t' σ H R->t σ H R):PI X tg e t':=fun pins s σ H R I q=>h pins s σ H R I (k σ H R q)
theorem zfk {K:y00} {a:Addr} {F1:Addr->Prop} {H1:Hp} {ts:List T} {vs:List V} (fa:F1 a) (hr:Rd H1 a (.lst vs)) (q:RepL K F1 H1 ts vs):ItOk K (Itl K a) F1 H1 ts where
 go:=fun i F H t kp d e=>by
  obtain⟨v,h1,_⟩:=q.get e
  exact⟨vs,v,.inl (kp.lst _ _ fa hr).2,h1⟩
 yld:=fun i F H t x H' kp d e y=>by
  obtain⟨rfl,y⟩:=y
  obtain⟨v,h1,h2⟩:=(q.kp kp).get e
  have:=y vs (.inl (kp.lst _ _ fa hr).2)
  rw[h1] at this
  cases this
  exact⟨F,Ext.refl d,h2⟩
 stop:=fun i F H kp hl=>⟨vs,.inl (kp.lst _ _ fa hr).2,by rw[<- q.length];exact hl⟩
theorem zic {K:y00} {a:Addr} {F1:Addr->Prop} {H1:Hp} {ts:List T} {vs:List V} (hr:SqT K H1 a vs) (q:RepL K F1 H1 ts vs):ItOk K (Itt K a) F1 H1 ts where
 go:=fun i F H t kp d e=>by
  obtain⟨v,h1,_⟩:=q.get e
  exact⟨vs,v,kp.tup _ _ hr,h1⟩
 yld:=fun i F H t x H' kp d e y=>by
  obtain⟨rfl,y⟩:=y
  obtain⟨v,h1,h2⟩:=(q.kp kp).get e
  have:=y vs (kp.tup _ _ hr)
  rw[h1] at this
  cases this
  exact⟨F,Ext.refl d,h2⟩
 stop:=fun i F H kp hl=>⟨vs,kp.tup _ _ hr,by rw[<- q.length];exact hl⟩
theorem zac (lo hi:Int):(rng lo hi).length=(hi - lo).toNat:=by simp[rng]
theorem zbu {K:y00} {F1:Addr->Prop} {H1:Hp} (lo hi:Int):ItOk K (Itr lo (hi - lo).toNat) F1 H1 (rng lo hi) where
 go:=fun i F H t kp d e=>by
  have h:=(y0k.mp e).1
  rw[zac] at h
  exact h
 yld:=fun i F H t x H' kp d e y=>by
  obtain⟨rfl,rfl⟩:=y
  refine⟨F,Ext.refl d,?_⟩
  have h:=(y0k.mp e).1
  rw[zac] at h
  unfold rng at e
  rw[y13,List.getElem?_range h] at e
  simp at e
  subst e
  simp[Rep]
 stop:=fun i F H kp hl=>by
  rw[zac] at hl
  exact hl
def iSq (K:y00) (tl:TE):TI:=fun σ H R=>tl σ H fun x H1=>∃a,x=.ref a/\(((∃xs,SqL K H1 a xs)/\R (Itl K a) H1)\/((∃xs,SqT K H1 a xs)/\R (Itt K a) H1))
theorem zol {tg l:Expr} {tl:TE} (hl:PE X l tl):PI X tg l (iSq X.K tl):=by
 intro pins s σ H R I h
 refine thn (hl pins s σ H _ I h) fun v s1 ⟨x,H1,I1,r1,a,e1,q⟩=>?_
 subst e1
 cases r1
 have fp:∀b∈[s1.heap.objs.size],FpOk X pins H1 b:=fun b hb=>by
  have e:b=s1.heap.objs.size:=by simpa using hb
  subst e
  exact I1.fpOk (y0o _) (I1.hok.fresh (y0o _))
 rcases q with ⟨⟨xs,hq⟩,q⟩|⟨⟨xs,hq⟩,q⟩
 ·obtain⟨its,rv,p,hz⟩:=I1.list hq
  refine wpAny_pyIter_list p.isList ?_
  exact⟨s1.heap.objs.size,[s1.heap.objs.size],_,_,H1,rfl,I1.kept (t':=s1.toks) fun b o e=>y03 _ e,zdi a _,⟨_,y0l _ rfl,rfl,rfl⟩,fp,q⟩
 ·obtain⟨its,rv,p,hz⟩:=I1.tuple hq
  refine wpAny_pyIter_tuple (show s1.heap.IsTuple a its.toArray from p) ?_
  exact⟨s1.heap.objs.size,[s1.heap.objs.size],_,_,H1,rfl,I1.kept (t':=s1.toks) fun b o e=>y03 _ e,zco a _,⟨_,y0l _ rfl,rfl,rfl⟩,fp,q⟩
theorem zaq {tg l:Expr} {f:Fe} (hl:PEv X l f):PIt X tg l (z0a f):=zcj (zol hl) fun σ H R ⟨F₀,H₀,O,F,ε,ts,r,e,k⟩=>by
 simp only[z0a,y01] at e
 obtain⟨t,et,e⟩:=e
 split at e
 ·cases e
  refine⟨F₀,H₀,O,F,ε,_,r,et,fun v F' H' x q=>?_⟩
  simp only[Rep] at q
  obtain⟨a,vs,rfl,hs,hr⟩:=q
  exact⟨a,rfl,.inr ⟨⟨vs,hs⟩,k _ F' H' x (zic hs hr)⟩⟩
 ·cases e
  refine⟨F₀,H₀,O,F,ε,_,r,et,fun v F' H' x q=>?_⟩
  simp only[Rep] at q
  obtain⟨a,vs,rfl,fa,hs,hr⟩:=q
  exact⟨a,rfl,.inl ⟨⟨vs,.inl hs⟩,k _ F' H' x (zfk fa hs hr)⟩⟩
 ·cases e
theorem zna {tg a:Expr} {f:Fe} {p pos:Pos} (hm:X.mg "range"=none) (ha:PEr X a f) (hg:Gl X "range":=by rfl) (hs:y0a [a] X.env=[(false,eval a X.env)]:=by rfl) (hs2:y0a [a] X.env=(false,eval a X.env)::y0a [] X.env:=by rfl) :
  PIt X tg (.Call (.Name "range" p) [a] [] pos) (z36 f):=zcj (zel hg hm (z0c ha z1a hs2) hs) fun σ H R ⟨F₀,H₀,O,F,ε,ts,r,e,k⟩=>by
 simp only[z36,y01] at e
 obtain⟨t,et,e⟩:=e
 split at e
 next j =>
  split at e
  next hz =>
   cases e
   refine⟨F₀,H₀,O,F,ε,_,r,et,fun v F' H' x q=>⟨j,by rw[q.int],?_,?_,k _ F' H' x (by simpa using zbu 0 j)⟩⟩
   ·simp[z1h] at hz
    omega
   ·simp[z1h] at hz
    omega
  next=>cases e
 next=>cases e
theorem zn9 {tg a b:Expr} {f g:Fe} {p pos:Pos} (hm:X.mg "range"=none) (ha:PEr X a f) (hb:PEr X b g) (hg:Gl X "range":=by rfl) (hs:y0a [a,b] X.env=[(false,eval a X.env),(false,eval b X.env)]:=by rfl) (hs2:y0a [b] X.env=[(false,eval b X.env)]:=by rfl)
  (hs3:y0a [a,b] X.env=(false,eval a X.env)::y0a [b] X.env:=by rfl) (hs4:y0a [b] X.env=(false,eval b X.env)::y0a [] X.env:=by rfl) :
  PIt X tg (.Call (.Name "range" p) [a,b] [] pos) (z74 f g):=zcj (zek hg hm (z0c ha (z0c hb z1a hs4) hs3) hs hs2) fun σ H R ⟨F₀,H₀,O,F,ε,ts,r,e,k⟩=>by
 simp only[z74,y01] at e
 obtain⟨t,et,u,eu,e⟩:=e
 split at e
 next i j =>
  split at e
  next hz =>
   cases e
   refine⟨F₀,H₀,O,F,ε,_,r,et,fun v F1 H1 x1 q1=>⟨F₀,H₀,O,F1,ε,_,r.ext x1,eu,fun w F2 H2 x2 q2=>⟨i,j,by rw[q1.int,q2.int],?_,k _ F2 H2 (x1.trans x2) (zbu i j)⟩⟩⟩
   simp[z1h] at hz
   omega
  next=>cases e
 next=>cases e
theorem zab {tg iter:Expr} {body:List Stmt} {it:Fi} {gg:Fg} {bb:Fs} (hp:PassesOwn (model X.prog X.w) X.A X.env X.xe) (hi:PIt X tg iter it) (hg:PGt X tg gg) (hb:PBt X body bb) (hc:X.calm=true:=by rfl)
  (hs:∀x,foldedSetIterable iter X.env x=pure x:=by intro _;rfl):PSt X (.For tg iter body [] pos) (for_ it gg bb):=z1u (zmg hp hc hi hg hb hs) fun D σ H ⟨F₀,H₀,O,F,ε,o,r,e,k⟩=>by
 simp only[for_,y01] at e
 obtain⟨ts,et,e⟩:=e
 refine⟨F₀,H₀,O,F,ε,ts,r,et,fun J F1 H1 x1 ok=>?_⟩
 refine⟨fun i m σ' H'=>m=ts.length - i/\i<=ts.length/\∃F' ε' ,Kp X.K F1 H1 F' H'/\RelE X.K F₀ H₀ O F' H' ε' σ'/\forL gg bb (ts.drop i) ε'=some o,⟨_,rfl,y1z _,F1,ε,Kp.refl,r.ext x1,by simpa using e⟩,?_⟩
 rintro i m σ' H' ⟨rfl,hi',F',ε',kp,r',e'⟩
 by_cases hlt:i<ts.length
 ·have hd:ts.drop i=ts[i]::ts.drop (i+1):=List.drop_eq_getElem_cons hlt
  have hg':ts[i]?=some ts[i]:=y0v hlt
  rw[hd] at e'
  simp only[forL,y01] at e'
  obtain⟨ε1,eg,o1,eb,e'⟩:=e'
  refine .inr ⟨ok.go i F' H' _ kp r'.dom hg',fun σ2 H2=>∃m',m'<ts.length - i/\(m'=ts.length - (i+1)/\i+1<=ts.length/\∃F2 ε2,Kp X.K F1 H1 F2 H2/\RelE X.K F₀ H₀ O F2 H2 ε2 σ2/\forL gg bb (ts.drop (i+1)) ε2=some o),fun _ _ z=>z,fun x H2 y=>?_⟩
  obtain⟨F2,x2,rx⟩:=ok.yld i F' H' _ x H2 kp r'.dom hg' y
  refine⟨F₀,H₀,O,F2,ε',_,ε1,r'.ext x2,rx,eg,fun σ3 r3=>⟨F₀,H₀,O,F2,ε1,o1,r3,eb,?_⟩⟩
  have kp2:Kp X.K F1 H1 F2 H2:=kp.trans x2.kp
  cases o1 with
  | nx ε2=>exact fun σ4 F4 H4 k4 r4=>⟨_,by omega,rfl,hlt,F4,ε2,kp2.trans k4,r4,e'⟩
  | ct ε2=>exact fun σ4 F4 H4 k4 r4=>⟨_,by omega,rfl,hlt,F4,ε2,kp2.trans k4,r4,e'⟩
  | bk ε2 =>
   cases e'
   exact fun σ4 F4 H4 k4 r4=>k σ4 F4 H4 ((x1.kp.trans kp2).trans k4) r4
  | rt t =>
   cases e'
   exact k
  | rtm t ε2 =>
   cases e'
   exact k
  | rto s =>
   cases e'
   exact k
 ·have hd:ts.drop i=[]:=List.drop_eq_nil_of_le (by omega)
  rw[hd] at e'
  cases e'
  exact .inl ⟨ok.stop i F' H' kp (by omega),k σ' F' H' (x1.kp.trans kp) r'⟩
theorem zdx {body:List Stmt} {bb:Fs} (n:Nat) (hp:PassesOwn (model X.prog X.w) X.A X.env X.xe) (hc:PTt X c ft) (hb:PBt X body bb):PSt X (.While c body [] pos) (whl ft bb n):=z1u (zhf hp hc hb) fun D σ H ⟨F₀,H₀,O,F,ε,o,r,e,k⟩=>by
 refine⟨fun m σ' H'=>∃F' ε',Kp X.K F H F' H'/\RelE X.K F₀ H₀ O F' H' ε' σ'/\whl ft bb m ε'=some o,⟨n,F,ε,Kp.refl,r,e⟩,?_⟩
 rintro m σ' H' ⟨F',ε',kp,r',e'⟩
 cases m with
 | zero=>cases e'
 | succ m =>
  simp only[whl,y01] at e'
  obtain⟨x,ex,e'⟩:=e'
  refine⟨F₀,H₀,O,F',ε',x,r',ex,fun F1 H1 x1=>?_⟩
  cases x with
  | false =>
   simp only[y1o,if_false] at e'
   cases e'
   exact iteF (k σ' F1 H1 (kp.trans x1.kp) (r'.ext x1))
  | true =>
   simp only[if_true,y01] at e'
   obtain⟨o1,eb,e'⟩:=e'
   refine iteT ⟨fun σ2 H2=>∃m',m'<m+1/\∃F2 ε2,Kp X.K F H F2 H2/\RelE X.K F₀ H₀ O F2 H2 ε2 σ2/\whl ft bb m' ε2=some o,fun _ _ z=>z,F₀,H₀,O,F1,ε',o1,r'.ext x1,eb,?_⟩
   have kp2:=kp.trans (x1.kp (K:=X.K))
   cases o1 with
   | nx ε2=>exact fun σ4 F4 H4 k4 r4=>⟨m,by omega,F4,ε2,kp2.trans k4,r4,e'⟩
   | ct ε2=>exact fun σ4 F4 H4 k4 r4=>⟨m,by omega,F4,ε2,kp2.trans k4,r4,e'⟩
   | bk ε2 =>
    cases e'
    exact fun σ4 F4 H4 k4 r4=>k σ4 F4 H4 (kp2.trans k4) r4
   | rt t =>
    cases e'
    exact k
   | rtm t ε2 =>
    cases e'
    exact k
   | rto s =>
    cases e'
    exact k
theorem zdz (i:Nat) {x:Str} {px apos cpos:Pos} (he:PEv X e f) (hN:X.N[i]?=some x:=by rfl) (hv:Vis X.env.scope x:=by first|exact Or.inl rfl|exact Or.inr (Or.inl rfl)|exact Or.inr (Or.inr rfl)) (hd:(x == ("__debug__":Str))=false:=by decide)
  (hcd:(x == ("__classdict__":Str))=false:=by decide) (hs1:y0a [e] X.env=(false,eval e X.env)::y0a [] X.env:=by rfl)
  (hbase:attributeBase (.Name x px) "append" X.env (eval (.Name x px) X.env)=eval (.Name x px) X.env:=by rfl)
  (hfew:((backTo cpos (y0a [e] X.env)).all (fun x=>!x.1) && (backToKw cpos (keywordEach [] X.env)).all (fun x=>x.1.isSome)
   && decide (([e]:List Expr).length+([]:List Keyword).length+(if ([]:List Keyword).isEmpty then 0 else 1)<30))=true:=by rfl)
  (hline:(apos.endLine == cpos.line)=true:=by rfl) (hplain:(backTo cpos (y0a [] X.env)).any (·.1)=false:=by rfl)
  (hsw:swapsWith (.Call (.Attribute (.Name x px) "append" apos) [e] [] cpos) none pos.line X.env=pure false:=by rfl) :
  PSt X (.Expr (.Call (.Attribute (.Name x px) "append" apos) [e] [] cpos) pos) (app i f) :=
 z1u (zeh (zhm PySem.F.plainAttrs_list PySem.F.slot_list_append PySem.F.type_list_append z92 (pv i hN hv hd hcd) (z0c he z1a hs1) hbase hfew hline hs1 hplain) hsw) fun D σ H ⟨F₀,H₀,O,F,ε,o,r,e,k⟩=>by
 unfold app at e
 split at e
 next ts he =>
  simp only[y01] at e
  obtain⟨t,et,e⟩:=e
  split at e
  next hz =>
   cases e
   obtain⟨v,h1,a,vs,rfl,n,h0,hh,hr⟩:=r.val _ _ he
   refine⟨_,h1,.inl ⟨rfl,_,SqL.of hh⟩,F₀,H₀,O,F,ε,t,r,et,fun v F' H' x q=>?_⟩
   have r1:=r.ext x
   obtain⟨v1,h1',a1,vs1,e1,n1,h01,hh1,hr1⟩:=r1.val _ _ he
   rw[h1] at h1'
   cases h1'
   cases e1
   refine⟨a,vs1,v,rfl,rfl,hh1,by rw[z5i,<- hr1.length];exact hz,?_⟩
   obtain⟨kp,r2⟩:=r1.mut (s':=.own (ts++[t])) (o':=.lst (vs1++[v])) he rfl h1 n1 h0 hh1 (.inl ⟨_,rfl⟩) fun kp=>⟨a,_,rfl,n1,h0,z05,(hr1.kp kp).append (RepL.cons (q.kp kp) RepL.nil)⟩
   exact k σ F' _ (x.kp.trans kp) r2
  next=>cases e
 next=>cases e
theorem zob (i:Nat) {x:Str} {px apos cpos:Pos} (he:PEr X e f) (hN:X.N[i]?=some x:=by rfl) (hv:Vis X.env.scope x:=by first|exact Or.inl rfl|exact Or.inr (Or.inl rfl)|exact Or.inr (Or.inr rfl)) (hd:(x == ("__debug__":Str))=false:=by decide)
  (hcd:(x == ("__classdict__":Str))=false:=by decide) (hs1:y0a [e] X.env=(false,eval e X.env)::y0a [] X.env:=by rfl)
  (hbase:attributeBase (.Name x px) "extend" X.env (eval (.Name x px) X.env)=eval (.Name x px) X.env:=by rfl)
  (hfew:((backTo cpos (y0a [e] X.env)).all (fun x=>!x.1) && (backToKw cpos (keywordEach [] X.env)).all (fun x=>x.1.isSome)
   && decide (([e]:List Expr).length+([]:List Keyword).length+(if ([]:List Keyword).isEmpty then 0 else 1)<30))=true:=by rfl)
  (hline:(apos.endLine == cpos.line)=true:=by rfl) (hplain:(backTo cpos (y0a [] X.env)).any (·.1)=false:=by rfl)
  (hsw:swapsWith (.Call (.Attribute (.Name x px) "extend" apos) [e] [] cpos) none pos.line X.env=pure false:=by rfl) :
  PSt X (.Expr (.Call (.Attribute (.Name x px) "extend" apos) [e] [] cpos) pos) (ext i f) :=
 z1u (zeh (zhm PySem.F.plainAttrs_list PySem.F.slot_list_extend PySem.F.type_list_extend zcx (pv i hN hv hd hcd) (z0c he z1a hs1) hbase hfew hline hs1 hplain) hsw) fun D σ H ⟨F₀,H₀,O,F,ε,o,r,e,k⟩=>by
 unfold ext at e
 split at e
 next ts he =>
  simp only[y01] at e
  obtain⟨t,et,e⟩:=e
  split at e
  next us =>
   split at e
   next hz =>
    cases e
    obtain⟨v,h1,a,vs,rfl,n,h0,hh,hr⟩:=r.val _ _ he
    refine⟨_,h1,.inl ⟨rfl,_,SqL.of hh⟩,F₀,H₀,O,F,ε,_,r,et,fun v F' H' x q=>?_⟩
    obtain⟨b,ws,rfl,hb,hw⟩:=q.lst
    have r1:=r.ext x
    obtain⟨v1,h1',a1,vs1,e1,n1,h01,hh1,hr1⟩:=r1.val _ _ he
    rw[h1] at h1'
    cases h1'
    cases e1
    refine⟨a,b,vs1,ws,rfl,rfl,hh1,hb,by rw[z5i,<- hr1.length,<- hw.length];exact hz,?_⟩
    obtain⟨kp,r2⟩:=r1.mut (s':=.own (ts++us)) (o':=.lst (vs1++ws)) he rfl h1 n1 h0 hh1 (.inl ⟨_,rfl⟩) fun kp=>⟨a,_,rfl,n1,h0,z05,(hr1.kp kp).append (hw.kp kp)⟩
    exact k σ F' _ (x.kp.trans kp) r2
   next=>cases e
  next=>cases e
 next=>cases e
theorem zo9 (i j:Nat) {x y:Str} {px py apos cpos:Pos} (hN:X.N.Nodup) (hi:X.N[i]?=some x:=by rfl) (hx:Loc X.env.scope x:=by first|exact Or.inl rfl|exact Or.inr rfl) (hj:X.N[j]?=some y:=by rfl)
  (hv:Vis X.env.scope y:=by first|exact Or.inl rfl|exact Or.inr (Or.inl rfl)|exact Or.inr (Or.inr rfl)) (hd:(y == ("__debug__":Str))=false:=by decide) (hcd:(y == ("__classdict__":Str))=false:=by decide)
  (hbase:attributeBase (.Name y py) "pop" X.env (eval (.Name y py) X.env)=eval (.Name y py) X.env:=by rfl) (hline:(apos.endLine == cpos.line)=true:=by rfl)
  (hs:swapsWith (.Call (.Attribute (.Name y py) "pop" apos) [] [] cpos) (some (.Name x px)) pos.line X.env=pure false:=by rfl) (hf:X.fn x=true\/X.env.scope.names.lookup x=some .local:=by first|exact .inl rfl|exact .inr rfl) :
  PSt X (.Assign [.Name x px] (.Call (.Attribute (.Name y py) "pop" apos) [] [] cpos) pos) (pop i j) :=
 z1u (z4c hN hi hx (zjb PySem.F.plainAttrs_list PySem.F.slot_list_pop PySem.F.type_list_pop zf3 (pv j hj hv hd hcd) hbase hline) hs hf) fun D σ H ⟨F₀,H₀,O,F,ε,o,r,e,k⟩=>by
 unfold pop at e
 split at e
 next ts he =>
  simp only[y01] at e
  obtain⟨t,et,e⟩:=e
  split at e
  next=>cases e
  next hij =>
   cases e
   obtain⟨v,h1,a,vs,rfl,n,h0,hh,hr⟩:=r.val _ _ he
   rw[List.getLast?_eq_getElem?] at et
   obtain⟨w,hw,rw'⟩:=hr.get et
   refine⟨_,h1,.inl ⟨rfl,_,SqL.of hh⟩,a,vs,w,rfl,rfl,hh,by rw[<- hr.length];exact hw,?_⟩
   obtain⟨kp,r2⟩:=r.mut (s':=.own ts.dropLast) (o':=.lst vs.dropLast) he rfl h1 n h0 hh (.inl ⟨_,rfl⟩) fun kp=>⟨a,_,rfl,n,h0,z05,by
    have:=(hr.kp kp).take (ts.length - 1)
    rw[<- List.dropLast_eq_take,hr.length,<- List.dropLast_eq_take] at this
    exact this⟩
   exact k _ F _ kp (r2.set i (rw'.kp kp))
 next=>cases e
end
end
section
variable [Tbl]
section
variable {X:Cx} {a b c e:Expr} {es:List Expr} {f g h:Fe} {fs:List Fe} {ft gt:Ft} {pos p:Pos}
theorem z37:PAr X [] []:=za1 z1a fun σ H Q ⟨F₀,H₀,O,F,ε,ts,r,e,k⟩=>by
 cases e
 exact k [] F H (Ext.refl r.dom) .nil
theorem z1f (ha:PEr X e f) (hr:PAr X es fs) (hs:y0a (e::es) X.env=(false,eval e X.env)::y0a es X.env:=by rfl):PAr X (e::es) (f::fs):=za1 (z0c ha hr hs) fun σ H Q ⟨F₀,H₀,O,F,ε,ts,r,e,k⟩=>by
 simp only[args,y01,y07] at e
 obtain⟨t,et,us,eu,rfl⟩:=e
 refine⟨F₀,H₀,O,F,ε,t,r,et,fun v F1 H1 x1 q1=>⟨F₀,H₀,O,F1,ε,us,r.ext x1,eu,fun vs F2 H2 x2 q2=>?_⟩⟩
 exact k _ F2 H2 (x1.trans x2) (.cons (q1.ext x2) q2)
theorem z06:PAv X [] []:=za1 z1a fun σ H Q ⟨F₀,H₀,O,F,ε,ts,r,e,k⟩=>by
 cases e
 exact k [] F H (Ext.refl r.dom) RepL.nil
theorem z01 (ha:PEv X e f) (hr:PAv X es fs) (hs:y0a (e::es) X.env=(false,eval e X.env)::y0a es X.env:=by rfl):PAv X (e::es) (f::fs):=za1 (z0c ha hr hs) fun σ H Q ⟨F₀,H₀,O,F,ε,ts,r,e,k⟩=>by
 simp only[args,y01,y07] at e
 obtain⟨t,et,us,eu,rfl⟩:=e
 refine⟨F₀,H₀,O,F,ε,t,r,et,fun v F1 H1 x1 q1=>⟨F₀,H₀,O,F1,ε,us,r.ext x1,eu,fun vs F2 H2 x2 q2=>?_⟩⟩
 exact k _ F2 H2 (x1.trans x2) (RepL.cons (q1.ext x2) q2)
theorem z1r {x1} (h:PAv X es fs):PEv X (.Tuple es x1 pos) (z03 fs):=z0s (z8x h) fun σ H Q ⟨F₀,H₀,O,F,ε,t,r,e,k⟩=>by
 simp only[z03,y01] at e
 obtain⟨ts,et,e⟩:=e
 split at e
 next hz =>
  cases e
  refine⟨F₀,H₀,O,F,ε,ts,r,et,fun vs F1 H1 x1 q1=>⟨by rw[z5i,<- q1.length];exact hz,fun p hp=>?_⟩⟩
  have x2:=Ext.laid (o:=.tup vs) x1.dom hp
  refine k _ F1 _ (x1.trans x2) ?_
  simp only[Rep]
  exact⟨p,vs,rfl,SqT.of z05,q1.ext x2⟩
 next=>cases e
theorem zae (h:PAv X es fs):PEn X (.List es pos) (z0i fs):=z0s (zja h) fun σ H Q ⟨F₀,H₀,O,F,ε,us,r,e,k⟩=>by
 simp only[z0i,y01] at e
 obtain⟨ts,et,e⟩:=e
 split at e
 next hz =>
  cases e
  refine⟨F₀,H₀,O,F,ε,_,r,et,fun vs F1 H1 x1 q1=>⟨by rw[z5i,<- q1.length];exact hz,fun p hp=>?_⟩⟩
  have x2:=Ext.laid (o:=.lst vs) x1.dom hp
  refine k p vs F1 _ (x1.trans x2) ?_ ?_ z05 (q1.ext x2)
  ·exact x1.same.none hp
  ·intro fp
   obtain⟨o,eo⟩:=x1.dom p fp
   rw[hp] at eo
   cases eo
 next=>cases e
theorem z70 (h:PAv X es fs):PEv X (.List es pos) (z0i fs):=n2v (zae h) fun ε t e=>by
 simp only[z0i,y01] at e
 obtain⟨ts,et,e⟩:=e
 split at e
 ·cases e
  exact⟨_,rfl⟩
 ·cases e
mutual
theorem zbf {F:Addr->Prop} {pins:List (Addr×Obj)} {σ:L2.St} {H:Hp} {s:y04} (I:Inv X pins σ H s):∀{t:T} {v:V} {u:Value},Rep X.K F H t v->RelV v u->∃as,Reads s.heap u t as
 | .none,v,u,h,r=>by
  simp only[Rep] at h
  subst h
  cases r
  exact⟨_,.none⟩
 | .bool b,v,u,h,r=>by
  simp only[Rep] at h
  subst h
  cases r
  exact⟨_,.bool b⟩
 | .int i,v,u,h,r=>by
  simp only[Rep] at h
  subst h
  obtain⟨t,rfl⟩:=r
  exact⟨_,.int i t⟩
 | .str x,v,u,h,r=>by
  simp only[Rep] at h
  subst h
  obtain⟨t,rfl⟩:=r
  exact⟨_,.str x t⟩
 | .dict _,v,u,h,r=>by simp[Rep] at h
 | .tuple ts,v,u,h,r=>by
  simp only[Rep] at h
  obtain⟨a,vs,rfl,hs,hr⟩:=h
  cases r
  obtain⟨its,rv,⟨o,h1,h2,n,h3⟩,hz⟩:=I.tuple hs
  obtain⟨as,ra⟩:=z4b I hr rv
  exact⟨_,.tuple h1 h2 h3 (by simpa using ra)⟩
 | .list ts,v,u,h,r=>by
  simp only[Rep] at h
  obtain⟨a,vs,rfl,fa,hs,hr⟩:=h
  cases r
  obtain⟨z,its,n,rv,hl,e⟩:=Inv.lstR I hs
  obtain⟨as,ra⟩:=z4b I hr rv
  exact⟨_,.list e rfl rfl (by simpa using ra)⟩
theorem z4b {F:Addr->Prop} {pins:List (Addr×Obj)} {σ:L2.St} {H:Hp} {s:y04} (I:Inv X pins σ H s):∀{ts:List T} {vs:List V} {us:List Value},RepL X.K F H ts vs->Vals vs us->∃as,ReadsAll s.heap us ts as
 | [],vs,us,h,r=>by
  simp only[RepL] at h
  subst h
  cases r
  exact⟨_,.nil⟩
 | t::ts,vs,us,h,r=>by
  simp only[RepL] at h
  obtain⟨v,vr,rfl,h1,h2⟩:=h
  cases r with
  | cons r1 r2 =>
   obtain⟨as,q1⟩:=zbf I h1 r1
   obtain⟨bs,q2⟩:=z4b I h2 r2
   exact⟨_,.cons q1 q2⟩
end
theorem z0q {O F:Addr->Prop} {pins:List (Addr×Obj)} {σ:L2.St} {H:Hp} {s:y04} (I:Inv X pins σ H s) {t:T} {v:V} {u:Value} (h:RepR X.K O F H t v) (r:RelV v u):∃as,Reads s.heap u t as:=by
 rcases h with h|⟨ts,a,vs,rfl,rfl,ha,h⟩
 ·exact zbf I h r
 ·cases r
  obtain⟨z,its,n,rv,hl,e⟩:=Inv.lstR I (.inl ha)
  obtain⟨as,ra⟩:=z4b I h rv
  exact⟨_,.list e rfl rfl (by simpa using ra)⟩
theorem z50 {t:T} (h:okT t=true):t.canLay0=true/\t.depth<=60:=by
 simp only[okT,y19,decide_eq_true_eq] at h
 exact h
theorem zje {t:List T} (h:okL t=true):y1e t=true/\y1c t<=60:=by
 simp only[okL,y19,decide_eq_true_eq] at h
 exact h
noncomputable def zh9 (K:y00) (n:Bool):R2:=fun x y H Q=>∃(O F:Addr->Prop) (s t:T),RepR K O F H s x/\RepR K O F H t y/\okT s=true/\okT t=true/\Q (.bl (if n then !PyData.eqv s t else y1v s t)) H
theorem z4y (hu:X.A.units+64<cLine):OpR X (compareOp .Eq) (zh9 X.K false):=by
 intro pins s σ H x y v u Q I rx ry ⟨O,F,d,t,h1,h2,o1,o2,q⟩
 obtain⟨as,ra⟩:=z0q I h1 rx
 obtain⟨bs,rb⟩:=z0q I h2 ry
 obtain⟨c1,l1⟩:=z50 o1
 obtain⟨c2,l2⟩:=z50 o2
 refine SeqAt.compareEq_reads ra rb c1 c2 (by have:=Nat.min_le_left d.depth t.depth;omega) ?_
 exact⟨.bl _,H,I,rfl,q⟩
theorem zeq (hu:X.A.units+64<cLine):OpR X (compareOp .NotEq) (zh9 X.K true):=by
 intro pins s σ H x y v u Q I rx ry ⟨O,F,d,t,h1,h2,o1,o2,q⟩
 obtain⟨as,ra⟩:=z0q I h1 rx
 obtain⟨bs,rb⟩:=z0q I h2 ry
 obtain⟨c1,l1⟩:=z50 o1
 obtain⟨c2,l2⟩:=z50 o2
 refine SeqAt.compareNe_reads ra rb c1 c2 (by have:=Nat.min_le_left d.depth t.depth;omega) ?_
 exact⟨.bl _,H,I,rfl,q⟩
theorem zkc {op:CmpOp} {R:R2} {o:T->T->Option T} (ho:OpR X (compareOp op) R) (h2:Op2 X.K o R) (ha:PEr X a f) (hb:PEr X b g) (hm:behindInMarks op b=false:=by first|exact zbo _|rfl):PEv X (.Compare a [op] [b] pos) (op2 o f g):=z0s (zkl ho ha hb hm) (z43 h2)
theorem z4m {op:CmpOp} {R:R2} {o:T->T->Option T} (ho:OpR X (compareOp op) R) (h2:Op2 X.K o R) (ha:PEr X a f) (hb:PEr X b g) (hm:behindInMarks op b=false:=by first|exact zbo _|rfl):PTt X (.Compare a [op] [b] pos) (tstB (op2 o f g)) :=
 z6l (zag ho ha hb hm) fun σ H Q ⟨F₀,H₀,O,F,ε,b,r,e,k⟩=>by
 simp only[tstB,y01] at e
 obtain⟨t,et,e⟩:=e
 split at e
 ·cases e
  refine z43 h2 σ H _ ⟨F₀,H₀,O,F,ε,_,r,et,fun v F' H' x q=>?_⟩
  simp only[Rep] at q
  exact⟨_,q,k F' H' x⟩
 ·cases e
theorem z4z:Op2 X.K oEq (zh9 X.K false):=by
  intro O F H x y t vx vy Q d rx ry e k
  unfold oEq at e
  split at e
  next hz =>
   cases e
   rw[y19] at hz
   exact⟨O,F,x,y,rx,ry,hz.1,hz.2,k _ F H (Ext.refl d) (by simp[Rep])⟩
  next=>cases e
theorem zes:Op2 X.K oNe (zh9 X.K true):=by
  intro O F H x y t vx vy Q d rx ry e k
  unfold oNe at e
  split at e
  next hz =>
   cases e
   rw[y19] at hz
   exact⟨O,F,x,y,rx,ry,hz.1,hz.2,k _ F H (Ext.refl d) (by simp[Rep])⟩
  next=>cases e
noncomputable def rInT (K:y00) (n:Bool):R2:=fun x y H Q=>∃(O F:Addr->Prop) (s:T) (ts:List T),RepR K O F H s x/\(RepR K O F H (.tuple ts) y\/RepR K O F H (.list ts) y)/\okT s=true/\okL ts=true/\Q (.bl (if n then !hasT s ts else hasT s ts)) H
theorem zjd (hu:X.A.units+64<cLine):OpR X (compareOp .In) (rInT X.K false):=by
 intro pins s σ H x y v u Q I rx ry ⟨O,F,d,ts,h1,h2,o1,o2,q⟩
 obtain⟨as,ra⟩:=z0q I h1 rx
 obtain⟨c1,l1⟩:=z50 o1
 obtain⟨c2,l2⟩:=zje o2
 have hm:=Nat.min_le_left (y1c ts) d.depth
 rcases h2 with h2|h2
 ·obtain⟨bs,rb⟩:=z0q I h2 ry
  exact SeqAt.in_tuple_reads rb ra c2 c1 (by omega) ⟨.bl _,H,I,rfl,q⟩
 ·obtain⟨bs,rb⟩:=z0q I h2 ry
  exact SeqAt.in_list_reads rb ra c2 c1 (by omega) ⟨.bl _,H,I,rfl,q⟩
theorem z5q (hu:X.A.units+64<cLine):OpR X (compareOp .NotIn) (rInT X.K true):=by
 intro pins s σ H x y v u Q I rx ry ⟨O,F,d,ts,h1,h2,o1,o2,q⟩
 obtain⟨as,ra⟩:=z0q I h1 rx
 obtain⟨c1,l1⟩:=z50 o1
 obtain⟨c2,l2⟩:=zje o2
 have hm:=Nat.min_le_left (y1c ts) d.depth
 rcases h2 with h2|h2
 ·obtain⟨bs,rb⟩:=z0q I h2 ry
  exact SeqAt.notIn_tuple_reads rb ra c2 c1 (by omega) ⟨.bl _,H,I,rfl,q⟩
 ·obtain⟨bs,rb⟩:=z0q I h2 ry
  exact SeqAt.notIn_list_reads rb ra c2 c1 (by omega) ⟨.bl _,H,I,rfl,q⟩
theorem z91 {n:Bool}:Op2 X.K (oIn n) (rInT X.K n):=by
 intro O F H x y t vx vy Q d rx ry e k
 unfold oIn at e
 split at e
 ·split at e
  next hz =>
   cases e
   rw[y19] at hz
   exact⟨O,F,x,_,rx,.inl ry,hz.1,hz.2,k _ F H (Ext.refl d) (by simp[Rep])⟩
  next=>cases e
 ·split at e
  next hz =>
   cases e
   rw[y19] at hz
   exact⟨O,F,x,_,rx,.inr ry,hz.1,hz.2,k _ F H (Ext.refl d) (by simp[Rep])⟩
  next=>cases e
 ·cases e
theorem zms:Op2 X.K oLt (fun x y H Q=>rI0 (fun i j=>.bl (decide (i<j))) x y H Q\/∃i j,x=.str i/\y=.str j/\Q (.bl (decide (i.cps.toList<j.cps.toList))) H):=by
  intro O F H x y t vx vy Q d rx ry e k
  unfold oLt at e
  split at e
  ·cases e
   rw[rx.int,ry.int]
   exact .inl ⟨_,_,rfl,rfl,k _ F H (Ext.refl d) (by simp[Rep])⟩
  ·cases e
   rw[rx.str,ry.str]
   exact .inr ⟨_,_,rfl,rfl,k _ F H (Ext.refl d) (by simp[Rep,z4n])⟩
  ·cases e
theorem zhb (ha:PEr X a f):PEv X (.UnaryOp .USub a pos) (op1 oNeg f):=z0s (zmm zj1 ha) fun σ H Q ⟨F₀,H₀,O,F,ε,t,r,e,k⟩=>by
 simp only[op1,y01] at e
 obtain⟨x,ex,e⟩:=e
 unfold oNeg at e
 split at e
 ·cases e
  exact⟨F₀,H₀,O,F,ε,_,r,ex,fun v F1 H1 x1 rx=>⟨_,rx.int,k _ F1 H1 x1 (by simp[Rep])⟩⟩
 ·cases e
noncomputable def OpN (K:y00) (o:List T->Option T) (R:List V->Hp->VK->Prop):Prop :=
 ∀(O F:Addr->Prop) (H:Hp) (ts:List T) (t:T) (vs:List V) (Q:VK),Dom F H->Paired (RepR K O F H) ts vs->o ts=some t ->
  (∀v F' H',Ext F H F' H'->Rep K F' H' t v->Q v H')->R vs H Q
theorem z42 {o:List T->Option T} {R:List V->Hp->VK->Prop} (hR:OpN X.K o R):∀σ H Q,tV X.K (opN o fs) σ H Q->tCB R (tAR X.K fs) σ H Q:=by
 rintro σ H Q ⟨F₀,H₀,O,F,ε,t,r,e,k⟩
 simp only[opN,y01] at e
 obtain⟨ts,et,eo⟩:=e
 exact⟨F₀,H₀,O,F,ε,ts,r,et,fun vs F1 H1 x1 q=>hR O F1 H1 ts t vs Q x1.dom q eo fun v F' H' x3 q3=>k v F' H' (x1.trans x3) q3⟩
theorem zkb (hm:X.mg "len"=none) (ha:PAr X (e::es) fs) (hg:Gl X "len":=by rfl) (he:y0a (e::es) X.env=(false,eval e X.env)::y0a es X.env:=by rfl) (hpl:(backTo pos (y0a es X.env)).any (·.1)=false:=by rfl) :
  PEv X (.Call (.Name "len" p) (e::es) [] pos) (opN oLen fs):=z0s (z2x (z9s.or z9r) hg hm PySem.boot_len ha (he:=he) (hpl:=hpl)) (z42 (by
 intro O F H ts t vs Q d q e k
 unfold oLen at e
 split at e
 ·cases e
  cases q with
  | cons q1 q2 =>
   cases q2
   obtain⟨a,ws,rfl,hs,hr⟩:=q1.tup
   exact .inl ⟨a,ws,rfl,.inr hs,k _ F H (Ext.refl d) (by simp[Rep,hr.length])⟩
 ·cases e
  cases q with
  | cons q1 q2 =>
   cases q2
   obtain⟨a,ws,rfl,hs,hr⟩:=q1.lst
   exact .inl ⟨a,ws,rfl,.inl (.inl hs),k _ F H (Ext.refl d) (by simp[Rep,hr.length])⟩
 ·split at e
  next hz =>
   cases e
   cases q with
   | cons q1 q2 =>
    cases q2
    exact .inr ⟨_,by rw[q1.str],by rw[z5i];exact hz,k _ F H (Ext.refl d) (by simp[Rep])⟩
  next=>cases e
 ·cases e))
theorem zoi (hm:X.mg "min"=none) (ha:PAr X (e::es) fs) (hc:X.calm=true:=by rfl) (hg:Gl X "min":=by rfl) (he:y0a (e::es) X.env=(false,eval e X.env)::y0a es X.env:=by rfl) (hpl:(backTo pos (y0a es X.env)).any (·.1)=false:=by rfl) :
  PEv X (.Call (.Name "min" p) (e::es) [] pos) (opN oMin fs):=z0s (z2x (zgf hc) hg hm (by decide +kernel) ha (he:=he) (hpl:=hpl)) (z42 (by
 intro O F H ts t vs Q d q e k
 unfold oMin at e
 split at e
 ·cases e
  cases q with
  | cons q1 q2 =>
   cases q2 with
   | cons q2 q3 =>
    cases q3
    exact⟨_,_,by rw[q1.int,q2.int],k _ F H (Ext.refl d) (by simp[Rep])⟩
 ·cases e))
theorem zoj (hm:X.mg "max"=none) (ha:PAr X (e::es) fs) (hc:X.calm=true:=by rfl) (hg:Gl X "max":=by rfl) (he:y0a (e::es) X.env=(false,eval e X.env)::y0a es X.env:=by rfl) (hpl:(backTo pos (y0a es X.env)).any (·.1)=false:=by rfl) :
  PEv X (.Call (.Name "max" p) (e::es) [] pos) (opN oMax fs):=z0s (z2x (zgg hc) hg hm (by decide +kernel) ha (he:=he) (hpl:=hpl)) (z42 (by
 intro O F H ts t vs Q d q e k
 unfold oMax at e
 split at e
 ·cases e
  cases q with
  | cons q1 q2 =>
   cases q2 with
   | cons q2 q3 =>
    cases q3
    exact⟨_,_,by rw[q1.int,q2.int],k _ F H (Ext.refl d) (by simp[Rep])⟩
 ·cases e))
theorem z7o (hm:X.mg "tuple"=none) (ha:PAr X (e::es) fs) (hg:Gl X "tuple":=by rfl) (he:y0a (e::es) X.env=(false,eval e X.env)::y0a es X.env:=by rfl) (hpl:(backTo pos (y0a es X.env)).any (·.1)=false:=by rfl) :
  PEv X (.Call (.Name "tuple" p) (e::es) [] pos) (opN z2n fs):=z0s (z90 z84 hg hm (by decide +kernel) ha (he:=he) (hpl:=hpl)) (z42 (by
 intro O F H ts t vs Q d q e k
 unfold z2n at e
 split at e
 ·cases e
  cases q with
  | cons q1 q2 =>
   cases q2
   obtain⟨a,ws,rfl,hs,hr⟩:=q1.tup
   refine⟨a,ws,rfl,.inr ⟨hs,k _ F H (Ext.refl d) ?_⟩⟩
   simp only[Rep]
   exact⟨a,ws,rfl,hs,hr⟩
 ·cases e
  cases q with
  | cons q1 q2 =>
   cases q2
   obtain⟨a,ws,rfl,hs,hr⟩:=q1.lst
   refine⟨a,ws,rfl,.inl ⟨.inl hs,fun l hl=>?_⟩⟩
   have x1:=Ext.laid (o:=.tup ws) d hl
   refine k _ F _ x1 ?_
   simp only[Rep]
   exact⟨l,ws,rfl,SqT.of z05,hr.ext x1⟩
 ·cases e))
theorem zm8 (hm:X.mg "int"=none) (ha:PAr X (e::es) fs) (hg:Gl X "int":=by rfl) (he:y0a (e::es) X.env=(false,eval e X.env)::y0a es X.env:=by rfl) (hpl:(backTo pos (y0a es X.env)).any (·.1)=false:=by rfl) :
  PEv X (.Call (.Name "int" p) (e::es) [] pos) (opN oInt fs):=z0s (z90 zgh hg hm (by decide +kernel) ha (he:=he) (hpl:=hpl)) (z42 (by
 intro O F H ts t vs Q d q e k
 unfold oInt at e
 split at e
 ·cases e
  cases q with
  | cons q1 q2 =>
   cases q2
   exact .inl ⟨_,by rw[q1.int],k _ F H (Ext.refl d) (by simp[Rep])⟩
 ·cases e
  cases q with
  | cons q1 q2 =>
   cases q2
   exact .inr ⟨_,by rw[q1.bl],k _ F H (Ext.refl d) (by simp[Rep])⟩
 ·cases e))
theorem zo1 {j pos'} (ha:PEr X a f):PTt X (.Compare a [.Is] [.Constant .none j pos'] pos) (tstB (op1 oIsN f)):=z6l (zef (zmo ha)) fun σ H Q ⟨F₀,H₀,O,F,ε,t,r,e,k⟩=>by
 simp only[tstB,op1,oIsN,y01] at e
 obtain⟨_,⟨x,ex,e1⟩,e⟩:=e
 cases e1
 cases e
 refine⟨F₀,H₀,O,F,ε,x,r,ex,fun v F1 H1 x1 rx=>⟨_,?_,k F1 H1 x1⟩⟩
 cases x with
 | none=>rw[rx.non];simp
 | bool b=>rw[rx.bl];simp
 | int b=>rw[rx.int];simp
 | str b=>rw[rx.str];simp
 | tuple b=>obtain⟨_,_,e,_⟩:=rx.tup;rw[e];simp
 | list b=>obtain⟨_,_,e,_⟩:=rx.lst;rw[e];simp
 | dict b=>rcases rx with rx|⟨_,_,_,z,_⟩;simp[Rep] at rx;cases z
theorem zdk {j pos'} (ha:PEr X a f):PTt X (.Compare a [.IsNot] [.Constant .none j pos'] pos) (tstB (op1 z0p f)):=z6l (zef (zko ha)) fun σ H Q ⟨F₀,H₀,O,F,ε,t,r,e,k⟩=>by
 simp only[tstB,op1,z0p,y01] at e
 obtain⟨_,⟨x,ex,e1⟩,e⟩:=e
 cases e1
 cases e
 refine⟨F₀,H₀,O,F,ε,x,r,ex,fun v F1 H1 x1 rx=>⟨_,?_,k F1 H1 x1⟩⟩
 cases x with
 | none=>rw[rx.non];simp
 | bool b=>rw[rx.bl];simp
 | int b=>rw[rx.int];simp
 | str b=>rw[rx.str];simp
 | tuple b=>obtain⟨_,_,e,_⟩:=rx.tup;rw[e];simp
 | list b=>obtain⟨_,_,e,_⟩:=rx.lst;rw[e];simp
 | dict b=>rcases rx with rx|⟨_,_,_,z,_⟩;simp[Rep] at rx;cases z
theorem zdl (h:PEr X e f) (he:∀whole,isTrue e X.env whole=(do let v <- whole;standAt e.pos;holding [v] (truthy v)):=by intro _;rfl):PTt X e (tstL f):=z6l (zhe h he) fun σ H Q ⟨F₀,H₀,O,F,ε,b,r,e,k⟩=>by
 simp only[tstL,y01] at e
 obtain⟨t,et,e⟩:=e
 have emp:∀{ts:List T} {vs:List V} {F1:Addr->Prop} {H1:Hp},RepL X.K F1 H1 ts vs->ts.isEmpty=vs.isEmpty:=fun {ts vs F1 H1} q=>by
  have:=q.length
  cases ts <;> cases vs <;> simp_all
 split at e
 ·cases e
  refine⟨F₀,H₀,O,F,ε,_,r,et,fun v F1 H1 x1 rx=>?_⟩
  obtain⟨a,vs,rfl,hs,hr⟩:=rx.lst
  exact⟨_,.inl ⟨vs,.inl hs,by rw[emp hr]⟩,k F1 H1 x1⟩
 ·cases e
  refine⟨F₀,H₀,O,F,ε,_,r,et,fun v F1 H1 x1 rx=>?_⟩
  obtain⟨a,vs,rfl,hs,hr⟩:=rx.tup
  exact⟨_,.inr (.inl ⟨vs,hs,by rw[emp hr]⟩),k F1 H1 x1⟩
 ·cases e
theorem zlr (h:PTt X e ft):PTt X (.UnaryOp .Not e pos) (notT ft):=z6l (zme h) fun σ H Q ⟨F₀,H₀,O,F,ε,b,r,e,k⟩=>by
 simp only[notT,y07] at e
 obtain⟨c,ec,rfl⟩:=e
 exact⟨F₀,H₀,O,F,ε,c,r,ec,fun F1 H1 x1=>k F1 H1 x1⟩
theorem zb4 (h:PTt X e ft):PWt X (.BoolOp .And [e] pos) ft:=zed h
theorem zo0 (h:PTt X e ft):PWt X (.BoolOp .Or [e] pos) ft:=zmc h
theorem zgx (h:PTt X a ft) (h2:PWt X (.BoolOp .And (b::es) pos) gt):PWt X (.BoolOp .And (a::b::es) pos) (andT ft gt):=zjt (zj8 h h2) fun σ H Q ⟨F₀,H₀,O,F,ε,b,r,e,k⟩=>by
 simp only[andT,y01] at e
 obtain⟨c,ec,e⟩:=e
 refine⟨F₀,H₀,O,F,ε,c,r,ec,fun F1 H1 x1=>?_⟩
 cases c with
 | true=>exact iteT ⟨F₀,H₀,O,F1,ε,b,r.ext x1,by simpa using e,fun F2 H2 x2=>k F2 H2 (x1.trans x2)⟩
 | false =>
  have:b=false:=by simpa using e.symm
  subst this
  exact iteF (k F1 H1 x1)
theorem w_or (h:PTt X a ft) (h2:PWt X (.BoolOp .Or (b::es) pos) gt):PWt X (.BoolOp .Or (a::b::es) pos) (orT ft gt):=zjt (zok h h2) fun σ H Q ⟨F₀,H₀,O,F,ε,b,r,e,k⟩=>by
 simp only[orT,y01] at e
 obtain⟨c,ec,e⟩:=e
 refine⟨F₀,H₀,O,F,ε,c,r,ec,fun F1 H1 x1=>?_⟩
 cases c with
 | true =>
  have:b=true:=by simpa using e.symm
  subst this
  exact iteT (k F1 H1 x1)
 | false=>exact iteF ⟨F₀,H₀,O,F1,ε,b,r.ext x1,by simpa using e,fun F2 H2 x2=>k F2 H2 (x1.trans x2)⟩
theorem w_t (h:PWt X e ft):PTt X e ft:=h.pt
end
end
section
variable [Tbl]
noncomputable def spT (K:y00) (n:Nat) (d:List T->Option T):Sp:=fun vs H Q _=>vs.length=n/\∃F ts t,Dom F H/\RepL K F H ts vs/\d ts=some t/\∀v F' H',Ext F H F' H'->Rep K F' H' t v->Q v H'
section
variable {X:Cx} {k n:Nat} {fa:Addr} {fd:y0b} {ps:List Str} {d:List T->Option T} {x:Str} {p pos:Pos} {e:Expr} {es:List Expr} {fs:List Fe}
theorem zmb (F:FnOk X.prog X.w X.K X.mg X.base CX0 k fa fd ps (spT X.K n d)) (hr:Room k X.A) (hg:Gl X x) (hm:X.mg x=some (.ref fa)) (hk:y08 X.K (.ref fa)=true) (hb:z1k X.K fd ps [])
  (ha:PAv X (e::es) fs) (hn:fs.length=n:=by rfl) (hdb:(x == ("__debug__":Str))=false:=by decide) (he:y0a (e::es) X.env=(false,eval e X.env)::y0a es X.env:=by rfl) (hpl:(backTo pos (y0a es X.env)).any (·.1)=false:=by rfl) :
  PEv X (.Call (.Name x p) (e::es) [] pos) (opN d fs):=z0s (zen F hr hg hm hk hb .nil zon ha hdb he hpl) fun σ H Q ⟨F₀,H₀,O,F,ε,t,r,e,k⟩=>by
 simp only[opN,y01] at e
 obtain⟨ts,et,ed⟩:=e
 have hl:∀(gs:List Fe) (us:List T),args gs ε=some us->us.length=gs.length:=by
  intro gs
  induction gs with
  | nil=>intro us e;cases e;rfl
  | cons g gs ih =>
   intro us e
   simp only[args,y01,y07] at e
   obtain⟨t,_,vs,ev,rfl⟩:=e
   simp[ih vs ev]
 refine⟨F₀,H₀,O,F,ε,ts,r,et,fun vs F1 H1 x1 q=>⟨?_,F1,ts,t,x1.dom,by simpa using q,ed,fun v F' H' x2 q2=>k v F' H' (x1.trans x2) q2⟩⟩
 rw[y1t,<- q.length,hl fs ts et,hn]
end
section
variable {P:y0q} {w:World} {K:y00} {mg:Str->Option Value} {base:Heap}
theorem z6z {F:Addr->Prop} {H:Hp} {ts:List T} {vs:List V} {N:List Str} (dom:Dom F H) (q:RepL K F H ts vs) (n:Nat) :
  RelE K F ⟨H,0⟩ (fun a=>H a=none) F H ((ts.map fun t=>some (.imm t))++y0g n none) (vs.map some++y0g n none):=by
 have imm:∀(i:Nat) (s:Sl),((ts.map fun t=>some (Sl.imm t))++y0g n none)[i]?=some (some s)->∃t,s=.imm t/\ts[i]?=some t:=by
  intro i s e
  by_cases hi:i<ts.length
  ·rw[y1j (by simpa using hi),y13] at e
   rw[y0v hi] at e ⊢
   simp at e
   exact⟨_,e.symm,rfl⟩
  ·rw[y1h (by simpa using hi),List.getElem?_replicate] at e
   split at e <;> cases e
 refine⟨by simp[q.length],fun i s e=>?_,fun i j s u v w hij e1 e2 o1=>?_,Ext.refl dom,fun _ h=>h,fun _ h=>h⟩
 ·obtain⟨t,rfl,ht⟩:=imm i s e
  obtain⟨v,hv,rv⟩:=q.get ht
  refine⟨v,?_,rv⟩
  rw[y1j (by have:=(y0k.mp hv).1;simpa using this),y13,hv]
  rfl
 ·obtain⟨t,rfl,_⟩:=imm i s e1
  cases o1
theorem znc {x qual:Str} {st:Stmt} {f:Addr} {fd:y0b} {N ps:List Str} {k:Nat} {b:Fs} (F:Fun K x qual st f fd) (S:FnScope N ps (z00 st))
  (hb:∀(cdv:Value) (A:Around) (outer:List Env) (s:y04) (H:Hp) (E:XK),Room k (A.deeper (envOfC qual (z00 st) s.heap.objs.size f cdv)) ->
   PBt (cxOf CX0 P w K mg base N qual (z00 st) f cdv A outer s H E).nox (z08 st) b) :
  FnOk P w K mg base CX0 (k+1) f fd ps (spT K ps.length (runF b N.length)):=by
 refine F.ok S (fun vs H Q E h=>h.1) fun cdv A outer s H vs Q E hr h=>⟨_,hb cdv A outer s H E hr,?_⟩
 obtain⟨hl,F,ts,t,dom,q,e,kq⟩:=h
 simp only[runF,y01] at e
 obtain⟨o,eo,e⟩:=e
 refine⟨F,⟨H,0⟩,fun a=>H a=none,F,_,o,?_,eo,?_⟩
 ·have:=z6z (N:=N) dom q (N.length - ts.length)
  unfold L2.start
  rw[q.length] at this ⊢
  exact this
 ·cases o with
  | rt t' =>
   cases e
   exact fun v F' H' x q=>kq v F' H' x q
  | nx ε' =>
   cases e
   exact fun σ' F' H' _ r=>kq _ F' H' r.ent (by simp[Rep])
  | bk _=>cases e
  | ct _=>cases e
  | rtm _ _=>cases e
  | rto _=>cases e
theorem zfz {f:Addr} {fd:y0b} {ps:List Str} {k n:Nat}:FnOk P w K mg base CX0 k f fd ps (spT K n fun _=>none):=by
 have no:∀vs H Q E,¬spT K n (fun _=>none) vs H Q E:=fun vs H Q E h=>by
  obtain⟨_,_,_,_,_,_,e,_⟩:=h
  cases e
 exact⟨fun vs H Q E h=>absurd h (no vs H Q E),fun A outer s H args us vs Q E _ _ _ _ h=>absurd h (no vs H Q E)⟩
end
end
section
variable [Tbl]
noncomputable def clos (env:Env):List (Str×NameKind)->List (Str×Addr)->List (Str×Addr)
 | [],cs=>cs
 | x::r,cs=>if x.2 == .free then clos env r ((x.1,(env.cells.lookup x.1).getD 0)::cs) else clos env r cs
theorem z1w {scope:Scope} {env:Env} (h:∀x∈scope.names,x.2=.free->∃c,env.cells.lookup x.1=some c):closureFor scope env=pure (clos env scope.names []):=by
 have go:∀(l:List (Str×NameKind)) (cs:List (Str×Addr)),(∀x∈l,x.2=.free->∃c,env.cells.lookup x.1=some c) ->
   (forIn l cs (fun x r=>(if (x.2 == NameKind.free)=true then do let a <- cellOf env x.1;pure (ForInStep.yield ((x.1,a)::r)) else pure (ForInStep.yield r)):_->_->Sem (ForInStep (List (Str×Addr)))):Sem (List (Str×Addr)))=pure (clos env l cs):=by
  intro l
  induction l with
  | nil=>intro cs _;rfl
  | cons x r ih =>
   intro cs hl
   rw[List.forIn_cons]
   have hr:=fun y hy=>hl y (y05 _ hy)
   by_cases k:x.2=.free
   ·obtain⟨c,hc⟩:=hl x y0e k
    have e1:(x.2 == NameKind.free)=true:=by simp[k]
    simp only[e1,if_true,cellOf,hc,clos,Option.getD_some]
    exact ih _ hr
   ·have e1:(x.2 == NameKind.free)=false:=by simpa using k
    simp only[e1,y1o,if_false,clos]
    exact ih _ hr
 have:=go scope.names [] h
 simp only[closureFor]
 exact congrArg (fun m=>m >>= fun cs=>pure cs) this
theorem z2o {env:Env}:∀{l:List (Str×NameKind)} {cs:List (Str×Addr)},(∀x∈l,x.2=.free->∃c,env.cells.lookup x.1=some c)->(∀x c,cs.lookup x=some c->env.cells.lookup x=some c)->∀x c,(clos env l cs).lookup x=some c->env.cells.lookup x=some c
 | [],cs,_,h,x,c,e=>h x c e
 | y::r,cs,hl,h,x,c,e=>by
  unfold clos at e
  have hr:=fun z hz=>hl z (y05 _ hz)
  split at e
  next k =>
   refine z2o hr (fun x c e=>?_) x c e
   rw[y1d] at e
   split at e
   next hb =>
    obtain⟨c',hc⟩:=hl y y0e (by simpa using k)
    have:x=y.1:=by simpa using hb
    subst this
    rw[hc] at e ⊢
    simpa using e
   next=>exact h x c e
  next=>exact z2o hr h x c e
theorem z2f {env:Env}:∀{l:List (Str×NameKind)} {cs:List (Str×Addr)} {x:Str},((∃y∈l,y.2=.free/\y.1=x)\/∃c,cs.lookup x=some c)->∃c,(clos env l cs).lookup x=some c
 | [],cs,x,h=>by
  rcases h with ⟨y,hy,_⟩|h
  ·cases hy
  ·exact h
 | y::r,cs,x,h=>by
  unfold clos
  split
  next k =>
   refine z2f ?_
   rcases h with ⟨z,hz,k',e⟩|⟨c,h⟩
   ·rcases y09.mp hz with rfl|hz
    ·refine .inr ?_
     subst e
     rw[y1d]
     simp
    ·exact .inl ⟨z,hz,k',e⟩
   ·refine .inr ?_
    rw[y1d]
    split
    ·exact⟨_,rfl⟩
    ·exact⟨c,h⟩
  next k =>
   refine z2f ?_
   rcases h with ⟨z,hz,k',e⟩|h
   ·rcases y09.mp hz with rfl|hz
    ·exact absurd (by simpa using k') k
    ·exact .inl ⟨z,hz,k',e⟩
   ·exact .inr h
noncomputable def z1e (X:Cx) (N':List Str) (scope:Scope) (cl:List (Str×Addr)) (C:Addr) (s₀:y04) (H₀:Hp) (fp:List Addr) (pn:List (Addr×Obj)):Cx where
 prog:=X.prog
 w:=X.w
 K:=X.K
 mg:=X.mg
 base:=X.base
 A:=X.A
 N:=N'
 s₀:=s₀
 H₀:=H₀
 env:=compEnvC scope cl C X.env
 outer:=X.stack
 stack:=X.stack
 ex:=fp
 fn:=fun _=>false
 calm:=X.calm
 pn:=pn
 xe:=fun _ _=>False
noncomputable def PTs (X:Cx) (ifs:List Expr) (cc:Ft):Prop:=∀(pins:List (Addr×Obj)) (s:y04) (σ:L2.St) (H:Hp) (Q:Bool->Hp->Prop),L2.Inv X pins σ H s->tT X.K cc σ H Q ->
 y0u (model X.prog X.w) X.A (forIn ifs true fun c r=>if r=true then do let ok <- isTrue c X.env (eval c X.env);pure (ForInStep.yield ok) else pure (ForInStep.yield r)) (TP X pins σ Q) X.xe s
theorem zj4 {X:Cx}:PTs X [] (cstT true):=fun pins s σ H Q I ⟨F₀,H₀,O,F,ε,b,r,e,k⟩=>by
 cases e
 exact wpAny_tests_nil ⟨H,I,k F H (Ext.refl r.dom)⟩
theorem zj3 {X:Cx} {c:Expr} {cc:Ft} (h:PTt X c cc):PTs X [c] cc:=fun pins s σ H Q I q=>wpAny_tests_one (h pins s σ H Q I q)
section
variable {prog:y0q} {w:World} {A:Around} {R:Result->y04->Prop} {s:y04}
theorem z9n {elt target iter:Expr} {ifs:List Expr} {scope:Scope} {pos:Pos} {it acc:Value} {env:Env} (I:Nat->y04->Prop)
  (turn:∀n s,I n s->y0u (model prog w) A (pyNext it) (fun r s₁=>match r with
   | none=>R (.ok .next) s₁
   | some v=>y0u (model prog w) A (letOwnedTupleGo target it v) (fun _ s₁'=>y0u (model prog w) A (assign target env v) (fun _ s₂ =>
     y0u (model prog w) A (forIn ifs true fun c r=>if r=true then do let ok <- isTrue c env (eval c env);pure (ForInStep.yield ok) else pure (ForInStep.yield r)) (fun ok s₃ =>
      if ok=true then y0u (model prog w) A (eval elt env) (fun x s₄ =>
       y0u (model prog w) A (call (.builtin "list.append") [acc,x]) (fun _ s₅=>∃m,m<n/\I m s₅) (fun _ _=>False) s₄) (fun _ _=>False) s₃
      else ∃m,m<n/\I m s₃) (fun _ _=>False) s₂) (fun _ _=>False) s₁') (fun _ _=>False) s₁) (fun _ _=>False) s)
  (n:Nat) (h:I n s):codeAny (model prog w) A (.compLoop (.ListComp elt [⟨target,iter,ifs,0⟩] scope pos) 0 it acc env) R s:=by
 refine codeAny_loop rfl I (fun n s hI=>?_) n h
 show y0u _ A ((compTurn (.ListComp elt [⟨target,iter,ifs,0⟩] scope pos) 0 it acc env).onRaise (fun x=>do noteFrame x env;theTreesLotGoes x)) _ _ s
 refine wpAny_noted ?_
 rw[compTurn_list]
 refine y02 (wpAny_standAt (y02 (y1b (turn n s hI) (fun r s₁ h₁=>?_) fun _ _ h'=>h'.elim)))
 cases r with
 | none=>exact y06 h₁
 | some v =>
  refine y02 (y1b h₁ (fun _ s₁' h₁'=>?_) fun _ _ h'=>h'.elim)
  refine y02 (y1b h₁' (fun _ s₂ h₂=>y02 (y1b h₂ (fun ok s₃ h₃=>?_) fun _ _ h'=>h'.elim)) fun _ _ h'=>h'.elim)
  cases ok with
  | false=>exact y06 ⟨rfl,h₃⟩
  | true =>
   exact y02 (y02 (y1b h₃ (fun x s₄ h₄=>y02 (y1b h₄ (fun _ s₅ h₅=>y06 (y06 ⟨rfl,h₅⟩)) fun _ _ h'=>h'.elim)) fun _ _ h'=>h'.elim))
end
end
section
variable [Tbl]
theorem z3w {env:Env} {k:NameKind}:∀{names:List (Str×NameKind)} {x:Str},names.lookup x=some k->∃k',(names.map fun (n,k)=>if (k == NameKind.free && env.scope.kind == .function && env.kindOf n == some .cell) then (n,NameKind.cell) else (n,k)).lookup x=some k'/\(k'=k\/(k=.free/\k'=.cell))
  | [],x,h=>by simp at h
  | (n,j)::r,x,h=>by
    have ih:=@z3w env k r x
    show ∃k',List.lookup x ((if (j == NameKind.free && env.scope.kind == .function && env.kindOf n == some .cell)=true then (n,NameKind.cell) else (n,j))::_)=some k'/\_
    cases hx:x == n with
    | true =>
      simp only[y1d,hx] at h
      cases h
      by_cases hc:(k == NameKind.free && env.scope.kind == .function && env.kindOf n == some .cell)=true
      · rw[if_pos hc]
        refine⟨.cell,by simp[y1d,hx],.inr ⟨?_,rfl⟩⟩
        simp only[y19] at hc
        simpa using hc.1.1
      · rw[if_neg hc]
        exact⟨k,by simp[y1d,hx],.inl rfl⟩
    | false =>
      simp only[y1d,hx] at h
      obtain⟨k',h1,h2⟩:=ih h
      refine⟨k',?_,h2⟩
      by_cases hc:(j == NameKind.free && env.scope.kind == .function && env.kindOf n == some .cell)=true
      · rw[if_pos hc];simp only[y1d,hx];exact h1
      · rw[if_neg hc];simp only[y1d,hx];exact h1
theorem z0m {names:List (Str×NameKind)} {x:Str} {k:NameKind} (h:names.lookup x=some k):∃y∈names,y.2=k/\y.1=x:=by
 induction names with
 | nil=>simp at h
 | cons y r ih =>
  rw[y1d] at h
  split at h
  next hb =>
   cases h
   exact⟨y,y0e,rfl,by simpa using (beq_iff_eq.mp hb).symm⟩
  next =>
   obtain⟨z,hz,h1,h2⟩:=ih h
   exact⟨z,y05 _ hz,h1,h2⟩
theorem z8r {scope:Scope} {env:Env} (hcell:∀y∈scope.names,y.2≠.cell) {x:Str} (h:(relabel scope env).names.lookup x=some .cell\/(relabel scope env).names.lookup x=some .free):∃y∈scope.names,y.2=.free/\y.1=x:=by
 have go:∀{k:NameKind},(relabel scope env).names.lookup x=some k->(k=.cell\/k=.free)->∃y∈scope.names,y.2=.free/\y.1=x:=fun {k} e hk=>by
  obtain⟨y,hy,h1,h2⟩:=z0m e
  obtain⟨⟨n,j⟩,hz,e2⟩:=y0m.mp (show y∈scope.names.map _ from hy)
  by_cases hc:(j == NameKind.free && env.scope.kind == .function && env.kindOf n == some .cell)=true
  ·have e3:(n,NameKind.cell)=y:=by
    have e4:(if (j == NameKind.free && env.scope.kind == .function && env.kindOf n == some .cell)=true then (n,NameKind.cell) else (n,j))=y:=e2
    rwa [if_pos hc] at e4
   subst e3
   simp only[y19] at hc
   exact⟨(n,j),hz,by simpa using hc.1.1,h2⟩
  ·have e3:(n,j)=y:=by
    have e4:(if (j == NameKind.free && env.scope.kind == .function && env.kindOf n == some .cell)=true then (n,NameKind.cell) else (n,j))=y:=e2
    rwa [if_neg hc] at e4
   subst e3
   rcases hk with rfl|rfl
   ·exact absurd h1 (hcell _ hz)
   ·exact⟨(n,j),hz,h1,h2⟩
 rcases h with h|h
 ·exact go h (.inl rfl)
 ·exact go h (.inr rfl)
theorem RelE.other {K:y00} {F₀ O F:Addr->Prop} {E:En} {H:Hp} {ε:Ev} {σ:L2.St} {a:Addr} {xs ys:List V} (r:RelE K F₀ E O F H ε σ) (hn:¬F a) (ho:¬O a) (h0:E.h a=none) (ha:H a=some (.lst xs)) :
  Kp K F H F (upd H a (.lst ys))/\RelE K F₀ E O F (upd H a (.lst ys)) ε σ:=by
 have hm:HoM (.lst xs):=.inl ⟨_,rfl⟩
 have kp:Kp K F H F (upd H a (.lst ys)):=zfe hn ha hm
 have keep:∀(u:Sl) (w:V),z1g K E O F H u w->z1g K E O F (upd H a (.lst ys)) u w/\fpS (upd H a (.lst ys)) u w=fpS H u w:=by
  intro u w ru
  refine ru.keep kp (fun b hb=>z04 ?_) (fun _ _ f=>f) fun _ _ o=>o
  rintro rfl
  cases ou:u.isOwn with
  | true=>exact ho ((ru.held hb).2.1 ou)
  | false=>exact (ru.held hb).2.2 ou h0
 refine⟨kp,⟨r.len,fun j u e=>?_,fun i j s u v w hij e1 e2 o1 o2 h1 h2=>?_,zc4 r.ent h0 hn ha hm,r.o0,fun b e=>r.fr b ?_⟩⟩
 ·obtain⟨v,h1,h2⟩:=r.val j u e
  exact⟨v,h1,(keep u v h2).1⟩
 ·obtain⟨v',h1',r1⟩:=r.val i s e1
  obtain⟨w',h2',r2⟩:=r.val j u e2
  rw[h1] at h1'
  rw[h2] at h2'
  cases h1'
  cases h2'
  rw[(keep s v r1).2,(keep u w r2).2]
  exact r.ne i j s u v w hij e1 e2 o1 o2 h1 h2
 ·by_cases nb:b=a
  ·subst nb
   rw[z05] at e
   cases e
  ·rwa [z04 nb] at e
def ziv (n:Nat) (caps:List Nat) (σ:L2.St):L2.St:=y0g n none++caps.map fun i=>(σ[i]?).join
theorem zfi {α:Type} {o:Option (Option α)} {x:α} (h:o.join=some x):o=some (some x):=by
 cases o with
 | none=>cases h
 | some o=>exact congrArg some h
theorem z4s {α:Type} {n:Nat} {caps:List Nat} {l:List (Option α)} {i:Nat} {x:α} (h:(y0g n none++caps.map fun i=>(l[i]?).join)[i]?=some (some x)):∃j,n<=i/\caps[i - n]?=some j/\l[j]?=some (some x):=by
 by_cases hi:i<n
 ·rw[y1j (by simpa using hi),List.getElem?_replicate] at h
  rw[if_pos hi] at h
  cases h
 ·rw[y1h (by simpa using hi),List.length_replicate,y13] at h
  cases e:caps[i - n]? with
  | none =>
   rw[e] at h
   cases h
  | some j =>
   rw[e] at h
   exact⟨j,by omega,rfl,zfi (y27 h)⟩
theorem zl5 {α:Type} {n:Nat} {caps:List Nat} {l:List (Option α)} {i j:Nat} {x:α} (hi:n<=i) (hc:caps[i - n]?=some j) (h:l[j]?=some (some x)):(y0g n none++caps.map fun i=>(l[i]?).join)[i]?=some (some x):=by
 rw[y1h (by simpa using hi),List.length_replicate,y13,hc]
 simp[h]
theorem RelE.cap {K:y00} {F₀ O F:Addr->Prop} {E:En} {H:Hp} {ε:Ev} {σ:L2.St} {D:Addr} (r:RelE K F₀ E O F H ε σ) (n:Nat) {caps:List Nat} (nd:caps.Nodup) (hD:H D=none) :
  RelE K F₀ E (fun a=>O a/\a≠D) F (upd H D (.lst [])) (z16 n caps ε) (ziv n caps σ):=by
 have x:=Ext.laid (o:=.lst []) r.dom hD
 have keep:∀(u:Sl) (w:V),z1g K E O F H u w->z1g K E (fun a=>O a/\a≠D) F (upd H D (.lst [])) u w/\fpS (upd H D (.lst [])) u w=fpS H u w:=by
  intro u w ru
  have nb:∀b∈fpS H u w,b≠D:=fun b hb z=>by
   obtain⟨o,e,_⟩:=ru.at hb
   rw[z,hD] at e
   cases e
  exact ru.keep x.kp (fun b hb=>z04 (nb b hb)) (fun _ _ f=>f) fun b hb o=>⟨o,nb b hb⟩
 refine⟨by simp[z16,ziv],fun i s e=>?_,fun i j s u v w hij e1 e2 o1 o2 h1 h2=>?_,r.ent.trans x,fun a h=>r.o0 a h.1,fun a h=>?_⟩
 ·obtain⟨j,hn,hc,e'⟩:=z4s e
  obtain⟨v,h1,h2⟩:=r.val j s e'
  exact⟨v,zl5 hn hc h1,(keep s v h2).1⟩
 ·obtain⟨i',hi,ci,e1'⟩:=z4s e1
  obtain⟨j',hj,cj,e2'⟩:=z4s e2
  obtain⟨i2,_,ci2,h1'⟩:=z4s (l:=σ) h1
  obtain⟨j2,_,cj2,h2'⟩:=z4s (l:=σ) h2
  rw[ci] at ci2
  rw[cj] at cj2
  cases ci2
  cases cj2
  obtain⟨v',q1,r1⟩:=r.val i' s e1'
  obtain⟨w',q2,r2⟩:=r.val j' u e2'
  rw[h1'] at q1
  rw[h2'] at q2
  cases q1
  cases q2
  rw[(keep s v r1).2,(keep u w r2).2]
  refine r.ne i' j' s u v w (fun z=>?_) e1' e2' o1 o2 h1' h2'
  subst z
  obtain⟨l1,m1⟩:=y0k.mp ci
  obtain⟨l2,m2⟩:=y0k.mp cj
  have ne:i - n≠j - n:=by omega
  rcases Nat.lt_or_gt_of_ne ne with q|q
  ·exact (List.pairwise_iff_getElem.mp nd _ _ l1 l2 q) (m1.trans m2.symm)
  ·exact (List.pairwise_iff_getElem.mp nd _ _ l2 l1 q) (m2.trans m1.symm)
 ·have nd:a≠D:=by
   rintro rfl
   rw[z05] at h
   cases h
  rw[z04 nd] at h
  exact⟨r.fr a h,nd⟩
end
section
variable [Tbl]
structure CompOk (X:Cx) (scope:Scope) (own:List Str) (caps:List (Nat×Str)):Prop where
 kind:scope.kind=.function
 names:∀y∈scope.names,y.2=.local->scope.names.lookup y.1=some .local
 cell:∀y∈scope.names,y.2≠.cell
 free:∀y∈scope.names,y.2=.free->X.env.kindOf y.1=some .cell\/X.env.kindOf y.1=some .free
 cap:∀p∈caps,X.N[p.1]?=some p.2/\scope.names.lookup p.2=some .free
 nd:(caps.map (·.1)).Nodup
 calm:X.calm=true
section
variable {X:Cx} {tg iter elt:Expr} {ifs:List Expr} {scope:Scope} {it:Fi} {gg:Fg} {cc:Ft} {ee:Fe} {pos:Pos} {own:List Str} {caps:List (Nat×Str)}
theorem zgb {pins:List (Addr×Obj)} {σ:L2.St} {H2:Hp} {s2:y04} {fp:List Addr} (S:CompOk X scope own caps) (I2:L2.Inv X pins σ H2 s2) (f2:∀b∈fp,FpOk X pins H2 b) (hfp:∀b∈fp,b<s2.heap.objs.size) (N':List Str) :
  (z1e X N' scope (clos X.env scope.names []) (s2.heap.push { cls:=.type "list",data:=.seq ([]:List Value).toArray }).objs.size { s2 with heap:=s2.heap.push { cls:=.type "list",data:=.seq ([]:List Value).toArray } } (upd H2 s2.heap.objs.size (.lst [])) fp (X.pn++pins)).Ok:=by
 have hcl:∀x∈scope.names,x.2=.free->∃c,X.env.cells.lookup x.1=some c:=fun x hx hk=>I2.ok.has x.1 (S.free x hx hk)
 have cf:∀x c,(clos X.env scope.names []).lookup x=some c->X.env.cells.lookup x=some c:=z2o hcl (fun x c e=>by simp at e)
 have I3:=I2.lnew (its:=[]) (ys:=[]) (t':=s2.toks) .nil (y1z _)
 have sz:(s2.heap.push { cls:=.type "list",data:=.seq ([]:List Value).toArray }).objs.size=s2.heap.objs.size+1:=y15 ..
 refine⟨I2.ok.mod,S.kind,I2.ok.glob,I2.ok.blt,y0o _,fun x y c e1 e2=>I2.ok.inj x y c (cf x c e1) (cf y c e2),fun x hx=>?_,fun x c h=>(by cases h),I2.ok.hd,I2.ok.frames,.inl rfl,fun b hb=>⟨?_,fun x c e=>(f2 b hb).2.2.2.2.1 x c (cf x c e)⟩,fun b o e=>?_,?_,fun b o e hb=>?_,fun b hb hf=>?_,I3.stack,I3.stkFree⟩
 ·exact z2f (.inl (z8r S.cell hx))
 ·show b≠(s2.heap.push { cls:=.type "list",data:=.seq ([]:List Value).toArray }).objs.size
  have h:=hfp b hb
  rw[sz]
  exact y0y (Nat.lt_succ_of_lt h)
 ·obtain⟨h1,h2⟩:=I3.bs b o e
  exact⟨h1,h2⟩
 ·have h1:=y1k I2.ok.bsz I2.sz
  show X.base.objs.size<=(s2.heap.push { cls:=.type "list",data:=.seq ([]:List Value).toArray }).objs.size
  omega
 ·rcases (f2 b hb).2.2.2.1 with q|q
  ·exact I2.ok.noex b o e q
  ·exact absurd (y0x (y0c (I2.ok.bs b o e).1) q) (Nat.lt_irrefl _)
 ·rcases y09.mp (I2.stkSub b hf) with q|q
  ·exact (f2 b hb).2.1 q
  ·exact (f2 b hb).2.2.1 q
theorem zis {pins:List (Addr×Obj)} {σ:L2.St} {H2:Hp} {s2:y04} {fp:List Addr} (S:CompOk X scope own caps) (I2:L2.Inv X pins σ H2 s2) (f2:∀b∈fp,FpOk X pins H2 b) (hfp:∀b∈fp,b<s2.heap.objs.size) {h₁:Heap} {m:Str->Option Value} {tk:Nat}
  (hns:h₁.Ns (s2.heap.push { cls:=.type "list",data:=.seq ([]:List Value).toArray }).objs.size m) (keep:∀b u,(s2.heap.push { cls:=.type "list",data:=.seq ([]:List Value).toArray }).get? b=some u->h₁.get? b=some u) :
  L2.Inv (z1e X (own++caps.map (·.2)) scope (clos X.env scope.names []) (s2.heap.push { cls:=.type "list",data:=.seq ([]:List Value).toArray }).objs.size { s2 with heap:=s2.heap.push { cls:=.type "list",data:=.seq ([]:List Value).toArray } } (upd H2 s2.heap.objs.size (.lst [])) fp (X.pn++pins)) []
   (ziv own.length (caps.map (·.1)) σ) (upd H2 s2.heap.objs.size (.lst [])) { s2 with heap:=h₁,toks:=tk }:=by
 have hcl:∀x∈scope.names,x.2=.free->∃c,X.env.cells.lookup x.1=some c:=fun x hx hk=>I2.ok.has x.1 (S.free x hx hk)
 have cf:∀x c,(clos X.env scope.names []).lookup x=some c->X.env.cells.lookup x=some c:=z2o hcl (fun x c e=>by simp at e)
 have I3:=I2.lnew (its:=[]) (ys:=[]) (t':=s2.toks) .nil (y1z _)
 refine⟨zgb S I2 f2 hfp _,rfl,I2.bare,Un.kept keep,⟨m,hns,fun i x v h1 h2 hv=>?_⟩,fun x c e=>?_,?_,fun x c e=>I3.freeC x c (cf x c e),fun p hp=>?_,I3.hok.kept keep,by simp[ziv,z1e]⟩
 ·obtain⟨j,hn,hc,hj⟩:=z4s (l:=σ) h2
  have hx:(caps.map (·.2))[i - own.length]?=some x:=by
   have:(own++caps.map (·.2))[i]?=some x:=h1
   rwa [y1h hn] at this
  rw[y13] at hc hx
  cases ep:caps[i - own.length]? with
  | none=>rw[ep] at hc;cases hc
  | some p =>
   rw[ep] at hc hx
   cases hc
   cases hx
   obtain⟨hN,hf⟩:=S.cap p (y1p ep)
   obtain⟨y,hy,k1,k2⟩:=z0m hf
   have hk:=S.free y hy k1
   rw[k2] at hk
   obtain⟨m3,hn3,hl3⟩:=I3.loc
   have vis:Vis X.env.scope p.2:=by
    rcases hk with hk|hk
    ·exact .inr (.inl hk)
    ·exact .inr (.inr hk)
   obtain⟨u,ru,lu⟩:=hl3 p.1 p.2 v hN hj vis
   refine⟨u,ru,.inr ⟨?_,?_⟩⟩
   ·obtain⟨k',e1,e2⟩:=z3w (env:=X.env) hf
    rcases e2 with rfl|⟨_,rfl⟩
    ·exact .inr e1
    ·exact .inl e1
   ·rcases lu with ⟨q,_⟩|⟨_,c,hc,hcell⟩
    ·rcases hk with hk|hk
     ·rw[hk] at q;cases q
     ·rw[hk] at q;cases q
    ·obtain⟨c',hc'⟩:=z2f (env:=X.env) (l:=scope.names) (cs:=[]) (x:=p.2) (.inl ⟨y,hy,k1,k2⟩)
     have:=cf _ _ hc'
     rw[hc] at this
     cases this
     obtain⟨oc,ho,hd⟩:=hcell
     exact⟨c,hc',oc,keep _ _ ho,hd⟩
 ·obtain⟨v,oc,ho,hd⟩:=I3.cell x c (cf x c e)
  exact⟨v,oc,keep _ _ ho,hd⟩
 ·exact I3.hok.fresh (y0o _)
 ·have hp':p∈X.pn++pins:=by simpa [z1e] using hp
  obtain⟨h1,h2,h3,h4,h5⟩:=I3.pin p hp'
  refine⟨keep _ _ h1,h2,y0y (y0c h1),fun z=>?_,h5⟩
  rcases y09.mp (I2.stkSub p.1 z) with q|q
  ·exact h3 q
  ·exact h4 q
theorem zd6 {pins:List (Addr×Obj)} {σ σ':L2.St} {H2 H':Hp} {s2 s':y04} {fp:List Addr} {N':List Str} (I2:L2.Inv X pins σ H2 s2) (f2:∀b∈fp,FpOk X pins H2 b)
  (J:L2.Inv (z1e X N' scope (clos X.env scope.names []) (s2.heap.push { cls:=.type "list",data:=.seq ([]:List Value).toArray }).objs.size { s2 with heap:=s2.heap.push { cls:=.type "list",data:=.seq ([]:List Value).toArray } } (upd H2 s2.heap.objs.size (.lst [])) fp (X.pn++pins)) [] σ' H' s')
  {h':Heap} (sb:Heap.SameBut (s2.heap.push { cls:=.type "list",data:=.seq ([]:List Value).toArray }).objs.size s'.heap h'):L2.Inv X pins σ H' { s' with heap:=h' }:=by
 have I3:=I2.lnew (its:=[]) (ys:=[]) (t':=s2.toks) .nil (y1z _)
 have u:=J.base
 have free:H' (s2.heap.push { cls:=.type "list",data:=.seq ([]:List Value).toArray }).objs.size=none:=J.free
 have old:∀b o,(s2.heap.push { cls:=.type "list",data:=.seq ([]:List Value).toArray }).get? b=some o->b≠(s2.heap.push { cls:=.type "list",data:=.seq ([]:List Value).toArray }).objs.size:=fun b o e=>y0y (y0c e)
 have eqh:∀b,b≠(s2.heap.push { cls:=.type "list",data:=.seq ([]:List Value).toArray }).objs.size->∀o,s'.heap.get? b=some o->h'.get? b=some o:=fun b hb o e=>sb.extBut b o hb e
 have u2:Un (frs X.stack) fp (upd H2 s2.heap.objs.size (.lst [])) H' (s2.heap.push { cls:=.type "list",data:=.seq ([]:List Value).toArray }) h':=by
  refine⟨fun b o e n hf hx=>eqh b (old b o e) _ (u.keep b o e n hf hx),fun b o e n hf hx=>?_,u.free,fun b o e hx=>?_,u.tups,u.frzs,u.tbls⟩
  ·obtain⟨sl,q⟩:=u.slot b o e n hf hx
   exact⟨sl,eqh b (old b o e) _ q⟩
  ·obtain⟨o',q⟩:=u.there b o e hx
   exact⟨o',eqh b (old b o e) _ q⟩
 have hok:HOk X.prog X.w H' h':=fun b o e=>by
  refine (J.hok b o e).stay (fun c v hc q=>eqh c (fun z=>?_) v q) (fun _ q=>q) fun _ _ q=>q
  rcases hc with rfl|hc
  ·rw[z,free] at e
   cases e
  ·rw[z,free] at hc
   cases hc
 have hos:=J.os
 have hbare:=J.bare
 obtain⟨hh,g,d,t,os⟩:=s'
 obtain rfl:os=s2.os:=hos
 have fin:=I3.call (h':=h') (g':=g) (d':=d) (t':=t) (ch:=fp) u2 hok hbare fun b hb=>⟨(f2 b hb).2.2.2.1,(f2 b hb).2.1,(f2 b hb).2.2.2.2.1,(f2 b hb).2.2.2.2.2⟩
 exact fin
theorem zgc {X':Cx} {R:Result->y04->Prop} {J:It} {fp:List Addr} {it' D:Addr} {tn:Nat->Heap->Prop} {F₀ O F1:Addr->Prop} {H₀:En} {H2:Hp} {ts ys:List T} (hx:X'.xe=fun _ _=>False) (hc:X'.calm=true) (hg:PGt X' tg gg) (ht:PTs X' ifs cc) (he:PEv X' elt ee)
  (T:Turn X'.prog X'.w X'.K tg J fp it' tn) (stat:∀H':Hp,(∀b∈fp,H' b=none)->∀b∈fp,FpOk X' [] H' b) (ok:ItOk X'.K J F1 H2 ts) (hbig:ts.length<=big) (hD2:H2 D=none) (hO:¬O D) (hH0:H₀.h D=none)
  (fin:∀σ' H' F' s1 vs,L2.Inv X' [] σ' H' s1->Ext F1 H2 F' H'->H' D=some (.lst vs)->¬F' D->RepL X'.K F' H' ys vs->R (.ok .next) s1)
  {s:y04} {σ:L2.St} {H:Hp} {F:Addr->Prop} {ε:Ev} (I:L2.Inv X' [] σ H s) (st:tn 0 s.heap) (fr:∀b∈fp,H b=none) (x:Ext F1 H2 F H) (r:RelE X'.K F₀ H₀ O F H ε σ) (hD:H D=some (.lst [])) (nD:¬F D) (ey:z1v gg cc ee ts ε=some ys) :
  codeAny (model X'.prog X'.w) X'.A (.compLoop (.ListComp elt [⟨tg,iter,ifs,0⟩] scope pos) 0 (.ref it') (.ref D) X'.env) R s:=by
 refine z9n (fun n s'=>∃i σ' H' F' ε' dn vs,n=ts.length - i/\i<=ts.length/\L2.Inv X' [] σ' H' s'/\tn i s'.heap/\(∀b∈fp,H' b=none)/\Ext F1 H2 F' H'/\RelE X'.K F₀ H₀ O F' H' ε' σ'/\H' D=some (.lst vs)/\¬F' D/\RepL X'.K F' H' dn vs/\dn.length<=i /\
  ∃rest,z1v gg cc ee (ts.drop i) ε'=some rest/\ys=dn++rest) ?_ ts.length ⟨0,σ,H,F,ε,[],[],rfl,y1z _,I,st,fr,x,r,hD,nD,RepL.nil,y0o _,ys,by simpa using ey,by simp⟩
 rintro n s3 ⟨i,σ3,H3,F3,ε3,dn,vs,rfl,hi,I3,st3,fr3,x3,r3,hD3,nD3,q3,hl3,rest,er,es⟩
 have nf:∀{F4:Addr->Prop} {H4:Hp} {F5:Addr->Prop} {H5:Hp} {o:HO},Ext F4 H4 F5 H5->H4 D=some o->¬F4 D->¬F5 D:=fun y e n z=>by
  rcases y.new D z with q|q
  ·exact n q
  ·rw[e] at q
   cases q
 by_cases hlt:i<ts.length
 ·have hd:ts.drop i=ts[i]::ts.drop (i+1):=List.drop_eq_getElem_cons hlt
  have hg':ts[i]?=some ts[i]:=y0v hlt
  rw[hd] at er
  simp only[z1v,y01] at er
  obtain⟨ε4,eg,b,eb,er⟩:=er
  refine y1b (T.item X' rfl rfl rfl hc i [] s3 σ3 H3 (fun _ _=>False) I3 (stat H3 fr3) st3 (ok.go i F3 H3 _ x3.kp r3.dom hg')) (fun rv s4 ⟨u,hr,h4⟩=>?_) fun _ _ z=>z
  subst hr
  refine y1b h4 (fun _ s5 ⟨x',H5,I5,r5,y5,st5,fr5⟩=>?_) fun _ _ z=>z
  obtain⟨F5,x5,rx⟩:=ok.yld i F3 H3 _ x' H5 x3.kp r3.dom hg' y5
  have I5':=I5.pinned (stat H5 fr5) (T.obj _ _ st5)
  have hg2:=hg _ s5 σ3 H5 x' u (fun σ6 H6=>H6=H5/\RelE X'.K F₀ H₀ O F5 H5 ε4 σ6) I5' r5 ⟨F₀,H₀,O,F5,ε3,_,ε4,r3.ext x5,rx,eg,fun σ6 r6=>⟨rfl,r6⟩⟩
  rw[hx] at hg2
  refine y1b hg2 (fun _ s6 ⟨σ6,H6,I6,e6,r6⟩=>?_) fun _ _ z=>z
  subst e6
  have again:∀{σ7:L2.St} {H7:Hp} {s7:y04},L2.Inv X' ([]++z8v fp s5.heap) σ7 H7 s7->tn (i+1) s7.heap/\(∀b∈fp,H7 b=none)/\L2.Inv X' [] σ7 H7 s7:=fun {σ7 H7 s7} I7=>by
   refine⟨T.keep _ _ _ st5 fun b hb o e=>(I7.pin (b,o) (y18 _ (y18 _ (z3o hb e)))).1,fun b hb=>?_,I7.unpinned⟩
   obtain⟨o,e,d⟩:=T.obj _ _ st5 b hb
   exact (I7.pin (b,o) (y18 _ (y18 _ (z3o hb e)))).2.1
  have ht2:=ht _ s6 σ6 H6 (fun b' H7=>b'=b/\∃F7,Ext F5 H6 F7 H7) I6 ⟨F₀,H₀,O,F5,ε4,b,r6,eb,fun F7 H7 x7=>⟨rfl,F7,x7⟩⟩
  rw[hx] at ht2
  refine y1b ht2 (fun ok' s7 ⟨H7,I7,e7,F7,x7⟩=>?_) fun _ _ z=>z
  subst e7
  have x37:=x5.trans x7
  have r7:=r6.ext x7
  cases ok' with
  | false =>
   simp only[y1o,if_false] at er ⊢
   obtain⟨a1,a2,a3⟩:=again I7
   exact⟨_,by omega,i+1,σ6,H7,F7,ε4,dn,vs,rfl,hlt,a3,a1,a2,x3.trans x37,r7,x37.same.get hD3,nf x37 hD3 nD3,q3.ext x37,by omega,rest,er,es⟩
  | true =>
   simp only[if_true,y01,y07] at er ⊢
   obtain⟨y,ey',rest',er',rfl⟩:=er
   have he2:=he _ s7 σ6 H7 (fun v H8=>∃F8,Ext F7 H7 F8 H8/\Rep X'.K F8 H8 y v) I7 ⟨F₀,H₀,O,F7,ε4,y,r7,ey',fun v F8 H8 x8 q8=>⟨F8,x8,q8⟩⟩
   rw[hx] at he2
   refine y1b he2 (fun u8 s8 ⟨v8,H8,I8,r8,F8,x8,q8⟩=>?_) fun _ _ z=>z
   have x38:=x37.trans x8
   have hD8:=x38.same.get hD3
   have nD8:=nf x38 hD3 nD3
   obtain⟨kp9,r9⟩:=(r7.ext x8).other (ys:=vs++[v8]) nD8 hO hH0 hD8
   have ha:=z92 (X:=X') _ s8 σ6 H8 (.ref D) [v8] (.ref D) [u8] (fun _ H9=>H9=upd H8 D (.lst (vs++[v8]))) I8 rfl (.cons r8 .nil) ⟨D,vs,v8,rfl,rfl,hD8,by rw[z5i,<- q3.length];omega,rfl⟩
   rw[hx] at ha
   refine y1b ha (fun u9 s9 ⟨v9,H9,I9,r9',e9⟩=>?_) fun _ _ z=>z
   subst e9
   obtain⟨a1,a2,a3⟩:=again I9
   have x9:Ext F1 H2 F8 (upd H8 D (.lst (vs++[v8]))):=by
    have y:=x3.trans x38
    refine⟨fun b o e=>?_,y.sub,y.new,⟨fun b f=>?_,y.dom.tgs.upd fun u e=>.inl ⟨_,y27 (e.symm.trans hD8)⟩⟩⟩
    ·have nb:b≠D:=by
      rintro rfl
      rw[hD2] at e
      cases e
     rw[z04 nb]
     exact y.same b o e
    ·have nb:b≠D:=by
      rintro rfl
      exact nD8 f
     rw[z04 nb]
     exact y.dom b f
   refine⟨_,by omega,i+1,σ6,_,F8,ε4,dn++[y],vs++[v8],rfl,hlt,a3,a1,a2,x9,r9,z05,nD8,((q3.ext x38).append (RepL.cons q8 RepL.nil)).kp kp9,by simp;omega,rest',er',by rw[es];simp⟩
 ·have hd:ts.drop i=[]:=List.drop_eq_nil_of_le (by omega)
  rw[hd] at er
  cases er
  refine y1b (T.done X' rfl rfl rfl hc i [] s3 σ3 H3 (fun _ _=>False) I3 (stat H3 fr3) st3 (ok.stop i F3 H3 x3.kp (by omega))) (fun rv s4 ⟨hr,I4⟩=>?_) fun _ _ z=>z
  subst hr
  exact fin σ3 H3 F3 s4 vs I4 x3 hD3 nD3 (by rw[es,y1t];exact q3)
structure After (X:Cx) (pins:List (Addr×Obj)) (σ:L2.St) (F:Addr->Prop) (H:Hp) (ys:List T) (D C:Addr) (H':Hp) (F':Addr->Prop) (s1:y04) (vs:List V):Prop where
 inv:∀h',Heap.SameBut C s1.heap h'->L2.Inv X pins σ H' { s1 with heap:=h' }
 ns:∃m,s1.heap.Ns C m
 free:H' C=none
 above:X.s₀.heap.objs.size<=C
 cells:∀x c,X.env.cells.lookup x=some c->c≠C
 pin:∀p∈X.pn++pins,p.1≠C
 loc:C≠X.env.locals
 new:H D=none
 ext:Ext F H F' H'
 nf:¬F' D
 lst:H' D=some (.lst vs)
 rep:RepL X.K F' H' ys vs
theorem zc8 {use:Option (Value->Sem Unit)} {Q:Value->y04->Prop} {p2:Pos} (S:CompOk X scope own caps) (hi:PIt X tg iter it)
  (hg:∀cl C s₀ H₀ fp pn,PGt (z1e X (own++caps.map (·.2)) scope cl C s₀ H₀ fp pn) tg gg)
  (ht:∀cl C s₀ H₀ fp pn,PTs (z1e X (own++caps.map (·.2)) scope cl C s₀ H₀ fp pn) ifs cc)
  (he:∀cl C s₀ H₀ fp pn,PEv (z1e X (own++caps.map (·.2)) scope cl C s₀ H₀ fp pn) elt ee)
  (hs:∀x,foldedSetIterable iter X.env x=pure x) {pins:List (Addr×Obj)} {s:y04} {σ:L2.St} {H:Hp} {F₀ O F:Addr->Prop} {H₀:En} {ε:Ev} {ys:List T} (I:L2.Inv X pins σ H s) (r:RelE X.K F₀ H₀ O F H ε σ)
  (e:comp own.length (caps.map (·.1)) it gg cc ee ε=some (.list ys)) (fin:∀D C H' F' s1 vs,After X pins σ F H ys D C H' F' s1 vs->compPost (model X.prog X.w) X.A X.xe use Q (.ref D) C (.ok .next) s1) :
  y0u (model X.prog X.w) X.A (comprehension (.ListComp elt [⟨tg,iter,ifs,0⟩] scope pos) scope X.env p2 (newList []) false (eval iter X.env) use) Q X.xe s:=by
 simp only[comp,y01] at e
 obtain⟨ts,et,e⟩:=e
 split at e
 case isFalse=>cases e
 next hbig =>
 simp only[y07] at e
 obtain⟨ys',ey,e⟩:=e
 cases e
 have hcl:∀x∈scope.names,x.2=.free->∃c,X.env.cells.lookup x.1=some c:=fun x hx hk=>I.ok.has x.1 (S.free x hx hk)
 refine wpAny_comprehension_free rfl hs (z1w hcl) S.kind S.names (thn (hi pins s σ H (fun J H1=>∃F1,Ext F H F1 H1/\ItOk X.K J F1 H1 ts) I ⟨F₀,H₀,O,F,ε,ts,r,et,fun J F1 H1 x1 ok=>⟨F1,x1,ok⟩⟩) fun v s1 h1=>thn h1 fun itv s2 h2=>?_)
 obtain⟨it',fp,tn,J,H2,rfl,I2,T,st2,f2,F1,x1,ok⟩:=h2
 have hfp:∀b∈fp,b<s2.heap.objs.size:=fun b hb=>by
  obtain⟨o,ho,_⟩:=T.obj 0 _ st2 b hb
  exact y0c ho
 have hD2:H2 s2.heap.objs.size=none:=I2.fresh
 have hD:H s2.heap.objs.size=none:=x1.same.none hD2
 have sz:(s2.heap.push { cls:=.type "list",data:=.seq ([]:List Value).toArray }).objs.size=s2.heap.objs.size+1:=y15 ..
 refine wpAny_newList ?_ (y1z _)
 refine wpAny_newFunctionEnv S.cell (by intro y hy;simp at hy) (fun h₁ hns₁ hsb₁=>?_) S.kind
 have keep:∀b u,(s2.heap.push { cls:=.type "list",data:=.seq ([]:List Value).toArray }).get? b=some u->h₁.get? b=some u:=fun b u e=>hsb₁.extBut b u (y0y (y0c e)) (y03 _ e)
 have I4:=zis (tk:=s2.toks+0) S I2 f2 hfp hns₁ keep
 have r4:=(r.ext x1).cap (D:=s2.heap.objs.size) own.length S.nd hD2
 refine codeAny_compStart_list ?loop (T.self _ 0 _ _ _ (T.keep 0 _ _ st2 fun b hb o e=>keep b o (y03 _ e)) ?loop)
 refine zgc (X':=z1e X (own++caps.map (·.2)) scope (clos X.env scope.names []) (s2.heap.push { cls:=.type "list",data:=.seq ([]:List Value).toArray }).objs.size { s2 with heap:=s2.heap.push { cls:=.type "list",data:=.seq ([]:List Value).toArray } } (upd H2 s2.heap.objs.size (.lst [])) fp (X.pn++pins))
  rfl S.calm (hg _ _ _ _ _ _) (ht _ _ _ _ _ _) (he _ _ _ _ _ _) T (fun H' hn b hb=>?_) ok hbig hD2 (fun z=>z.2 rfl) (r.o0 _ (r.fr _ hD)) (fun σ' H' F' s1 vs J1 x' hD' nD' q'=>?_) I4 (T.keep 0 _ _ st2 fun b hb o e=>keep b o (y03 _ e)) (fun b hb=>?_) (Ext.laid x1.dom hD2) r4 z05 ?_ ey
 ·have okX:=zgb S I2 f2 hfp (own++caps.map (·.2))
  refine⟨hn b hb,(okX.exf b hb).1,okX.exfs b hb,.inl hb,fun x c e=>(okX.exf b hb).2 x c e,fun p hp=>?_⟩
  have hp':p∈X.pn++pins:=by simpa [z1e] using hp
  exact (f2 b hb).2.2.2.2.2 p hp'
 ·obtain⟨m,hn,_⟩:=id J1.loc
  refine fin s2.heap.objs.size _ H' F' s1 vs ⟨fun h' sb=>zd6 I2 f2 J1 sb,⟨m,hn⟩,J1.free,?_,fun x c e z=>?_,fun p hp z=>?_,?_,hD,x1.trans x',nD',hD',q'⟩
  ·rw[sz]
   exact Nat.le_succ_of_le I2.sz
  ·obtain⟨v,q⟩:=I2.cell x c e
   have:=q.lt
   rw[z,sz] at this
   exact absurd this (Nat.not_lt.mpr (Nat.le_succ _))
  ·have:=y0c (I2.pin p hp).1
   rw[z,sz] at this
   exact absurd this (Nat.not_lt.mpr (Nat.le_succ _))
  ·have:=I2.lt
   rw[sz]
   exact y14 (Nat.lt_succ_of_lt this)
 ·have:=(f2 b hb).1
  rw[z04 (y0y (hfp b hb))]
  exact this
 ·intro z
  obtain⟨o,e⟩:=x1.dom _ z
  rw[hD2] at e
  cases e
theorem zma (S:CompOk X scope own caps) (hi:PIt X tg iter it)
  (hg:∀cl C s₀ H₀ fp pn,PGt (z1e X (own++caps.map (·.2)) scope cl C s₀ H₀ fp pn) tg gg)
  (ht:∀cl C s₀ H₀ fp pn,PTs (z1e X (own++caps.map (·.2)) scope cl C s₀ H₀ fp pn) ifs cc)
  (he:∀cl C s₀ H₀ fp pn,PEv (z1e X (own++caps.map (·.2)) scope cl C s₀ H₀ fp pn) elt ee)
  (hs:∀x,foldedSetIterable iter X.env x=pure x:=by intro _;rfl):PEn X (.ListComp elt [⟨tg,iter,ifs,0⟩] scope pos) (comp own.length (caps.map (·.1)) it gg cc ee):=by
 intro pins s σ H Q I ⟨F₀,H₀,O,F,ε,ys,r,e,k⟩
 rw[eval_ListComp]
 refine zc8 S hi hg ht he hs I r e fun D C H' F' s1 vs a=>?_
 obtain⟨m,hn⟩:=a.ns
 exact⟨m,hn,fun h' sb=>⟨.ref D,H',a.inv h' sb,rfl,k D vs F' H' a.ext a.new a.nf a.lst a.rep⟩⟩
theorem z9l {ε:Ev} {n:Nat} {cs:List Nat} {t:T} (e:comp n cs it gg cc ee ε=some t):∃ts,t=.list ts:=by
 simp only[comp,y01] at e
 obtain⟨ts,_,e⟩:=e
 split at e
 ·simp only[y07] at e
  obtain⟨ys,_,e⟩:=e
  exact⟨ys,e.symm⟩
 ·cases e
theorem zaf (S:CompOk X scope own caps) (hi:PIt X tg iter it)
  (hg:∀cl C s₀ H₀ fp pn,PGt (z1e X (own++caps.map (·.2)) scope cl C s₀ H₀ fp pn) tg gg)
  (ht:∀cl C s₀ H₀ fp pn,PTs (z1e X (own++caps.map (·.2)) scope cl C s₀ H₀ fp pn) ifs cc)
  (he:∀cl C s₀ H₀ fp pn,PEv (z1e X (own++caps.map (·.2)) scope cl C s₀ H₀ fp pn) elt ee)
  (hs:∀x,foldedSetIterable iter X.env x=pure x:=by intro _;rfl):PEv X (.ListComp elt [⟨tg,iter,ifs,0⟩] scope pos) (comp own.length (caps.map (·.1)) it gg cc ee) :=
 n2v (zma S hi hg ht he hs) fun ε t e=>z9l e
theorem zm1 (i:Nat) {x:Str} {px spos:Pos} (hN:X.N.Nodup) (S:CompOk X scope own caps) (hit:PIt X tg iter it)
  (hg:∀cl C s₀ H₀ fp pn,PGt (z1e X (own++caps.map (·.2)) scope cl C s₀ H₀ fp pn) tg gg)
  (ht:∀cl C s₀ H₀ fp pn,PTs (z1e X (own++caps.map (·.2)) scope cl C s₀ H₀ fp pn) ifs cc)
  (he:∀cl C s₀ H₀ fp pn,PEv (z1e X (own++caps.map (·.2)) scope cl C s₀ H₀ fp pn) elt ee)
  (hi:X.N[i]?=some x:=by rfl) (hx:Loc X.env.scope x:=by first|exact Or.inl rfl|exact Or.inr rfl)
  (hsw:swapsWith (.ListComp elt [⟨tg,iter,ifs,0⟩] scope pos) (some (.Name x px)) spos.line X.env=pure true:=by rfl)
  (hf:X.fn x=true\/X.env.scope.names.lookup x=some .local:=by first|exact .inl rfl|exact .inr rfl)
  (hs:∀x,foldedSetIterable iter X.env x=pure x:=by intro _;rfl) :
  PSt X (.Assign [.Name x px] (.ListComp elt [⟨tg,iter,ifs,0⟩] scope pos) spos) (asg i (comp own.length (caps.map (·.1)) it gg cc ee)):=by
 intro pins s σ H D I ⟨F₀,H₀,O,F,ε,o,r,e,k⟩
 simp only[asg,y07] at e
 obtain⟨t,et,rfl⟩:=e
 obtain⟨ys,rfl⟩:=z9l et
 rw[exec_Assign_Name_used _ _ _ _ hsw]
 refine y02 (wpAny_standAt (y02 ?_))
 show y0u _ X.A (do let _ <- comprehension (.ListComp elt [⟨tg,iter,ifs,0⟩] scope pos) scope X.env _ (newList []) false (eval iter X.env) (some (assign (.Name x px) X.env))) _ _ s
 refine y02 (thn (zc8 (use:=some (assign (.Name x px) X.env)) (Q:=fun _ s'=>SP X pins D .next s') S hit hg ht he hs I r et fun D' C H' F' s1 vs a=>?_) fun _ s' hq=>y06 (y06 hq))
 have IX:=a.inv s1.heap (Heap.SameBut.refl ..)
 have IX':L2.Inv X pins σ H' s1:=IX
 show y0u _ X.A (assign (.Name x px) X.env (.ref D')) _ _ _
 refine wpAny_assign_Name (z8g (v:=.ref D') IX' hN hi hx rfl (fun s2 I2 ⟨b,sb,hb⟩=>?_) hf)
 obtain⟨m,hn⟩:=a.ns
 have nb:C≠b:=by
  rcases hb with rfl|hb
  ·exact a.loc
  ·exact (a.cells x b hb).symm
 refine⟨m,hn.sameBut sb nb,fun h' sb'=>?_⟩
 have I3:L2.Inv X pins (σ.set i (some (.ref D'))) H' { s2 with heap:=h' }:=I2.turned (t':=s2.toks) (it:=C) (fun b o hb e=>sb'.extBut b o hb e) a.free a.loc (.inr a.above) a.cells a.pin
 refine⟨_,H',I3,?_⟩
 have y:Ext F H (fun b=>F' b\/b=D') H':=⟨a.ext.same,fun b z=>.inl (a.ext.sub b z),fun b z=>by
  rcases z with z|rfl
  ·exact a.ext.new b z
  ·exact .inr a.new,⟨fun b z=>by
  rcases z with z|rfl
  ·exact a.ext.dom b z
  ·exact⟨_,a.lst⟩,a.ext.dom.tgs⟩⟩
 refine k _ _ H' y.kp ((r.ext y).set i ?_)
 simp only[Rep]
 exact⟨D',vs,rfl,.inr rfl,.inl a.lst,a.rep.keep (fun _ _ z=>z) fun b _ z w=>⟨.inl z,w⟩⟩
end
end
section
variable [Tbl]
open AutoSeq1 (wpAny_loadPart')
theorem z3s (l:Addr) (items:Array Value) (n:Nat) (dct:Option Addr) (sl:Array (Option Value)) :
  Meets (Builtin.«enumerate.__new__» ⟨[.type "enumerate",.ref l],[]⟩) (fun _ R s=>s.heap.get? l=some { cls:=.type "tuple",dict:=dct,data:=.seq items n,slots:=sl } /\
   R (.ok (.ret (.ref (s.heap.push { cls:=.type "tuple_iterator",data:=.fields #[.ref l,.int 0 0] }).objs.size)))
    { s with heap:=(s.heap.push { cls:=.type "tuple_iterator",data:=.fields #[.ref l,.int 0 0] }).push { cls:=.type "enumerate",data:=.fields #[.none,.bool false,.ref s.heap.objs.size,rawInt 0,.none,.none] } }) :=
 .of_wp fun prog w A R s h=>by
  obtain⟨hp,g,d,tk,os⟩:=s;obtain⟨hl,h⟩:=h
  have hsub:=sub_enumerate
  have hL:Heap.IsTuple (Shared.heap ⟨hp,g,d,tk,os⟩) l items:=⟨_,hl,rfl,n,rfl⟩
  wp_walk using wpAny_loadPart' hl
  refine wpAny_stack_any fun st=>y06 ?_
  split
  ·rename_i c _ _ _ _ _
   cases (c == Value.type "enumerate")
   ·wp_walk using wpAny_loadPart' hl,wpAny_pyIter_tuple hL
    exact⟨_,rfl,h⟩
   ·wp_walk using wpAny_loadPart' hl,wpAny_pyIter_tuple hL
    exact⟨_,rfl,h⟩
  ·wp_walk using wpAny_loadPart' hl,wpAny_pyIter_tuple hL
   exact⟨_,rfl,h⟩
section
variable {prog:y0q} {w:World} {A:Around} {E:Value->y04->Prop} {s:y04}
theorem z3t {l:Addr} {items:Array Value} {Q:Value->y04->Prop} (hL:s.heap.IsTuple l items)
  (h:∀h',IsEnum h' (s.heap.objs.size+1) s.heap.objs.size 0 .none->h'.IsTupleIter s.heap.objs.size l 0->h'.objs.size=s.heap.objs.size+2 ->
   (∀b o,s.heap.get? b=some o->h'.get? b=some o)->Q (.ref (s.heap.objs.size+1)) { s with heap:=h' }) :
  y0u (model prog w) A (call (.type "enumerate") [.ref l]) Q E s:=by
 obtain⟨⟨c,dct,dt,sl⟩,hl,hc,n,hd⟩:=hL
 replace hc:c=.type "tuple":=hc
 replace hd:dt=.seq items n:=hd
 subst hc hd
 refine callType_new F.called_enumerate (by decide) (F.typeCall_enumerate_1 _) (F.newCall_enumerate_1 _) (fun obj=>F.args_object_init_2 obj _) F.entry_enumerate_new
  (z3s l items n dct sl) ⟨hl,?_⟩
 have hz:(s.heap.push { cls:=.type "tuple_iterator",data:=.fields #[.ref l,.int 0 0] }).objs.size=s.heap.objs.size+1:=y15 ..
 show _/\_
 rw[hz]
 have he:IsEnum ((s.heap.push { cls:=.type "tuple_iterator",data:=.fields #[.ref l,.int 0 0] }).push
   { cls:=.type "enumerate",data:=.fields #[.none,.bool false,.ref s.heap.objs.size,rawInt 0,.none,.none] }) (s.heap.objs.size+1) s.heap.objs.size 0 .none:=by
  have:=y0l (s.heap.push { cls:=.type "tuple_iterator",data:=.fields #[.ref l,.int 0 0] })
   (o:={ cls:=.type "enumerate",data:=.fields #[.none,.bool false,.ref s.heap.objs.size,rawInt 0,.none,.none] }) rfl
  rw[hz] at this;exact this
 refine⟨⟨_,he,rfl⟩,h _ he ⟨_,y03 _ (y0l _ rfl),rfl,rfl⟩ (by rw[y15,hz]) fun b o x=>y03 _ (y03 _ x)⟩
theorem z4o {it l:Addr} {i:Nat} {items} {x:Value} {Q:Value->y04->Prop} (hit:s.heap.IsTupleIter it l i)
  (hl:s.heap.IsTuple l items) (hx:items[i]?=some x)
  (hQ:∀h',h'.IsTupleIter it l (i+1)->Heap.SameBut it s.heap h'->Q x { s with heap:=h' }) :
  y0u (model prog w) A (y0t (.ref it)) Q E s:=by
 obtain⟨o,ho,hc,hd⟩:=id hit
 obtain⟨ol,hol,_,nl,hdl⟩:=hl
 unfold y0t
 refine y02 (wpAny_callSpecial?_slot (name:=Str.ofString "__next__") hit.typeIs y23
  (wpAny_call_entry y23 hit.typeIs F.entry_tuple_iterator_next ?_ (F.args_tuple_iterator_next_1 _)))
 show y0u _ _ (field (.ref it) 0 >>= _) _ _ s
 refine y02 (wpAny_field ho hd (x:=.ref l) rfl ?_)
 show y0u _ _ (if (Value.ref l == Value.none)=true then _ else _) _ _ s
 rw[if_neg (show ¬((Value.ref l == Value.none)=true) from y1y)]
 show y0u _ _ (field (.ref it) 1 >>= _) _ _ s
 refine y02 (wpAny_field ho hd (x:=.int i 0) rfl ?_)
 show y0u _ _ (seqItems? (.ref l) >>= _) _ _ s
 refine y02 (wpAny_seqItems hol hdl ?_)
 simp only[Int.toNat_natCast,hx]
 refine y02 (wpAny_setField ho hd (by simp) (y06 ⟨x,rfl,y06 (hQ _ ?_ (Heap.SameBut.update ..))⟩))
 exact⟨_,Heap.get?_update_self _ ho (Obj.isFreed_of_fields (Obj.data_mapFields hd _)),(Obj.cls_mapFields ..).trans hc,by
  rw[Obj.data_mapFields hd];simp[rawInt]⟩
theorem z34 {it l:Addr} {i:Nat} {items} {Q:Value->y04->Prop} (hh:A.handled=none)
  (hit:s.heap.IsTupleIter it l i) (hl:s.heap.IsTuple l items) (hx:items[i]?=none)
  (hE:∀h' e,Heap.ExtBut it s.heap h'->(∃o,h'.get? e=some o/\o.cls=.type "StopIteration")->E (.ref e) { s with heap:=h' }) :
  y0u (model prog w) A (y0t (.ref it)) Q E s:=by
 obtain⟨o,ho,hc,hd⟩:=id hit
 obtain⟨ol,hol,_,nl,hdl⟩:=hl
 unfold y0t
 refine y02 (wpAny_callSpecial?_slot (name:=Str.ofString "__next__") hit.typeIs y23
  (wpAny_call_entry y23 hit.typeIs F.entry_tuple_iterator_next ?_ (F.args_tuple_iterator_next_1 _)))
 show y0u _ _ (field (.ref it) 0 >>= _) _ _ s
 refine y02 (wpAny_field ho hd (x:=.ref l) rfl ?_)
 show y0u _ _ (if (Value.ref l == Value.none)=true then _ else _) _ _ s
 rw[if_neg (show ¬((Value.ref l == Value.none)=true) from y1y)]
 show y0u _ _ (field (.ref it) 1 >>= _) _ _ s
 refine y02 (wpAny_field ho hd (x:=.int i 0) rfl ?_)
 show y0u _ _ (seqItems? (.ref l) >>= _) _ _ s
 refine y02 (wpAny_seqItems hol hdl ?_)
 simp only[Int.toNat_natCast,hx]
 refine y02 (wpAny_rule (y02 (wpAny_setField ho hd (by simp) ?_)))
 show y0u _ _ (newExc (.type "StopIteration") [] >>= _) _ _ _
 refine y02 ?_
 simp only[newExc,newTuple]
 refine y02 (wpAny_newObj_type ?_ (by size_fits))
 refine y02 (m:=firstArgMember _ _) (wpAny_of_eq (a:=Value.none) (by first|rfl|(simp only[firstArgMember];rfl)) ?_)
 refine wpAny_newObj_type ?_ (by size_fits)
 simp only[raiseNew]
 refine y02 (wpAny_handled ?_)
 first|rw[show A.in1.handled=none from hh]|rw[hh]
 refine y02 (y06 (wpAny_throw ?_))
 exact hE _ _ (((Heap.SameBut.update ..).extBut.push _).push _) ⟨_,y0l _ rfl,rfl⟩
end
theorem zau {prog:y0q} {w:World} {A:Around} (hh:A.handled=none) (it l:Addr) (hne:l≠it) (items:Array Value) :
  Draws prog w A it [it,l] items.size (fun i v=>items[i]?=some v) (fun i h=>h.IsTupleIter it l i/\h.IsTuple l items) where
 live:=fun _ _ st=>let ⟨o,ho,_⟩:=st.1;⟨o,ho⟩
 frame:=fun _ _ _ st hk=>⟨st.1.at fun o e=>hk it (by simp) o e,let ⟨o,ho,r⟩:=st.2;⟨o,hk l (by simp) o ho,r⟩⟩
 item:=fun i s Q E hi st hQ=>by
  refine z4o st.1 st.2 (x:=items[i]) (by simp[hi]) fun h' hit' hs'=>?_
  exact hQ _ h' s.toks (by simp[hi]) ⟨hit',st.2.extBut hs'.extBut hne⟩ hs'
 done:=fun s Q E st hE=>z34 hh st.1 st.2 (by simp) hE
noncomputable def Ite (K:y00) (a:Addr):It :=
 ⟨fun i H=>∃xs x,SqT K H a xs/\xs[i]?=some x,fun i H x H'=>∃p v,H p=none/\x=.ref p/\H'=upd H p (.tup [.int i,v])/\∀xs,SqT K H a xs->xs[i]?=some v,fun i H=>∃xs,SqT K H a xs/\xs.length<=i⟩
theorem zdj {P:y0q} {w:World} {K:y00} {es:List Expr} {k:Nat} {pos:Pos} (a it e:Addr) (hne:e≠it) (hai:a≠it) (hae:a≠e):Turn P w K (.Tuple es k pos) (Ite K a) [e,it] e (fun i h=>(∃old,IsEnum h e it i old)/\h.IsTupleIter it a i) where
 mem:=by simp
 obj:=fun i h st b hb=>by
  obtain⟨⟨old,he⟩,o,ho,hc,hd⟩:=st
  rcases y09.mp hb with rfl|hb
  ·exact⟨_,he,fun v z=>by
    have z':Data.fields _=Data.cell v:=z
    cases z'⟩
  ·have e1:b=it:=by simpa using hb
   subst e1
   exact⟨o,ho,fun v z=>by rw[hd] at z;cases z⟩
 keep:=fun i h h' st kk=>by
  obtain⟨⟨old,he⟩,st2⟩:=st
  exact⟨⟨old,kk e (by simp) _ he⟩,st2.at fun o q=>kk it (by simp) o q⟩
 item:=by
  intro X hP hw hK hc i pins s σ H E I hf st hg
  subst hP hw hK
  obtain⟨xs,x,hq,hx⟩:=hg
  obtain⟨its,rv,p,hz⟩:=I.tuple hq
  obtain⟨u,hu,ru⟩:=rv.get hx
  obtain⟨⟨old,he⟩,hit⟩:=st
  obtain⟨f0,f1,f2,f3,f4,f5⟩:=hf e (by simp)
  obtain⟨g0,g1,g2,g3,g4,g5⟩:=hf it (by simp)
  have hi:i<its.toArray.size:=by
   rw[y0h]
   exact (y0k.mp hu).1
  have hnf:e∉[it,a]:=by
   intro z
   rcases y09.mp z with z|z
   ·exact hne z
   ·have z':e=a:=by simpa using z
    exact hae z'.symm
  refine wpAny_pyNext_enum_itemD (zau (A:=X.A.in1) (I.ok.hd hc) it a hai its.toArray) he ⟨hit,p⟩ hi hne hnf fun x' h' tk hP' ho hs' hT hsz hk=>?_
  have ex:x'=u:=by
   have:=hP'
   rw[<- Array.getElem?_toList] at this
   rw[show (its.toArray).toList=its from rfl,hu] at this
   exact (y27 this).symm
  subst ex
  refine⟨_,rfl,wpAny_letOwnedTupleGo_enum ho fun h2 he2 hs2=>?_⟩
  have helt:e<s.heap.objs.size:=y0c he
  have hilt:it<s.heap.objs.size:=by obtain⟨o,ho',_⟩:=hit;exact y0c ho'
  have k2:∀b o,b≠e->b≠it->s.heap.get? b=some o->h2.get? b=some o:=fun b o h1 h3 q=>hs2.extBut b o h1 (hk b o h1 h3 q)
  have fr:H s.heap.objs.size=none:=I.hok.fresh (y0o _)
  have hT2:h2.get? s.heap.objs.size=some { cls:=.type "tuple",data:=.seq #[.int i tk,x'] }:=hs2.extBut _ _ (y14 helt) hT
  have nH:∀b o,H b=some o->b≠e/\b≠it:=fun b o q=>⟨fun z=>(by rw[z,f0] at q;cases q),fun z=>(by rw[z,g0] at q;cases q)⟩
  have hok2:HOk X.prog X.w (upd H s.heap.objs.size (.tup [.int i,x])) h2:=by
   intro b o q
   by_cases hb:b=s.heap.objs.size
   ·subst hb
    rw[z05] at q
    cases q
    exact⟨by show 2<=y0j;decide,[.int i tk,x'],.cons ⟨tk,rfl⟩ (.cons ru .nil),⟨_,hT2,rfl,_,rfl⟩⟩
   ·rw[z04 hb] at q
    refine (I.hok b o q).stay (fun c v hc' q'=>k2 c v ?_ ?_ q') (fun c q'=>?_) fun c ys q'=>?_
    ·rcases hc' with rfl|hc'
     ·exact (nH _ _ q).1
     ·exact (nH _ _ hc').1
    ·rcases hc' with rfl|hc'
     ·exact (nH _ _ q).2
     ·exact (nH _ _ hc').2
    ·rw[z04 (z0d q' fr)]
     exact q'
    ·rw[z04 (z0d q' fr)]
     exact q'
  have I2:L2.Inv X pins σ (upd H s.heap.objs.size (.tup [.int i,x])) { s with heap:=h2,toks:=tk+1 }:=by
   refine I.step (g':=s.gens) (d':=s.drawn) (ch:=[e,it]) (fun b hb=>?_) (fun b o _ _ hc' q _=>k2 b o (fun z=>hc' (by simp[z])) (fun z=>hc' (by simp[z])) q) (fun b o _ _ hc' q _=>⟨o.slots,k2 b o (fun z=>hc' (by simp[z])) (fun z=>hc' (by simp[z])) q⟩) (fun b o _ q n=>?_)
    (fun b o hc' q=>⟨o,k2 b o (fun z=>hc' (by simp[z])) (fun z=>hc' (by simp[z])) q⟩) (fun b ys q=>by rw[z04 (z0d q fr)];exact q) (fun b o u q=>by rw[z04 (z0d q fr)];exact q) (fun b ps q=>⟨#[],by rw[z04 (z0d q fr),q];simp⟩) (fun m hm=>?_) hok2 I.bare
   ·rcases y09.mp hb with rfl|hb
    ·exact⟨f3,f1,f4,f5⟩
    ·have:b=it:=by simpa using hb
     subst this
     exact⟨g3,g1,g4,g5⟩
   ·rw[z04 (y0y (y0c q))]
    exact n
   ·obtain⟨o,es',ep,ho',r⟩:=hm
    exact⟨o,es',ep,k2 _ o (Ne.symm f1) (Ne.symm g1) ho',r⟩
  refine⟨.ref s.heap.objs.size,_,I2,rfl,⟨s.heap.objs.size,x,fr,rfl,rfl,fun ys hy=>by rw[I.tuple_inj hy hq];exact hx⟩,⟨⟨_,by simpa using he2⟩,hs'.1.at fun o q=>(hs2.2 it hne.symm).trans q⟩,fun b hb=>?_⟩
  rcases y09.mp hb with rfl|hb
  ·rw[z04 (y0y helt)]
   exact f0
  ·have:b=it:=by simpa using hb
   subst this
   rw[z04 (y0y hilt)]
   exact g0
 done:=by
  intro X hP hw hK hc i pins s σ H E I hf st hg
  subst hP hw hK
  obtain⟨xs,hq,hx⟩:=hg
  obtain⟨its,rv,p,hz⟩:=I.tuple hq
  obtain⟨⟨old,he⟩,hit⟩:=st
  obtain⟨g0,g1,g2,g3,g4,g5⟩:=hf it (by simp)
  have hT:s.TypeIs (.ref e) "enumerate":=⟨_,he,rfl⟩
  have hl:=rv.length
  unfold pyNext
  refine y02 (wpAny_attempt (wpAny_callSpecial?_slot (name:=Str.ofString "__next__") hT F.slot_enumerate_next
   (wpAny_call_entry F.slot_enumerate_next hT F.entry_enumerate_next ?_ (F.args_enumerate_next_1 _))))
  show y0u _ _ (field (.ref e) 2 >>= _) _ _ _
  refine y02 (wpAny_field he rfl (x:=.ref it) rfl ?_)
  refine y02 (z34 (I.ok.hd hc) hit (show s.heap.IsTuple a its.toArray from p) (by simp;omega) fun h' x he' hx'=>?_)
  obtain⟨o,ho,hc'⟩:=hx'
  refine y02 (wpAny_isInstance (T:="StopIteration") (b:=true) ⟨o,ho,hc'⟩ isSubtype_stop ?_)
  exact y06 ⟨rfl,I.turned (t':=s.toks) (fun b o hb q=>he' b o hb q) g0 g1 g3 g4 g5⟩
 self:=fun _ _ _ _ _ st h=>by
  obtain⟨⟨old,he⟩,_⟩:=st
  exact wpAny_pyIter_enum he h
def iEn (K:y00) (ta:TA):TI:=fun σ H R=>ta σ H fun vs H1=>∃a xs,vs=[.ref a]/\SqT K H1 a xs/\R (Ite K a) H1
section
variable {X:Cx} {es:List Expr} {k:Nat} {p pos p2:Pos} {a:Expr} {f:Fe}
theorem zkg {ta:TA} (hg:Gl X "enumerate") (hm:X.mg "enumerate"=none) (ha:PA X [a] ta) (hs:y0a [a] X.env=[(false,eval a X.env)]:=by rfl):PI X (.Tuple es k p2) (.Call (.Name "enumerate" p) [a] [] pos) (iEn X.K ta):=by
 intro pins s σ H R I h
 refine Call_ (z52 I hg hm PyProof.Rows.boot_enumerate (y1n (thn (ha pos pins s σ H _ I h) fun us s1 ⟨vs,H1,I1,r1,q1⟩=>?_) hs rfl))
 obtain⟨a,xs,rfl,hq,q⟩:=q1
 cases r1 with
 | cons r rr =>
  cases rr
  cases r
  obtain⟨its,rv,pl,hz⟩:=I1.tuple hq
  have hal:a<s1.heap.objs.size:=by obtain⟨o,ho,_⟩:=pl;exact y0c ho
  refine z3t (show s1.heap.IsTuple a its.toArray from pl) fun h' he hit hsz hk=>wpAny_pyIter_enum he ?_
  refine⟨s1.heap.objs.size+1,[s1.heap.objs.size+1,s1.heap.objs.size],_,_,H1,rfl,I1.kept (t':=s1.toks) hk,zdj a s1.heap.objs.size (s1.heap.objs.size+1) (Nat.succ_ne_self _) (y0y hal) (y0y (Nat.lt_succ_of_lt hal)),⟨⟨_,he⟩,hit⟩,fun b hb=>?_,q⟩
  have hb':s1.heap.objs.size<=b:=by
   rcases y09.mp hb with rfl|hb
   ·exact Nat.le_succ _
   ·have:b=s1.heap.objs.size:=by simpa using hb
    rw[this]
    exact y0o _
  exact I1.fpOk hb' (I1.hok.fresh hb')
theorem zfl {K:y00} {a:Addr} {F1:Addr->Prop} {H1:Hp} {ts:List T} {vs:List V} (hr:SqT K H1 a vs) (q:RepL K F1 H1 ts vs):ItOk K (Ite K a) F1 H1 (enum ts) where
 go:=fun i F H t kp d e=>by
  have hi:=(y0k.mp e).1
  simp only[enum,y12,List.length_zipIdx] at hi
  obtain⟨v,h1,_⟩:=q.get (y0v hi)
  exact⟨vs,v,kp.tup _ _ hr,h1⟩
 yld:=fun i F H t x H' kp d e y=>by
  obtain⟨p,v,hp,rfl,rfl,y⟩:=y
  have hi:=(y0k.mp e).1
  simp only[enum,y12,List.length_zipIdx] at hi
  obtain⟨v',h1,h2⟩:=(q.kp kp).get (y0v hi)
  have h3:=y vs (kp.tup _ _ hr)
  rw[h1] at h3
  cases h3
  have x1:=Ext.laid (o:=.tup [.int i,v]) d hp
  refine⟨F,x1,?_⟩
  have et:t=.tuple [.int i,ts[i]]:=by
   simp only[enum,y13,List.getElem?_zipIdx,y0v hi] at e
   simpa using e.symm
  subst et
  simp only[Rep]
  exact⟨p,_,rfl,SqT.of z05,RepL.cons (by simp[Rep]) (RepL.cons (h2.ext x1) RepL.nil)⟩
 stop:=fun i F H kp hl=>⟨vs,kp.tup _ _ hr,by
  simp only[enum,y12,List.length_zipIdx] at hl
  rw[<- q.length]
  exact hl⟩
theorem zjk (hm:X.mg "enumerate"=none) (ha:PEv X a f) (hg:Gl X "enumerate":=by rfl) (hs:y0a [a] X.env=[(false,eval a X.env)]:=by rfl) (hs2:y0a [a] X.env=(false,eval a X.env)::y0a [] X.env:=by rfl) :
  PIt X (.Tuple es k p2) (.Call (.Name "enumerate" p) [a] [] pos) (z1p (z4q f)):=zcj (zkg hg hm (z0c ha z1a hs2) hs) fun σ H R ⟨F₀,H₀,O,F,ε,ts,r,e,k⟩=>by
 simp only[z1p,z4q,y07,y01] at e
 obtain⟨us,⟨t,et,e⟩,rfl⟩:=e
 split at e
 ·cases e
  refine⟨F₀,H₀,O,F,ε,_,r,et,fun v F' H' x q=>?_⟩
  simp only[Rep] at q
  obtain⟨a,vs,rfl,hs,hr⟩:=q
  exact⟨a,vs,rfl,hs,k _ F' H' x (zfl hs hr)⟩
 ·cases e
end
end
section
variable [Tbl]
structure Cl (P:y0q) (w:World) (K:y00) (mg:Str->Option Value) (base:Heap) (x:Str) (k n:Nat) (d:List T->Option T):Prop where
 ex:∃fa fd ps,FnOk P w K mg base CX0 k fa fd ps (spT K n d)/\mg x=some (.ref fa)/\y08 K (.ref fa)=true/\z1k K fd ps []
section
variable {P:y0q} {w:World} {K:y00} {mg:Str->Option Value} {base:Heap} {x:Str} {k n:Nat} {d:List T->Option T}
theorem Cl.mono {j:Nat} (c:Cl P w K mg base x j n d) (h:j<=k):Cl P w K mg base x k n d:=by
 obtain⟨fa,fd,ps,F,r⟩:=c.ex
 exact⟨fa,fd,ps,F.mono h,r⟩
theorem Cl.mk' {fa:Addr} {fd:y0b} {ps:List Str} (F:FnOk P w K mg base CX0 k fa fd ps (spT K n d)) (m:mg x=some (.ref fa)) (kp:y08 K (.ref fa)=true) (b:z1k K fd ps []):Cl P w K mg base x k n d:=⟨fa,fd,ps,F,m,kp,b⟩
end
section
variable {X:Cx} {k n:Nat} {d:List T->Option T} {x:Str} {p pos:Pos} {e:Expr} {es:List Expr} {fs:List Fe}
theorem z0x (C:Cl X.prog X.w X.K X.mg X.base x k n d) (hr:Room k X.A) (ha:PAv X (e::es) fs) (hg:Gl X x:=by rfl) (hn:fs.length=n:=by rfl) (hdb:(x == ("__debug__":Str))=false:=by decide)
  (he:y0a (e::es) X.env=(false,eval e X.env)::y0a es X.env:=by rfl) (hpl:(backTo pos (y0a es X.env)).any (·.1)=false:=by rfl):PEv X (.Call (.Name x p) (e::es) [] pos) (opN d fs):=by
 obtain⟨fa,fd,ps,F,m,kp,b⟩:=C.ex
 exact zmb F hr hg m kp b ha hn hdb he hpl
theorem q_gI {i:Int} {t:Tok} (hm:X.mg x=some (.int i t)) (hg:Gl X x:=by rfl) (hd:(x == ("__debug__":Str))=false:=by decide):PEv X (.Name x pos) (cst (.int i)):=zec (v:=.int i) (z5p (v:=.int i) hg hm ⟨t,rfl⟩ hd) fun _ _=>by simp[Rep]
noncomputable def znn (scope sc:Scope) (N:List Str) (caps:List (Nat×Str)):Bool :=
 decide (scope.kind=.function) && scope.names.all (fun y=>(decide (y.2≠.local) || decide (scope.names.lookup y.1=some .local)) && decide (y.2≠.cell) && (decide (y.2≠.free) || decide (sc.names.lookup y.1=some .cell) || decide (sc.names.lookup y.1=some .free)))
  && caps.all (fun q=>decide (N[q.1]?=some q.2) && decide (scope.names.lookup q.2=some .free)) && decide ((caps.map (·.1)).Nodup)
theorem zce {scope sc:Scope} {own:List Str} {caps:List (Nat×Str)} (N:List Str) (hsc:X.env.scope=sc) (hN:X.N=N) (hc:X.calm=true) (h:znn scope sc N caps=true):CompOk X scope own caps:=by
 simp only[znn,y19,List.all_eq_true,decide_eq_true_eq,Bool.or_eq_true] at h
 obtain⟨⟨⟨h1,h2⟩,h3⟩,h4⟩:=h
 refine⟨h1,fun y hy hl=>?_,fun y hy=>(h2 y hy).1.2,fun y hy hf=>?_,fun q hq=>by rw[hN];exact h3 q hq,h4,hc⟩
 ·rcases (h2 y hy).1.1 with z|z
  ·exact absurd hl z
  ·exact z
 ·have hk:X.env.kindOf y.1=sc.names.lookup y.1:=by rw[<- hsc];rfl
  rw[hk]
  rcases (h2 y hy).2 with (z|z)|z
  ·exact absurd hf z
  ·exact .inl z
  ·exact .inr z
end
theorem z6n {P:y0q} {w:World} {K:y00} {mg:Str->Option Value} {base:Heap} {x:Str} {st:Stmt} {f:Addr} {fd:y0b} {N ps:List Str} {k:Nat} {b:Fs} (F:Fun K x x st f fd) (S:FnScope N ps (z00 st)) (bd:z1k K fd ps []) (m:mg x=some (.ref f))
  (hb:∀(cdv:Value) (A:Around) (outer:List Env) (s:y04) (H:Hp) (E:XK),Room k (A.deeper (envOfC x (z00 st) s.heap.objs.size f cdv)) ->
   PBt (cxOf CX0 P w K mg base N x (z00 st) f cdv A outer s H E).nox (z08 st) b):Cl P w K mg base x (k+1) ps.length (runF b N.length):=.mk' (znc F S hb) m F.kp bd
end
end D
end
section
namespace L2
open PySem PySem.Spec PyProof.Rows
section
variable {κ:Type} [DecidableEq κ]
def valV (kvs:List (κ×V)) (k:κ):Option V:=(kvs.find? fun kv=>decide (kv.1=k)).map (·.2)
def putK (kvs:List (κ×V)) (k:κ) (v:V):List (κ×V) :=
 if (kvs.any fun kv=>decide (kv.1=k))=true then kvs.map (fun kv=>if kv.1=k then (kv.1,v) else kv) else kvs++[(k,v)]
theorem z7d {p:κ×V} {r:List (κ×V)} {k:κ} (e:p.1=k):valV (p::r) k=some p.2:=by simp[valV,y1m,e]
theorem z7e {p:κ×V} {r:List (κ×V)} {k:κ} (e:¬p.1=k):valV (p::r) k=valV r k:=by simp[valV,y1m,e]
theorem zb6 (k:κ):∀kvs:List (κ×V),(kvs.any fun kv=>decide (kv.1=k))=(valV kvs k).isSome
 | []=>rfl
 | p::r=>by
  rw[List.any_cons]
  by_cases e:p.1=k
  ·simp only[z7d e,decide_eq_true e,Bool.true_or,Option.isSome_some]
  ·rw[z7e e,decide_eq_false e,Bool.false_or];exact zb6 k r
theorem z46 (kvs:List (κ×V)) (k:κ) (v:V):(putK kvs k v).length<=kvs.length+1:=by
 unfold putK
 split
 ·rw[y12];omega
 ·rw[y1x,y0w,y28];omega
theorem RelO.isSome_eq {o:Option V} {u:Option Value} (r:RelO o u):o.isSome=u.isSome:=by
 cases o with
 | none=>cases u with
  | none=>rfl
  | some _=>exact (show False from r).elim
 | some _=>cases u with
  | none=>exact (show False from r).elim
  | some _=>rfl
theorem KV.val {kvs:List (κ×V)} {vs:List (κ×Value)} (r:KV kvs vs) (k:κ):RelO (valV kvs k) (valueAt vs k):=by
 unfold KV at r
 induction r with
 | nil=>exact True.intro
 | @cons p q ps qs h t ih =>
  obtain⟨h1,h2⟩:=h
  by_cases e:p.1=k
  ·have e':q.1=k:=h1.symm.trans e
   have b:valueAt (q::qs) k=some q.2:=by simp[valueAt,y1m,e']
   rw[z7d e,b];exact h2
  ·have e':¬q.1=k:=fun z=>e (h1.trans z)
   have b:valueAt (q::qs) k=valueAt qs k:=by simp[valueAt,y1m,e']
   rw[z7e e,b];exact ih
theorem KV.any {kvs:List (κ×V)} {vs:List (κ×Value)} (r:KV kvs vs) (k:κ):(kvs.any fun kv=>decide (kv.1=k))=vs.any fun kv=>decide (kv.1=k):=by
 unfold KV at r
 induction r with
 | nil=>rfl
 | cons h t ih=>rw[List.any_cons,List.any_cons,ih,h.1]
theorem KV.repl {kvs:List (κ×V)} {vs:List (κ×Value)} (r:KV kvs vs) (k:κ) {y:V} {u:Value} (ry:RelV y u) :
  KV (kvs.map fun kv=>if kv.1=k then (kv.1,y) else kv) (vs.map fun kv=>if kv.1=k then (kv.1,u) else kv):=by
 unfold KV at r ⊢
 induction r with
 | nil=>exact .nil
 | @cons p q ps qs h t ih =>
  rw[y0d,y0d]
  refine .cons ?_ ih
  obtain⟨h1,h2⟩:=h
  by_cases e:p.1=k
  ·rw[if_pos e,if_pos (h1.symm.trans e)];exact⟨h1,ry⟩
  ·rw[if_neg e,if_neg (fun z=>e (h1.trans z))];exact⟨h1,h2⟩
theorem KV.put {kvs:List (κ×V)} {vs:List (κ×Value)} (r:KV kvs vs) (k:κ) {y:V} {u:Value} (ry:RelV y u):KV (putK kvs k y) (stored vs k u):=by
 unfold putK stored
 rw[r.any k]
 by_cases e:(vs.any fun kv=>decide (kv.1=k))=true
 ·rw[if_pos e,if_pos e];exact r.repl k ry
 ·rw[if_neg e,if_neg e];exact Paired.snoc r ⟨rfl,ry⟩
theorem KV.length {kvs:List (κ×V)} {vs:List (κ×Value)} (r:KV kvs vs):kvs.length=vs.length:=Paired.length r
end
theorem zib {P:y0q} {w:World} {k:Key} {u:Value} (r:RelV (kV k) u):(z0j P w).is k u=true:=by
 cases k with
 | inl i=>obtain⟨t,e⟩:=(show ∃t,u=Value.int i t from r);subst e;exact zak P w i t
 | inr x=>obtain⟨t,e⟩:=(show ∃t,u=Value.str x t from r);subst e;exact zaj P w x t
theorem z99 {P:y0q} {w:World}:∀{ks:List Key} {us:List Value},Vals (ks.map kV) us->ItemsAre (z0j P w) ks us
 | [],_,r=>by rw[y17] at r;cases r;exact .nil
 | k::ks,_,r=>by
  rw[y0d] at r
  cases r with
  | cons h t=>exact .cons (zib h) (z99 t)
abbrev KT (H:Hp):List (List Key×V)->List (List Key×Addr×Value)->Prop:=Paired fun p q=>p.1=q.1/\H q.2.1=some (.tup (p.1.map kV))/\RelV p.2 q.2.2
theorem KT.val {H:Hp} {kvs:List (List Key×V)} {xs:List (List Key×Addr×Value)} (r:KT H kvs xs) (k:List Key):RelO (valV kvs k) ((atKey xs k).map (·.2)):=by
 induction r with
 | nil=>exact True.intro
 | @cons p q ps qs h t ih =>
  obtain⟨h1,_,h2⟩:=h
  by_cases e:p.1=k
  ·have e':q.1=k:=h1.symm.trans e
   have b:atKey (q::qs) k=some q.2:=by simp[atKey,y1m,e']
   rw[z7d e,b];exact h2
  ·have e':¬q.1=k:=fun z=>e (h1.trans z)
   have b:atKey (q::qs) k=atKey qs k:=by simp[atKey,y1m,e']
   rw[z7e e,b];exact ih
theorem KT.repl {H:Hp} {kvs:List (List Key×V)} {xs:List (List Key×Addr×Value)} (r:KT H kvs xs) (k:List Key) {y:V} {u:Value} (ry:RelV y u) :
  KT H (kvs.map fun kv=>if kv.1=k then (kv.1,y) else kv) (xs.map (putAt k u)):=by
 induction r with
 | nil=>exact .nil
 | @cons p q ps qs h t ih =>
  rw[y0d,y0d]
  refine .cons ?_ ih
  obtain⟨h1,h2,h3⟩:=h
  unfold putAt
  by_cases e:p.1=k
  ·rw[if_pos e,if_pos (h1.symm.trans e)];exact⟨h1,h2,ry⟩
  ·rw[if_neg e,if_neg (fun z=>e (h1.trans z))];exact⟨h1,h2,h3⟩
theorem KT.put {H:Hp} {kvs:List (List Key×V)} {xs:List (List Key×Addr×Value)} (r:KT H kvs xs) (k:List Key) {b:Addr} {y:V} {u:Value} (hb:H b=some (.tup (k.map kV))) (ry:RelV y u) :
  KT H (putK kvs k y) (storedH xs k b u):=by
 have e:(kvs.any fun kv=>decide (kv.1=k))=(atKey xs k).isSome:=by
  rw[zb6,(r.val k).isSome_eq,Option.isSome_map]
 unfold putK storedH
 rw[e]
 by_cases q:(atKey xs k).isSome=true
 ·rw[if_pos q,if_pos q];exact r.repl k ry
 ·rw[if_neg q,if_neg q];exact Paired.snoc r ⟨rfl,hb,ry⟩
theorem KT.keeps {H H':Hp} {kvs:List (List Key×V)} {xs:List (List Key×Addr×Value)} (r:KT H kvs xs) (ht:∀b ys,H b=some (.tup ys)->H' b=some (.tup ys)):KT H' kvs xs :=
 Paired.mapP r fun _ _ z=>⟨z.1,ht _ _ z.2.1,z.2.2⟩
section
variable {P:y0q} {w:World} {H:Hp} {h:Heap} {a:Addr}
theorem zm5 {u:HO} (ok:HOk P w H h) (e:Rd H a u):z26 P w H h a u:=e.ok ok
theorem zni {kvs:List (Key×V)} (ok:HOk P w H h) (e:Rd H a (.dK kvs)):kvs.length<=y0j/\(a == sysModules)=false/\∃vs,KV kvs vs/\h.DictOf (z0j P w) a vs :=
 show z26 P w H h a (.dK kvs) from zm5 ok e
theorem znj {kvs:List (Key×V)} (ok:HOk P w H h) (e:H a=some (.dK kvs)):kvs.length<=y0j/\(a == sysModules)=false/\∃vs,KV kvs vs/\h.DictOf (z0j P w) a vs:=zni ok (.inl e)
theorem zff {ks:List Key} (ok:HOk P w H h) (e:H a=some (.tup (ks.map kV))):(tupleKind (z0j P w)).is h ks a:=by
 obtain⟨_,its,r,o,h1,h2,n,h3⟩:=(show z26 P w H h a (.tup (ks.map kV)) from ok a _ e)
 exact⟨o,its.toArray,n,h1,h2,h3,by simpa using z99 r⟩
theorem znh {kvs:List (List Key×V)} (ok:HOk P w H h) (e:Rd H a (.dT kvs)):kvs.length<=y0j/\(a == sysModules)=false /\
  ∃xs,KT H kvs xs/\h.DictOfH (tupleKind (z0j P w)) a xs:=by
 obtain⟨z,y,xs,r,o,es,ep,h1,h2,h3,h4,h5⟩:=(show z26 P w H h a (.dT kvs) from zm5 ok e)
 refine⟨z,y,xs,r,o,es,ep,h1,h2,h3,h4,fun x hx=>?_,h5⟩
 have all:∀{l:List (List Key×V)} {m:List (List Key×Addr×Value)},KT H l m->∀x∈m,(tupleKind (z0j P w)).is h x.1 x.2.1:=by
  intro l m q
  induction q with
  | nil=>intro x hx;exact nomatch hx
  | @cons p q ps qs hq t ih =>
   intro x hx
   rcases y09.mp hx with e|hx
   ·subst e
    exact zff ok (by rw[<- hq.1];exact hq.2.1)
   ·exact ih x hx
 exact all r x hx
theorem zou {kvs:List (List Key×V)} (ok:HOk P w H h) (e:H a=some (.dT kvs)):kvs.length<=y0j/\(a == sysModules)=false /\
  ∃xs,KT H kvs xs/\h.DictOfH (tupleKind (z0j P w)) a xs:=znh ok (.inl e)
end
noncomputable def DGet (H:Hp) (a:Addr) (y:V) (r:Option V):Prop :=
 (∃kvs k,Rd H a (.dK kvs)/\y=kV k/\r=valV kvs k)\/∃kvs k b,Rd H a (.dT kvs)/\y=.ref b/\H b=some (.tup (k.map kV))/\r=valV kvs k
noncomputable def DPut (H:Hp) (a:Addr) (y v:V) (H':Hp):Prop :=
 (∃kvs k,H a=some (.dK kvs)/\y=kV k/\kvs.length<y0j/\H'=upd H a (.dK (putK kvs k v))) \/
 ∃kvs k b,H a=some (.dT kvs)/\y=.ref b/\H b=some (.tup (k.map kV))/\kvs.length<y0j/\H'=upd H a (.dT (putK kvs k v))
theorem DGet.k {H:Hp} {a:Addr} {kvs:List (Key×V)} {k:Key} (e:H a=some (.dK kvs)):DGet H a (kV k) (valV kvs k):=.inl ⟨kvs,k,.inl e,rfl,rfl⟩
theorem DPut.k {H:Hp} {a:Addr} {kvs:List (Key×V)} {k:Key} {v:V} (e:H a=some (.dK kvs)) (hl:kvs.length<y0j):DPut H a (kV k) v (upd H a (.dK (putK kvs k v))):=.inl ⟨kvs,k,e,rfl,hl,rfl⟩
section
variable {X:Cx} {pins:List (Addr×Obj)} {σ:St} {H:Hp} {s:y04} {a:Addr} {y v:V} {u r:Value} {o:Option V} {A:Around} {E:Value->y04->Prop}
theorem Inv.big (I:Inv X pins σ H s):sysModules<s.heap.objs.size:=by
 have h:y0n<s.heap.objs.size:=(I.mod.glob.keeps I.bk).lt
 exact Nat.lt_trans (by decide) h
theorem zld {Q:Value->y04->Prop} (hu:A.units+1<cLine) (I:Inv X pins σ H s) (g:DGet H a y o) (ry:RelV y u) (h:∀s',Inv X pins σ H s'->Q (.bool (!o.isSome)) s') :
  y0u (model X.prog X.w) A (compareOp .NotIn u (.ref a)) Q E s:=by
 rcases g with ⟨kvs,k,e,ey,l⟩|⟨kvs,k,b,e,ey,eb,l⟩
 ·subst ey
  obtain⟨z,hd,vs,rel,dd⟩:=zni I.hok e
  refine wpAny_notIn_of (zib ry) hd dd.mapOf ?_
  rw[<- (rel.val k).isSome_eq,<- l]
  exact h _ (I.tok _)
 ·subst ey
  cases (show u=Value.ref b from ry)
  obtain⟨z,hd,xs,rel,dd⟩:=znh I.hok e
  refine wpAny_notIn_heap (tupleKind_room_in1 hu) (zff I.hok eb) hd dd ?_
  have q:=(rel.val k).isSome_eq
  rw[Option.isSome_map] at q
  rw[<- q,<- l]
  exact h _ (I.tok _)
theorem zav {h':Heap} {t':Nat} {ob:HO} (I:Inv X pins σ H s) (mu:Mut (H a)) (hs:Heap.SameBut a s.heap h') (he:∃q,h'.get? a=some q) (new:z26 X.prog X.w (upd H a ob) h' a ob) :
  Inv X pins σ (upd H a ob) { s with heap:=h',toks:=t' } :=
 I.write (x:=a) (e:=a) mu (.inl rfl) (fun b q hb z=>(hs.2 b hb).trans z) he new
theorem zjn {P:y0q} {w:World} {H':Hp} {h':Heap} {kvs:List (Key×V)} {vs:List (Key×Value)} (z:kvs.length<=y0j) (hd:(a == sysModules)=false) (rel:KV kvs vs) (dd:h'.DictOf (z0j P w) a vs) :
  z26 P w H' h' a (.dK kvs):=⟨z,hd,vs,rel,dd⟩
theorem zg8 {H':Hp} {Q:Unit->y04->Prop} (hu:A.units+1<cLine) (I:Inv X pins σ H s) (g:DPut H a y v H') (ry:RelV y u) (rv:RelV v r) (h:∀s',Inv X pins σ H' s'->Q () s') :
  y0u (model X.prog X.w) A (setItem (.ref a) u r) Q E s:=by
 rcases g with ⟨kvs,k,e,ey,l,eH⟩|⟨kvs,k,b,e,ey,eb,l,eH⟩
 ·subst ey eH
  obtain⟨z,hd,vs,rel,dd⟩:=znj I.hok e
  have hz:vs.length<=y0j:=by rw[<- rel.length];exact z
  have hl:(putK kvs k v).length<=y0j:=by have:=z46 kvs k v;omega
  refine wpAny_setItem_pairs (hsz:=hz) (zib ry) dd fun h' dd' hs=>h _ ?_
  have he:∃q,h'.get? a=some q:=let ⟨q,_,_,hq,_⟩:=dd';⟨q,hq⟩
  exact zav I (by rw[e];exact True.intro) hs he (zjn hl hd (rel.put k rv) dd')
 ·subst ey eH
  cases (show u=Value.ref b from ry)
  obtain⟨z,hd,xs,rel,dd⟩:=zou I.hok e
  have hz:xs.length<=y0j:=by rw[<- Paired.length rel];exact z
  have hl:(putK kvs k v).length<=y0j:=by have:=z46 kvs k v;omega
  refine wpAny_setItem_heap (hsz:=hz) (tupleKind_room_in1 hu) (zff I.hok eb) dd fun h' dd' hs=>h _ ?_
  obtain⟨q,es,ep,hq,h2,h3,h4,_,h5⟩:=dd'
  refine zav I (by rw[e];exact True.intro) hs ⟨q,hq⟩ ⟨hl,hd,_,(rel.put k eb rv).keeps fun c ys ec=>?_,q,es,ep,hq,h2,h3,h4,h5⟩
  rw[z04 (ne_of ec e (fun z=>nomatch z))]
  exact ec
end
section
variable {X:Cx} {pins:List (Addr×Obj)} {σ:St} {H:Hp} {s:y04} {a:Addr} {kvs:List (Key×V)} {k:Key} {u:Value} {A:Around} {E:Value->y04->Prop}
end
def zdp (ty td:TE):TE:=fun σ H Q=>ty σ H fun y H1=>td σ H1 fun x H2=>∃a o,x=.ref a/\DGet H2 a y o/\Q (.bl (!o.isSome)) H2
def zoc (td ty tv:TE):TS:=fun D σ H=>tv σ H fun v H1=>td σ H1 fun x H2=>ty σ H2 fun y H3=>∃a H4,x=.ref a/\DPut H3 a y v H4/\D.nx σ H4
section
variable {X:Cx} {o i e value:Expr} {pos pos' tpos:Pos} {td ty tv:TE}
theorem zeo (hu:X.A.units+1<cLine) (hi:PE X i ty) (ho:PE X o td):PC X .NotIn i o (zdp ty td):=by
 intro pins s σ H Q I h
 refine thn (hi pins s σ H _ I h) fun iv s1 ⟨y,H1,I1,ry,q1⟩=>thn (ho pins s1 σ H1 _ I1 q1) fun u s2 ⟨x,H2,I2,rx,a,ov,ex,g,q2⟩=>?_
 subst ex
 obtain rfl:u=Value.ref a:=rx
 exact zld hu I2 g ry fun s3 I3=>⟨.bl (!ov.isSome),H2,I3,rfl,q2⟩
theorem zke (hu:X.A.units+1<cLine) (ho:PE X o td) (hi:PE X i ty) (hv:PE X value tv) (hs:swapsWith value (some (.Subscript o i pos')) pos.line X.env=pure false) :
  PS X (.Assign [.Subscript o i pos'] value pos) (zoc td ty tv):=by
 intro pins s σ H D I h
 refine wpAny_Assign_Subscript (thn (hv pins s σ H _ I h) fun r s1 ⟨v,H1,I1,rv,q1⟩=>thn (ho pins s1 σ H1 _ I1 q1) fun u s2 ⟨x,H2,I2,rx,q2⟩=>thn (hi pins s2 σ H2 _ I2 q2) fun iv s3 ⟨y,H3,I3,ry,a,H4,ex,g,q3⟩=>?_) hs
 subst ex
 obtain rfl:u=Value.ref a:=rx
 exact zg8 hu I3 g ry rv fun s4 I4=>⟨σ,H4,I4,q3⟩
end
theorem zir {P:y0q} {w:World} {H:Hp} (h:Heap) (hb:sysModules<h.objs.size):z26 P w H (h.push { cls:=.type "dict",data:=.dict #[] }) h.objs.size (.dK []) :=
 ⟨y1z _,beq_eq_false_iff_ne.mpr (Ne.symm (y0y hb)),[],.nil,Heap.DictOf.new h⟩
section
variable {X:Cx} {pos:Pos}
end
noncomputable def zdn:List (TE×TE)->St->Hp->(List (V×V)->Hp->Prop)->Prop
  | [],_,H,Q=>Q [] H
  | (tk,tv)::r,σ,H,Q=>tk σ H fun x H1=>tv σ H1 fun y H2=>zdn r σ H2 fun ps H3=>Q ((x,y)::ps) H3
abbrev VV:List (V×V)->List (Value×Value)->Prop:=Paired fun p q=>RelV p.1 q.1/\RelV p.2 q.2
noncomputable def PPs (X:Cx) (pos:Pos) (keys:List (Option Expr)) (values:List Expr) (trs:List (TE×TE)):Prop :=
 ∀(pins:List (Addr×Obj)) (s:y04) (σ:St) (H:Hp) (Q:List (V×V)->Hp->Prop),Inv X pins σ H s->zdn trs σ H Q ->
  y0u (model X.prog X.w) X.A (evalPairs (pairTrees keys values X.env pos)) (fun vs s'=>∃ps H',Inv X pins σ H' s'/\VV ps vs/\Q ps H') X.xe s
theorem zkf {X:Cx} {pos:Pos}:PPs X pos [] [] []:=fun pins s σ H Q I h=>pairTrees_nil_walk ⟨[],H,I,.nil,h⟩
theorem zhi {X:Cx} {pos:Pos} {k v:Expr} {ks:List (Option Expr)} {vs:List Expr} {tk tv:TE} {trs:List (TE×TE)} (hk:PE X k tk) (hv:PE X v tv) (hr:PPs X pos ks vs trs) :
  PPs X pos (some k::ks) (v::vs) ((tk,tv)::trs):=fun pins s σ H Q I h =>
 pairTrees_cons_walk (thn (hk pins s σ H _ I h) fun u s1 ⟨x,H1,I1,rx,q1⟩=>thn (hv pins s1 σ H1 _ I1 q1) fun w2 s2 ⟨y,H2,I2,ry,q2⟩ =>
  thn (hr pins s2 σ H2 _ I2 q2) fun ws s3 ⟨ps,H3,I3,rel,q3⟩=>⟨(x,y)::ps,H3,I3,.cons ⟨rx,ry⟩ rel,q3⟩)
def z5v (kvs more:List (Key×V)):List (Key×V):=more.foldl (fun acc kv=>putK acc kv.1 kv.2) kvs
theorem KV.merge:∀{more:List (Key×V)} {rs:List (Key×Value)} {kvs:List (Key×V)} {vs:List (Key×Value)},KV more rs->KV kvs vs->KV (z5v kvs more) (merged vs rs):=by
 intro more rs kvs vs r
 unfold KV at r
 induction r generalizing kvs vs with
 | nil=>intro q;exact q
 | @cons p q ps qs h t ih =>
  intro r0
  have e:KV (putK kvs p.1 p.2) (stored vs q.1 q.2):=by
   have:=r0.put p.1 h.2
   rw[<- h.1];exact this
  exact ih e
theorem z4f:∀(more kvs:List (Key×V)),(z5v kvs more).length<=kvs.length+more.length
 | [],kvs=>by show kvs.length<=kvs.length+0;omega
 | p::r,kvs=>by
  have h1:=z4f r (putK kvs p.1 p.2)
  have h2:=z46 kvs p.1 p.2
  show (z5v (putK kvs p.1 p.2) r).length<=_
  rw[y0w];omega
theorem z7a {P:y0q} {w:World}:∀{kvs:List (Key×V)} {ws:List (Value×Value)},VV (kvs.map fun kv=>(kV kv.1,kv.2)) ws->∃rs,Carries (z0j P w) ws rs/\KV kvs rs
 | [],_,r=>by rw[y17] at r;cases r;exact⟨[],True.intro,.nil⟩
 | p::kvs,_,r=>by
  rw[y0d] at r
  cases r with
  | @cons a b as bs h t =>
   obtain⟨rs,c,q⟩:=z7a (P:=P) (w:=w) t
   obtain⟨b1,b2⟩:=b
   exact⟨(p.1,b2)::rs,⟨zib h.1,rfl,c⟩,.cons ⟨rfl,h.2⟩ q⟩
noncomputable def zo6 (trs:List (TE×TE)):TE:=fun σ H Q=>∀p,H p=none->zdn trs σ (upd H p (.dK [])) fun ps H2=>H2 p=some (.dK [])/\∃kvs:List (Key×V),ps=kvs.map (fun kv=>(kV kv.1,kv.2))/\kvs.length<=15/\Q (.ref p) (upd H2 p (.dK (z5v [] kvs)))
theorem zkj {X:Cx} {pos:Pos} {keys:List (Option Expr)} {values:List Expr} {trs:List (TE×TE)} (h:PPs X pos keys values trs) (hall:keys.all (·.isSome)=true) (hl:keys.length=values.length) (h0:keys≠[])
  (h15:keys.length<=15):PE X (.Dict keys values pos) (zo6 trs):=by
 intro pins s σ H Q I q
 have hn:=I.hok.fresh (y0o s.heap.objs.size)
 have I1:=I.laid (a:=s.heap.objs.size) (o:=.dK []) (h':=s.heap.push { cls:=.type "dict",data:=.dict #[] }) (t':=s.toks) (fun _ _ q=>y03 _ q) (y0o _) (zir s.heap I.big)
 refine wpAny_Dict_walk (knd:=z0j X.prog X.w) hall hl h0 h15 (thn (h pins _ σ _ _ I1 (q _ hn)) fun ws s2 ⟨ps,H2,I2,rel,e,kvs,ep,lk,q2⟩=>?_)
 subst ep
 obtain⟨rs,c,rk⟩:=z7a (P:=X.prog) (w:=X.w) rel
 obtain⟨z,hd,vs0,r0,dd⟩:=znj I2.hok e
 cases r0
 refine⟨rs,c,dd,fun h' dd' hs=>⟨.ref s.heap.objs.size,_,?_,rfl,q2⟩⟩
 have hz:(z5v [] kvs).length<=y0j:=by
  have h1:=z4f kvs []
  rw[y28] at h1
  rw[sizeLine_eq];omega
 have he:∃q,h'.get? s.heap.objs.size=some q:=let ⟨q,_,_,hq,_⟩:=dd';⟨q,hq⟩
 exact zav I2 (by rw[e];exact True.intro) hs he (zjn hz hd (rk.merge .nil) dd')
section
variable {X:Cx} {pins:List (Addr×Obj)} {σ:St} {H:Hp} {s:y04} {a:Addr} {y d:V} {u r:Value} {o:Option V} {A:Around} {E:Value->y04->Prop}
end
section
variable {X:Cx} {o e f:Expr} {apos cpos:Pos} {td ty tx:TE}
end
section
variable {X:Cx} {pins:List (Addr×Obj)} {σ:St} {H:Hp} {s:y04} {a:Addr} {kvs:List (Key×V)} {A:Around} {E:Value->y04->Prop}
end
section
variable {X:Cx} {pins:List (Addr×Obj)} {σ:St} {H:Hp} {s:y04} {a:Addr} {y:V} {u:Value} {A:Around} {E:Value->y04->Prop}
end
end L2
end
section
namespace D
open PySem PySem.Spec PyProof.Rows L2
variable [Tbl]
theorem zn0 {K:y00} {F:Addr->Prop} {H:Hp} {a:Addr} {o o':HO} (hn:¬F a) (ha:H a=some o) (hk:(∃xs,o=.lst xs)\/∃xs,o=.dK xs):Kp K F H F (upd H a o'):=by
 refine⟨fun b xs q=>?_,fun b xs f q=>⟨f,?_⟩⟩
 ·rcases q with q|q
  ·refine .inl ?_
   have nb:b≠a:=by
    rintro rfl
    rcases q with q|⟨_,q⟩
    ·rw[ha] at q
     cases q
     rcases hk with ⟨_,z⟩|⟨_,z⟩ <;> cases z
    ·rw[ha] at q
     cases q
     rcases hk with ⟨_,z⟩|⟨_,z⟩ <;> cases z
   rcases q with q|⟨u,q⟩
   ·exact .inl (by rw[z04 nb];exact q)
   ·exact .inr ⟨u,by rw[z04 nb];exact q⟩
  ·exact .inr q
 ·have nb:b≠a:=by
   rintro rfl
   exact hn f
  rcases q with q|⟨u,q⟩
  ·exact .inl (by rw[z04 nb];exact q)
  ·exact .inr ⟨u,by rw[z04 nb];exact q⟩
section
variable {K:y00} {F:Addr->Prop} {H:Hp}
theorem RepD.any {k:D.Key}:∀{kvs:List (D.Key×T)} {vs:List (D.Key×V)},RepD K F H kvs vs->hasD kvs k=(valV vs k).isSome
 | [],vs,h=>by
  have:vs=[]:=h
  subst this
  rfl
 | p::r,vs,h=>by
  obtain⟨v,w,rfl,q,z⟩:=h
  have ih:=RepD.any (k:=k) z
  simp only[hasD,List.any_cons,valV,y1m] at ih ⊢
  by_cases e:p.1=k
  ·simp[e]
  ·simp[e,ih]
theorem RepD.length:∀{kvs:List (D.Key×T)} {vs:List (D.Key×V)},RepD K F H kvs vs->kvs.length=vs.length
 | [],vs,h=>by
  have:vs=[]:=h
  subst this
  rfl
 | p::r,vs,h=>by
  obtain⟨v,w,rfl,q,z⟩:=h
  simp[RepD.length z]
theorem RepD.append:∀{kvs us:List (D.Key×T)} {vs ws:List (D.Key×V)},RepD K F H kvs vs->RepD K F H us ws->RepD K F H (kvs++us) (vs++ws)
 | [],us,vs,ws,h,r=>by
  have:vs=[]:=h
  subst this
  exact r
 | p::q,us,vs,ws,h,r=>by
  obtain⟨v,w,rfl,q',z⟩:=h
  exact⟨v,w++ws,rfl,q',RepD.append z r⟩
theorem RepD.mapPut {k:D.Key} {t:T} {v:V}:∀{kvs:List (D.Key×T)} {vs:List (D.Key×V)},RepD K F H kvs vs->Rep K F H t v->RepD K F H (kvs.map fun p=>if p.1=k then (k,t) else p) (vs.map fun kv=>if kv.1=k then (kv.1,v) else kv)
 | [],vs,h,q=>by
  have:vs=[]:=h
  subst this
  rfl
 | p::r,vs,h,q=>by
  obtain⟨v',w,rfl,q',z⟩:=h
  simp only[y0d]
  by_cases e:p.1=k
  ·rw[if_pos e,if_pos e]
   exact⟨v,_,by rw[e],q,RepD.mapPut z q⟩
  ·rw[if_neg e,if_neg e]
   exact⟨v',_,rfl,q',RepD.mapPut z q⟩
theorem RepD.put {k:D.Key} {t:T} {v:V} {kvs:List (D.Key×T)} {vs:List (D.Key×V)} (h:RepD K F H kvs vs) (q:Rep K F H t v):RepD K F H (putD kvs k t) (putK vs k v):=by
 have ha:(kvs.any fun p=>decide (p.1=k))=(vs.any fun kv=>decide (kv.1=k)):=by
  clear q
  induction kvs generalizing vs with
  | nil =>
   have:vs=[]:=h
   subst this
   rfl
  | cons p r ih =>
   obtain⟨v,w,rfl,q',z⟩:=h
   simp only[List.any_cons,ih z]
 unfold putD putK
 rw[ha]
 split
 ·exact RepD.mapPut h q
 ·exact h.append ⟨v,[],rfl,q,rfl⟩
theorem zan {t:T} {k:D.Key} {v:V} {O:Addr->Prop} (e:z7y t=some k) (r:RepR K O F H t v):v=kV k:=by
 unfold z7y at e
 split at e
 ·cases e
  exact r.int
 ·cases e
  exact r.str
 ·cases e
theorem zc6 {i:Nat} {ε:Ev} {kvs:List (D.Key×T)} (h:dic? i ε=some kvs):ε[i]?=some (some (.dic kvs)):=by
 unfold dic? at h
 split at h
 ·cases h
  assumption
 ·cases h
end
section
variable {X:Cx} {a b e:Expr} {f g:Fe} {pos:Pos}
theorem z83 {F₀ O F:Addr->Prop} {H₀:En} {H:Hp} {ε:Ev} {σ:L2.St} {i:Nat} {kvs:List (D.Key×T)} (r:RelE X.K F₀ H₀ O F H ε σ) (h:dic? i ε=some kvs) :
  ∃p vs,σ[i]?=some (some (.ref p))/\¬F p/\O p/\H p=some (.dK vs)/\RepD X.K F H kvs vs:=by
 obtain⟨v,h1,p,vs,rfl,n,o,hh,hr⟩:=r.val _ _ (zc6 h)
 exact⟨p,vs,h1,n,o,hh,hr⟩
theorem zle {neg:Bool} {i:Nat} {R:TE} (hR:∀σ H Q,(∃F₀ H₀ O F ε t k kvs,RelE X.K F₀ H₀ O F H ε σ/\f ε=some t/\z7y t=some k/\dic? i ε=some kvs/\∀F' H',Ext F H F' H'->Q (.bl (if neg then !hasD kvs k else hasD kvs k)) H')->R σ H Q) :
  ∀σ H Q,tV X.K (dIn neg f i) σ H Q->R σ H Q:=fun σ H Q ⟨F₀,H₀,O,F,ε,t,r,e,k⟩=>by
 simp only[dIn,y01,y07] at e
 obtain⟨t',et,key,ek,kvs,ed,rfl⟩:=e
 exact hR σ H Q ⟨F₀,H₀,O,F,ε,t',key,kvs,r,et,ek,ed,fun F' H' x=>k _ F' H' x (by simp[Rep])⟩
theorem zg9 (i:Nat):∀σ H (Q:VK),(∃F₀ H₀ O F ε t k kvs,RelE X.K F₀ H₀ O F H ε σ/\f ε=some t/\z7y t=some k/\dic? i ε=some kvs/\∀F' H',Ext F H F' H'->Q (.bl (if true then !hasD kvs k else hasD kvs k)) H')->zdp (tR X.K f) (tVar i) σ H Q :=
 fun σ H Q ⟨F₀,H₀,O,F,ε,t,k,kvs,r,et,ek,ed,kk⟩=>⟨F₀,H₀,O,F,ε,t,r,et,fun v F1 H1 x1 q1=>by
  obtain⟨p,vs,h1,n,o,hh,hr⟩:=z83 (r.ext x1) ed
  refine⟨_,h1,p,valV vs k,rfl,?_,?_⟩
  ·rw[zan ek q1]
   exact DGet.k hh
  ·rw[<- hr.any]
   exact kk F1 H1 x1⟩
variable {x:Str} {px:Pos}
theorem zo2 {R:TE} {h:Fe} (k:∀σ H Q,tV X.K h σ H Q->R σ H Q):∀σ H Q,tT X.K (tstB h) σ H Q->L2.tB R σ H Q:=fun σ H Q ⟨F₀,H₀,O,F,ε,b,r,e,kk⟩=>by
 simp only[tstB,y01] at e
 obtain⟨t,et,e⟩:=e
 split at e
 ·cases e
  refine k σ H _ ⟨F₀,H₀,O,F,ε,_,r,et,fun v F' H' x q=>?_⟩
  simp only[Rep] at q
  exact⟨_,q,kk F' H' x⟩
 ·cases e
theorem zls (i:Nat) (hu:X.A.units+1<cLine) (ha:PEr X a f) (hN:X.N[i]?=some x:=by rfl) (hv:Vis X.env.scope x:=by first|exact Or.inl rfl|exact Or.inr (Or.inl rfl)|exact Or.inr (Or.inr rfl)) (hd:(x == ("__debug__":Str))=false:=by decide)
  (hcd:(x == ("__classdict__":Str))=false:=by decide) (h1:behindInMarks .NotIn (.Name x px)=false:=by rfl):PTt X (.Compare a [.NotIn] [.Name x px] pos) (tstB (dIn true f i)):=z6l (zef (zeo hu ha (pv i hN hv hd hcd)) h1) (zo2 (zle (zg9 i)))
theorem zlz (i:Nat) (hu:X.A.units+1<cLine) {spos:Pos} (ha:PEr X a f) (he:PEv X e g) (hN:X.N[i]?=some x:=by rfl) (hv:Vis X.env.scope x:=by first|exact Or.inl rfl|exact Or.inr (Or.inl rfl)|exact Or.inr (Or.inr rfl)) (hd:(x == ("__debug__":Str))=false:=by decide)
  (hcd:(x == ("__classdict__":Str))=false:=by decide) (hs:swapsWith e (some (.Subscript (.Name x px) a spos)) pos.line X.env=pure false:=by rfl) :
  PSt X (.Assign [.Subscript (.Name x px) a spos] e pos) (dPut i f g):=z1u (zke hu (pv i hN hv hd hcd) ha he hs) fun D σ H ⟨F₀,H₀,O,F,ε,o,r,e,k⟩=>by
 simp only[dPut,y01] at e
 obtain⟨v,ev,t,et,key,ek,kvs,ed,e⟩:=e
 split at e
 next hz =>
  cases e
  refine⟨F₀,H₀,O,F,ε,v,r,ev,fun vv F1 H1 x1 q1=>?_⟩
  obtain⟨p,vs,h1,n,oo,hh,hr⟩:=z83 (r.ext x1) ed
  refine⟨_,h1,F₀,H₀,O,F1,ε,t,r.ext x1,et,fun vt F2 H2 x2 q2=>?_⟩
  have r2:=(r.ext x1).ext x2
  obtain⟨p',vs',h1',n',o',hh',hr'⟩:=z83 r2 ed
  rw[h1] at h1'
  cases h1'
  obtain⟨kp,r3⟩:=r2.mut (s':=.dic (putD kvs key v)) (o':=.dK (putK vs' key vv)) (zc6 ed) rfl h1 n' o' hh' (.inr ⟨_,rfl⟩) fun kp=>⟨p,_,rfl,n',o',z05,RepD.put (RepD.kp kp hr') ((q1.ext x2).kp kp)⟩
  refine⟨p,_,rfl,?_,k σ F2 _ ((x1.trans x2).kp.trans kp) r3⟩
  rw[zan ek q2]
  exact DPut.k hh' (by rw[z5i,<- hr'.length];exact hz)
 next=>cases e
theorem zm0 (i:Nat) {kx vx:Expr} {dpos:Pos} (hN:X.N.Nodup) (hk:PEv X kx f) (he:PEv X vx g) (hi:X.N[i]?=some x:=by rfl) (hx:Loc X.env.scope x:=by first|exact Or.inl rfl|exact Or.inr rfl)
  (hs:swapsWith (.Dict [some kx] [vx] dpos) (some (.Name x px)) pos.line X.env=pure false:=by rfl) (hf:X.fn x=true\/X.env.scope.names.lookup x=some .local:=by first|exact .inl rfl|exact .inr rfl) :
  PSt X (.Assign [.Name x px] (.Dict [some kx] [vx] dpos) pos) (dNew i f g):=z1u (z4c hN hi hx (zkj (zhi hk he zkf) rfl rfl (by simp) (by simp)) hs hf) fun D σ H ⟨F₀,H₀,O,F,ε,o,r,e,k⟩=>by
 simp only[dNew,y01,y07] at e
 obtain⟨t,et,key,ek,v,ev,rfl⟩:=e
 intro p hp
 have x0:=Ext.laid (o:=.dK []) r.dom hp
 refine⟨F₀,H₀,O,F,ε,t,r.ext x0,et,fun vk F1 H1 x1 q1=>⟨F₀,H₀,O,F1,ε,v,(r.ext x0).ext x1,ev,fun vv F2 H2 x2 q2=>?_⟩⟩
 have x02:=(x0.trans x1).trans x2
 have hp2:H2 p=some (.dK []):=(x1.trans x2).same.get z05
 have nf:¬F2 p:=fun z=>by
  rcases (x1.trans x2).new p z with q|q
  ·obtain⟨o,e⟩:=r.dom p q
   rw[hp] at e
   cases e
  ·rw[z05] at q
   cases q
 refine⟨hp2,[(key,vv)],?_,by simp,?_⟩
 ·have hk:=zan (O:=O) ek (.inl q1)
  simp[hk]
 ·have kp:Kp X.K F2 H2 F2 (upd H2 p (.dK (z5v [] [(key,vv)]))):=zn0 nf hp2 (.inr ⟨_,rfl⟩)
  have x3:Ext F H F2 (upd H2 p (.dK (z5v [] [(key,vv)]))):=by
   refine⟨fun b o e=>?_,x02.sub,x02.new,⟨fun b z=>?_,x02.dom.tgs.upd fun u e=>.inr ⟨_,y27 (e.symm.trans hp2)⟩⟩⟩
   ·rw[z04 (z0d e hp)]
    exact x02.same b o e
   ·have nb:b≠p:=by
     rintro rfl
     exact nf z
    rw[z04 nb]
    exact x02.dom b z
  exact k _ F2 _ x3.kp (r.setNew (s:=.dic _) i x3 ⟨p,_,rfl,nf,r.fr p hp,z05,⟨vv,[],rfl,q2.kp kp,rfl⟩⟩ fun b hb=>by
   have:b=p:=by simpa [fpS,rf] using hb
   rw[this]
   exact hp)
end
end D
end
section
namespace D
open PySem
variable [Tbl]
end D
end
section
namespace D
open PySem PySem.Spec PyProof.Rows L2
section
variable [Tbl]
theorem zjc {α β:Type} {R:α->β->Prop}:∀{l:List α} {ks:List β},Paired R l ks->l.length=ks.length
 | _,_,.nil=>rfl
 | _,_,.cons a b=>by simp[zjc b]
section
variable {prog:y0q} {w:World} {K:Type} [DecidableEq K] (knd:PySem.KeyKind prog w K)
variable {knd} {A:Around} {E:Value->y04->Prop} {s:y04}
def IsV (knd:PySem.KeyKind prog w K) (v:Value) (k:K):Prop:=knd.is k v=true/\v.scannable=true
section
variable {R:Result->y04->Prop} {I:Addr} {fp wr:List Addr} {G:Array GenState->Array GenState->Prop} {St:Nat->y04->Prop} {items:Array Value}
end
end
end
section
variable [Tbl]
section
variable {prog:y0q} {w:World} {A:Around} {E:Value->y04->Prop} {s:y04}
end
section
variable {prog:y0q} {w:World} {A:Around} {E:Value->y04->Prop} {s:y04}
variable {a I:Addr} {es:Array (Int×Value)} {ep:Nat} {t:SetTable}
end
end
section
variable [Tbl]
section
variable {prog:y0q} {w:World} {A:Around} {E:Value->y04->Prop} {s:y04}
variable {a I:Addr} {es:Array (Int×Value)} {ep:Nat} {t:SetTable}
end
end
section
variable [Tbl]
section
variable {prog:y0q} {w:World} {K:Type} [DecidableEq K] {knd:PySem.KeyKind prog w K} {A:Around} {E:Value->y04->Prop} {s:y04} {a:Addr} {ks:List K}
theorem zax {R:List Value->y04->Prop} {T:String} {r d:Addr} {n:Nat} {P:Nat->Value->Prop} {OK:Heap->Prop} (W:PySem.W.KdlSrc prog w T r d n P OK) (hh:A.handled=none) (hok:OK s.heap) (hn:n<=y0j)
  (h:∀(h':Heap) (tk:Nat) (acc:Array Value),(∀b o,s.heap.get? b=some o->h'.get? b=some o)->s.heap.objs.size<=h'.objs.size->ItemsOf P acc n->R acc.toList { s with heap:=h',toks:=tk }) :
  y0u (model prog w) A (collect (.ref r)) R E s:=by
 have hlt:=W.there _ hok
 unfold collect
 refine y02 (wpAny_runValue (codeAny_builtin entry_proto_collect' ?_))
 rw[y1q PySem.F.plain_proto_collect _]
 show y0u _ A.in1 (newList [] >>= fun l=>again (.builtin "list.__iadd__" ⟨[l,.ref r],[]⟩)) _ _ s
 refine y02 (wpAny_newObj_type ?_)
 refine y06 ⟨plainId_quiet PySem.F.plain_list_iadd _,codeAny_builtin entry_list_iadd' ?_⟩
 rw[y1q PySem.F.plain_list_iadd _]
 have hS₁:(s.heap.push { cls:=.type "list",data:=.seq ([]:List Value).toArray }).get? s.heap.objs.size=some { cls:=.type "list",data:=.seq #[] }:=y0l _ rfl
 show y0u _ A.in1 (Builtin.List.listExtendWith (.ref s.heap.objs.size) (.ref r) (.ref s.heap.objs.size)) _ _ _
 have key:=PySem.W.kdl_extend (A:=A) (s:={ s with heap:=s.heap.push { cls:=.type "list",data:=.seq ([]:List Value).toArray } })
  (R:=fun (q:Result) (s':y04)=>∃(h':Heap) (tk:Nat) (acc':Array Value) (c':Nat),q=.ok (.ret (.ref s.heap.objs.size))/\s'={ s with heap:=h',toks:=tk } /\
   (∀b o,s.heap.get? b=some o->h'.get? b=some o)/\h'.get? s.heap.objs.size=some { cls:=.type "list",dict:=none,data:=.seq acc' c',slots:=#[] }/\ItemsOf P acc' n)
  W hh (W.keep _ _ hok fun b _ o e=>y03 _ e) s.heap.objs.size (y14 hlt.1) (y14 hlt.2) (.ref s.heap.objs.size) 0 hS₁
  (fun h' tk acc' c' hk hS' hacc=>⟨h',tk,acc',c',rfl,rfl,fun b o e=>hk b o (y0y (y0c e)) (y03 _ e),hS',hacc⟩) hn
 refine y1b key (fun fin s' x=>?_) fun e s' x=>?_
 ·cases fin with
  | done f =>
   obtain⟨h',tk,acc',c',e,rfl,hk,hS',hacc⟩:=x
   cases e
   show y0u _ A (load s.heap.objs.size >>= _) _ _ _
   refine y02 (wpAny_load hS' ?_)
   exact y06 (h h' tk acc' hk (Nat.le_of_lt (y0c hS')) hacc)
  | again c₁ =>
   refine⟨x.1,codeAny_mono x.2 fun q s₂ y=>?_⟩
   obtain⟨h',tk,acc',c',rfl,rfl,hk,hS',hacc⟩:=y
   show y0u _ A (load s.heap.objs.size >>= _) _ _ _
   refine y02 (wpAny_load hS' ?_)
   exact y06 (h h' tk acc' hk (Nat.le_of_lt (y0c hS')) hacc)
 ·obtain⟨_,_,_,_,e',_⟩:=x
  cases e'
end
end
section
variable [Tbl]
theorem z12 {α:Type} {r:α->α->Prop} (anti:∀a b,r a b->r b a->a=b):∀{l m:List α},l.Perm m->l.Pairwise r->m.Pairwise r->l=m
 | [],m,p,_,_=>(List.Perm.nil_eq p)
 | a::l,m,p,h1,h2=>by
  cases m with
  | nil=>exact absurd p.length_eq (by simp)
  | cons b m =>
   have hab:a=b:=by
    have ha:a∈b::m:=p.mem_iff.mp (by simp)
    have hb:b∈a::l:=p.mem_iff.mpr (by simp)
    rcases y09.mp ha with q|q
    ·exact q
    ·rcases y09.mp hb with z|z
     ·exact z.symm
     ·exact anti a b ((y16.mp h1).1 b z) ((y16.mp h2).1 a q)
   subst hab
   rw[z12 anti (List.perm_cons a |>.mp p) (y16.mp h1).2 (y16.mp h2).2]
theorem z67 (x:Int):∀l:List Int,(insI x l).Perm (x::l)
 | []=>.rfl
 | y::ys=>by
  unfold insI
  split
  ·exact .rfl
  ·exact ((z67 x ys).cons y).trans (.swap _ _ _)
theorem z2k:∀l:List Int,(z3a l).Perm l
 | []=>.rfl
 | x::xs=>(z67 x _).trans ((z2k xs).cons x)
theorem zfr (x:Int):∀{l:List Int},l.Pairwise (·<=·)->(insI x l).Pairwise (·<=·)
 | [],_=>by simp[insI]
 | y::ys,h=>by
  unfold insI
  have h':=y16.mp h
  split
  next q=>exact y16.mpr ⟨fun z hz=>by
   rcases y09.mp hz with rfl|hz
   ·exact q
   ·exact Int.le_trans q (h'.1 z hz),h⟩
  next q=>exact y16.mpr ⟨fun z hz=>by
   rcases y09.mp ((z67 x ys).mem_iff.mp hz) with rfl|hz
   ·omega
   ·exact h'.1 z hz,zfr x h'.2⟩
theorem z57:∀l:List Int,(z3a l).Pairwise (·<=·)
 | []=>.nil
 | x::xs=>zfr x (z57 xs)
theorem zbd {l m:List Int} (p:l.Perm m) (h:l.Pairwise (·<=·)):l=z3a m:=z12 (fun a b h1 h2=>Int.le_antisymm h1 h2) (p.trans (z2k m).symm) h (z57 m)
theorem za9 {l m:List Int} (p:l.Perm m):z3a l=z3a m:=zbd ((z2k l).trans p) (z57 l)
abbrev sLe (x y:Str):Prop:=z4n y x=false
theorem zh1 (x y:Str):z4n x y=ltCps x.cps.toList y.cps.toList:=(ltCps_eq _ _).symm
theorem ze0 {x y:Str} (h:z4n x y=true):sLe x y:=by
 unfold sLe z4n at *
 simp only[decide_eq_true_eq,decide_eq_false_iff_not] at *
 exact List.lt_asymm h
theorem z8n {x y z:Str} (h1:sLe x y) (h2:sLe y z):sLe x z:=by
 unfold sLe z4n at *
 simp only[decide_eq_false_iff_not] at *
 exact List.not_lt.mpr (List.le_trans (List.not_lt.mp h1) (List.not_lt.mp h2))
theorem zh7 {x y:Str} (h1:sLe x y) (h2:sLe y x):x=y:=by
 unfold sLe z4n at *
 simp only[decide_eq_false_iff_not] at *
 have e:x.cps.toList=y.cps.toList:=List.le_antisymm (List.not_lt.mp h1) (List.not_lt.mp h2)
 cases x
 cases y
 simp only[Array.toList_inj] at e
 exact congrArg _ e
theorem z65 (x:Str):∀l:List Str,(insS x l).Perm (x::l)
 | []=>.rfl
 | y::ys=>by
  unfold insS
  split
  ·exact .rfl
  ·exact ((z65 x ys).cons y).trans (.swap _ _ _)
theorem z3l:∀l:List Str,(z8l l).Perm l
 | []=>.rfl
 | x::xs=>(z65 x _).trans ((z3l xs).cons x)
theorem zfp (x:Str):∀{l:List Str},l.Pairwise sLe->(insS x l).Pairwise sLe
 | [],_=>by simp[insS]
 | y::ys,h=>by
  unfold insS
  have h':=y16.mp h
  split
  next q =>
   have q':sLe x y:=by simpa [sLe] using q
   exact y16.mpr ⟨fun z hz=>by
    rcases y09.mp hz with rfl|hz
    ·exact q'
    ·exact z8n q' (h'.1 z hz),h⟩
  next q =>
   have q':z4n y x=true:=by simpa using q
   exact y16.mpr ⟨fun z hz=>by
    rcases y09.mp ((z65 x ys).mem_iff.mp hz) with rfl|hz
    ·exact ze0 q'
    ·exact h'.1 z hz,zfp x h'.2⟩
theorem z7m:∀l:List Str,(z8l l).Pairwise sLe
 | []=>.nil
 | x::xs=>zfp x (z7m xs)
theorem zb9 {l m:List Str} (p:l.Perm m) (h:l.Pairwise sLe):l=z8l m:=z12 (fun a b h1 h2=>zh7 h1 h2) (p.trans (z3l m).symm) h (z7m m)
theorem za7 {l m:List Str} (p:l.Perm m):z8l l=z8l m:=zb9 ((z3l l).trans p) (z7m l)
theorem z6w:∀(l:List Str) (p:Str),risingS p l=true->(p::l).Pairwise sLe
 | [],p,_=>by simp
 | x::r,p,h=>by
  simp only[risingS,y19,Bool.not_eq_true'] at h
  have ih:=z6w r x h.2
  have hpx:sLe p x:=by
   unfold sLe
   rw[zh1]
   exact h.1
  refine y16.mpr ⟨fun z hz=>?_,ih⟩
  rcases y09.mp hz with rfl|hz
  ·exact hpx
  ·exact z8n hpx ((y16.mp ih).1 z hz)
theorem zct {l:List Str} (h:sortedS l=true):l.Pairwise sLe:=by
 cases l with
 | nil=>exact .nil
 | cons x r=>exact z6w r x h
section
variable {K:Type} [DecidableEq K]
theorem z7q {l m:List K} (h1:l.Nodup) (h2:m.Nodup) (h:∀x,x∈l <-> x∈m):l.Perm m:=(List.perm_ext_iff_of_nodup h1 h2).mpr h
end
end
section
variable [Tbl]
section
variable {prog:y0q} {w:World} {A:Around} {E:Value->y04->Prop} {s:y04}
inductive Srt:List Value->List Value->Prop where
 | ofI {vs out:List Value} {ns:List Int}:IntsAre vs ns->IntsAre out (z3a ns)->Srt vs out
 | ofS {vs out:List Value} {ss:List Str}:StrsAre vs ss->StrsAre out (z8l ss)->Srt vs out
def z8a (vs:List Value):Prop:=vs.length<64/\((∃ns,IntsAre vs ns)\/∃ss,StrsAre vs ss)
theorem z2s {h:Heap} {a:Addr} {vs:List Value} {n:Nat} {out:Array Value} (ho:h.get? a=some (seqObj "list" vs.toArray n)) :
  (∃e,(sortedHeap h a vs out).get? a=some (seqObj "list" out e))/\∀b o,b≠a->h.get? b=some o->(sortedHeap h a vs out).get? b=some o:=by
 have hlt:=y0c ho
 unfold sortedHeap
 refine⟨?_,fun b o hb e=>?_⟩
 ·have h1:=get?_update_seq ho (fun _=>(#[]:Array Value))
  have h2:=y03 (seqObj "tuple" vs.toArray 0) h1
  have h3:=y03 (seqObj "list" #[] 0) h2
  exact⟨_,get?_update_seq h3 (fun _=>out)⟩
 ·rw[Heap.get?_update_other _ _ (Ne.symm hb)]
  exact y03 _ (y03 _ ((Heap.get?_update_other _ _ (Ne.symm hb)).trans e))
theorem zdt {a:Addr} {vs:List Value} {n:Nat} {P:Fin->y04->Prop} (ho:s.heap.get? a=some (seqObj "list" vs.toArray n)) (hs:z8a vs)
  (h:∀out:Array Value,Srt vs out.toList->P (.done (.ret .none)) { s with heap:=sortedHeap s.heap a vs out }):y0u (model prog w) A (Builtin.«list.sort» ⟨[.ref a],[]⟩) P E s:=by
 obtain⟨h64,⟨ns,hI⟩|⟨ss,hS⟩⟩:=hs
 ·refine list_sort_tree ho hI h64 fun out ns' a1 a2 a3=>h out (.ofI hI ?_)
  rw[<- zbd a2 a3]
  exact a1
 ·refine list_sort_treeK strKind_oneLt ho hS.keysOf (fun v₁ v₂ rest e=>keyKind_strs (by rw[<- e];exact hS)) h64 fun st' hp hs=>?_
  obtain⟨ss',h1,h2,h3⟩:=sorted_out_str hS hp hs
  refine h _ (.ofS hS ?_)
  rw[<- zb9 h2 (zct h3)]
  exact h1
theorem za5 {r:Addr} {C:List Value->Prop} {Q:Value->y04->Prop}
  (hcol:∀(E':Value->y04->Prop) (R:List Value->y04->Prop),(∀h' tk d vs,(∀b o,s.heap.get? b=some o->h'.get? b=some o)->s.heap.objs.size<=h'.objs.size->C vs->R vs { s with heap:=h',toks:=tk,drawn:=d })->y0u (model prog w) A.in1 (collect (.ref r)) R E' s)
  (hC:∀vs,C vs->z8a vs)
  (h:∀h' tk d D e vs out,C vs->Srt vs out->(∀b o,s.heap.get? b=some o->h'.get? b=some o)->s.heap.objs.size<=D->h'.get? D=some (seqObj "list" out.toArray e)->Q (.ref D) { s with heap:=h',toks:=tk,drawn:=d }) :
  y0u (model prog w) A (call (.builtin "sorted") [.ref r]) Q E s:=by
 refine Calls.call_function_entry kind_sorted plain_sorted entry_sorted (args_sorted1 _) ?_
 unfold Builtin.«sorted»
 refine y02 (m:=checkCount "sorted" 1 1 _) (y06 ?_)
 refine y02 (hcol _ _ fun h' tk d vs kp hsz c=>?_)
 have hs:=hC vs c
 have hz:vs.length<=y0j:=by
  have:=hs.1
  rw[sizeLine_eq]
  omega
 refine y02 (wpAny_newList ?_ hz)
 have hoL:(h'.push (seqObj "list" vs.toArray 0)).get? h'.objs.size=some (seqObj "list" vs.toArray 0):=y0l _ rfl
 refine y02 (wpAny_holding (wpAny_call_entry slot_list_sort ⟨_,hoL,rfl⟩ entry_list_sort (zdt hoL hs fun out so=>⟨_,rfl,?_⟩) (args_list_sort _)))
 obtain⟨⟨e,he⟩,hk⟩:=z2s (out:=out) hoL
 refine y06 ⟨_,rfl,?_⟩
 exact h _ tk d h'.objs.size e vs out.toList c so (fun b o q=>hk b o (y0y (y0c (kp b o q))) (y03 _ (kp b o q))) hsz he
end
section
variable {X:Cx} {pins:List (Addr×Obj)} {σ:L2.St} {H:Hp} {s:y04}
theorem z62 {a:Addr} {o:HO} {t':Nat} {d':Drawn} {h':Heap} (I:Inv X pins σ H s) (k:∀b u,s.heap.get? b=some u->h'.get? b=some u) (hp:s.heap.objs.size<=a) (new:z26 X.prog X.w (upd H a o) h' a o) :
  Inv X pins σ (upd H a o) { s with heap:=h',toks:=t',drawn:=d' } :=
 I.call (ch:=[]) (g':=s.gens) (Un.laid k hp (I.hok.fresh hp)) (I.hok.laid k hp new) I.bare fun _ z=>nomatch z
theorem z63:∀{us:List Value} {ns:List Int},IntsAre us ns->Vals (ns.map V.int) us
 | _,_,.nil=>.nil
 | _,_,.cons n t r=>.cons ⟨t,rfl⟩ (z63 r)
theorem z5h:∀{us:List Value} {ss:List Str},StrsAre us ss->Vals (ss.map V.str) us
 | _,_,.nil=>.nil
 | _,_,.cons n t r=>.cons ⟨t,rfl⟩ (z5h r)
theorem z60:∀{us:List Value} {ks:List L2.Key} {ns:List Int},Paired (IsV (z0j X.prog X.w)) us ks->ks=ns.map Sum.inl->IntsAre us ns
 | _,_,[],.nil,_=>.nil
 | _,_,n::ns,.cons a b,e=>by
  cases e
  have a1:=a.1
  rw[z71] at a1
  rcases z0k a1 with ⟨i,t,e1,rfl⟩|⟨x,t,e1,rfl⟩
  ·cases e1
   exact .cons _ t (z60 b rfl)
  ·cases e1
theorem z5z:∀{us:List Value} {ks:List L2.Key} {ss:List Str},Paired (IsV (z0j X.prog X.w)) us ks->ks=ss.map Sum.inr->StrsAre us ss
 | _,_,[],.nil,_=>.nil
 | _,_,n::ns,.cons a b,e=>by
  cases e
  have a1:=a.1
  rw[z71] at a1
  rcases z0k a1 with ⟨i,t,e1,rfl⟩|⟨x,t,e1,rfl⟩
  ·cases e1
  ·cases e1
   exact .cons _ t (z5z b rfl)
theorem z2a {α β:Type} (f:α->β):∀{l:List α} {m:List β},m.Perm (l.map f)->∃l':List α,m=l'.map f/\l'.Perm l:=by
 intro l m p
 generalize hx:l.map f=lf at p
 induction p generalizing l with
 | nil =>
  rw[List.map_eq_nil_iff] at hx
  subst hx
  exact⟨[],rfl,.rfl⟩
 | cons x _ ih =>
  cases l with
  | nil=>cases hx
  | cons a r =>
   simp only[y0d,List.cons.injEq] at hx
   obtain⟨l',e,q⟩:=ih hx.2
   exact⟨a::l',by rw[y0d,hx.1,e],q.cons a⟩
 | swap x y r =>
  match l,hx with
  | a::b::r',hx =>
   simp only[y0d,List.cons.injEq] at hx
   exact⟨b::a::r',by rw[y0d,y0d,hx.1,hx.2.1,hx.2.2],.swap _ _ _⟩
 | trans _ _ i1 i2 =>
  obtain⟨l1,e1,q1⟩:=i2 hx
  obtain⟨l2,e2,q2⟩:=i1 e1.symm
  exact⟨l2,e2,q2.trans q1⟩
def zh5 (ks:List L2.Key) (ys:List V):Prop:=(∃ns:List Int,ks=ns.map Sum.inl/\ys=(z3a ns).map V.int)\/∃ss:List Str,ks=ss.map Sum.inr/\ys=(z8l ss).map V.str
theorem zh2 {vs out:List Value} {ks ks':List L2.Key} {ys:List V} (hv:Paired (IsV (z0j X.prog X.w)) vs ks') (hp:ks'.Perm ks) (so:Srt vs out) (hk:zh5 ks ys):Vals ys out:=by
 rcases hk with ⟨ns,rfl,rfl⟩|⟨ss,rfl,rfl⟩
 ·obtain⟨ns',rfl,hp'⟩:=z2a Sum.inl hp
  have hI:=z60 hv rfl
  cases so with
  | ofI a b =>
   rename_i ms
   rw[<- za9 hp',show ns'=ms from ?_]
   ·exact z63 b
   ·rw[<- IntsAre.numsOf hI,<- IntsAre.numsOf a]
  | ofS a b =>
   cases a with
   | nil =>
    cases hI
    have:ns=[]:=List.Perm.eq_nil hp'.symm
    subst this
    exact z5h b
   | cons x t _=>cases hI
 ·obtain⟨ss',rfl,hp'⟩:=z2a Sum.inr hp
  have hS:=z5z hv rfl
  cases so with
  | ofS a b =>
   rename_i ms
   rw[<- za7 hp',show ss'=ms from ?_]
   ·exact z5h b
   ·rw[<- StrsAre.strs hS,<- StrsAre.strs a]
  | ofI a b =>
   cases a with
   | nil =>
    cases hS
    have:ss=[]:=List.Perm.eq_nil hp'.symm
    subst this
    exact z63 b
   | cons x t _=>cases hS
theorem z7x {vs:List Value} {ks ks':List L2.Key} {ys:List V} (hz:ks.length<64) (hv:Paired (IsV (z0j X.prog X.w)) vs ks') (hp:ks'.Perm ks) (hk:zh5 ks ys):z8a vs:=by
 refine⟨by rw[zjc hv,hp.length_eq];exact hz,?_⟩
 rcases hk with ⟨ns,rfl,_⟩|⟨ss,rfl,_⟩
 ·obtain⟨ns',rfl,_⟩:=z2a Sum.inl hp
  exact .inl ⟨_,z60 hv rfl⟩
 ·obtain⟨ss',rfl,_⟩:=z2a Sum.inr hp
  exact .inr ⟨_,z5z hv rfl⟩
theorem zdu {ks:List L2.Key} {ys:List V} (h:zh5 ks ys):ys.length=ks.length:=by
 rcases h with ⟨ns,rfl,rfl⟩|⟨ss,rfl,rfl⟩
 ·simp[(z2k ns).length_eq]
 ·simp[(z3l ss).length_eq]
theorem zcy {kvs:List (L2.Key×Value)} {acc:Array Value} (h:ItemsOf (fun i v=>∃k x,kvs[i]?=some (k,x)/\(z0j X.prog X.w).is k v=true) acc kvs.length):Paired (IsV (z0j X.prog X.w)) acc.toList (kvs.map (·.1)):=by
 obtain⟨h1,h2⟩:=h
 have h2':∀(j:Nat) v,acc.toList[j]?=some v->∃k x,kvs[j]?=some (k,x)/\(z0j X.prog X.w).is k v=true:=fun j v e=>h2 j v (by rw[<- Array.getElem?_toList];exact e)
 rw[<- y1u] at h1
 generalize acc.toList=l at *
 clear h2
 induction l generalizing kvs with
 | nil =>
  cases kvs with
  | nil=>exact .nil
  | cons a r=>simp at h1
 | cons v l ih =>
  cases kvs with
  | nil=>simp at h1
  | cons a r =>
   obtain⟨k,x,e1,e2⟩:=h2' 0 v rfl
   simp at e1
   subst e1
   refine .cons ⟨e2,?_⟩ (ih (kvs:=r) (by simpa using h1) fun j v e=>h2' (j+1) v (by simpa using e))
   rcases z0k e2 with ⟨i,t,_,rfl⟩|⟨x,t,_,rfl⟩ <;> rfl
theorem zfd:∀{kvs:List (L2.Key×V)} {vs:List (L2.Key×Value)},KV kvs vs->kvs.map (·.1)=vs.map (·.1)
 | _,_,.nil=>rfl
 | _,_,.cons a b=>by simp[a.1,zfd b]
theorem z9q (hc:X.calm=true):z3v X (.builtin "sorted") (fun xs H Q=>∃p kvs ys,xs=[.ref p]/\H p=some (.dK kvs)/\kvs.length<64/\zh5 (kvs.map (·.1)) ys/\∀l,H l=none->Q (.ref l) (upd H l (.lst ys))):=by
 intro pins s σ H xs us Q I r h
 obtain⟨p,kvs,ys,rfl,hq,hz,hk,q⟩:=h
 obtain⟨u,rfl,rx⟩:=z8d r
 cases rx
 obtain⟨hz',hsm,vs,hkv,hd⟩:=I.hok p _ hq
 obtain⟨ep,hat⟩:=hd.dictAt
 have hl:vs.length=kvs.length:=(Paired.length hkv).symm
 have hke:=zfd hkv
 refine za5 (C:=fun us=>Paired (IsV (z0j X.prog X.w)) us (kvs.map (·.1))) (fun E' R hR=>zax (PySem.W.kdl_dict hsm) (I.ok.hd hc) hat (by rw[hl,sizeLine_eq];omega) fun h' tk acc kp hz hacc=>hR h' tk s.drawn acc.toList kp hz (by rw[hke];exact zcy hacc))
  (fun us hu=>z7x (by rw[y12];exact hz) hu .rfl hk) fun h' tk d D e us out hu so kp hD he=>?_
 exact⟨.ref D,_,z62 I (o:=.lst ys) kp hD ⟨by rw[zdu hk,y12,sizeLine_eq];omega,out,e,zh2 hu .rfl so hk,he⟩,rfl,q _ (I.hok.fresh hD)⟩
end
end
section
variable [Tbl]
theorem z4g:∀{ts:List T} {ns:List Int},z3e ts=some ns->ts=ns.map .int
 | [],ns,e=>by
  cases e
  rfl
 | t::ts,ns,e=>by
  unfold z3e at e
  split at e
  ·rename_i h
   cases h
  ·rename_i h
   cases h
   simp only[y07] at e
   obtain⟨r,e1,rfl⟩:=e
   rw[z4g e1]
   rfl
  ·cases e
section
variable {K:y00} {F:Addr->Prop} {H:Hp}
theorem z5m:∀(ns:List Int),RepL K F H (ns.map .int) (ns.map V.int)
 | []=>RepL.nil
 | n::ns=>RepL.cons (by simp[Rep]) (z5m ns)
theorem z6y:∀{ns:List Int} {vs:List V},RepL K F H (ns.map .int) vs->vs=ns.map V.int
 | [],vs,h=>by simpa [RepL] using h
 | n::ns,vs,h=>by
  simp only[y0d,RepL,Rep] at h
  obtain⟨v,r,rfl,rfl,z⟩:=h
  rw[z6y z]
  rfl
end
section
variable {X:Cx} {a e:Expr} {es:List Expr} {f:Fe} {fs:List Fe} {p p2 pos pos2:Pos}
theorem z8q {K:y00} {F:Addr->Prop} {H:Hp}:∀{kvs:List (D.Key×T)} {vs:List (D.Key×V)},RepD K F H kvs vs->kvs.map (·.1)=vs.map (·.1)
 | [],vs,h=>by
  have:vs=[]:=h
  subst this
  rfl
 | p::r,vs,h=>by
  obtain⟨v,w,rfl,_,z⟩:=h
  simp[z8q z]
theorem z98:∀{ks:List D.Key} {ns:List Int},ks.map keyT=ns.map .int->ks=ns.map Sum.inl
 | [],[],_=>rfl
 | [],n::ns,e=>by cases e
 | k::ks,[],e=>by cases e
 | k::ks,n::ns,e=>by
  simp only[y0d,List.cons.injEq] at e ⊢
  refine⟨?_,z98 e.2⟩
  cases k with
  | inl i =>
   have:=e.1
   simp only[keyT] at this
   cases this
   rfl
  | inr x =>
   have:=e.1
   simp only[keyT] at this
   cases this
theorem zeb (i:Nat) {x:Str} {px:Pos} (hc:X.calm=true) (hs:X.mg "sorted"=none) (hN:X.N[i]?=some x:=by rfl) (hv:Vis X.env.scope x:=by first|exact Or.inl rfl|exact Or.inr (Or.inl rfl)|exact Or.inr (Or.inr rfl))
  (hd:(x == ("__debug__":Str))=false:=by decide) (hcd:(x == ("__classdict__":Str))=false:=by decide) (hg:Gl X "sorted":=by rfl)
  (he:y0a [.Name x px] X.env=(false,eval (.Name x px) X.env)::y0a [] X.env:=by rfl) (hpl:(backTo pos (y0a [] X.env)).any (·.1)=false:=by rfl) :
  PEv X (.Call (.Name "sorted" p) [.Name x px] [] pos) (z6b i) :=
 z0s (z2x (z9q hc) hg hs (by decide +kernel) (z0c (pv i hN hv hd hcd) z1a he) (he:=he) (hpl:=hpl)) fun σ H Q ⟨F₀,H₀,O,F,ε,t,r,e,k⟩=>by
 simp only[z6b,y01] at e
 obtain⟨kvs,ed,e⟩:=e
 split at e
 next hz =>
  simp only[y07] at e
  obtain⟨ns,en,rfl⟩:=e
  obtain⟨q,vs,h1,n,o,hh,hr⟩:=z83 r ed
  refine⟨_,h1,q,vs,(z3a ns).map V.int,rfl,hh,by rw[<- hr.length];exact hz,.inl ⟨ns,?_,rfl⟩,fun l hl=>?_⟩
  ·rw[<- z8q hr]
   have:=z4g en
   refine z98 ?_
   rw[<- this,y2d]
   rfl
  ·have x1:=Ext.laidF (o:=.lst ((z3a ns).map V.int)) r.dom hl
   refine k _ _ _ x1 ?_
   simp only[Rep]
   exact⟨l,_,rfl,.inr rfl,.inl z05,z5m _⟩
 next=>cases e
end
section
variable {prog:y0q} {w:World} {A:Around} {E:Value->y04->Prop} {s:y04}
end
section
variable {X:Cx} {e st:Expr} {te:TE} {f:Fe} {pos p2:Pos}
end
end
section
variable [Tbl]
section
variable {prog:y0q} {w:World} {K:Type} [DecidableEq K] {knd:PySem.KeyKind prog w K} {A:Around} {E:Value->y04->Prop} {s:y04}
end
end
section
variable [Tbl]
section
variable {X:Cx} {a b e:Expr} {es rest:List Expr} {f g:Fe} {fs:List Fe} {p p2 pos pos2:Pos}
end
section
variable {X:Cx} {a e:Expr} {f:Fe} {p p2 pos pos2:Pos}
end
end
end D
end
section
namespace D
open PySem PySem.W PyProof.Rows
inductive RunK {α:Type} (ans:Nat->Nat->Bool) (n:Nat):KasT α->α->Prop
 | ret (a:α):RunK ans n (.ret a) a
 | ask {i j:Nat} {k:Bool->KasT α} {a:α}:i<n->j<n->RunK ans n (k (ans i j)) a->RunK ans n (.ask i j k) a
theorem z1o {α β:Type} {ans:Nat->Nat->Bool} {n:Nat} {t:KasT α} {f:α->KasT β} {a:α} {b:β} (h:RunK ans n t a) (g:RunK ans n (f a) b):RunK ans n (t.bind f) b:=by
 induction h with
 | ret a=>exact g
 | ask h1 h2 _ ih=>exact .ask h1 h2 (ih g)
theorem zk6 {α:Type} {ans:Nat->Nat->Bool} {n:Nat} {t:KasT α} {a:α} (h:RunK ans n t a) {cmp:Nat->Nat->(Bool->y04->Prop)->y04->Prop} (s:y04) (hc:∀i j C,i<n->j<n->C (ans i j) s->cmp i j C s) {G:α->y04->Prop} (g:G a s):KasT.kasWp cmp t G s:=by
 induction h with
 | ret a=>exact g
 | ask h1 h2 _ ih=>exact hc _ _ _ h1 h2 (ih g)
structure OrdK (n:Nat) (lt:Nat->Nat->Bool):Prop where
 asym:∀i j,lt i j=true->lt j i=false
 trans:∀i j k,lt i j=true->lt j k=true->lt i k=true
 tot:∀i j,i<n->j<n->i≠j->lt i j=true\/lt j i=true
def Per (n:Nat) (p:Array Nat):Prop:=p.toList.Perm (List.range n)
theorem Per.size {n:Nat} {p:Array Nat} (h:Per n p):p.size=n:=by
 have:=h.length_eq
 simpa using this
theorem Per.lt {n:Nat} {p:Array Nat} (h:Per n p) {k:Nat} (hk:k<n):p.getD k 0<n:=by
 have hs:=h.size
 have:p.getD k 0=p[k]'(by omega):=by simp[Array.getD,hs,hk]
 rw[this]
 exact List.mem_range.mp (h.mem_iff.mp (by simp))
theorem Per.inj {n:Nat} {p:Array Nat} (h:Per n p) {i j:Nat} (hi:i<n) (hj:j<n) (e:p.getD i 0=p.getD j 0):i=j:=by
 have hs:=h.size
 have nd:p.toList.Nodup:=h.nodup_iff.mpr List.nodup_range
 have e1:p.getD i 0=p[i]'(by omega):=by simp[Array.getD,hs,hi]
 have e2:p.getD j 0=p[j]'(by omega):=by simp[Array.getD,hs,hj]
 rw[e1,e2] at e
 have pw:=List.pairwise_iff_getElem.mp nd
 rcases Nat.lt_trichotomy i j with q|q|q
 ·exact absurd (show p.toList[i]'(by simpa [hs] using hi)=p.toList[j]'(by simpa [hs] using hj) from e) (pw i j (by simpa [hs] using hi) (by simpa [hs] using hj) q)
 ·exact q
 ·exact absurd (show p.toList[j]'(by simpa [hs] using hj)=p.toList[i]'(by simpa [hs] using hi) from e.symm) (pw j i (by simpa [hs] using hj) (by simpa [hs] using hi) q)
def SP (lt:Nat->Nat->Bool) (p:Array Nat) (m:Nat):Prop:=∀i j,i<j->j<m->lt (p.getD i 0) (p.getD j 0)=true
def DP (lt:Nat->Nat->Bool) (p:Array Nat) (m:Nat):Prop:=∀i j,i<j->j<m->lt (p.getD j 0) (p.getD i 0)=true
section
variable {n:Nat} {lt:Nat->Nat->Bool} (O:OrdK n lt)
include O
theorem zo8 {p:Array Nat} {k:Nat} (h:SP lt p k) (h1:1<=k) (hl:lt (p.getD (k - 1) 0) (p.getD k 0)=true):SP lt p (k+1):=fun i j hij hj=>by
 by_cases e:j=k
 ·subst e
  by_cases e2:i=j - 1
  ·rw[e2]
   exact hl
  ·exact O.trans _ _ _ (h i (j - 1) (by omega) (by omega)) hl
 ·exact h i j hij (by omega)
theorem zov {p:Array Nat} {k:Nat} (h:DP lt p k) (h1:1<=k) (hl:lt (p.getD k 0) (p.getD (k - 1) 0)=true):DP lt p (k+1):=fun i j hij hj=>by
 by_cases e:j=k
 ·subst e
  by_cases e2:i=j - 1
  ·rw[e2]
   exact hl
  ·exact O.trans _ _ _ hl (h i (j - 1) (by omega) (by omega))
 ·exact h i j hij (by omega)
theorem zb0 {p:Array Nat} (P:Per n p):∀(f k:Nat),1<=k->k+f<=n->SP lt p k->∃m,RunK lt n (kas_asc p f k) m/\k<=m/\m<=k+f/\SP lt p m/\(m<k+f->lt (p.getD m 0) (p.getD (m - 1) 0)=true)
 | 0,k,h1,h2,h3=>⟨k,.ret k,y0o _,by omega,h3,fun q=>by omega⟩
 | f+1,k,h1,h2,h3=>by
  rw[kas_asc.eq_2]
  cases hc:lt (p.getD k 0) (p.getD (k - 1) 0) with
  | true =>
   refine⟨k,.ask (P.lt (by omega)) (P.lt (by omega)) ?_,y0o _,by omega,h3,fun _=>hc⟩
   rw[hc]
   exact .ret k
  | false =>
   have hne:p.getD (k - 1) 0≠p.getD k 0:=fun e=>by have:=P.inj (by omega) (by omega) e;omega
   have hl:lt (p.getD (k - 1) 0) (p.getD k 0)=true:=by
    rcases O.tot _ _ (P.lt (by omega)) (P.lt (by omega)) hne with q|q
    ·exact q
    ·rw[q] at hc;cases hc
   obtain⟨m,r1,r2,r3,r4,r5⟩:=zb0 P f (k+1) (by omega) (by omega) (zo8 O h3 h1 hl)
   refine⟨m,.ask (P.lt (by omega)) (P.lt (by omega)) ?_,by omega,by omega,r4,fun q=>r5 (by omega)⟩
   rw[hc]
   exact r1
theorem zc7 {p:Array Nat} (P:Per n p):∀(f k:Nat),1<=k->k+f<=n->DP lt p k->∃m,RunK lt n (kas_desc f p k 0) (p,m,0)/\k<=m/\m<=k+f/\DP lt p m
 | 0,k,h1,h2,h3=>⟨k,.ret _,y0o _,by omega,h3⟩
 | f+1,k,h1,h2,h3=>by
  rw[kas_desc.eq_2]
  cases hc:lt (p.getD k 0) (p.getD (k - 1) 0) with
  | true =>
   obtain⟨m,r1,r2,r3,r4⟩:=zc7 P f (k+1) (by omega) (by omega) (zov O h3 h1 hc)
   refine⟨m,.ask (P.lt (by omega)) (P.lt (by omega)) ?_,by omega,by omega,r4⟩
   rw[hc]
   simpa using r1
  | false =>
   have hne:p.getD (k - 1) 0≠p.getD k 0:=fun e=>by have:=P.inj (by omega) (by omega) e;omega
   have hl:lt (p.getD (k - 1) 0) (p.getD k 0)=true:=by
    rcases O.tot _ _ (P.lt (by omega)) (P.lt (by omega)) hne with q|q
    ·exact q
    ·rw[q] at hc;cases hc
   refine⟨k,.ask (P.lt (by omega)) (P.lt (by omega)) ?_,y0o _,by omega,h3⟩
   rw[hc]
   refine .ask (P.lt (by omega)) (P.lt (by omega)) ?_
   rw[hl]
   exact .ret _
omit O in
theorem ze3 {p:Array Nat} (P:Per n p) (i j:Nat):Per n (kas_rev p i j):=(Array.perm_iff_toList_perm.mp (mirror_perm p i j _)).trans P
omit O in
theorem ze4 {p:Array Nat} (P:Per n p) {m:Nat} (hm:m<=n) (k:Nat):(kas_rev p 0 m).getD k 0=if k<m then p.getD (m - 1 - k) 0 else p.getD k 0:=by
 have hs:=P.size
 have:=getElem?_mirror_all (xs:=p) (i:=0) (j:=m) (by omega) k
 rw[Array.getD_eq_getD_getElem?,Array.getD_eq_getD_getElem?,Array.getD_eq_getD_getElem?,kas_rev,this]
 by_cases q:k<m
 ·simp[q]
 ·simp[q]
omit O in
theorem zm4 {p:Array Nat} (P:Per n p) {m:Nat} (hm:m<=n) (h:DP lt p m):SP lt (kas_rev p 0 m) m:=fun i j hij hj=>by
 rw[ze4 P hm i,ze4 P hm j,if_pos (by omega),if_pos hj]
 exact h _ _ (by omega) (by omega)
theorem zh0 {p:Array Nat} (P:Per n p) {m:Nat} (h1:1<=m) (hm:m<=n) (h:DP lt p m):∃k q,RunK lt n (kas_tail3 m n p) (k,q)/\1<=k/\k<=n/\Per n q/\SP lt q k:=by
 obtain⟨k,r1,r2,r3,r4,_⟩:=zb0 O (ze3 P 0 m) (n - m) m h1 (by omega) (zm4 P hm h)
 exact⟨k,_,z1o r1 (.ret _),by omega,by omega,ze3 P 0 m,r4⟩
theorem zga {p:Array Nat} (P:Per n p) (h2:2<=n):∃k q,RunK lt n (kas_count n p) (k,q)/\1<=k/\k<=n/\Per n q/\SP lt q k:=by
 obtain⟨m,r1,r2,r3,r4,r5⟩:=zb0 O P (n - 1) 1 (y0o _) (by omega) (fun i j a b=>by omega)
 by_cases e:m=n
 ·subst e
  refine⟨m,p,z1o r1 ?_,by omega,by omega,P,r4⟩
  simp only[beq_self_eq_true,if_true]
  exact .ret _
 ·have e':(m == n)=false:=by simpa using e
  by_cases h1:1<m
  ·refine⟨m,p,z1o r1 ?_,by omega,by omega,P,r4⟩
   simp only[e',y1o,if_false]
   rw[if_pos h1]
   refine .ask (P.lt (by omega)) (P.lt (by omega)) ?_
   rw[r4 0 (m - 1) (by omega) (by omega)]
   exact .ret _
  ·have hm:m=1:=by omega
   subst hm
   have hd:DP lt p 2:=fun i j a b=>by
    have:i=0:=by omega
    have:j=1:=by omega
    subst i j
    exact r5 (by omega)
   obtain⟨k,d1,d2,d3,d4⟩:=zc7 O P (n - 2) 2 (by omega) (by omega) hd
   obtain⟨k',q,t1,t2,t3,t4,t5⟩:=zh0 O P (by omega) (by omega) d4
   refine⟨k',q,z1o r1 ?_,t2,t3,t4,t5⟩
   simp only[e',y1o,if_false]
   rw[if_neg h1]
   unfold kas_descPart
   refine z1o d1 ?_
   simpa using t1
theorem z5n {p:Array Nat} (P:Per n p) {k:Nat} (hk:k<n):∀(f l r:Nat),r - l<=f->l<=r->r<=k->(∀i,i<l->lt (p.getD i 0) (p.getD k 0)=true)->(∀i,r<=i->i<k->lt (p.getD k 0) (p.getD i 0)=true)->SP lt p k ->
  ∃l',RunK lt n (kas_place p k f l r) l'/\l'<=k/\(∀i,i<l'->lt (p.getD i 0) (p.getD k 0)=true)/\∀i,l'<=i->i<k->lt (p.getD k 0) (p.getD i 0)=true
 | 0,l,r,h1,h2,h3,h4,h5,_=>⟨l,.ret l,by omega,h4,fun i a b=>h5 i (by omega) b⟩
 | f+1,l,r,h1,h2,h3,h4,h5,hs=>by
  rw[kas_place.eq_2]
  by_cases e:l >= r
  ·rw[if_pos e]
   exact⟨l,.ret l,by omega,h4,fun i a b=>h5 i (by omega) b⟩
  ·rw[if_neg e]
   have hm1:l<=(l+r) / 2:=by omega
   have hm2:(l+r) / 2<r:=by omega
   cases hc:lt (p.getD k 0) (p.getD ((l+r) / 2) 0) with
   | true =>
    obtain⟨l',r1,r2,r3,r4⟩:=z5n P hk f l ((l+r) / 2) (by omega) (by omega) (by omega) h4 (fun i a b=>by
     by_cases q:i=(l+r) / 2
     ·rw[q];exact hc
     ·exact O.trans _ _ _ hc (hs _ i (by omega) b)) hs
    refine⟨l',.ask (P.lt hk) (P.lt (by omega)) ?_,r2,r3,r4⟩
    rw[hc]
    exact r1
   | false =>
    have hne:p.getD ((l+r) / 2) 0≠p.getD k 0:=fun e=>by have:=P.inj (by omega) hk e;omega
    have hl:lt (p.getD ((l+r) / 2) 0) (p.getD k 0)=true:=by
     rcases O.tot _ _ (P.lt (by omega)) (P.lt hk) hne with q|q
     ·exact q
     ·rw[q] at hc;cases hc
    obtain⟨l',r1,r2,r3,r4⟩:=z5n P hk f ((l+r) / 2+1) r (by omega) (by omega) h3 (fun i a=>by
     by_cases q:i=(l+r) / 2
     ·rw[q];exact hl
     ·exact O.trans _ _ _ (hs i _ (by omega) (by omega)) hl) h5 hs
    refine⟨l',.ask (P.lt hk) (P.lt (by omega)) ?_,r2,r3,r4⟩
    rw[hc]
    exact r1
theorem zgi:∀(f:Nat) {p:Array Nat} {k:Nat},Per n p->f+k=n->1<=k->SP lt p k->∃q,RunK lt n (kas_bin f p k) q/\Per n q/\SP lt q n
 | 0,p,k,P,h1,h2,h3=>⟨p,.ret p,P,(by have e:k=n:=(by omega);exact e▸h3)⟩
 | f+1,p,k,P,h1,h2,h3=>by
  rw[kas_bin.eq_2]
  have hs:=P.size
  obtain⟨l,r1,r2,r3,r4⟩:=z5n O P (k:=k) (by omega) k 0 k (by omega) (by omega) (y0o _) (fun i a=>by omega) (fun i a b=>by omega) h3
  have P':Per n (bubble p k (k - l)):=(Array.perm_iff_toList_perm.mp (bubble_perm p k (k - l))).trans P
  have hg:∀i,(bubble p k (k - l)).getD i 0=if i=l then p.getD k 0 else if l<i/\i<=k then p.getD (i - 1) 0 else p.getD i 0:=fun i=>by
   have:=getElem?_bubble (xs:=p) (src:=k) (by omega) (k - l) (by omega) i
   rw[show k - (k - l)=l from by omega] at this
   rw[Array.getD_eq_getD_getElem?,this]
   simp only[Array.getD_eq_getD_getElem?]
   split
   ·rfl
   ·split <;> rfl
  have hsp:SP lt (bubble p k (k - l)) (k+1):=fun i j a b=>by
   rw[hg i,hg j]
   by_cases i1:i=l
   ·rw[if_pos i1,if_neg (by omega),if_pos (by omega)]
    exact r4 _ (by omega) (by omega)
   ·rw[if_neg i1]
    by_cases j1:j=l
    ·rw[if_pos j1,if_neg (by omega)]
     exact r3 i (by omega)
    ·rw[if_neg j1]
     by_cases i2:l<i/\i<=k
     ·rw[if_pos i2,if_pos (by omega)]
      exact h3 _ _ (by omega) (by omega)
     ·rw[if_neg i2]
      by_cases j2:l<j/\j<=k
      ·rw[if_pos j2]
       by_cases q:i=j - 1
       ·omega
       ·exact h3 _ _ (by omega) (by omega)
      ·rw[if_neg j2]
       exact h3 _ _ a (by omega)
  obtain⟨q,q1,q2,q3⟩:=zgi f P' (k:=k+1) (by omega) (by omega) hsp
  exact⟨q,z1o r1 q1,q2,q3⟩
theorem zh3 (h2:2<=n):∃q,RunK lt n (kas_sort n) q/\Per n q/\SP lt q n:=by
 have P:Per n (List.range n).toArray:=by
  unfold Per
  exact .rfl
 obtain⟨k,p,c1,c2,c3,c4,c5⟩:=zga O P h2
 by_cases e:k<n
 ·obtain⟨q,b1,b2,b3⟩:=zgi O (n - max k 1) (k:=max k 1) c4 (by omega) (by omega) (by rw[show max k 1=k from by omega];exact c5)
  refine⟨q,z1o c1 ?_,b2,b3⟩
  simp only
  rw[if_pos e]
  exact b1
 ·refine⟨p,z1o c1 ?_,c4,?_⟩
  ·simp only
   rw[if_neg e]
   exact .ret _
  ·have:k=n:=by omega
   exact this▸c5
end
end D
end
section
namespace D
open PySem
variable [Tbl]
def ltL:List Int->List Int->Bool
 | [],[]=>false
 | [],_::_=>true
 | _::_,[]=>false
 | a::x,b::y=>decide (a<b) || (decide (a=b) && ltL x y)
abbrev lLe (x y:List Int):Prop:=ltL y x=false
theorem zf7:∀x:List Int,ltL x x=false
 | []=>rfl
 | a::x=>by simp[ltL,zf7 x]
theorem z30:∀{x y:List Int},ltL x y=true->ltL y x=false
 | [],[],h=>by cases h
 | [],_::_,_=>rfl
 | _::_,[],h=>by cases h
 | a::x,b::y,h=>by
  simp only[ltL,Bool.or_eq_true,y19,decide_eq_true_eq] at h
  simp only[ltL,Bool.or_eq_false_iff,Bool.and_eq_false_iff,decide_eq_false_iff_not]
  rcases h with h|⟨h1,h2⟩
  ·exact⟨by omega,.inl (by omega)⟩
  ·exact⟨by omega,.inr (z30 h2)⟩
theorem z5y:∀{x y z:List Int},lLe x y->lLe y z->lLe x z
 | [],_,[],_,_=>rfl
 | [],_,_::_,_,_=>rfl
 | _::_,[],[],h1,_=>by cases h1
 | _::_,_::_,[],_,h2=>by cases h2
 | _::_,[],_::_,h1,_=>by cases h1
 | a::x,b::y,c::z,h1,h2=>by
  simp only[lLe,ltL,Bool.or_eq_false_iff,Bool.and_eq_false_iff,decide_eq_false_iff_not] at h1 h2 ⊢
  refine⟨by omega,?_⟩
  by_cases q:c=a
  ·have q1:b=a:=by omega
   have q2:c=b:=by omega
   rcases h1.2 with z1|z1
   ·exact absurd q1 z1
   ·rcases h2.2 with z2|z2
    ·exact absurd q2 z2
    ·exact .inr (z5y z1 z2)
  ·exact .inl q
theorem z7w:∀{x y:List Int},lLe x y->lLe y x->x=y
 | [],[],_,_=>rfl
 | [],_::_,_,h=>by cases h
 | _::_,[],h,_=>by cases h
 | a::x,b::y,h1,h2=>by
  simp only[lLe,ltL,Bool.or_eq_false_iff,Bool.and_eq_false_iff,decide_eq_false_iff_not] at h1 h2
  have q:a=b:=by omega
  rw[q,z7w (h1.2.resolve_left fun z=>z q.symm) (h2.2.resolve_left fun z=>z q)]
def insL (x:List Int):List (List Int)->List (List Int)
 | []=>[x]
 | y::ys=>if ltL y x=false then x::y::ys else y::insL x ys
def za8:List (List Int)->List (List Int)
 | []=>[]
 | x::xs=>insL x (za8 xs)
theorem z66 (x:List Int):∀l,(insL x l).Perm (x::l)
 | []=>.rfl
 | y::ys=>by
  unfold insL
  split
  ·exact .rfl
  ·exact ((z66 x ys).cons y).trans (.swap x y ys)
theorem z6r:∀l,(za8 l).Perm l
 | []=>.rfl
 | x::xs=>(z66 x _).trans ((z6r xs).cons x)
theorem zfq (x:List Int):∀{l:List (List Int)},l.Pairwise lLe->(insL x l).Pairwise lLe
 | [],_=>by simp[insL]
 | y::ys,h=>by
  have h':=y16.mp h
  unfold insL
  split
  next q =>
   refine y16.mpr ⟨fun z hz=>?_,h⟩
   rcases y09.mp hz with rfl|hz
   ·exact q
   ·exact z5y q (h'.1 z hz)
  next q =>
   refine y16.mpr ⟨fun z hz=>?_,zfq x h'.2⟩
   rcases y09.mp ((z66 x ys).mem_iff.mp hz) with rfl|hz
   ·rw[Bool.not_eq_false] at q
    exact z30 q
   ·exact h'.1 z hz
theorem zbb:∀l,(za8 l).Pairwise lLe
 | []=>.nil
 | x::xs=>zfq x (zbb xs)
theorem zbc {l m:List (List Int)} (p:l.Perm m) (h:l.Pairwise lLe):l=za8 m:=z12 (fun a b h1 h2=>z7w h1 h2) (p.trans (z6r m).symm) h (zbb m)
def z6v:List T->Option (List (List Int))
 | []=>some []
 | .tuple xs::ts=>(z3e xs).bind fun r=>(z6v ts).map fun rs=>r::rs
 | _::_=>none
def rowT (r:List Int):T:=.tuple (r.map .int)
noncomputable def z3n:List T->Option T
 | [.list xs]=>if xs.length<64 then (z6v xs).bind fun rs=>if rs.Nodup/\∀r∈rs,r≠[] then some (.list ((za8 rs).map rowT)) else none else none
 | _=>none
end D
end
section
namespace D
open PySem PySem.Spec PyProof.Rows L2
section
variable [Tbl]
open PySem.W (kas_ask kas_sort kat_run kat_snds kat_lt kat_kind KatTups KatLex KatGo kas_item KasT)
section
variable {prog:y0q} {w:World} {A:Around} {E:Value->y04->Prop} {s:y04}
theorem ze7 {us:List Value}:(List.range us.length).map (fun i=>us.getD i Value.none)=us:=by
 refine List.ext_getElem? fun i=>?_
 rw[y13]
 rcases Nat.lt_or_ge i us.length with q|q
 ·simp[List.getElem?_range q,q]
 ·simp[List.getElem?_eq_none,q]
theorem z8k {a:Addr} {us:List Value} {n:Nat} {P:Fin->y04->Prop} (hL:s.heap.get? a=some (seqObj "list" us.toArray n)) (hz:us.length<64) {ans:Nat->Nat->Bool} (O:OrdK us.length ans) (κ:SortKind)
  (hK:2<=us.length->∀h':Heap,(∀b o,b≠a->s.heap.get? b=some o->h'.get? b=some o)->∀G:SortKind->y04->Prop,G κ { s with heap:=h' }->y0u (model prog w) A (keyKind' us.toArray) G (fun _ _=>False) { s with heap:=h' })
  (hC:∀h':Heap,(∀b o,b≠a->s.heap.get? b=some o->h'.get? b=some o)->∀i j (C:Bool->y04->Prop),i<us.length->j<us.length->C (ans i j) { s with heap:=h' }->kas_ask prog w A κ us i j C { s with heap:=h' })
  (fin:∀q:Array Nat,Per us.length q->SP ans q us.length->P (.done (.ret .none)) { s with heap:=sortedHeap s.heap a us (q.toList.map fun i=>us.getD i Value.none).toArray }) :
  y0u (model prog w) A (Builtin.«list.sort» ⟨[.ref a],[]⟩) P E s:=by
 have hlt:a<s.heap.objs.size:=y0c hL
 obtain⟨c1,hL1⟩:∃c1,(s.heap.update a (Obj.mapSeq fun _=>(#[]:Array Value))).get? a=some (seqObj "list" #[] c1):=⟨_,get?_update_seq hL (fun _=>#[])⟩
 have up:∀{b:Addr} {o:Obj},(s.heap.update a (Obj.mapSeq fun _=>(#[]:Array Value))).get? b=some o->(((s.heap.update a (Obj.mapSeq fun _=>(#[]:Array Value))).push (seqObj "tuple" us.toArray 0)).push (seqObj "list" #[] 0)).get? b=some o:=fun e=>y03 _ (y03 _ e)
 have hL2:=up hL1
 have keep:∀b o,b≠a->s.heap.get? b=some o->(((s.heap.update a (Obj.mapSeq fun _=>(#[]:Array Value))).push (seqObj "tuple" us.toArray 0)).push (seqObj "list" #[] 0)).get? b=some o:=fun b o hb e=>up ((Heap.get?_update_other _ _ (Ne.symm hb)).trans e)
 have hsize:us.toArray.size=us.length:=y0h
 have hline:us.length<=y0j:=by rw[sizeLine_eq];omega
 rw[list_sort_plain]
 refine y02 (listItems_at hL rfl (y02 (listUpdate_at hL rfl ?_ (by rw[hsize];exact hline) (y1z _))))
 refine y02 (seqEpoch_at hL1 rfl (y02 (wpAny_newTuple ?_ (by show us.length<=_;exact hline))))
 refine y02 (wpAny_newList (wpAny_holding ?_) (y1z _))
 show y0u _ _ _ P E { s with heap:=((s.heap.update a (Obj.mapSeq fun _=>(#[]:Array Value))).push (seqObj "tuple" us.toArray 0)).push (seqObj "list" #[] 0) }
 dsimp only
 by_cases few:us.toArray.size<2
 ·rw[if_pos few,if_pos few]
  refine y02 (y06 ?_)
  rw[StateT.run_pure]
  refine y02 (y06 ?_)
  dsimp only
  have hout:(arrOf (SortSt.mk' general' (us.toArray.zip us.toArray) #[] 7 none)).map (·.2)=((List.range us.length).toArray.toList.map fun i=>us.getD i Value.none).toArray:=by
   rw[show (List.range us.length).toArray.toList=List.range us.length from rfl,ze7]
   refine Array.ext' ?_
   show ((us.toArray.zip us.toArray).map (·.2)).toList=us
   simp[Array.toList_map,List.map_snd_zip]
  rw[hout]
  refine y02 (seqEpoch_at hL2 rfl (y02 (listUpdate_at hL2 rfl ?_ (y1z _) (by simp only[y0h,y12,List.length_range];exact Nat.le_succ_of_le hline))))
  simp only[bne_self_eq_false,y1o,if_false]
  exact y06 (fin (List.range us.length).toArray (by unfold Per;exact .rfl) fun i j h1 h2=>by omega)
 ·rw[if_neg few,if_neg few]
  have h2:2<=us.length:=by omega
  obtain⟨q,q1,q2,q3⟩:=zh3 O h2
  refine y02 (y1b (hK h2 _ keep (fun κ' s'=>κ'=κ/\s'={ s with heap:=((s.heap.update a (Obj.mapSeq fun _=>(#[]:Array Value))).push (seqObj "tuple" us.toArray 0)).push (seqObj "list" #[] 0) }) ⟨rfl,rfl⟩) (fun κ' s' hk=>?_) fun _ _ x=>x.elim)
  obtain⟨rfl,rfl⟩:=hk
  refine y02 (y1b (kat_run (Q:=fun st' s'=>arrOf st'=q.map (kas_item (us.toArray.zip us.toArray))/\failedOf st'=none/\s'={ s with heap:=((s.heap.update a (Obj.mapSeq fun _=>(#[]:Array Value))).push (seqObj "tuple" us.toArray 0)).push (seqObj "list" #[] 0) }) (G:=fun p' s'=>p'=q/\s'={ s with heap:=((s.heap.update a (Obj.mapSeq fun _=>(#[]:Array Value))).push (seqObj "tuple" us.toArray 0)).push (seqObj "list" #[] 0) })
   rfl h2 hz (fun p' st' s' z1 z2 z3 z4=>⟨by rw[z2,z4.1],z3,z4.2⟩) (zk6 q1 _ (hC _ keep) ⟨rfl,rfl⟩)) (fun r s' hr=>?_) fun _ _ x=>x)
  obtain⟨⟨⟩,st'⟩:=r
  obtain⟨r1,r2,rfl⟩:=hr
  dsimp only at r1 r2 ⊢
  rw[kat_snds rfl r1,r2]
  refine y02 (seqEpoch_at hL2 rfl (y02 (listUpdate_at hL2 rfl ?_ (y1z _) (by simp only[y0h,y12,y1u,q2.size];exact Nat.le_succ_of_le hline))))
  simp only[bne_self_eq_false,y1o,if_false]
  exact y06 (fin q q2 q3)
theorem za6 {r:Addr} {us:List Value} {Out:List Value->Prop} {Q:Value->y04->Prop} (hz:us.length<64)
  (hcol:∀(E':Value->y04->Prop) (R:List Value->y04->Prop),(∀h' tk d,(∀b o,s.heap.get? b=some o->h'.get? b=some o)->s.heap.objs.size<=h'.objs.size->R us { s with heap:=h',toks:=tk,drawn:=d })->y0u (model prog w) A.in1 (collect (.ref r)) R E' s)
  (hsort:∀(A':Around) (h':Heap) (tk:Nat) (d:Drawn) (a:Addr) (P:Fin->y04->Prop) (E':Value->y04->Prop),(∀b o,s.heap.get? b=some o->h'.get? b=some o)->s.heap.objs.size<=a->h'.get? a=some (seqObj "list" us.toArray 0) ->
   (∀out:List Value,Out out->P (.done (.ret .none)) { s with heap:=sortedHeap h' a us out.toArray,toks:=tk,drawn:=d })->y0u (model prog w) A' (Builtin.«list.sort» ⟨[.ref a],[]⟩) P E' { s with heap:=h',toks:=tk,drawn:=d })
  (h:∀h' tk d D e out,Out out->(∀b o,s.heap.get? b=some o->h'.get? b=some o)->s.heap.objs.size<=D->h'.get? D=some (seqObj "list" out.toArray e)->Q (.ref D) { s with heap:=h',toks:=tk,drawn:=d }) :
  y0u (model prog w) A (call (.builtin "sorted") [.ref r]) Q E s:=by
 refine Calls.call_function_entry kind_sorted plain_sorted entry_sorted (args_sorted1 _) ?_
 unfold Builtin.«sorted»
 refine y02 (m:=checkCount "sorted" 1 1 _) (y06 ?_)
 refine y02 (hcol _ _ fun h' tk d kp hsz=>?_)
 refine y02 (wpAny_newList ?_ (by rw[sizeLine_eq];omega))
 have hN:(h'.push (seqObj "list" us.toArray 0)).get? h'.objs.size=some (seqObj "list" us.toArray 0):=y0l _ rfl
 refine y02 (wpAny_holding (wpAny_call_entry slot_list_sort ⟨_,hN,rfl⟩ entry_list_sort (hsort _ _ tk d _ _ _ (fun b o e=>y03 _ (kp b o e)) hsz hN fun out so=>⟨_,rfl,?_⟩) (args_list_sort _)))
 obtain⟨⟨e,he⟩,hk⟩:=z2s (out:=out.toArray) hN
 refine y06 ⟨_,rfl,?_⟩
 exact h _ tk d h'.objs.size e out so (fun b o q=>hk b o (y0y (y0c (kp b o q))) (y03 _ (kp b o q))) hsz he
theorem zbr {b:Bool} {Q:Bool->y04->Prop}:∀{xs ys:List Value} {r t:List Int} {i:Nat},IntsAre xs r->IntsAre ys t->Q (ltL r t) s->KatLex prog w A b (decide (r.length<t.length)) Q (xs.zip ys) i s
 | _,_,_,_,_,.nil,.nil,h=>h
 | _,_,_,_,_,.nil,.cons n t _,h=>by
  simpa [KatLex,ltL] using h
 | _,_,_,_,_,.cons n t _,.nil,h=>by
  simpa [KatLex,ltL] using h
 | _,_,_,_,i,.cons m t h1,.cons n u h2,h=>by
  refine PySem.W.kat_cons (wpAny_eqBool_int ?_)
  by_cases e:m=n
  ·subst e
   rw[beq_self_eq_true]
   refine PySem.W.kat_yes ?_
   have z:=zbr (b:=b) (i:=i+1) (Q:=Q) h1 h2 (by simpa [ltL] using h)
   simp only[y0w,Nat.add_lt_add_iff_right]
   exact z
  ·rw[beq_eq_false_iff_ne.mpr e]
   have hq:Q (decide (m<n)) s:=by simpa [ltL,e] using h
   refine PySem.W.kat_no ?_
   cases b && i == 0 with
   | true=>exact oneLt_int hq
   | false=>exact PySem.W.kat_one _ _ (PyProof.Rows.lt_int hq)
end
theorem z94 {x y z:List Int} (h1:ltL x y=true) (h2:ltL y z=true):ltL x z=true:=by
 cases h:ltL x z with
 | true=>rfl
 | false =>
  have:lLe z y:=z5y (show lLe z x from h) (z30 h1)
  rw[show ltL y z=false from this] at h2
  cases h2
theorem zf6 {x y:List Int} (h:x≠y):ltL x y=true\/ltL y x=true:=by
 cases h1:ltL x y with
 | true=>exact .inl rfl
 | false =>
  cases h2:ltL y x with
  | true=>exact .inr rfl
  | false=>exact absurd (z7w (show lLe x y from h2) (show lLe y x from h1)) h
inductive RowsAt (h:Heap):List Value->List (List Int)->Prop
 | nil:RowsAt h [] []
 | cons {a:Addr} {o:Obj} {xs:Array Value} {n:Nat} {r:List Int} {us:List Value} {rs:List (List Int)}:h.get? a=some o->o.cls=.type "tuple"->o.data=.seq xs n->IntsAre xs.toList r->RowsAt h us rs->RowsAt h (.ref a::us) (r::rs)
theorem RowsAt.len {h:Heap} {us:List Value} {rs:List (List Int)} (R:RowsAt h us rs):us.length=rs.length:=by
 induction R with
 | nil=>rfl
 | cons _ _ _ _ _ ih=>simp[ih]
theorem RowsAt.at_ {h:Heap} {us:List Value} {rs:List (List Int)} (R:RowsAt h us rs):∀{i:Nat},i<us.length->∃a o xs n,us.getD i Value.none=.ref a/\h.get? a=some o/\o.cls=.type "tuple"/\o.data=.seq xs n/\IntsAre xs.toList (rs.getD i []):=by
 induction R with
 | nil=>intro i hi;simp at hi
 | cons h1 h2 h3 h4 _ ih =>
  intro i hi
  cases i with
  | zero=>exact⟨_,_,_,_,rfl,h1,h2,h3,h4⟩
  | succ i=>simpa using ih (by simpa using hi)
theorem RowsAt.keep {h h':Heap} {us:List Value} {rs:List (List Int)} (R:RowsAt h us rs) (k:∀b o,h.get? b=some o->h'.get? b=some o):RowsAt h' us rs:=by
 induction R with
 | nil=>exact .nil
 | cons h1 h2 h3 h4 _ ih=>exact .cons (k _ _ h1) h2 h3 h4 ih
theorem RowsAt.tups {h:Heap} {us:List Value} {rs:List (List Int)} (R:RowsAt h us rs) (hne:∀r∈rs,r≠[]):∃fs,KatTups h us fs/\fs.length=us.length/\∀v∈fs,∃i t,v=.int i t:=by
 induction R with
 | nil=>exact⟨[],trivial,rfl,by simp⟩
 | @cons a o xs n r us rs h1 h2 h3 h4 _ ih =>
  obtain⟨fs,f1,f2,f3⟩:=ih fun r hr=>hne r (by simp[hr])
  have hr:=hne r (by simp)
  cases hx:xs.toList with
  | nil =>
   rw[hx] at h4
   cases h4
   exact absurd rfl hr
  | cons v vs =>
   rw[hx] at h4
   cases h4 with
   | cons m t h4 =>
    refine⟨.int m t::fs,⟨⟨a,o,xs,n,rfl,h1,h2,h3,?_⟩,f1⟩,by simp[f2],fun v hv=>?_⟩
    ·rw[<- Array.getElem?_toList,hx]
     rfl
    ·rcases y09.mp hv with rfl|hv
     ·exact⟨m,t,rfl⟩
     ·exact f3 v hv
section
variable {X:Cx}
theorem ze1 {pins:List (Addr×Obj)} {σ:L2.St} {H:Hp} {s:y04} {F:Addr->Prop} (I:Inv X pins σ H s):∀{rs:List (List Int)} {vs:List V} {us:List Value},RepL X.K F H (rs.map rowT) vs->Vals vs us->RowsAt s.heap us rs
 | [],vs,us,h,r=>by
  have:vs=[]:=by simpa [RepL] using h
  subst this
  cases r
  exact .nil
 | q::rs,vs,us,h,r=>by
  simp only[y0d,RepL] at h
  obtain⟨v,vs',rfl,h1,h2⟩:=h
  simp only[rowT,Rep] at h1
  obtain⟨a,ws,rfl,h3,h4⟩:=h1
  rw[z6y h4] at h3
  cases r with
  | cons r1 r2 =>
   cases r1
   obtain⟨its,z1,⟨o,z2,z3,n,z4⟩,_⟩:=I.tuple h3
   exact .cons z2 z3 z4 (by simpa using zd1 z1) (ze1 I h2 r2)
theorem z5o {vs:List V} {us:List Value} (r:Vals vs us):∀{l:List Nat},(∀i∈l,i<us.length)->Vals (l.map fun i=>vs.getD i .non) (l.map fun i=>us.getD i Value.none)
 | [],_=>.nil
 | i::l,h=>by
  have hi:=h i (by simp)
  have hi':i<vs.length:=by rw[r.length];exact hi
  obtain⟨u,e1,e2⟩:=Vals.get r (i:=i) (x:=vs[i]) (by simp[hi'])
  refine .cons ?_ (z5o r fun i h'=>h i (by simp[h']))
  show L2.RelV (vs.getD i .non) (us.getD i Value.none)
  rw[List.getD_eq_getElem?_getD,List.getD_eq_getElem?_getD,e1,y0v hi']
  exact e2
theorem zj7 {K:y00} {F:Addr->Prop} {H:Hp}:∀{rs:List (List Int)} {vs:List V} {i:Nat},RepL K F H (rs.map rowT) vs->i<rs.length->Rep K F H (rowT (rs.getD i [])) (vs.getD i .non)
 | [],vs,i,h,hi=>by simp at hi
 | q::rs,vs,i,h,hi=>by
  simp only[y0d,RepL] at h
  obtain⟨v,vs',rfl,h1,h2⟩:=h
  cases i with
  | zero=>exact h1
  | succ i=>simpa using zj7 h2 (by simpa using hi)
theorem zbk {K:y00} {F:Addr->Prop} {H:Hp} {rs:List (List Int)} {vs:List V} (h:RepL K F H (rs.map rowT) vs):∀{l:List Nat},(∀i∈l,i<rs.length)->RepL K F H ((l.map fun i=>rs.getD i []).map rowT) (l.map fun i=>vs.getD i .non)
 | [],_=>RepL.nil
 | i::l,hl=>RepL.cons (zj7 h (hl i (by simp))) (zbk h fun i h'=>hl i (by simp[h']))
theorem zej {rs:List (List Int)} {q:Array Nat} (P:Per rs.length q) (S:SP (fun i j=>ltL (rs.getD i []) (rs.getD j [])) q rs.length):q.toList.map (fun i=>rs.getD i [])=za8 rs:=by
 refine zbc ?_ ?_
 ·have e:(List.range rs.length).map (fun i=>rs.getD i [])=rs:=by
   refine List.ext_getElem? fun i=>?_
   rw[y13]
   rcases Nat.lt_or_ge i rs.length with z|z
   ·simp[List.getElem?_range z,z]
   ·simp[List.getElem?_eq_none,z]
  have:=List.Perm.map (fun i=>rs.getD i []) P
  rw[e] at this
  exact this
 ·rw[List.pairwise_map,List.pairwise_iff_getElem]
  intro i j hi hj hij
  have hs:=P.size
  have hj':j<rs.length:=by simpa [hs] using hj
  have:=S i j hij hj'
  have ei:q.getD i 0=q.toList[i]:=by
   have:i<q.size:=by omega
   simp[Array.getD,this]
  have ej:q.getD j 0=q.toList[j]:=by
   have:j<q.size:=by omega
   simp[Array.getD,this]
  rw[ei,ej] at this
  exact z30 this
theorem z9o (hc:X.calm=true):z3v X (.builtin "sorted") (fun xs H Q=>∃p vs F rs,xs=[.ref p]/\SqL X.K H p vs/\RepL X.K F H (rs.map rowT) vs/\rs.length<64/\rs.Nodup/\(∀r∈rs,r≠[])/\∀l ys,H l=none->RepL X.K F H ((za8 rs).map rowT) ys->Q (.ref l) (upd H l (.lst ys))):=by
 intro pins s σ H xs us Q I r h
 obtain⟨p,vs,F,rs,rfl,hq,hrep,hz,nd,hne,q⟩:=h
 obtain⟨u,rfl,rx⟩:=z8d r
 cases rx
 obtain⟨its,r',pl,hz'⟩:=I.list hq
 have RA:=ze1 I hrep r'
 have hl:=RA.len
 have O:OrdK its.length (fun i j=>ltL (rs.getD i []) (rs.getD j [])):=by
  refine⟨fun i j h=>z30 h,fun i j k h1 h2=>z94 h1 h2,fun i j hi hj hne'=>zf6 fun e=>hne' ?_⟩
  rw[hl] at hi hj
  have e1:rs.getD i []=rs[i]:=by simp[hi]
  have e2:rs.getD j []=rs[j]:=by simp[hj]
  rw[e1,e2] at e
  have pw:=List.pairwise_iff_getElem.mp nd
  rcases Nat.lt_trichotomy i j with z|z|z
  ·exact absurd e (pw i j hi hj z)
  ·exact z
  ·exact absurd e.symm (pw j i hj hi z)
 refine za6 (us:=its) (Out:=fun out=>∃q:Array Nat,Per its.length q/\SP (fun i j=>ltL (rs.getD i []) (rs.getD j [])) q its.length/\out=q.toList.map fun i=>its.getD i Value.none) (by rw[hl];exact hz)
  (fun E' R hR=>collect_list pl.isList (hR _ s.toks s.drawn (fun b o e=>(Heap.get?_update_other _ _ (y14 (y0c e))).trans (y03 _ e)) (by rw[Heap.size_update,y15];exact Nat.le_succ _)) (by rw[sizeLine_eq];omega))
  (fun A' h' tk d a P E' kp ha hL fin=>?_) fun h' tk d D e out ho kp hD he=>?_
 ·have ne_of:∀{b:Addr} {o:Obj},s.heap.get? b=some o->b≠a:=fun e=>y0y (y0x (y0c e) ha)
  refine z8k (s:={ s with heap:=h',toks:=tk,drawn:=d }) hL (by rw[hl];exact hz) O (tuples' true) (fun _ h2 k2 G hG=>?_) (fun h2 k2 i j C hi hj hC=>?_) fun q q1 q2=>fin _ ⟨q,q1,q2,rfl⟩
  ·have R2:RowsAt h2 its rs:=RA.keep fun b o e=>k2 b o (ne_of e) (kp b o e)
   obtain⟨fs,f1,f2,f3⟩:=R2.tups hne
   exact kat_kind (T:=.type "int") f1 (by omega) (fun v hv=>by
    obtain⟨i,t,rfl⟩:=f3 v hv
    exact .now) (by decide +kernel) hG
  ·have R2:RowsAt h2 its rs:=RA.keep fun b o e=>k2 b o (ne_of e) (kp b o e)
   obtain⟨a1,o1,x1,n1,e1,g1,_,d1,i1⟩:=R2.at_ hi
   obtain⟨a2,o2,x2,n2,e2,g2,_,d2,i2⟩:=R2.at_ hj
   unfold kas_ask
   rw[e1,e2]
   refine kat_lt g1 d1 g2 d2 ?_
   have z1:x1.size=(rs.getD i []).length:=by rw[<- i1.length];simp
   have z2:x2.size=(rs.getD j []).length:=by rw[<- i2.length];simp
   rw[z1,z2]
   exact zbr i1 i2 hC
 ·obtain⟨q',q1,q2,rfl⟩:=ho
  have hq':∀i∈q'.toList,i<its.length:=fun i hi=>List.mem_range.mp (q1.mem_iff.mp hi)
  have hv:=z5o r' hq'
  have hR:=zbk hrep (l:=q'.toList) fun i hi=>by rw[<- hl];exact hq' i hi
  rw[zej (by rw[<- hl];exact q1) (by rw[<- hl];exact q2)] at hR
  exact⟨.ref D,_,z62 I (o:=.lst (q'.toList.map fun i=>vs.getD i .non)) kp hD ⟨by rw[hv.length,y12,y1u,q1.size,sizeLine_eq];omega,_,e,hv,he⟩,rfl,q _ _ (I.hok.fresh hD) hR⟩
theorem z8o:∀{ts:List T} {rs:List (List Int)},z6v ts=some rs->ts=rs.map rowT
 | [],rs,e=>by
  cases e
  rfl
 | t::ts,rs,e=>by
  unfold z6v at e
  split at e
  ·rename_i h
   cases h
  ·rename_i h
   cases h
   simp only[y01,y07] at e
   obtain⟨r,e1,rs',e2,rfl⟩:=e
   rw[z4g e1,z8o e2]
   rfl
  ·cases e
variable {e:Expr} {es:List Expr} {fs:List Fe} {p pos:Pos}
theorem ze8 (hc:X.calm=true) (hm:X.mg "sorted"=none) (ha:PAr X (e::es) fs) (hg:Gl X "sorted":=by rfl) (he:y0a (e::es) X.env=(false,eval e X.env)::y0a es X.env:=by rfl) (hpl:(backTo pos (y0a es X.env)).any (·.1)=false:=by rfl) :
  PEv X (.Call (.Name "sorted" p) (e::es) [] pos) (opN z3n fs):=z0s (z2x (z9o hc) hg hm (by decide +kernel) ha (he:=he) (hpl:=hpl)) (z42 (by
 intro O F H ts t vs Q d q e k
 unfold z3n at e
 split at e
 ·split at e
  next hz =>
   simp only[y01] at e
   obtain⟨rs,e1,e2⟩:=e
   split at e2
   next hc2 =>
    cases e2
    have hxs:=z8o e1
    subst hxs
    cases q with
    | cons q1 q2 =>
     cases q2
     obtain⟨l0,ws,rfl,hl,hr⟩:=q1.lst
     refine⟨l0,ws,F,rs,rfl,.inl hl,hr,by simpa using hz,hc2.1,hc2.2,fun l ys hl1 hy=>?_⟩
     have x1:=Ext.laidF (o:=.lst ys) d hl1
     refine k _ _ _ x1 ?_
     simp only[Rep]
     exact⟨l,ys,rfl,.inr rfl,.inl z05,hy.ext x1⟩
   next=>cases e2
  next=>cases e
 ·cases e))
end
end
section
variable [Tbl]
section
variable {prog:y0q} {w:World} {K:Type} [DecidableEq K] {knd:PySem.KeyKind prog w K} {A:Around}
variable {R:Result->y04->Prop} {I:Addr} {fp wr:List Addr} {G:Array GenState->Array GenState->Prop} {St:Nat->y04->Prop} {items:Array Value}
variable {E:Value->y04->Prop} {s:y04}
end
end
section
variable [Tbl]
section
variable {X:Cx}
variable {a b e:Expr} {f g:Fe} {x y:Str} {p px py pos pos2:Pos}
end
end
section
variable [Tbl]
open AutoSeq1 (wpAny_loadPart')
section
variable {X:Cx} {es:List Expr} {k:Nat} {p pos p2:Pos} {a:Expr} {f:Fe}
end
end
section
variable [Tbl]
open AutoSeq1 (wpAny_loadPart')
section
variable {prog:y0q} {w:World} {A:Around} {E:Value->y04->Prop} {s:y04}
end
end
section
variable [Tbl]
def z5r:List T->Option T
 | [.int j]=>if 0<=j/\j<=100000 then some (.tuple (rng 0 j)) else none
 | _=>none
def z88:List T->Option (List Bool)
 | []=>some []
 | .bool b::ts=>(z88 ts).map fun r=>b::r
 | _::_=>none
def oAny:List T->Option T
 | [.list xs]=>(z88 xs).map fun bs=>.bool (bs.any id)
 | _=>none
section
variable {K:y00} {F:Addr->Prop} {H:Hp}
end
section
variable {X:Cx} {a e:Expr} {es:List Expr} {f:Fe} {fs:List Fe} {p p2 pos pos2:Pos}
end
end
section
variable [Tbl]
mutual
noncomputable def ltD:T->T->Option Bool
 | .int a,.int b=>some (decide (a<b))
 | .tuple xs,.tuple ys=>lexD xs ys
 | _,_=>none
noncomputable def lexD:List T->List T->Option Bool
 | [],[]=>some false
 | [],_::_=>some true
 | _::_,[]=>some false
 | x::xs,y::ys=>if y1v x y then lexD xs ys else ltD x y
end
noncomputable def LtAt (A:Around) (s:y04) (y x:Value) (b:Bool):Prop :=
 ∀(prog:y0q) (w:World) (E:Value->y04->Prop) (Q:Value->y04->Prop),Q (.bool b) s->y0u (model prog w) A (richCompare .Lt y x) Q E s
inductive GoodP (A:Around) (s:y04) (fin:Bool):List (Value×Value)->Bool->Prop
 | nil:GoodP A s fin [] fin
 | eq {y x:Value} {r:List (Value×Value)} {b:Bool}:SeqAt.EqAt A s y x true->GoodP A s fin r b->GoodP A s fin ((y,x)::r) b
 | lt {y x:Value} {r:List (Value×Value)} {b:Bool}:SeqAt.EqAt A s y x false->LtAt A s y x b->GoodP A s fin ((y,x)::r) b
section
open PySem.SeqAt
open PySem.AutoSeq1 (wpAny_loadPart')
open PySem.MeetsSeq PySem.MeetsSeq2 PySem.MeetsSeq3
theorem z8e (l b:Addr) (items items2:Array Value) (n n2:Nat) (dd dd2:Option Addr) (sl sl2:Array (Option Value)) (z:Bool) :
  Meets (Builtin.«tuple.__lt__» ⟨[.ref l,.ref b],[]⟩)
   (fun A R s=>s.heap.get? l=some { cls:=.type "tuple",dict:=dd,data:=.seq items n,slots:=sl }/\s.heap.get? b=some { cls:=.type "tuple",dict:=dd2,data:=.seq items2 n2,slots:=sl2 } /\
    GoodP A.in1 s (decide (items.size<items2.size)) (items.toList.zip items2.toList) z/\R (.ok (.ret (.bool z))) s) :=
 .of_wp fun prog w A R s h=>by
  obtain⟨hp,g,d,tk,os⟩:=s;obtain⟨hl,hb,hg,h⟩:=h
  have f2:=AutoSeq1.sub_tuple_tuple
  wp_walk using wpAny_loadPart' hl,wpAny_loadPart' hb,wpAny_forIn_list _ (fun rest b s'=>b.1=none/\s'=⟨hp,g,d,tk,os⟩/\GoodP A.in1 ⟨hp,g,d,tk,os⟩ (decide (items.size<items2.size)) rest z) _
  case turn =>
   rintro⟨y,x⟩ rest b s' ⟨hb',rfl,hG⟩
   cases hG with
   | eq he hG =>
    refine y02 (he prog w _ _ ?_)
    wp_walk
    exact⟨rfl,rfl,hG⟩
   | lt he hlt =>
    refine y02 (he prog w _ _ ?_)
    have hri:=hlt prog w
    wp_walk using hri
    exact⟨_,rfl,h⟩
  case fin =>
   rintro⟨b1,b2⟩ s' ⟨hb',rfl,hG⟩
   simp only at hb'
   subst hb'
   cases hG
   wp_walk
   exact⟨_,rfl,by simpa [Builtin.Tuple.tupleCompareSizes] using h⟩
  case h =>
   exact⟨rfl,rfl,hg⟩
mutual
theorem z7t:∀(da db:T) (A:Around) (s:y04) (a b:Value) (as bs:List Addr) (r:Bool),Reads s.heap a da as->Reads s.heap b db bs->da.canLay0=true->db.canLay0=true->A.units+min da.depth db.depth<cLine->ltD da db=some r->LtAt A s a b r
 | .int i,.int j,A,s,_,_,_,_,r,.int _ t,.int _ u,_,_,_,e=>by
  unfold ltD at e
  cases e
  exact fun prog w E Q q=>(PyProof.Rows.lt_int q:y0u (model prog w) A (compareOp .Lt (.int i t) (.int j u)) Q E s)
 | .tuple xs,.tuple ys,A,s,_,_,_,_,r,.tuple (a:=l) (o:=o) (vs:=vs) (n:=n) h1 h2 h3 h4,.tuple (a:=l') (o:=o') (vs:=vs') (n:=n') k1 k2 k3 k4,ha,hb,hu,e=>by
  unfold ltD at e
  simp only[PyData.canLay0] at ha hb
  simp only[y20] at hu
  have hG:=z78 xs ys A.in1 s vs.toList vs'.toList _ _ r h4 k4 ha hb (room_in hu) e
  obtain⟨cls,dd,data,sl⟩:=o
  obtain⟨cls2,dd2,data2,sl2⟩:=o'
  simp only at h2 h3 k2 k3
  subst h2 h3 k2 k3
  rw[y1u,y1u] at hG
  exact fun prog w E Q q=>richCompare_meets_room (op:=.Lt) ⟨_,h1,rfl⟩ ⟨_,k1,rfl⟩ PySem.F.slot_tuple_lt PySem.F.entry_tuple_lt (PySem.F.args_tuple_lt_2 _ _) (z8e l l' vs vs' n n' dd dd2 sl sl2 r)
   ⟨h1,k1,hG,show Value.bool r≠Value.notImplemented/\Q (.bool r) s from ⟨(fun x=>nomatch x),q⟩⟩ (by omega)
 | .none,_,_,_,_,_,_,_,_,_,_,_,_,_,e=>by simp[ltD] at e
 | .bool _,_,_,_,_,_,_,_,_,_,_,_,_,_,e=>by simp[ltD] at e
 | .str _,_,_,_,_,_,_,_,_,_,_,_,_,_,e=>by simp[ltD] at e
 | .list _,_,_,_,_,_,_,_,_,_,_,_,_,_,e=>by simp[ltD] at e
 | .dict _,_,_,_,_,_,_,_,_,_,_,_,_,_,e=>by simp[ltD] at e
 | .int _,.none,_,_,_,_,_,_,_,_,_,_,_,_,e=>by simp[ltD] at e
 | .int _,.bool _,_,_,_,_,_,_,_,_,_,_,_,_,e=>by simp[ltD] at e
 | .int _,.str _,_,_,_,_,_,_,_,_,_,_,_,_,e=>by simp[ltD] at e
 | .int _,.list _,_,_,_,_,_,_,_,_,_,_,_,_,e=>by simp[ltD] at e
 | .int _,.dict _,_,_,_,_,_,_,_,_,_,_,_,_,e=>by simp[ltD] at e
 | .int _,.tuple _,_,_,_,_,_,_,_,_,_,_,_,_,e=>by simp[ltD] at e
 | .tuple _,.none,_,_,_,_,_,_,_,_,_,_,_,_,e=>by simp[ltD] at e
 | .tuple _,.bool _,_,_,_,_,_,_,_,_,_,_,_,_,e=>by simp[ltD] at e
 | .tuple _,.str _,_,_,_,_,_,_,_,_,_,_,_,_,e=>by simp[ltD] at e
 | .tuple _,.list _,_,_,_,_,_,_,_,_,_,_,_,_,e=>by simp[ltD] at e
 | .tuple _,.dict _,_,_,_,_,_,_,_,_,_,_,_,_,e=>by simp[ltD] at e
 | .tuple _,.int _,_,_,_,_,_,_,_,_,_,_,_,_,e=>by simp[ltD] at e
theorem z78:∀(xs ys:List T) (A:Around) (s:y04) (vs ws:List Value) (as bs:List Addr) (r:Bool),ReadsAll s.heap vs xs as->ReadsAll s.heap ws ys bs->y1e xs=true->y1e ys=true->A.units+min (y1c xs) (y1c ys)<cLine->lexD xs ys=some r->GoodP A s (decide (vs.length<ws.length)) (vs.zip ws) r
 | [],[],A,s,_,_,_,_,r,.nil,.nil,_,_,_,e=>by
  unfold lexD at e
  cases e
  exact .nil
 | [],_::_,A,s,_,_,_,_,r,.nil,.cons _ _,_,_,_,e=>by
  unfold lexD at e
  cases e
  exact GoodP.nil
 | _::_,[],A,s,_,_,_,_,r,.cons _ _,.nil,_,_,_,e=>by
  unfold lexD at e
  cases e
  exact GoodP.nil
 | x::xs,y::ys,A,s,_,_,_,_,r,.cons r1 r2,.cons q1 q2,ha,hb,hu,e=>by
  simp only[y1e,y19] at ha hb
  simp only[y1c] at hu
  unfold lexD at e
  have he:=eqAt_reads x y A s _ _ _ _ r1 q1 ha.1 hb.1 (room_head hu)
  split at e
  next h =>
   rw[h] at he
   have ih:=z78 xs ys A s _ _ _ _ r r2 q2 ha.2 hb.2 (room_tail hu) e
   rw[y1w]
   simp only[y0w,Nat.add_lt_add_iff_right]
   exact .eq he ih
  next h =>
   rw[Bool.not_eq_true] at h
   rw[h] at he
   rw[y1w]
   exact .lt he (z7t x y A s _ _ _ _ r r1 q1 ha.1 hb.1 (room_head hu) e)
end
end
section
variable {prog:y0q} {w:World} {A:Around} {R:Result->y04->Prop} {I:Addr} {fp wr:List Addr} {G:Array GenState->Array GenState->Prop} {St:Nat->y04->Prop} {items:Array Value}
variable {E:Value->y04->Prop} {s:y04}
end
section
variable {X:Cx} {e:Expr} {es:List Expr} {fs:List Fe} {p pos:Pos}
end
end
section
variable [Tbl]
end
end D
end
section
namespace D
open PySem
inductive Ag where
 | v (f:Fe)|o (i:Nat)
abbrev Fx:=Ev->Option (T×Ev)
abbrev Fo:=Ev->Option Sl
def objS (i:Nat) (ε:Ev):Option Sl:=match ε[i]? with
 | some (some (.obj m c fs))=>some (.obj m c fs)
 | _=>none
noncomputable def agsE:List Ag->Ev->Option (List Sl)
 | [],_=>some []
 | .v f::as,ε=>(f ε).bind fun t=>(agsE as ε).map fun ss=>.imm t::ss
 | .o i::as,ε=>(objS i ε).bind fun s=>(agsE as ε).map fun ss=>s::ss
def roS:Sl->Sl
 | .obj _ c fs=>.obj .ro c fs
 | s=>s
def zmx:Fs:=fun _=>none
def z8i (n:Nat) (ss:List Sl):Ev:=ss.map some++y0g (n - ss.length) none
end D
end
section
namespace D
open PySem PySem.Spec PyProof.Rows L2
section
variable [Tbl]
section
variable {K:y00} {F F' O:Addr->Prop} {H H':Hp} {E:En}
end
section
variable {K:y00} {F₀ F F1 O:Addr->Prop} {H H1:Hp} {E:En} {ε ε':Ev} {σ:L2.St} {c C i j:Nat} {ns:List Str}
end
end
section
variable [Tbl]
section
variable {K:y00} {F₀ F O:Addr->Prop} {H:Hp} {E:En} {ε:Ev} {σ:L2.St} {c C i j:Nat} {ns:List Str} {f:Str}
end
section
variable {X:Cx} {c C i j:Nat} {ns:List Str} {f:Str} {o e a:Expr} {g h:Fe} {pos apos:Pos}
end
end
section
variable [Tbl]
noncomputable def za0 (K:y00) (F:Addr->Prop) (H:Hp) (σ:L2.St):List Ag->List Sl->List V->Prop
 | [],[],[]=>True
 | .v _::as,s::ss,v::vs=>(∃t,s=.imm t/\Rep K F H t v)/\za0 K F H σ as ss vs
 | .o i::as,s::ss,v::vs=>σ[i]?=some (some v)/\za0 K F H σ as ss vs
 | _,_,_=>False
def tAG (K:y00) (as:List Ag):TA:=fun σ H Q=>∃F₀ E O F ε ss,RelE K F₀ E O F H ε σ/\agsE as ε=some ss/\∀vs F' H',Ext F H F' H'->za0 K F' H' σ as ss vs->Q vs H'
abbrev PAg (X:Cx) (es:List Expr) (as:List Ag):Prop:=PA X es (tAG X.K as)
theorem znt {X:Cx} {e:List Expr} {t t':TA} (h:PA X e t) (k:∀σ H Q,t' σ H Q->t σ H Q):PA X e t':=za1 h k
section
variable {X:Cx} {e:Expr} {es:List Expr} {as:List Ag} {f:Fe} {i:Nat}
theorem zjq:PAg X [] []:=znt z1a fun σ H Q ⟨F₀,E,O,F,ε,ss,r,e,k⟩=>by
 cases e
 exact k [] F H (Ext.refl r.dom) trivial
theorem ag_v (h1:PEv X e f) (h2:PAg X es as) (hs:y0a (e::es) X.env=(false,eval e X.env)::y0a es X.env:=by rfl):PAg X (e::es) (.v f::as):=znt (z0c h1 h2 hs) fun σ H Q ⟨F₀,E,O,F,ε,ss,r,e,k⟩=>by
 simp only[agsE,y01,y07] at e
 obtain⟨t,et,us,eu,rfl⟩:=e
 exact⟨F₀,E,O,F,ε,t,r,et,fun v F1 H1 x1 q1=>⟨F₀,E,O,F1,ε,us,r.ext x1,eu,fun vs F2 H2 x2 q2=>k _ F2 H2 (x1.trans x2) ⟨⟨t,rfl,q1.ext x2⟩,q2⟩⟩⟩
theorem zey {ε:Ev} {s:Sl} (h:objS i ε=some s):∃m c fs,s=.obj m c fs/\ε[i]?=some (some s):=by
 unfold objS at h
 split at h
 next m c fs e =>
  cases h
  exact⟨m,c,fs,rfl,e⟩
 next=>cases h
end
def zlk (K:y00) (F:Addr->Prop) (H:Hp) (ss:List Sl) (vs:List V):Prop:=Paired (fun s v=>s.isOwn=false/\z1g K ⟨H,0⟩ (fun a=>H a=none) F H s v) ss vs
section
variable {K:y00} {F F' F₀ O:Addr->Prop} {H H':Hp} {E E':En}
theorem Paired.get {α β:Type} {R:α->β->Prop}:∀{xs:List α} {ys:List β} {i:Nat} {x:α},Paired R xs ys->xs[i]?=some x->∃y,ys[i]?=some y/\R x y
 | _,_,i,x,.nil,e=>by simp at e
 | _,_,0,x,.cons r _,e=>by
  simp at e
  subst e
  exact⟨_,rfl,r⟩
 | _,_,i+1,x,.cons _ t,e=>by
  obtain⟨y,h1,h2⟩:=Paired.get (i:=i) (x:=x) t (by simpa using e)
  exact⟨y,by simpa using h1,h2⟩
theorem z8h {ss:List Sl} {n i:Nat} {s:Sl} (h:(z8i n ss)[i]?=some (some s)):ss[i]?=some s:=by
 unfold z8i at h
 by_cases hi:i<ss.length
 ·rw[y1j (by simpa using hi),y13,y0v hi] at h
  rw[y0v hi]
  simpa using h
 ·rw[y1h (by simpa using hi),List.getElem?_replicate] at h
  split at h <;> cases h
theorem zdr {vs:List V} {n i:Nat} {v:V} (h:vs[i]?=some v):(vs.map some++y0g n none)[i]?=some (some v):=by
 have hi:=(y0k.mp h).1
 rw[y1j (by simpa using hi),y13,h]
 rfl
theorem zod {m:Md} {c:Nat} {fs:List Sl} {v:V} (r:z1g K E O F H (.obj m c fs) v) (E':En) (O':Addr->Prop) (he:∀b∈fpS H (.obj m c fs) v,E'.h b≠none):z1g K E' O' F H (.obj .ro c fs) v:=by
 have r':=r
 obtain⟨a,vs,rfl,ha,hf,nd,ow,la⟩:=r
 rw[z4r ha] at he
 exact⟨a,vs,rfl,ha,hf,nd,fun b hb=>⟨(ow b hb).1,he b hb⟩,fun z=>by cases z⟩
theorem zad {ss:List Sl} {vs:List V} (dom:Dom F H) (q:zlk K F H ss vs) (n:Nat):RelE K F ⟨H,0⟩ (fun a=>H a=none) F H (z8i n ss) (vs.map some++y0g (n - vs.length) none):=by
 have hl:ss.length=vs.length:=Paired.length q
 refine⟨by simp[z8i,hl],fun i s e=>?_,fun i j s u v w hij e1 e2 o1=>?_,Ext.refl dom,fun _ h=>h,fun _ h=>h⟩
 ·obtain⟨v,hv,_,rv⟩:=Paired.get q (z8h e)
  exact⟨v,zdr hv,rv⟩
 ·obtain⟨_,_,z,_⟩:=Paired.get q (z8h e1)
  rw[z] at o1
  cases o1
theorem zgq {ε:Ev} {σ:L2.St} (r:RelE K F₀ E O F H ε σ):∀{as:List Ag} {ss:List Sl} {vs:List V},agsE as ε=some ss->za0 K F H σ as ss vs->zlk K F H (ss.map roS) vs
 | [],ss,vs,e,h=>by
  cases e
  cases vs with
  | nil=>exact .nil
  | cons v vs=>exact h.elim
 | .v f::as,ss,vs,e,h=>by
  simp only[agsE,y01,y07] at e
  obtain⟨t,et,us,eu,rfl⟩:=e
  cases vs with
  | nil=>exact h.elim
  | cons v vs =>
   obtain⟨⟨t',e',rt⟩,h⟩:=h
   cases e'
   exact .cons ⟨rfl,rt⟩ (zgq r eu h)
 | .o i::as,ss,vs,e,h=>by
  simp only[agsE,y01,y07] at e
  obtain⟨s,es,us,eu,rfl⟩:=e
  cases vs with
  | nil=>exact h.elim
  | cons v vs =>
   obtain⟨hv,h⟩:=h
   obtain⟨m,c,fs,rfl,hs⟩:=zey es
   obtain⟨v',hv',rs⟩:=r.val i _ hs
   rw[hv] at hv'
   cases hv'
   refine .cons ⟨rfl,zod rs _ _ fun b hb=>?_⟩ (zgq r eu h)
   obtain⟨o,e,_⟩:=rs.at hb
   show H b≠none
   rw[e]
   exact fun z=>by cases z
end
section
variable {P:y0q} {w:World} {K:y00} {mg:Str->Option Value} {base:Heap}
end
theorem za0.len {K:y00} {F:Addr->Prop} {H:Hp} {σ:L2.St}:∀{as:List Ag} {ss:List Sl} {vs:List V},za0 K F H σ as ss vs->vs.length=as.length
 | [],[],[],_=>rfl
 | .v _::as,s::ss,v::vs,h=>by simp[za0.len h.2]
 | .o i::as,s::ss,v::vs,h=>by simp[za0.len h.2]
 | [],[],_::_,h=>h.elim
 | [],_::_,_,h=>h.elim
 | .v _::_,[],_,h=>h.elim
 | .v _::_,_::_,[],h=>h.elim
 | .o _::_,[],_,h=>h.elim
 | .o _::_,_::_,[],h=>h.elim
section
variable {X:Cx} {k n c C i:Nat} {ns:List Str} {d:List Sl->Option T} {x m:Str} {p pos apos:Pos} {o e:Expr} {es:List Expr} {as:List Ag} {fs:List Fe}
end
end
section
variable [Tbl]
section
variable {K:y00} {F F' F₀ O:Addr->Prop} {H H':Hp} {E:En} {P:List Addr} {a b:Addr} {o:HO} {ε:Ev} {σ:L2.St} {c i:Nat} {m:Md} {fs fs':List Sl}
end
section
variable {P:y0q} {w:World} {K:y00} {mg:Str->Option Value} {base:Heap}
end
def tX (K:y00) (f:Fx):TE:=fun σ H Q=>∃F₀ E O F ε t ε',RelE K F₀ E O F H ε σ/\f ε=some (t,ε')/\∀v F' H',Kp K F H F' H'->RelE K F₀ E O F' H' ε' σ->Rep K F' H' t v->Q v H'
abbrev PEx (X:Cx) (e:Expr) (f:Fx):Prop:=PE X e (tX X.K f)
section
variable {X:Cx} {k n c C i:Nat} {ns:List Str} {d:List Sl->Option (T×List Sl)} {x m:Str} {p pos apos:Pos} {o e:Expr} {es:List Expr} {fs gs:List Fe} {fx:Fx}
theorem zk4 {st:Stmt}:PSt X st zmx:=fun pins s σ H D I ⟨F₀,E,O,F,ε,o,r,e,k⟩=>by cases e
end
end
section
variable [Tbl]
section
variable {P:y0q} {w:World} {K:y00} {mg:Str->Option Value} {base:Heap}
end
section
variable {X:Cx} {k n c C i j:Nat} {ns:List Str} {x m f:Str} {p pos apos:Pos} {o e:Expr} {es:List Expr} {fs:List Fe} {fo:Fo}
end
end
section
variable [Tbl]
open AutoSeq1 (wpAny_loadPart')
section
variable {X:Cx} {a e o:Expr} {f g:Fe} {p pos apos:Pos}
end
section
variable {X:Cx} {c C i j:Nat} {ns:List Str} {f:Str} {o e:Expr} {g:Fe} {pos apos:Pos}
end
end
section
variable [Tbl]
open AutoSeq1 (wpAny_loadPart')
section
variable {prog:y0q} {w:World} {A:Around} {E:Value->y04->Prop} {s:y04} {T:String} {r d:Addr} {n:Nat} {P:Nat->Value->Prop} {OK:Heap->Prop}
end
section
variable {X:Cx}
variable {c C i j:Nat} {ns:List Str} {f:Str} {o:Expr} {p pos apos bpos cpos:Pos}
end
end
section
variable [Tbl]
open AutoSeq1 (wpAny_loadPart')
section
variable {prog:y0q} {w:World} {A:Around} {E:Value->y04->Prop} {s:y04} {z TI TO i1 i2 l1 l2:Addr} {k n1 n2:Nat} {P1 P2:Nat->Value->Prop} {S1 S2:Nat->Heap->Prop} {a b f1:Value}
end
end
section
variable [Tbl]
open AutoSeq1 (wpAny_loadPart')
section
variable {prog:y0q} {w:World} {A:Around} {E:Value->y04->Prop} {s:y04}
end
end
section
variable [Tbl]
section
variable {prog:y0q} {w:World} {K:Type} [DecidableEq K] {knd:PySem.KeyKind prog w K} {A:Around} {E:Value->y04->Prop} {s:y04} {R:Result->y04->Prop} {z TI TO i1 i2 l1 l2:Addr} {b1 b2:Bool} {xs ys:Array Value}
end
end
section
variable [Tbl]
section
variable {X:Cx} {a b:Expr} {f g:Fe} {p p2 pos pos2:Pos}
variable {c C i j:Nat} {ns:List Str} {fn:Str} {o:Expr} {apos:Pos}
end
end
section
variable [Tbl]
open AutoSeq1 (wpAny_loadPart')
section
variable {X:Cx} {a b:Expr} {f g:Fe} {pos:Pos}
end
end
section
variable [Tbl]
section
variable {X:Cx} {a b c:Expr} {f g h:Fe} {pos:Pos}
end
section
variable {X:Cx} {c C i j:Nat} {ns:List Str} {f:Str} {o:Expr} {pos apos:Pos}
end
end
section
abbrev t0:Tbl:=⟨[],fun _=>[],fun _=>none⟩
def scriptT (ns:List Int):T:=.list (ns.map .int)
def noL (K:y00):Bool:=K.all fun p=>match p.2.cls with
 | .type t=>t != "list"
 | _=>true
theorem z5w {α β:Type} [BEq α] [LawfulBEq α] {a:α} {b:β}:∀{l:List (α×β)},l.lookup a=some b->(a,b)∈l
  | [],h=>by cases h
  | (x,y)::l,h=>by
    rw[y1d] at h
    split at h
    next q =>
      cases h
      have:a=x:=by simpa using q
      subst this
      simp
    next=>exact y05 _ (z5w h)
end
section
section
variable [Tbl]
variable {X:Cx} {e:Expr} {es:List Expr} {fs:List Fe} {p pos:Pos}
end
end
section
variable [Tbl]
open AutoSeq1 (wpAny_loadPart')
section
variable {X:Cx} {a b:Expr} {f g:Fe} {pos:Pos}
end
end
section
variable [Tbl]
section
variable {X:Cx} {es:List Expr} {k:Nat} {p pos p2:Pos} {a b:Expr} {f g:Fe}
end
end
section
section
variable [Tbl]
variable {X:Cx} {a b:Expr} {f g:Fe} {pos:Pos}
end
end
section
section
variable [Tbl]
variable {X:Cx} {e:Expr} {f:Fe} {pos:Pos}
end
end
section
variable [Tbl]
section
variable {X:Cx} {a b c:Expr} {f g h:Fe} {pos:Pos}
end
section
variable {X:Cx} {pos:Pos}
end
section
variable {X:Cx} {a:Expr} {f:Fe} {p px pos pos2:Pos}
end
end
section
section
variable {X:Cx} {pins:List (Addr×Obj)} {σ:L2.St} {H:Hp} {s:y04} {a:Addr} {d:V} {r:Value} {A:Around} {E:Value->y04->Prop}
end
section
variable {X:Cx} {o e f:Expr} {apos cpos:Pos} {td ty tx:TE}
end
variable [Tbl]
section
variable {X:Cx} {a b:Expr} {f g:Fe} {x:Str} {px apos cpos pos:Pos}
end
section
variable {X:Cx} {a b:Expr} {f g:Fe} {p p2 pos pos2:Pos}
variable {x:Str} {px dpos:Pos}
end
end
section
variable [Tbl]
open PySem.W (kas_ask kas_sort kat_run kat_snds kat_lt kat_kind KatTups KatLex KatGo kas_item KasT)
def hT (x:Str×List T):T:=.tuple (.str x.1::x.2)
section
variable {prog:y0q} {w:World} {A:Around} {s:y04}
end
section
variable {X:Cx}
variable {e:Expr} {es:List Expr} {fs:List Fe} {p pos:Pos}
end
section
variable {X:Cx} {o e:Expr} {f g:Fe} {apos cpos:Pos}
end
section
variable {X:Cx} {a b:Expr} {f g:Fe} {pos:Pos}
end
end
section
section
variable {prog:y0q} {w:World} {A:Around} {E:Value->y04->Prop} {s:y04} {ar:Array Keyed}
end
variable [Tbl]
section
variable {X:Cx}
variable {e:Expr} {es:List Expr} {fs:List Fe} {p pos:Pos}
end
end
section
open AutoSeq1 (wpAny_loadPart')
section
variable {prog:y0q} {w:World} {A:Around} {E:Value->y04->Prop} {s:y04}
end
end
section
variable [Tbl]
section
variable {M:Model} {A:Around} {E:Value->y04->Prop} {s:y04} {env:Env}
end
section
variable {prog:y0q} {w:World} {A:Around} {E:Value->y04->Prop} {s:y04}
end
section
variable {X:Cx} {es:List Expr} {k kc:Nat} {p pos p2 pc pk:Pos} {a:Expr} {f:Fe}
end
section
variable {X:Cx} {e:Expr} {f:Fe} {pos:Pos}
end
end
section
variable [Tbl]
section
variable {X:Cx} {e:Expr} {f:Fe} {te:TE} {pos p p2 p3:Pos}
end
section
variable {X:Cx} {e st:Expr} {te:TE} {tl:TO} {f:Fe} {pos p2:Pos} {lo:Option Expr}
end
end
section
variable [Tbl]
section
variable {X:Cx} {k n c C i:Nat} {ns:List Str} {d:List Sl->Option (T×List Sl)} {x:Str} {p pos:Pos} {o e:Expr} {es:List Expr} {fs:List Fe} {f:Fe}
end
end
section
variable [Tbl]
end
section
theorem zdc {pos:Pos} {c cv:Value} {a b:Int} (l:List Value) (h:TriplesOk l) (e:codeAmong pos (l++[rawInt a,rawInt b,c])=some cv):codeAmong pos l=some cv\/cv=c:=by
 fun_induction TriplesOk l with
 | case1 =>
  simp only[y2c,codeAmong,rawInt] at e
  split at e
  ·exact .inr (y27 e).symm
  ·cases e
 | case2 a' t b' u x rest ih =>
  simp only[List.cons_append,codeAmong] at e ⊢
  split at e
  next hc=>rw[if_pos hc];exact .inl e
  next hc=>rw[if_neg hc];exact ih h e
 | case3 _ _ _=>exact h.elim
noncomputable def BM (mg:Str->Option Value) (h:Heap):Prop:=∃bm ob,mg "__builtins__"=some (.ref bm)/\bm≠builtinsNs/\h.get? bm=some ob/\ob.cls=.type "module"/\ob.dict=some builtinsNs/\ob.data=.plain
def lamO (o:Obj) (q:Addr):HO:=.ext fun h=>h.get? q=some o
def codO (c:Addr) (q:Str):HO:=.ext fun h=>h.CodeRec (.ref c) q
variable [Tbl]
theorem z7v {X:Cx} {pins:List (Addr×Obj)} {σ:L2.St} {H:Hp} {s:y04} {params:Arguments} {body:Expr} {scope:Scope} {lpos:Pos} {c P:Addr} {clos:List (Str×Addr)} {Q:Value->y04->Prop} (I:Inv X pins σ H s)
  (hcode:X.env.code=.ref c) (C:PySem.W.CodeHd X.base c P) (hbm:BM X.mg X.base) (hdef:defaultsOf params X.env=([],[])) (hcl:closureFor scope X.env=pure clos)
  (d:TbS H) (tb:(P,X.env.qual++"<lambda>")∈Tbl.tb) (un:∀p∈Tbl.tb,p.1=P->p.2=X.env.qual++"<lambda>")
  (h:∀(q c':Addr) (ctv:Value) (H':Hp) (s':y04),Inv X pins σ H' s'->z39 H H'->TbS H'->H q=none->H' q=some (lamO (PySem.W.kla_obj "<lambda>" (X.env.qual++"<lambda>") params body scope clos ((X.mg "__name__").getD .none) c' ctv) q) ->
   H' c'=some (codO c' (X.env.qual++"<lambda>"))->Q (.ref q) s') :
  y0u (model X.prog X.w) X.A (eval (.Lambda params body scope lpos) X.env) Q X.xe s:=by
 obtain⟨ps,hH,ht,hg⟩:=d _ tb
 have hP:s.heap.get? P=some (PySem.W.tabObj ps):=I.hok P _ hH
 have ns:s.heap.Ns y0n X.mg:=I.ok.mod.glob.keeps I.bk
 obtain⟨bm,ob,b1,b2,b3,b4,b5,b6⟩:=hbm
 have b3':=I.bk _ _ b3
 have hgP:y0n≠P:=fun z=>by
  obtain⟨o,es,ep,e,hd,_⟩:=ns
  rw[z,hP] at e;cases e;cases hd
 have hbP:bm≠P:=fun z=>by
  rw[z,hP] at b3';cases b3';cases b4
 have hbG:bm≠y0n:=fun z=>by
  obtain⟨o,es,ep,e,hd,_⟩:=ns
  rw[z,e] at b3';cases b3';rw[hd] at b6;cases b6
 have hb:s.heap.BuiltinsAt X.mg P:=⟨bm,ob,b1,b2,hbG,hbP,b3',b4,b5,b6⟩
 have C':=C.keeps I.bk
 refine PySem.W.kla_eval hdef ?_
 cases hf:codeAmong lpos ps.toList with
 | some cv =>
  obtain⟨c',rfl,hc'⟩:=hg lpos cv hf
  refine PySem.W.kla_makeFunctionHit hcl I.ok.glob ns hcode C' hP ht hf hb fun ctv h' tk k hsz=>?_
  have fr:H h'.objs.size=none:=I.hok.fresh hsz
  refine h h'.objs.size c' ctv (upd H h'.objs.size (lamO _ h'.objs.size)) _ (I.laid (t':=tk) (fun b u e=>y03 _ (k b u e)) hsz ⟨y0l _ rfl,⟨_,y0l _ rfl⟩,fun h1 h2 e1 e2=>e2 _ e1⟩)
   (fun b o e=>.inl (by rw[z04 (z0d e fr)];exact e)) (d.new fr) fr z05 (by rw[z04 (z0d hc' fr)];exact hc')
 | none =>
  refine PySem.W.kla_makeFunction hcl I.ok.glob ns hcode C' hP ht hf hgP hb fun c' ctv h' tk hx hge hlt hrec htb=>?_
  have frq:H h'.objs.size=none:=I.hok.fresh (y1k hge (Nat.le_of_lt hlt))
  have frc:H c'=none:=I.hok.fresh hge
  have cq:c'≠h'.objs.size:=y0y hlt
  have neC:∀b o,H b=some o->b≠c':=fun b o e=>z0d e frc
  have neQ:∀b o,H b=some o->b≠h'.objs.size:=fun b o e=>z0d e frq
  have Pc:=neC P _ hH
  have Pq:=neQ P _ hH
  let H':Hp:=upd (upd (upd H P (.tbl (ps++#[rawInt lpos.line,rawInt lpos.col,.ref c']))) c' (codO c' (X.env.qual++"<lambda>"))) h'.objs.size (lamO (PySem.W.kla_obj "<lambda>" (X.env.qual++"<lambda>") params body scope clos ((X.mg "__name__").getD .none) c' ctv) h'.objs.size)
  have eq0:H' h'.objs.size=some (lamO (PySem.W.kla_obj "<lambda>" (X.env.qual++"<lambda>") params body scope clos ((X.mg "__name__").getD .none) c' ctv) h'.objs.size):=z05
  have ec0:H' c'=some (codO c' (X.env.qual++"<lambda>")):=by show upd _ _ _ _=_;rw[z04 cq,z05]
  have eP0:H' P=some (.tbl (ps++#[rawInt lpos.line,rawInt lpos.col,.ref c'])):=by show upd _ _ _ _=_;rw[z04 Pq,z04 Pc,z05]
  have eO:∀b,b≠P->b≠c'->b≠h'.objs.size->H' b=H b:=fun b n1 n2 n3=>by show upd _ _ _ _=_;rw[z04 n3,z04 n2,z04 n1]
  have eS:∀b o,H b=some o->b≠P->H' b=some o:=fun b o e n=>by rw[eO b n (neC b o e) (neQ b o e)];exact e
  have kp:∀b o,b≠P->s.heap.get? b=some o->(h'.push (PySem.W.kla_obj "<lambda>" (X.env.qual++"<lambda>") params body scope clos ((X.mg "__name__").getD .none) c' ctv)).get? b=some o:=fun b o n e=>y03 _ (hx b o n e)
  have nP:∀b,H b=none->b≠P:=fun b e z=>by rw[z,hH] at e;cases e
  have sm:z39 H H':=fun b o e=>by
   by_cases z:b=P
   ·subst z
    rw[hH] at e;cases e
    exact .inr ⟨_,_,rfl,eP0⟩
   ·exact .inl (eS b o e z)
  refine h h'.objs.size c' ctv H' _ (I.un (t':=tk) ⟨fun b o e n _ _=>kp b o (nP b n) e,fun b o e n _ _=>⟨o.slots,kp b o (nP b n) e⟩,fun b o e n _=>?_,fun b o e _=>?_,fun b xs e=>eS b _ e fun z=>by (rw[z,hH] at e;cases e),fun b o u e=>eS b _ e fun z=>by (rw[z,hH] at e;cases e),fun b qs e=>?_⟩ fun a o e=>?_) sm (fun p hp=>?_) frq eq0 ec0
  ·have lt:=y0c e
   rw[eO b (nP b n) (y0y (y0x lt hge)) (y0y (Nat.lt_trans (y0x lt hge) hlt))]
   exact n
  ·by_cases z:b=P
   ·subst z
    exact⟨_,y03 _ htb⟩
   ·exact⟨o,kp b o z e⟩
  ·by_cases z:b=P
   ·subst z
    rw[hH] at e;cases e
    exact⟨_,eP0⟩
   ·exact⟨#[],by rw[eS b _ e z];simp⟩
  ·by_cases z1:a=h'.objs.size
   ·subst z1
    rw[eq0] at e;cases e
    exact⟨y0l _ rfl,⟨_,y0l _ rfl⟩,fun h1 h2 e1 e2=>e2 _ e1⟩
   by_cases z2:a=c'
   ·subst z2
    rw[ec0] at e;cases e
    refine⟨hrec.at fun o e=>y03 _ e,?_,fun h1 h2 e1 e2=>e1.at e2⟩
    obtain⟨c2,o,vs,t,e2,ho,_⟩:=hrec
    cases e2
    exact⟨o,y03 _ ho⟩
   by_cases z3:a=P
   ·subst z3
    rw[eP0] at e;cases e
    exact y03 _ htb
   ·rw[eO a z3 z2 z1] at e
    refine (I.hok a o e).stay (fun b u hb q=>kp b u ?_ q) (fun b q=>eS b _ q fun z=>by (rw[z,hH] at q;cases q)) fun b xs q=>eS b _ q fun z=>by (rw[z,hH] at q;cases q)
    rcases hb with rfl|hb
    ·exact z3
    ·exact fun z=>by rw[z,hH] at hb;cases hb
  ·by_cases z:p.1=P
   ·have e2:=un p hp z
    obtain⟨p1,p2⟩:=p
    simp only at z e2
    subst z e2
    refine⟨_,eP0,by rw[Array.toList_append];exact TriplesOk_snoc _ _ _ _ ht,fun pos cv e=>?_⟩
    rw[Array.toList_append] at e
    rcases zdc _ ht e with e|e
    ·obtain⟨c2,e1,e2⟩:=hg pos cv e
     exact⟨c2,e1,eS _ _ e2 fun z=>by (rw[z,hH] at e2;cases e2)⟩
    ·exact⟨c',e,ec0⟩
   ·obtain⟨qs,q1,q2,q3⟩:=d p hp
    refine⟨qs,eS _ _ q1 z,q2,fun pos cv e=>?_⟩
    obtain⟨c2,e1,e2⟩:=q3 pos cv e
    exact⟨c2,e1,eS _ _ e2 fun z=>by (rw[z,hH] at e2;cases e2)⟩
end
section
variable [Tbl]
end
section
variable [Tbl]
noncomputable def envL (qual:Str) (scope:Scope) (L q:Addr) (cd:Value) (cl:List (Str×Addr)):Env :=
 { scope:=scope,locals:=L,globals:=y0n,cells:=cl,qual:=qual++".<locals>.",func:=some q,code:=cd,frame:=some L,builtins:=builtinsNs }
noncomputable def cxL (P:y0q) (w:World) (K:y00) (mg:Str->Option Value) (base:Heap) (N:List Str) (qual:Str) (scope:Scope) (q:Addr) (cd:Value) (cl:List (Str×Addr)) (A:Around) (outer:List Env) (s:y04) (H:Hp):Cx where
 prog:=P
 w:=w
 K:=K
 mg:=mg
 base:=base
 A:=A.deeper (envL qual scope s.heap.objs.size q cd cl)
 N:=N
 s₀:=s
 H₀:=H
 env:=envL qual scope s.heap.objs.size q cd cl
 outer:=outer
 stack:=envL qual scope s.heap.objs.size q cd cl::outer
 ex:=[]
 calm:=true
 fn:=fun _=>false
 pn:=[]
 xe:=fun _ _=>False
structure Caps (N:List Str) (scope:Scope) (cl:List (Str×Addr)) (σ:L2.St) (H:Hp) (h:Heap):Prop where
 inj:∀x y c,cl.lookup x=some c->cl.lookup y=some c->x=y
 has:∀x,(scope.names.lookup x=some .cell\/scope.names.lookup x=some .free)->∃c,cl.lookup x=some c
 cel:∀x c,cl.lookup x=some c->(∃v,h.IsCell c v)/\H c=none
 len:σ.length=N.length
 val:∀(i:Nat) (x:Str) (v:V),N[i]?=some x->σ[i]?=some (some v)->Vis scope x->∃u c,RelV v u/\scope.names.lookup x=some .free/\cl.lookup x=some c/\h.IsCell c (some u)
theorem z31 {h h':Heap} {c:Addr} {v:Option Value} (x:h.IsCell c v) (k:∀b o,h.get? b=some o->h'.get? b=some o):h'.IsCell c v:=by
 obtain⟨o,ho,hd⟩:=x
 exact⟨o,k _ _ ho,hd⟩
section
variable {P:y0q} {w:World} {K:y00} {mg:Str->Option Value} {base:Heap} {k:Nat} {q c':Addr} {N:List Str} {qual:Str} {scope:Scope} {cd:Value} {cl:List (Str×Addr)} {A:Around} {outer:List Env} {s:y04} {H:Hp} {σ:L2.St}
theorem z76 {h1:Heap} {tk:Nat} {m:Str->Option Value} (hk:scope.kind=.function) (hd:A.handled=none) (e0:Env0 P w K mg base A outer s H) (C:Caps N scope cl σ H s.heap) (hns:h1.Ns s.heap.objs.size m) (kp:∀b o,s.heap.get? b=some o->h1.get? b=some o) :
  Inv (cxL P w K mg base N qual scope q cd cl A outer s H) [] σ H { s with heap:=h1,toks:=tk }:=by
 have noA:∀b:Addr,b∉(cxL P w K mg base N qual scope q cd cl A outer s H).ex:=fun b z=>absurd (show b∈([]:List Addr) from z) (by simp)
 refine⟨⟨e0.mod,hk,rfl,rfl,y0o _,C.inj,C.has,fun y c hf _=>(by cases hf),fun _=>hd,Around.frames_deeper e0.frames,.inr ⟨rfl,rfl⟩,fun b z=>absurd z (noA b),e0.bs,e0.bsz,fun b _ _=>noA b,fun b z=>absurd z (noA b),e0.funs,e0.frf⟩,
  rfl,e0.bare,Un.kept kp,⟨m,hns,fun i y v h1 h2 h3=>?_⟩,fun y c h=>?_,e0.hok.fresh (y0o _),fun y c h=>(C.cel y c h).2,fun p hp=>absurd (show p∈([]:List (Addr×Obj)) from hp) (by simp),e0.hok.kept kp,C.len⟩
 ·obtain⟨u,c,ru,hf,hc,hx⟩:=C.val i y v h1 h2 h3
  exact⟨u,ru,.inr ⟨.inr hf,c,hc,z31 hx kp⟩⟩
 ·obtain⟨⟨v,hv⟩,_⟩:=C.cel y c h
  exact⟨v,z31 hv kp⟩
theorem zfc {params:Arguments} {body:Expr} {pm ctv:Value} {f:Fx} {Q:VK} {E:XK} (hk:scope.kind=.function) (hco:scope.isCoroutine=false) (hgen:scope.isGenerator=false) (hnc:∀x∈scope.names,x.2≠.cell)
  (hb:∀(A:Around) (outer:List Env) (s:y04) (H:Hp),Room k (A.deeper (envL qual scope s.heap.objs.size q (.ref c') cl))->PEx (cxL P w K mg base N qual scope q (.ref c') cl A outer s H) body f)
  (bd:bindArgs (PySem.W.kla_fn "<lambda>" qual params body scope cl pm (.ref c') ctv) ⟨[],[]⟩=pure [])
  (hr:Room (k+1) A) (e0:Env0 P w K mg base A outer s H) (hq:H q=some (lamO (PySem.W.kla_obj "<lambda>" qual params body scope cl pm c' ctv) q)) (hc:H c'=some (codO c' qual)) (C:Caps N scope cl σ H s.heap)
  (h:tX K f σ H Q):codeAny (model P w) A (.call (.ref q) ⟨[],[]⟩) (CR CX0 outer P w H s Q E) s:=by
 have nolim:s.heap.NoLimit:=e0.mod.nolimit.keeps fun b o e=>(e0.bs b o e).1
 refine PySem.W.kla_callFunE hr.depth (e0.hok q _ hq).1 rfl hco hgen rfl (e0.hok c' _ hc).1 ?_
 rw[bd]
 refine y06 (wpAny_newFunctionEnv hnc (fun x hx=>by cases hx) (fun h₁ hns hsb=>⟨nolim.fresh _ hsb,?_⟩) hk)
 have kp:∀b o,s.heap.get? b=some o->h₁.get? b=some o:=fun b o e=>hsb.extBut b o (y0y (y0c e)) (y03 _ e)
 show codeAny _ _ (.expr body (envL qual scope s.heap.objs.size q (.ref c') cl)) _ _
 refine PySem.W.kla_codeExpr ?_
 have I:Inv (cxL P w K mg base N qual scope q (.ref c') cl A outer s H) [] σ H { s with heap:=h₁,toks:=s.toks+([]:List (Str×Value)).length }:=z76 hk hr.hd e0 C hns kp
 refine y1b (hb A outer s H (hr.deeper _) [] _ σ H (fun v H'=>Q v H') I h) (fun u s' hs=>?_) fun e s' hs=>(show False from hs).elim
 obtain⟨v,H',J,rv,qv⟩:=hs
 exact⟨v,H',J.os,J.bare,J.base,J.hok,rv,qv⟩
end
end
section
variable [Tbl]
theorem zc1 {P:y0q} {w:World} {K:y00} {mg:Str->Option Value} {base:Heap} {k:Nat} {x qual:Str} {st:Stmt} {f:Addr} {fd:y0b} {N ps:List Str} {A:Around} {outer:List Env} {s:y04} {H:Hp} {us:List Value} {vs:List V} {Q:VK} {E:XK}
  (F:Fun K x qual st f fd) (S:FnScope N ps (z00 st)) (bd:z1k K fd ps []) (hr:Room (k+1) A) (e0:Env0 P w K mg base A outer s H) (r:Vals vs us) (hl:vs.length=ps.length)
  (hbody:∀cdv:Value,Room k (A.deeper (envOfC qual (z00 st) s.heap.objs.size f cdv))->∃t,PSs (cxOf CX0 P w K mg base N qual (z00 st) f cdv A outer s H E).nox (z08 st) t/\t { nx:=fun _ H'=>Q .non H',rt:=Q } (start N vs) H) :
  codeAny (model P w) A (.call (.ref f) ⟨us,[]⟩) (CR CX0 outer P w H s Q E) s:=by
 obtain⟨oc,od,kV,doc,pm,an,cdv,ct,osl,rfl,lk,hcd⟩:=F.ex
 have hul:us.length=ps.length:=by rw[<- r.length];exact hl
 have KX:K.In s.heap:=e0.mod.kin.keeps fun b o e=>(e0.bs b o e).1
 have lim:s.heap.NoLimit:=e0.mod.nolimit.keeps fun b o e=>(e0.bs b o e).1
 have hb:=bd s us KX (by rw[y1t];exact hul)
 rw[y1t] at hb
 have hkind:∀y∈ps.zip us,(z00 st).names.lookup y.1=some .local\/((z00 st).names.lookup y.1=some .cell/\((cellsFrom (s.heap.objs.size+1) (z00 st).names []).lookup y.1).isSome=true):=fun⟨n,v⟩ hy=>by
  rcases S.par n (List.of_mem_zip hy).1 with q|q
  ·exact .inl q
  ·exact .inr ⟨q,PySem.W.cellsFrom_some _ _ _ (.inl q)⟩
 refine codeAny_call_function hr.depth (KX _ _ lk) rfl S.co S.gen rfl (PySem.W.codeRec_of KX hcd) (hb _ _ _ _ ?_)
 refine wpAny_newFunctionEnv_cells S.kind hkind fun env he s1 x=>?_
 subst he
 refine⟨lim.keeps x.toInCall.keep,codeAny_func ?_⟩
 obtain⟨t,ht,hq⟩:=hbody cdv (hr.deeper _)
 have I:Inv (cxOf CX0 P w K mg base N qual (z00 st) f cdv A outer s H E) [] (start N vs) H s1:=z9b S hr.hd e0 hl r x
 refine y1b (ht.nox [] s1 (start N vs) H _ I hq) (fun fl s' hs=>?_) fun e s' hs=>hs
 have fin:∀{σ':L2.St} {H':Hp} {v:V} {u:Value},Inv (cxOf CX0 P w K mg base N qual (z00 st) f cdv A outer s H E) [] σ' H' s'->RelV v u->Q v H'->CE outer P w H s Q u s' :=
  fun {σ' H' v u} J rv q=>⟨v,H',J.os,J.bare,J.base,J.hok,rv,q⟩
 cases fl with
 | ret u =>
  obtain⟨v,σ',H',J,rv,q⟩:=hs
  exact fin J rv q
 | next =>
  obtain⟨σ',H',J,q⟩:=hs
  exact fin (v:=V.non) (u:=Value.none) J rfl q
 | brk =>
  obtain⟨_,_,_,q⟩:=hs
  exact y1s q
 | cont =>
  obtain⟨_,_,_,q⟩:=hs
  exact y1s q
noncomputable def zlw (X:Cx) (i:Nat):TE:=fun σ H Q=>∃q,σ[i]?=some (some (.ref q))/\(∃(o:Obj) (fd:y0b),H q=some (lamO o q)/\o.data=.func fd) /\
 ∀(pins:List (Addr×Obj)) (s:y04),Inv X pins σ H s->codeAny (model X.prog X.w) X.A (.call (.ref q) ⟨[],[]⟩) (CR CX0 X.stack X.prog X.w H s Q E0) s
theorem zkk {X:Cx} {i:Nat} {x:Str} {p pos:Pos} (hn:PE X (.Name x p) (tVar i)):PE X (.Call (.Name x p) [] [] pos) (zlw X i):=by
 intro pins s σ H Q I ⟨q,hq,⟨o,fd,ho,hfd⟩,hc⟩
 refine wpAny_Call_Name_kw (thn (hn pins s σ H (fun v H1=>v=.ref q/\H1=H) I ⟨.ref q,hq,rfl,rfl⟩) fun v s1 ⟨y,H1,I1,ry,ey,eh⟩=>?_)
 subst ey
 subst eh
 cases ry
 have fa:PySem.W.FnAt q s1.heap:=by
  have h1:s1.heap.get? q=some o:=(I1.hok q _ ho).1
  obtain⟨c,dct,dt,sl⟩:=o
  cases hfd
  exact⟨_,_,_,_,h1⟩
 refine PySem.W.callWith_F0 fa ?_
 refine wpAny_call (codeAny_mono (hc pins s1 I1) fun r s' hq=>?_)
 cases r with
 | error e=>exact y1s hq
 | ok fl =>
  cases fl with
  | ret u=>exact I1.after hq
  | next=>exact y1s hq
  | brk=>exact y1s hq
  | cont=>exact y1s hq
end
section
variable [Tbl]
theorem zmf {X:Cx} {body:List Stmt} {h₀:ExceptHandler} {hs:List ExceptHandler} {pos:Pos} {t:TS} (hb:PSs X body t) (hx:X.xe=fun _ _=>False:=by rfl):PS X (.Try body (h₀::hs) [] [] pos) t:=by
 intro pins s σ H D I h
 refine wpAny_Try_except (y1b (hb pins s σ H D I h) (fun f s1 hs=>?_) fun e s1 he=>?_)
 ·cases f with
  | next=>exact wpAny_execs_nil hs
  | ret u=>exact hs
  | brk=>exact hs
  | cont=>exact hs
 ·rw[hx] at he
  exact he.elim
theorem z9a {fs ex:List Addr} {H H':Hp} {h h':Heap} {c:Addr} {v:Option Value} (u:Un fs ex H H' h h') (x:h.IsCell c v) (hc:H c=none) (he:c∉ex):h'.IsCell c v:=by
 obtain⟨o,ho,hd⟩:=x
 by_cases hf:c∈fs
 ·obtain⟨sl,e⟩:=u.slot c o ho hc hf he
  exact⟨_,e,hd⟩
 ·exact⟨o,u.keep c o ho hc hf he,hd⟩
theorem zgd {X:Cx} {pins:List (Addr×Obj)} {σ:L2.St} {H:Hp} {s:y04} {scope:Scope} (I:Inv X pins σ H s) (hnc:∀x∈scope.names,x.2≠.cell/\x.2≠.local) (hfr:∀x∈scope.names,x.2=.free->X.env.scope.names.lookup x.1=some .cell) :
  Caps X.N scope (clos X.env scope.names []) σ H s.heap:=by
 have hl:∀x∈scope.names,x.2=.free->∃c,X.env.cells.lookup x.1=some c:=fun x hx hf=>I.ok.has x.1 (.inl (hfr x hx hf))
 have fr:∀x c,(clos X.env scope.names []).lookup x=some c->X.env.cells.lookup x=some c:=z2o hl fun x c e=>by cases e
 refine⟨fun x y c h1 h2=>I.ok.inj x y c (fr x c h1) (fr y c h2),fun x h=>?_,fun x c h=>⟨I.cell x c (fr x c h),I.freeC x c (fr x c h)⟩,I.len,fun i x v h1 h2 h3=>?_⟩
 ·rcases h with h|h
  ·obtain⟨y,hy,e1,e2⟩:=z0m h
   exact absurd e1 (hnc y hy).1
  ·obtain⟨y,hy,e1,e2⟩:=z0m h
   exact z2f (.inl ⟨y,hy,e1,e2⟩)
 ·have hf:scope.names.lookup x=some .free:=by
   rcases h3 with h|h|h
   ·obtain⟨y,hy,e1,_⟩:=z0m h
    exact absurd e1 (hnc y hy).2
   ·obtain⟨y,hy,e1,_⟩:=z0m h
    exact absurd e1 (hnc y hy).1
   ·exact h
  obtain⟨y,hy,e1,e2⟩:=z0m hf
  have hk:X.env.scope.names.lookup x=some .cell:=by rw[<- e2];exact hfr y hy e1
  obtain⟨m,_,hv⟩:=I.loc
  obtain⟨u,ru,lk⟩:=hv i x v h1 h2 (.inr (.inl hk))
  obtain⟨c,hc⟩:=z2f (env:=X.env) (l:=scope.names) (cs:=[]) (x:=x) (.inl ⟨y,hy,e1,e2⟩)
  refine⟨u,c,ru,hf,hc,?_⟩
  rcases lk with ⟨hk2,_⟩|⟨_,c2,hc2,hx⟩
  ·have:X.env.scope.names.lookup x=some .local:=hk2
   rw[hk] at this
   cases this
  ·rw[fr x c hc] at hc2
   cases hc2
   exact hx
def zgz (f:Fx):Fx:=fun ε=>(f ε).map fun r=>(.tuple [.str "told",r.1],r.2)
def zk0 (Y:Cx):TS:=tSeq (tAsg (tTup (z27 (tC (.str "told")) (z27 (zlw Y 0) tNil))) (z9d 1)) (tRet (tVar 1))
theorem zlm {X:Cx} {k:Nat} {x:Str} {st:Stmt} {fa:Addr} {fd:y0b} {y0 y1:Str} {NT:List Str} {params:Arguments} {body:Expr} {scope:Scope} {lpos p pos:Pos} {c Pt:Addr} {f:Fx}
  (F:Fun X.K x x st fa fd) (S:FnScope (y0::y1::NT) [y0] (z00 st)) (bd:z1k X.K fd [y0] []) (hm:X.mg x=some (.ref fa))
  (ht:∀(cdv:Value) (A:Around) (outer:List Env) (s:y04) (H:Hp),PSs (cxOf CX0 X.prog X.w X.K X.mg X.base (y0::y1::NT) x (z00 st) fa cdv A outer s H E0).nox (z08 st) (zk0 (cxOf CX0 X.prog X.w X.K X.mg X.base (y0::y1::NT) x (z00 st) fa cdv A outer s H E0).nox))
  (hcode:X.env.code=.ref c) (C:PySem.W.CodeHd X.base c Pt) (hbm:BM X.mg X.base) (tb:(Pt,X.env.qual++"<lambda>")∈Tbl.tb) (un:∀p∈Tbl.tb,p.1=Pt->p.2=X.env.qual++"<lambda>")
  (hk:scope.kind=.function) (hco:scope.isCoroutine=false) (hgen:scope.isGenerator=false) (hnc:∀x∈scope.names,x.2≠.cell/\x.2≠.local) (hfr:∀x∈scope.names,x.2=.free->X.env.scope.names.lookup x.1=some .cell)
  (bdl:∀(cl:List (Str×Addr)) (pm:Value) (c':Addr) (ctv:Value),bindArgs (PySem.W.kla_fn "<lambda>" (X.env.qual++"<lambda>") params body scope cl pm (.ref c') ctv) ⟨[],[]⟩=pure [])
  (hr:Room (k+2) X.A)
  (hb:∀(q c':Addr) (cl:List (Str×Addr)) (A:Around) (outer:List Env) (s:y04) (H:Hp),Room k (A.deeper (envL (X.env.qual++"<lambda>") scope s.heap.objs.size q (.ref c') cl))->PEx (cxL X.prog X.w X.K X.mg X.base X.N (X.env.qual++"<lambda>") scope q (.ref c') cl A outer s H) body f)
  (hg:Gl X x:=by rfl) (hdb:(x == ("__debug__":Str))=false:=by decide) (hdef:defaultsOf params X.env=([],[]):=by rfl)
  (he:y0a [.Lambda params body scope lpos] X.env=(false,eval (.Lambda params body scope lpos) X.env)::y0a [] X.env:=by rfl) :
  PEx X (.Call (.Name x p) [.Lambda params body scope lpos] [] pos) (zgz f):=by
 intro pins s σ H Q I ⟨F₀,E,O,F',ε,t,ε',r,e,kk⟩
 simp only[zgz,y07] at e
 obtain⟨⟨t0,ε1⟩,ef,e⟩:=e
 cases e
 refine wpAny_Call_Name_kw (z4p I hg hm ?_ hdb)
 refine PySem.W.callWith_K (h₀:=X.base) I.ok.mod.kin F.kp ?_ he rfl
 rw[he]
 show y0u _ _ (spliced ((false,eval (.Lambda params body scope lpos) X.env)::[])) _ _ s
 have hl:∀x∈scope.names,x.2=.free->∃c,X.env.cells.lookup x.1=some c:=fun x hx hf=>I.ok.has x.1 (.inl (hfr x hx hf))
 refine Calls.spliced_cons (z7v I hcode C hbm hdef (z1w hl) r.dom.tgs tb un fun q c' ctv H1 s1 I1 sm tb1 hqn hq hc=>Calls.spliced_nil ⟨I1.kIn,?_⟩)
 have x1:Ext F' H F' H1:=⟨sm,fun _ h=>h,fun _ h=>.inl h,⟨fun a ha=>by
  obtain⟨o,ho⟩:=r.dom.dm a ha
  exact sm.ne ho,tb1⟩⟩
 have fin:codeAny (model X.prog X.w) X.A (.call (.ref fa) ⟨[.ref q],[]⟩) (CR CX0 X.stack X.prog X.w H1 s1 Q E0) s1:=by
  refine zc1 (k:=k+1) (vs:=[.ref q]) F S bd hr I1.env0 (.cons rfl .nil) rfl fun cdv hr2=>⟨_,ht cdv X.A X.stack s1 H1,?_⟩
  refine⟨q,rfl,⟨_,_,hq,rfl⟩,fun pins2 s2 I2=>?_⟩
  have caps:Caps X.N scope (clos X.env scope.names []) σ H1 s2.heap:=by
   have c1:=zgd I1 hnc hfr
   have kp:∀{a:Addr} {v:Option Value},s1.heap.IsCell a v->H1 a=none->s2.heap.IsCell a v:=fun {a v} z n=>z9a I2.base z n (by intro z;exact absurd (show a∈([]:List Addr) from z) (by simp))
   refine⟨c1.inj,c1.has,fun x c h=>?_,c1.len,fun i x v h1 h2 h3=>?_⟩
   ·obtain⟨⟨v,hv⟩,hn⟩:=c1.cel x c h
    exact⟨⟨v,kp hv hn⟩,hn⟩
   ·obtain⟨u,c,ru,hf,hc2,hx⟩:=c1.val i x v h1 h2 h3
    exact⟨u,c,ru,hf,hc2,kp hx (c1.cel x c hc2).2⟩
  refine zfc hk hco hgen (fun x hx=>(hnc x hx).1) (hb q c' _) (bdl _ _ _ _) hr2 I2.env0 hq hc caps ?_
  refine⟨F₀,E,O,F',ε,t0,ε1,r.ext x1,ef,fun v F2 H2 kp2 r2 rv=>?_⟩
  refine⟨by show 2<=y0j;decide,fun pp hp=>⟨.ref pp,rfl,?_⟩⟩
  have x3:=Ext.laid (o:=.tup [.str "told",v]) r2.dom hp
  refine kk _ F2 _ ((x1.kp.trans kp2).trans x3.kp) (r2.ext x3) ?_
  simp only[Rep]
  exact⟨pp,_,rfl,SqT.of z05,RepL.cons (by simp[Rep]) (RepL.cons (rv.ext x3) RepL.nil)⟩
 refine wpAny_call (codeAny_mono fin fun r s' hq=>?_)
 cases r with
 | error e=>exact y1s hq
 | ok fl =>
  cases fl with
  | ret u=>exact I1.after hq
  | next=>exact y1s hq
  | brk=>exact y1s hq
  | cont=>exact y1s hq
end
section
def zix (ts:List Addr) (H:Hp):Prop:=(∀b,H b=none\/(∃o xs,H b=some (.frz o (.lst xs)))\/(b∈ts/\H b=some (.tbl #[])))/\∀b∈ts,H b=some (.tbl #[])
theorem zf9 {P:y0q} {w:World} {K:y00} {mg mb:Str->Option Value} {CX:CXT} {k:Nat} {fa a:Addr} {fd:y0b} {x:Str} {sp:Sp} {s₁:y04} {vs:List Value} {ns:List Int} {ts:List Addr}
  (KX:K.In s₁.heap) (hts:∀b∈ts,s₁.heap.get? b=some (PySem.W.tabObj #[])) (hK0:∀b∈ts,K.lookup b=none) (hcd:∀b∈ts,∃c,PySem.W.codeHdIn K c b=true)
  (hns:s₁.heap.Ns y0n mg) (hb:s₁.heap.Ns builtinsNs mb) (hbb:∀x:Str,x≠"__name__"->mb x=bootBuiltins x) (hlim:s₁.heap.NoLimit) (hg:s₁.gens=#[])
  (ha:s₁.heap.get? a=some { cls:=.type "list",data:=.seq vs.toArray }) (hi:IntsAre vs ns) (hl:ns.length<=y0j) (hr:Room k callerA)
  (hbm:BM mg s₁.heap) (F:∀base:Heap,K.In base->base.Ns y0n mg->BM mg base->FnOk P w K mg base CX k fa fd [x] sp) (hbind:∀(s:y04) (u:Value),BindsTo s fd ⟨[u],[]⟩ [(x,u)])
  (hsp:∀H:Hp,zix ts H->SqL K H a (ns.map V.int)->sp [.ref a] H (fun v _=>v=.bl true) fun _ _ _=>False)
  (hCX:∀H e s',CX [] H s₁ (fun _ _ _=>False) e s'->False) :
  codeAny (model P w) callerA (.call (.ref fa) ⟨[.ref a],[]⟩) (fun r s'=>r=.ok (.ret (.bool true))/\OldK s₁.heap s'.heap/\s'.os=s₁.os/\AllBare s'.gens) s₁:=by
 have rv:=z8c hi
 have lenV:=hi.length
 have nat:a∉ts:=fun z=>by
  have:=hts a z
  rw[ha] at this
  cases this
 have core:∀H:Hp,zix ts H->SqL K H a (ns.map V.int)->HOk P w H s₁.heap->(∀b,H b≠none->b=a\/b∈ts)->(H a≠none->K.lookup a=none) ->
   codeAny (model P w) callerA (.call (.ref fa) ⟨[.ref a],[]⟩) (fun r s'=>r=.ok (.ret (.bool true))/\OldK s₁.heap s'.heap/\s'.os=s₁.os/\AllBare s'.gens) s₁:=by
  intro H hO hS hok hA hK
  have base_of:∀{b:Addr} {o:Obj},s₁.heap.get? b=some o->H b=none->(hidT s₁.heap H).get? b=some o:=fun e n=>zig e n
  have noA:∀{b:Addr} {o:Obj} {es:Array DictEntry} {ep:Nat},s₁.heap.get? b=some o->o.data=.dict es ep->H b=none:=fun {b o es ep} e d=>by
   cases q:H b with
   | none=>rfl
   | some u =>
    rcases hA b (by rw[q];simp) with e'|e'
    ·subst e'
     rw[ha] at e;cases e
     have d':Data.seq vs.toArray _=Data.dict es ep:=d
     cases d'
    ·rw[hts b e'] at e;cases e
     have d':Data.fields _=Data.dict es ep:=d
     cases d'
  have nsK:∀{b:Addr} {m:Str->Option Value},s₁.heap.Ns b m->(hidT s₁.heap H).Ns b m:=fun {b m} ⟨o,es,ep,e,d,r⟩=>⟨o,es,ep,base_of e (noA e d),d,r⟩
  have hKb:K.In (hidT s₁.heap H):=fun b o e=>base_of (KX b o e) (by
   cases q:H b with
   | none=>rfl
   | some u =>
    rcases hA b (by rw[q];simp) with e'|e'
    ·subst e'
     rw[hK (by rw[q];simp)] at e;cases e
    ·rw[hK0 b e'] at e;cases e)
  have hbm':BM mg (hidT s₁.heap H):=by
   obtain⟨bm,ob,b1,b2,b3,b4,b5,b6⟩:=hbm
   refine⟨bm,ob,b1,b2,base_of b3 ?_,b4,b5,b6⟩
   cases q:H bm with
   | none=>rfl
   | some u =>
    rcases hA bm (by rw[q];simp) with e'|e'
    ·subst e'
     rw[ha] at b3
     cases b3
     cases b6
    ·rw[hts bm e'] at b3
     cases b3
     cases b6
  have hM:Mod K mg (hidT s₁.heap H):=⟨hKb,nsK hns,⟨mb,nsK hb,hbb⟩,let ⟨mc,h1,h2⟩:=hlim;⟨mc,nsK h1,h2⟩⟩
  have e0:Env0 P w K mg (hidT s₁.heap H) callerA [] s₁ H:=⟨rfl,hM,fun b o e=>zkv e,Nat.le_of_eq (zfu _ _),trivial,fun b hb=>absurd (show b∈([]:List Addr) from hb) (by simp),hok,.of_eq hg⟩
  refine codeAny_mono ((F _ hKb (nsK hns) hbm').run callerA [] s₁ H ⟨[.ref a],[]⟩ [.ref a] [.ref a] _ _ hr e0 (hbind s₁ (.ref a)) (.cons rfl .nil) (hsp H hO hS)) fun r s' h=>?_
  cases r with
  | error e=>exact (hCX H e s' h).elim
  | ok fl =>
   cases fl with
   | next=>exact y1s h
   | brk=>exact y1s h
   | cont=>exact y1s h
   | ret u =>
    obtain⟨v,H',os,bare,un,hok',r',q⟩:=h
    have q':v=.bl true:=q
    subst q'
    obtain rfl:u=Value.bool true:=r'
    refine⟨rfl,⟨fun b o e=>?_,fun b o e=>un.there b o e (by simp)⟩,os,bare⟩
    cases q:H b with
    | none=>exact .inl (un.keep b o e q (by intro z;exact absurd (show b∈([]:List Addr) from z) (by simp)) (by simp))
    | some u =>
     rcases hO.1 b with z|⟨ob,xs,z⟩|⟨hbt,z⟩
     ·rw[q] at z;cases z
     ·have z2:=un.frzs b ob _ z
      obtain⟨e1,_⟩:=hok b _ z
      obtain⟨e2,_⟩:=hok' b _ z2
      rw[e] at e1;cases e1
      exact .inl e2
     ·obtain⟨more,z2⟩:=un.tbls b _ z
      have e2:s'.heap.get? b=some (PySem.W.tabObj (#[]++more)):=hok' b _ z2
      have e1:=hts b hbt
      rw[e] at e1
      cases e1
      obtain⟨c,hc⟩:=hcd b hbt
      exact .inr (.inl ⟨((PySem.W.codeHd_of_K KX hc).tab e).isCodeTable,rfl,#[],more,rfl,e2⟩)
 cases hk:K.lookup a with
 | some o =>
  have e:=KX a o hk
  rw[ha] at e
  cases e
  refine core (fun b=>if b∈ts then some (.tbl #[]) else none) ⟨fun b=>?_,fun b hb=>if_pos hb⟩ (.inr ⟨_,vs.toArray,_,hk,rfl,rfl,rfl,by rw[y0h,lenV];exact hl,by simpa using rv⟩) (fun b u z=>?_) (fun b z=>?_) fun z=>?_
  ·by_cases hb:b∈ts
   ·exact .inr (.inr ⟨hb,if_pos hb⟩)
   ·exact .inl (if_neg hb)
  ·by_cases hb:b∈ts
   ·have z':=(if_pos hb).symm.trans z
    cases z'
    exact hts b hb
   ·have z':=(if_neg hb).symm.trans z
    cases z'
  ·by_cases hb:b∈ts
   ·exact .inr hb
   ·exact absurd (if_neg hb) z
  ·exact absurd (if_neg nat) z
 | none =>
  refine core (fun b=>if b=a then some (.frz { cls:=.type "list",data:=.seq vs.toArray } (.lst (ns.map V.int))) else if b∈ts then some (.tbl #[]) else none) ⟨fun b=>?_,fun b hb=>?_⟩ (.inl (.inr ⟨{ cls:=.type "list",data:=.seq vs.toArray },if_pos rfl⟩)) (fun b u z=>?_) (fun b z=>?_) fun _=>hk
  ·by_cases hb:b=a
   ·exact .inr (.inl ⟨_,_,if_pos hb⟩)
   ·by_cases hb2:b∈ts
    ·exact .inr (.inr ⟨hb2,(if_neg hb).trans (if_pos hb2)⟩)
    ·exact .inl ((if_neg hb).trans (if_neg hb2))
  ·have ne:b≠a:=fun z=>nat (z▸hb)
   exact (if_neg ne).trans (if_pos hb)
  ·by_cases hb:b=a
   ·have z':=(if_pos hb).symm.trans z
    cases z'
    subst hb
    exact⟨ha,by rw[y12];exact hl,vs,_,rv,ha⟩
   ·by_cases hb2:b∈ts
    ·have z':=((if_neg hb).trans (if_pos hb2)).symm.trans z
     cases z'
     exact hts b hb2
    ·have z':=((if_neg hb).trans (if_neg hb2)).symm.trans z
     cases z'
  ·by_cases hb:b=a
   ·exact .inl hb
   ·by_cases hb2:b∈ts
    ·exact .inr hb2
    ·exact absurd ((if_neg hb).trans (if_neg hb2)) z
theorem zgu {l:PySem.W.OpenLaw} {n k:Nat} {q:y0q} {loose:List Str} {XP:(Str->Option Value)->Heap->Prop} {YP:World->Heap->Prop} {d:DefRec} {K:Params->y00} {CX:World->CXT} {sp:World->Sp} {x:Str} {ts:List Addr}
  (hn:l.most=some n) (hn2:n<=y0j) (hdf:d.params.defaults=[]) (hr:Room k callerA)
  (hY:∀(w:World) (h:Heap),YP w h->(K w.params).In h) (hT:∀(w:World) (h:Heap),YP w h->∀b∈ts,h.get? b=some (PySem.W.tabObj #[]))
  (hK0:∀(w:World),∀b∈ts,(K w.params).lookup b=none) (hcd:∀(w:World),∀b∈ts,∃c,PySem.W.codeHdIn (K w.params) c b=true)
  (F:∀(w:World) (mg:Str->Option Value) (fa:Addr) (h:Heap),(K w.params).In h->h.Ns y0n mg->mg d.name=some (.ref fa) ->
   ∃fd:y0b,(∀(s:y04) (u:Value),BindsTo s fd ⟨[u],[]⟩ [(x,u)]) /\
    ∀base:Heap,(K w.params).In base->base.Ns y0n mg->BM mg base->FnOk l.prog w (K w.params) mg base (CX w) k fa fd [x] (sp w))
  (hsp:∀(w:World) (H:Hp) (a:Addr) (ns:List Int),ns.length<=n->zix ts H->SqL (K w.params) H a (ns.map V.int)->sp w [.ref a] H (fun v _=>v=.bl true) fun _ _ _=>False)
  (hCX:∀(w:World) (H:Hp) (s:y04) (e:Value) (s':y04),CX w [] H s (fun _ _ _=>False) e s'->False) :
  PySem.W.WalkO q loose XP YP l.row.toRowW d [] (fun f vs=>PySem.call f vs):=by
 refine Att.attach_call hn hdf fun w s₀ s₁ mg mb fa o pm cd doc a vs ns G Y ho hd hcd' hmg hobj hints hlen hg=>?_
 have KX:=hY w _ Y
 obtain⟨fd,hb,hF⟩:=F w mg fa _ KX G.T.g hmg
 exact zf9 KX (hT w _ Y) (hK0 w) (hcd w) G.T.g G.T.b G.T.builtins G.T.nolimit hg hobj hints (y1k hlen hn2) hr G.T.bmain hF hb (fun H hO hS=>hsp w H a ns hlen hO hS) fun H e s'=>hCX w H s₁ e s'
theorem zds {t:Tbl} {K:y00} {H:Hp} {a:Addr} {ns:List Int} {d:List T->Option T} {ts:List Addr} (hts:∀p∈t.tb,p.1∈ts) (hO:zix ts H) (hL:noL K=true) (hd:d [scriptT ns]=some (.bool true)) (hS:SqL K H a (ns.map V.int)):spT K 1 d [.ref a] H (fun v _=>v=.bl true) fun _ _ _=>False:=by
 rcases hS with hS|⟨o,its,n,hk,hc,_⟩
 ·refine⟨rfl,fun b=>b=a,[scriptT ns],.bool true,⟨?_,fun p hp=>⟨#[],hO.2 p.1 (hts p hp),trivial,fun pos cv e=>by cases e⟩⟩,RepL.cons ?_ RepL.nil,hd,fun v F' H' x r=>by simpa [Rep] using r⟩
  ·rintro b rfl
   rcases hS with q|⟨u,q⟩
   ·exact⟨_,q⟩
   ·exact⟨_,q⟩
  ·simp only[scriptT,Rep]
   exact⟨a,_,rfl,rfl,hS,z5m ns⟩
 ·have:=List.all_eq_true.mp hL _ (z5w hk)
  simp[hc] at this
end
section
variable [Tbl]
def z7p (f:Fe):Fx:=fun ε=>(f ε).map fun t=>(t,ε)
def op2X (o:T->T->Option T) (f g:Fx):Fx:=fun ε=>(f ε).bind fun r=>(g r.2).bind fun s=>(o r.1 s.1).map fun z=>(z,s.2)
abbrev Ftx:=Ev->Option (Bool×Ev)
def tstX (f:Fx):Ftx:=fun ε=>(f ε).bind fun r=>match r.1 with
 | .bool b=>some (b,r.2)
 | _=>none
def iffX (c:Ftx) (a b:Fs):Fs:=fun ε=>(c ε).bind fun r=>if r.1 then a r.2 else b r.2
def tTX (K:y00) (f:Ftx):TT:=fun σ H Q=>∃F₀ E O F ε b ε',RelE K F₀ E O F H ε σ/\f ε=some (b,ε')/\∀F' H',Kp K F H F' H'->RelE K F₀ E O F' H' ε' σ->Q b H'
abbrev PTx (X:Cx) (e:Expr) (f:Ftx):Prop:=PT X e (tTX X.K f)
section
variable {X:Cx} {a b e:Expr} {es:List Expr} {f g:Fx} {fe:Fe} {ft:Ft} {c d:Ftx} {pos:Pos}
theorem zj0 (h:PEv X e fe):PEx X e (z7p fe):=z0s h fun σ H Q ⟨F₀,E,O,F,ε,t,ε',r,e,k⟩=>by
 simp only[z7p,y07] at e
 obtain⟨t',et,e⟩:=e
 cases e
 exact⟨F₀,E,O,F,ε,t,r,et,fun v F' H' x rv=>k v F' H' x.kp (r.ext x) rv⟩
theorem zhp {o:T->T->Option T} {R:R2} (h:Op2 X.K o R):∀σ H Q,tX X.K (op2X o f g) σ H Q->tOp R (tX X.K f) (tX X.K g) σ H Q:=by
 rintro σ H Q ⟨F₀,E,O,F,ε,t,ε',r,e,k⟩
 simp only[op2X,y01,y07] at e
 obtain⟨⟨x,ε1⟩,ex,⟨y,ε2⟩,ey,z,eo,e⟩:=e
 cases e
 refine⟨F₀,E,O,F,ε,x,ε1,r,ex,fun vx F1 H1 kp1 r1 rx=>⟨F₀,E,O,F1,ε1,y,ε2,r1,ey,fun vy F2 H2 kp2 r2 ry=>?_⟩⟩
 exact h O F2 H2 x y t vx vy Q r2.dom (.inl (rx.kp kp2)) (.inl ry) eo fun v F' H' x3 q3=>k v F' H' ((kp1.trans kp2).trans x3.kp) (r2.ext x3) q3
theorem zny {op:CmpOp} {R:R2} {o:T->T->Option T} (ho:OpR X (compareOp op) R) (h2:Op2 X.K o R) (ha:PEx X a f) (hb:PEx X b g) (hm:behindInMarks op b=false:=by first|exact zbo _|rfl):PTx X (.Compare a [op] [b] pos) (tstX (op2X o f g)) :=
 z6l (zag ho ha hb hm) fun σ H Q ⟨F₀,E,O,F,ε,b,ε',r,e,k⟩=>by
 simp only[tstX,y01] at e
 obtain⟨⟨t,ε1⟩,et,e⟩:=e
 split at e
 next z hz =>
  cases e
  subst hz
  refine zhp h2 σ H _ ⟨F₀,E,O,F,ε,_,_,r,et,fun v F' H' kp r' q=>?_⟩
  simp only[Rep] at q
  exact⟨_,q,k F' H' kp r'⟩
 next=>cases e
theorem zoa {g1 g2:Fs} {rest els:List Stmt} (hc:PTx X e c) (ha:PBt X rest g1) (hb:PBt X els g2):PSt X (.If e rest els pos) (iffX c g1 g2):=z1u (zhh hc ha hb) fun D σ H ⟨F₀,E,O,F,ε,o,r,e,k⟩=>by
 simp only[iffX,y01] at e
 obtain⟨⟨z,ε1⟩,ec,e⟩:=e
 refine⟨F₀,E,O,F,ε,z,ε1,r,ec,fun F1 H1 kp1 r1=>?_⟩
 cases z with
 | true=>exact iteT ⟨F₀,E,O,F1,ε1,o,r1,by simpa using e,k.kp kp1⟩
 | false=>exact iteF ⟨F₀,E,O,F1,ε1,o,r1,by simpa using e,k.kp kp1⟩
end
end
section
variable [Tbl]
section
variable {X:Cx} {a b:Expr} {f g:Fo} {pos:Pos}
end
end
section
variable [Tbl]
theorem zfy {P:y0q} {w:World} {K:y00} {mg:Str->Option Value} {base:Heap} {x qual:Str} {st:Stmt} {f:Addr} {oc:Value} {od an:Option Addr} {osl:Array (Option Value)} {kV doc pm cdv ct:Value} {N ps:List Str} {k:Nat} {b:Fs}
  (l:K.lookup f=some ⟨oc,od,.func (y0i x qual (z0l st) (z08 st) (z00 st) .none kV doc pm an cdv ct),osl⟩) (hcd:y0f K cdv qual=true) (S:FnScope N ps (z00 st))
  (hb:∀(A:Around) (outer:List Env) (s:y04) (H:Hp) (E:XK),Room k (A.deeper (envOfC qual (z00 st) s.heap.objs.size f cdv)) ->
   PBt (cxOf CX0 P w K mg base N qual (z00 st) f cdv A outer s H E).nox (z08 st) b) :
  FnOk P w K mg base CX0 (k+1) f (y0i x qual (z0l st) (z08 st) (z00 st) .none kV doc pm an cdv ct) ps (spT K ps.length (runF b N.length)):=by
 refine zl7 l hcd S (fun vs H Q E h=>h.1) fun A outer s H vs Q E hr h=>⟨_,(hb A outer s H E hr).nox,?_⟩
 obtain⟨hl,F,ts,t,dom,q,e,kq⟩:=h
 simp only[runF,y01] at e
 obtain⟨o,eo,e⟩:=e
 refine⟨F,⟨H,0⟩,fun a=>H a=none,F,_,o,?_,eo,?_⟩
 ·have:=z6z (N:=N) dom q (N.length - ts.length)
  unfold L2.start
  rw[q.length] at this ⊢
  exact this
 ·cases o with
  | rt t' =>
   cases e
   exact fun v F' H' x q=>kq v F' H' x q
  | nx ε' =>
   cases e
   exact fun σ' F' H' _ r=>kq _ F' H' r.ent (by simp[Rep])
  | bk _=>cases e
  | ct _=>cases e
  | rtm _ _=>cases e
  | rto _=>cases e
end
section
abbrev tOf (tb:List (Addr×Str)):Tbl:=⟨tb,fun _=>[],fun _=>none⟩
theorem zl8 {t:Tbl} {tb:List (Addr×Str)} (ht:t.tb=tb) {P:y0q} {w:World} {K:y00} {mg:Str->Option Value} {base:Heap} {k n:Nat} {f:Addr} {fd:y0b} {ps:List Str} {d:List T->Option T} (F:FnOk P w K mg base CX0 k f fd ps (@spT t K n d)):FnOk P w K mg base CX0 k f fd ps (@spT (tOf tb) K n d):=by
 subst ht
 have d1:∀{F:Addr->Prop} {H:Hp},@Dom (tOf t.tb) F H->@Dom t F H:=fun {F H} h=>@Dom.mk t F H (@Dom.dm (tOf t.tb) F H h) (@Dom.tgs (tOf t.tb) F H h)
 have d2:∀{F:Addr->Prop} {H:Hp},@Dom t F H->@Dom (tOf t.tb) F H:=fun {F H} h=>@Dom.mk (tOf t.tb) F H (@Dom.dm t F H h) (@Dom.tgs t F H h)
 refine F.imp fun vs H Q E h=>?_
 obtain⟨hl,F,ts,r,dom,q,e,kq⟩:=h
 exact⟨hl,F,ts,r,d1 dom,q,e,fun v F' H' x rv=>kq v F' H' (@Ext.mk (tOf t.tb) F H F' H' (@Ext.same t F H F' H' x) (@Ext.sub t F H F' H' x) (@Ext.new t F H F' H' x) (d2 (@Ext.dom t F H F' H' x))) rv⟩
end
end D
end
section
namespace D
open PySem PySem.Spec PySem.Calls PySem.W PyProof.Rows PySem.Builtin PySem.Builtin.ObjectAttr PySem.Builtin.Getset_descriptor
def z33 (x C:Addr) (h:Heap):Prop:=∃o vs,h.get? x=some o/\o.cls=.ref C/\o.data=.fields vs
structure ExcOk (K:Frag) (C:Addr):Prop where
 cl:(clsIn K C).isSome=true
 ga:findIn K (.ref C) "__getattribute__"=some (some (.builtin "BaseException.__getattribute__"))
 gn:findIn K (.ref C) "__getattr__"=some none
 at_:findIn K (.ref C) "__class__"=some (some (.builtin "object.__class__"))
 sp:specialIn K (.builtin "object.__class__") "__get__"=some (some (.builtin "getset_descriptor.__get__"))
 tk:takesIn K (.builtin "object.__class__")=some true
 mo:mroIn K C (.type "object")=some true
 mb:mroIn K C (.type "BaseException")=some true
section
variable {prog:y0q} {w:World} {A:Around} {E:Value->y04->Prop} {s:y04} {K:Frag} {x C:Addr} {R:Result->y04->Prop}
theorem z33.type {M:Model} {h:Heap} (I:z33 x C h):Looks M h (typeOf (.ref x)) (.ref C):=by
 obtain⟨o,vs,h1,h2,h3⟩:=I
 exact h2▸(Looks.ld h1).andThen .now
theorem zl9 {tp:Value} (X:K.In s.heap) (I:z33 x C s.heap) (hm:mroIn K C (.type "object")=some true)
  (h:R (.ok (.ret (.ref C))) s):codeAny (model prog w) A (.call (.builtin "getset_descriptor.__get__") ⟨[.builtin "object.__class__",.ref x,tp],[]⟩) R s:=by
 obtain⟨hh,g,dr,t,os⟩:=s
 have L0:=I.type (M:=model prog w)
 have L1:=looks_mroIn (M:=model prog w) X hm
 refine codeAny_call_builtin KF.slot_gs.plain KF.entry_gs (KF.slot_gs.check _ _ _ _ _ _ _ _ KF.type_class (KF.args_gs _ _ _) ?_)
 unfold Builtin.«getset_descriptor.__get__» descrGet
 rw[dga_obj]
 refine y02 (y06 ?_)
 unfold descrGetter descrCheckInstance descrNameAndClass isInstance
 simp only[KF.owner_class]
 obtain⟨o,vs,h1,h2,h3⟩:=I
 repeat lk
 refine⟨Code.quiet_builtin _ (by decide +kernel),codeAny_builtin KF.entry_class ?_⟩
 unfold Builtin.«object.__class__» shownTypeOf
 repeat lk
 exact h
theorem zim {M:Model} {h:Heap} (X:K.In h) (O:ExcOk K C):Looks M h (find (.ref x) (.ref C) "__class__") (.bind (.builtin "getset_descriptor.__get__") (.builtin "object.__class__")):=by
 have L1:=looks_findIn (M:=M) X O.at_
 have L2:Looks M h (getOf (some (.builtin "object.__class__"))) (some (.builtin "getset_descriptor.__get__")):=looks_specialIn X O.sp
 have L3:=looks_takesIn (M:=M) X O.tk
 refine L1.andThen (L2.andThen ?_)
 exact (show Looks M h (dataDescriptor? (some (.builtin "object.__class__")) (some (.builtin "getset_descriptor.__get__"))) (some (.builtin "getset_descriptor.__get__",.builtin "object.__class__")) from L3.andThen .now).andThen (Looks.tag .now)
theorem zg2 {tk:Tok} {Q:Fin->y04->Prop} (X:K.In s.heap) (I:z33 x C s.heap) (O:ExcOk K C) (hq:Q (.done (.ret (.ref C))) s) :
  y0u (model prog w) A (Builtin.«object.__getattribute__» ⟨[.ref x,.str "__class__" tk],[]⟩) Q E s:=by
 obtain⟨hh,g,dr,t,os⟩:=s
 have L0:=I.type (M:=model prog w)
 have L1:=zim (x:=x) (M:=model prog w) X O
 unfold Builtin.«object.__getattribute__»
 refine y02 (y06 (a:=(Value.ref x,[Value.str "__class__" tk])) (y02 (y06 (a:=("__class__":Str)) ?_)))
 refine y02 (L0.at (y02 (L1.at ?_)))
 show y0u _ _ (holding [Value.builtin "object.__class__"] (call (Value.builtin "getset_descriptor.__get__") [Value.builtin "object.__class__",Value.ref x,Value.ref C]) >>= ret) _ _ _
 exact y02 (wpAny_holding (wpAny_call (zl9 X I O.mo (y06 hq))))
theorem zg4 {M:Model} {tk:Tok} {Q:Unit->y04->Prop} (X:K.In s.heap) (I:z33 x C s.heap) (O:ExcOk K C) (hq:Q () s) :
  y0u M A (checkBuiltinCall "BaseException.__getattribute__" ⟨[.ref x,.str "__class__" tk],[]⟩) Q E s:=by
 obtain⟨hh,g,dr,t,os⟩:=s
 have L0:=I.type (M:=M)
 have L1:=looks_mroIn (M:=M) X O.mb
 have LI:Looks M hh (isInstance (.ref x) (.type "BaseException")) true:=L0.andThen L1
 have hsplit:splitId "BaseException.__getattribute__"=some ("BaseException","__getattribute__"):=by decide +kernel
 have hk:builtinKind "BaseException.__getattribute__"=some .slot:=by decide +kernel
 have ha:=PySem.F.args_bexc_ga (.ref x) (.str "__class__" tk)
 simp only[checkBuiltinCall,hk,hsplit]
 refine y02 (LI.at ?_)
 simp only[Bool.not_true,y1o,if_false]
 cases hsig:Manifest.signature? "BaseException.__getattribute__" with
 | none=>exact y06 hq
 | some sig =>
  simp only[argsOk,hsig] at ha
  have h2:Bind.checkArgs "BaseException.__getattribute__" sig ⟨[.ref x,.str "__class__" tk],[]⟩=pure ():=ha
  show y0u M A (Bind.checkArgs "BaseException.__getattribute__" sig ⟨[.ref x,.str "__class__" tk],[]⟩) Q E _
  rw[h2]
  exact y06 hq
theorem zg3 {Q:Option Value->y04->Prop} (X:K.In s.heap) (I:z33 x C s.heap) (O:ExcOk K C) (hq:Q (some (.ref C)) { s with toks:=s.toks+1 }) :
  y0u (model prog w) A (getAttr? (.ref x) "__class__") Q E s:=by
 obtain⟨hh,g,dr,t,os⟩:=s
 have L0:=I.type (M:=model prog w)
 have L1:=looks_findIn (M:=model prog w) X O.ga
 have L2:=looks_findIn (M:=model prog w) X O.gn
 unfold getAttr? getAttrBy? getAttrBy
 refine y02 (wpAny_mkText (y02 (wpAny_attempt (wpAny_holding (y02 (L0.at (y02 (L1.at ?_))))))))
 show y0u _ _ (getAttrByItsOwn _ _ _ _ _ _) _ _ _
 unfold getAttrByItsOwn
 refine y02 (L2.at ?_)
 refine y02 (wpAny_attempt (wpAny_holding ?_))
 show y0u _ _ (boundAndCalled _ _ _) _ _ _
 unfold boundAndCalled
 rw[PySem.F.excAttr_ValueError.ga.bind]
 refine y02 (y06 ?_)
 refine wpAny_call (codeAny_call_builtin PySem.F.excAttr_ValueError.ga.plain PySem.F.entry_bexc_ga (zg4 X I O (zg2 X I O ?_)))
 exact y06 (y06 hq)
theorem zia (O:ExcOk K C):KitX K (.ref x) (.ref C) (z33 x C) where
 ty:=fun _ _ _ I=>I.type
 it:=fun _ _ X _=>by
  have hcD:=O.cl
  unfold clsIn at hcD
  split at hcD
  ·rename_i c' d' cd' sl' ho
   intro A' Q' E' s' k q
   unfold isType loadHead
   exact y02 (wpAny_loadPart (k _ _ (X _ _ ho)) (y06 q))
  ·cases hcD
 ne:=fun h tp dd its n sl X htp=>by
  have hcD:=O.cl
  refine Bool.eq_false_iff.mpr fun q=>?_
  have e:C=tp:=Value.ref.inj (beq_iff_eq.mp q)
  subst e
  unfold clsIn at hcD
  split at hcD
  ·rename_i c' d' cd' sl' ho
   have z:=(X _ _ ho).symm.trans htp
   cases z
  ·cases hcD
 ca:=fun X I k=>zg3 X I O k
end
end D
end
section
namespace D
open PySem PySem.Spec PyProof.Rows L2
section
structure FlownAt (P:y0q) (w:World) (outer:List Env) (H:Hp) (s:y04) (C:Addr) (H':Hp) (ea:Addr) (a0:Value) (B:Heap) (s':y04):Prop where
 os:s'.os=s.os
 bare:AllBare s'.gens
 fly:Heap.FlyingW B outer ea (.ref C) a0 s'.heap
 hok:HOk P w H' B
 un:Un (frs outer) [] H H' s.heap s'.heap
 cov:∀b o,s.heap.get? b=some o->H b=none->b∉frs outer->B.get? b=some o
 thr:∀b o,s.heap.get? b=some o->b∉frs outer->∃o',B.get? b=some o'
def ziy (P:y0q) (w:World) (outer:List Env) (H:Hp) (s:y04) (C:Addr) (H':Hp) (e:Value) (s':y04):Prop:=∃ea a0 B,e=.ref ea/\FlownAt P w outer H s C H' ea a0 B s'
def CXR (P:y0q) (w:World):CXT:=fun outer H s E e s'=>∃C H',ziy P w outer H s C H' e s'/\E (.ref C) none H'
noncomputable def zjs (X:Cx) (H:Hp) (s:y04) (C:Addr) (H':Hp) (e:Value) (s':y04):Prop :=
 (H'=H/\∃ea args h2,e=.ref ea/\s'={ s with heap:=h2 }/\Heap.MadeExcOf s.heap h2 ea (.ref C) args)\/ziy X.prog X.w X.stack H s C H' e s'
def XeOk (X:Cx) (C:Addr) (H':Hp):Prop:=∀(pins:List (Addr×Obj)) (σ:L2.St) (H:Hp) (s:y04) (e:Value) (s':y04),Inv X pins σ H s->zjs X H s C H' e s'->X.xe e s'
theorem z79 {h h' base:Heap} {l:List Env} {b:Addr} {o:Obj} (F:h.FunFrames base l) (hb:b∈frs l) (e:h.get? b=some o) (k:h.UpToSlots h'):∃sl,h'.get? b=some { o with slots:=sl }:=by
 obtain⟨_,o',e',hd⟩:=F.mem hb
 rw[e] at e'
 cases e'
 exact k b o e hd
theorem FlownAt.on {P:y0q} {w:World} {outer:List Env} {H H':Hp} {s s':y04} {C ea:Addr} {a0:Value} {B h6:Heap} (x:FlownAt P w outer H s C H' ea a0 B s') (st:B.StaysIn h6) (k:s'.heap.UpToSlots h6) :
  Un (frs outer) [] H H' s.heap h6/\HOk P w H' h6:=by
 refine⟨⟨fun b o e n f _=>st _ _ (x.cov b o e n f),fun b o e n f hx=>?_,fun b o e n hx=>x.un.free b o e n hx,fun b o e hx=>?_,x.un.tups,x.un.frzs,x.un.tbls⟩,x.hok.kept st⟩
 ·obtain⟨sl,e1⟩:=x.un.slot b o e n f hx
  obtain⟨sl2,e2⟩:=z79 x.fly.2.2.1 f e1 k
  exact⟨sl2,e2⟩
 ·by_cases f:b∈frs outer
  ·obtain⟨o',e1⟩:=x.un.there b o e hx
   obtain⟨sl2,e2⟩:=z79 x.fly.2.2.1 f e1 k
   exact⟨_,e2⟩
  ·obtain⟨o',e1⟩:=x.thr b o e f
   exact⟨o',st _ _ e1⟩
theorem zl3 {P:y0q} {w:World} {H:Hp} {h:Heap} {as:List Addr} (x:HOk P w H h) (n:∀b∈as,H b=none):HOk P w H (PySem.W.hideAll h as):=fun a o e =>
 z26.stay (x a o e) (fun b u hb q=>PySem.W.hideAll_get _ q fun m=>by
  have z:=n b m
  rcases hb with rfl|hb
  ·rw[e] at z;cases z
  ·rw[hb] at z;cases z) (fun b hb=>hb) fun b xs hb=>hb
section
variable {X:Cx} {pins:List (Addr×Obj)} {σ:L2.St} {H1 H':Hp} {s1 s2:y04} {C:Addr} {e:Value} {env:Env} {outer:List Env} {E:XK}
theorem zb2 (I:Inv X pins σ H1 s1) (t:zjs X H1 s1 C H' e s2) (hE:E (.ref C) none H') {Z:Value->y04->Prop} (hst:X.stack=env::outer:=by rfl) (hou:X.outer=outer:=by rfl) (hex:X.ex=[]:=by rfl) (hf:env.frame=some X.env.locals:=by rfl) :
  y0u (model X.prog X.w) X.A (leaving env e) (fun _ s''=>CXR X.prog X.w outer X.H₀ X.s₀ E e s'') Z s2:=by
 have hfs:X.fs=frs outer:=by unfold Cx.fs;rw[hou]
 have hfr:=I.ok.frames
 rw[hst] at hfr
 have un0:=I.base
 rw[hfs,hex] at un0
 have nx:∀b:Addr,b∉([]:List Addr):=fun b z=>absurd z (by simp)
 have notL:∀b o,X.s₀.heap.get? b=some o->b∉frs outer->b∉frs (env::outer):=fun b o e0 n m=>by
  obtain⟨en,he,hf'⟩:=List.mem_filterMap.mp m
  rcases y09.mp he with rfl|he
  ·rw[hf] at hf'
   cases hf'
   exact absurd (y0c e0) (Nat.not_lt.mpr I.ok.above)
  ·exact n (List.mem_filterMap.mpr ⟨en,he,hf'⟩)
 have stk:=I.stack
 rw[hst] at stk
 rcases t with ⟨eH,ea,args,h2,ee,es,mk⟩|⟨ea,a0,B,ee,fl⟩
 ·subst eH ee es
  have hin:∀en∈(env::outer),∀b,en.frame=some b->b∈frs (env::outer):=fun en he b hb=>List.mem_filterMap.mpr ⟨en,he,hb⟩
  refine wpAny_leaves_madeW (base:=PySem.W.hideAll s1.heap (frs (env::outer))) hfr hf (fun b o q=>PySem.W.of_hideAll _ q) (PySem.W.funFrames_hide stk hin) mk fun h' t x1 x2 x3 x4=>?_
  have fr0:=I.stkFree
  rw[hst] at fr0
  have cov:∀b o,X.s₀.heap.get? b=some o->X.H₀ b=none->b∉frs outer->(PySem.W.hideAll s1.heap (frs (env::outer))).get? b=some o:=fun b o e0 n f=>PySem.W.hideAll_get _ (un0.keep b o e0 n f (nx b)) (notL b o e0 f)
  have thr:∀b o,X.s₀.heap.get? b=some o->b∉frs outer->∃o',(PySem.W.hideAll s1.heap (frs (env::outer))).get? b=some o':=fun b o e0 f=>by
   obtain⟨o',e1⟩:=un0.there b o e0 (nx b)
   exact⟨o',PySem.W.hideAll_get _ e1 (notL b o e0 f)⟩
  have sl:∀b o,s1.heap.get? b=some o->b∈frs outer->∃sl,h'.get? b=some { o with slots:=sl }:=fun b o e1 f=>by
   have F2:s1.heap.FunFrames X.base (env::outer):=stk
   obtain⟨_,o',e',hd⟩:=F2.mem (b:=b) (by
    obtain⟨en,he,hf'⟩:=List.mem_filterMap.mp f
    exact List.mem_filterMap.mpr ⟨en,y05 _ he,hf'⟩)
   rw[e1] at e'
   cases e'
   exact x4 b o (mk.keeps b o e1) hd
  refine⟨C,_,⟨ea,_,_,rfl,⟨I.os,I.bare,x1,zl3 I.hok fr0,⟨fun b o e0 n f _=>x1.1 _ _ (cov b o e0 n f),fun b o e0 n f _=>?_,fun b o e0 n _=>un0.free b o e0 n (nx b),fun b o e0 _=>?_,un0.tups,un0.frzs,un0.tbls⟩,cov,thr⟩⟩,hE⟩
  ·obtain⟨sl1,e1⟩:=un0.slot b o e0 n f (nx b)
   obtain⟨sl2,e2⟩:=sl b _ e1 f
   exact⟨sl2,e2⟩
  ·by_cases f:b∈frs outer
   ·obtain⟨o',e1⟩:=un0.there b o e0 (nx b)
    obtain⟨sl2,e2⟩:=sl b _ e1 f
    exact⟨_,e2⟩
   ·obtain⟨o',e1⟩:=thr b o e0 f
    exact⟨o',x1.1 _ _ e1⟩
 ·subst ee
  rw[hst] at fl
  refine wpAny_leaves_onW hfr hf fl.fly fun h' x1 x2=>?_
  have on:=fl.on x1.1 x2
  have cov:∀b o,X.s₀.heap.get? b=some o->X.H₀ b=none->b∉frs outer->B.get? b=some o:=fun b o e0 n f=>fl.cov b o (un0.keep b o e0 n f (nx b)) (un0.free b o e0 n (nx b)) (notL b o e0 f)
  have thr:∀b o,X.s₀.heap.get? b=some o->b∉frs outer->∃o',B.get? b=some o':=fun b o e0 f=>by
   obtain⟨o',e1⟩:=un0.there b o e0 (nx b)
   exact fl.thr b o' e1 (notL b o e0 f)
  have up:∀b,b∈frs outer->b∈frs (env::outer):=fun b f=>by
   obtain⟨en,he,hf'⟩:=List.mem_filterMap.mp f
   exact List.mem_filterMap.mpr ⟨en,y05 _ he,hf'⟩
  refine⟨C,_,⟨ea,_,B,rfl,⟨fl.os.trans I.os,fl.bare,x1,fl.hok,⟨fun b o e0 n f _=>x1.1 _ _ (cov b o e0 n f),fun b o e0 n f _=>?_,fun b o e0 n _=>?_,fun b o e0 _=>?_,fun b xs q=>on.1.tups _ _ (un0.tups _ _ q),fun b o u q=>on.1.frzs _ _ _ (un0.frzs _ _ _ q),fun b ps q=>?_⟩,cov,thr⟩⟩,hE⟩
  ·obtain⟨sl1,e1⟩:=un0.slot b o e0 n f (nx b)
   obtain⟨sl2,e2⟩:=on.1.slot b _ e1 (un0.free b o e0 n (nx b)) (up b f) (nx b)
   exact⟨sl2,e2⟩
  ·obtain⟨sl1,e1⟩:=un0.any e0 n (nx b)
   exact on.1.free b _ e1 (un0.free b o e0 n (nx b)) (nx b)
  ·obtain⟨o',e1⟩:=un0.there b o e0 (nx b)
   exact on.1.there b o' e1 (nx b)
  ·obtain⟨m1,q1⟩:=un0.tbls b ps q
   obtain⟨m2,q2⟩:=on.1.tbls b _ q1
   exact⟨m1++m2,by rw[q2,Array.append_assoc]⟩
theorem zhn (h:∀C H',E (.ref C) none H'->XeOk X C H'):zci (CXR X.prog X.w) X E:=fun pins σ H s e s' I ⟨C,H',fl,hE⟩=>h C H' hE pins σ H s e s' I (.inr fl)
end
end
section
variable [Tbl]
abbrev Fz:=Ev->Bool
def tEZ (X:Cx) (C:Addr) (r:Fz):TE:=fun σ H _=>∃F₀ E O F ε,RelE X.K F₀ E O F H ε σ/\r ε=true/\∀F' H',Ext F H F' H'->XeOk X C H'
def tSZ (X:Cx) (C:Addr) (r:Fz):TS:=fun _ σ H=>∃F₀ E O F ε,RelE X.K F₀ E O F H ε σ/\r ε=true/\∀F' H',Ext F₀ E.h F' H'->XeOk X C H'
abbrev PEz (X:Cx) (C:Addr) (e:Expr) (r:Fz):Prop:=PE X e (tEZ X C r)
abbrev PSz (X:Cx) (C:Addr) (s:Stmt) (r:Fz):Prop:=PS X s (tSZ X C r)
abbrev PBz (X:Cx) (C:Addr) (s:List Stmt) (r:Fz):Prop:=PSs X s (tSZ X C r)
def noZ:Fz:=fun _=>false
def seqZ (b:Fs) (r:Fz):Fz:=fun ε=>match b ε with
 | some (.nx ε')=>r ε'
 | _=>false
def iffZ (c:Ft) (a b:Fz):Fz:=fun ε=>match c ε with
 | some true=>a ε
 | some false=>b ε
 | none=>false
def okZ (f:Fe):Fz:=fun ε=>(f ε).isSome
theorem PS.nox {X:Cx} {st:Stmt} {t:TS} (h:PS X.nox st t):PS X st t:=fun pins s σ H D I hw =>
 y1b (h pins s σ H D (I.wish _) hw) (fun _ _ q=>q.unwish) fun _ _ z=>y1s z
theorem PA.nox {X:Cx} {es:List Expr} {t:TA} (h:PA X.nox es t):PA X es t:=fun pos pins s σ H Q I hw =>
 y1b (h pos pins s σ H Q (I.wish _) hw) (fun _ _ ⟨v,H',I',r,q⟩=>⟨v,H',I'.unwish,r,q⟩) fun _ _ z=>y1s z
section
variable {X:Cx} {C:Addr} {e c:Expr} {st:Stmt} {rest els:List Stmt} {r r':Fz} {b:Fs} {ft:Ft} {pos:Pos}
theorem z_no {l:List Stmt}:PBz X C l noZ:=fun pins s σ H D I h=>by
 obtain⟨_,_,_,_,_,_,e,_⟩:=h
 cases e
theorem z_1 (h:PSz X C st r):PBz X C (st::rest) r:=z6m (z2w (u:=fun _ _ _=>False) h fun _ _ _ _ _ _ z=>z.elim) fun D σ H q=>q
theorem z_n (h1:PSt X.nox st b) (h2:PBz X C rest r):PBz X C (st::rest) (seqZ b r):=z6m (z2w (PS.nox h1) h2) fun D σ H ⟨F₀,E,O,F,ε,rl,e,k⟩=>by
 unfold seqZ at e
 split at e
 next ε' hb=>exact⟨F₀,E,O,F,ε,_,rl,hb,fun σ' F' H' kp r2=>⟨F₀,E,O,F',ε',r2,e,k⟩⟩
 next=>cases e
theorem z_if (hc:PTt X.nox c ft) (ha:PBz X C rest r) (hb:PBz X C els r'):PSz X C (.If c rest els pos) (iffZ ft r r'):=z1u (zhh hc.nox ha hb) fun D σ H ⟨F₀,E,O,F,ε,rl,e,k⟩=>by
 unfold iffZ at e
 split at e
 next hx=>exact⟨F₀,E,O,F,ε,true,rl,hx,fun F' H' x=>iteT ⟨F₀,E,O,F',ε,rl.ext x,e,k⟩⟩
 next hx=>exact⟨F₀,E,O,F,ε,false,rl,hx,fun F' H' x=>iteF ⟨F₀,E,O,F',ε,rl.ext x,e,k⟩⟩
 next=>cases e
theorem zo3 {σ:L2.St} {H:Hp} {D:Ends} {Q:VK} (h:tSZ X C r D σ H):tEZ X C r σ H Q:=by
 obtain⟨F₀,E,O,F,ε,rl,e,k⟩:=h
 exact⟨F₀,E,O,F,ε,rl,e,fun F' H' x=>k F' H' (rl.ent.trans x)⟩
theorem znw (h:PEz X C e r):PSz X C (.Return (some e) pos) r:=z1u (z8u h) fun D σ H q=>zo3 q
end
abbrev bmV:List Value:=[.type "ValueError",.type "Exception",.type "BaseException",.type "object"]
theorem zkp {K:y00} {h:Heap} {C:Addr} {bmB:List Value} {newId:String} (X:K.In h) (q:PySem.W.excIn K C bmB newId=true) :
  ∃bm N nm q bs hdct sn sub ab col dd k0 k1 k2 k3 k5 mN,h.get? C=some (excClassObj nm q C N bs bm hdct sn sub ab col dd k0 k1 k2 k3 k5 newId)/\h.Ns N mN/\mN "__init__"=none/\OwnTail h bmB bm:=by
 unfold PySem.W.excIn at q
 split at q
 ·rename_i dd cd sl ho
  split at q
  ·rename_i C' bm k0 k1 k2 k3 n k5 hm hs
   simp only[y19,beq_iff_eq,Bool.not_eq_true'] at q
   obtain⟨⟨⟨⟨⟨rfl,rfl⟩,hdel⟩,ht⟩,hok⟩,hni⟩:=q
   obtain⟨nm,bs,mro,ns,qn,hd,sn,sub,ab,col,del⟩:=cd
   dsimp only at hm hdel hok hni
   subst hm hdel
   have hsl:sl=#[k0,k1,k2,k3,some (.builtin n),k5]:=by
    obtain⟨l⟩:=sl
    simp only at hs
    rw[hs]
   subst hsl
   exact⟨bm,ns,nm,qn,bs,hd,sn,sub,ab,col,dd,k0,k1,k2,k3,k5,_,X _ _ ho,.of_isNs (PySem.W.isNs_of_in X hok),PySem.W.nsMap_none_of_in X hok hni,PySem.W.tail_of_in X ht⟩
  ·cases q
 ·cases q
theorem zjw {X:Cx} {C:Addr} {x:Str} {e:Expr} {f:Fe} {np cpos pos:Pos} (hm:X.mg x=some (.ref C)) (hx:PySem.W.excIn X.K C bmV "ValueError.__new__"=true) (he:PEv X.nox e f) (hh:X.A.handled=none)
  (hg:Gl X x:=by rfl) (hs:y0a [e] X.env=(false,eval e X.env)::y0a [] X.env:=by rfl) (hd:(x == ("__debug__":Str))=false:=by decide) :
  PSz X C (.Raise (some (.Call (.Name x np) [e] [] cpos)) none pos) (okZ f):=by
 intro pins s σ H D I ⟨F₀,E,O,F,ε,rl,ef,k⟩
 obtain⟨t,et⟩:=Option.isSome_iff_exists.mp ef
 obtain⟨bm,N,nm,q,bs,hdct,sn,sub,ab,col,dd,k0,k1,k2,k3,k5,mN,hC,hN,hni,TL⟩:=zkp I.ok.mod.kin hx
 refine wpAny_Raise_call_subT (C:=C) (nm:=nm) (q:=q) (N:=N) (bs:=bs) (bm:=bm) (hdct:=hdct) (sn:=sn) (sub:=sub) (ab:=ab) (col:=col) (dd:=dd) (k0:=k0) (k1:=k1) (k2:=k2) (k3:=k3) (k5:=k5) (mN:=mN)
  PySem.F.excBase_ValueError (TL.hasType PySem.F.excBase_ValueError.hasBase) hh (by rw[hs];rfl) hni (z4p I hg hm ⟨rfl,?_⟩ hd)
 have ha:PA X [e] (z27 (tV X.K f) tNil):=z0c (PE.nox he) z1a hs
 have h0:=ha cpos pins s σ H (fun vs H1=>∃v,vs=[v]/\XeOk X C H1) I ⟨F₀,E,O,F,ε,t,rl,et,fun v F' H' x _=>⟨v,rfl,k F' H' (rl.ent.trans x)⟩⟩
 rw[hs] at h0 ⊢
 refine Calls.evalArgs_plain (y1b h0 (fun us s₂ ⟨vs,H1,I1,r1,v,ev,kx⟩=>⟨rfl,?_,?_,?_,?_,fun h' ea mk=>?_⟩) fun _ _ y=>y)
 ·have:=r1.length
  rw[ev] at this
  show us.length<=y0j
  rw[<- this]
  show 1<=y0j
  decide
 ·exact I1.bk _ _ hC
 ·exact hN.keeps I1.bk
 ·exact TL.keeps I1.bk
 ·exact kx pins σ H1 s₂ (.ref ea) _ I1 (.inl ⟨rfl,ea,_,h',rfl,rfl,mk⟩)
noncomputable def spZ (K:y00) (n:Nat) (C:Addr) (r:List Sl->Bool):Sp:=fun vs H _ E=>vs.length=n/\∃F ss,Dom F H/\zlk K F H ss vs/\r ss=true/\∀F' H',Ext F H F' H'->E (.ref C) none H'
def runZ (r:Fz) (n:Nat):List Sl->Bool:=fun ss=>r (z8i n ss)
structure ClZ (P:y0q) (w:World) (K:y00) (mg:Str->Option Value) (base:Heap) (x:Str) (C:Addr) (k n:Nat) (r:List Sl->Bool):Prop where
 ex:∃fa fd ps,FnOk P w K mg base (CXR P w) k fa fd ps (spZ K n C r)/\mg x=some (.ref fa)/\y08 K (.ref fa)=true/\z1k K fd ps []
section
variable {P:y0q} {w:World} {K:y00} {mg:Str->Option Value} {base:Heap}
theorem ClZ.mono {x:Str} {C:Addr} {k n j:Nat} {r:List Sl->Bool} (c:ClZ P w K mg base x C j n r) (h:j<=k):ClZ P w K mg base x C k n r:=by
 obtain⟨fa,fd,ps,F,q⟩:=c.ex
 exact⟨fa,fd,ps,F.mono h,q⟩
theorem zl6 {x qual:Str} {st:Stmt} {f C:Addr} {fd:y0b} {N ps:List Str} {k:Nat} {r:Fz} (F:Fun K x qual st f fd) (S:FnScope N ps (z00 st))
  (hb:∀(cdv:Value) (A:Around) (outer:List Env) (s:y04) (H:Hp) (E:XK),Room k (A.deeper (envOfC qual (z00 st) s.heap.objs.size f cdv)) ->
   PBz (cxOf (CXR P w) P w K mg base N qual (z00 st) f cdv A outer s H E) C (z08 st) r) :
  FnOk P w K mg base (CXR P w) (k+1) f fd ps (spZ K ps.length C (runZ r N.length)):=by
 obtain⟨oc,od,kV,doc,pm,an,cdv,ct,osl,rfl,lk,hcd⟩:=F.ex
 refine zl7 lk hcd S (fun vs H Q E h=>h.1) fun A outer s H vs Q E hr h=>⟨_,hb cdv A outer s H E hr,?_⟩
 obtain⟨hl,F,ss,dom,q,e,kq⟩:=h
 refine⟨F,⟨H,0⟩,fun a=>H a=none,F,_,?_,e,fun F' H' x=>?_⟩
 ·unfold L2.start
  exact zad dom q N.length
 ·intro pins σ H1 s1 e1 s2 I t
  refine y1b (zb2 (X:=cxOf (CXR P w) P w K mg base N qual (z00 st) f cdv A outer s H E) (E:=E) (Z:=fun _ _=>False) I t (kq F' H' x)) (fun _ _ z=>z) fun _ _ z=>z.elim
theorem zjp {x:Str} {C:Addr} {st:Stmt} {f:Addr} {fd:y0b} {N ps:List Str} {k:Nat} {r:Fz} (F:Fun K x x st f fd) (S:FnScope N ps (z00 st)) (bd:z1k K fd ps []) (m:mg x=some (.ref f))
  (hb:∀(cdv:Value) (A:Around) (outer:List Env) (s:y04) (H:Hp) (E:XK),Room k (A.deeper (envOfC x (z00 st) s.heap.objs.size f cdv)) ->
   PBz (cxOf (CXR P w) P w K mg base N x (z00 st) f cdv A outer s H E) C (z08 st) r):ClZ P w K mg base x C (k+1) ps.length (runZ r N.length):=⟨f,fd,ps,zl6 F S hb,m,F.kp,bd⟩
end
def z85 (r:List Sl->Bool) (as:List Ag):Fz:=fun ε=>match agsE as ε with
 | some ss=>r (ss.map roS)
 | none=>false
section
variable {X:Cx} {k n c C CO i:Nat} {ns:List Str} {r:List Sl->Bool} {x m:Str} {p pos apos:Pos} {o e:Expr} {es:List Expr} {as:List Ag} {fs:List Fe}
theorem ziz (Dc:ClZ X.prog X.w X.K X.mg X.base x C k n r) (hr:Room k X.A) (ha:PAg X.nox (e::es) as) (hg:Gl X x:=by rfl) (hn:as.length=n:=by rfl) (hdb:(x == ("__debug__":Str))=false:=by decide)
  (he:y0a (e::es) X.env=(false,eval e X.env)::y0a es X.env:=by rfl) (hpl:(backTo pos (y0a es X.env)).any (·.1)=false:=by rfl):PEz X C (.Call (.Name x p) (e::es) [] pos) (z85 r as):=by
 obtain⟨fa,fd,ps,F,hm,kp,b⟩:=Dc.ex
 refine z0s (zen F hr hg hm kp b .nil (zhn (E:=fun cl _ H'=>∃C',cl=.ref C'/\XeOk X C' H') fun C' H' ⟨C2,e2,q⟩=>by cases e2;exact q) (PA.nox ha) hdb he hpl) fun σ H Q ⟨F₀,E,O,F,ε,rl,e,k⟩=>?_
 unfold z85 at e
 split at e
 next ss es =>
  refine⟨F₀,E,O,F,ε,ss,rl,es,fun vs F1 H1 x1 q=>⟨?_,F1,ss.map roS,x1.dom,?_,e,fun F' H' x2=>⟨C,rfl,k F' H' (x1.trans x2)⟩⟩⟩
  ·rw[y1t,q.len,hn]
  ·rw[y1t]
   exact zgq (rl.ext x1) es q
 next=>cases e
end
end
section
abbrev Cx.inX (X:Cx) (ea:Addr):Cx:={ X with A:=X.A.mark (some (.ref ea)),calm:=false,xe:=fun _ _=>False }
section
variable {X:Cx} {pins:List (Addr×Obj)} {σ:L2.St} {H:Hp} {s:y04} {ea:Addr}
theorem zmu (ok:X.Ok) (ea:Addr):(Cx.inX X ea).Ok :=
 ⟨ok.mod,ok.kind,ok.glob,ok.blt,ok.above,ok.inj,ok.has,ok.cab,(fun (z:false=true)=>absurd z (by decide)),ok.frames,ok.stk,ok.exf,ok.bs,ok.bsz,ok.noex,ok.exfs,ok.funs,ok.frf⟩
theorem zfm (I:Inv X pins σ H s) (ea:Addr):Inv (Cx.inX X ea) pins σ H s:=⟨zmu I.ok ea,I.os,I.bare,I.base,I.loc,I.cell,I.free,I.freeC,I.pin,I.hok,I.len⟩
theorem zid (ok:X.Ok) (I:Inv (Cx.inX X ea) pins σ H s):Inv X pins σ H s:=⟨ok,I.os,I.bare,I.base,I.loc,I.cell,I.free,I.freeC,I.pin,I.hok,I.len⟩
theorem zie {i:Nat} {n:Str} {h':Heap} {m:Str->Option Value} {v:Option Value} {tk:Nat} (I:Inv X pins σ H s) (hi:X.N[i]?=some n) (hl:∀(i:Nat) (x:Str) (v:V),X.N[i]?=some x->σ[i]?=some (some v)->Vis X.env.scope x->∃u,RelV v u/\Look X.env s.heap m x u) (hN:X.N.Nodup)
  (hn:h'.Ns X.env.locals (fun x=>if x=n then v else m x)) (hs:Heap.SameBut X.env.locals s.heap h') (hoL:∃o,s.heap.get? X.env.locals=some o):Inv X pins (σ.set i none) H { s with heap:=h',toks:=tk }:=by
 have hiσ:i<σ.length:=by rw[I.len];exact (y0k.mp hi).1
 have cne:=I.cne
 have lt:∀{b:Addr} {o:Obj},X.s₀.heap.get? b=some o->b≠X.env.locals:=fun e=>y0y (y0x (y0c e) I.ok.above)
 refine⟨I.ok,I.os,I.bare,⟨fun b o e n hb hx=>(hs.2 b (lt e)).trans (I.base.keep b o e n hb hx),fun b o e n hb hx=>?_,I.base.free,fun b o e hx=>?_,I.base.tups,I.base.frzs,I.base.tbls⟩,⟨_,hn,fun j y v' e1 e2 e3=>?_⟩,fun y c e=>?_,I.free,I.freeC,fun p hp=>?_,fun b ob e=>?_,by simpa using I.len⟩
 ·obtain⟨sl,e1⟩:=I.base.slot b o e n hb hx
  exact⟨sl,(hs.2 b (lt e)).trans e1⟩
 ·obtain⟨o',e1⟩:=I.base.there b o e hx
  exact⟨o',(hs.2 b (lt e)).trans e1⟩
 ·by_cases hj:j=i
  ·subst hj
   rw[List.getElem?_set_self hiσ] at e2
   cases e2
  ·rw[List.getElem?_set_ne (Ne.symm hj)] at e2
   obtain⟨u',r',q⟩:=hl j y v' e1 e2 e3
   refine⟨u',r',?_⟩
   rcases q with ⟨k,e⟩|⟨k,c,e,z⟩
   ·refine .inl ⟨k,?_⟩
    have:y≠n:=fun e=>hj (z7s hN e1 (e▸hi))
    simp[this,e]
   ·exact .inr ⟨k,c,e,z.sameBut hs (cne y c e)⟩
 ·obtain⟨w',z⟩:=I.cell y c e
  exact⟨w',z.sameBut hs (cne y c e)⟩
 ·obtain⟨e,n,ne,nf,d⟩:=I.pin p hp
  exact⟨(hs.2 p.1 ne).trans e,n,ne,nf,d⟩
 ·refine (I.hok b ob e).stay (fun c w' hc q=>(hs.2 c ?_).trans q) (fun _ q=>q) fun _ _ q=>q
  rintro rfl
  have fr:=I.free
  rcases hc with rfl|hc
  ·rw[fr] at e;cases e
  ·rw[fr] at hc;cases hc
end
theorem zat {M:Model} {A:Around} {E:Value->y04->Prop} {K:y00} {s:y04} {x C CD:Addr} {Q:Bool->y04->Prop} (X:K.In s.heap) (I:z33 x C s.heap)
  (h1:PySem.W.typeIn K (.ref CD)=some (.type "type")) (h2:PySem.W.mroIn K CD (.type "BaseException")=some true) (h3:PySem.W.mroIn K C (.ref CD)=some true) (hc:(PySem.W.clsIn K CD).isSome=true) (hq:Q true s) :
  y0u M A (excMatches (.ref x) (.ref CD)) Q E s:=by
 obtain⟨hh,g,dr,t,os⟩:=s
 have L0:=I.type (M:=M)
 have L1:=PySem.W.looks_typeIn (M:=M) X h1
 have L2:=PySem.W.looks_mroIn (M:=M) X h2
 have L3:=PySem.W.looks_mroIn (M:=M) X h3
 have LI:PySem.W.Looks M hh (isInstance (.ref CD) (.type "tuple")) false:=L1.andThen (PySem.W.Looks.of_pure tc_notTuple)
 have LT:PySem.W.Looks M hh (isType (.ref CD)) true:=by
  unfold PySem.W.clsIn at hc
  split at hc
  ·rename_i c' d' cd' sl' ho
   intro A' Q' E' s' k q
   unfold isType loadHead
   exact y02 (wpAny_loadPart (k _ _ (X _ _ ho)) (y06 q))
  ·cases hc
 have LE:PySem.W.Looks M hh (isExcClass (.ref CD)) true:=LT.andThen L2
 unfold excMatches
 refine y02 (LI.at ?_)
 rw[if_neg (by decide)]
 refine y02 (y06 ?_)
 dsimp only
 refine y02 ?_
 simp only[List.forIn_cons,List.forIn_nil]
 refine y02 (y02 (LE.at ?_))
 rw[if_neg (by decide)]
 refine y06 (y06 ?_)
 refine y02 (L0.at (y02 ?_))
 refine y02 (y02 (L3.at ?_))
 rw[if_pos rfl]
 exact y06 (y06 (y06 hq))
theorem zit {X:Cx} {pins:List (Addr×Obj)} {σ:L2.St} {H H':Hp} {s s':y04} {C CD:Addr} {e:Value} {dn n:Str} {i:Nat} {np pos:Pos} {b₀:Stmt} {suite:List Stmt} {ts:TS} {D:Ends}
  (I:Inv X pins σ H s) (fl:ziy X.prog X.w X.stack H s C H' e s') (hm:X.mg dn=some (.ref CD))
  (h1:PySem.W.typeIn X.K (.ref CD)=some (.type "type")) (h2:PySem.W.mroIn X.K CD (.type "BaseException")=some true) (h3:PySem.W.mroIn X.K C (.ref CD)=some true) (hc:(PySem.W.clsIn X.K CD).isSome=true)
  (hs:∀ea,PSs (Cx.inX X ea) (b₀::suite) ts) (k:∀ea,H' ea=none->ts { nx:=fun σ2 H2=>D.nx (σ2.set i none) H2,rt:=fun _ _=>False } (σ.set i (some (.ref ea))) (upd H' ea (.ext (z33 ea C))))
  (hN:X.N.Nodup) (hi:X.N[i]?=some n) (hlo:X.env.kindOf n=some .local) (hst:X.stack=X.env::X.outer) (hf:X.env.frame=some X.env.locals) (hg:Gl X dn) (hdb:(dn == ("__debug__":Str))=false) :
  y0u (model X.prog X.w) X.A (noteFrame e X.env) (fun _ s₂=>y0u (model X.prog X.w) X.A (setFlight e none) (fun _ s₃=>y0u (model X.prog X.w) X.A (handleBy e X.env [.ExceptHandler (some (.Name dn np)) (some n) (b₀::suite) pos]) (L2.SP X pins D) X.xe s₃) X.xe s₂) X.xe s':=by
 obtain⟨ea,a0,B,rfl,fl⟩:=fl
 have hfl:=fl.fly
 have hfr:=I.ok.frames
 rw[hst] at hfl hfr
 refine wpAny_looks_onW hfr hf hfl fun h₄ held₄ sm₄=>?_
 refine wpAny_landsW held₄ fun h₅ fl₅ sm₅=>?_
 have U5:s'.heap.UpToSlots h₅:=sm₄.trans sm₅
 obtain⟨un5,hok5⟩:=fl.on fl₅.1 U5
 have nx:∀b:Addr,b∉([]:List Addr):=fun b z=>absurd z (by simp)
 have J5:Inv X pins σ H' { s' with heap:=h₅ }:=I.call' fl.os un5 hok5 fl.bare fun b hb=>absurd hb (nx b)
 have at5:z33 ea C h₅:=by
  obtain⟨oe,vs,q1,q2,q3,_⟩:=fl₅.first
  exact⟨oe,vs,q1,q2,q3⟩
 have hne:H' ea=none:=by
  cases q:H' ea with
  | none=>rfl
  | some u =>
   obtain⟨o,ho⟩:∃o,B.get? ea=some o:=by
    have z:=fl.hok ea u q
    have lt:=z.lt
    have:∀(u:HO),z26 X.prog X.w H' B ea u->∃o,B.get? ea=some o:=by
     intro u
     induction u with
     | lst xs=>rintro⟨_,_,_,_,e⟩;exact⟨_,e⟩
     | tup xs=>rintro⟨_,_,_,o,e,_⟩;exact⟨_,e⟩
     | dK kvs=>rintro⟨_,_,_,_,o,_,_,e,_⟩;exact⟨_,e⟩
     | dT kvs=>rintro⟨_,_,_,_,o,_,_,e,_⟩;exact⟨_,e⟩
     | set S n=>rintro⟨o,_,_,_,e,_⟩;exact⟨_,e⟩
     | ins C dx fs=>rintro⟨_,_,_,e,_⟩;exact⟨_,e⟩
     | own x=>rintro⟨o,e⟩;exact⟨_,e⟩
     | xd fs=>rintro⟨_,e,_⟩;obtain⟨o,_,_,e,_⟩:=e;exact⟨_,e⟩
     | met f x=>intro e;exact⟨_,e⟩
     | rng lo hi=>rintro⟨_,_,_,e⟩;exact⟨_,e⟩
     | frz o u ih=>rintro⟨e,_⟩;exact⟨_,e⟩
     | tbl ps=>intro e;exact⟨_,e⟩
     | ext φ=>rintro⟨_,⟨o,e⟩,_⟩;exact⟨_,e⟩
    exact this u z
   rw[fl.fly.2.1] at ho
   cases ho
 refine wpAny_handleBy_cons (codeAny_handlers_test (z4p (X:=Cx.inX X ea) (zfm J5 ea) hg hm ?_ hdb)) (by intro q;cases q)
 refine zat J5.kIn at5 h1 h2 h3 hc ?_
 refine codeAny_handlers_suite_as ?_
 refine lands_againW fl₅ fun h₆ fl₆ sm₆=>?_
 have U6:s'.heap.UpToSlots h₆:=U5.trans sm₆
 obtain⟨un6,hok6⟩:=fl.on fl₆.1 U6
 have at6:z33 ea C h₆:=by
  obtain⟨oe,vs,q1,q2,q3,_⟩:=fl₆.first
  exact⟨oe,vs,q1,q2,q3⟩
 have keepT:∀{b:Addr} {u:HO},H' b=some u->upd H' ea (.ext (z33 ea C)) b=some u:=fun {b u} q=>by rw[z04 (by rintro rfl;rw[hne] at q;cases q)];exact q
 have notE:∀{b:Addr} {o:Obj},s.heap.get? b=some o->H b=none->b≠ea:=fun {b o} q n=>by
  rintro rfl
  by_cases f:b∈frs X.stack
  ·obtain⟨_,o',e',hd⟩:=fl₆.2.2.1.mem (b:=b) (by rw[<- hst];exact f)
   obtain⟨oe,vs,e1,_,e2⟩:=at6
   rw[e1] at e'
   cases e'
   exact hd vs e2
  ·have z:=fl.cov b o q n f
   rw[fl.fly.2.1] at z
   cases z
 have un7:Un (frs X.stack) [] H (upd H' ea (.ext (z33 ea C))) s.heap h₆:=⟨un6.keep,un6.slot,fun b o q n hx=>by rw[z04 (notE q n)];exact un6.free b o q n hx,un6.there,fun b xs q=>keepT (un6.tups b xs q),fun b o u q=>keepT (un6.frzs b o u q),fun b ps q=>by
  obtain⟨m,z⟩:=un6.tbls b ps q
  exact⟨m,keepT z⟩⟩
 have hok7:HOk X.prog X.w (upd H' ea (.ext (z33 ea C))) h₆:=fun b u q=>by
  by_cases hb:b=ea
  ·subst hb
   rw[z05] at q
   cases q
   obtain⟨oe,vs,e1,e2,e3⟩:=at6
   exact⟨⟨oe,vs,e1,e2,e3⟩,⟨oe,e1⟩,fun k1 k2 ⟨o,vs,z1,z2,z3⟩ kk=>⟨o,vs,kk o z1,z2,z3⟩⟩
  ·rw[z04 hb] at q
   exact (hok6 b u q).stay (fun _ _ _ z=>z) (fun c z=>keepT z) fun c xs z=>keepT z
 have J6:Inv X pins σ (upd H' ea (.ext (z33 ea C))) { s' with heap:=h₆ }:=I.call' fl.os un7 hok7 fl.bare fun b hb=>absurd hb (nx b)
 refine z7l (X:=Cx.inX X ea) (v:=.ref ea) (zfm J6 ea) hN hi (.inl hlo) rfl (fun s7 I7=>?_) (.inr hlo)
 refine y1b (hs ea pins s7 _ _ _ I7 (k ea hne)) (fun f s8 h8=>?_) fun _ _ z=>z.elim
 cases f with
 | next =>
  obtain⟨σ2,H2,I8,q8⟩:=h8
  have I8':=zid I.ok I8
  obtain⟨m,hn8,hl8⟩:=id I8'.loc
  refine wpAny_nameGoes_keeps hlo hn8 (by rw[I.ok.kind];rfl) fun h9 v hn9 hs9=>?_
  have hoL:∃o,s8.heap.get? X.env.locals=some o:=by
   obtain⟨o,_,_,q,_⟩:=hn8
   exact⟨o,q⟩
  exact⟨_,H2,zie I8' hi hl8 hN hn9 hs9 hoL,q8⟩
 | brk=>obtain⟨_,_,_,q8⟩:=h8;exact y1s q8
 | cont=>obtain⟨_,_,_,q8⟩:=h8;exact y1s q8
 | ret u=>obtain⟨_,_,_,_,_,q8⟩:=h8;exact y1s q8
end
section
noncomputable def rIsi (K:y00) (C:Addr):List V->Hp->VK->Prop:=fun xs H Q=>∃ea c cv b,xs=[.ref ea,c]/\H ea=some (.ext (z33 ea C))/\(∀u,RelV c u->u=cv)/\PySem.W.kitOne K (.ref C) cv=some b/\Q (.bl b) H
theorem znm {X:Cx} {C:Addr} (O:ExcOk X.K C):z3v X (.builtin "isinstance") (rIsi X.K C):=by
 intro pins s σ H xs us Q I r ⟨ea,c,cv,b,e1,e2,e3,e4,q⟩
 subst e1
 cases r with
 | cons r1 r =>
  cases r with
  | cons r2 r =>
   cases r
   cases r1
   have ec:=e3 _ r2
   subst ec
   exact PySem.W.kia_one (zia O) I.kIn (I.hok ea _ e2).1 e4 (by intro z;cases z) fun tk=>⟨.bl b,H,I.tok _,rfl,q⟩
theorem z87:∀{bs:List Bool} {us:List Value},Vals (bs.map V.bl) us->us=bs.map Value.bool
 | [],us,h=>by cases h;rfl
 | b::bs,us,h=>by
  cases h with
  | cons r t =>
   cases r
   rw[z87 t]
   rfl
def z3d:Value->Bool
 | .bool true=>true
 | _=>false
theorem zi0 {X:Cx}:MtR X "list.count" (fun x vs H Q=>∃(l:Addr) (bs:List Bool),x=.ref l/\vs=[.bl true]/\SqL X.K H l (bs.map V.bl)/\Q (.int (bs.countP id:Nat)) H):=by
 intro pins s σ H x vs v us Q I rx rv h
 obtain⟨l,bs,rfl,rfl,hq,q⟩:=h
 cases rx
 obtain⟨u,rfl,ru⟩:=rv.one
 cases ru
 obtain⟨its,r,⟨⟨cls,dd,data,sl⟩,n,ho,hc,hd,hs⟩,hz⟩:=I.list hq
 simp only at hc hd hs
 subst hc hd hs
 have hits:=z87 r
 subst hits
 refine call_meets PySem.F.slot_list_count ⟨_,ho,rfl⟩ PySem.F.entry_list_count (PySem.F.args_list_count_2 _ _)
  (SeqAt.list_countAt l _ n _ _ (.bool true) z3d) ⟨ho,fun z hz'=>?_,?_⟩
 ·obtain⟨b,_,rfl⟩:=y0m.mp (show z∈bs.map Value.bool by simpa using hz')
  have e:=SeqAt.EqAt.bool_bool (A:=X.A.in1) (s:=s) b true
  have e2:(b == true)=z3d (.bool b):=by cases b <;> rfl
  rw[e2] at e
  exact e
 ·refine⟨V.int (bs.countP id:Nat),H,I.tok _,⟨s.toks,?_⟩,q⟩
  have:((bs.map Value.bool).toArray.toList.countP z3d)=bs.countP id:=by
   show (bs.map Value.bool).countP z3d=_
   rw[List.countP_map]
   congr 1
   funext b
   cases b <;> rfl
  rw[this]
theorem zf4 {X:Cx}:MtR X "list.index" (fun x vs H Q=>∃(l:Addr) (bs:List Bool) (j:Nat),x=.ref l/\vs=[.bl true]/\SqL X.K H l (bs.map V.bl)/\bs[j]?=some true/\(∀m,m<j->bs[m]?=some false)/\Q (.int (j:Nat)) H):=by
 intro pins s σ H x vs v us Q I rx rv h
 obtain⟨l,bs,j,rfl,rfl,hq,hj,hb,q⟩:=h
 cases rx
 obtain⟨u,rfl,ru⟩:=rv.one
 cases ru
 obtain⟨its,r,⟨⟨cls,dd,data,sl⟩,n,ho,hc,hd,hs⟩,hz⟩:=I.list hq
 simp only at hc hd hs
 subst hc hd hs
 have hits:=z87 r
 subst hits
 have hjl:=(y0k.mp hj).1
 rw[y12] at hz
 rw[sizeLine_eq] at hz
 refine call_meets PySem.F.slot_list_index ⟨_,ho,rfl⟩ PySem.F.entry_list_index (PySem.F.args_list_index_2 _ _)
  (SeqAt.list_indexAt l _ n _ _ (.bool true) z3d j (by simpa using hjl) (by omega) ?_ ?_) ⟨ho,fun z hz'=>?_,⟨V.int (j:Nat),H,I.tok _,⟨_,rfl⟩,q⟩⟩
 ·have:=(y0k.mp hj).2
  simp[z3d,this]
 ·intro m hm hlt
  have:=(y0k.mp (hb m hlt)).2
  simp[z3d,this]
 ·obtain⟨b,_,rfl⟩:=y0m.mp (show z∈bs.map Value.bool by simpa using hz')
  have e:=SeqAt.EqAt.bool_bool (A:=X.A.in1) (s:=s) b true
  have e2:(b == true)=z3d (.bool b):=by cases b <;> rfl
  rw[e2] at e
  exact e
def Grow [Tbl] (H H':Hp):Prop:=∀F:Addr->Prop,Dom F H->Ext F H F H'
theorem Grow.laid [Tbl] {H:Hp} {p:Addr} {o:HO} (hp:H p=none):Grow H (upd H p o):=fun F d=>Ext.laid d hp
theorem Grow.trans [Tbl] {H H1 H2:Hp} (a:Grow H H1) (b:Grow H1 H2):Grow H H2:=fun F d=>(a F d).trans (b F (a F d).dom)
abbrev tIsi (K:y00) (C:Addr) (c:V):TE:=tCB (rIsi K C) (z27 (tVar 2) (z27 (tC c) tNil))
abbrev rCnt (K:y00):V->List V->Hp->VK->Prop:=fun x vs H Q=>∃(l:Addr) (bs:List Bool),x=.ref l/\vs=[.bl true]/\SqL K H l (bs.map V.bl)/\Q (.int (bs.countP id:Nat)) H
abbrev rIdx (K:y00):V->List V->Hp->VK->Prop:=fun x vs H Q=>∃(l:Addr) (bs:List Bool) (j:Nat),x=.ref l/\vs=[.bl true]/\SqL K H l (bs.map V.bl)/\bs[j]?=some true/\(∀m,m<j->bs[m]?=some false)/\Q (.int (j:Nat)) H
abbrev zdm (K:y00) (C cz cw cd ct:Addr):TS :=
 tSeq (tAsg (tLst (z27 (tIsi K C (.ref cz)) (z27 (tIsi K C (.ref cw)) (z27 (tIsi K C (.ref cd)) (z27 (tIsi K C (.ref ct)) tNil))))) (z9d 3))
 (tSeq (tAsg (tTup (z27 (tC (.str "refused")) (z27 (tUn (rU fun i=>.int (-i)) (tC (.int 1))) tNil))) (z9d 1))
 (tIfS (tAnd (tB (tIsi K C (.ty "ValueError"))) (zlu (tOp rEq (tBM K "list" (rCnt K) (tVar 3) (z27 (tC (.bl true)) tNil)) (tC (.int 1)))))
  (tAsg (tTup (z27 (tC (.str "refused")) (z27 (tBM K "list" (rIdx K) (tVar 3) (z27 (tC (.bl true)) tNil)) tNil))) (z9d 1)) zlv))
structure Kinds (K:y00) (C cz cw cd ct:Addr) (bs:List Bool) (j:Nat):Prop where
 b0:∃b0 b1 b2 b3,bs=[b0,b1,b2,b3]/\PySem.W.kitOne K (.ref C) (.ref cz)=some b0/\PySem.W.kitOne K (.ref C) (.ref cw)=some b1/\PySem.W.kitOne K (.ref C) (.ref cd)=some b2/\PySem.W.kitOne K (.ref C) (.ref ct)=some b3
 ve:PySem.W.kitOne K (.ref C) (.type "ValueError")=some true
 one:bs.countP id=1
 hit:bs[j]?=some true
 no:∀m,m<j->bs[m]?=some false
theorem za3 [Tbl] {K:y00} {C cz cw cd ct ea:Addr} {bs:List Bool} {j:Nat} (kk:Kinds K C cz cw cd ct bs j) {D:Ends} {σ:L2.St} {H:Hp} (hl:σ.length=4) (he:σ[2]?=some (some (.ref ea))) (hx:H ea=some (.ext (z33 ea C)))
  (k:∀H' p σ',Grow H H'->H' p=some (.tup [.str "refused",.int j])->σ'.length=4->σ'[1]?=some (some (.ref p))->D.nx σ' H'):zdm K C cz cw cd ct D σ H:=by
 obtain⟨⟨b0,b1,b2,b3,rfl,k0,k1,k2,k3⟩,ve,one,hit,no⟩:=kk
 have isi:∀{c:V} {cv:Value} {b:Bool} {σ:L2.St} {H:Hp} {Q:VK},σ[2]?=some (some (.ref ea))->H ea=some (.ext (z33 ea C))->(∀u,RelV c u->u=cv)->PySem.W.kitOne K (.ref C) cv=some b->Q (.bl b) H->tIsi K C c σ H Q :=
  fun {c cv b σ H Q} e1 e2 e3 e4 q=>⟨_,e1,ea,c,cv,b,rfl,e2,e3,e4,q⟩
 refine isi he hx (cv:=.ref cz) (fun u r=>r) k0 (isi he hx (cv:=.ref cw) (fun u r=>r) k1 (isi he hx (cv:=.ref cd) (fun u r=>r) k2 (isi he hx (cv:=.ref ct) (fun u r=>r) k3 ?_)))
 refine⟨by show 4<=y0j;decide,fun p hp=>?_⟩
 refine⟨1,rfl,?_⟩
 refine⟨by show 2<=y0j;decide,fun p2 hp2=>?_⟩
 have g1:Grow H (upd H p (.lst [.bl b0,.bl b1,.bl b2,.bl b3])):=Grow.laid hp
 have g2:=g1.trans (Grow.laid (o:=.tup [.str "refused",.int (-1)]) hp2)
 have ne1:ea≠p:=by rintro rfl;rw[hx] at hp;cases hp
 have hx1:upd H p (.lst [.bl b0,.bl b1,.bl b2,.bl b3]) ea=some (.ext (z33 ea C)):=by rw[z04 ne1];exact hx
 have ne2:ea≠p2:=by rintro rfl;rw[hx1] at hp2;cases hp2
 have ne3:p≠p2:=by rintro rfl;rw[z05] at hp2;cases hp2
 have e2:((σ.set 3 (some (V.ref p))).set 1 (some (V.ref p2)))[2]?=some (some (.ref ea)):=by rw[List.getElem?_set_ne (by decide),List.getElem?_set_ne (by decide)];exact he
 have e3:((σ.set 3 (some (V.ref p))).set 1 (some (V.ref p2)))[3]?=some (some (.ref p)):=by rw[List.getElem?_set_ne (by decide),List.getElem?_set_self (by omega)]
 have hL:upd (upd H p (.lst [.bl b0,.bl b1,.bl b2,.bl b3])) p2 (.tup [.str "refused",.int (-1)]) p=some (.lst [.bl b0,.bl b1,.bl b2,.bl b3]):=by rw[z04 ne3,z05]
 have sq:SqL K (upd (upd H p (.lst [.bl b0,.bl b1,.bl b2,.bl b3])) p2 (.tup [.str "refused",.int (-1)])) p ([b0,b1,b2,b3].map V.bl):=.inl (.inl hL)
 refine isi e2 (by rw[z04 ne2];exact hx1) (cv:=.type "ValueError") (fun u r=>r) ve ⟨true,rfl,?_⟩
 refine iteT ?_
 refine⟨_,e3,.inl ⟨rfl,_,sq⟩,p,[b0,b1,b2,b3],rfl,rfl,sq,rfl,⟨true,?_,?_⟩⟩
 ·rw[one]
  rfl
 ·refine iteT ?_
  refine⟨_,e3,.inl ⟨rfl,_,sq⟩,p,[b0,b1,b2,b3],j,rfl,rfl,sq,hit,no,?_⟩
  refine⟨by show 2<=y0j;decide,fun p3 hp3=>?_⟩
  refine k _ p3 _ (g2.trans (Grow.laid hp3)) z05 ?_ ?_
  ·simp[hl]
  ·rw[List.getElem?_set_self (by simp[hl])]
end
section
variable [Tbl]
abbrev cxLZ (P:y0q) (w:World) (K:y00) (mg:Str->Option Value) (base:Heap) (N:List Str) (qual:Str) (scope:Scope) (q:Addr) (cd:Value) (cl:List (Str×Addr)) (A:Around) (outer:List Env) (s:y04) (H:Hp) (E:XK):Cx :=
 (cxL P w K mg base N qual scope q cd cl A outer s H).wish fun e s'=>y0u (model P w) (A.deeper (envL qual scope s.heap.objs.size q cd cl)) (leaving (envL qual scope s.heap.objs.size q cd cl) e) (fun _ s''=>CXR P w outer H s E e s'') (fun e' s''=>CXR P w outer H s E e' s'') s'
section
variable {P:y0q} {w:World} {K:y00} {mg:Str->Option Value} {base:Heap} {k:Nat} {q c':Addr} {N:List Str} {qual:Str} {scope:Scope} {cl:List (Str×Addr)} {A:Around} {outer:List Env} {s:y04} {H:Hp} {σ:L2.St} {C:Addr}
theorem zfa {params:Arguments} {body:Expr} {pm ctv:Value} {r:Fz} {E:XK} (hk:scope.kind=.function) (hco:scope.isCoroutine=false) (hgen:scope.isGenerator=false) (hnc:∀x∈scope.names,x.2≠.cell)
  (hb:∀(A:Around) (outer:List Env) (s:y04) (H:Hp) (E:XK),Room k (A.deeper (envL qual scope s.heap.objs.size q (.ref c') cl))->PEz (cxLZ P w K mg base N qual scope q (.ref c') cl A outer s H E) C body r)
  (bd:bindArgs (PySem.W.kla_fn "<lambda>" qual params body scope cl pm (.ref c') ctv) ⟨[],[]⟩=pure [])
  (hr:Room (k+1) A) (e0:Env0 P w K mg base A outer s H) (hq:H q=some (lamO (PySem.W.kla_obj "<lambda>" qual params body scope cl pm c' ctv) q)) (hc:H c'=some (codO c' qual)) (Cp:Caps N scope cl σ H s.heap)
  (h:∃F₀ En O F ε,RelE K F₀ En O F H ε σ/\r ε=true/\∀F' H',Ext F H F' H'->E (.ref C) none H'):codeAny (model P w) A (.call (.ref q) ⟨[],[]⟩) (CR (CXR P w) outer P w H s (fun _ _=>False) E) s:=by
 have nolim:s.heap.NoLimit:=e0.mod.nolimit.keeps fun b o e=>(e0.bs b o e).1
 refine PySem.W.kla_callFunE hr.depth (e0.hok q _ hq).1 rfl hco hgen rfl (e0.hok c' _ hc).1 ?_
 rw[bd]
 refine y06 (wpAny_newFunctionEnv hnc (fun x hx=>by cases hx) (fun h₁ hns hsb=>⟨nolim.fresh _ hsb,?_⟩) hk)
 have kp:∀b o,s.heap.get? b=some o->h₁.get? b=some o:=fun b o e=>hsb.extBut b o (y0y (y0c e)) (y03 _ e)
 show codeAny _ _ (.expr body (envL qual scope s.heap.objs.size q (.ref c') cl)) _ _
 refine PySem.W.kla_codeExpr ?_
 have I0:Inv (cxL P w K mg base N qual scope q (.ref c') cl A outer s H) [] σ H { s with heap:=h₁,toks:=s.toks+([]:List (Str×Value)).length }:=z76 hk hr.hd e0 Cp hns kp
 have I:Inv (cxLZ P w K mg base N qual scope q (.ref c') cl A outer s H E) [] σ H { s with heap:=h₁,toks:=s.toks+([]:List (Str×Value)).length }:=I0.wish _
 obtain⟨F₀,En,O,F,ε,rl,er,kq⟩:=h
 refine y1b (hb A outer s H E (hr.deeper _) [] _ σ H (fun _ _=>False) I ⟨F₀,En,O,F,ε,rl,er,fun F' H' x pins σ1 H1 s1 e1 s2 I1 t=>?_⟩) (fun u s' hs=>?_) fun e s' hs=>hs
 ·exact y1b (zb2 (X:=cxLZ P w K mg base N qual scope q (.ref c') cl A outer s H E) (E:=E) (Z:=fun _ _=>False) I1 t (kq F' H' x)) (fun _ _ z=>z) fun _ _ z=>z.elim
 ·obtain⟨_,_,_,_,z⟩:=hs
  exact z.elim
end
noncomputable def zox (X:Cx) (C:Addr) (H':Hp):Prop:=∀(pins:List (Addr×Obj)) (σ:L2.St) (H:Hp) (s:y04) (e:Value) (s':y04),Inv X pins σ H s->ziy X.prog X.w X.stack H s C H' e s'->X.xe e s'
noncomputable def zdo (X:Cx) (C:Addr) (i:Nat):TE:=fun σ H _=>∃q,σ[i]?=some (some (.ref q))/\(∃(o:Obj) (fd:y0b),H q=some (lamO o q)/\o.data=.func fd) /\
 ∀(pins:List (Addr×Obj)) (s:y04),Inv X pins σ H s->codeAny (model X.prog X.w) X.A (.call (.ref q) ⟨[],[]⟩) (CR (CXR X.prog X.w) X.stack X.prog X.w H s (fun _ _=>False) fun cl _ H'=>∃C',cl=.ref C'/\zox X C' H') s
theorem zhl {X:Cx} {C:Addr} {i:Nat} {x:Str} {p pos:Pos} (hn:PE X (.Name x p) (tVar i)):PE X (.Call (.Name x p) [] [] pos) (zdo X C i):=by
 intro pins s σ H Q I ⟨q,hq,⟨o,fd,ho,hfd⟩,hc⟩
 refine wpAny_Call_Name_kw (thn (hn pins s σ H (fun v H1=>v=.ref q/\H1=H) I ⟨.ref q,hq,rfl,rfl⟩) fun v s1 ⟨y,H1,I1,ry,ey,eh⟩=>?_)
 subst ey
 subst eh
 cases ry
 have fa:PySem.W.FnAt q s1.heap:=by
  have h1:s1.heap.get? q=some o:=(I1.hok q _ ho).1
  obtain⟨c,dct,dt,sl⟩:=o
  cases hfd
  exact⟨_,_,_,_,h1⟩
 refine PySem.W.callWith_F0 fa ?_
 refine wpAny_call (codeAny_mono (hc pins s1 I1) fun r s' hq=>?_)
 cases r with
 | error e =>
  obtain⟨C1,H',fl,C2,e2,ok⟩:=hq
  cases e2
  exact ok pins σ H1 s1 e s' I1 fl
 | ok fl =>
  cases fl with
  | ret u =>
   obtain⟨_,_,_,_,_,_,_,z⟩:=hq
   exact z.elim
  | next=>exact y1s hq
  | brk=>exact y1s hq
  | cont=>exact y1s hq
noncomputable def zb7 (X:Cx) (C:Addr) (j:Nat):TS:=fun D σ H=>∃q,σ.length=4/\σ[0]?=some (some (.ref q))/\(∃(o:Obj) (fd:y0b),H q=some (lamO o q)/\o.data=.func fd)/\∃Φ:Hp->Prop,
 (∀(pins:List (Addr×Obj)) (s:y04),Inv X pins σ H s->codeAny (model X.prog X.w) X.A (.call (.ref q) ⟨[],[]⟩) (CR (CXR X.prog X.w) X.stack X.prog X.w H s (fun _ _=>False) fun cl _ H'=>cl=.ref C/\Φ H') s) /\
 ∀H',Φ H'->∀H'' p,Grow H' H''->H'' p=some (.tup [.str "refused",.int j])->D.rt (.ref p) H''
abbrev Cx.bears (X:Cx) (pn:List (Addr×Obj)) (E:Value->y04->Prop):Cx:={ X with pn:=pn,xe:=E }
theorem zfn {X:Cx} {pins:List (Addr×Obj)} {σ:L2.St} {H:Hp} {s:y04} (I:Inv X pins σ H s) (E:Value->y04->Prop):Inv (Cx.bears X (X.pn++pins) E) [] σ H s :=
 ⟨⟨I.ok.mod,I.ok.kind,I.ok.glob,I.ok.blt,I.ok.above,I.ok.inj,I.ok.has,I.ok.cab,I.ok.hd,I.ok.frames,I.ok.stk,I.ok.exf,I.ok.bs,I.ok.bsz,I.ok.noex,I.ok.exfs,I.ok.funs,I.ok.frf⟩,I.os,I.bare,I.base,I.loc,I.cell,I.free,I.freeC,fun p hp=>I.pin p (by simpa using hp),I.hok,I.len⟩
theorem z61 {X:Cx} {pins pins2:List (Addr×Obj)} {σ:L2.St} {H:Hp} {s:y04} {E:Value->y04->Prop} (ok:X.Ok) (I:Inv (Cx.bears X (X.pn++pins) E) pins2 σ H s):Inv X pins σ H s :=
 ⟨ok,I.os,I.bare,I.base,I.loc,I.cell,I.free,I.freeC,fun p hp=>I.pin p (List.mem_append_left _ hp),I.hok,I.len⟩
theorem zhg {X:Cx} {C CD cz cw cd ct:Addr} {bs:List Bool} {j:Nat} {body suite:List Stmt} {b₀:Stmt} {np pos hpos rpos npos:Pos}
  (hbody:∀(pn:List (Addr×Obj)) (E:Value->y04->Prop),PSs (Cx.bears X pn E) body (tAsg (tTup (z27 (tC (.str "told")) (z27 (zdo (Cx.bears X pn E) C 0) tNil))) (z9d 1)))
  (hsuite:∀ea,PSs (Cx.inX X ea) (b₀::suite) (zdm X.K C cz cw cd ct)) (kk:Kinds X.K C cz cw cd ct bs j)
  (hm:X.mg "DoorError"=some (.ref CD)) (h1:PySem.W.typeIn X.K (.ref CD)=some (.type "type")) (h2:PySem.W.mroIn X.K CD (.type "BaseException")=some true) (h3:PySem.W.mroIn X.K C (.ref CD)=some true) (hc:(PySem.W.clsIn X.K CD).isSome=true)
  (hret:PE X (.Name "_law_found" npos) (tVar 1))
  (hN:X.N.Nodup) (hi:X.N[2]?=some ("e":Str)) (hlen:X.N.length=4) (hlo:X.env.kindOf "e"=some .local) (hst:X.stack=X.env::X.outer) (hf:X.env.frame=some X.env.locals) (hg:Gl X "DoorError") :
  PSs X [.Try body [.ExceptHandler (some (.Name "DoorError" np)) (some "e") (b₀::suite) hpos] [] [] pos,.Return (some (.Name "_law_found" npos)) rpos] (zb7 X C j):=by
 have htry:PS X (.Try body [.ExceptHandler (some (.Name "DoorError" np)) (some "e") (b₀::suite) hpos] [] [] pos) (fun D σ H=>∃q,σ.length=4/\σ[0]?=some (some (.ref q))/\(∃(o:Obj) (fd:y0b),H q=some (lamO o q)/\o.data=.func fd)/\∃Φ:Hp->Prop,
   (∀(pins:List (Addr×Obj)) (s:y04),Inv X pins σ H s->codeAny (model X.prog X.w) X.A (.call (.ref q) ⟨[],[]⟩) (CR (CXR X.prog X.w) X.stack X.prog X.w H s (fun _ _=>False) fun cl _ H'=>cl=.ref C/\Φ H') s) /\
   ∀H',Φ H'->∀H'' p σ'',Grow H' H''->H'' p=some (.tup [.str "refused",.int j])->σ''[1]?=some (some (.ref p))->D.nx σ'' H''):=by
  intro pins s σ H D I ⟨q,hl,hq,hlam,Φ,hcall,hk⟩
  refine wpAny_Try_except ?_
  let E':Value->y04->Prop:=fun e s₁=>y0u (model X.prog X.w) X.A (noteFrame e X.env) (fun _ s₂=>y0u (model X.prog X.w) X.A (setFlight e none) (fun _ s₃=>y0u (model X.prog X.w) X.A (handleBy e X.env [.ExceptHandler (some (.Name "DoorError" np)) (some "e") (b₀::suite) hpos]) (L2.SP X pins D) X.xe s₃) X.xe s₂) X.xe s₁
  refine y1b (hbody (X.pn++pins) E' [] s σ H { nx:=fun _ _=>False,rt:=fun _ _=>False } (zfn I E') ⟨q,hq,hlam,fun pins2 s2 I2=>?_⟩) (fun f s1 hs=>?_) fun e s1 he=>he
  ·refine codeAny_mono (hcall (pins) s2 (z61 I.ok I2)) fun r s' hr=>?_
   cases r with
   | ok fl =>
    cases fl with
    | ret u=>exact hr
    | next=>exact hr
    | brk=>exact hr
    | cont=>exact hr
   | error e =>
    obtain⟨C1,H',fl,e1,ph⟩:=hr
    cases e1
    refine⟨C,H',fl,C,rfl,fun pins3 σ3 H3 s3 e3 s4 I3 fl3=>?_⟩
    have J:=z61 I.ok I3
    have l3:σ3.length=4:=by rw[J.len,hlen]
    refine zit (i:=2) J fl3 hm h1 h2 h3 hc hsuite (fun ea hea=>za3 kk (ea:=ea) (by simp[l3]) (List.getElem?_set_self (by omega)) z05 fun H'' p σ' g hp hl' h1'=>?_) hN hi hlo hst hf hg (by decide)
    refine hk H' ph H'' p _ ((Grow.laid hea).trans g) hp ?_
    rw[List.getElem?_set_ne (by decide)]
    exact h1'
  ·cases f with
   | next=>obtain⟨_,_,_,z⟩:=hs;exact y1s z
   | brk=>obtain⟨_,_,_,z⟩:=hs;exact y1s z
   | cont=>obtain⟨_,_,_,z⟩:=hs;exact y1s z
   | ret u=>obtain⟨_,_,_,_,_,z⟩:=hs;exact y1s z
 refine z6m (z2w htry (z41 (z8u hret))) fun D σ H ⟨q,hl,hq,hlam,Φ,hcall,hk⟩=>?_
 exact⟨q,hl,hq,hlam,Φ,hcall,fun H' ph H'' p σ'' g hp h1'=>⟨_,h1',hk H' ph H'' p g hp⟩⟩
def zcr (f:Fx) (r:Fz) (j:Nat):Fx:=fun ε=>if r ε=true then some (.tuple [.str "refused",.int j],ε) else zgz f ε
theorem zjx {X:Cx} {k:Nat} {x:Str} {st:Stmt} {fa:Addr} {fd:y0b} {y0 y1 y2 y3:Str} {params:Arguments} {body:Expr} {scope:Scope} {lpos p pos:Pos} {c Pt C:Addr} {f:Fx} {r:Fz} {j:Nat}
  (F:Fun X.K x x st fa fd) (S:FnScope [y0,y1,y2,y3] [y0] (z00 st)) (bd:z1k X.K fd [y0] []) (hm:X.mg x=some (.ref fa))
  (ht:∀(cdv:Value) (A:Around) (outer:List Env) (s:y04) (H:Hp),PSs (cxOf CX0 X.prog X.w X.K X.mg X.base [y0,y1,y2,y3] x (z00 st) fa cdv A outer s H E0).nox (z08 st) (zk0 (cxOf CX0 X.prog X.w X.K X.mg X.base [y0,y1,y2,y3] x (z00 st) fa cdv A outer s H E0).nox))
  (hz:∀(cdv:Value) (A:Around) (outer:List Env) (s:y04) (H:Hp),PSs (cxOf CX0 X.prog X.w X.K X.mg X.base [y0,y1,y2,y3] x (z00 st) fa cdv A outer s H E0).nox (z08 st) (zb7 (cxOf CX0 X.prog X.w X.K X.mg X.base [y0,y1,y2,y3] x (z00 st) fa cdv A outer s H E0).nox C j))
  (hcode:X.env.code=.ref c) (hcd:PySem.W.codeHdIn X.K c Pt=true) (hbm:BM X.mg X.base) {qn:Str} (htb:(Pt,qn)∈Tbl.tb) (hun:∀p∈Tbl.tb,p.1=Pt->p.2=qn)
  (hr:Room (k+2) X.A)
  (hb:∀(q c':Addr) (cl:List (Str×Addr)) (A:Around) (outer:List Env) (s:y04) (H:Hp),Room k (A.deeper (envL (X.env.qual++"<lambda>") scope s.heap.objs.size q (.ref c') cl))->PEx (cxL X.prog X.w X.K X.mg X.base X.N (X.env.qual++"<lambda>") scope q (.ref c') cl A outer s H) body f)
  (hbz:∀(q c':Addr) (cl:List (Str×Addr)) (A:Around) (outer:List Env) (s:y04) (H:Hp) (E:XK),Room k (A.deeper (envL (X.env.qual++"<lambda>") scope s.heap.objs.size q (.ref c') cl))->PEz (cxLZ X.prog X.w X.K X.mg X.base X.N (X.env.qual++"<lambda>") scope q (.ref c') cl A outer s H E) C body r)
  (hsc:(decide (scope.kind=.function) && !scope.isCoroutine && !scope.isGenerator && scope.names.all fun y=>decide (y.2≠.cell) && decide (y.2≠.local))=true:=by rfl)
  (hfr:(scope.names.all fun y=>decide (y.2≠.free) || decide (X.env.scope.names.lookup y.1=some .cell))=true:=by rfl)
  (bdl:∀(cl:List (Str×Addr)) (pm:Value) (c':Addr) (ctv:Value),bindArgs (PySem.W.kla_fn "<lambda>" (X.env.qual++"<lambda>") params body scope cl pm (.ref c') ctv) ⟨[],[]⟩=pure []:=by intros;rfl)
  (hg:Gl X x:=by rfl) (hdb:(x == ("__debug__":Str))=false:=by decide) (hdef:defaultsOf params X.env=([],[]):=by rfl)
  (he:y0a [.Lambda params body scope lpos] X.env=(false,eval (.Lambda params body scope lpos) X.env)::y0a [] X.env:=by rfl) (hqn:X.env.qual++"<lambda>"=qn:=by rfl) :
  PEx X (.Call (.Name x p) [.Lambda params body scope lpos] [] pos) (zcr f r j):=by
 subst hqn
 simp only[y19,Bool.not_eq_true',decide_eq_true_eq,List.all_eq_true] at hsc
 obtain⟨⟨⟨hk,hco⟩,hgen⟩,hnc⟩:=hsc
 simp only[List.all_eq_true,Bool.or_eq_true,decide_eq_true_eq] at hfr
 have hfr':∀y∈scope.names,y.2=.free->X.env.scope.names.lookup y.1=some .cell:=fun y hy hf=>by
  rcases hfr y hy with z|z
  ·exact absurd hf z
  ·exact z
 intro pins s σ H Q I ⟨F₀,E,O,F',ε,t,ε',rl,e,kk⟩
 have Chd:=PySem.W.codeHd_of_K I.ok.mod.kin hcd
 unfold zcr at e
 by_cases er:r ε=true
 case neg =>
  rw[if_neg er] at e
  exact zlm F S bd hm ht hcode Chd hbm htb hun hk hco hgen (fun y hy=>hnc y hy) hfr' bdl hr hb hg hdb hdef he pins s σ H Q I ⟨F₀,E,O,F',ε,t,ε',rl,e,kk⟩
 rw[if_pos er] at e
 cases e
 refine wpAny_Call_Name_kw (z4p I hg hm ?_ hdb)
 refine PySem.W.callWith_K (h₀:=X.base) I.ok.mod.kin F.kp ?_ he rfl
 rw[he]
 show y0u _ _ (spliced ((false,eval (.Lambda params body scope lpos) X.env)::[])) _ _ s
 have hl:∀x∈scope.names,x.2=.free->∃c,X.env.cells.lookup x.1=some c:=fun x hx hf=>I.ok.has x.1 (.inl (hfr' x hx hf))
 refine Calls.spliced_cons (z7v I hcode Chd hbm hdef (z1w hl) rl.dom.tgs htb hun fun q c' ctv H1 s1 I1 sm tb1 hqn hq hc=>Calls.spliced_nil ⟨I1.kIn,?_⟩)
 have x1:Ext F' H F' H1:=⟨sm,fun _ h=>h,fun _ h=>.inl h,⟨fun a ha=>by
  obtain⟨o,ho⟩:=rl.dom.dm a ha
  exact sm.ne ho,tb1⟩⟩
 have fin:codeAny (model X.prog X.w) X.A (.call (.ref fa) ⟨[.ref q],[]⟩) (CR CX0 X.stack X.prog X.w H1 s1 Q E0) s1:=by
  refine zc1 (k:=k+1) (vs:=[.ref q]) F S bd hr I1.env0 (.cons rfl .nil) rfl fun cdv hr2=>⟨_,hz cdv X.A X.stack s1 H1,?_⟩
  refine⟨q,rfl,rfl,⟨_,_,hq,rfl⟩,fun H'=>∃F2,Ext F' H1 F2 H',fun pins2 s2 I2=>?_,?_⟩
  ·have caps:Caps X.N scope (clos X.env scope.names []) σ H1 s2.heap:=by
    have c1:=zgd I1 hnc hfr'
    have kp:∀{a:Addr} {v:Option Value},s1.heap.IsCell a v->H1 a=none->s2.heap.IsCell a v:=fun {a v} z n=>z9a I2.base z n (by intro z;exact absurd (show a∈([]:List Addr) from z) (by simp))
    refine⟨c1.inj,c1.has,fun x c h=>?_,c1.len,fun i x v h1 h2 h3=>?_⟩
    ·obtain⟨⟨v,hv⟩,hn⟩:=c1.cel x c h
     exact⟨⟨v,kp hv hn⟩,hn⟩
    ·obtain⟨u,c,ru,hf,hc2,hx⟩:=c1.val i x v h1 h2 h3
     exact⟨u,c,ru,hf,hc2,kp hx (c1.cel x c hc2).2⟩
   exact zfa hk hco hgen (fun x hx=>(hnc x hx).1) (hbz q c' _) (bdl _ _ _ _) hr2 I2.env0 hq hc caps ⟨F₀,E,O,F',ε,rl.ext x1,er,fun F2 H2 x2=>⟨rfl,F2,x2⟩⟩
  ·rintro H' ⟨F2,x2⟩ H'' p g hp
   have x3:=g F2 x2.dom
   refine kk _ F2 _ ((x1.trans x2).trans x3).kp (rl.ext ((x1.trans x2).trans x3)) ?_
   simp only[Rep]
   exact⟨p,_,rfl,SqT.of hp,RepL.cons (by simp[Rep]) (RepL.cons (by simp[Rep]) RepL.nil)⟩
 refine wpAny_call (codeAny_mono fin fun r s' hq=>?_)
 cases r with
 | error e=>exact y1s hq
 | ok fl =>
  cases fl with
  | ret u=>exact I1.after hq
  | next=>exact y1s hq
  | brk=>exact y1s hq
  | cont=>exact y1s hq
end
section
variable [Tbl]
noncomputable def zcw (a:Str):T->Option T
 | .str x=>if (reprText x).length<=10000/\a.length<=1000 then some (.str (Str.empty++a++reprText x)) else none
 | .int i=>if i.natAbs<1000/\a.length<=1000 then some (.str (Str.empty++a++Str.ofString (toString i))) else none
 | _=>none
theorem zm9 {X:Cx} {e:Expr} {f:Fe} {a:Str} {j:Nat} {p1 p2 p3:Pos} (he:PEr X e f):PEv X (.JoinedStr [.Constant (.str a) j p1,.FormattedValue e 114 none p2] p3) (op1 (zcw a) f):=by
 intro pins s σ H Q I ⟨F₀,E,O,F,ε,t,r,e1,k⟩
 simp only[op1,y01] at e1
 obtain⟨x,ex,e1⟩:=e1
 have emp:∀y:Str,(Str.empty++y).length=y.length:=fun y=>by rw[strLen_append];simp[Str.empty,Str.length]
 have app:∀y z:Str,(Str.empty++y++z).length=y.length+z.length:=fun y z=>by rw[strLen_append,emp]
 refine wpAny_JoinedStr ?_
 refine Calls.Constant_str ⟨a,_,rfl,?_,?_⟩
 ·rw[emp,sizeLine_eq]
  unfold zcw at e1
  split at e1
  ·split at e1
   next h=>have:=h.2;omega
   next=>cases e1
  ·split at e1
   next h=>have:=h.2;omega
   next=>cases e1
  ·cases e1
 show y0u _ _ (eval (.FormattedValue e 114 none p2) X.env) _ _ _
 refine wpAny_FormattedValue_repr ?_
 refine thn (he pins _ σ H (fun v H1=>∃F1,Ext F H F1 H1/\RepR X.K O F1 H1 x v) (I.tok _) ⟨F₀,E,O,F,ε,x,r,ex,fun v F' H' x' rv=>⟨F',x',rv⟩⟩) fun u s1 ⟨v,H1,I1,rv,F1,x1,rx⟩=>?_
 cases x with
 | str y =>
  simp only[zcw] at e1
  split at e1
  next h =>
   cases e1
   have ev:=rx.str
   subst ev
   obtain⟨tk,rfl⟩:=rv
   have h1:=h.1
   have h2:=h.2
   refine wpAny_pyReprObj_str ?_ (by rw[sizeLine_eq];omega)
   have fin:∀(tt:Tok) (ss:y04),Inv X pins σ H1 ss->∃y_1 t,Value.str (reprText y) tt=Value.str y_1 t/\(Str.empty++a++y_1).length<=y0j/\Joins (model X.prog X.w) X.A X.xe [] (Str.empty++a++y_1) (fun out s₁=>out.length<=y0j/\EP X pins σ Q (.str out s₁.toks) { s₁ with toks:=s₁.toks+1 }) ss:=fun tt ss Is=>by
    have hz:(Str.empty++a++reprText y).length<=y0j:=by rw[app,sizeLine_eq];omega
    exact⟨_,_,rfl,hz,hz,⟨.str _,H1,Is.tok _,⟨_,rfl⟩,k _ F1 H1 x1 (by simp[Rep])⟩⟩
   exact wpAny_formatField_str (fin _ _ (I1.tok _)) (fin _ _ ((I1.tok _).tok _)) (by rw[sizeLine_eq];omega)
  next=>cases e1
 | int i =>
  simp only[zcw] at e1
  split at e1
  next h =>
   cases e1
   have ev:=rx.int
   subst ev
   obtain⟨tk,rfl⟩:=rv
   have h1:=h.1
   have h2:=h.2
   have hd:i.natAbs.log2<1920:=by
    by_cases h0:i.natAbs=0
    ·rw[h0];decide
    ·exact y0x ((Nat.log2_lt h0).mpr (show i.natAbs<2 ^ 10 by omega)) (by decide)
   have hln:(Str.ofString (toString i)).length<=4300:=by
    have e:=int_text_length_le10 (k:=3) (by decide) (show i.natAbs<10 ^ 3 from h1)
    rw[PySem.ofString_length]
    omega
   refine wpAny_pyReprObj_gives (typeIs_int _ i tk) PySem.F.slot_int_repr PySem.F.entry_int_repr (PySem.F.args_int_repr_1 _) (gives_int_repr i tk hd) ?_ rfl (by rw[sizeLine_eq];exact y1k hln (by omega))
   have fin:∀(tt:Tok) (ss:y04),Inv X pins σ H1 ss->∃y_1 t,Value.str (Str.ofString (toString i)) tt=Value.str y_1 t/\(Str.empty++a++y_1).length<=y0j/\Joins (model X.prog X.w) X.A X.xe [] (Str.empty++a++y_1) (fun out s₁=>out.length<=y0j/\EP X pins σ Q (.str out s₁.toks) { s₁ with toks:=s₁.toks+1 }) ss:=fun tt ss Is=>by
    have hz:(Str.empty++a++Str.ofString (toString i)).length<=y0j:=by rw[app,sizeLine_eq];omega
    exact⟨_,_,rfl,hz,hz,⟨.str _,H1,Is.tok _,⟨_,rfl⟩,k _ F1 H1 x1 (by simp[Rep])⟩⟩
   exact wpAny_formatField_str (fin _ _ (I1.tok _)) (fin _ _ ((I1.tok _).tok _)) (by rw[sizeLine_eq];omega)
  next=>cases e1
 | none=>cases e1
 | bool b=>cases e1
 | tuple b=>cases e1
 | list b=>cases e1
 | dict b=>cases e1
end
section
noncomputable def zhq (K:y00) (CD cz cw cd ct C:Addr) (b0 b1 b2 b3:Bool):Bool :=
 (PySem.W.clsIn K C).isSome && (PySem.W.findIn K (.ref C) "__getattribute__" == some (some (.builtin "BaseException.__getattribute__"))) && (PySem.W.findIn K (.ref C) "__getattr__" == some none)
 && (PySem.W.findIn K (.ref C) "__class__" == some (some (.builtin "object.__class__"))) && (PySem.W.specialIn K (.builtin "object.__class__") "__get__" == some (some (.builtin "getset_descriptor.__get__")))
 && (PySem.W.takesIn K (.builtin "object.__class__") == some true) && (PySem.W.mroIn K C (.type "object") == some true) && (PySem.W.mroIn K C (.type "BaseException") == some true)
 && (PySem.W.mroIn K C (.ref CD) == some true) && PySem.W.excIn K C bmV "ValueError.__new__"
 && (PySem.W.kitOne K (.ref C) (.ref cz) == some b0) && (PySem.W.kitOne K (.ref C) (.ref cw) == some b1) && (PySem.W.kitOne K (.ref C) (.ref cd) == some b2) && (PySem.W.kitOne K (.ref C) (.ref ct) == some b3)
 && (PySem.W.kitOne K (.ref C) (.type "ValueError") == some true)
def zg7 (K:y00) (CD:Addr):Bool:=(PySem.W.typeIn K (.ref CD) == some (.type "type")) && (PySem.W.mroIn K CD (.type "BaseException") == some true) && (PySem.W.clsIn K CD).isSome
structure Ref1 (K:y00) (CD cz cw cd ct C:Addr) (j:Nat):Prop where
 ok:ExcOk K C
 mro:PySem.W.mroIn K C (.ref CD)=some true
 new:PySem.W.excIn K C bmV "ValueError.__new__"=true
 kinds:∃bs,Kinds K C cz cw cd ct bs j
theorem zk7 {K:y00} {CD cz cw cd ct C:Addr} {b0 b1 b2 b3:Bool} {j:Nat} (h:zhq K CD cz cw cd ct C b0 b1 b2 b3=true) (one:[b0,b1,b2,b3].countP id=1) (hit:[b0,b1,b2,b3][j]?=some true) (no:∀m,m<j->[b0,b1,b2,b3][m]?=some false) :
  Ref1 K CD cz cw cd ct C j:=by
 unfold zhq at h
 simp only[y19,beq_iff_eq] at h
 obtain⟨⟨⟨⟨⟨⟨⟨⟨⟨⟨⟨⟨⟨⟨h1,h2⟩,h3⟩,h4⟩,h5⟩,h6⟩,h7⟩,h8⟩,h9⟩,h10⟩,h11⟩,h12⟩,h13⟩,h14⟩,h15⟩:=h
 exact⟨⟨h1,h2,h3,h4,h5,h6,h7,h8⟩,h9,h10,_,⟨b0,b1,b2,b3,rfl,h11,h12,h13,h14⟩,h15,one,hit,no⟩
theorem zoe {K:y00} {CD cz cw cd ct:Addr} (h:zhq K CD cz cw cd ct cw false true false false=true):Ref1 K CD cz cw cd ct cw 1:=zk7 h rfl rfl fun m hm=>by
 obtain rfl:m=0:=by omega
 rfl
structure Names (K:y00) (mg:Str->Option Value) (CD cz cw cd ct:Addr):Prop where
 door:mg "DoorError"=some (.ref CD)
 nz:mg "NoZone"=some (.ref cz)
 nw:mg "NoWay"=some (.ref cw)
 nd:mg "NoDeed"=some (.ref cd)
 nt:mg "NoText"=some (.ref ct)
 isi:mg "isinstance"=none
 val:mg "ValueError"=none
 ok:zg7 K CD=true
section
variable [Tbl] {X:Cx} {C CD cz cw cd ct:Addr} {j:Nat} {pos p p1:Pos}
theorem z8z {ec:Expr} {c:V} (O:ExcOk X.K C) (z:X.mg "isinstance"=none) (he:PE X (.Name "e" p1) (tVar 2)) (hc:PE X ec (tC c)) (hg:Gl X "isinstance":=by rfl)
  (hs:y0a [.Name "e" p1,ec] X.env=(false,eval (.Name "e" p1) X.env)::y0a [ec] X.env:=by rfl) (hs2:y0a [ec] X.env=(false,eval ec X.env)::y0a [] X.env:=by rfl)
  (hpl:(backTo pos (y0a [ec] X.env)).any (·.1)=false:=by rfl) :
  PE X (.Call (.Name "isinstance" p) [.Name "e" p1,ec] [] pos) (tIsi X.K C c):=z2x (znm O) hg z PyProof.Rows.Boot.«isinstance» (z0c he (z0c hc z1a hs2) hs) (he:=hs) (hpl:=hpl)
theorem zlq {body suite:List Stmt} {b₀:Stmt} {np pos hpos rpos npos:Pos} (N:Names X.K X.mg CD cz cw cd ct) (R:Ref1 X.K CD cz cw cd ct C j)
  (hbody:∀(pn:List (Addr×Obj)) (E:Value->y04->Prop),PSs (Cx.bears X pn E) body (tAsg (tTup (z27 (tC (.str "told")) (z27 (zdo (Cx.bears X pn E) C 0) tNil))) (z9d 1)))
  (hsuite:∀ea,PSs (Cx.inX X ea) (b₀::suite) (zdm X.K C cz cw cd ct)) (hret:PE X (.Name "_law_found" npos) (tVar 1))
  (hN:X.N.Nodup) (hi:X.N[2]?=some ("e":Str):=by rfl) (hlen:X.N.length=4:=by rfl) (hlo:X.env.kindOf "e"=some .local:=by rfl) (hst:X.stack=X.env::X.outer:=by rfl) (hf:X.env.frame=some X.env.locals:=by rfl) (hg:Gl X "DoorError":=by rfl) :
  PSs X [.Try body [.ExceptHandler (some (.Name "DoorError" np)) (some "e") (b₀::suite) hpos] [] [] pos,.Return (some (.Name "_law_found" npos)) rpos] (zb7 X C j):=by
 have ok:=N.ok
 unfold zg7 at ok
 simp only[y19,beq_iff_eq] at ok
 obtain⟨⟨h1,h2⟩,h3⟩:=ok
 obtain⟨bs,kk⟩:=R.kinds
 exact zhg hbody hsuite kk N.door h1 h2 R.mro h3 hret hN hi hlen hlo hst hf hg
end
end
section
def z2z (kf:T->Option T) (b kb:T):List T->Option T
 | []=>some b
 | d::ds=>(kf d).bind fun kd=>(ltD kd kb).bind fun z=>if z then z2z kf d kd ds else z2z kf b kb ds
def minK (kf:T->Option T):List T->Option T
 | []=>none
 | d::ds=>(kf d).bind fun kd=>z2z kf d kd ds
variable [Tbl]
theorem FpOk.at {X:Cx} {pins:List (Addr×Obj)} {H H':Hp} {b:Addr} (h:FpOk X pins H b) (e:H' b=none):FpOk X pins H' b:=⟨e,h.2⟩
theorem zi3 {X:Cx} {kf:T->Option T} (hc:X.calm=true) (hu:X.A.units+70<cLine) {l q I S:Addr} {xs:List V} {ds:List T} {pins:List (Addr×Obj)} {σ:L2.St} {tc:(Addr->Prop)->Hp->Prop} {R:Result->y04->Prop} {dr:T} (hIS:I≠S)
  (tk:∀F H F' H',Ext F H F' H'->tc F H->tc F' H') (hok:∀d kd,kf d=some kd->okT kd=true)
  (hcall:∀(pins':List (Addr×Obj)) (H:Hp) (s:y04) (F:Addr->Prop) (d kd:T) (v:V) (u:Value),Inv X pins' σ H s->Dom F H->tc F H->Rep X.K F H d v->RelV v u->kf d=some kd ->
   y0u (model X.prog X.w) X.A.in1 (call (.ref q) [u]) (EP X pins' σ fun kv H'=>∃F',Ext F H F' H'/\Rep X.K F' H' kd kv) (fun _ _=>False) s) :
  ∀(r j:Nat) (s:y04) (H:Hp) (F:Addr->Prop) (db dk:T) (xb xk:V) (vb vk:Value) (c:Nat),ds.length - (j+1)=r->j+1<=ds.length->Inv X pins σ H s->Dom F H->tc F H->SqT X.K H l xs->RepL X.K F H ds xs->s.heap.IsTupleIter I l (j+1) ->
   s.heap.get? S=some (seqObj "list" #[vb,vk] c)->FpOk X pins H I->FpOk X pins H S->RelV xb vb->Rep X.K F H db xb->RelV xk vk->Rep X.K F H dk xk->okT dk=true->z2z kf db dk (ds.drop (j+1))=some dr ->
   (∀s' H' F' v x,Inv X pins σ H' s'->Ext F H F' H'->RelV x v->Rep X.K F' H' dr x->R (.ok (.ret v)) s') ->
   codeAny (model X.prog X.w) X.A (.builtin "min.loop" ⟨[.ref I,.ref q,.ref S],[]⟩) R s:=by
 have nm:(toString "min"++toString ".loop":String)="min.loop":=by decide
 intro r
 induction r with
 | zero =>
  intro j s H F db dk xb xk vb vk c hr hj J dom htc hq hrep hit hS fI fS rb pb rk pk okk hmin hR
  obtain⟨its,rv,p,hz⟩:=J.tuple hq
  have hlen:its.length=ds.length:=by rw[hrep.length,rv.length]
  refine codeAny_builtin (id:="min.loop") PySem.F.entry_min_loop ?_
  rw[y1q (PySem.F.plain_min_loop) _]
  show y0u _ X.A.in1 (seqItems? (.ref S) >>= _) _ _ _
  refine y02 (wpAny_seqItems (a:=S) hS rfl ?_)
  show y0u _ X.A.in1 (tryCatch (pyNext (.ref I)) _ >>= _) _ _ _
  refine y02 (wpAny_tryCatch (wpAny_pyNext_tuple_end (J.ok.hd hc) hit (show s.heap.IsTuple l its.toArray from p) (by simp;omega) fun h' eb=>?_))
  have J1:Inv X pins σ H { s with heap:=h' }:=J.turned (t':=s.toks) (fun b o hb e=>eb b o hb e) fI.1 fI.2.1 fI.2.2.2.1 fI.2.2.2.2.1 fI.2.2.2.2.2
  have hS':=eb S _ (Ne.symm hIS) hS
  show y0u _ X.A.in1 (updateSeq S (fun _=>#[]) >>= _) _ _ _
  refine y02 (wpAny_updateSeq hS' rfl (y02 (wpAny_letGo (y06 ?_))))
  rw[List.drop_of_length_le (by omega)] at hmin
  cases hmin
  exact hR _ H F vb xb (J1.turned (t':=s.toks) (fun b o hb e=>(Heap.get?_update_other _ _ (Ne.symm hb)).trans e) fS.1 fS.2.1 fS.2.2.2.1 fS.2.2.2.2.1 fS.2.2.2.2.2) (Ext.refl dom) rb pb
 | succ r ih =>
  intro j s H F db dk xb xk vb vk c hr hj J dom htc hq hrep hit hS fI fS rb pb rk pk okk hmin hR
  have hlt:j+1<ds.length:=by omega
  obtain⟨its,rv,p,hz⟩:=J.tuple hq
  have hd:ds[j+1]?=some ds[j+1]:=y0v hlt
  obtain⟨x,hx,px⟩:=hrep.get hd
  obtain⟨u,hu',ru⟩:=rv.get hx
  rw[List.drop_eq_getElem_cons hlt,z2z] at hmin
  obtain⟨kd,ekd,hmin⟩:=y01.mp hmin
  obtain⟨z,ez,hmin⟩:=y01.mp hmin
  refine codeAny_builtin (id:="min.loop") PySem.F.entry_min_loop ?_
  rw[y1q (PySem.F.plain_min_loop) _]
  show y0u _ X.A.in1 (seqItems? (.ref S) >>= _) _ _ _
  refine y02 (wpAny_seqItems (a:=S) hS rfl ?_)
  show y0u _ X.A.in1 (tryCatch (pyNext (.ref I)) _ >>= _) _ _ _
  refine y02 (wpAny_tryCatch (wpAny_pyNext_tuple_item hit (show s.heap.IsTuple l its.toArray from p) (x:=u) (by simpa using hu') fun h' hit' sb=>?_))
  have J1:Inv X pins σ H { s with heap:=h' }:=J.turned (t':=s.toks) (fun b o hb e=>(sb.2 b hb).trans e) fI.1 fI.2.1 fI.2.2.2.1 fI.2.2.2.2.1 fI.2.2.2.2.2
  have hS':h'.get? S=some (seqObj "list" #[vb,vk] c):=(sb.2 S (Ne.symm hIS)).trans hS
  obtain⟨oI,hoI,cI,dI⟩:=id hit'
  have J2:Inv X ((S,seqObj "list" #[vb,vk] c)::(I,oI)::pins) σ H { s with heap:=h' }:=J1.pins_of fun p hp=>by
   rcases y09.mp hp with rfl|hp
   ·exact⟨hS',fS.1,fS.2.1,fS.2.2.1,fun v z=>by cases z⟩
   ·rcases y09.mp hp with rfl|hp
    ·exact⟨hoI,fI.1,fI.2.1,fI.2.2.1,fun v z=>by rw[dI] at z;cases z⟩
    ·exact J1.pin p (y18 _ hp)
  show y0u _ X.A.in1 (tryCatch (holding [u] (call (.ref q) [u])) _ >>= _) _ _ _
  refine y02 (wpAny_tryCatch (wpAny_holding (y1b (hcall _ H _ F _ kd x u J2 dom htc px ru ekd) (fun ku s2 he=>?_) fun _ _ hF=>hF.elim)))
  obtain⟨kv,H2,J3,rkv,F2,x2,pkv⟩:=he
  have pS:=J3.pin (S,seqObj "list" #[vb,vk] c) (y18 _ (.head _))
  have pI:=J3.pin (I,oI) (y18 _ (.tail _ (.head _)))
  have J4:Inv X pins σ H2 s2:=J3.pins_of fun p hp=>J3.pin p (y18 _ (.tail _ (.tail _ hp)))
  have fI2:=FpOk.at fI pI.2.1
  have fS2:=FpOk.at fS pS.2.1
  have hit2:s2.heap.IsTupleIter I l (j+1+1):=⟨oI,pI.1,cI,dI⟩
  obtain⟨as,ra⟩:=z0q (O:=fun _=>False) J4 (.inl pkv) rkv
  obtain⟨bs,rbb⟩:=z0q (O:=fun _=>False) J4 (.inl (pk.ext x2)) rk
  have okd:=hok _ _ ekd
  obtain⟨c1,l1⟩:=z50 okd
  obtain⟨c2,l2⟩:=z50 okk
  have hcmp:=z7t _ _ X.A.in1 s2 ku vk as bs z ra rbb c1 c2 (by have:=Nat.min_le_left kd.depth dk.depth;show X.A.units+1+_<_;omega) ez
  show y0u _ X.A.in1 (tryCatch (holding [u,ku] (richCompare .Lt ku vk >>= _)) _ >>= _) _ _ _
  refine y02 (wpAny_tryCatch (wpAny_holding (y02 (hcmp X.prog X.w _ _ ?_))))
  refine y02 (wpAny_holding (wpAny_truthy_bool (y02 (wpAny_letGo (y06 ?_)))))
  cases z with
  | true =>
   simp only[if_true] at hmin ⊢
   refine y02 (wpAny_updateSeq pS.1 rfl (y02 (wpAny_letGo ?_)))
   rw[nm]
   refine y06 ⟨plainId_quiet PySem.F.plain_min_loop _,ih (j+1) _ H2 F2 ds[j+1] kd x kv u ku _ (by omega) hlt (J4.turned (t':=s2.toks) (fun b o hb e=>(Heap.get?_update_other _ _ (Ne.symm hb)).trans e) fS2.1 fS2.2.1 fS2.2.2.2.1 fS2.2.2.2.2.1 fS2.2.2.2.2.2) x2.dom (tk _ _ _ _ x2 htc) (SqT.same x2.same hq) (hrep.ext x2)
    ⟨oI,(Heap.get?_update_other _ _ (Ne.symm hIS)).trans pI.1,cI,dI⟩ (get?_update_seq pS.1 fun _=>#[u,ku]) fI2 fS2 ru (px.ext x2) rkv pkv okd hmin fun s' H' F' v y a1 a2 a3 a4=>hR s' H' F' v y a1 (x2.trans a2) a3 a4⟩
  | false =>
   simp only[y1o,if_false] at hmin ⊢
   refine y02 (wpAny_letGo ?_)
   rw[nm]
   exact y06 ⟨plainId_quiet PySem.F.plain_min_loop _,ih (j+1) _ H2 F2 db dk xb xk vb vk c (by omega) hlt J4 x2.dom (tk _ _ _ _ x2 htc) (SqT.same x2.same hq) (hrep.ext x2) hit2 pS.1 fI2 fS2 rb (pb.ext x2) rk (pk.ext x2) okk hmin fun s' H' F' v y a1 a2 a3 a4=>hR s' H' F' v y a1 (x2.trans a2) a3 a4⟩
end
section
variable [Tbl]
theorem zge {X:Cx} {kf:T->Option T} (hc:X.calm=true) (hu:X.A.units+70<cLine) {l q:Addr} {xs:List V} {ds:List T} {pins:List (Addr×Obj)} {σ:L2.St} {tc:(Addr->Prop)->Hp->Prop} {dr:T}
  (tk:∀F H F' H',Ext F H F' H'->tc F H->tc F' H') (hok:∀d kd,kf d=some kd->okT kd=true)
  (hcall:∀(pins':List (Addr×Obj)) (H:Hp) (s:y04) (F:Addr->Prop) (d kd:T) (v:V) (u:Value),Inv X pins' σ H s->Dom F H->tc F H->Rep X.K F H d v->RelV v u->kf d=some kd ->
   y0u (model X.prog X.w) X.A.in1 (call (.ref q) [u]) (EP X pins' σ fun kv H'=>∃F',Ext F H F' H'/\Rep X.K F' H' kd kv) (fun _ _=>False) s)
  {s:y04} {H:Hp} {F:Addr->Prop} {Q:VK} (J:Inv X pins σ H s) (dom:Dom F H) (htc:tc F H) (hq:SqT X.K H l xs) (hrep:RepL X.K F H ds xs) (hm:minK kf ds=some dr)
  (hQ:∀v F' H',Ext F H F' H'->Rep X.K F' H' dr v->Q v H') :
  y0u (model X.prog X.w) X.A (call (.builtin "min") [.ref l] [(Str.ofString "key",.ref q)]) (EP X pins σ Q) X.xe s:=by
 have hname:(toString "min"++toString ".loop":String)="min.loop":=by decide
 cases ds with
 | nil=>cases hm
 | cons d ds =>
  obtain⟨kd,ekd,hmin⟩:=y01.mp hm
  obtain⟨its,rv,p,hz⟩:=J.tuple hq
  refine PyProof.Rows.kmk_tree PySem.F.kind_min PySem.F.plain_min PySem.F.entry_min (PyProof.Rows.kmk_min_key _ _) ?_
  show y0u _ X.A.in1 (Builtin.Builtins.bindParams "min" ["key","default"] 0 ⟨[],[(Str.ofString "key",.ref q)]⟩ >>= _) _ _ s
  refine y02 (wpAny_of_eq (show Builtin.Builtins.bindParams "min" ["key","default"] 0 ⟨[],[(Str.ofString "key",.ref q)]⟩=pure [some (.ref q),none] from rfl) ?_)
  refine y02 (y06 ?_)
  refine y02 (wpAny_pyIter_tuple (show s.heap.IsTuple l its.toArray from p) ?_)
  refine y02 (wpAny_newList ?_ (y1z _))
  rw[hname]
  refine y06 ⟨plainId_quiet PySem.F.plain_min_loop _,?_⟩
  generalize eI:s.heap.objs.size=I
  generalize eS:(s.heap.push { cls:=.type "tuple_iterator",data:=.fields #[.ref l,.int 0 0] }).objs.size=S
  have hS1:S=I+1:=by rw[<- eS,<- eI];exact size_push' ..
  have hIS:I≠S:=by omega
  have gI:((s.heap.push { cls:=.type "tuple_iterator",data:=.fields #[.ref l,.int 0 0] }).push (seqObj "list" #[] 0)).get? I=some { cls:=.type "tuple_iterator",data:=.fields #[.ref l,.int 0 0] }:=by
   rw[<- eI]
   exact y03 _ (y0l _ rfl)
  have gS:((s.heap.push { cls:=.type "tuple_iterator",data:=.fields #[.ref l,.int 0 0] }).push (seqObj "list" #[] 0)).get? S=some (seqObj "list" #[] 0):=by
   rw[<- eS]
   exact y0l _ rfl
  have J0:Inv X pins σ H { s with heap:=(s.heap.push { cls:=.type "tuple_iterator",data:=.fields #[.ref l,.int 0 0] }).push (seqObj "list" #[] 0) }:=J.kept (t':=s.toks) fun b u e=>y03 _ (y03 _ e)
  have fI:FpOk X pins H I:=J.fpOk (by omega) (J.hok.fresh (by omega))
  have fS:FpOk X pins H S:=J.fpOk (by omega) (J.hok.fresh (by omega))
  obtain⟨x0,hx0,px0⟩:=hrep.get (i:=0) (t:=d) rfl
  obtain⟨u0,hu0,ru0⟩:=rv.get hx0
  have it0:((s.heap.push { cls:=.type "tuple_iterator",data:=.fields #[.ref l,.int 0 0] }).push (seqObj "list" #[] 0)).IsTupleIter I l 0:=⟨_,gI,rfl,rfl⟩
  have hT0:((s.heap.push { cls:=.type "tuple_iterator",data:=.fields #[.ref l,.int 0 0] }).push (seqObj "list" #[] 0)).IsTuple l its.toArray:=by
   obtain⟨o,ho,hr⟩:=(show s.heap.IsTuple l its.toArray from p)
   exact⟨o,y03 _ (y03 _ ho),hr⟩
  refine codeAny_builtin (id:="min.loop") PySem.F.entry_min_loop ?_
  rw[y1q PySem.F.plain_min_loop _]
  show y0u _ X.A.in1 (seqItems? (.ref S) >>= _) _ _ _
  refine y02 (wpAny_seqItems (a:=S) gS rfl ?_)
  show y0u _ X.A.in1 (tryCatch (pyNext (.ref I)) _ >>= _) _ _ _
  refine y02 (wpAny_tryCatch (wpAny_pyNext_tuple_item it0 hT0 (x:=u0) (by simpa using hu0) fun h' hit' sb=>?_))
  have J1:=J0.turned (h':=h') (t':=s.toks) (fun b o hb e=>(sb.2 b hb).trans e) fI.1 fI.2.1 fI.2.2.2.1 fI.2.2.2.2.1 fI.2.2.2.2.2
  have hS':h'.get? S=some (seqObj "list" #[] 0):=(sb.2 S (Ne.symm hIS)).trans gS
  obtain⟨oI,hoI,cI,dI⟩:=id hit'
  have J2:Inv X ((S,seqObj "list" #[] 0)::(I,oI)::pins) σ H { s with heap:=h' }:=J1.pins_of fun p hp=>by
   rcases y09.mp hp with rfl|hp
   ·exact⟨hS',fS.1,fS.2.1,fS.2.2.1,fun v z=>by cases z⟩
   ·rcases y09.mp hp with rfl|hp
    ·exact⟨hoI,fI.1,fI.2.1,fI.2.2.1,fun v z=>by rw[dI] at z;cases z⟩
    ·exact J1.pin p (y18 _ hp)
  show y0u _ X.A.in1 (tryCatch (holding [u0] (call (.ref q) [u0])) _ >>= _) _ _ _
  refine y02 (wpAny_tryCatch (wpAny_holding (y1b (hcall _ H _ F _ kd x0 u0 J2 dom htc px0 ru0 ekd) (fun ku s2 he=>?_) fun _ _ hF=>hF.elim)))
  obtain⟨kv,H2,J3,rkv,F2,x2,pkv⟩:=he
  have pS:=J3.pin (S,seqObj "list" #[] 0) (y18 _ (.head _))
  have pI:=J3.pin (I,oI) (y18 _ (.tail _ (.head _)))
  have J4:Inv X pins σ H2 s2:=J3.pins_of fun p hp=>J3.pin p (y18 _ (.tail _ (.tail _ hp)))
  have fI2:=FpOk.at fI pI.2.1
  have fS2:=FpOk.at fS pS.2.1
  have okd:=hok _ _ ekd
  show y0u _ X.A.in1 (updateSeq S (fun _=>#[u0,ku]) >>= _) _ _ _
  refine y02 ?_
  refine wpAny_updateSeq pS.1 rfl ?_
  rw[hname]
  refine y06 ⟨plainId_quiet PySem.F.plain_min_loop _,zi3 (ds:=d::ds) hc hu hIS tk hok hcall _ 0 _ H2 F2 d kd x0 kv u0 ku _ rfl (by simp) (J4.turned (t':=s2.toks) (fun b o hb e=>(Heap.get?_update_other _ _ (Ne.symm hb)).trans e) fS2.1 fS2.2.1 fS2.2.2.2.1 fS2.2.2.2.2.1 fS2.2.2.2.2.2) x2.dom (tk _ _ _ _ x2 htc) (SqT.same x2.same hq) (hrep.ext x2)
   ⟨oI,(Heap.get?_update_other _ _ (Ne.symm hIS)).trans pI.1,cI,dI⟩ (get?_update_seq pS.1 fun _=>#[u0,ku]) fI2 fS2 ru0 (px0.ext x2) rkv pkv okd (by simpa using hmin) fun s' H' F' v y a1 a2 a3 a4=>⟨y,H',a1,a3,hQ y F' H' (x2.trans a2) a4⟩⟩
end
section
variable [Tbl]
theorem ziu {X:Cx} {pins:List (Addr×Obj)} {σ:L2.St} {H:Hp} {s:y04} {scope:Scope} {y:Str} (I:Inv X pins σ H s) (hnc:∀x∈scope.names,x.2≠.cell) (hlo:∀x∈scope.names,x.2=.local->x.1=y) (hy:y∉X.N) (hfr:∀x∈scope.names,x.2=.free->X.env.scope.names.lookup x.1=some .cell) :
  Caps X.N scope (clos X.env scope.names []) σ H s.heap:=by
 have hl:∀x∈scope.names,x.2=.free->∃c,X.env.cells.lookup x.1=some c:=fun x hx hf=>I.ok.has x.1 (.inl (hfr x hx hf))
 have fr:∀x c,(clos X.env scope.names []).lookup x=some c->X.env.cells.lookup x=some c:=z2o hl fun x c e=>by cases e
 refine⟨fun x y c h1 h2=>I.ok.inj x y c (fr x c h1) (fr y c h2),fun x h=>?_,fun x c h=>⟨I.cell x c (fr x c h),I.freeC x c (fr x c h)⟩,I.len,fun i x v h1 h2 h3=>?_⟩
 ·rcases h with h|h
  ·obtain⟨y,hy,e1,e2⟩:=z0m h
   exact absurd e1 (hnc y hy)
  ·obtain⟨y,hy,e1,e2⟩:=z0m h
   exact z2f (.inl ⟨y,hy,e1,e2⟩)
 ·have hf:scope.names.lookup x=some .free:=by
   rcases h3 with h|h|h
   ·obtain⟨z,hz,e1,e2⟩:=z0m h
    have:=hlo z hz e1
    rw[e2] at this
    exact absurd (this▸y1p h1) hy
   ·obtain⟨y,hy,e1,_⟩:=z0m h
    exact absurd e1 (hnc y hy)
   ·exact h
  obtain⟨y,hy,e1,e2⟩:=z0m hf
  have hk:X.env.scope.names.lookup x=some .cell:=by rw[<- e2];exact hfr y hy e1
  obtain⟨m,_,hv⟩:=I.loc
  obtain⟨u,ru,lk⟩:=hv i x v h1 h2 (.inr (.inl hk))
  obtain⟨c,hc⟩:=z2f (env:=X.env) (l:=scope.names) (cs:=[]) (x:=x) (.inl ⟨y,hy,e1,e2⟩)
  refine⟨u,c,ru,hf,hc,?_⟩
  rcases lk with ⟨hk2,_⟩|⟨_,c2,hc2,hx⟩
  ·have:X.env.scope.names.lookup x=some .local:=hk2
   rw[hk] at this
   cases this
  ·rw[fr x c hc] at hc2
   cases hc2
   exact hx
theorem RelE.consI {K:y00} {F₀ O F:Addr->Prop} {E:En} {H:Hp} {ε:Ev} {σ:L2.St} {d:T} {v:V} (r:RelE K F₀ E O F H ε σ) (rd:Rep K F H d v):RelE K F₀ E O F H (some (.imm d)::ε) (some v::σ):=by
 refine⟨by simp[r.len],fun i s e=>?_,fun i j s u v1 w1 hij e1 e2 o1 o2 h1 h2=>?_,r.ent,r.o0,r.fr⟩
 ·cases i with
  | zero =>
   simp at e
   subst e
   exact⟨v,rfl,rd⟩
  | succ i=>exact r.val i s (by simpa using e)
 ·cases i with
  | zero =>
   simp at e1
   subst e1
   cases o1
  | succ i =>
   cases j with
   | zero =>
    simp at e2
    subst e2
    cases o2
   | succ j=>exact r.ne i j s u v1 w1 (by omega) (by simpa using e1) (by simpa using e2) o1 o2 (by simpa using h1) (by simpa using h2)
section
variable {P:y0q} {w:World} {K:y00} {mg:Str->Option Value} {base:Heap} {k:Nat} {q c':Addr} {N:List Str} {qual:Str} {scope:Scope} {cd:Value} {cl:List (Str×Addr)} {A:Around} {outer:List Env} {s:y04} {H:Hp} {σ:L2.St} {y:Str}
theorem zd0 {h1:Heap} {tk:Nat} {m:Str->Option Value} {v:V} {u:Value} (hk:scope.kind=.function) (hd:A.handled=none) (e0:Env0 P w K mg base A outer s H) (C:Caps N scope cl σ H s.heap) (hns:h1.Ns s.heap.objs.size m) (hy:scope.names.lookup y=some .local) (hm:m y=some u) (rv:RelV v u) (kp:∀b o,s.heap.get? b=some o->h1.get? b=some o) :
  Inv (cxL P w K mg base (y::N) qual scope q cd cl A outer s H) [] (some v::σ) H { s with heap:=h1,toks:=tk }:=by
 have noA:∀b:Addr,b∉(cxL P w K mg base (y::N) qual scope q cd cl A outer s H).ex:=fun b z=>absurd (show b∈([]:List Addr) from z) (by simp)
 refine⟨⟨e0.mod,hk,rfl,rfl,y0o _,C.inj,C.has,fun y c hf _=>(by cases hf),fun _=>hd,Around.frames_deeper e0.frames,.inr ⟨rfl,rfl⟩,fun b z=>absurd z (noA b),e0.bs,e0.bsz,fun b _ _=>noA b,fun b z=>absurd z (noA b),e0.funs,e0.frf⟩,
  rfl,e0.bare,Un.kept kp,⟨m,hns,fun i x v1 h1' h2 h3=>?_⟩,fun y c h=>?_,e0.hok.fresh (y0o _),fun y c h=>(C.cel y c h).2,fun p hp=>absurd (show p∈([]:List (Addr×Obj)) from hp) (by simp),e0.hok.kept kp,by
  show (some v::σ).length=(y::N).length
  simp[C.len]⟩
 ·replace h1':(y::N)[i]?=some x:=h1'
  cases i with
  | zero =>
   have e1:y=x:=by simpa using h1'
   have e2:v=v1:=by simpa using h2
   subst e1 e2
   exact⟨u,rv,.inl ⟨hy,hm⟩⟩
  | succ i =>
   obtain⟨u,c,ru,hf,hc,hx⟩:=C.val i x v1 (by simpa using h1') (by simpa using h2) h3
   exact⟨u,ru,.inr ⟨.inr hf,c,hc,z31 hx kp⟩⟩
 ·obtain⟨⟨v,hv⟩,_⟩:=C.cel y c h
  exact⟨v,z31 hv kp⟩
theorem zfb {params:Arguments} {body:Expr} {pm ctv:Value} {g:Fe} {Q:VK} {Ex:XK} (hk:scope.kind=.function) (hco:scope.isCoroutine=false) (hgen:scope.isGenerator=false) (hnc:∀x∈scope.names,x.2≠.cell) (hy:scope.names.lookup y=some .local)
  (hb:∀(A:Around) (outer:List Env) (s:y04) (H:Hp),Room k (A.deeper (envL qual scope s.heap.objs.size q (.ref c') cl))->PEv (cxL P w K mg base (y::N) qual scope q (.ref c') cl A outer s H) body g)
  {u:Value} {v:V} (bd:bindArgs (PySem.W.kla_fn "<lambda>" qual params body scope cl pm (.ref c') ctv) ⟨[u],[]⟩=pure [(y,u)])
  (hr:Room (k+1) A) (e0:Env0 P w K mg base A outer s H) (hq:H q=some (lamO (PySem.W.kla_obj "<lambda>" qual params body scope cl pm c' ctv) q)) (hc:H c'=some (codO c' qual)) (C:Caps N scope cl σ H s.heap) (rv:RelV v u)
  {F₀ O F:Addr->Prop} {E:En} {ε:Ev} {d t:T} (r:RelE K F₀ E O F H ε σ) (rd:Rep K F H d v) (e:g (some (.imm d)::ε)=some t) (kq:∀v F' H',Ext F H F' H'->Rep K F' H' t v->Q v H') :
  codeAny (model P w) A (.call (.ref q) ⟨[u],[]⟩) (CR CX0 outer P w H s Q Ex) s:=by
 have nolim:s.heap.NoLimit:=e0.mod.nolimit.keeps fun b o e=>(e0.bs b o e).1
 refine PySem.W.kla_callFunE hr.depth (e0.hok q _ hq).1 rfl hco hgen rfl (e0.hok c' _ hc).1 ?_
 rw[bd]
 refine y06 (wpAny_newFunctionEnv hnc (fun x hx=>by rw[y0z.mp hx];exact hy) (fun h₁ hns hsb=>⟨nolim.fresh _ hsb,?_⟩) hk)
 have kp:∀b o,s.heap.get? b=some o->h₁.get? b=some o:=fun b o e=>hsb.extBut b o (y0y (y0c e)) (y03 _ e)
 show codeAny _ _ (.expr body (envL qual scope s.heap.objs.size q (.ref c') cl)) _ _
 refine PySem.W.kla_codeExpr ?_
 have I:Inv (cxL P w K mg base (y::N) qual scope q (.ref c') cl A outer s H) [] (some v::σ) H { s with heap:=h₁,toks:=s.toks+([(y,u)]:List (Str×Value)).length }:=zd0 hk hr.hd e0 C hns hy (by simp) rv kp
 refine y1b (hb A outer s H (hr.deeper _) [] _ _ H (fun v H'=>Q v H') I ⟨F₀,E,O,F,_,t,r.consI rd,e,fun v F' H' x q=>kq v F' H' x q⟩) (fun u s' hs=>?_) fun e s' hs=>(show False from hs).elim
 obtain⟨v,H',J,rv,qv⟩:=hs
 exact⟨v,H',J.os,J.bare,J.base,J.hok,rv,qv⟩
end
section
variable {M:Model} {A:Around} {E:Value->y04->Prop} {s:y04} {env:Env}
theorem znp {pos:Pos} {id:String} {e:Expr} {rest:List Expr} {kws:List Keyword} {Q:Value->y04->Prop}
  (h:y0u M A (spliced (backTo pos (y0a (e::rest) env))) (fun vs s1=>y0u M A (evalAll ((backToKw pos (keywordEach kws env)).map (·.2))) (fun ks s2=>y0u M A (call (.builtin id) vs (((backToKw pos (keywordEach kws env)).filterMap (·.1)).zip ks)) Q E s2) E s1) E s)
  (he:backTo pos (y0a (e::rest) env)=(false,eval e env)::backTo pos (y0a rest env)) (hp:(backTo pos (y0a (e::rest) env)).any (·.1)=false)
  (ha:(backToKw pos (keywordEach kws env)).all (·.1.isSome)=true) (hk:(backToKw pos (keywordEach kws env)).any (·.1.isNone)=false) :
  y0u M A (callWith pos (.builtin id) [] (backTo pos (y0a (e::rest) env)) (backToKw pos (keywordEach kws env))) Q E s:=by
 have hev:y0u M A (evalArgs (.builtin id) true (backTo pos (y0a (e::rest) env)) (backToKw pos (keywordEach kws env))) (fun a s1=>y0u M A (call (.builtin id) ([]++a.pos) a.kw) Q E s1) E s:=by
  rw[he] at h ⊢
  exact evalArgs_kwB ha h
 unfold callWith
 refine y02 (wpAny_holding (y1b hev (fun a s1 g1=>y02 (wpAny_standAt ?_)) fun _ _ x=>x))
 simp only[hp,hk,Bool.or_false]
 refine y02 (y06 (y02 (y1b g1 (fun r s2 hr=>?_) fun _ _ x=>x)))
 exact y02 (wpAny_holding (wpAny_point (y06 hr)))
end
def keyE (g:Fe) (ε:Ev):T->Option T:=fun d=>(g (some (.imm d)::ε)).bind fun kd=>if okT kd=true then some kd else none
def zi4 (f g:Fe):Fe:=fun ε=>(f ε).bind fun t=>match t with
 | .tuple ds=>minK (keyE g ε) ds
 | _=>none
theorem zm7 {X:Cx} {k:Nat} {e:Expr} {f g:Fe} {params:Arguments} {body:Expr} {scope:Scope} {lpos kpos p pos:Pos} {c Pt:Addr} {qn y:Str}
  (he:PEv X e f) (hm:X.mg "min"=none) (hcode:X.env.code=.ref c) (hcd:PySem.W.codeHdIn X.K c Pt=true) (hbm:BM X.mg X.base) (htb:(Pt,qn)∈Tbl.tb) (hun:∀p∈Tbl.tb,p.1=Pt->p.2=qn) (hr:Room (k+2) X.A)
  (hb:∀(q c':Addr) (cl:List (Str×Addr)) (A:Around) (outer:List Env) (s:y04) (H:Hp),Room k (A.deeper (envL (X.env.qual++"<lambda>") scope s.heap.objs.size q (.ref c') cl))->PEv (cxL X.prog X.w X.K X.mg X.base (y::X.N) (X.env.qual++"<lambda>") scope q (.ref c') cl A outer s H) body g)
  (hc:X.calm=true:=by rfl)
  (hsc:(decide (scope.kind=.function) && !scope.isCoroutine && !scope.isGenerator && decide (scope.names.lookup y=some .local) && decide (y∉X.N) && scope.names.all fun z=>decide (z.2≠.cell) && (decide (z.2≠.local) || decide (z.1=y)))=true:=by rfl)
  (hfr:(scope.names.all fun y=>decide (y.2≠.free) || decide (X.env.scope.names.lookup y.1=some .cell))=true:=by rfl)
  (bdl:∀(cl:List (Str×Addr)) (pm:Value) (c':Addr) (ctv u:Value),bindArgs (PySem.W.kla_fn "<lambda>" (X.env.qual++"<lambda>") params body scope cl pm (.ref c') ctv) ⟨[u],[]⟩=pure [(y,u)]:=by intros;rfl)
  (hg:Gl X "min":=by rfl) (hdef:defaultsOf params X.env=([],[]):=by rfl)
  (h1:backTo pos (y0a [e] X.env)=(false,eval e X.env)::backTo pos (y0a [] X.env):=by rfl) (h2:(backTo pos (y0a [e] X.env)).any (·.1)=false:=by rfl)
  (h3:(backToKw pos (keywordEach [⟨some "key",.Lambda params body scope lpos,kpos⟩] X.env)).all (·.1.isSome)=true:=by rfl) (h4:(backToKw pos (keywordEach [⟨some "key",.Lambda params body scope lpos,kpos⟩] X.env)).any (·.1.isNone)=false:=by rfl)
  (h5:y0a [e] X.env=(false,eval e X.env)::y0a [] X.env:=by rfl)
  (h6:(backToKw pos (keywordEach [⟨some "key",.Lambda params body scope lpos,kpos⟩] X.env)).map (·.2)=[(do let v <- eval (.Lambda params body scope lpos) X.env;standAt pos;pure v)]:=by rfl)
  (h7:(backToKw pos (keywordEach [⟨some "key",.Lambda params body scope lpos,kpos⟩] X.env)).filterMap (·.1)=[Str.ofString "key"]:=by rfl)
  (hqn:X.env.qual++"<lambda>"=qn:=by rfl) :
  PEv X (.Call (.Name "min" p) [e] [⟨some "key",.Lambda params body scope lpos,kpos⟩] pos) (zi4 f g):=by
 subst hqn
 simp only[y19,Bool.or_eq_true,Bool.not_eq_true',decide_eq_true_eq,List.all_eq_true] at hsc
 obtain⟨⟨⟨⟨⟨hk,hco⟩,hgen⟩,hyl⟩,hyN⟩,hnl⟩:=hsc
 have hnc:∀x∈scope.names,x.2≠.cell:=fun x hx=>(hnl x hx).1
 have hlo:∀x∈scope.names,x.2=.local->x.1=y:=fun x hx hl=>by
  rcases (hnl x hx).2 with z|z
  ·exact absurd hl z
  ·exact z
 simp only[List.all_eq_true,Bool.or_eq_true,decide_eq_true_eq] at hfr
 have hfr':∀y∈scope.names,y.2=.free->X.env.scope.names.lookup y.1=some .cell:=fun y hy hf=>by
  rcases hfr y hy with z|z
  ·exact absurd hf z
  ·exact z
 intro pins s σ H Q I ⟨F₀,E,O,F,ε,t,rl,e1,kk⟩
 simp only[zi4,y01] at e1
 obtain⟨t0,ef,e1⟩:=e1
 have Chd:=PySem.W.codeHd_of_K I.ok.mod.kin hcd
 refine wpAny_Call_Name_kw (z52 I hg hm (u:=.builtin "min") (by decide +kernel) ?_)
 refine znp ?_ h1 h2 h3 h4
 have ha:PA X [e] (z27 (tV X.K f) tNil):=z0c he z1a h5
 refine thn (ha pos pins s σ H (fun vs H1=>∃v F1,vs=[v]/\Ext F H F1 H1/\Rep X.K F1 H1 t0 v) I ⟨F₀,E,O,F,ε,t0,rl,ef,fun v F' H' x q=>⟨v,F',rfl,x,q⟩⟩) fun us s1 ⟨vs,H1,I1,r1,v,F1,ev,x1,rv⟩=>?_
 subst ev
 cases r1 with
 | cons ru rr =>
 cases rr
 rw[h6]
 refine wpAny_evalAll_cons (y02 ?_)
 have hl:∀x∈scope.names,x.2=.free->∃c,X.env.cells.lookup x.1=some c:=fun x hx hf=>I1.ok.has x.1 (.inl (hfr' x hx hf))
 have rl1:=rl.ext x1
 refine z7v I1 hcode Chd hbm hdef (z1w hl) rl1.dom.tgs htb hun fun q c' ctv H2 s2 I2 sm tb1 hqn hq hc'=>?_
 refine y02 (wpAny_standAt (y06 (wpAny_evalAll_nil ?_)))
 rw[h7]
 have x2:Ext F1 H1 F1 H2:=⟨sm,fun _ h=>h,fun _ h=>.inl h,⟨fun a ha=>by
  obtain⟨o,ho⟩:=rl1.dom.dm a ha
  exact sm.ne ho,tb1⟩⟩
 have rl2:=rl1.ext x2
 have rv2:=rv.ext x2
 split at e1
 next ds =>
  simp only[Rep] at rv2
  obtain⟨l,xs,ev,hsq,hrep⟩:=rv2
  subst ev
  cases ru
  have hu:=hr.un
  refine zge (tc:=fun F H=>RelE X.K F₀ E O F H ε σ/\H q=some (lamO (PySem.W.kla_obj "<lambda>" (X.env.qual++"<lambda>") params body scope (clos X.env scope.names []) ((X.mg "__name__").getD .none) c' ctv) q)/\H c'=some (codO c' (X.env.qual++"<lambda>"))) (kf:=keyE g ε) hc (by omega)
   (fun F H F' H' x ⟨a1,a2,a3⟩=>⟨a1.ext x,x.same.get a2,x.same.get a3⟩) (fun d kd ek=>?_) (fun pins' H3 s3 F3 d kd v3 u3 I3 dom3 ht3 rd3 ru3 ek=>?_) I2 x2.dom ⟨rl2,hq,hc'⟩ hsq hrep e1 fun v F' H' x q=>kk v F' H' ((x1.trans x2).trans x) q
  ·obtain⟨k0,_,e2⟩:=y01.mp ek
   split at e2
   next hh=>cases e2;exact hh
   next=>cases e2
  ·obtain⟨k0,eg,e2⟩:=y01.mp ek
   split at e2
   next hh =>
    cases e2
    refine wpAny_call (codeAny_mono (zfb (Q:=fun kv H'=>∃F',Ext F3 H3 F' H'/\Rep X.K F' H' kd kv) (Ex:=E0) hk hco hgen hnc hyl (hb q c' _) (bdl _ _ _ _ _) hr.in1 I3.env0.in1 ht3.2.1 ht3.2.2 (ziu I3 hnc hlo hyN hfr') ru3 ht3.1 rd3 eg fun v F' H' x q=>⟨F',x,q⟩) fun r s' hq=>?_)
    cases r with
    | error e=>exact y1s hq
    | ok fl =>
     cases fl with
     | ret u=>exact I3.after hq
     | next=>exact y1s hq
     | brk=>exact y1s hq
     | cont=>exact y1s hq
   next=>cases e2
 next=>cases e1
theorem znx {X:Cx} {C:Addr} {e:Expr} {r:Fz} {kws:List Keyword} {p pos:Pos} {x:Str} {id:String} (hm:X.mg x=none) (hv:bootBuiltins x=some (.builtin id)) (he:PEz X C e r) (hg:Gl X x:=by rfl) (hn:x≠"__name__":=by decide) (hdb:(x == ("__debug__":Str))=false:=by decide)
  (h1:backTo pos (y0a [e] X.env)=(false,eval e X.env)::backTo pos (y0a [] X.env):=by rfl) (h2:(backTo pos (y0a [e] X.env)).any (·.1)=false:=by rfl)
  (h3:(backToKw pos (keywordEach kws X.env)).all (·.1.isSome)=true:=by rfl) (h4:(backToKw pos (keywordEach kws X.env)).any (·.1.isNone)=false:=by rfl)
  (h5:y0a [e] X.env=(false,eval e X.env)::y0a [] X.env:=by rfl):PEz X C (.Call (.Name x p) [e] kws pos) r:=by
 intro pins s σ H Q I h
 refine wpAny_Call_Name_kw (z52 I hg hm hv ?_ hn hdb)
 refine znp ?_ h1 h2 h3 h4
 have ha:PA X [e] (z27 (tEZ X C r) tNil):=z0c he z1a h5
 refine thn (ha pos pins s σ H (fun _ _=>False) I h) fun us s1 ⟨vs,H1,I1,r1,z⟩=>z.elim
theorem zll {X:Cx} {C:Addr} {e:Expr} {r:Fz} {kws:List Keyword} {p pos:Pos} (hm:X.mg "min"=none) (he:PEz X C e r) (hg:Gl X "min":=by rfl)
  (h1:backTo pos (y0a [e] X.env)=(false,eval e X.env)::backTo pos (y0a [] X.env):=by rfl) (h2:(backTo pos (y0a [e] X.env)).any (·.1)=false:=by rfl)
  (h3:(backToKw pos (keywordEach kws X.env)).all (·.1.isSome)=true:=by rfl) (h4:(backToKw pos (keywordEach kws X.env)).any (·.1.isNone)=false:=by rfl)
  (h5:y0a [e] X.env=(false,eval e X.env)::y0a [] X.env:=by rfl):PEz X C (.Call (.Name "min" p) [e] kws pos) r:=znx hm (id:="min") (by decide +kernel) he hg (by decide) (by decide) h1 h2 h3 h4 h5
theorem zno {P:y0q} {w:World} {K:y00} {mg:Str->Option Value} {base:Heap} {x:Str} {st:Stmt} {f:Addr} {oc:Value} {od an:Option Addr} {osl:Array (Option Value)} {kV doc pm cdv ct:Value} {N ps:List Str} {k:Nat} {b:Fs}
  (l:K.lookup f=some ⟨oc,od,.func (y0i x x (z0l st) (z08 st) (z00 st) .none kV doc pm an cdv ct),osl⟩) (hcd:y0f K cdv x=true) (S:FnScope N ps (z00 st))
  (bd:∀fd,Fun K x x st f fd->z1k K fd ps []) (m:mg x=some (.ref f)) (kp:y08 K (.ref f)=true)
  (hb:∀(A:Around) (outer:List Env) (s:y04) (H:Hp) (E:XK),Room k (A.deeper (envOfC x (z00 st) s.heap.objs.size f cdv)) ->
   PBt (cxOf CX0 P w K mg base N x (z00 st) f cdv A outer s H E).nox (z08 st) b):Cl P w K mg base x (k+1) ps.length (runF b N.length) :=
 .mk' (zfy l hcd S hb) m kp (bd _ (z2c (st:=st) l hcd kp))
end
section
variable [Tbl]
mutual
noncomputable def gtD:T->T->Option Bool
 | .int a,.int b=>some (decide (b<a))
 | .tuple xs,.tuple ys=>lexG xs ys
 | _,_=>none
noncomputable def lexG:List T->List T->Option Bool
 | [],[]=>some false
 | [],_::_=>some false
 | _::_,[]=>some true
 | x::xs,y::ys=>if y1v x y then lexG xs ys else gtD x y
end
noncomputable def GtAt (A:Around) (s:y04) (y x:Value) (b:Bool):Prop :=
 ∀(prog:y0q) (w:World) (E:Value->y04->Prop) (Q:Value->y04->Prop),Q (.bool b) s->y0u (model prog w) A (richCompare .Gt y x) Q E s
inductive GoodG (A:Around) (s:y04) (fin:Bool):List (Value×Value)->Bool->Prop
 | nil:GoodG A s fin [] fin
 | eq {y x:Value} {r:List (Value×Value)} {b:Bool}:SeqAt.EqAt A s y x true->GoodG A s fin r b->GoodG A s fin ((y,x)::r) b
 | lt {y x:Value} {r:List (Value×Value)} {b:Bool}:SeqAt.EqAt A s y x false->GtAt A s y x b->GoodG A s fin ((y,x)::r) b
section
open PySem.SeqAt
open PySem.AutoSeq1 (wpAny_loadPart')
open PySem.MeetsSeq PySem.MeetsSeq2 PySem.MeetsSeq3
theorem z8f (l b:Addr) (items items2:Array Value) (n n2:Nat) (dd dd2:Option Addr) (sl sl2:Array (Option Value)) (z:Bool) :
  Meets (Builtin.«tuple.__gt__» ⟨[.ref l,.ref b],[]⟩)
   (fun A R s=>s.heap.get? l=some { cls:=.type "tuple",dict:=dd,data:=.seq items n,slots:=sl }/\s.heap.get? b=some { cls:=.type "tuple",dict:=dd2,data:=.seq items2 n2,slots:=sl2 } /\
    GoodG A.in1 s (decide (items2.size<items.size)) (items.toList.zip items2.toList) z/\R (.ok (.ret (.bool z))) s) :=
 .of_wp fun prog w A R s h=>by
  obtain⟨hp,g,d,tk,os⟩:=s;obtain⟨hl,hb,hg,h⟩:=h
  have f2:=AutoSeq1.sub_tuple_tuple
  wp_walk using wpAny_loadPart' hl,wpAny_loadPart' hb,wpAny_forIn_list _ (fun rest b s'=>b.1=none/\s'=⟨hp,g,d,tk,os⟩/\GoodG A.in1 ⟨hp,g,d,tk,os⟩ (decide (items2.size<items.size)) rest z) _
  case turn =>
   rintro⟨y,x⟩ rest b s' ⟨hb',rfl,hG⟩
   cases hG with
   | eq he hG =>
    refine y02 (he prog w _ _ ?_)
    wp_walk
    exact⟨rfl,rfl,hG⟩
   | lt he hlt =>
    refine y02 (he prog w _ _ ?_)
    have hri:=hlt prog w
    wp_walk using hri
    exact⟨_,rfl,h⟩
  case fin =>
   rintro⟨b1,b2⟩ s' ⟨hb',rfl,hG⟩
   simp only at hb'
   subst hb'
   cases hG
   wp_walk
   exact⟨_,rfl,by simpa [Builtin.Tuple.tupleCompareSizes] using h⟩
  case h =>
   exact⟨rfl,rfl,hg⟩
mutual
theorem zih:∀(da db:T) (A:Around) (s:y04) (a b:Value) (as bs:List Addr) (r:Bool),Reads s.heap a da as->Reads s.heap b db bs->da.canLay0=true->db.canLay0=true->A.units+min da.depth db.depth<cLine->gtD da db=some r->GtAt A s a b r
 | .int i,.int j,A,s,_,_,_,_,r,.int _ t,.int _ u,_,_,_,e=>by
  unfold gtD at e
  cases e
  exact fun prog w E Q q=>(PyProof.Rows.gt_int q:y0u (model prog w) A (compareOp .Gt (.int i t) (.int j u)) Q E s)
 | .tuple xs,.tuple ys,A,s,_,_,_,_,r,.tuple (a:=l) (o:=o) (vs:=vs) (n:=n) h1 h2 h3 h4,.tuple (a:=l') (o:=o') (vs:=vs') (n:=n') k1 k2 k3 k4,ha,hb,hu,e=>by
  unfold gtD at e
  simp only[PyData.canLay0] at ha hb
  simp only[y20] at hu
  have hG:=z68 xs ys A.in1 s vs.toList vs'.toList _ _ r h4 k4 ha hb (room_in hu) e
  obtain⟨cls,dd,data,sl⟩:=o
  obtain⟨cls2,dd2,data2,sl2⟩:=o'
  simp only at h2 h3 k2 k3
  subst h2 h3 k2 k3
  rw[y1u,y1u] at hG
  exact fun prog w E Q q=>richCompare_meets_room (op:=.Gt) ⟨_,h1,rfl⟩ ⟨_,k1,rfl⟩ PySem.F.slot_tuple_gt PySem.F.entry_tuple_gt (PySem.F.args_tuple_gt_2 _ _) (z8f l l' vs vs' n n' dd dd2 sl sl2 r)
   ⟨h1,k1,hG,show Value.bool r≠Value.notImplemented/\Q (.bool r) s from ⟨(fun x=>nomatch x),q⟩⟩ (by omega)
 | .none,_,_,_,_,_,_,_,_,_,_,_,_,_,e=>by simp[gtD] at e
 | .bool _,_,_,_,_,_,_,_,_,_,_,_,_,_,e=>by simp[gtD] at e
 | .str _,_,_,_,_,_,_,_,_,_,_,_,_,_,e=>by simp[gtD] at e
 | .list _,_,_,_,_,_,_,_,_,_,_,_,_,_,e=>by simp[gtD] at e
 | .dict _,_,_,_,_,_,_,_,_,_,_,_,_,_,e=>by simp[gtD] at e
 | .int _,.none,_,_,_,_,_,_,_,_,_,_,_,_,e=>by simp[gtD] at e
 | .int _,.bool _,_,_,_,_,_,_,_,_,_,_,_,_,e=>by simp[gtD] at e
 | .int _,.str _,_,_,_,_,_,_,_,_,_,_,_,_,e=>by simp[gtD] at e
 | .int _,.list _,_,_,_,_,_,_,_,_,_,_,_,_,e=>by simp[gtD] at e
 | .int _,.dict _,_,_,_,_,_,_,_,_,_,_,_,_,e=>by simp[gtD] at e
 | .int _,.tuple _,_,_,_,_,_,_,_,_,_,_,_,_,e=>by simp[gtD] at e
 | .tuple _,.none,_,_,_,_,_,_,_,_,_,_,_,_,e=>by simp[gtD] at e
 | .tuple _,.bool _,_,_,_,_,_,_,_,_,_,_,_,_,e=>by simp[gtD] at e
 | .tuple _,.str _,_,_,_,_,_,_,_,_,_,_,_,_,e=>by simp[gtD] at e
 | .tuple _,.list _,_,_,_,_,_,_,_,_,_,_,_,_,e=>by simp[gtD] at e
 | .tuple _,.dict _,_,_,_,_,_,_,_,_,_,_,_,_,e=>by simp[gtD] at e
 | .tuple _,.int _,_,_,_,_,_,_,_,_,_,_,_,_,e=>by simp[gtD] at e
theorem z68:∀(xs ys:List T) (A:Around) (s:y04) (vs ws:List Value) (as bs:List Addr) (r:Bool),ReadsAll s.heap vs xs as->ReadsAll s.heap ws ys bs->y1e xs=true->y1e ys=true->A.units+min (y1c xs) (y1c ys)<cLine->lexG xs ys=some r->GoodG A s (decide (ws.length<vs.length)) (vs.zip ws) r
 | [],[],A,s,_,_,_,_,r,.nil,.nil,_,_,_,e=>by
  unfold lexG at e
  cases e
  exact .nil
 | [],_::_,A,s,_,_,_,_,r,.nil,.cons _ _,_,_,_,e=>by
  unfold lexG at e
  cases e
  exact GoodG.nil
 | _::_,[],A,s,_,_,_,_,r,.cons _ _,.nil,_,_,_,e=>by
  unfold lexG at e
  cases e
  exact GoodG.nil
 | x::xs,y::ys,A,s,_,_,_,_,r,.cons r1 r2,.cons q1 q2,ha,hb,hu,e=>by
  simp only[y1e,y19] at ha hb
  simp only[y1c] at hu
  unfold lexG at e
  have he:=eqAt_reads x y A s _ _ _ _ r1 q1 ha.1 hb.1 (room_head hu)
  split at e
  next h =>
   rw[h] at he
   have ih:=z68 xs ys A s _ _ _ _ r r2 q2 ha.2 hb.2 (room_tail hu) e
   rw[y1w]
   simp only[y0w,Nat.add_lt_add_iff_right]
   exact .eq he ih
  next h =>
   rw[Bool.not_eq_true] at h
   rw[h] at he
   rw[y1w]
   exact .lt he (zih x y A s _ _ _ _ r r1 q1 ha.1 hb.1 (room_head hu) e)
end
end
end
section
variable [Tbl]
def rPop:V->List V->Hp->VK->Prop:=fun x vs H Q=>∃(l:Addr) (ws:List V) (y:V),x=.ref l/\vs=[]/\H l=some (.lst (ws++[y]))/\Q y (upd H l (.lst ws))
theorem zf3 {X:Cx}:MtM X "list.pop" rPop:=by
 intro pins s σ H x vs v us Q I rx rv h
 obtain⟨l,ws,y,rfl,rfl,hH,q⟩:=h
 cases rx
 cases rv
 obtain⟨z,its,n,r,hl,e⟩:=I.lstM hH
 have hz:its.length=ws.length+1:=by
  have:=r.length
  simp only[y1x,y0w,y28] at this
  omega
 obtain⟨u,hu,ru⟩:=r.get (i:=ws.length) (x:=y) (by simp)
 have ez:(ws++[y]).eraseIdx ws.length=ws:=by
  rw[List.eraseIdx_append_of_length_le (y0o _)]
  simp
 refine call_meets PySem.F.slot_list_pop ⟨_,e,rfl⟩ PySem.F.entry_list_pop (PySem.F.args_list_pop_1 _) (PySem.MeetsSeq.list_pop_last l its.toArray n u (by
  rw[y0h,hz,Nat.add_sub_cancel]
  simpa using hu) (by rw[y0h,<- hl];exact z)) ⟨e,?_⟩
 have rv:=r.eraseIdx ws.length
 rw[ez] at rv
 refine⟨y,_,I.lset (t':=s.toks) (its':=its.eraseIdx ws.length) hH e ?_ rv (by
  have:=r.length
  simp only[y1x,y0w,y28] at this z
  omega),ru,q⟩
 unfold Array.eraseIdxIfInBounds
 rw[dif_pos (by rw[y0h];omega)]
 simp[hz]
def popX (i:Nat):Fx:=fun ε=>match ε[i]? with
 | some (some (.own ts))=>match ts.getLast? with
  | some t=>some (t,ε.set i (some (.own ts.dropLast)))
  | none=>none
 | _=>none
theorem z8p {K:y00} {F:Addr->Prop} {H:Hp}:∀{ts:List T} {t:T} {vs:List V},RepL K F H ts vs->ts.getLast?=some t->∃ws v,vs=ws++[v]/\RepL K F H ts.dropLast ws/\Rep K F H t v
 | [],t,vs,h,e=>by cases e
 | [a],t,vs,h,e=>by
  cases e
  simp only[RepL] at h
  obtain⟨v,z,rfl,h1,rfl⟩:=h
  exact⟨[],v,rfl,RepL.nil,h1⟩
 | a::b::ts,t,vs,h,e=>by
  simp only[RepL] at h
  obtain⟨v,z,rfl,h1,h2⟩:=h
  have h2':RepL K F H (b::ts) z:=by simpa only [RepL] using h2
  obtain⟨ws,u,rfl,h3,h4⟩:=z8p h2' (by simpa using e)
  exact⟨v::ws,u,rfl,RepL.cons h1 h3,h4⟩
section
variable {X:Cx} {e:Expr} {fx:Fx} {pos:Pos}
theorem znz (i:Nat) {x:Str} {px apos cpos:Pos} (hN:X.N[i]?=some x:=by rfl) (hv:Vis X.env.scope x:=by first|exact Or.inl rfl|exact Or.inr (Or.inl rfl)|exact Or.inr (Or.inr rfl)) (hd:(x == ("__debug__":Str))=false:=by decide)
  (hcd:(x == ("__classdict__":Str))=false:=by decide)
  (hbase:attributeBase (.Name x px) "pop" X.env (eval (.Name x px) X.env)=eval (.Name x px) X.env:=by rfl) (hline:(apos.endLine == cpos.line)=true:=by rfl) :
  PEx X (.Call (.Attribute (.Name x px) "pop" apos) [] [] cpos) (popX i) :=
 z0s (zjb PySem.F.plainAttrs_list PySem.F.slot_list_pop PySem.F.type_list_pop zf3 (pv i hN hv hd hcd) hbase hline) fun σ H Q ⟨F₀,E,O,F,ε,t,ε',r,e,k⟩=>by
 unfold popX at e
 split at e
 next ts he =>
  split at e
  next t' et =>
   cases e
   obtain⟨v,h1,a,vs,rfl,n,h0,hh,hr⟩:=r.val _ _ he
   obtain⟨ws,y,rfl,hw,hy⟩:=z8p hr et
   refine⟨_,h1,.inl ⟨rfl,_,SqL.of hh⟩,a,ws,y,rfl,rfl,hh,?_⟩
   obtain⟨kp,r2⟩:=r.mut (s':=.own ts.dropLast) (o':=.lst ws) he rfl h1 n h0 hh (.inl ⟨_,rfl⟩) fun kp=>⟨a,_,rfl,n,h0,z05,hw.kp kp⟩
   exact k y F _ kp r2 (hy.kp kp)
  next=>cases e
 next=>cases e
def zdb (g:Fg) (f:Fx):Fs:=fun ε=>(f ε).bind fun r=>(g r.1 r.2).map .nx
theorem zk5 {tg:Expr} {g:Fg} (he:PEx X e fx) (hg:PGt X tg g) (hs:swapsWithSole [tg] e pos.line X.env=pure false:=by rfl) (hw:swappedStores [tg] e X.env=pure none:=by rfl)
  (h1:(assignEach [tg] X.env).map (·.2)=[assign tg X.env]:=by rfl):PSt X (.Assign [tg] e pos) (zdb g fx):=z1u (zmh he hg hs hw h1) fun D σ H ⟨F₀,H₀,O,F,ε,o,r,e,k⟩=>by
 simp only[zdb,y01,y07] at e
 obtain⟨⟨t,ε'⟩,et,ε2,eg,rfl⟩:=e
 refine⟨F₀,H₀,O,F,ε,t,ε',r,et,fun v F' H' kp r' q=>?_⟩
 exact⟨F₀,H₀,O,F',ε',t,ε2,r',q,eg,fun σ' r2=>k σ' F' H' kp r2⟩
end
end
section
variable [Tbl]
open PySem.SeqAt
open PySem.W (kas_ask kas_sort kat_run kat_snds kat_lt kat_kind KatTups KatLex KatGo kas_item KasT)
def prT (x:Int×List Int):T:=.tuple [.int x.1,rowT x.2]
def ltP (x y:Int×List Int):Bool:=decide (x.1<y.1) || (decide (x.1=y.1) && ltL x.2 y.2)
def leP (x y:Int×List Int):Bool:=!ltP y x
def z7n (rs:List (Int×List Int)):List (Int×List Int):=rs.mergeSort leP
def zah:List T->Option (List (Int×List Int))
 | []=>some []
 | .tuple [.int a,.tuple xs]::ts=>(z3e xs).bind fun r=>(zah ts).map fun rs=>(a,r)::rs
 | _::_=>none
def z1n:List T->Option T
 | [.list xs]=>if xs.length<64 then (zah xs).bind fun rs=>if rs.Nodup then some (.list ((z7n rs).map prT)) else none else none
 | _=>none
theorem z4e {x y:Int×List Int} (h:ltP x y=true):ltP y x=false:=by
 obtain⟨a,r⟩:=x
 obtain⟨b,t⟩:=y
 simp only[ltP,Bool.or_eq_true,y19,decide_eq_true_eq,Bool.or_eq_false_iff,Bool.and_eq_false_iff,decide_eq_false_iff_not] at h ⊢
 rcases h with h|⟨h1,h2⟩
 ·exact⟨by omega,.inl (by omega)⟩
 ·exact⟨by omega,.inr (z30 h2)⟩
theorem z93 {x y z:Int×List Int} (h1:ltP x y=true) (h2:ltP y z=true):ltP x z=true:=by
 obtain⟨a,r⟩:=x
 obtain⟨b,t⟩:=y
 obtain⟨c,u⟩:=z
 simp only[ltP,Bool.or_eq_true,y19,decide_eq_true_eq] at h1 h2 ⊢
 rcases h1 with h1|⟨h1,h3⟩ <;> rcases h2 with h2|⟨h2,h4⟩
 ·exact .inl (by omega)
 ·exact .inl (by omega)
 ·exact .inl (by omega)
 ·exact .inr ⟨by omega,z94 h3 h4⟩
theorem zal {x y:Int×List Int} (h:x≠y):ltP x y=true\/ltP y x=true:=by
 obtain⟨a,r⟩:=x
 obtain⟨b,t⟩:=y
 simp only[ltP,Bool.or_eq_true,y19,decide_eq_true_eq]
 rcases Int.lt_trichotomy a b with z|z|z
 ·exact .inl (.inl z)
 ·subst z
  have hr:r≠t:=fun e=>h (by rw[e])
  rcases zf6 hr with q|q
  ·exact .inl (.inr ⟨rfl,q⟩)
  ·exact .inr (.inr ⟨rfl,q⟩)
 ·exact .inr (.inl z)
theorem zbt {x y:Int×List Int} (h1:leP x y=true) (h2:leP y x=true):x=y:=by
 simp only[leP,Bool.not_eq_true'] at h1 h2
 by_cases e:x=y
 ·exact e
 ·rcases zal e with q|q
  ·rw[h2] at q;cases q
  ·rw[h1] at q;cases q
theorem z5x (x y z:Int×List Int) (h1:leP x y=true) (h2:leP y z=true):leP x z=true:=by
 simp only[leP,Bool.not_eq_true'] at h1 h2 ⊢
 cases h:ltP z x with
 | false=>rfl
 | true =>
  by_cases e:x=y
  ·subst e;rw[h2] at h;cases h
  ·rcases zal e with q|q
   ·have:=z93 h q
    rw[h2] at this;cases this
   ·rw[h1] at q;cases q
theorem zam (x y:Int×List Int):(leP x y || leP y x)=true:=by
 simp only[leP,Bool.or_eq_true,Bool.not_eq_true']
 cases h:ltP y x with
 | false=>exact .inl rfl
 | true=>exact .inr (z4e h)
theorem zba (l:List (Int×List Int)):(z7n l).Pairwise (fun x y=>leP x y=true):=List.pairwise_mergeSort z5x zam l
theorem z6q (l:List (Int×List Int)):(z7n l).Perm l:=List.mergeSort_perm l leP
theorem zh4 {l m:List (Int×List Int)} (p:l.Perm m) (h:l.Pairwise (fun x y=>leP x y=true)):l=z7n m :=
 z12 (fun a b h1 h2=>zbt h1 h2) (p.trans (z6q m).symm) h (zba m)
section
variable {prog:y0q} {w:World} {A:Around} {E:Value->y04->Prop} {s:y04}
theorem z8j {r:Addr} {us:List Value} {Out:List Value->Prop} {Q:Value->y04->Prop} (hz:us.length<64)
  (hcol:∀(E':Value->y04->Prop) (R:List Value->y04->Prop),(∀h' tk d,(∀b o,s.heap.get? b=some o->h'.get? b=some o)->s.heap.objs.size<=h'.objs.size->R us { s with heap:=h',toks:=tk,drawn:=d })->y0u (model prog w) A.in1 (collect (.ref r)) R E' s)
  (hsort:∀(A':Around) (h':Heap) (tk:Nat) (d:Drawn) (a:Addr) (P:Fin->y04->Prop) (E':Value->y04->Prop),A'.units<=A.units+3->(∀b o,s.heap.get? b=some o->h'.get? b=some o)->s.heap.objs.size<=a->h'.get? a=some (seqObj "list" us.toArray 0) ->
   (∀out:List Value,Out out->P (.done (.ret .none)) { s with heap:=sortedHeap h' a us out.toArray,toks:=tk,drawn:=d })->y0u (model prog w) A' (Builtin.«list.sort» ⟨[.ref a],[]⟩) P E' { s with heap:=h',toks:=tk,drawn:=d })
  (h:∀h' tk d D e out,Out out->(∀b o,s.heap.get? b=some o->h'.get? b=some o)->s.heap.objs.size<=D->h'.get? D=some (seqObj "list" out.toArray e)->Q (.ref D) { s with heap:=h',toks:=tk,drawn:=d }) :
  y0u (model prog w) A (call (.builtin "sorted") [.ref r]) Q E s:=by
 refine Calls.call_function_entry kind_sorted plain_sorted entry_sorted (args_sorted1 _) ?_
 unfold Builtin.«sorted»
 refine y02 (m:=checkCount "sorted" 1 1 _) (y06 ?_)
 refine y02 (hcol _ _ fun h' tk d kp hsz=>?_)
 refine y02 (wpAny_newList ?_ (by rw[sizeLine_eq];omega))
 have hN:(h'.push (seqObj "list" us.toArray 0)).get? h'.objs.size=some (seqObj "list" us.toArray 0):=y0l _ rfl
 refine y02 (wpAny_holding (wpAny_call_entry slot_list_sort ⟨_,hN,rfl⟩ entry_list_sort (hsort _ _ tk d _ _ _ ?_ (fun b o e=>y03 _ (kp b o e)) hsz hN fun out so=>⟨_,rfl,?_⟩) (args_list_sort _)))
 ·show A.units+1+1<=A.units+3
  omega
 obtain⟨⟨e,he⟩,hk⟩:=z2s (out:=out.toArray) hN
 refine y06 ⟨_,rfl,?_⟩
 exact h _ tk d h'.objs.size e out so (fun b o q=>hk b o (y0y (y0c (kp b o q))) (y03 _ (kp b o q))) hsz he
theorem zbz {b fin r:Bool} {Q:Bool->y04->Prop} {l:List (Value×Value)} (g:GoodP A s fin l r) (hq:Q r s):∀i,KatLex prog w A b fin Q l (i+1) s:=by
 induction g with
 | nil=>exact fun i=>hq
 | eq he _ ih=>exact fun i=>PySem.W.kat_cons (he prog w _ _ (PySem.W.kat_yes (ih hq (i+1))))
 | lt he hl=>exact fun i=>PySem.W.kat_cons (he prog w _ _ (PySem.W.kat_no (by
   have:(b && (i+1 == 0))=false:=by cases b <;> rfl
   rw[this]
   exact PySem.W.kat_one _ _ (hl prog w _ _ hq))))
end
inductive PrsAt (h:Heap):List Value->List (Int×List Int)->Prop
 | nil:PrsAt h [] []
 | cons {a:Addr} {o:Obj} {xs:Array Value} {n:Nat} {x:Int×List Int} {t:Tok} {v:Value} {as:List Addr} {us:List Value} {rs:List (Int×List Int)}:h.get? a=some o->o.cls=.type "tuple"->o.data=.seq xs n->xs.toList=[.int x.1 t,v]->Reads h v (rowT x.2) as->PrsAt h us rs->PrsAt h (.ref a::us) (x::rs)
theorem PrsAt.len {h:Heap} {us:List Value} {rs:List (Int×List Int)} (R:PrsAt h us rs):us.length=rs.length:=by
 induction R with
 | nil=>rfl
 | cons _ _ _ _ _ _ ih=>simp[ih]
theorem PrsAt.at_ {h:Heap} {us:List Value} {rs:List (Int×List Int)} (R:PrsAt h us rs):∀{i:Nat},i<us.length->∃a o xs n t v as,us.getD i Value.none=.ref a/\h.get? a=some o/\o.data=.seq xs n/\xs.toList=[.int (rs.getD i (0,[])).1 t,v]/\Reads h v (rowT (rs.getD i (0,[])).2) as:=by
 induction R with
 | nil=>intro i hi;simp at hi
 | cons h1 h2 h3 h4 h5 _ ih =>
  intro i hi
  cases i with
  | zero=>exact⟨_,_,_,_,_,_,_,rfl,h1,h3,h4,h5⟩
  | succ i=>simpa using ih (by simpa using hi)
theorem PrsAt.keep {h h':Heap} {us:List Value} {rs:List (Int×List Int)} (R:PrsAt h us rs) (k:∀b o,h.get? b=some o->h'.get? b=some o):PrsAt h' us rs:=by
 induction R with
 | nil=>exact .nil
 | cons h1 h2 h3 h4 h5 _ ih=>exact .cons (k _ _ h1) h2 h3 h4 (Reads.keeps k h5) ih
theorem PrsAt.tups {h:Heap} {us:List Value} {rs:List (Int×List Int)} (R:PrsAt h us rs):∃fs,KatTups h us fs/\fs.length=us.length/\∀v∈fs,∃i t,v=.int i t:=by
 induction R with
 | nil=>exact⟨[],trivial,rfl,by simp⟩
 | @cons a o xs n x t v as us rs h1 h2 h3 h4 h5 _ ih =>
  obtain⟨fs,f1,f2,f3⟩:=ih
  refine⟨.int x.1 t::fs,⟨⟨a,o,xs,n,rfl,h1,h2,h3,?_⟩,f1⟩,by simp[f2],fun v hv=>?_⟩
  ·rw[<- Array.getElem?_toList,h4]
   rfl
  ·rcases y09.mp hv with rfl|hv
   ·exact⟨_,_,rfl⟩
   ·exact f3 v hv
theorem zky (r t:List Int):ltD (rowT r) (rowT t)=some (ltL r t):=by
 unfold rowT ltD
 induction r generalizing t with
 | nil=>cases t <;> simp[lexD,ltL]
 | cons a r ih =>
  cases t with
  | nil=>simp[lexD,ltL]
  | cons b t =>
   simp only[y0d,lexD,ltL,y1v]
   by_cases h:a=b
   ·subst h
    simp[ih]
   ·have e:(a == b)=false:=by simpa using h
    simp[e,h,ltD]
theorem zj6 (r:List Int):(rowT r).canLay0=true/\(rowT r).depth<=2:=by
 have:y1e (r.map PyData.int)=true/\y1c (r.map PyData.int)<=1:=by
  induction r with
  | nil=>simp[y1e,y1c]
  | cons a r ih =>
   simp only[y0d,y1e,y1c,PyData.canLay0,y20,ih.1,Bool.and_self,true_and]
   have:=ih.2
   omega
 simp only[rowT,PyData.canLay0,y20,this.1,true_and]
 omega
theorem zg6 (r t:List Int):y1v (rowT r) (rowT t)=decide (r=t):=by
 unfold rowT
 rw[y1v]
 induction r generalizing t with
 | nil=>cases t <;> simp[PyData.eqvAll]
 | cons a r ih =>
  cases t with
  | nil=>simp[PyData.eqvAll]
  | cons b t =>
   simp only[y0d,PyData.eqvAll,y1v,ih,List.cons.injEq]
   by_cases h1:a=b <;> by_cases h2:r=t <;> simp[h1,h2]
section
variable {prog:y0q} {w:World} {A:Around} {s:y04}
theorem zf8 {b:Bool} {Q:Bool->y04->Prop} {x y:Int×List Int} {t u:Tok} {v v':Value} {as bs:List Addr} (hu:A.units+10<cLine) (h1:Reads s.heap v (rowT x.2) as) (h2:Reads s.heap v' (rowT y.2) bs) (h:Q (ltP x y) s) :
  KatLex prog w A b false Q [(.int x.1 t,.int y.1 u),(v,v')] 0 s:=by
 obtain⟨c1,d1⟩:=zj6 x.2
 obtain⟨c2,d2⟩:=zj6 y.2
 refine PySem.W.kat_cons (wpAny_eqBool_int ?_)
 by_cases e:x.1=y.1
 ·rw[e,beq_self_eq_true]
  refine PySem.W.kat_yes ?_
  have hm:A.units+min (rowT x.2).depth (rowT y.2).depth<cLine:=by
   have:=Nat.min_le_left (rowT x.2).depth (rowT y.2).depth
   omega
  have he:=eqAt_reads _ _ A s _ _ _ _ h1 h2 c1 c2 hm
  have hl:=z7t _ _ A s _ _ _ _ (ltL x.2 y.2) h1 h2 c1 c2 hm (zky _ _)
  rw[zg6] at he
  by_cases q:x.2=y.2
  ·rw[decide_eq_true q] at he
   refine zbz (.eq he .nil) ?_ 0
   have:ltP x y=false:=by
    have:x=y:=Prod.ext e q
    subst this
    cases z:ltP x x with
    | false=>rfl
    | true=>have:=z4e z;rw[z] at this;cases this
   rw[this] at h
   exact h
  ·rw[decide_eq_false q] at he
   refine zbz (.lt he hl) ?_ 0
   have:ltP x y=ltL x.2 y.2:=by simp[ltP,e]
   rw[this] at h
   exact h
 ·rw[beq_eq_false_iff_ne.mpr e]
  have hq:Q (decide (x.1<y.1)) s:=by simpa [ltP,e] using h
  refine PySem.W.kat_no ?_
  cases b with
  | true=>exact oneLt_int hq
  | false=>exact PySem.W.kat_one _ _ (PyProof.Rows.lt_int hq)
end
section
variable {X:Cx}
theorem zj9 {pins:List (Addr×Obj)} {σ:L2.St} {H:Hp} {s:y04} {F:Addr->Prop} (I:Inv X pins σ H s):∀{rs:List (Int×List Int)} {vs:List V} {us:List Value},RepL X.K F H (rs.map prT) vs->Vals vs us->PrsAt s.heap us rs
 | [],vs,us,h,r=>by
  have:vs=[]:=by simpa [RepL] using h
  subst this
  cases r
  exact .nil
 | q::rs,vs,us,h,r=>by
  simp only[y0d,RepL] at h
  obtain⟨v,vs',rfl,h1,h2⟩:=h
  unfold prT at h1
  simp only[Rep] at h1
  obtain⟨a,ws,rfl,h3,h4⟩:=h1
  simp only[RepL] at h4
  obtain⟨v1,w1,rfl,h5,v2,w2,rfl,h6,rfl⟩:=h4
  cases r with
  | cons r1 r2 =>
   cases r1
   obtain⟨its,z1,⟨o,z2,z3,n,z4⟩,_⟩:=I.tuple h3
   cases z1 with
   | cons y1 y2 =>
    cases y2 with
    | cons y3 y4 =>
     cases y4
     have e1:v1=.int q.1:=by simpa [Rep] using h5
     subst e1
     obtain⟨t,rfl⟩:=y1
     obtain⟨as,ra⟩:=z0q (O:=fun _=>False) I (.inl h6) y3
     exact .cons (t:=t) z2 z3 z4 rfl ra (zj9 I h2 r2)
theorem ze5 {K:y00} {F:Addr->Prop} {H:Hp}:∀{rs:List (Int×List Int)} {vs:List V} {i:Nat},RepL K F H (rs.map prT) vs->i<rs.length->Rep K F H (prT (rs.getD i (0,[]))) (vs.getD i .non)
 | [],vs,i,h,hi=>by simp at hi
 | q::rs,vs,i,h,hi=>by
  simp only[y0d,RepL] at h
  obtain⟨v,vs',rfl,h1,h2⟩:=h
  cases i with
  | zero=>exact h1
  | succ i=>simpa using ze5 h2 (by simpa using hi)
theorem z8w {K:y00} {F:Addr->Prop} {H:Hp} {rs:List (Int×List Int)} {vs:List V} (h:RepL K F H (rs.map prT) vs):∀{l:List Nat},(∀i∈l,i<rs.length)->RepL K F H ((l.map fun i=>rs.getD i (0,[])).map prT) (l.map fun i=>vs.getD i .non)
 | [],_=>RepL.nil
 | i::l,hl=>RepL.cons (ze5 h (hl i (by simp))) (z8w h fun i h'=>hl i (by simp[h']))
theorem zcu {rs:List (Int×List Int)} {q:Array Nat} (P:Per rs.length q) (S:SP (fun i j=>ltP (rs.getD i (0,[])) (rs.getD j (0,[]))) q rs.length):q.toList.map (fun i=>rs.getD i (0,[]))=z7n rs:=by
 refine zh4 ?_ ?_
 ·have e:(List.range rs.length).map (fun i=>rs.getD i (0,[]))=rs:=by
   refine List.ext_getElem? fun i=>?_
   rw[y13]
   rcases Nat.lt_or_ge i rs.length with z|z
   ·simp[List.getElem?_range z,z]
   ·simp[List.getElem?_eq_none,z]
  have:=List.Perm.map (fun i=>rs.getD i (0,[])) P
  rw[e] at this
  exact this
 ·rw[List.pairwise_map,List.pairwise_iff_getElem]
  intro i j hi hj hij
  have hs:=P.size
  have hj':j<rs.length:=by simpa [hs] using hj
  have:=S i j hij hj'
  have ei:q.getD i 0=q.toList[i]:=by
   have:i<q.size:=by omega
   simp[Array.getD,this]
  have ej:q.getD j 0=q.toList[j]:=by
   have:j<q.size:=by omega
   simp[Array.getD,this]
  rw[ei,ej] at this
  simp only[leP,z4e this,Bool.not_false]
theorem z9p (hc:X.calm=true) (hu:X.A.units+64<cLine):z3v X (.builtin "sorted") (fun xs H Q=>∃p vs F rs,xs=[.ref p]/\SqL X.K H p vs/\RepL X.K F H (rs.map prT) vs/\rs.length<64/\rs.Nodup/\∀l ys,H l=none->RepL X.K F H ((z7n rs).map prT) ys->Q (.ref l) (upd H l (.lst ys))):=by
 intro pins s σ H xs us Q I r h
 obtain⟨p,vs,F,rs,rfl,hq,hrep,hz,nd,q⟩:=h
 obtain⟨u,rfl,rx⟩:=z8d r
 cases rx
 obtain⟨its,r',pl,hz'⟩:=I.list hq
 have RA:=zj9 I hrep r'
 have hl:=RA.len
 have O:OrdK its.length (fun i j=>ltP (rs.getD i (0,[])) (rs.getD j (0,[]))):=by
  refine⟨fun i j h=>z4e h,fun i j k h1 h2=>z93 h1 h2,fun i j hi hj hne'=>zal fun e=>hne' ?_⟩
  rw[hl] at hi hj
  have e1:rs.getD i (0,[])=rs[i]:=by simp[hi]
  have e2:rs.getD j (0,[])=rs[j]:=by simp[hj]
  rw[e1,e2] at e
  have pw:=List.pairwise_iff_getElem.mp nd
  rcases Nat.lt_trichotomy i j with z|z|z
  ·exact absurd e (pw i j hi hj z)
  ·exact z
  ·exact absurd e.symm (pw j i hj hi z)
 refine z8j (us:=its) (Out:=fun out=>∃q:Array Nat,Per its.length q/\SP (fun i j=>ltP (rs.getD i (0,[])) (rs.getD j (0,[]))) q its.length/\out=q.toList.map fun i=>its.getD i Value.none) (by rw[hl];exact hz)
  (fun E' R hR=>collect_list pl.isList (hR _ s.toks s.drawn (fun b o e=>(Heap.get?_update_other _ _ (y14 (y0c e))).trans (y03 _ e)) (by rw[Heap.size_update,y15];exact Nat.le_succ _)) (by rw[sizeLine_eq];omega))
  (fun A' h' tk d a P E' hA kp ha hL fin=>?_) fun h' tk d D e out ho kp hD he=>?_
 ·have ne_of:∀{b:Addr} {o:Obj},s.heap.get? b=some o->b≠a:=fun e=>y0y (y0x (y0c e) ha)
  refine z8k (s:={ s with heap:=h',toks:=tk,drawn:=d }) hL (by rw[hl];exact hz) O (tuples' true) (fun _ h2 k2 G hG=>?_) (fun h2 k2 i j C hi hj hC=>?_) fun q q1 q2=>fin _ ⟨q,q1,q2,rfl⟩
  ·have R2:PrsAt h2 its rs:=RA.keep fun b o e=>k2 b o (ne_of e) (kp b o e)
   obtain⟨fs,f1,f2,f3⟩:=R2.tups
   exact kat_kind (T:=.type "int") f1 (by omega) (fun v hv=>by
    obtain⟨i,t,rfl⟩:=f3 v hv
    exact .now) (by decide +kernel) hG
  ·have R2:PrsAt h2 its rs:=RA.keep fun b o e=>k2 b o (ne_of e) (kp b o e)
   obtain⟨a1,o1,x1,n1,t1,v1,as1,e1,g1,d1,i1,j1⟩:=R2.at_ hi
   obtain⟨a2,o2,x2,n2,t2,v2,as2,e2,g2,d2,i2,j2⟩:=R2.at_ hj
   unfold kas_ask
   rw[e1,e2]
   refine kat_lt g1 d1 g2 d2 ?_
   have z1:x1.size=2:=by rw[<- y1u,i1];rfl
   have z2:x2.size=2:=by rw[<- y1u,i2];rfl
   rw[z1,z2,i1,i2]
   exact zf8 (s:={ s with heap:=h2,toks:=tk,drawn:=d }) (by omega) j1 j2 hC
 ·obtain⟨q',q1,q2,rfl⟩:=ho
  have hq':∀i∈q'.toList,i<its.length:=fun i hi=>List.mem_range.mp (q1.mem_iff.mp hi)
  have hv:=z5o r' hq'
  have hR:=z8w hrep (l:=q'.toList) fun i hi=>by rw[<- hl];exact hq' i hi
  rw[zcu (by rw[<- hl];exact q1) (by rw[<- hl];exact q2)] at hR
  exact⟨.ref D,_,z62 I (o:=.lst (q'.toList.map fun i=>vs.getD i .non)) kp hD ⟨by rw[hv.length,y12,y1u,q1.size,sizeLine_eq];omega,_,e,hv,he⟩,rfl,q _ _ (I.hok.fresh hD) hR⟩
theorem zbj:∀{ts:List T} {rs:List (Int×List Int)},zah ts=some rs->ts=rs.map prT
 | [],rs,e=>by
  cases e
  rfl
 | t::ts,rs,e=>by
  unfold zah at e
  split at e
  ·rename_i h
   cases h
  ·rename_i h
   cases h
   simp only[y01,y07] at e
   obtain⟨r,e1,rs',e2,rfl⟩:=e
   rw[z4g e1,zbj e2]
   rfl
  ·cases e
variable {e:Expr} {es:List Expr} {fs:List Fe} {p pos:Pos}
theorem ze9 (hc:X.calm=true) (hu:X.A.units+64<cLine) (hm:X.mg "sorted"=none) (ha:PAr X (e::es) fs) (hg:Gl X "sorted":=by rfl) (he:y0a (e::es) X.env=(false,eval e X.env)::y0a es X.env:=by rfl) (hpl:(backTo pos (y0a es X.env)).any (·.1)=false:=by rfl) :
  PEv X (.Call (.Name "sorted" p) (e::es) [] pos) (opN z1n fs):=z0s (z2x (z9p hc hu) hg hm (by decide +kernel) ha (he:=he) (hpl:=hpl)) (z42 (by
 intro O F H ts t vs Q d q e k
 unfold z1n at e
 split at e
 ·split at e
  next hz =>
   simp only[y01] at e
   obtain⟨rs,e1,e2⟩:=e
   split at e2
   next hc2 =>
    cases e2
    have hxs:=zbj e1
    subst hxs
    cases q with
    | cons q1 q2 =>
     cases q2
     obtain⟨l0,ws,rfl,hl,hr⟩:=q1.lst
     refine⟨l0,ws,F,rs,rfl,.inl hl,hr,by simpa using hz,hc2,fun l ys hl1 hy=>?_⟩
     have x1:=Ext.laidF (o:=.lst ys) d hl1
     refine k _ _ _ x1 ?_
     simp only[Rep]
     exact⟨l,ys,rfl,.inr rfl,.inl z05,hy.ext x1⟩
   next=>cases e2
  next=>cases e
 ·cases e))
end
end
section
variable [Tbl]
structure PEw (X:Cx) (e:Expr) (f:Fe):Prop where
 h:PEv X e f
structure PAw (X:Cx) (es:List Expr) (fs:List Fe):Prop where
 h:PAv X es fs
structure PSw (X:Cx) (st:Stmt) (g:Fs):Prop where
 h:PSt X st g
section
variable {X:Cx} {e b:Expr} {es:List Expr} {f g:Fe} {fs:List Fe} {pos:Pos}
theorem zcm:PAw X [] []:=⟨z06⟩
theorem w_cS {i:Str} {j:Nat} (h:PAw X es fs):PAw X (.Constant (.str i) j pos::es) (cst (.str i)::fs):=⟨z01 z8s h.h⟩
theorem w_cT {es0:List Expr} {x1} (ha:PEw X (.Tuple es0 x1 pos) f) (h:PAw X es fs):PAw X (.Tuple es0 x1 pos::es) (f::fs):=⟨z01 ha.h h.h⟩
theorem zcl {x1} (h:PAw X es fs):PEw X (.Tuple es x1 pos) (z03 fs):=⟨z1r h.h⟩
theorem zjz (i:Nat) {x:Str} {pos' pos2:Pos} {x1} (hN:X.N.Nodup) (he:PEw X (.Tuple es x1 pos2) f) (hb:PEr X b g) (hp:zb1 b:=by intro _ _;rfl) (hi:X.N[i]?=some x:=by rfl) (hx:Loc X.env.scope x:=by first|exact Or.inl rfl|exact Or.inr rfl)
  (hf:X.fn x=true\/X.env.scope.names.lookup x=some .local:=by first|exact .inl rfl|exact .inr rfl) {pos3:Pos} :
  PSw X (.Assign [.Name x pos'] (.Subscript (.Tuple es x1 pos2) b pos) pos3) (asg i (op2 oIx f g)):=⟨z2v i hN (q_ix (v2r he.h) hb hp) hi hx rfl hf⟩
theorem zow (n:Nat) {body:List Stmt} {st:Stmt} {g G:Fs} (e:body.set n st=body) (h:∀s,PSw X s g->PBt X (body.set n s) G) (w:PSw X st g):PBt X body G:=by
 have:=h st w
 rw[e] at this
 exact this
end
end
end D
end
section
namespace Ho
open D
noncomputable def z5e:Fs :=
  (seq (iff (tstB (op2 oEq (op2 oIx (nm 0) (cst (.int 0))) (nm 1))) (rtn (op2 oIx (nm 0) (cst (.int 1)))) skip)
  (seq (iff (tstB (op2 oEq (op2 oIx (nm 0) (cst (.int 1))) (nm 1))) (rtn (op2 oIx (nm 0) (cst (.int 0)))) skip)
  (rtn (cst .none))))
def z0u:List T->Option T:=runF z5e 2
noncomputable def z89:Fs :=
  (seq (asg 2 (comp 1 [1] (z0a (op2 oIx (nm 0) (cst (.int 1)))) (gNm 0) (orT (tstB (op1 oIsN (op2 oIx (nm 0) (cst (.int 2))))) (tstB (op2 (oIn false) (op2 oIx (nm 0) (cst (.int 2))) (nm 1)))) (nmV 0)))
  (seq (dNew 3 (cst (.int 0)) (cst (.bool true)))
  (seq (asgN 4 (z0i [(cst (.int 0))]))
  (seq (whl (tstL (nm 4)) (seq (pop 5 4)
  (for_ (z0a (nmV 2)) (gNm 6)
  (seq (asg 7 (opN z0u [(nmV 6),(nmV 5)]))
  (iff (andT (tstB (op1 z0p (nm 7))) (tstB (dIn true (nm 7) 3))) (seq (dPut 3 (nm 7) (cst (.bool true)))
  (app 4 (nmV 7))) skip)))) 1000)
  (rtn (opN z2n [(z6b 3)]))))))
def z2d:List T->Option T:=runF z89 8
noncomputable def z4j (rec:List T->Option T):Fs :=
  (seq (iff (tstB (op2 oEq (op2 oIx (nm 2) (op1 oNeg (cst (.int 1)))) (nm 1))) (rtn (z0i [(z03 [])])) skip)
  (seq (asgN 3 (z0i []))
  (seq (for_ (z1p (z4q (op2 oIx (nm 0) (cst (.int 1))))) (gTu [(gNm 4),(gNm 5)])
  (seq (asg 6 (opN z0u [(nmV 5),(op2 oIx (nm 2) (op1 oNeg (cst (.int 1))))]))
  (iff (andT (tstB (op1 z0p (nm 6))) (tstB (op2 (oIn true) (nm 6) (nm 2)))) (ext 3 (comp 1 [4] (z0a (opN rec [(nmV 0),(nmV 1),(op2 oAdd (nm 2) (z03 [(nmV 6)]))])) (gNm 0) (cstT true) (op2 oAdd (z03 [(nmV 1)]) (nm 0)))) skip)))
  (rtn (nm 3)))))
def z15:Nat->List T->Option T
 | 0=>fun _=>none
 | n+1=>runF (z4j (z15 n)) 7
def zgp:Fs :=
  (rtn (opN z2n [(opN (z15 20) [(nmV 0),(nmV 1),(z03 [(cst (.int 0))])])]))
def z0r:List T->Option T:=runF zgp 2
def z49:Fs :=
  (seq (iff (tstB (op2 oLt (nm 1) (opN oLen [(nm 0)]))) (rtn (op2 oIx (nm 0) (nm 1))) skip)
  (rtn (cst (.int 0))))
def z19:List T->Option T:=runF z49 2
noncomputable def z6i:Fs :=
  (seq (asg 2 (op2 oMod (op2 oMul (op2 oAdd (op2 oAdd (opN z19 [(nmV 0),(nmV 1)]) (op2 oMul (cst (.int 7919)) (nm 1))) (cst (.int 1))) (cst (.int 48271))) (cst (.int 2147483647))))
  (rtn (op2 oMod (op2 oAdd (op2 oAdd (op2 oMul (nm 2) (nm 2)) (op2 oMul (cst (.int 7)) (nm 2))) (nm 1)) (cst (.int 2147483629)))))
def z1q:List T->Option T:=runF z6i 3
noncomputable def z6k:Fs :=
  (seq (asg 2 (op2 oMod (op2 oMul (op2 oAdd (op2 oAdd (nm 0) (op2 oMul (cst (.int 104729)) (nm 1))) (cst (.int 17))) (cst (.int 69621))) (cst (.int 2147483647))))
  (rtn (op2 oMod (op2 oAdd (op2 oAdd (op2 oMul (nm 2) (nm 2)) (op2 oMul (cst (.int 3)) (nm 2))) (nm 1)) (cst (.int 2147483629)))))
def z25:List T->Option T:=runF z6k 3
noncomputable def z6j:Fs :=
  (seq (asg 1 (op2 oAdd (cst (.int 1)) (op2 oMod (nm 0) (cst (.int 7)))))
  (seq (asg 2 (z03 []))
  (seq (for_ (z36 (op2 oMod (op2 oDiv (nm 0) (cst (.int 8))) (cst (.int 11)))) (gNm 3)
  (seq (asg 4 (op2 oDiv (opN z25 [(nmV 0),(op2 oAdd (cst (.int 50)) (nm 3))]) (cst (.int 4))))
  (seq (asg 5 (op2 oMod (nm 4) (op2 oAdd (nm 1) (cst (.int 1)))))
  (seq (asg 6 (op2 oMod (op2 oAdd (op2 oAdd (nm 5) (cst (.int 1))) (op2 oMod (op2 oDiv (nm 4) (cst (.int 8))) (nm 1))) (op2 oAdd (nm 1) (cst (.int 1)))))
  (seq (asg 7 (op2 oIx (z03 [(cst .none),(cst .none),(cst (.str "a")),(cst (.str "b")),(cst (.str "back")),(cst (.str "hall")),(cst (.str "win"))]) (op2 oMod (op2 oDiv (nm 4) (cst (.int 64))) (cst (.int 7)))))
  (asg 2 (op2 oAdd (nm 2) (z03 [(z03 [(opN oMin [(nm 5),(nm 6)]),(opN oMax [(nm 5),(nm 6)]),(nmV 7)])]))))))))
  (rtn (z03 [(nmV 1),(nmV 2)])))))
def z3j:List T->Option T:=runF z6j 8
end Ho
end
section
namespace Wo
open D Ho
noncomputable def z3k (rec:List T->Option T):Fs :=
  (seq (iff (notT (tstL (nm 0))) (rtn (z03 [])) skip)
  (seq (iff (tstB (op2 oEq (nm 2) (cst (.int 0)))) (rtn (cst .none)) skip)
  (seq (for_ (z1p (z4q (nmV 1))) (gTu [(gNm 3),(gNm 4)])
  (seq (asg 5 (comp 1 [4] (z0a (nmV 0)) (gNm 0) (tstB (op2 (oIn true) (nm 1) (nm 0))) (nmV 0)))
  (iff (tstB (op2 oLt (opN oLen [(nm 5)]) (opN oLen [(nm 0)]))) (seq (asg 6 (opN rec [(nmV 5),(z2l (nm 1) (opt (op2 oAdd (nm 3) (cst (.int 1)))) optN),(op2 oSub (nm 2) (cst (.int 1)))]))
  (iff (tstB (op1 z0p (nm 6))) (rtn (op2 oAdd (z03 [(nmV 4)]) (nm 6))) skip)) skip)))
  (rtn (cst .none)))))
def z1s:Nat->List T->Option T
 | 0=>fun _=>none
 | n+1=>runF (z3k (z1s n)) 7
noncomputable def z5d:Fs :=
  (seq (asg 2 (opN z0r [(nmV 0),(nmV 1)]))
  (seq (asg 3 (opN z5r [(opN oLen [(op2 oIx (nm 0) (cst (.int 1)))])]))
  (seq (for_ (z36 (op2 oAdd (opN oLen [(nm 3)]) (cst (.int 1)))) (gNm 4)
  (seq (asg 5 (opN (z1s 20) [(nmV 2),(nmV 3),(nmV 4)]))
  (iff (tstB (op1 z0p (nm 5))) (rtn (nm 5)) skip)))
  (rtn (z03 [])))))
def z32:List T->Option T:=runF z5d 6
def z4a:Fs :=
  (rtn (notV (opN oAny [(comp 1 [1] (z0a (nmV 0)) (gNm 0) (cstT true) (op2 (oIn false) (nm 0) (nm 1)))])))
def z0z:List T->Option T:=runF z4a 2
noncomputable def z14 (rec:List T->Option T):Fs :=
  (seq (iff (tstB (op2 oEq (nm 1) (cst (.int 0)))) (rtn (z03 [])) skip)
  (seq (for_ (z1p (z0a (nmV 0))) (gTu [(gNm 2),(gNm 3)])
  (seq (asg 4 (comp 1 [3] (z0a (z2l (nm 0) (opt (op2 oAdd (nm 2) (cst (.int 1)))) optN)) (gNm 0) (tstB (opN z0z [(nmV 1),(nmV 0)])) (nmV 0)))
  (seq (asg 5 (opN rec [(nmV 4),(op2 oSub (nm 1) (cst (.int 1)))]))
  (iff (tstB (op1 z0p (nm 5))) (rtn (op2 oAdd (z03 [(nmV 3)]) (nm 5))) skip))))
  (rtn (cst .none))))
def z0h:Nat->List T->Option T
 | 0=>fun _=>none
 | n+1=>runF (z14 (z0h n)) 6
def zay:Fs :=
  (rtn (opN (z0h 20) [(opN z0r [(nmV 0),(nmV 1)]),(opN oLen [(opN z32 [(nmV 0),(nmV 1)])])]))
def zaw:List T->Option T:=runF zay 2
end Wo
end
section
namespace Qo
open D Ho Wo
def z1y:Fs :=
  (seq (asg 2 (opN z0r [(nmV 0),(nmV 1)]))
  (seq (iff (notT (tstL (nm 2))) zmx skip)
  (rtn (nm 2))))
def z0t:List T->Option T:=runF z1y 3
def z2h:Fz :=
  (seqZ (asg 2 (opN z0r [(nmV 0),(nmV 1)])) (iffZ (notT (tstL (nm 2))) (okZ (op1 (zcw "no way leads to room ") (nm 1))) noZ))
def z1d:List Sl->Bool:=runZ z2h 3
def z3p:Fs :=
  (rtn (zi4 (opN z0t [(nmV 0),(nmV 1)]) (z03 [(opN oLen [(nm 0)]),(nmV 0)])))
def z1j:List T->Option T:=runF z3p 2
def z40:Fz :=
  (z85 z1d [.v (nmV 0),.v (nmV 1)])
def z1i:List Sl->Bool:=runZ z40 2
end Qo
end
section
namespace K20
open D Ho Wo Qo
noncomputable def z5c:Fs :=
  (seq (asgN 2 (z0i []))
  (seq (asgN 3 (z0i [(z03 [(z03 [(cst (.int 0))]),(z03 [])])]))
  (seq (whl (tstB (op2 oNe (nm 3) (z0i []))) (seq (zdb (gTu [(gNm 4),(gNm 5)]) (popX 3))
  (iff (tstB (op2 oEq (op2 oIx (nm 4) (op1 oNeg (cst (.int 1)))) (nm 1))) (app 2 (nmV 5)) (for_ (z1p (z4q (op2 oIx (nm 0) (cst (.int 1))))) (gTu [(gNm 6),(gTu [(gNm 7),(gNm 8),(gNm 9)])])
  (for_ (z0a (z03 [(z03 [(nmV 7),(nmV 8)]),(z03 [(nmV 8),(nmV 7)])])) (gTu [(gNm 10),(gNm 11)])
  (iff (andT (tstB (op2 oEq (nm 10) (op2 oIx (nm 4) (op1 oNeg (cst (.int 1)))))) (tstB (op2 (oIn true) (nm 11) (nm 4)))) (app 3 (z03 [(op2 oAdd (nm 4) (z03 [(nmV 11)])),(op2 oAdd (nm 5) (z03 [(nmV 6)]))])) skip))))) 1000)
  (rtn (opN z3n [(nm 2)])))))
def z2e:List T->Option T:=runF z5c 12
noncomputable def zlh:Fs :=
  (seq (asg 1 (opN z3j [(opN z1q [(nmV 0),(cst (.int 0))])]))
  (seq (asg 2 (opN z1q [(nmV 0),(cst (.int 1))]))
  (seq (asg 3 (op2 oAdd (cst (.int 1)) (op2 oMod (nm 2) (op2 oIx (nm 1) (cst (.int 0))))))
  (seq (asg 4 (op2 oIx (z03 [(z03 [(cst (.str "a")),(cst (.str "b"))]),(z03 []),(z03 [(cst (.str "hall"))]),(z03 [(cst (.str "a")),(cst (.str "back")),(cst (.str "win"))]),(z03 [(cst (.str "b")),(cst (.str "zz"))])]) (op2 oMod (op2 oDiv (nm 2) (cst (.int 8))) (cst (.int 5)))))
  (seq (asg 5 (opN z2e [(nmV 1),(nmV 3)]))
  (seq (iff (tstB (op2 oNe (opN z0r [(nmV 1),(nmV 3)]) (opN z2n [(nm 5)]))) (rtn (cst (.bool false))) skip)
  (seq (asg 6 (op2 oIx (z0i [(z03 [(cst (.str "told")),(op2 oIx (op2 oIx (opN z1n [(op2 oAdd (comp 1 [] (z0a (nmV 5)) (gNm 0) (cstT true) (z03 [(opN oLen [(nm 0)]),(nmV 0)])) (z0i [(z03 [(cst (.int 99)),(z03 [])])]))]) (cst (.int 0))) (cst (.int 1)))]),(z03 [(cst (.str "refused")),(cst (.int 1))])]) (opN oInt [(op2 oEq (nm 5) (z0i []))])))
  (seq (iffX (tstX (op2X oNe (zcr (z7p (opN z1j [(nmV 1),(nmV 3)])) (z85 z1i [.v (nmV 1),.v (nmV 3)]) 1) (z7p (nmV 6)))) (rtn (cst (.bool false))) skip)
  (seq (asgN 7 (z0i [(cst (.int 0))]))
  (seq (for_ (z74 (cst (.int 1)) (op2 oAdd (op2 oIx (nm 1) (cst (.int 0))) (cst (.int 1)))) (gNm 8)
  (seq (asgN 9 (z0i []))
  (seq (for_ (z0a (opN z2e [(nmV 1),(nmV 8)])) (gNm 10)
  (app 9 (op2 oEq (comp 1 [4,1] (z0a (nmV 10)) (gNm 0) (andT (tstB (op1 z0p (op2 oIx (op2 oIx (op2 oIx (nm 2) (cst (.int 1))) (nm 0)) (cst (.int 2))))) (tstB (op2 (oIn true) (op2 oIx (op2 oIx (op2 oIx (nm 2) (cst (.int 1))) (nm 0)) (cst (.int 2))) (nm 1)))) (nmV 0)) (z0i []))))
  (iff (tstB (op2 (oIn false) (cst (.bool true)) (nm 9))) (app 7 (nmV 8)) skip))))
  (rtn (op2 oEq (opN z2d [(nmV 1),(nmV 4)]) (opN z2n [(nm 7)])))))))))))))
def zd5:List T->Option T:=runF zlh 11
end K20
end
section
namespace K20
open PySem PySem.Spec PyProof.Rows L2 D Ho Wo Qo
variable [Tbl]
def top (i:Nat):Stmt:=PySem.Challenge.pw_doorwatch_k20_ways_of_houses.main.body.getD i (.Pass ⟨0,0,0,0⟩)
section
variable {P:y0q} {w:World} {K:y00} {mg:Str->Option Value} {base:Heap}
abbrev z23:Stmt:=top 18
theorem z6t:FnScope ["_law_number","_law_k","_law_drawn_here"] ["_law_number","_law_k"] (z00 z23):=⟨rfl,rfl,rfl,by decide +kernel,rfl,by decide +kernel,by decide +kernel⟩
theorem zda {K:y00} {f:Addr} {fd:y0b} (F:Fun K "_law_drawn" "_law_drawn" z23 f fd):z1k K fd ["_law_number","_law_k"] []:=F.binds (ps:=["_law_number","_law_k"]) fun _ _ _ _ _ _ us hl=>match us,hl with|[_,_],_=>rfl
theorem z6f {k:Nat} {f:Addr} {fd:y0b} (F:Fun K "_law_drawn" "_law_drawn" z23 f fd) (m:mg "_law_drawn"=some (.ref f)) :Cl P w K mg base "_law_drawn" (k+1) 2 z25 :=
 z6n F z6t (zda F) m fun cdv A outer s H E hr =>
  (z0b (z2v 2 z6t.nd (z55 (v2r (z8t (v2r (z28 (v2r (z28 (q_nm 0) (v2r (z8t (v2r z0e) (q_nm 1))))) (v2r z0e))) (v2r z0e))) (v2r z0e)))
  (z13 (z3q (z55 (v2r (z28 (v2r (z28 (v2r (z8t (q_nm 2) (q_nm 2))) (v2r (z8t (v2r z0e) (q_nm 2))))) (q_nm 1))) (v2r z0e)))))
abbrev z22:Stmt:=top 20
theorem z10:FnScope ["_law_number","_law_rooms","_law_openings","_law_k","_law_drawn_here","_law_one","_law_other","_law_zone"] ["_law_number"] (z00 z22):=⟨rfl,rfl,rfl,by decide +kernel,rfl,by decide +kernel,by decide +kernel⟩
theorem zd9 {K:y00} {f:Addr} {fd:y0b} (F:Fun K "_law_house" "_law_house" z22 f fd):z1k K fd ["_law_number"] []:=F.binds (ps:=["_law_number"]) fun _ _ _ _ _ _ us hl=>match us,hl with|[_],_=>rfl
theorem z6e {k:Nat} {f:Addr} {fd:y0b} (F:Fun K "_law_house" "_law_house" z22 f fd) (m:mg "_law_house"=some (.ref f)) (z_range:mg "range"=none) (z6f:Cl P w K mg base "_law_drawn" k 2 z25) (z_min:mg "min"=none) (z_max:mg "max"=none):Cl P w K mg base "_law_house" (k+1) 1 z3j :=
 z6n F z10 (zd9 F) m fun cdv A outer s H E hr =>
  (z0b (z2v 1 z10.nd (z28 (v2r z0e) (v2r (z55 (q_nm 0) (v2r z0e)))))
  (z0b (z2v 2 z10.nd (z1r z06))
  (z0b (zab y21 (zna z_range (v2r (z55 (v2r (zea (q_nm 0) (v2r z0e))) (v2r z0e)))) (g_nm 3 z10.nd)
  (z0b (z2v 4 z10.nd (zea (v2r (z0x z6f hr (z01 (z0g 0) (z01 (z28 (v2r z0e) (q_nm 3)) z06)))) (v2r z0e)))
  (z0b (z2v 5 z10.nd (z55 (q_nm 4) (v2r (z28 (q_nm 1) (v2r z0e)))))
  (z0b (z2v 6 z10.nd (z55 (v2r (z28 (v2r (z28 (q_nm 5) (v2r z0e))) (v2r (z55 (v2r (zea (q_nm 4) (v2r z0e))) (q_nm 1))))) (v2r (z28 (q_nm 1) (v2r z0e)))))
  (z0b (z2v 7 z10.nd (q_ix (v2r (z1r (z01 zka (z01 zka (z01 z8s (z01 z8s (z01 z8s (z01 z8s (z01 z8s z06))))))))) (v2r (z55 (v2r (zea (q_nm 4) (v2r z0e))) (v2r z0e)))))
  (z13 (z2v 2 z10.nd (z28 (q_nm 2) (v2r (z1r (z01 (z1r (z01 (zoi z_min (z1f (q_nm 5) (z1f (q_nm 6) z37))) (z01 (zoj z_max (z1f (q_nm 5) (z1f (q_nm 6) z37))) (z01 (z0g 7) z06)))) z06)))))))))))
  (z13 (z3q (z1r (z01 (z0g 1) (z01 (z0g 2) z06))))))))
abbrev z18:Stmt:=top 16
theorem z8m:FnScope ["_law_script","_law_k"] ["_law_script","_law_k"] (z00 z18):=⟨rfl,rfl,rfl,by decide +kernel,rfl,by decide +kernel,by decide +kernel⟩
theorem z9y {K:y00} {f:Addr} {fd:y0b} (F:Fun K "_law_cell_at" "_law_cell_at" z18 f fd):z1k K fd ["_law_script","_law_k"] []:=F.binds (ps:=["_law_script","_law_k"]) fun _ _ _ _ _ _ us hl=>match us,hl with|[_,_],_=>rfl
theorem z48 {k:Nat} {f:Addr} {fd:y0b} (F:Fun K "_law_cell_at" "_law_cell_at" z18 f fd) (m:mg "_law_cell_at"=some (.ref f)) (z_len:mg "len"=none):Cl P w K mg base "_law_cell_at" (k+1) 2 z19 :=
 z6n F z8m (z9y F) m fun cdv A outer s H E hr =>
  (z0b (s_if (z4m (zoo.or zer) zms (q_nm 1) (v2r (zkb (by exact z_len) (z1f (q_nm 0) z37)))) (z13 (z3q (q_ix (q_nm 0) (q_nm 1)))) z6h)
  (z13 (z3q z0e)))
abbrev z21:Stmt:=top 17
theorem z6s:FnScope ["_law_script","_law_k","_law_drawn_here"] ["_law_script","_law_k"] (z00 z21):=⟨rfl,rfl,rfl,by decide +kernel,rfl,by decide +kernel,by decide +kernel⟩
theorem zd8 {K:y00} {f:Addr} {fd:y0b} (F:Fun K "_law_mixed" "_law_mixed" z21 f fd):z1k K fd ["_law_script","_law_k"] []:=F.binds (ps:=["_law_script","_law_k"]) fun _ _ _ _ _ _ us hl=>match us,hl with|[_,_],_=>rfl
theorem z4h {k:Nat} {f:Addr} {fd:y0b} (F:Fun K "_law_mixed" "_law_mixed" z21 f fd) (m:mg "_law_mixed"=some (.ref f)) (z48:Cl P w K mg base "_law_cell_at" k 2 z19):Cl P w K mg base "_law_mixed" (k+1) 2 z1q :=
 z6n F z6s (zd8 F) m fun cdv A outer s H E hr =>
  (z0b (z2v 2 z6s.nd (z55 (v2r (z8t (v2r (z28 (v2r (z28 (v2r (z0x z48 hr (z01 (z0g 0) (z01 (z0g 1) z06)))) (v2r (z8t (v2r z0e) (q_nm 1))))) (v2r z0e))) (v2r z0e))) (v2r z0e)))
  (z13 (z3q (z55 (v2r (z28 (v2r (z28 (v2r (z8t (q_nm 2) (q_nm 2))) (v2r (z8t (v2r z0e) (q_nm 2))))) (q_nm 1))) (v2r z0e)))))
abbrev z2t:Stmt:=top 21
theorem z0w:FnScope ["_law_house_here","_law_room","_law_found","_law_todo","_law_rooms","_law_way","_law_number","_law_one","_law_other","_law_zone","_law_here","_law_there"] ["_law_house_here","_law_room"] (z00 z2t):=⟨rfl,rfl,rfl,by decide +kernel,rfl,by decide +kernel,by decide +kernel⟩
theorem zgm {K:y00} {f:Addr} {fd:y0b} (F:Fun K "_law_ways" "_law_ways" z2t f fd):z1k K fd ["_law_house_here","_law_room"] []:=F.binds (ps:=["_law_house_here","_law_room"]) fun _ _ _ _ _ _ us hl=>match us,hl with|[_,_],_=>rfl
theorem z5b {k:Nat} {f:Addr} {fd:y0b} (F:Fun K "_law_ways" "_law_ways" z2t f fd) (m:mg "_law_ways"=some (.ref f)) (z_sorted:mg "sorted"=none) (z_enumerate:mg "enumerate"=none):Cl P w K mg base "_law_ways" (k+1) 2 z2e :=
 z6n F z0w (zgm F) m fun cdv A outer s H E hr =>
  (z0b (z6u 2 z0w.nd (zae z06))
  (z0b (z6u 3 z0w.nd (zae (z01 (z1r (z01 (z1r (z01 z0e z06)) (z01 (z1r z06) z06))) z06)))
  (z0b (zdx 1000 y21 (z4m (zeq (by exact hr.units)) zes (q_nm 3) (v2r (z70 z06))) (z0b (zk5 (znz 3) (zfv (z3h (g_nm 4 z0w.nd) (z3h (g_nm 5 z0w.nd) zfw))))
  (z13 (s_if (z4m (z4y (by exact hr.units)) z4z (v2r (q_ix (q_nm 4) (v2r (zhb (v2r z0e))))) (q_nm 1)) (z13 (zdz 2 (z0g 5))) (z13 (zab y21 (zjk z_enumerate (q_ix (q_nm 0) (v2r z0e))) (zfv (z3h (g_nm 6 z0w.nd) (z3h (zfv (z3h (g_nm 7 z0w.nd) (z3h (g_nm 8 z0w.nd) (z3h (g_nm 9 z0w.nd) zfw)))) zfw)))
  (z13 (zab y21 (zaq (z1r (z01 (z1r (z01 (z0g 7) (z01 (z0g 8) z06))) (z01 (z1r (z01 (z0g 8) (z01 (z0g 7) z06))) z06)))) (zfv (z3h (g_nm 10 z0w.nd) (z3h (g_nm 11 z0w.nd) zfw)))
  (z13 (s_if (w_t (zgx (z4m (z4y (by exact hr.units)) z4z (q_nm 10) (v2r (q_ix (q_nm 4) (v2r (zhb (v2r z0e)))))) (zb4 (z4m (z5q (by exact hr.units)) z91 (q_nm 11) (q_nm 4))))) (z13 (zdz 3 (z1r (z01 (z28 (q_nm 4) (v2r (z1r (z01 (z0g 11) z06)))) (z01 (z28 (q_nm 5) (v2r (z1r (z01 (z0g 6) z06)))) z06))))) z6h))))))))))
  (z13 (z3q (ze8 rfl z_sorted (z1f (q_nm 2) z37)))))))
abbrev z2u:Stmt:=top 2
theorem zdw:FnScope ["opening","here"] ["opening","here"] (z00 z2u):=⟨rfl,rfl,rfl,by decide +kernel,rfl,by decide +kernel,by decide +kernel⟩
theorem zgo {K:y00} {f:Addr} {fd:y0b} (F:Fun K "beyond" "beyond" z2u f fd):z1k K fd ["opening","here"] []:=F.binds (ps:=["opening","here"]) fun _ _ _ _ _ _ us hl=>match us,hl with|[_,_],_=>rfl
theorem z2g {k:Nat} {f:Addr} {fd:y0b} (F:Fun K "beyond" "beyond" z2u f fd) (m:mg "beyond"=some (.ref f)) :Cl P w K mg base "beyond" (k+1) 2 z0u :=
 z6n F zdw (zgo F) m fun cdv A outer s H E hr =>
  (z0b (s_if (z4m (z4y (by exact hr.units)) z4z (v2r (q_ix (q_nm 0) (v2r z0e))) (q_nm 1)) (z13 (z3q (q_ix (q_nm 0) (v2r z0e)))) z6h)
  (z0b (s_if (z4m (z4y (by exact hr.units)) z4z (v2r (q_ix (q_nm 0) (v2r z0e))) (q_nm 1)) (z13 (z3q (q_ix (q_nm 0) (v2r z0e)))) z6h)
  (z13 (z3q zka))))
abbrev z1c:Stmt:=top 4
theorem z2m:FnScope ["house","room","places","found","number","opening","there"] ["house","room","places"] (z00 z1c):=⟨rfl,rfl,rfl,by decide +kernel,rfl,by decide +kernel,by decide +kernel⟩
theorem z7b {K:y00} {f:Addr} {fd:y0b} (F:Fun K "ways_on" "ways_on" z1c f fd):z1k K fd ["house","room","places"] []:=F.binds (ps:=["house","room","places"]) fun _ _ _ _ _ _ us hl=>match us,hl with|[_,_,_],_=>rfl
theorem zd7 {d:List T->Option T} {k:Nat} {f:Addr} {fd:y0b} (F:Fun K "ways_on" "ways_on" z1c f fd) (m:mg "ways_on"=some (.ref f)) (z2p:Cl P w K mg base "ways_on" k 3 d) (z_enumerate:mg "enumerate"=none) (z2g:Cl P w K mg base "beyond" k 2 z0u):Cl P w K mg base "ways_on" (k+1) 3 (runF (z4j d) 7) :=
 z6n F z2m (z7b F) m fun cdv A outer s H E hr =>
  (z0b (s_if (z4m (z4y (by exact hr.units)) z4z (v2r (q_ix (q_nm 2) (v2r (zhb (v2r z0e))))) (q_nm 1)) (z13 (z3q (z70 (z01 (z1r z06) z06)))) z6h)
  (z0b (z6u 3 z2m.nd (zae z06))
  (z0b (zab y21 (zjk z_enumerate (q_ix (q_nm 0) (v2r z0e))) (zfv (z3h (g_nm 4 z2m.nd) (z3h (g_nm 5 z2m.nd) zfw)))
  (z0b (z2v 6 z2m.nd (z0x z2g hr (z01 (z0g 5) (z01 (q_ix (q_nm 2) (v2r (zhb (v2r z0e)))) z06))))
  (z13 (s_if (w_t (zgx (zdk (q_nm 6)) (zb4 (z4m (z5q (by exact hr.units)) z91 (q_nm 6) (q_nm 2))))) (z13 (zob 3 (v2r (zaf (own:=["rest"]) (caps:=[(4,"number")]) (zce (sc:=z00 z1c) ["house","room","places","found","number","opening","there"] rfl rfl rfl (by decide +kernel)) (zaq (z0x z2p hr (z01 (z0g 0) (z01 (z0g 1) (z01 (z28 (q_nm 2) (v2r (z1r (z01 (z0g 6) z06)))) z06))))) (fun _ _ _ _ _ _=>(g_nm 0 (show List.Nodup (["rest","number"]:List Str) by decide +kernel))) (fun _ _ _ _ _ _=>zj4) (fun _ _ _ _ _ _=>(z28 (v2r (z1r (z01 (z0g 1) z06))) (q_nm 0))))))) z6h))))
  (z13 (zj5 3)))))
theorem z2p {k:Nat} {f:Addr} {fd:y0b} (F:Fun K "ways_on" "ways_on" z1c f fd) (m:mg "ways_on"=some (.ref f)) (z_enumerate:mg "enumerate"=none) (z2g:Cl P w K mg base "beyond" k 2 z0u):∀n,Cl P w K mg base "ways_on" (k+n) 3 (z15 n)
 | 0=>.mk' zfz m F.kp (z7b F)
 | n+1=>zd7 F m (z2p F m z_enumerate z2g  n) z_enumerate (z2g.mono (Nat.le_add_right _ _))
abbrev z5k:Stmt:=top 5
theorem zk3:FnScope ["house","room"] ["house","room"] (z00 z5k):=⟨rfl,rfl,rfl,by decide +kernel,rfl,by decide +kernel,by decide +kernel⟩
theorem zlg {K:y00} {f:Addr} {fd:y0b} (F:Fun K "ways" "ways" z5k f fd):z1k K fd ["house","room"] []:=F.binds (ps:=["house","room"]) fun _ _ _ _ _ _ us hl=>match us,hl with|[_,_],_=>rfl
theorem z6d {k:Nat} {f:Addr} {fd:y0b} (F:Fun K "ways" "ways" z5k f fd) (m:mg "ways"=some (.ref f)) (z_tuple:mg "tuple"=none) (z2p:Cl P w K mg base "ways_on" k 3 (z15 20)) {t_OUTSIDE:Tok} (g_OUTSIDE:mg "OUTSIDE"=some (.int 0 t_OUTSIDE)):Cl P w K mg base "ways" (k+1) 2 z0r :=
 z6n F zk3 (zlg F) m fun cdv A outer s H E hr =>
  (z13 (z3q (z7o z_tuple (z1f (v2r (z0x z2p hr (z01 (z0g 0) (z01 (z0g 1) (z01 (z1r (z01 (q_gI g_OUTSIDE) z06)) z06))))) z37))))
abbrev z11:Stmt:=top 19
theorem z20:FnScope ["_law_deed","_law_found","e","_law_kinds"] ["_law_deed"] (z00 z11):=⟨rfl,rfl,rfl,by decide +kernel,rfl,by decide +kernel,by decide +kernel⟩
theorem zgn {K:y00} {f:Addr} {fd:y0b} (F:Fun K "_law_told" "_law_told" z11 f fd):z1k K fd ["_law_deed"] []:=F.binds (ps:=["_law_deed"]) fun _ _ _ _ _ _ us hl=>match us,hl with|[_],_=>rfl
theorem zft {f:Addr} (cdv:Value) (A:Around) (outer:List Env) (s:y04) (H:Hp):PSs (cxOf CX0 P w K mg base ["_law_deed","_law_found","e","_law_kinds"] "_law_told" (z00 z11) f cdv A outer s H E0).nox (z08 z11) (zk0 (cxOf CX0 P w K mg base ["_law_deed","_law_found","e","_law_kinds"] "_law_told" (z00 z11) f cdv A outer s H E0).nox) :=
 z2w (zmf (z41 (z4c z20.nd rfl (Or.inl rfl) (z8x (z0c z8y (z0c (zkk (pv 0)) z1a)))))) (z41 (z8u (pv 1)))
theorem zfs {f C XD xz xw xd xt:Addr} {j:Nat} (Nm:Names K mg XD xz xw xd xt) (R:Ref1 K XD xz xw xd xt C j) (cdv:Value) (A:Around) (outer:List Env) (s:y04) (H:Hp):PSs (cxOf CX0 P w K mg base ["_law_deed","_law_found","e","_law_kinds"] "_law_told" (z00 z11) f cdv A outer s H E0).nox (z08 z11) (zb7 (cxOf CX0 P w K mg base ["_law_deed","_law_found","e","_law_kinds"] "_law_told" (z00 z11) f cdv A outer s H E0).nox C j) :=
 zlq Nm R (fun pn E=>z41 (z4c z20.nd rfl (Or.inl rfl) (z8x (z0c z8y (z0c (zhl (pv 0)) z1a)))))
  (fun ea=>z2w (z4c z20.nd rfl (Or.inl rfl) (zja (z0c (z8z R.ok Nm.isi (pv 2) (z5p (by rfl) Nm.nz (by rfl))) (z0c (z8z R.ok Nm.isi (pv 2) (z5p (by rfl) Nm.nw (by rfl))) (z0c (z8z R.ok Nm.isi (pv 2) (z5p (by rfl) Nm.nd (by rfl))) (z0c (z8z R.ok Nm.isi (pv 2) (z5p (by rfl) Nm.nt (by rfl))) z1a))))))
   (z2w (z4c z20.nd rfl (Or.inl rfl) (z8x (z0c z8y (z0c (zmm zj1 zem) z1a))))
   (z41 (zhh (zj8 (zmd (z8z R.ok Nm.isi (pv 2) (zkm (by rfl) Nm.val PyProof.Rows.Boot.«ValueError» (by rfl)))) (zed (zag zop (zhm PySem.F.plainAttrs_list PySem.F.slot_list_count PySem.F.type_list_count zi0 (pv 3) (z0c zkn z1a)) zem (zbo _)))).pt (z41 (z4c z20.nd rfl (Or.inl rfl) (z8x (z0c z8y (z0c (zhm PySem.F.plainAttrs_list PySem.F.slot_list_index PySem.F.type_list_index zf4 (pv 3) (z0c zkn z1a)) z1a))))) zeg)))) (pv 1) z20.nd
abbrev z29:Stmt:=top 3
theorem z1z:FnScope ["house","names","unwatched","reached","waiting","here","opening","there"] ["house","names"] (z00 z29):=⟨rfl,rfl,rfl,by decide +kernel,rfl,by decide +kernel,by decide +kernel⟩
theorem zgl {K:y00} {f:Addr} {fd:y0b} (F:Fun K "unseen" "unseen" z29 f fd):z1k K fd ["house","names"] []:=F.binds (ps:=["house","names"]) fun _ _ _ _ _ _ us hl=>match us,hl with|[_,_],_=>rfl
theorem z86 {k:Nat} {f:Addr} {fd:y0b} (F:Fun K "unseen" "unseen" z29 f fd) (m:mg "unseen"=some (.ref f)) (z_tuple:mg "tuple"=none) (z_sorted:mg "sorted"=none) (z2g:Cl P w K mg base "beyond" k 2 z0u) {t_OUTSIDE:Tok} (g_OUTSIDE:mg "OUTSIDE"=some (.int 0 t_OUTSIDE)):Cl P w K mg base "unseen" (k+1) 2 z2d :=
 z6n F z1z (zgl F) m fun cdv A outer s H E hr =>
  (z0b (zm1 2 z1z.nd (own:=["opening"]) (caps:=[(1,"names")]) (zce (sc:=z00 z29) ["house","names","unwatched","reached","waiting","here","opening","there"] rfl rfl rfl (by decide +kernel)) (zaq (q_ix (q_nm 0) (v2r z0e))) (fun _ _ _ _ _ _=>(g_nm 0 (show List.Nodup (["opening","names"]:List Str) by decide +kernel))) (fun _ _ _ _ _ _=>(zj3 (w_t (w_or (zo1 (v2r (q_ix (q_nm 0) (v2r z0e)))) (zo0 (z4m (zjd (by exact hr.units)) z91 (v2r (q_ix (q_nm 0) (v2r z0e))) (q_nm 1))))))) (fun _ _ _ _ _ _=>(z0g 0)))
  (z0b (zm0 3 z1z.nd (q_gI g_OUTSIDE) q_bl)
  (z0b (z6u 4 z1z.nd (zae (z01 (q_gI g_OUTSIDE) z06)))
  (z0b (zdx 1000 y21 (zdl (q_nm 4)) (z0b (zo9 5 4 z1z.nd)
  (z13 (zab y21 (zaq (z0g 2)) (g_nm 6 z1z.nd)
  (z0b (z2v 7 z1z.nd (z0x z2g hr (z01 (z0g 6) (z01 (z0g 5) z06))))
  (z13 (s_if (w_t (zgx (zdk (q_nm 7)) (zb4 (zls 3 (znb hr) (q_nm 7))))) (z0b (zlz 3 (znb hr) (q_nm 7) q_bl)
  (z13 (zdz 4 (z0g 7)))) z6h)))))))
  (z13 (z3q (z7o z_tuple (z1f (v2r (zeb 3 rfl z_sorted)) z37))))))))
abbrev z0n:Stmt:=top 13
theorem z1m:FnScope ["house","room","through"] ["house","room"] (z00 z0n):=⟨rfl,rfl,rfl,by decide +kernel,rfl,by decide +kernel,by decide +kernel⟩
theorem z3y {K:y00} {f:Addr} {fd:y0b} (F:Fun K "ways_at_all" "ways_at_all" z0n f fd):z1k K fd ["house","room"] []:=F.binds (ps:=["house","room"]) fun _ _ _ _ _ _ us hl=>match us,hl with|[_,_],_=>rfl
theorem z1x {k:Nat} {f:Addr} {fd:y0b} (F:Fun K "ways_at_all" "ways_at_all" z0n f fd) (m:mg "ways_at_all"=some (.ref f)) (z6d:Cl P w K mg base "ways" k 2 z0r):Cl P w K mg base "ways_at_all" (k+1) 2 z0t :=
 z6n F z1m (z3y F) m fun cdv A outer s H E hr =>
  (z0b (z2v 2 z1m.nd (z0x z6d hr (z01 (z0g 0) (z01 (z0g 1) z06))))
  (z0b (s_if (zlr (zdl (q_nm 2))) (z13 zk4) z6h)
  (z13 (zj5 2))))
theorem z1l {k:Nat} {f:Addr} {fd:y0b} (F:Fun K "ways_at_all" "ways_at_all" z0n f fd) (m:mg "ways_at_all"=some (.ref f)) {XD xz xw xd xt:Addr} (Nm:Names K mg XD xz xw xd xt) (Rw:Ref1 K XD xz xw xd xt xw 1) (z6d:Cl P w K mg base "ways" k 2 z0r) :ClZ P w K mg base "ways_at_all" xw (k+1) 2 z1d :=
 zjp F z1m (z3y F) m fun cdv A outer s H E hr =>
  (z_n (z2v 2 z1m.nd (z0x z6d hr (z01 (z0g 0) (z01 (z0g 1) z06)))) (z_1 (z_if (zlr (zdl (q_nm 2))) (z_1 (zjw Nm.nw Rw.new (zm9 (q_nm 1)) hr.hd)) z_no)))
abbrev z0v:Stmt:=top 14
theorem z5j:FnScope ["house","room"] ["house","room"] (z00 z0v):=⟨rfl,rfl,rfl,by decide +kernel,rfl,by decide +kernel,by decide +kernel⟩
theorem z6g {K:y00} {f:Addr} {fd:y0b} (F:Fun K "quickest" "quickest" z0v f fd):z1k K fd ["house","room"] []:=F.binds (ps:=["house","room"]) fun _ _ _ _ _ _ us hl=>match us,hl with|[_,_],_=>rfl
theorem z4t {k:Nat} {f cL Pt:Addr} {oc:Value} {od an:Option Addr} {osl:Array (Option Value)} {kV doc pm ct:Value} (l:K.lookup f=some ⟨oc,od,.func (y0i "quickest" "quickest" (z0l z0v) (z08 z0v) (z00 z0v) .none kV doc pm an (.ref cL) ct),osl⟩) (hcd:y0f K (.ref cL) "quickest"=true) (kp:y08 K (.ref f)=true) (m:mg "quickest"=some (.ref f)) (hCH:PySem.W.codeHdIn K cL Pt=true) (hbm:BM mg base) (htb:(Pt,(("quickest":Str)++".<locals>.")++"<lambda>")∈Tbl.tb) (hun:∀p∈Tbl.tb,p.1=Pt->p.2=(("quickest":Str)++".<locals>.")++"<lambda>") (z_min:mg "min"=none) (z1x:Cl P w K mg base "ways_at_all" k 2 z0t) (z_len:mg "len"=none):Cl P w K mg base "quickest" (k+3) 2 z1j :=
 zno l hcd z5j (fun _ F=>z6g F) m kp fun A outer s H E hr =>
  (z13 (z3q (zm7 (y:="way") (z0x z1x (hr.mono (Nat.le_add_right _ 2)) (z01 (z0g 0) (z01 (z0g 1) z06))) z_min rfl hCH hbm htb hun hr (fun q c2 cl A2 o2 s2 H2 hrL=>by exact (z1r (z01 (zkb (by exact z_len) (z1f (q_nm 0) z37)) (z01 (z0g 0) z06)))))))
theorem z3z {k:Nat} {f:Addr} {fd:y0b} (F:Fun K "quickest" "quickest" z0v f fd) (m:mg "quickest"=some (.ref f)) {XD xz xw xd xt:Addr} (Nm:Names K mg XD xz xw xd xt) (Rw:Ref1 K XD xz xw xd xt xw 1) (z_min:mg "min"=none) (z1x:Cl P w K mg base "ways_at_all" k 2 z0t) (z_len:mg "len"=none) (z1l:ClZ P w K mg base "ways_at_all" xw k 2 z1d):ClZ P w K mg base "quickest" xw (k+1) 2 z1i :=
 zjp F z5j (z6g F) m fun cdv A outer s H E hr =>
  (z_1 (znw (zll z_min (ziz z1l hr (ag_v (z0g 0) (ag_v (z0g 1) zjq))))))
abbrev z3r:Stmt:=top 22
theorem z3b:FnScope ["_law_script","_law_house_here","_law_number","_law_room","_law_names","_law_every","_law_due","_law_rooms","_law_goal","_law_free","_law_way"] ["_law_script"] (z00 z3r):=⟨rfl,rfl,rfl,by decide +kernel,rfl,by decide +kernel,by decide +kernel⟩
theorem zot {k:Nat} {f cL Pt:Addr} {oc:Value} {od an:Option Addr} {osl:Array (Option Value)} {kV doc pm ct:Value} (l:K.lookup f=some ⟨oc,od,.func (y0i "law" "law" (z0l z3r) (z08 z3r) (z00 z3r) .none kV doc pm an (.ref cL) ct),osl⟩) (hcd:y0f K (.ref cL) "law"=true) (hCH:PySem.W.codeHdIn K cL Pt=true) (hbm:BM mg base) (htb:(Pt,(("law":Str)++".<locals>.")++"<lambda>")∈Tbl.tb) (hun:∀p∈Tbl.tb,p.1=Pt->p.2=(("law":Str)++".<locals>.")++"<lambda>") {XD xz xw xd xt:Addr} (Nm:Names K mg XD xz xw xd xt) (Rw:Ref1 K XD xz xw xd xt xw 1) (z3z:ClZ P w K mg base "quickest" xw k 2 z1i) (z1l:ClZ P w K mg base "ways_at_all" xw k 2 z1d) (z6e:Cl P w K mg base "_law_house" k 1 z3j) (z4h:Cl P w K mg base "_law_mixed" k 2 z1q) (z5b:Cl P w K mg base "_law_ways" k 2 z2e) (z_range:mg "range"=none) (z6d:Cl P w K mg base "ways" k 2 z0r) (z_tuple:mg "tuple"=none) (z_int:mg "int"=none) {f_l_told:Addr} {fd_l_told:y0b} (F_l_told:Fun K "_law_told" "_law_told" z11 f_l_told fd_l_told) (m_l_told:mg "_law_told"=some (.ref f_l_told)) (z86:Cl P w K mg base "unseen" k 2 z2d) (z4t:Cl P w K mg base "quickest" k 2 z1j) (z_sorted:mg "sorted"=none) (z_len:mg "len"=none):FnOk P w K mg base CX0 (k+3) f (y0i "law" "law" (z0l z3r) (z08 z3r) (z00 z3r) .none kV doc pm an (.ref cL) ct) ["_law_script"] (spT K 1 zd5) :=
 zfy l hcd z3b fun A outer s H E hr =>
  zow 3 rfl (fun s4 h4=>by exact (z0b (z2v 1 z3b.nd (z0x z6e (hr.mono (Nat.le_add_right _ 2)) (z01 (z0x z4h (hr.mono (Nat.le_add_right _ 2)) (z01 (z0g 0) (z01 z0e z06))) z06)))
  (z0b (z2v 2 z3b.nd (z0x z4h (hr.mono (Nat.le_add_right _ 2)) (z01 (z0g 0) (z01 z0e z06))))
  (z0b (z2v 3 z3b.nd (z28 (v2r z0e) (v2r (z55 (q_nm 2) (v2r (q_ix (q_nm 1) (v2r z0e)))))))
  (z0b h4.h
  (z0b (z2v 5 z3b.nd (z0x z5b (hr.mono (Nat.le_add_right _ 2)) (z01 (z0g 1) (z01 (z0g 3) z06))))
  (z0b (s_if (z4m (zeq (by exact hr.units)) zes (v2r (z0x z6d (hr.mono (Nat.le_add_right _ 2)) (z01 (z0g 1) (z01 (z0g 3) z06)))) (v2r (z7o z_tuple (z1f (q_nm 5) z37)))) (z13 (z3q q_bl)) z6h)
  (z0b (z2v 6 z3b.nd (q_ix (v2r (z70 (z01 (z1r (z01 z8s (z01 (q_ix (v2r (q_ix (v2r (ze9 rfl (by exact hr.units) z_sorted (z1f (v2r (z28 (v2r (zaf (own:=["_law_way"]) (caps:=[]) (zce (sc:=z00 z3r) ["_law_script","_law_house_here","_law_number","_law_room","_law_names","_law_every","_law_due","_law_rooms","_law_goal","_law_free","_law_way"] rfl rfl rfl (by decide +kernel)) (zaq (z0g 5)) (fun _ _ _ _ _ _=>(g_nm 0 (show List.Nodup (["_law_way"]:List Str) by decide +kernel))) (fun _ _ _ _ _ _=>zj4) (fun _ _ _ _ _ _=>(z1r (z01 (zkb (by exact z_len) (z1f (q_nm 0) z37)) (z01 (z0g 0) z06)))))) (v2r (z70 (z01 (z1r (z01 z0e (z01 (z1r z06) z06))) z06))))) z37))) (v2r z0e))) (v2r z0e)) z06))) (z01 (z1r (z01 z8s (z01 z0e z06))) z06)))) (v2r (zm8 z_int (z1f (v2r (zkc (z4y (by exact hr.units)) z4z (q_nm 5) (v2r (z70 z06)))) z37)))))
  (z0b (zoa (zny (zeq (by exact hr.units)) zes (zjx F_l_told z20 (zgn F_l_told) m_l_told (fun cdv A outer s H=>zft cdv A outer s H) (fun cdv A outer s H=>zfs Nm Rw cdv A outer s H) rfl hCH hbm htb hun hr (fun q c2 cl A2 o2 s2 H2 hrL=>by exact (zj0 (z0x z4t hrL (z01 (z0g 1) (z01 (z0g 3) z06))))) (fun q c2 cl A2 o2 s2 H2 E2 hrL=>by exact (ziz z3z hrL (ag_v (z0g 1) (ag_v (z0g 3) zjq))))) (zj0 (z0g 6))) (z13 (z3q q_bl)) z6h)
  (z0b (z6u 7 z3b.nd (zae (z01 z0e z06)))
  (z0b (zab y21 (zn9 z_range (v2r z0e) (v2r (z28 (v2r (q_ix (q_nm 1) (v2r z0e))) (v2r z0e)))) (g_nm 8 z3b.nd)
  (z0b (z6u 9 z3b.nd (zae z06))
  (z0b (zab y21 (zaq (z0x z5b (hr.mono (Nat.le_add_right _ 2)) (z01 (z0g 1) (z01 (z0g 8) z06)))) (g_nm 10 z3b.nd)
  (z13 (zdz 9 (zkc (z4y (by exact hr.units)) z4z (v2r (zaf (own:=["_law_one"]) (caps:=[(4,"_law_names"),(1,"_law_house_here")]) (zce (sc:=z00 z3r) ["_law_script","_law_house_here","_law_number","_law_room","_law_names","_law_every","_law_due","_law_rooms","_law_goal","_law_free","_law_way"] rfl rfl rfl (by decide +kernel)) (zaq (z0g 10)) (fun _ _ _ _ _ _=>(g_nm 0 (show List.Nodup (["_law_one","_law_names","_law_house_here"]:List Str) by decide +kernel))) (fun _ _ _ _ _ _=>(zj3 (w_t (zgx (zdk (v2r (q_ix (v2r (q_ix (v2r (q_ix (q_nm 2) (v2r z0e))) (q_nm 0))) (v2r z0e)))) (zb4 (z4m (z5q (by exact hr.units)) z91 (v2r (q_ix (v2r (q_ix (v2r (q_ix (q_nm 2) (v2r z0e))) (q_nm 0))) (v2r z0e))) (q_nm 1))))))) (fun _ _ _ _ _ _=>(z0g 0)))) (v2r (z70 z06))))))
  (z13 (s_if (z4m (zjd (by exact hr.units)) z91 (v2r q_bl) (q_nm 9)) (z13 (zdz 7 (z0g 8))) z6h)))))
  (z13 (z3q (zkc (z4y (by exact hr.units)) z4z (v2r (z0x z86 (hr.mono (Nat.le_add_right _ 2)) (z01 (z0g 1) (z01 (z0g 4) z06)))) (v2r (z7o z_tuple (z1f (q_nm 7) z37)))))))))))))))))
  (zjz 4 z3b.nd (zcl (w_cT (zcl (w_cS (w_cS zcm))) (w_cT (zcl zcm) (w_cT (zcl (w_cS zcm)) (w_cT (zcl (w_cS (w_cS (w_cS zcm)))) (w_cT (zcl (w_cS (w_cS zcm))) zcm)))))) (v2r (z55 (v2r (zea (q_nm 2) (v2r z0e))) (v2r z0e))))
end
end K20
end
section
namespace D
open PySem
theorem z4d (ns:List Int):y1e (ns.map .int)=true/\y1c (ns.map .int)<=1:=by
 induction ns with
 | nil=>simp[y1e,y1c]
 | cons n ns ih=>simp[y1e,PyData.canLay0,y1c,y20,ih]
theorem zhu (ss:List Str) (h:∀x∈ss,(y1r x).canLay0=true):y1e (ss.map .str)=true/\y1c (ss.map .str)<=1:=by
 induction ss with
 | nil=>simp[y1e,y1c]
 | cons n ns ih =>
  have h1:=h n (by simp)
  have h2:=ih fun x hx=>h x (by simp[hx])
  simp[y1e,y1c,y20,h1,h2]
theorem zht (ns:List Int):okT (.tuple (ns.map .int))=true:=by
 have:=z4d ns
 simp[okT,PyData.canLay0,y20,this.1]
 omega
theorem z6a:∀(ns ms:List Int),PyData.eqvAll (ns.map .int) (ms.map .int)=decide (ns=ms)
 | [],[]=>by simp[PyData.eqvAll]
 | [],_::_=>by simp[PyData.eqvAll]
 | _::_,[]=>by simp[PyData.eqvAll]
 | n::ns,m::ms=>by simp[PyData.eqvAll,y1v,z6a ns ms,Bool.beq_eq_decide_eq]
theorem zin (ns ms:List Int):y1v (.tuple (ns.map .int)) (.tuple (ms.map .int))=decide (ns=ms):=by rw[y1v,z6a]
theorem zby (n:Int):∀ns:List Int,hasT (.int n) (ns.map .int)=decide (n∈ns)
 | []=>by simp[hasT]
 | m::ns=>by
  have ih:=zby n ns
  unfold hasT at ih ⊢
  rw[y0d,List.any_cons,ih]
  simp[y1v,Bool.beq_eq_decide_eq,eq_comm]
theorem zbx (n:Str):∀ns:List Str,hasT (.str n) (ns.map .str)=decide (n∈ns)
 | []=>by simp[hasT]
 | m::ns=>by
  have ih:=zbx n ns
  unfold hasT at ih ⊢
  rw[y0d,List.any_cons,ih]
  simp[y1v,Bool.beq_eq_decide_eq,eq_comm]
theorem zeu (n:Int):okT (.int n)=true:=by simp[okT,PyData.canLay0,y20]
theorem zkt {x:Str} (h:(y1r x).canLay0=true):okT (.str x)=true:=by simp[okT,y20,h]
theorem zew (ns:List Int):okL (ns.map .int)=true:=by
 have:=z4d ns
 simp[okL,this.1]
 omega
theorem zev (ss:List Str) (h:∀x∈ss,(y1r x).canLay0=true):okL (ss.map .str)=true:=by
 have:=zhu ss h
 simp[okL,this.1]
 omega
theorem z7r (neg:Bool) (n:Int) (ns:List Int):oIn neg (.int n) (.tuple (ns.map .int))=some (.bool (if neg then !decide (n∈ns) else decide (n∈ns))):=by
 simp only[oIn,zeu,zew,zby,Bool.and_self,if_true]
theorem zai (neg:Bool) (n:Str) (ns:List Str) (h0:(y1r n).canLay0=true) (h:∀x∈ns,(y1r x).canLay0=true):oIn neg (.str n) (.tuple (ns.map .str))=some (.bool (if neg then !decide (n∈ns) else decide (n∈ns))):=by
 simp only[oIn,zkt h0,zev ns h,zbx,Bool.and_self,if_true]
end D
end
section
namespace Hg
def adj (e:Int×Int) (x:Int):Option Int:=if e.1=x then some e.2 else if e.2=x then some e.1 else none
def Adj (E:List (Int×Int)) (x y:Int):Prop:=∃e∈E,adj e x=some y
inductive Reach (E:List (Int×Int)):Int->Prop
 | zero:Reach E 0
 | step {x y:Int}:Reach E x->Adj E x y->Reach E y
def Within (R:Int) (E:List (Int×Int)):Prop:=∀e∈E,0<=e.1/\e.1<=R/\0<=e.2/\e.2<=R
theorem z4u {R:Int} {E:List (Int×Int)} (h:Within R E) {x y:Int} (a:Adj E x y):0<=y/\y<=R:=by
 obtain⟨e,he,ha⟩:=a
 obtain⟨h1,h2,h3,h4⟩:=h e he
 unfold adj at ha
 split at ha
 ·cases ha;exact⟨h3,h4⟩
 ·split at ha
  ·cases ha;exact⟨h1,h2⟩
  ·cases ha
theorem nodup_len:∀(n:Nat) (l:List Int),l.Nodup->(∀x∈l,0<=x/\x<n)->l.length<=n
 | 0,l,_,hb=>by
  cases l with
  | nil=>simp
  | cons x r=>have:=hb x (by simp);omega
 | n+1,l,nd,hb=>by
  have h1:=nodup_len n (l.filter fun x=>decide (x≠(n:Int))) (nd.filter _) (fun x hx=>by
   have:=List.mem_filter.mp hx
   have hx':=hb x this.1
   have:x≠(n:Int):=by simpa using this.2
   omega)
  have h2:l.length<=(l.filter fun x=>decide (x≠(n:Int))).length+1:=by
   clear h1 hb
   induction l with
   | nil=>simp
   | cons y r ih =>
    have nd':=y0r.mp nd
    by_cases e:y=(n:Int)
    ·subst e
     have:r.filter (fun x=>decide (x≠(n:Int)))=r:=List.filter_eq_self.mpr fun x hx=>by
      have:x≠(n:Int):=fun z=>nd'.1 (z▸hx)
      simpa using this
     rw[List.filter_cons_of_neg (by simp),this]
     simp
    ·rw[List.filter_cons_of_pos (by simpa using e)]
     have:=ih nd'.2
     simp only[y0w]
     omega
  omega
noncomputable def inner (h:Int):List (Int×Int)->List Int->List Int->List Int×List Int
 | [],r,w=>(r,w)
 | e::es,r,w=>match adj e h with
  | some t=>if t∈r then inner h es r w else inner h es (r++[t]) (w++[t])
  | none=>inner h es r w
noncomputable def bfs (E:List (Int×Int)):Nat->List Int->List Int->Option (List Int)
 | 0,_,_=>none
 | n+1,r,w=>match w.getLast? with
  | none=>some r
  | some h=>bfs E n (inner h E r w.dropLast).1 (inner h E r w.dropLast).2
theorem z58 (h:Int):∀(E:List (Int×Int)) (r w:List Int),∃new:List Int,inner h E r w=(r++new,w++new)/\(r.Nodup->(r++new).Nodup)/\(∀y∈new,Adj E h y)/\∀y,Adj E h y->y∈r++new
 | [],r,w=>⟨[],by simp[inner],by simp,by simp,fun y ⟨e,he,_⟩=>by simp at he⟩
 | e::es,r,w=>by
  unfold inner
  have up:∀{y:Int},Adj es h y->Adj (e::es) h y:=fun⟨e',h1,h2⟩=>⟨e',y05 _ h1,h2⟩
  split
  next t ht =>
   split
   next hm =>
    obtain⟨new,h1,h2,h3,h4⟩:=z58 h es r w
    refine⟨new,h1,h2,fun y hy=>up (h3 y hy),fun y ⟨e',he',ha⟩=>?_⟩
    rcases y09.mp he' with rfl|he'
    ·rw[ht] at ha
     cases ha
     exact List.mem_append_left _ hm
    ·exact h4 y ⟨e',he',ha⟩
   next hm =>
    obtain⟨new,h1,h2,h3,h4⟩:=z58 h es (r++[t]) (w++[t])
    refine⟨t::new,by rw[h1];simp,fun nd=>?_,fun y hy=>?_,fun y ⟨e',he',ha⟩=>?_⟩
    ·have:(r++[t]).Nodup:=by
      rw[y1i]
      refine⟨nd,by simp,fun a ha b hb=>?_⟩
      have:b=t:=by simpa using hb
      subst this
      exact fun z=>hm (z▸ha)
     simpa using h2 this
    ·rcases y09.mp hy with rfl|hy
     ·exact⟨e,y0e,ht⟩
     ·exact up (h3 y hy)
    ·rcases y09.mp he' with rfl|he'
     ·rw[ht] at ha
      cases ha
      simp
     ·have:=h4 y ⟨e',he',ha⟩
      simpa using this
  next hn =>
   obtain⟨new,h1,h2,h3,h4⟩:=z58 h es r w
   refine⟨new,h1,h2,fun y hy=>up (h3 y hy),fun y ⟨e',he',ha⟩=>?_⟩
   rcases y09.mp he' with rfl|he'
   ·rw[hn] at ha
    cases ha
   ·exact h4 y ⟨e',he',ha⟩
structure Mid (R:Int) (E:List (Int×Int)) (r w:List Int):Prop where
 nd:r.Nodup
 z:(0:Int)∈r
 wr:∀x∈w,x∈r
 bd:∀x∈r,0<=x/\x<=R
 re:∀x∈r,Reach E x
 cl:∀x∈r,x∉w->∀y,Adj E x y->y∈r
theorem zgj {R:Int} {E:List (Int×Int)} (hE:Within R E) (hR:R<=7):∀(n:Nat) (r w:List Int),Mid R E r w->2*(8 - r.length)+w.length<n->∃r',bfs E n r w=some r'/\Mid R E r' []
 | 0,r,w,m,h=>by omega
 | n+1,r,w,m,h=>by
  unfold bfs
  split
  next e=>exact⟨r,rfl,by have:w=[]:=(by simpa using e);subst this;exact m⟩
  next x e =>
   have hw:w=w.dropLast++[x]:=by
    have hne:w≠[]:=by rintro rfl;simp at e
    have:=List.dropLast_concat_getLast hne
    have e2:w.getLast hne=x:=by
     rw[List.getLast?_eq_getLast hne] at e
     exact y27 e
    rw[e2] at this
    exact this.symm
   obtain⟨new,h1,h2,h3,h4⟩:=z58 x E r w.dropLast
   rw[h1]
   have hx:x∈w:=by rw[hw];simp
   have nd:=h2 m.nd
   have m':Mid R E (r++new) (w.dropLast++new):=by
    refine⟨nd,List.mem_append_left _ m.z,fun y hy=>?_,fun y hy=>?_,fun y hy=>?_,fun y hy hn z az=>?_⟩
    ·rcases y10.mp hy with hy|hy
     ·exact List.mem_append_left _ (m.wr y (List.dropLast_subset _ hy))
     ·exact y18 _ hy
    ·rcases y10.mp hy with hy|hy
     ·exact m.bd y hy
     ·exact z4u hE (h3 y hy)
    ·rcases y10.mp hy with hy|hy
     ·exact m.re y hy
     ·exact .step (m.re x (m.wr x hx)) (h3 y hy)
    ·by_cases exy:y=x
     ·subst exy
      exact h4 z az
     ·rcases y10.mp hy with hy|hy
      ·refine List.mem_append_left _ (m.cl y hy (fun hyw=>hn (List.mem_append_left _ ?_)) z az)
       rw[hw] at hyw
       rcases y10.mp hyw with q|q
       ·exact q
       ·exact absurd (by simpa using q) exy
      ·exact absurd (y18 _ hy) hn
   have lr:(r++new).length<=8:=nodup_len 8 _ nd fun y hy=>by have:=m'.bd y hy;omega
   have lw:w.length=w.dropLast.length+1:=by
    conv=>lhs;rw[hw]
    simp
   refine zgj hE hR n _ _ m' ?_
   simp only[y1x] at lr ⊢
   omega
theorem bfs_ok {R:Int} {E:List (Int×Int)} (hE:Within R E) (h0:0<=R) (hR:R<=7) {n:Nat} (hn:15<n):∃r,bfs E n [0] [0]=some r/\r.Nodup/\(∀x,x∈r <-> Reach E x)/\∀x∈r,0<=x/\x<=R:=by
 obtain⟨r,h1,m⟩:=zgj (n:=n) hE hR [0] [0] ⟨by simp,by simp,by simp,by simpa using h0,fun x hx=>(show x=0 by simpa using hx)▸Reach.zero,by simp⟩ (by simp;omega)
 refine⟨r,h1,m.nd,fun x=>⟨m.re x,fun hx=>?_⟩,m.bd⟩
 induction hx with
 | zero=>exact m.z
 | step _ a ih=>exact m.cl _ ih (by simp) _ a
noncomputable def exts (rec:List Int->Option (List (List Nat))) (pl:List Int) (h:Int):Nat->List (Int×Int)->Option (List (List Nat))
 | _,[]=>some []
 | k,e::es=>match adj e h with
  | some t=>if t∈pl then exts rec pl h (k+1) es else (rec (pl++[t])).bind fun ws=>(exts rec pl h (k+1) es).map fun vs=>ws.map (fun w=>k::w)++vs
  | none=>exts rec pl h (k+1) es
noncomputable def waysP (E:List (Int×Int)) (room:Int):Nat->List Int->Option (List (List Nat))
 | 0,_=>none
 | n+1,pl=>match pl.getLast? with
  | none=>none
  | some h=>if h=room then some [[]] else exts (waysP E room n) pl h 0 E
theorem z81 {rec:List Int->Option (List (List Nat))} {pl:List Int} {h:Int} {B:Nat} (E₀:List (Int×Int)) (hr:∀t,Adj E₀ h t->t∉pl->∃ws,rec (pl++[t])=some ws/\ws.length<=B) :
  ∀(k:Nat) (E:List (Int×Int)),(∀e∈E,e∈E₀)->∃ws,exts rec pl h k E=some ws/\ws.length<=E.length*B
 | k,[],_=>⟨[],rfl,by simp⟩
 | k,e::es,hs=>by
  obtain⟨vs,h1,h2⟩:=z81 E₀ hr (k+1) es fun e he=>hs e (y05 _ he)
  have h3:es.length*B<=(e::es).length*B:=Nat.mul_le_mul_right _ (by simp)
  unfold exts
  split
  next t ht =>
   split
   next=>exact⟨vs,h1,by omega⟩
   next hm =>
    obtain⟨ws,h4,h5⟩:=hr t ⟨e,hs e y0e,ht⟩ hm
    refine⟨_,by rw[h4,h1];rfl,?_⟩
    simp only[y1x,y12,y0w,Nat.succ_mul]
    omega
  next=>exact⟨vs,h1,by omega⟩
theorem ways_tot {R:Int} {E:List (Int×Int)} (hE:Within R E) (hR:R<=7) (hl:E.length<=10) (room:Int) :
  ∀(n:Nat) (pl:List Int),pl≠[]->pl.Nodup->(∀x∈pl,0<=x/\x<=R)->9<=n+pl.length->∃ws,waysP E room n pl=some ws/\ws.length<=10 ^ (8 - pl.length)
 | 0,pl,hne,nd,hb,hn=>by
  have:=nodup_len 8 pl nd fun y hy=>by have:=hb y hy;omega
  omega
 | n+1,pl,hne,nd,hb,hn=>by
  unfold waysP
  rw[List.getLast?_eq_getLast hne]
  simp only
  split
  next=>exact⟨_,rfl,by simpa using Nat.one_le_pow _ 10 (by decide)⟩
  next =>
   have l8:=nodup_len 8 pl nd fun y hy=>by have:=hb y hy;omega
   by_cases full:pl.length=8
   ·
    have none_new:∀t,Adj E (pl.getLast hne) t->t∉pl->False:=fun t a hm=>by
     have hw:=z4u hE a
     have nd':(pl++[t]).Nodup:=by
      rw[y1i]
      refine⟨nd,by simp,fun x hx y hy=>?_⟩
      have:y=t:=by simpa using hy
      subst this
      exact fun z=>hm (z▸hx)
     have:=nodup_len 8 (pl++[t]) nd' fun y hy=>by
      rcases y10.mp hy with hy|hy
      ·have:=hb y hy;omega
      ·have:y=t:=by simpa using hy
       subst this
       omega
     simp at this
     omega
    obtain⟨ws,h1,h2⟩:=z81 (B:=0) (pl:=pl) (h:=pl.getLast hne) (rec:=waysP E room n) E (fun t a hm=>(none_new t a hm).elim) 0 E fun _ h=>h
    exact⟨ws,h1,by have:ws.length=0:=(by omega);rw[this];exact y1z _⟩
   ·obtain⟨ws,h1,h2⟩:=z81 (B:=10 ^ (8 - (pl.length+1))) (pl:=pl) (h:=pl.getLast hne) (rec:=waysP E room n) E (fun t a hm=>by
     have hw:=z4u hE a
     have:=ways_tot hE hR hl room n (pl++[t]) (by simp) (by
      rw[y1i]
      refine⟨nd,by simp,fun x hx y hy=>?_⟩
      have:y=t:=by simpa using hy
      subst this
      exact fun z=>hm (z▸hx)) (fun y hy=>by
      rcases y10.mp hy with hy|hy
      ·exact hb y hy
      ·have:y=t:=by simpa using hy
       subst this
       exact hw) (by simp;omega)
     simpa using this) 0 E fun _ h=>h
    refine⟨ws,h1,?_⟩
    have e:8 - pl.length=(8 - (pl.length+1))+1:=by omega
    rw[e,Nat.pow_succ]
    have:=Nat.mul_le_mul_right (10 ^ (8 - (pl.length+1))) hl
    omega
inductive Walk (E:List (Int×Int)):Int->List Int->Int->Prop
 | nil (x:Int):Walk E x [] x
 | cons {x y z:Int} {p:List Int}:Adj E x y->Walk E y p z->Walk E x (y::p) z
theorem z3i {rec:List Int->Option (List (List Nat))} {pl:List Int} {h:Int}:∀{k:Nat} {E:List (Int×Int)} {ws:List (List Nat)},exts rec pl h k E=some ws->∀t,Adj E h t->t∉pl->∃vs,rec (pl++[t])=some vs/\(vs≠[]->ws≠[])
 | k,[],ws,e,t,⟨e',he',_⟩,_=>by simp at he'
 | k,e::es,ws,h1,t,⟨e',he',ha⟩,hm=>by
  unfold exts at h1
  split at h1
  next t' ht' =>
   split at h1
   next hm' =>
    rcases y09.mp he' with rfl|he'
    ·rw[ht'] at ha
     cases ha
     exact absurd hm' hm
    ·exact z3i h1 t ⟨e',he',ha⟩ hm
   next hm' =>
    simp only[y01,y07] at h1
    obtain⟨us,h2,vs,h3,rfl⟩:=h1
    rcases y09.mp he' with rfl|he'
    ·rw[ht'] at ha
     cases ha
     exact⟨us,h2,fun q z=>q (by have:=(List.append_eq_nil_iff.mp z).1;simpa using this)⟩
    ·obtain⟨xs,q1,q2⟩:=z3i h3 t ⟨e',he',ha⟩ hm
     exact⟨xs,q1,fun q z=>q2 q (List.append_eq_nil_iff.mp z).2⟩
  next hn =>
   rcases y09.mp he' with rfl|he'
   ·rw[hn] at ha
    cases ha
   ·exact z3i h1 t ⟨e',he',ha⟩ hm
theorem z82 {rec:List Int->Option (List (List Nat))} {pl:List Int} {h:Int}:∀{k:Nat} {E:List (Int×Int)} {ws:List (List Nat)},exts rec pl h k E=some ws->ws≠[]->∃t vs,Adj E h t/\t∉pl/\rec (pl++[t])=some vs/\vs≠[]
 | k,[],ws,e,hn=>by
  cases e
  exact absurd rfl hn
 | k,e::es,ws,h1,hne=>by
  have up:∀{y:Int},Adj es h y->Adj (e::es) h y:=fun⟨e',h1,h2⟩=>⟨e',y05 _ h1,h2⟩
  unfold exts at h1
  split at h1
  next t ht =>
   split at h1
   next =>
    obtain⟨t',vs,a,b,c,d⟩:=z82 h1 hne
    exact⟨t',vs,up a,b,c,d⟩
   next hm =>
    simp only[y01,y07] at h1
    obtain⟨us,h2,vs,h3,rfl⟩:=h1
    by_cases hu:us=[]
    ·subst hu
     obtain⟨t',vs',a,b,c,d⟩:=z82 h3 (by simpa using hne)
     exact⟨t',vs',up a,b,c,d⟩
    ·exact⟨t,us,⟨e,y0e,ht⟩,hm,h2,hu⟩
  next =>
   obtain⟨t',vs,a,b,c,d⟩:=z82 h1 hne
   exact⟨t',vs,up a,b,c,d⟩
theorem z4v {E:List (Int×Int)} {room:Int}:∀{p:List Int} {n:Nat} {pl:List Int} {cur:Int} {ws:List (List Nat)},Walk E cur p room->(cur::p).Nodup->(∀y∈p,y∉pl)->pl.getLast?=some cur->waysP E room n pl=some ws->ws≠[]
 | p,0,pl,cur,ws,_,_,_,_,h=>by cases h
 | [],n+1,pl,cur,ws,hw,_,_,hl,h=>by
  cases hw
  unfold waysP at h
  rw[hl] at h
  simp only[if_true] at h
  cases h
  simp
 | y::p,n+1,pl,cur,ws,hw,nd,hp,hl,h=>by
  cases hw with
  | cons a w =>
   unfold waysP at h
   rw[hl] at h
   simp only at h
   split at h
   next=>cases h;simp
   next =>
    obtain⟨vs,h1,h2⟩:=z3i h y a (hp y (by simp))
    have nd':=(y0r.mp nd).2
    refine h2 (z4v w nd' (fun z hz hm=>?_) (by simp) h1)
    rcases y10.mp hm with hm|hm
    ·exact hp z (y05 _ hz) hm
    ·have:z=y:=by simpa using hm
     subst this
     exact (y0r.mp nd').1 hz
theorem z4w {E:List (Int×Int)} {room:Int}:∀{n:Nat} {pl:List Int} {cur:Int} {ws:List (List Nat)},pl.getLast?=some cur->waysP E room n pl=some ws->ws≠[]->∃p,Walk E cur p room
 | 0,pl,cur,ws,_,h,_=>by cases h
 | n+1,pl,cur,ws,hl,h,hne=>by
  unfold waysP at h
  rw[hl] at h
  simp only at h
  split at h
  next e =>
   subst e
   exact⟨[],.nil _⟩
  next =>
   obtain⟨t,vs,a,b,c,d⟩:=z82 h hne
   obtain⟨p,w⟩:=z4w (pl:=pl++[t]) (cur:=t) (by simp) c d
   exact⟨t::p,.cons a w⟩
theorem zdf {E:List (Int×Int)} {x y z:Int} {p:List Int} (w:Walk E x p y) (a:Adj E y z):Walk E x (p++[z]) z:=by
 induction w with
 | nil x=>exact .cons a (.nil z)
 | cons b _ ih=>exact .cons b (ih a)
theorem zck {E:List (Int×Int)} {x y:Int} {p:List Int} (w:Walk E x p y) (r:Reach E x):Reach E y:=by
 induction w with
 | nil x=>exact r
 | cons a _ ih=>exact ih (.step r a)
theorem zgw {E:List (Int×Int)} {x z y:Int} {p:List Int} (w:Walk E x p z) (nd:(x::p).Nodup) (hy:y∈x::p):∃q,Walk E x q y/\(x::q).Nodup:=by
 induction w with
 | nil x =>
  have:y=x:=by simpa using hy
  subst this
  exact⟨[],.nil _,by simp⟩
 | @cons x u z p a w ih =>
  by_cases e:y=x
  ·subst e
   exact⟨[],.nil _,by simp⟩
  ·have nd':=y0r.mp nd
   have sub:∀{q:List Int},Walk E u q y->True:=fun _=>trivial
   obtain⟨q,w',ndq,hs⟩:∃q,Walk E u q y/\(u::q).Nodup/\∀t∈u::q,t∈u::p:=by
    have hy':y∈u::p:=by
     rcases y09.mp hy with h|h
     ·exact absurd h e
     ·exact h
    clear ih sub a nd hy e
    have nd2:=nd'.2
    clear nd'
    induction w with
    | nil u =>
     have:y=u:=by simpa using hy'
     subst this
     exact⟨[],.nil _,by simp,by simp⟩
    | @cons u v z p b w ih =>
     by_cases e:y=u
     ·subst e
      exact⟨[],.nil _,by simp,by simp⟩
     ·have n3:=y0r.mp nd2
      obtain⟨q,w',ndq,hs⟩:=ih (by
       rcases y09.mp hy' with h|h
       ·exact absurd h e
       ·exact h) n3.2
      refine⟨v::q,.cons b w',y0r.mpr ⟨fun h=>n3.1 (hs u h),ndq⟩,fun t ht=>?_⟩
      rcases y09.mp ht with rfl|ht
      ·simp
      ·exact y05 _ (hs t ht)
   exact⟨u::q,.cons a w',y0r.mpr ⟨fun h=>nd'.1 (hs x h),ndq⟩⟩
theorem reach_walk {E:List (Int×Int)} {x:Int} (r:Reach E x):∃p,Walk E 0 p x/\((0:Int)::p).Nodup:=by
 induction r with
 | zero=>exact⟨[],.nil _,by simp⟩
 | @step x y _ a ih =>
  obtain⟨p,w,nd⟩:=ih
  by_cases h:y∈(0:Int)::p
  ·exact zgw w nd h
  ·refine⟨p++[y],zdf w a,?_⟩
   rw[<- List.cons_append,y1i]
   refine⟨nd,by simp,fun s hs t ht=>?_⟩
   have:t=y:=by simpa using ht
   subst this
   exact fun e=>h (e▸hs)
theorem ways_iff {E:List (Int×Int)} {room:Int} {n:Nat} {ws:List (List Nat)} (h:waysP E room n [0]=some ws):ws≠[] <-> Reach E room:=by
 constructor
 ·intro hne
  obtain⟨p,w⟩:=z4w (cur:=0) (by simp) h hne
  exact zck w .zero
 ·intro r
  obtain⟨p,w,nd⟩:=reach_walk r
  refine z4v w nd (fun y hy hm=>?_) (by simp) h
  have:y=0:=by simpa using hm
  subst this
  exact (y0r.mp nd).1 hy
end Hg
end
section
namespace Ho
open PySem D
abbrev Op:=Int×Int×Option Str
def zT:Option Str->T
 | none=>.none
 | some x=>.str x
def opT (o:Op):T:=.tuple [.int o.1,.int o.2.1,zT o.2.2]
def z02 (R:Int) (os:List Op):T:=.tuple [.int R,.tuple (os.map opT)]
def z09 (ns:List Str):T:=.tuple (ns.map .str)
def free (ns:List Str) (o:Op):Bool:=match o.2.2 with
 | none=>true
 | some x=>decide (x∈ns)
def edge (o:Op):Int×Int:=(o.1,o.2.1)
def oT:Option Int->T
 | some t=>.int t
 | none=>.none
theorem z3c (a b:Int):oEq (.int a) (.int b)=some (.bool (decide (a=b))):=by
 simp[oEq,zeu,y1v,Bool.beq_eq_decide_eq]
theorem z07 {a b:Fs} {ε ε':Ev} (h:a ε=some (.nx ε')):seq a b ε=b ε':=by
 simp only[seq,h,y0p]
theorem z9x (o:Op) (h:Int):z0u [opT o,.int h]=some (oT (Hg.adj (edge o) h)):=by
 obtain⟨a,b,z⟩:=o
 by_cases h1:a=h
 ·simp[z0u,z5e,opT,runF,seq,iff,tstB,tstL,andT,orT,notT,cstT,ofT,op1,op2,opN,args,cst,nm,nmV,rtn,skip,asg,asgN,asgT,par,z03,z0i,oIsN,z0p,oIx,atZ,ixOf,gNm,gTu,gAll,z0a,comp,z16,z3c,Hg.adj,edge,oT,h1]
 ·by_cases h2:b=h
  ·simp[z0u,z5e,opT,runF,seq,iff,tstB,tstL,andT,orT,notT,cstT,ofT,op1,op2,opN,args,cst,nm,nmV,rtn,skip,asg,asgN,asgT,par,z03,z0i,oIsN,z0p,oIx,atZ,ixOf,gNm,gTu,gAll,z0a,comp,z16,z3c,Hg.adj,edge,oT,h1,h2]
  ·simp[z0u,z5e,opT,runF,seq,iff,tstB,tstL,andT,orT,notT,cstT,ofT,op1,op2,opN,args,cst,nm,nmV,rtn,skip,asg,asgN,asgT,par,z03,z0i,oIsN,z0p,oIx,atZ,ixOf,gNm,gTu,gAll,z0a,comp,z16,z3c,Hg.adj,edge,oT,h1,h2]
def z54 (ns:List Str):Prop:=∀x∈ns,(y1r x).canLay0=true
def zgs (os:List Op):Prop:=∀o∈os,∀x,o.2.2=some x->(y1r x).canLay0=true
theorem z9m {ns:List Str} (hn:z54 ns):∀(os:List Op),zgs os->∀j,z1v (gNm 0) (orT (tstB (op1 oIsN (op2 oIx (nm 0) (cst (.int 2))))) (tstB (op2 (oIn false) (op2 oIx (nm 0) (cst (.int 2))) (nm 1)))) (nmV 0) (os.map opT) [j,some (.imm (z09 ns))]=some ((os.filter (free ns)).map opT)
 | [],_,j=>rfl
 | o::os,ho,j=>by
  obtain⟨a,b,z⟩:=o
  have ih:=z9m hn os (fun o h=>ho o (by simp[h])) (some (.imm (opT (a,b,z))))
  cases z with
  | none =>
   simp[z1v,runF,seq,iff,tstB,tstL,andT,orT,notT,cstT,ofT,op1,op2,opN,args,cst,nm,nmV,rtn,skip,asg,asgN,asgT,par,z03,z0i,oIsN,z0p,oIx,atZ,ixOf,gNm,gTu,gAll,z0a,comp,z16,opT,zT,free] at ih ⊢
   exact⟨_,ih,rfl⟩
  | some x =>
   have hx:=ho (a,b,some x) (by simp) x rfl
   by_cases hm:x∈ns
   ·simp[z1v,runF,seq,iff,tstB,tstL,andT,orT,notT,cstT,ofT,op1,op2,opN,args,cst,nm,nmV,rtn,skip,asg,asgN,asgT,par,z03,z0i,oIsN,z0p,oIx,atZ,ixOf,gNm,gTu,gAll,z0a,comp,z16,opT,zT,free,z09,zai _ _ _ hx hn,hm] at ih ⊢
    exact ih
   ·simp[z1v,runF,seq,iff,tstB,tstL,andT,orT,notT,cstT,ofT,op1,op2,opN,args,cst,nm,nmV,rtn,skip,asg,asgN,asgT,par,z03,z0i,oIsN,z0p,oIx,atZ,ixOf,gNm,gTu,gAll,z0a,comp,z16,opT,zT,free,z09,zai _ _ _ hx hn,hm] at ih ⊢
    exact ih
def kv (r:List Int):List (Key×T):=r.map fun x=>(Sum.inl x,.bool true)
theorem zar (r:List Int) (t:Int):hasD (kv r) (.inl t)=decide (t∈r):=by
 induction r with
 | nil=>rfl
 | cons a r ih =>
  unfold hasD kv at ih ⊢
  rw[y0d,List.any_cons,ih]
  by_cases e:a=t
  ·simp[e]
  ·have e':¬t=a:=fun z=>e z.symm
   simp[e,e']
theorem zkd {r:List Int} {t:Int} (h:t∉r):putD (kv r) (.inl t) (.bool true)=kv (r++[t]):=by
 have:=zar r t
 unfold hasD at this
 unfold putD
 rw[this]
 simp[h,kv]
def bIn:Fs:=seq (asg 7 (opN z0u [(nmV 6),(nmV 5)]))
  (iff (andT (tstB (op1 z0p (nm 7))) (tstB (dIn true (nm 7) 3))) (seq (dPut 3 (nm 7) (cst (.bool true)))
  (app 4 (nmV 7))) skip)
def envU (h n u:T) (r w:List Int) (here:Option Sl) (j6 j7:Option Sl):Ev:=[some (.imm h),some (.imm n),some (.imm u),some (.dic (kv r)),some (.own (w.map .int)),here,j6,j7]
theorem zl2 (h n u:T) (r w:List Int) (here:Int) (o:Op) (j7:Option Sl) (hr:r.length<16777216) (hw:w.length<16777216) :
  bIn (envU h n u r w (some (.imm (.int here))) (some (.imm (opT o))) j7)=some (.nx (match Hg.adj (edge o) here with
   | some t=>if t∈r then envU h n u r w (some (.imm (.int here))) (some (.imm (opT o))) (some (.imm (.int t))) else envU h n u (r++[t]) (w++[t]) (some (.imm (.int here))) (some (.imm (opT o))) (some (.imm (.int t)))
   | none=>envU h n u r w (some (.imm (.int here))) (some (.imm (opT o))) (some (.imm .none)))):=by
 have hb:=z9x o here
 cases ha:Hg.adj (edge o) here with
 | none =>
  rw[ha] at hb
  simp[bIn,envU,runF,seq,iff,tstB,tstL,andT,orT,notT,cstT,ofT,op1,op2,opN,args,cst,nm,nmV,rtn,skip,asg,asgN,asgT,par,z03,z0i,oIsN,z0p,oIx,atZ,ixOf,gNm,gTu,gAll,z0a,comp,z16,hb,oT]
 | some t =>
  rw[ha] at hb
  by_cases hm:t∈r
  ·simp[bIn,envU,runF,seq,iff,tstB,tstL,andT,orT,notT,cstT,ofT,op1,op2,opN,args,cst,nm,nmV,rtn,skip,asg,asgN,asgT,par,z03,z0i,oIsN,z0p,oIx,atZ,ixOf,gNm,gTu,gAll,z0a,comp,z16,hb,oT,dIn,z7y,dic?,zar,hm]
  ·have hk:(kv r).length=r.length:=by simp[kv]
   simp[bIn,envU,runF,seq,iff,tstB,tstL,andT,orT,notT,cstT,ofT,op1,op2,opN,args,cst,nm,nmV,rtn,skip,asg,asgN,asgT,par,z03,z0i,oIsN,z0p,oIx,atZ,ixOf,gNm,gTu,gAll,z0a,comp,z16,hb,oT,dIn,dPut,app,z7y,dic?,zar,zkd hm,hm,hk,hr,hw,big]
theorem zbv (h n u:T) (here:Int):∀(os:List Op) (r w:List Int) (j6 j7:Option Sl),r.length+os.length<16777216->w.length+os.length<16777216 ->
  ∃j6' j7',forL (gNm 6) bIn (os.map opT) (envU h n u r w (some (.imm (.int here))) j6 j7)=some (.nx (envU h n u (Hg.inner here (os.map edge) r w).1 (Hg.inner here (os.map edge) r w).2 (some (.imm (.int here))) j6' j7'))
 | [],r,w,j6,j7,_,_=>⟨j6,j7,rfl⟩
 | o::os,r,w,j6,j7,hr,hw=>by
  simp only[y0w] at hr hw
  have st:=zl2 h n u r w here o j7 (by omega) (by omega)
  have e0:gNm 6 (opT o) (envU h n u r w (some (.imm (.int here))) j6 j7)=some (envU h n u r w (some (.imm (.int here))) (some (.imm (opT o))) j7):=rfl
  simp only[y0d,forL,e0,y0p,st,Hg.inner]
  cases ha:Hg.adj (edge o) here with
  | none=>exact zbv h n u here os r w _ _ (by omega) (by omega)
  | some t =>
   by_cases hm:t∈r
   ·simp only[hm,if_true]
    exact zbv h n u here os r w _ _ (by omega) (by omega)
   ·simp only[hm,if_false]
    exact zbv h n u here os (r++[t]) (w++[t]) _ _ (by simp;omega) (by simp;omega)
def bOut:Fs:=seq (pop 5 4)
  (for_ (z0a (nmV 2)) (gNm 6)
  bIn)
theorem z3f (h:Int):∀(E:List (Int×Int)) (r w:List Int),r.length<=(Hg.inner h E r w).1.length/\(Hg.inner h E r w).2.length+r.length=(Hg.inner h E r w).1.length+w.length
 | [],r,w=>⟨y0o _,by simp[Hg.inner];omega⟩
 | e::E,r,w=>by
  unfold Hg.inner
  split
  next t _ =>
   split
   ·exact z3f h E r w
   ·have:=z3f h E (r++[t]) (w++[t])
    simp only[y1x,y0w,y28] at this
    omega
  next=>exact z3f h E r w
theorem zgk {E:List (Int×Int)}:∀(n:Nat) (r w:List Int) (r':List Int),Hg.bfs E n r w=some r'->r.length<=r'.length
 | 0,r,w,r',e=>by cases e
 | n+1,r,w,r',e=>by
  unfold Hg.bfs at e
  split at e
  ·cases e
   exact y0o _
  ·exact y1k (z3f _ E r _).1 (zgk n _ _ r' e)
theorem zep (h n:T) (os:List Op) (hl:os.length<=10) (r':List Int) (h8:r'.length<=8):∀(k:Nat) (r w:List Int) (j5 j6 j7:Option Sl),Hg.bfs (os.map edge) k r w=some r'->w.length<=r.length ->
  ∃j5' j6' j7',whl (tstL (nm 4)) bOut k (envU h n (.list (os.map opT)) r w j5 j6 j7)=some (.nx (envU h n (.list (os.map opT)) r' [] j5' j6' j7'))
 | 0,r,w,j5,j6,j7,e,_=>by cases e
 | k+1,r,w,j5,j6,j7,e,hw=>by
  have hr:=zgk _ r w r' e
  unfold Hg.bfs at e
  unfold whl
  cases hw':w.getLast? with
  | none =>
   rw[hw'] at e
   cases e
   have:w=[]:=List.getLast?_eq_none_iff.mp hw'
   subst this
   refine⟨j5,j6,j7,?_⟩
   simp[envU,tstL,nm]
  | some here =>
   rw[hw'] at e
   dsimp only at e
   have hne:w≠[]:=fun z=>by subst z;cases hw'
   have ht:tstL (nm 4) (envU h n (.list (os.map opT)) r w j5 j6 j7)=some true:=by
    simp[envU,tstL,nm,hne]
   have hp:pop 5 4 (envU h n (.list (os.map opT)) r w j5 j6 j7)=some (.nx (envU h n (.list (os.map opT)) r w.dropLast (some (.imm (.int here))) j6 j7)):=by
    have:(w.map PyData.int).getLast?=some (.int here):=by rw[List.getLast?_map,hw'];rfl
    simp[pop,envU,this,List.map_dropLast]
   have hd:w.dropLast.length+1=w.length:=by
    rw[List.length_dropLast]
    have:=List.length_pos_iff.mpr hne
    omega
   obtain⟨j6',j7',hs⟩:=zbv h n (.list (os.map opT)) here os r w.dropLast j6 j7 (by omega) (by omega)
   have hit:z0a (nmV 2) (envU h n (.list (os.map opT)) r w.dropLast (some (.imm (.int here))) j6 j7)=some (os.map opT):=by
    simp[z0a,nmV,envU]
   have hb:bOut (envU h n (.list (os.map opT)) r w j5 j6 j7)=some (.nx (envU h n (.list (os.map opT)) (Hg.inner here (os.map edge) r w.dropLast).1 (Hg.inner here (os.map edge) r w.dropLast).2 (some (.imm (.int here))) j6' j7')):=by
    simp only[bOut,seq,hp,y0p,for_,hit,hs]
   have hln:=z3f here (os.map edge) r w.dropLast
   obtain⟨a,b,c,z⟩:=zep h n os hl r' h8 k _ _ (some (.imm (.int here))) j6' j7' e (by omega)
   exact⟨a,b,c,by simp only[ht,y0p,if_true,hb,z]⟩
def z0y (ns:List Str) (os:List Op):List (Int×Int):=(os.filter (free ns)).map edge
theorem zfo (r:List Int):z3e ((kv r).map fun p=>keyT p.1)=some r:=by
 induction r with
 | nil=>rfl
 | cons a r ih =>
  simp only[kv,y0d,keyT,z3e] at ih ⊢
  rw[ih]
  rfl
theorem zdh {ns:List Str} (hn:z54 ns) {R:Int} {os:List Op} (ho:zgs os) (hl:os.length<=10) {r:List Int} (hb:Hg.bfs (z0y ns os) 1000 [0] [0]=some r) (h8:r.length<=8) :
  z2d [z02 R os,z09 ns]=some (.tuple ((z3a r).map .int)):=by
 have hf:(os.filter (free ns)).length<=10:=y1k (y22 _ _) hl
 obtain⟨j5,j6,j7,hs⟩:=zep (z02 R os) (z09 ns) (os.filter (free ns)) hf r h8 1000 [0] [0] none none none hb (by simp)
 have hc:=z9m hn os ho none
 have hcomp:asg 2 (comp 1 [1] (z0a (op2 oIx (nm 0) (cst (.int 1)))) (gNm 0) (orT (tstB (op1 oIsN (op2 oIx (nm 0) (cst (.int 2))))) (tstB (op2 (oIn false) (op2 oIx (nm 0) (cst (.int 2))) (nm 1)))) (nmV 0))
   [some (.imm (z02 R os)),some (.imm (z09 ns)),none,none,none,none,none,none]=some (.nx [some (.imm (z02 R os)),some (.imm (z09 ns)),some (.imm (.list ((os.filter (free ns)).map opT))),none,none,none,none,none]):=by
  have hit:z0a (op2 oIx (nm 0) (cst (.int 1))) [some (.imm (z02 R os)),some (.imm (z09 ns)),none,none,none,none,none,none]=some (os.map opT):=by
   simp[z0a,op2,nm,z02,oIx,cst,atZ,ixOf]
  have hcap:z16 1 [1] [some (.imm (z02 R os)),some (.imm (z09 ns)),none,none,none,none,none,none]=[none,some (.imm (z09 ns))]:=rfl
  simp only[asg,comp,hit,y0p,hcap,hc,y12]
  rw[if_pos (by unfold big;omega)]
  rfl
 have h2:dNew 3 (cst (.int 0)) (cst (.bool true)) [some (.imm (z02 R os)),some (.imm (z09 ns)),some (.imm (.list ((os.filter (free ns)).map opT))),none,none,none,none,none]=some (.nx [some (.imm (z02 R os)),some (.imm (z09 ns)),some (.imm (.list ((os.filter (free ns)).map opT))),some (.dic (kv [0])),none,none,none,none]):=rfl
 have h3:asgN 4 (z0i [(cst (.int 0))]) [some (.imm (z02 R os)),some (.imm (z09 ns)),some (.imm (.list ((os.filter (free ns)).map opT))),some (.dic (kv [0])),none,none,none,none]=some (.nx (envU (z02 R os) (z09 ns) (.list ((os.filter (free ns)).map opT)) [0] [0] none none none)):=by
  simp[asgN,z0i,args,cst,big,envU]
 have h4:rtn (opN z2n [(z6b 3)]) (envU (z02 R os) (z09 ns) (.list ((os.filter (free ns)).map opT)) r [] j5 j6 j7)=some (.rt (.tuple ((z3a r).map .int))):=by
  have hk:(kv r).length=r.length:=by simp[kv]
  have hdc:dic? 3 (envU (z02 R os) (z09 ns) (.list ((os.filter (free ns)).map opT)) r [] j5 j6 j7)=some (kv r):=rfl
  simp only[rtn,opN,args,z6b,hdc,y0p,hk]
  rw[if_pos (by omega),zfo]
  simp[z2n]
 have e0:z2d [z02 R os,z09 ns]=(z89 [some (.imm (z02 R os)),some (.imm (z09 ns)),none,none,none,none,none,none]).bind fun o=>match o with|.rt t=>some t|.nx _=>some .none|_=>none:=rfl
 rw[e0]
 have hs2:whl (tstL (nm 4)) (seq (pop 5 4)
  (for_ (z0a (nmV 2)) (gNm 6)
  (seq (asg 7 (opN z0u [(nmV 6),(nmV 5)]))
  (iff (andT (tstB (op1 z0p (nm 7))) (tstB (dIn true (nm 7) 3))) (seq (dPut 3 (nm 7) (cst (.bool true)))
  (app 4 (nmV 7))) skip)))) 1000 (envU (z02 R os) (z09 ns) (.list ((os.filter (free ns)).map opT)) [0] [0] none none none)=some (.nx (envU (z02 R os) (z09 ns) (.list ((os.filter (free ns)).map opT)) r [] j5 j6 j7)):=hs
 unfold z89
 rw[z07 hcomp,z07 h2,z07 h3,z07 hs2,h4]
 rfl
end Ho
end
section
namespace Ho
open PySem D
def wT (w:List Nat):T:=.tuple (w.map fun (k:Nat)=>PyData.int (k:Int))
noncomputable def bW (rec:List T->Option T):Fs:=(seq (asg 6 (opN z0u [(nmV 5),(op2 oIx (nm 2) (op1 oNeg (cst (.int 1))))]))
  (iff (andT (tstB (op1 z0p (nm 6))) (tstB (op2 (oIn true) (nm 6) (nm 2)))) (ext 3 (comp 1 [4] (z0a (opN rec [(nmV 0),(nmV 1),(op2 oAdd (nm 2) (z03 [(nmV 6)]))])) (gNm 0) (cstT true) (op2 oAdd (z03 [(nmV 1)]) (nm 0)))) skip))
noncomputable def envW (h:T) (room:Int) (pl:List Int) (acc:List (List Nat)) (j4 j5 j6:Option Sl):Ev:=[some (.imm h),some (.imm (.int room)),some (.imm (.tuple (pl.map .int))),some (.own (acc.map wT)),j4,j5,j6]
theorem zcb (k:Nat):∀(ws:List (List Nat)) (j:Option Sl),(∀w∈ws,w.length<=100)->z1v (gNm 0) (cstT true) (op2 oAdd (z03 [(nmV 1)]) (nm 0)) (ws.map wT) [j,some (.imm (.int k))]=some ((ws.map fun w=>k::w).map wT)
 | [],j,_=>rfl
 | w::ws,j,h=>by
  have ih:=zcb k ws (some (.imm (wT w))) fun w hw=>h w (by simp[hw])
  have hw:=h w (by simp)
  have e1:op2 oAdd (z03 [(nmV 1)]) (nm 0) [some (.imm (wT w)),some (.imm (.int k))]=some (wT (k::w)):=by
   have:1+w.length<=16777216:=by omega
   simp[op2,z03,args,nmV,nm,big,wT,oAdd,this]
  have e0:gNm 0 (wT w) [j,some (.imm (.int k))]=some [some (.imm (wT w)),some (.imm (.int k))]:=rfl
  simp only[y0d,z1v,e0,y0p,cstT,if_true,e1,ih,y1l]
theorem z7u {pl:List Int} {h:Int} (hp:pl.getLast?=some h):atZ (pl.map PyData.int) (-1)=some (.int h):=by
 have hne:pl≠[]:=fun z=>by subst z;cases hp
 have hl:=List.length_pos_iff.mpr hne
 have hx:ixOf (pl.map PyData.int).length (-1)=some (pl.length - 1):=by
  unfold ixOf
  rw[if_neg (by decide),y12,if_pos (by omega)]
  congr 1
  omega
 unfold atZ
 rw[hx]
 simp only[y0p,y13]
 rw[<- List.getLast?_eq_getElem?,hp]
 rfl
theorem zln {rec:List T->Option T} {recP:List Int->Option (List (List Nat))} (hT:T) (room:Int) (pl:List Int) (h:Int) (hp:pl.getLast?=some h) (hpl:pl.length<=100)
  (o:Op) (k:Nat) (acc:List (List Nat)) (j6:Option Sl) (vs:List (List Nat))
  (hv:(match Hg.adj (edge o) h with|some t=>if t∈pl then some [] else (recP (pl++[t])).map fun ws=>ws.map fun w=>k::w|none=>some [])=some vs)
  (hr:∀t ws,t∉pl->recP (pl++[t])=some ws->ws.length<=vs.length->rec [hT,.int room,.tuple ((pl++[t]).map .int)]=some (.list (ws.map wT))/\∀w∈ws,w.length<=100) (hz:acc.length+vs.length<=16777216) :
  ∃j6',bW rec (envW hT room pl acc (some (.imm (.int k))) (some (.imm (opT o))) j6)=some (.nx (envW hT room pl (acc++vs) (some (.imm (.int k))) (some (.imm (opT o))) j6')):=by
 have hb:=z9x o h
 have hi:=z7u hp
 have e1:opN z0u [(nmV 5),(op2 oIx (nm 2) (op1 oNeg (cst (.int 1))))] (envW hT room pl acc (some (.imm (.int k))) (some (.imm (opT o))) j6)=some (oT (Hg.adj (edge o) h)):=by
  have:op2 oIx (nm 2) (op1 oNeg (cst (.int 1))) (envW hT room pl acc (some (.imm (.int k))) (some (.imm (opT o))) j6)=some (.int h):=by
   simp only[op2,nm,envW,y26,y25,y0p,op1,cst,oNeg,oIx]
   exact hi
  have n5:nmV 5 (envW hT room pl acc (some (.imm (.int k))) (some (.imm (opT o))) j6)=some (opT o):=rfl
  simp only[opN,args,this,n5,y0p,y1l]
  exact hb
 have e2:asg 6 (opN z0u [(nmV 5),(op2 oIx (nm 2) (op1 oNeg (cst (.int 1))))]) (envW hT room pl acc (some (.imm (.int k))) (some (.imm (opT o))) j6)=some (.nx (envW hT room pl acc (some (.imm (.int k))) (some (.imm (opT o))) (some (.imm (oT (Hg.adj (edge o) h)))))):=by
  simp only[asg,e1,y1l]
  rfl
 refine⟨some (.imm (oT (Hg.adj (edge o) h))),?_⟩
 unfold bW
 rw[z07 e2]
 cases ha:Hg.adj (edge o) h with
 | none =>
  rw[ha] at hv
  cases hv
  simp[iff,andT,tstB,op1,z0p,nm,envW,oT,skip]
 | some t =>
  rw[ha] at hv
  by_cases hm:t∈pl
  ·simp only[hm,if_true] at hv
   cases hv
   simp[iff,andT,tstB,op1,op2,z0p,nm,envW,oT,skip,z7r,hm]
  ·simp only[hm,if_false,y07] at hv
   obtain⟨ws,hws,rfl⟩:=hv
   simp only[y12] at hz hr
   obtain⟨h1,h2⟩:=hr t ws hm hws (y0o _)
   have c1:andT (tstB (op1 z0p (nm 6))) (tstB (op2 (oIn true) (nm 6) (nm 2))) (envW hT room pl acc (some (.imm (.int k))) (some (.imm (opT o))) (some (.imm (oT (some t)))))=some true:=by
    simp[andT,tstB,op1,op2,z0p,nm,envW,oT,z7r,hm]
   have a1:op2 oAdd (nm 2) (z03 [(nmV 6)]) (envW hT room pl acc (some (.imm (.int k))) (some (.imm (opT o))) (some (.imm (oT (some t)))))=some (.tuple ((pl++[t]).map .int)):=by
    have:pl.length+1<=16777216:=by omega
    simp[op2,nm,nmV,envW,z03,args,big,oT,oAdd,this]
   have it1:z0a (opN rec [(nmV 0),(nmV 1),(op2 oAdd (nm 2) (z03 [(nmV 6)]))]) (envW hT room pl acc (some (.imm (.int k))) (some (.imm (opT o))) (some (.imm (oT (some t)))))=some (ws.map wT):=by
    have n0:nmV 0 (envW hT room pl acc (some (.imm (.int k))) (some (.imm (opT o))) (some (.imm (oT (some t)))))=some hT:=rfl
    have n1:nmV 1 (envW hT room pl acc (some (.imm (.int k))) (some (.imm (opT o))) (some (.imm (oT (some t)))))=some (.int room):=rfl
    simp only[z0a,opN,args,a1,n0,n1,y0p,y1l,h1]
   have cp:comp 1 [4] (z0a (opN rec [(nmV 0),(nmV 1),(op2 oAdd (nm 2) (z03 [(nmV 6)]))])) (gNm 0) (cstT true) (op2 oAdd (z03 [(nmV 1)]) (nm 0)) (envW hT room pl acc (some (.imm (.int k))) (some (.imm (opT o))) (some (.imm (oT (some t)))))=some (.list ((ws.map fun w=>k::w).map wT)):=by
    simp only[comp,it1,y0p,y12]
    rw[if_pos (by unfold big;omega)]
    have:z16 1 [4] (envW hT room pl acc (some (.imm (.int k))) (some (.imm (opT o))) (some (.imm (oT (some t)))))=[none,some (.imm (.int k))]:=rfl
    rw[this,zcb k ws none h2]
    rfl
   simp only[iff,c1,y0p,if_true,ext,cp]
   simp only[envW,y26,y25,y12]
   rw[if_pos (by unfold big;omega)]
   simp
theorem zg1 {rec:List T->Option T} {recP:List Int->Option (List (List Nat))} (hT:T) (room:Int) (pl:List Int) (h:Int) (hp:pl.getLast?=some h) (hpl:pl.length<=100) (N:Nat) (hN:N<=16777216)
  (hr:∀t ws,t∉pl->recP (pl++[t])=some ws->ws.length<=N->rec [hT,.int room,.tuple ((pl++[t]).map .int)]=some (.list (ws.map wT))/\∀w∈ws,w.length<=100) :
  ∀(os:List Op) (k:Nat) (acc vs:List (List Nat)) (j4 j5 j6:Option Sl),Hg.exts recP pl h k (os.map edge)=some vs->acc.length+vs.length<=N ->
   ∃j4' j5' j6',forL (gTu [(gNm 4),(gNm 5)]) (bW rec) (((os.map opT).zipIdx k).map fun p=>.tuple [.int p.2,p.1]) (envW hT room pl acc j4 j5 j6)=some (.nx (envW hT room pl (acc++vs) j4' j5' j6'))
 | [],k,acc,vs,j4,j5,j6,e,_=>by
  cases e
  exact⟨j4,j5,j6,by simp[forL]⟩
 | o::os,k,acc,vs,j4,j5,j6,e,hz=>by
  have key:∃v1 v2,(match Hg.adj (edge o) h with|some t=>if t∈pl then some [] else (recP (pl++[t])).map fun ws=>ws.map fun w=>k::w|none=>some [])=some v1/\Hg.exts recP pl h (k+1) (os.map edge)=some v2/\vs=v1++v2:=by
   rw[y0d] at e
   unfold Hg.exts at e
   cases ha:Hg.adj (edge o) h with
   | none =>
    rw[ha] at e
    exact⟨[],vs,rfl,e,rfl⟩
   | some t =>
    rw[ha] at e
    by_cases hm:t∈pl
    ·simp only[hm,if_true] at e ⊢
     exact⟨[],vs,rfl,e,rfl⟩
    ·simp only[hm,if_false,y01,y07] at e ⊢
     obtain⟨ws,h1,v2,h2,rfl⟩:=e
     exact⟨_,v2,⟨ws,h1,rfl⟩,h2,rfl⟩
  obtain⟨v1,v2,h1,h2,rfl⟩:=key
  rw[y1x] at hz
  obtain⟨j6',hs⟩:=zln (rec:=rec) (recP:=recP) hT room pl h hp hpl o k acc j6 v1 h1 (fun t ws a b c=>hr t ws a b (by omega)) (by omega)
  obtain⟨a,b,c,ih⟩:=zg1 (rec:=rec) (recP:=recP) hT room pl h hp hpl N hN hr os (k+1) (acc++v1) v2 (some (.imm (.int k))) (some (.imm (opT o))) j6' h2 (by rw[y1x];omega)
  refine⟨a,b,c,?_⟩
  have e0:gTu [(gNm 4),(gNm 5)] (.tuple [.int k,opT o]) (envW hT room pl acc j4 j5 j6)=some (envW hT room pl acc (some (.imm (.int k))) (some (.imm (opT o))) j6):=rfl
  rw[y0d,List.zipIdx_cons,y0d]
  simp only[forL,e0,y0p,hs]
  rw[ih,y2b]
theorem z8b {E:List (Int×Int)} {room:Int}:∀(n:Nat) (pl:List Int) (ws:List (List Nat)),Hg.waysP E room n pl=some ws->∀w∈ws,w.length<=n:=by
 have ex:∀(n:Nat) (rec:List Int->Option (List (List Nat))) (pl:List Int) (h:Int),(∀q ws,rec q=some ws->∀w∈ws,w.length<=n)->∀(E:List (Int×Int)) (k:Nat) (ws:List (List Nat)),Hg.exts rec pl h k E=some ws->∀w∈ws,w.length<=n+1:=by
  intro n rec pl h hr E
  induction E with
  | nil =>
   intro k ws e w hw
   cases e
   cases hw
  | cons e0 E ih =>
   intro k ws e w hw
   unfold Hg.exts at e
   split at e
   ·split at e
    ·exact ih _ _ e w hw
    ·simp only[y01,y07] at e
     obtain⟨us,h1,v2,h2,rfl⟩:=e
     rcases y10.mp hw with q|q
     ·obtain⟨u,hu,rfl⟩:=y0m.mp q
      have:=hr _ _ h1 u hu
      simp
      omega
     ·exact ih _ _ h2 w q
   ·exact ih _ _ e w hw
 intro n
 induction n with
 | zero =>
  intro pl ws e
  cases e
 | succ n ih =>
  intro pl ws e w hw
  unfold Hg.waysP at e
  split at e
  ·cases e
  ·split at e
   ·cases e
    simp at hw
    subst hw
    simp
   ·exact ex n _ _ _ (fun q ws e=>ih q ws e) _ _ _ e w hw
theorem z6p {R:Int} {os:List Op} {room:Int}:∀(n:Nat) (pl:List Int) (ws:List (List Nat)),n+pl.length<=90->Hg.waysP (os.map edge) room n pl=some ws->ws.length<=16777216 ->
  z15 n [z02 R os,.int room,.tuple (pl.map .int)]=some (.list (ws.map wT))
 | 0,pl,ws,hn,e,_=>by cases e
 | n+1,pl,ws,hn,e,hz=>by
  have e0:z15 (n+1) [z02 R os,.int room,.tuple (pl.map .int)]=(z4j (z15 n) [some (.imm (z02 R os)),some (.imm (.int room)),some (.imm (.tuple (pl.map .int))),none,none,none,none]).bind fun o=>match o with|.rt t=>some t|.nx _=>some .none|_=>none:=rfl
  rw[e0]
  unfold Hg.waysP at e
  cases hp:pl.getLast? with
  | none =>
   rw[hp] at e
   cases e
  | some h =>
   rw[hp] at e
   dsimp only at e
   have hi:=z7u hp
   have c0:tstB (op2 oEq (op2 oIx (nm 2) (op1 oNeg (cst (.int 1)))) (nm 1)) [some (.imm (z02 R os)),some (.imm (.int room)),some (.imm (.tuple (pl.map .int))),none,none,none,none]=some (decide (h=room)):=by
    simp only[tstB,op2,nm,y26,y25,y0p,op1,cst,oNeg,oIx,hi,z3c]
   unfold z4j
   by_cases hr:h=room
   ·rw[if_pos hr] at e
    cases e
    simp only[seq,iff,c0,hr,y0p,decide_true,if_true,rtn,z0i,z03,args,y1l]
    simp[big,wT]
   ·rw[if_neg hr] at e
    have s1:iff (tstB (op2 oEq (op2 oIx (nm 2) (op1 oNeg (cst (.int 1)))) (nm 1))) (rtn (z0i [(z03 [])])) skip [some (.imm (z02 R os)),some (.imm (.int room)),some (.imm (.tuple (pl.map .int))),none,none,none,none]=some (.nx [some (.imm (z02 R os)),some (.imm (.int room)),some (.imm (.tuple (pl.map .int))),none,none,none,none]):=by
     simp only[iff,c0,hr,y0p,decide_false,y1o,if_false,skip]
    have s2:asgN 3 (z0i []) [some (.imm (z02 R os)),some (.imm (.int room)),some (.imm (.tuple (pl.map .int))),none,none,none,none]=some (.nx (envW (z02 R os) room pl [] none none none)):=by
     simp[asgN,z0i,args,big,envW]
    obtain⟨a,b,c,hs⟩:=zg1 (rec:=z15 n) (recP:=Hg.waysP (os.map edge) room n) (z02 R os) room pl h hp (by omega) ws.length hz
     (fun t ws' _ h2 h3=>⟨z6p n (pl++[t]) ws' (by simp;omega) h2 (by omega),fun w hw=>y1k (z8b n _ _ h2 w hw) (by omega)⟩) os 0 [] ws none none none e (by simp)
    have it:z1p (z4q (op2 oIx (nm 0) (cst (.int 1)))) (envW (z02 R os) room pl [] none none none)=some (((os.map opT).zipIdx 0).map fun p=>.tuple [.int p.2,p.1]):=by
     simp[z1p,z4q,op2,nm,envW,z02,cst,oIx,atZ,ixOf,enum]
    have s3:for_ (z1p (z4q (op2 oIx (nm 0) (cst (.int 1))))) (gTu [(gNm 4),(gNm 5)]) (bW (z15 n)) (envW (z02 R os) room pl [] none none none)=some (.nx (envW (z02 R os) room pl ws a b c)):=by
     simp only[for_,it,y0p]
     exact hs
    rw[z07 s1,z07 s2]
    have s4:seq (for_ (z1p (z4q (op2 oIx (nm 0) (cst (.int 1))))) (gTu [(gNm 4),(gNm 5)]) (bW (z15 n))) (rtn (nm 3)) (envW (z02 R os) room pl [] none none none)=some (.rt (.list (ws.map wT))):=by
     rw[z07 s3]
     simp[rtn,nm,envW]
    have s5:=congrArg (fun x:Option Out=>x.bind fun o=>match o with|.rt t=>some t|.nx _=>some .none|_=>none) s4
    exact s5
theorem zjy {R:Int} {os:List Op} {room:Int} {ws:List (List Nat)} (h:Hg.waysP (os.map edge) room 20 [0]=some ws) (hz:ws.length<=16777216):z0r [z02 R os,.int room]=some (.tuple (ws.map wT)):=by
 have h1:=z6p (R:=R) 20 [0] ws (by decide) h hz
 have e0:z0r [z02 R os,.int room]=(zgp [some (.imm (z02 R os)),some (.imm (.int room))]).bind fun o=>match o with|.rt t=>some t|.nx _=>some .none|_=>none:=rfl
 rw[e0]
 have a1:args [(nmV 0),(nmV 1),(z03 [(cst (.int 0))])] [some (.imm (z02 R os)),some (.imm (.int room))]=some [z02 R os,.int room,.tuple ([0].map .int)]:=by
  simp[args,nmV,z03,cst,big]
 simp only[zgp,rtn,opN,args] at a1 ⊢
 rw[a1]
 simp only[y0p,h1,y1l,z2n]
end Ho
end
section
namespace Ho
open PySem D
def scriptT (ns:List Int):T:=.list (ns.map .int)
theorem zlf (ns:List Int) (k:Nat):z19 [scriptT ns,.int k]=some (.int (ns.getD k 0)):=by
 by_cases h:k<ns.length
 ·have h':(k:Int)<(ns.length:Int):=by omega
  simp[z19,z49,scriptT,runF,seq,iff,tstB,tstL,andT,orT,notT,cstT,ofT,op1,op2,opN,args,cst,nm,nmV,rtn,skip,asg,asgN,asgT,par,z03,z0i,oIsN,z0p,oIx,atZ,ixOf,gNm,gTu,gAll,z0a,comp,z16,oAdd,oSub,oMul,oDiv,oMod,oNeg,oLen,oMin,oMax,z2n,zmw,oInt,oLt,oLe,oGt,oGe,big,h,h',List.getD]
 ·have h':¬(k:Int)<(ns.length:Int):=by omega
  simp[z19,z49,scriptT,runF,seq,iff,tstB,tstL,andT,orT,notT,cstT,ofT,op1,op2,opN,args,cst,nm,nmV,rtn,skip,asg,asgN,asgT,par,z03,z0i,oIsN,z0p,oIx,atZ,ixOf,gNm,gTu,gAll,z0a,comp,z16,oAdd,oSub,oMul,oDiv,oMod,oNeg,oLen,oMin,oMax,z2n,zmw,oInt,oLt,oLe,oGt,oGe,big,h,h',List.getD]
theorem z5s {i j:Int} (h:-(2 ^ 64)<j/\j<2 ^ 64):oMul (.int i) (.int j)=some (.int (i*j)):=by
 unfold oMul zhz
 simp only[decide_eq_true h.1,decide_eq_true h.2,Bool.and_self,Bool.or_true,if_true]
theorem z35 {i j:Int} (h:0<j):oMod (.int i) (.int j)=some (.int (i % j)):=if_pos h
theorem z9k {i j:Int} (h:0<j/\j<1073741824):oDiv (.int i) (.int j)=some (.int (i / j)):=if_pos h
theorem z53 {i j:Int}:oAdd (.int i) (.int j)=some (.int (i+j)):=rfl
theorem zbp (ns:List Int) (k:Nat):∃m:Int,0<=m/\z1q [scriptT ns,.int k]=some (.int m):=by
 have hc:=zlf ns k
 have hd:0<=(ns.getD k 0+7919*(k:Int)+1)*48271 % 2147483647/\(ns.getD k 0+7919*(k:Int)+1)*48271 % 2147483647<2147483647:=⟨y29 _ (by decide),y2a _ (by decide)⟩
 generalize hx:(ns.getD k 0+7919*(k:Int)+1)*48271 % 2147483647=d at hd
 refine⟨(d*d+7*d+k) % 2147483629,y29 _ (by decide),?_⟩
 have e0:z1q [scriptT ns,.int k]=(z6i [some (.imm (scriptT ns)),some (.imm (.int k)),none]).bind fun o=>match o with|.rt t=>some t|.nx _=>some .none|_=>none:=rfl
 have m1:oMul (.int 7919) (.int k)=some (.int (7919*k)):=by
  unfold oMul zhz
  simp
 have n0:nmV 0 [some (.imm (scriptT ns)),some (.imm (.int k)),none]=some (scriptT ns):=rfl
 have n1:nmV 1 [some (.imm (scriptT ns)),some (.imm (.int k)),none]=some (.int k):=rfl
 have n1':nm 1 [some (.imm (scriptT ns)),some (.imm (.int k)),none]=some (.int k):=rfl
 have s1:asg 2 (op2 oMod (op2 oMul (op2 oAdd (op2 oAdd (opN z19 [(nmV 0),(nmV 1)]) (op2 oMul (cst (.int 7919)) (nm 1))) (cst (.int 1))) (cst (.int 48271))) (cst (.int 2147483647))) [some (.imm (scriptT ns)),some (.imm (.int k)),none]=some (.nx [some (.imm (scriptT ns)),some (.imm (.int k)),some (.imm (.int d))]):=by
  simp only[asg,op2,opN,args,n0,n1,n1',y0p,y1l,hc,cst,m1,z53,z5s (i:=ns.getD k 0+7919*(k:Int)+1) (j:=48271) (by decide),z35 (j:=2147483647) (by decide),hx]
  rfl
 have m2:oMul (.int d) (.int d)=some (.int (d*d)):=z5s (by omega)
 have m3:oMul (.int 7) (.int d)=some (.int (7*d)):=z5s (by omega)
 rw[e0]
 unfold z6i
 rw[z07 s1]
 have q2:nm 2 [some (.imm (scriptT ns)),some (.imm (.int k)),some (.imm (.int d))]=some (.int d):=rfl
 have q1:nm 1 [some (.imm (scriptT ns)),some (.imm (.int k)),some (.imm (.int d))]=some (.int k):=rfl
 simp only[rtn,op2,q2,q1,y0p,y1l,cst,m2,m3,z53,z35 (j:=2147483629) (by decide)]
theorem ziq (n k:Int) (hk:-(2 ^ 64)<k/\k<2 ^ 64):∃m:Int,0<=m/\z25 [.int n,.int k]=some (.int m):=by
 have hd:0<=(n+104729*k+17)*69621 % 2147483647/\(n+104729*k+17)*69621 % 2147483647<2147483647:=⟨y29 _ (by decide),y2a _ (by decide)⟩
 generalize hx:(n+104729*k+17)*69621 % 2147483647=d at hd
 refine⟨(d*d+3*d+k) % 2147483629,y29 _ (by decide),?_⟩
 have e0:z25 [.int n,.int k]=(z6k [some (.imm (.int n)),some (.imm (.int k)),none]).bind fun o=>match o with|.rt t=>some t|.nx _=>some .none|_=>none:=rfl
 have m1:oMul (.int 104729) (.int k)=some (.int (104729*k)):=z5s hk
 have n0:nm 0 [some (.imm (.int n)),some (.imm (.int k)),none]=some (.int n):=rfl
 have n1:nm 1 [some (.imm (.int n)),some (.imm (.int k)),none]=some (.int k):=rfl
 have s1:asg 2 (op2 oMod (op2 oMul (op2 oAdd (op2 oAdd (nm 0) (op2 oMul (cst (.int 104729)) (nm 1))) (cst (.int 17))) (cst (.int 69621))) (cst (.int 2147483647))) [some (.imm (.int n)),some (.imm (.int k)),none]=some (.nx [some (.imm (.int n)),some (.imm (.int k)),some (.imm (.int d))]):=by
  simp only[asg,op2,n0,n1,y0p,y1l,cst,m1,z53,z5s (i:=n+104729*k+17) (j:=69621) (by decide),z35 (j:=2147483647) (by decide),hx]
  rfl
 have m2:oMul (.int d) (.int d)=some (.int (d*d)):=z5s (by omega)
 have m3:oMul (.int 3) (.int d)=some (.int (3*d)):=z5s (by omega)
 rw[e0]
 unfold z6k
 rw[z07 s1]
 have q2:nm 2 [some (.imm (.int n)),some (.imm (.int k)),some (.imm (.int d))]=some (.int d):=rfl
 have q1:nm 1 [some (.imm (.int n)),some (.imm (.int k)),some (.imm (.int d))]=some (.int k):=rfl
 simp only[rtn,op2,q2,q1,y0p,y1l,cst,m2,m3,z53,z35 (j:=2147483629) (by decide)]
def z51:List Str:=["a","b","back","hall","win"]
def OpOk (R:Int) (o:Op):Prop:=0<=o.1/\o.1<o.2.1/\o.2.1<=R/\∀x,o.2.2=some x->x∈z51
structure Drawn (R:Int) (os:List Op):Prop where
 r1:1<=R
 r7:R<=7
 len:os.length<=10
 ok:∀o∈os,OpOk R o
noncomputable def bH:Fs:=(seq (asg 4 (op2 oDiv (opN z25 [(nmV 0),(op2 oAdd (cst (.int 50)) (nm 3))]) (cst (.int 4))))
  (seq (asg 5 (op2 oMod (nm 4) (op2 oAdd (nm 1) (cst (.int 1)))))
  (seq (asg 6 (op2 oMod (op2 oAdd (op2 oAdd (nm 5) (cst (.int 1))) (op2 oMod (op2 oDiv (nm 4) (cst (.int 8))) (nm 1))) (op2 oAdd (nm 1) (cst (.int 1)))))
  (seq (asg 7 (op2 oIx (z03 [(cst .none),(cst .none),(cst (.str "a")),(cst (.str "b")),(cst (.str "back")),(cst (.str "hall")),(cst (.str "win"))]) (op2 oMod (op2 oDiv (nm 4) (cst (.int 64))) (cst (.int 7)))))
  (asg 2 (op2 oAdd (nm 2) (z03 [(z03 [(opN oMin [(nm 5),(nm 6)]),(opN oMax [(nm 5),(nm 6)]),(nmV 7)])])))))))
def envH (n R:Int) (os:List Op) (j3 j4 j5 j6 j7:Option Sl):Ev:=[some (.imm (.int n)),some (.imm (.int R)),some (.imm (.tuple (os.map opT))),j3,j4,j5,j6,j7]
theorem zjv (i:Int) (h0:0<=i) (h7:i<7) (ε:Ev):∃z:Option Str,(z03 [(cst .none),(cst .none),(cst (.str "a")),(cst (.str "b")),(cst (.str "back")),(cst (.str "hall")),(cst (.str "win"))] ε).bind (fun t=>oIx t (.int i))=some (zT z)/\∀x,z=some x->x∈z51:=by
 have hc:i=0\/i=1\/i=2\/i=3\/i=4\/i=5\/i=6:=by omega
 have e:z03 [(cst .none),(cst .none),(cst (.str "a")),(cst (.str "b")),(cst (.str "back")),(cst (.str "hall")),(cst (.str "win"))] ε=some (.tuple [.none,.none,.str "a",.str "b",.str "back",.str "hall",.str "win"]):=by
  simp[z03,args,cst,big]
 rw[e]
 rcases hc with rfl|rfl|rfl|rfl|rfl|rfl|rfl
 ·exact⟨none,rfl,fun x h=>by cases h⟩
 ·exact⟨none,rfl,fun x h=>by cases h⟩
 ·exact⟨some "a",rfl,fun x h=>by cases h;simp[z51]⟩
 ·exact⟨some "b",rfl,fun x h=>by cases h;simp[z51]⟩
 ·exact⟨some "back",rfl,fun x h=>by cases h;simp[z51]⟩
 ·exact⟨some "hall",rfl,fun x h=>by cases h;simp[z51]⟩
 ·exact⟨some "win",rfl,fun x h=>by cases h;simp[z51]⟩
theorem zd2 (n R:Int) (h1:1<=R) (h7:R<=7) (os:List Op) (hl:os.length<1000) (k:Int) (hk:0<=k/\k<1000) (j4 j5 j6 j7:Option Sl) :
  ∃o j4' j5' j6' j7',OpOk R o/\bH (envH n R os (some (.imm (.int k))) j4 j5 j6 j7)=some (.nx (envH n R (os++[o]) (some (.imm (.int k))) j4' j5' j6' j7')):=by
 obtain⟨m,hm,hd⟩:=ziq n (50+k) (by omega)
 have q0:0<=m / 4:=Int.ediv_nonneg hm (by decide)
 generalize hq:m / 4=q at q0
 have s1:asg 4 (op2 oDiv (opN z25 [(nmV 0),(op2 oAdd (cst (.int 50)) (nm 3))]) (cst (.int 4))) (envH n R os (some (.imm (.int k))) j4 j5 j6 j7)=some (.nx (envH n R os (some (.imm (.int k))) (some (.imm (.int q))) j5 j6 j7)):=by
  have n0:nmV 0 (envH n R os (some (.imm (.int k))) j4 j5 j6 j7)=some (.int n):=rfl
  have n3:nm 3 (envH n R os (some (.imm (.int k))) j4 j5 j6 j7)=some (.int k):=rfl
  simp only[asg,op2,opN,args,n0,n3,cst,z53,y0p,y1l,hd,z9k (j:=4) (by decide),hq]
  rfl
 have hone:0<=q % (R+1)/\q % (R+1)<R+1:=⟨y29 _ (by omega),y2a _ (by omega)⟩
 have hother:0<=q / 8 % R/\q / 8 % R<R:=⟨y29 _ (by omega),y2a _ (by omega)⟩
 have hneq:(q % (R+1)+1+q / 8 % R) % (R+1)≠q % (R+1):=by
  generalize q % (R+1)=a at *
  generalize q / 8 % R=b at *
  intro e
  by_cases c:a+1+b<R+1
  ·rw[Int.emod_eq_of_lt (by omega) c] at e
   omega
  ·have:(a+1+b) % (R+1)=a+1+b - (R+1):=by
    rw[<- Int.sub_emod_right,Int.emod_eq_of_lt (by omega) (by omega)]
   omega
 have hoth:0<=(q % (R+1)+1+q / 8 % R) % (R+1)/\(q % (R+1)+1+q / 8 % R) % (R+1)<R+1:=⟨y29 _ (by omega),y2a _ (by omega)⟩
 have s2:asg 5 (op2 oMod (nm 4) (op2 oAdd (nm 1) (cst (.int 1)))) (envH n R os (some (.imm (.int k))) (some (.imm (.int q))) j5 j6 j7)=some (.nx (envH n R os (some (.imm (.int k))) (some (.imm (.int q))) (some (.imm (.int (q % (R+1))))) j6 j7)):=by
  have n4:nm 4 (envH n R os (some (.imm (.int k))) (some (.imm (.int q))) j5 j6 j7)=some (.int q):=rfl
  have n1:nm 1 (envH n R os (some (.imm (.int k))) (some (.imm (.int q))) j5 j6 j7)=some (.int R):=rfl
  simp only[asg,op2,n4,n1,cst,z53,y0p,y1l,z35 (j:=R+1) (by omega)]
  rfl
 generalize q % (R+1)=one at *
 have s3:asg 6 (op2 oMod (op2 oAdd (op2 oAdd (nm 5) (cst (.int 1))) (op2 oMod (op2 oDiv (nm 4) (cst (.int 8))) (nm 1))) (op2 oAdd (nm 1) (cst (.int 1)))) (envH n R os (some (.imm (.int k))) (some (.imm (.int q))) (some (.imm (.int one))) j6 j7)=some (.nx (envH n R os (some (.imm (.int k))) (some (.imm (.int q))) (some (.imm (.int one))) (some (.imm (.int ((one+1+q / 8 % R) % (R+1))))) j7)):=by
  have n5:nm 5 (envH n R os (some (.imm (.int k))) (some (.imm (.int q))) (some (.imm (.int one))) j6 j7)=some (.int one):=rfl
  have n4:nm 4 (envH n R os (some (.imm (.int k))) (some (.imm (.int q))) (some (.imm (.int one))) j6 j7)=some (.int q):=rfl
  have n1:nm 1 (envH n R os (some (.imm (.int k))) (some (.imm (.int q))) (some (.imm (.int one))) j6 j7)=some (.int R):=rfl
  simp only[asg,op2,n5,n4,n1,cst,z53,y0p,y1l,z9k (j:=8) (by decide),z35 (j:=R) (by omega),z35 (j:=R+1) (by omega)]
  rfl
 generalize (one+1+q / 8 % R) % (R+1)=oth at *
 obtain⟨z,hz,hzn⟩:=zjv (q / 64 % 7) (y29 _ (by decide)) (y2a _ (by decide)) (envH n R os (some (.imm (.int k))) (some (.imm (.int q))) (some (.imm (.int one))) (some (.imm (.int oth))) j7)
 have s4:asg 7 (op2 oIx (z03 [(cst .none),(cst .none),(cst (.str "a")),(cst (.str "b")),(cst (.str "back")),(cst (.str "hall")),(cst (.str "win"))]) (op2 oMod (op2 oDiv (nm 4) (cst (.int 64))) (cst (.int 7)))) (envH n R os (some (.imm (.int k))) (some (.imm (.int q))) (some (.imm (.int one))) (some (.imm (.int oth))) j7)=some (.nx (envH n R os (some (.imm (.int k))) (some (.imm (.int q))) (some (.imm (.int one))) (some (.imm (.int oth))) (some (.imm (zT z))))):=by
  have n4:nm 4 (envH n R os (some (.imm (.int k))) (some (.imm (.int q))) (some (.imm (.int one))) (some (.imm (.int oth))) j7)=some (.int q):=rfl
  have hi:op2 oMod (op2 oDiv (nm 4) (cst (.int 64))) (cst (.int 7)) (envH n R os (some (.imm (.int k))) (some (.imm (.int q))) (some (.imm (.int one))) (some (.imm (.int oth))) j7)=some (.int (q / 64 % 7)):=by
   simp only[op2,n4,cst,y0p,z9k (j:=64) (by decide),z35 (j:=7) (by decide)]
  have hh:op2 oIx (z03 [(cst .none),(cst .none),(cst (.str "a")),(cst (.str "b")),(cst (.str "back")),(cst (.str "hall")),(cst (.str "win"))]) (op2 oMod (op2 oDiv (nm 4) (cst (.int 64))) (cst (.int 7))) (envH n R os (some (.imm (.int k))) (some (.imm (.int q))) (some (.imm (.int one))) (some (.imm (.int oth))) j7)=some (zT z):=by
   rw[<- hz]
   unfold op2 at hi ⊢
   simp only[hi,y0p]
  simp only[asg,hh,y1l]
  rfl
 refine⟨((if oth<one then oth else one),(if oth > one then oth else one),z),some (.imm (.int q)),some (.imm (.int one)),some (.imm (.int oth)),some (.imm (zT z)),⟨?_,?_,?_,hzn⟩,?_⟩
 ·dsimp only
  split <;> omega
 ·dsimp only
  split <;> split <;> omega
 ·dsimp only
  split <;> omega
 ·have s5:asg 2 (op2 oAdd (nm 2) (z03 [(z03 [(opN oMin [(nm 5),(nm 6)]),(opN oMax [(nm 5),(nm 6)]),(nmV 7)])])) (envH n R os (some (.imm (.int k))) (some (.imm (.int q))) (some (.imm (.int one))) (some (.imm (.int oth))) (some (.imm (zT z))))=some (.nx (envH n R (os++[((if oth<one then oth else one),(if oth > one then oth else one),z)]) (some (.imm (.int k))) (some (.imm (.int q))) (some (.imm (.int one))) (some (.imm (.int oth))) (some (.imm (zT z))))):=by
   have n5:nm 5 (envH n R os (some (.imm (.int k))) (some (.imm (.int q))) (some (.imm (.int one))) (some (.imm (.int oth))) (some (.imm (zT z))))=some (.int one):=rfl
   have n6:nm 6 (envH n R os (some (.imm (.int k))) (some (.imm (.int q))) (some (.imm (.int one))) (some (.imm (.int oth))) (some (.imm (zT z))))=some (.int oth):=rfl
   have n7:nmV 7 (envH n R os (some (.imm (.int k))) (some (.imm (.int q))) (some (.imm (.int one))) (some (.imm (.int oth))) (some (.imm (zT z))))=some (zT z):=rfl
   have n2:nm 2 (envH n R os (some (.imm (.int k))) (some (.imm (.int q))) (some (.imm (.int one))) (some (.imm (.int oth))) (some (.imm (zT z))))=some (.tuple (os.map opT)):=rfl
   have hb:(os.map opT).length+1<=16777216:=by simp;omega
   simp only[asg,op2,opN,z03,args,n5,n6,n7,n2,y0p,y1l,oMin,oMax,oAdd,y0w,y28,big]
   simp[hb,envH,opT]
   omega
  unfold bH
  rw[z07 s1,z07 s2,z07 s3,z07 s4,s5]
theorem z77 (n R:Int) (h1:1<=R) (h7:R<=7):∀(ks:List Int) (os:List Op) (j3 j4 j5 j6 j7:Option Sl),(∀k∈ks,0<=k/\k<1000)->os.length+ks.length<1000->(∀o∈os,OpOk R o) ->
  ∃os' j3' j4' j5' j6' j7',os'.length=os.length+ks.length/\(∀o∈os',OpOk R o)/\forL (gNm 3) bH (ks.map .int) (envH n R os j3 j4 j5 j6 j7)=some (.nx (envH n R os' j3' j4' j5' j6' j7'))
 | [],os,j3,j4,j5,j6,j7,_,_,ho=>⟨os,j3,j4,j5,j6,j7,rfl,ho,rfl⟩
 | k::ks,os,j3,j4,j5,j6,j7,hk,hl,ho=>by
  simp only[y0w] at hl
  obtain⟨o,a4,a5,a6,a7,oo,hs⟩:=zd2 n R h1 h7 os (by omega) k (hk k (by simp)) j4 j5 j6 j7
  obtain⟨os',b3,b4,b5,b6,b7,e1,e2,e3⟩:=z77 n R h1 h7 ks (os++[o]) (some (.imm (.int k))) a4 a5 a6 a7 (fun k' h=>hk k' (by simp[h])) (by simp;omega) fun o' h=>by
   rcases y10.mp h with q|q
   ·exact ho o' q
   ·simp at q
    subst q
    exact oo
  refine⟨os',b3,b4,b5,b6,b7,by rw[e1];simp;omega,e2,?_⟩
  have e0:gNm 3 (.int k) (envH n R os j3 j4 j5 j6 j7)=some (envH n R os (some (.imm (.int k))) j4 j5 j6 j7):=rfl
  simp only[y0d,forL,e0,y0p,hs,e3]
theorem zif (n:Int) (hn:0<=n):∃R os,Drawn R os/\z3j [.int n]=some (z02 R os):=by
 have hR:0<=n % 7/\n % 7<7:=⟨y29 _ (by decide),y2a _ (by decide)⟩
 have hN:0<=n / 8 % 11/\n / 8 % 11<11:=⟨y29 _ (by decide),y2a _ (by decide)⟩
 have s1:asg 1 (op2 oAdd (cst (.int 1)) (op2 oMod (nm 0) (cst (.int 7)))) [some (.imm (.int n)),none,none,none,none,none,none,none]=some (.nx [some (.imm (.int n)),some (.imm (.int (1+n % 7))),none,none,none,none,none,none]):=by
  have n0:nm 0 [some (.imm (.int n)),none,none,none,none,none,none,none]=some (.int n):=rfl
  simp only[asg,op2,n0,cst,y0p,y1l,z35 (j:=7) (by decide),z53]
  rfl
 have s2:asg 2 (z03 []) [some (.imm (.int n)),some (.imm (.int (1+n % 7))),none,none,none,none,none,none]=some (.nx (envH n (1+n % 7) [] none none none none none)):=by
  simp[asg,z03,args,big,envH]
 have hit:z36 (op2 oMod (op2 oDiv (nm 0) (cst (.int 8))) (cst (.int 11))) (envH n (1+n % 7) [] none none none none none)=some (((List.range (n / 8 % 11).toNat).map fun (k:Nat)=>(k:Int)).map .int):=by
  have n0:nm 0 (envH n (1+n % 7) [] none none none none none)=some (.int n):=rfl
  have hs:z1h (n / 8 % 11)=true:=by
   unfold z1h
   simp
   omega
  simp only[z36,op2,n0,cst,y0p,z9k (j:=8) (by decide),z35 (j:=11) (by decide),hs,if_true,rng,Int.sub_zero,Int.zero_add,y2d,Function.comp_def]
 obtain⟨os,b3,b4,b5,b6,b7,e1,e2,e3⟩:=z77 n (1+n % 7) (by omega) (by omega) ((List.range (n / 8 % 11).toNat).map fun (k:Nat)=>(k:Int)) [] none none none none none (fun k hk=>by
  obtain⟨j,hj,rfl⟩:=y0m.mp hk
  have:=List.mem_range.mp hj
  omega) (by simp;omega) (by simp)
 simp only[y28,y12,List.length_range] at e1
 refine⟨1+n % 7,os,⟨by omega,by omega,by omega,e2⟩,?_⟩
 have s3:for_ (z36 (op2 oMod (op2 oDiv (nm 0) (cst (.int 8))) (cst (.int 11)))) (gNm 3) bH (envH n (1+n % 7) [] none none none none none)=some (.nx (envH n (1+n % 7) os b3 b4 b5 b6 b7)):=by
  simp only[for_,hit,y0p]
  exact e3
 have s4:seq (for_ (z36 (op2 oMod (op2 oDiv (nm 0) (cst (.int 8))) (cst (.int 11)))) (gNm 3) bH) (rtn (z03 [(nmV 1),(nmV 2)])) (envH n (1+n % 7) [] none none none none none)=some (.rt (z02 (1+n % 7) os)):=by
  rw[z07 s3]
  simp[rtn,z03,args,nmV,envH,big,z02]
 have e0:z3j [.int n]=(z6j [some (.imm (.int n)),none,none,none,none,none,none,none]).bind fun o=>match o with|.rt t=>some t|.nx _=>some .none|_=>none:=rfl
 rw[e0]
 unfold z6j
 rw[z07 s1,z07 s2]
 exact congrArg (fun x:Option Out=>x.bind fun o=>match o with|.rt t=>some t|.nx _=>some .none|_=>none) s4
end Ho
end
section
namespace Ho
open PySem D
local instance:Tbl:=⟨[],fun _=>[],fun _=>none⟩
theorem z9j {R:Int} {os:List Op} (d:Drawn R os):zgs os:=fun o ho x hx=>by
 have:=(d.ok o ho).2.2.2 x hx
 simp only[z51,y09,List.not_mem_nil,or_false] at this
 rcases this with rfl|rfl|rfl|rfl|rfl <;> decide +kernel
theorem z4k {R:Int} {os:List Op} (d:Drawn R os):Hg.Within R (os.map edge):=fun e he=>by
 obtain⟨o,ho,rfl⟩:=y0m.mp he
 have:=d.ok o ho
 unfold OpOk at this
 unfold edge
 dsimp only
 omega
theorem z5f {R:Int} {os:List Op} (d:Drawn R os) (ns:List Str):Hg.Within R (z0y ns os):=fun e he=>by
 obtain⟨o,ho,rfl⟩:=y0m.mp he
 exact z4k d (edge o) (y0m.mpr ⟨o,(List.mem_filter.mp ho).1,rfl⟩)
def z4x (F:List (Int×Int)):List Int:=z3a ((Hg.bfs F 1000 [0] [0]).getD [])
theorem zbg {R:Int} {F:List (Int×Int)} (hE:Hg.Within R F) (h0:0<=R) (h7:R<=7) :
  (∃r,Hg.bfs F 1000 [0] [0]=some r/\r.length<=8/\z4x F=z3a r)/\(∀x,x∈z4x F <-> Hg.Reach F x)/\(z4x F).Pairwise (·<·)/\∀x∈z4x F,0<=x/\x<=R:=by
 obtain⟨r,h1,h2,h3,h4⟩:=Hg.bfs_ok hE h0 h7 (n:=1000) (by decide)
 have e:z4x F=z3a r:=by rw[z4x,h1];rfl
 have hp:=z2k r
 refine⟨⟨r,h1,Hg.nodup_len 8 r h2 fun x hx=>by have:=h4 x hx;omega,e⟩,fun x=>by rw[e,hp.mem_iff];exact h3 x,?_,fun x hx=>h4 x (hp.mem_iff.mp (e▸hx))⟩
 rw[e]
 have nd:(z3a r).Nodup:=hp.nodup_iff.mpr h2
 have pw:=z57 r
 exact (pw.and nd).imp fun h=>by have h1:=h.1;have h2:=h.2;omega
theorem zcn {R:Int} {os:List Op} (d:Drawn R os) {ns:List Str} (hn:z54 ns):z2d [z02 R os,.tuple (ns.map .str)]=some (.tuple ((z4x (z0y ns os)).map .int)):=by
 obtain⟨⟨r,h1,h2,h3⟩,_⟩:=zbg (z5f d ns) (by have:=d.r1;omega) d.r7
 rw[h3]
 exact zdh hn (z9j d) d.len h1 h2
theorem zgt {R:Int} {os:List Op} (d:Drawn R os) (room:Int):∃ws,Hg.waysP (os.map edge) room 20 [0]=some ws/\z0r [z02 R os,.int room]=some (.tuple (ws.map wT))/\(ws≠[] <-> Hg.Reach (os.map edge) room):=by
 obtain⟨ws,h1,h2⟩:=Hg.ways_tot (z4k d) d.r7 (by simpa using d.len) room 20 [0] (by simp) (by simp) (by have:=d.r1;simp;omega) (by simp)
 exact⟨ws,h1,zjy h1 (y1k h2 (by simp)),Hg.ways_iff h1⟩
theorem zf5 {l m:List Int} (h1:l.Pairwise (·<·)) (h2:m.Pairwise (·<·)) (h:∀x,x∈l <-> x∈m):l=m :=
 z12 (fun a b p q=>by omega) (z7q (h1.imp fun h=>Int.ne_of_lt h) (h2.imp fun h=>Int.ne_of_lt h) h) h1 h2
def bare (ns:List Str) (o:Op):Op:=(o.1,o.2.1,match o.2.2 with
 | none=>none
 | some x=>if x∈ns then none else some x)
theorem z38 {f:Fe} {ε:Ev} {x:T} (hf:f ε=some x):args [f] ε=some [x]:=by simp only[args,hf,y0p,y1l]
theorem z3u {f g:Fe} {ε:Ev} {x y:T} (hf:f ε=some x) (hg:g ε=some y):args [f,g] ε=some [x,y]:=by simp only[args,hf,hg,y0p,y1l]
theorem znr {f g h:Fe} {ε:Ev} {x y z:T} (hf:f ε=some x) (hg:g ε=some y) (hh:h ε=some z):args [f,g,h] ε=some [x,y,z]:=by simp only[args,hf,hg,hh,y0p,y1l]
theorem z2y {fs:List Fe} {ε:Ev} {xs:List T} (h:args fs ε=some xs) (hl:xs.length<=16777216):z03 fs ε=some (.tuple xs):=by
 simp only[z03,h,y0p]
 exact if_pos hl
theorem z0o {fs:List Fe} {ε:Ev} {xs:List T} {o:List T->Option T} {t:T} (h:args fs ε=some xs) (ho:o xs=some t):opN o fs ε=some t:=by
 simp only[opN,h,y0p,ho]
theorem z0f {f g:Fe} {ε:Ev} {o:T->T->Option T} {x y t:T} (hf:f ε=some x) (hg:g ε=some y) (ho:o x y=some t):op2 o f g ε=some t:=by
 simp only[op2,hf,hg,y0p,ho]
theorem z1b {f:Fe} {ε:Ev} {b:Bool} (h:f ε=some (.bool b)):tstB f ε=some b:=by
 simp only[tstB,h,y0p]
theorem z2q {i:Nat} {f:Fe} {ε:Ev} {t:T} (h:f ε=some t):asg i f ε=some (.nx (ε.set i (some (.imm t)))):=by
 simp only[asg,h,y1l]
theorem z9c {c:Ft} {a b:Fs} {ε:Ev} (h:c ε=some false):iff c a b ε=b ε:=by
 simp only[iff,h,y0p,y1o,if_false]
theorem z2i {c:Ft} {a b:Fs} {ε:Ev} (h:c ε=some true):iff c a b ε=a ε:=by
 simp only[iff,h,y0p,if_true]
theorem z7f {xs ys:List T} (h:xs.length+ys.length<=16777216):oAdd (.tuple xs) (.tuple ys)=some (.tuple (xs++ys)):=if_pos h
theorem z2j {g:Fg} {b:Fs} {t:T} {ts:List T} {ε ε1 ε2:Ev} (h1:g t ε=some ε1) (h2:b ε1=some (.nx ε2)):forL g b (t::ts) ε=forL g b ts ε2:=by
 simp only[forL,h1,h2,y0p]
end Ho
end
section
namespace Hg
def Fol (E:List (Int×Int)):Int->List Nat->List Int->Prop
 | _,[],p=>p=[]
 | cur,k::w,p=>∃e t q,E[k]?=some e/\adj e cur=some t/\p=t::q/\Fol E t w q
theorem zc3 {rec:List Int->Option (List (List Nat))} {pl:List Int} {h:Int}:∀{E:List (Int×Int)} {k:Nat} {ws:List (List Nat)},exts rec pl h k E=some ws->∀w,w∈ws <-> ∃j e t us w',E[j]?=some e/\adj e h=some t/\t∉pl/\rec (pl++[t])=some us/\w'∈us/\w=(k+j)::w'
 | [],k,ws,e,w=>by
  cases e
  simp
 | e::es,k,ws,h1,w=>by
  have sh:∀{vs:List (List Nat)},exts rec pl h (k+1) es=some vs->(w∈vs <-> ∃j e' t us w',(e::es)[j+1]?=some e'/\adj e' h=some t/\t∉pl/\rec (pl++[t])=some us/\w'∈us/\w=(k+(j+1))::w'):=fun hv=>by
   rw[zc3 hv w]
   constructor
   ·rintro⟨j,e',t,us,w',a1,a2,a3,a4,a5,a6⟩
    exact⟨j,e',t,us,w',by simpa using a1,a2,a3,a4,a5,by rw[a6];congr 1;omega⟩
   ·rintro⟨j,e',t,us,w',a1,a2,a3,a4,a5,a6⟩
    exact⟨j,e',t,us,w',by simpa using a1,a2,a3,a4,a5,by rw[a6];congr 1;omega⟩
  unfold exts at h1
  split at h1
  next t ht =>
   split at h1
   next hm =>
    rw[sh h1]
    constructor
    ·rintro⟨j,r⟩
     exact⟨j+1,r⟩
    ·rintro⟨j,e',t',us,w',a1,a2,a3,r⟩
     cases j with
     | zero =>
      cases a1
      rw[ht] at a2
      cases a2
      exact absurd hm a3
     | succ j=>exact⟨j,e',t',us,w',a1,a2,a3,r⟩
   next hm =>
    simp only[y01,y07] at h1
    obtain⟨us,h2,vs,h3,rfl⟩:=h1
    rw[y10,sh h3,y0m]
    constructor
    ·rintro (⟨w',q1,q2⟩|⟨j,r⟩)
     ·exact⟨0,e,t,us,w',rfl,ht,hm,h2,q1,by rw[<- q2];rfl⟩
     ·exact⟨j+1,r⟩
    ·rintro⟨j,e',t',us',w',a1,a2,a3,a4,a5,a6⟩
     cases j with
     | zero =>
      cases a1
      rw[ht] at a2
      cases a2
      rw[h2] at a4
      cases a4
      exact .inl ⟨w',a5,a6.symm⟩
     | succ j=>exact .inr ⟨j,e',t',us',w',a1,a2,a3,a4,a5,a6⟩
  next hn =>
   rw[sh h1]
   constructor
   ·rintro⟨j,r⟩
    exact⟨j+1,r⟩
   ·rintro⟨j,e',t',us,w',a1,a2,a3,r⟩
    cases j with
    | zero =>
     cases a1
     rw[hn] at a2
     cases a2
    | succ j=>exact⟨j,e',t',us,w',a1,a2,a3,r⟩
theorem zil {rec:List Int->Option (List (List Nat))} {pl:List Int} {h:Int} {E:List (Int×Int)} {k:Nat} {ws:List (List Nat)} (e:exts rec pl h k E=some ws) {j:Nat} {e':Int×Int} {t:Int} (h1:E[j]?=some e') (h2:adj e' h=some t) (h3:t∉pl):∃vs,rec (pl++[t])=some vs:=by
 obtain⟨vs,hv,_⟩:=z3i e t ⟨e',y1p h1,h2⟩ h3
 exact⟨vs,hv⟩
theorem z7c {E:List (Int×Int)} {room:Int}:∀{n:Nat} {pl:List Int} {cur:Int} {ws:List (List Nat)},pl.getLast?=some cur->waysP E room n pl=some ws->∀w,w∈ws <-> ∃p,Fol E cur w p/\p.Nodup/\(∀y∈p,y∉pl)/\(cur::p).getLast?=some room
 | 0,pl,cur,ws,_,h,_=>by cases h
 | n+1,pl,cur,ws,hl,h,w=>by
  have hcur:cur∈pl:=List.mem_of_getLast? hl
  unfold waysP at h
  rw[hl] at h
  simp only at h
  split at h
  next e =>
   subst e
   cases h
   constructor
   ·intro hw
    have:w=[]:=by simpa using hw
    subst this
    exact⟨[],rfl,by simp,by simp,rfl⟩
   ·rintro⟨p,h1,h2,h3,h4⟩
    cases w with
    | nil=>simp
    | cons k w =>
     obtain⟨e',t,q,_,_,rfl,_⟩:=h1
     have hm:cur∈t::q:=by
      rw[List.getLast?_cons_cons] at h4
      exact List.mem_of_getLast? h4
     exact absurd hcur (h3 cur hm)
  next hne =>
   rw[zc3 h w]
   constructor
   ·rintro⟨j,e',t,us,w',a1,a2,a3,a4,a5,a6⟩
    obtain⟨p,p1,p2,p3,p4⟩:=(z7c (pl:=pl++[t]) (cur:=t) (by simp) a4 w').mp a5
    refine⟨t::p,?_,?_,?_,by rw[List.getLast?_cons_cons];exact p4⟩
    ·rw[a6]
     exact⟨e',t,p,by simpa using a1,a2,rfl,p1⟩
    ·exact y0r.mpr ⟨fun z=>p3 t z (by simp),p2⟩
    ·intro y hy
     rcases y09.mp hy with rfl|hy
     ·exact a3
     ·exact fun z=>p3 y hy (by simp[z])
   ·rintro⟨p,h1,h2,h3,h4⟩
    cases w with
    | nil =>
     have:p=[]:=h1
     subst this
     simp at h4
     exact absurd h4 hne
    | cons k w =>
     obtain⟨e',t,q,b1,b2,rfl,b3⟩:=h1
     have ht:t∉pl:=h3 t (by simp)
     obtain⟨us,hu⟩:=zil h b1 b2 ht
     have nd:=y0r.mp h2
     refine⟨k,e',t,us,w,b1,b2,ht,hu,?_,by simp⟩
     refine (z7c (pl:=pl++[t]) (cur:=t) (by simp) hu w).mpr ⟨q,b3,nd.2,fun y hy z=>?_,by rw[List.getLast?_cons_cons] at h4;exact h4⟩
     rcases y10.mp z with z|z
     ·exact h3 y (by simp[hy]) z
     ·have:y=t:=by simpa using z
      subst this
      exact nd.1 hy
theorem ways_char {E:List (Int×Int)} {room:Int} {n:Nat} {ws:List (List Nat)} (h:waysP E room n [0]=some ws) (w:List Nat):w∈ws <-> ∃p,Fol E 0 w p/\((0:Int)::p).Nodup/\((0:Int)::p).getLast?=some room:=by
 rw[z7c (cur:=0) rfl h w]
 constructor
 ·rintro⟨p,h1,h2,h3,h4⟩
  exact⟨p,h1,y0r.mpr ⟨fun z=>h3 0 z (by simp),h2⟩,h4⟩
 ·rintro⟨p,h1,h2,h4⟩
  have nd:=y0r.mp h2
  exact⟨p,h1,nd.2,fun y hy z=>nd.1 (by have:y=0:=(by simpa using z);exact this▸hy),h4⟩
end Hg
end
section
namespace Hg
theorem zas {rec:List Int->Option (List (List Nat))} (hr:∀q us,rec q=some us->us.Pairwise (·<·)) {pl:List Int} {h:Int}:∀{E:List (Int×Int)} {k:Nat} {ws:List (List Nat)},exts rec pl h k E=some ws->ws.Pairwise (·<·)/\∀w∈ws,∃j w',k<=j/\w=j::w'
 | [],k,ws,e=>by
  cases e
  exact⟨.nil,by simp⟩
 | e::es,k,ws,h1=>by
  have up:∀{vs:List (List Nat)},exts rec pl h (k+1) es=some vs->vs.Pairwise (·<·)/\∀w∈vs,∃j w',k<=j/\w=j::w':=fun hv=>by
   obtain⟨a,b⟩:=zas hr hv
   refine⟨a,fun w hw=>?_⟩
   obtain⟨j,w',h1,h2⟩:=b w hw
   exact⟨j,w',by omega,h2⟩
  unfold exts at h1
  split at h1
  next t ht =>
   split at h1
   next hm=>exact up h1
   next hm =>
    simp only[y01,y07] at h1
    obtain⟨us,h2,vs,h3,rfl⟩:=h1
    obtain⟨a,b⟩:=zas hr h3
    constructor
    ·rw[List.pairwise_append]
     refine⟨?_,a,fun x hx y hy=>?_⟩
     ·rw[List.pairwise_map]
      exact (hr _ _ h2).imp fun q=>List.cons_lt_cons_iff.mpr (.inr ⟨rfl,q⟩)
     ·obtain⟨u,_,rfl⟩:=y0m.mp hx
      obtain⟨j,w',q1,rfl⟩:=b y hy
      exact List.cons_lt_cons_iff.mpr (.inl (by omega))
    ·intro w hw
     rcases y10.mp hw with q|q
     ·obtain⟨u,_,rfl⟩:=y0m.mp q
      exact⟨k,u,y0o _,rfl⟩
     ·exact (up h3).2 w q
  next=>exact up h1
theorem ways_pw {E:List (Int×Int)} {room:Int}:∀{n:Nat} {pl:List Int} {ws:List (List Nat)},waysP E room n pl=some ws->ws.Pairwise (·<·)
 | 0,pl,ws,h=>by cases h
 | n+1,pl,ws,h=>by
  unfold waysP at h
  split at h
  ·cases h
  ·split at h
   ·cases h
    simp
   ·exact (zas (fun q us hq=>ways_pw hq) h).1
theorem countP_two {α:Type} {p q r:α->Bool}:∀{l:List α},(∀x∈l,p x=true->r x=true)->(∀x∈l,q x=true->r x=true)->(∀x∈l,p x=true->q x=true->False)->l.countP p+l.countP q<=l.countP r
 | [],_,_,_=>by simp
 | x::l,h1,h2,h3=>by
  have ih:=countP_two (l:=l) (fun x h=>h1 x (by simp[h])) (fun x h=>h2 x (by simp[h])) (fun x h=>h3 x (by simp[h]))
  have a1:=h1 x (by simp)
  have a2:=h2 x (by simp)
  have a3:=h3 x (by simp)
  simp only[List.countP_cons]
  cases hp:p x <;> cases hq:q x <;> cases hr:r x <;> simp_all <;> omega
def outE (pl:List Int) (h:Int) (e:Int×Int):Bool:=match adj e h with
 | some t=>decide (t∉pl)
 | none=>false
def offE (pl:List Int) (e:Int×Int):Bool:=decide (e.1∉pl) && decide (e.2∉pl)
theorem z59 {rec:List Int->Option (List (List Nat))} {pl:List Int} {h:Int} {B:Nat} (hr:∀t us,t∉pl->rec (pl++[t])=some us->us.length<=B):∀{E:List (Int×Int)} {k:Nat} {ws:List (List Nat)},exts rec pl h k E=some ws->ws.length<=E.countP (outE pl h)*B
 | [],k,ws,e=>by
  cases e
  simp
 | e::es,k,ws,h1=>by
  unfold exts at h1
  rw[List.countP_cons]
  have up:es.countP (outE pl h)*B<=(es.countP (outE pl h)+if outE pl h e=true then 1 else 0)*B:=Nat.mul_le_mul_right _ (by omega)
  split at h1
  next t ht =>
   split at h1
   next hm=>exact y1k (z59 hr h1) up
   next hm =>
    simp only[y01,y07] at h1
    obtain⟨us,h2,vs,h3,rfl⟩:=h1
    have a:=z59 hr h3
    have b:=hr t us hm h2
    have c:outE pl h e=true:=by simp[outE,ht,hm]
    rw[if_pos c,Nat.succ_mul,y1x,y12]
    omega
  next=>exact y1k (z59 hr h1) up
def G (m:Nat):Nat:=[1,1,2,3,4,6,9,12,18,27,36].getD m 0
theorem znv:∀m,m<=10->∀d,d<=10->∀m',m'<=10->d+m'<=m->d*G m'<=G m:=by decide
theorem zp1:∀m,m<=10->1<=G m:=by decide
theorem zp0:∀m,m<=10->G m<=36:=by decide
theorem zb3 {E:List (Int×Int)} {room:Int} (hE:∀e∈E,e.1≠e.2) (hl:E.length<=10):∀{n:Nat} {pl:List Int} {ws:List (List Nat)},pl.Nodup->waysP E room n pl=some ws->ws.length<=G (E.countP (offE pl.dropLast))
 | 0,pl,ws,_,h=>by cases h
 | n+1,pl,ws,nd,h=>by
  have hc:∀p:Int×Int->Bool,E.countP p<=10:=fun p=>y1k List.countP_le_length hl
  unfold waysP at h
  split at h
  ·cases h
  next x hx =>
   split at h
   ·cases h
    exact zp1 _ (hc _)
   ·have hp:pl=pl.dropLast++[x]:=by
     have hne:pl≠[]:=by rintro rfl;cases hx
     have e1:=List.dropLast_concat_getLast hne
     rw[List.getLast?_eq_getLast hne] at hx
     rw[y27 hx] at e1
     exact e1.symm
    have hxd:x∉pl.dropLast:=fun z=>by
     rw[hp,y1i] at nd
     exact nd.2.2 x z x (by simp) rfl
    have hB:=z59 (B:=G (E.countP (offE pl))) (fun t us ht hu=>by
     have nd':(pl++[t]).Nodup:=by
      rw[y1i]
      exact⟨nd,by simp,fun a ha b hb=>by
       have:b=t:=by simpa using hb
       subst this
       exact fun z=>ht (z▸ha)⟩
     have:=zb3 hE hl nd' hu
     simpa using this) h
    refine y1k hB (znv _ (hc _) _ (hc _) _ (hc _) (countP_two (fun e he q=>?_) (fun e he q=>?_) (fun e he q1 q2=>?_)))
    ·unfold outE at q
     split at q
     next t ht =>
      have ht':t∉pl:=by simpa using q
      have htd:t∉pl.dropLast:=fun z=>ht' (List.dropLast_subset _ z)
      unfold adj at ht
      unfold offE
      split at ht
      next e1=>cases ht;simp[e1,hxd,htd]
      next =>
       split at ht
       next e2=>cases ht;simp[e2,hxd,htd]
       next=>cases ht
     next=>cases q
    ·unfold offE at q ⊢
     simp only[y19,decide_eq_true_eq] at q ⊢
     exact⟨fun z=>q.1 (List.dropLast_subset _ z),fun z=>q.2 (List.dropLast_subset _ z)⟩
    ·have hxp:x∈pl:=by rw[hp];simp
     unfold offE at q2
     simp only[y19,decide_eq_true_eq] at q2
     unfold outE adj at q1
     split at q1
     next t ht =>
      split at ht
      next e1=>exact q2.1 (e1▸hxp)
      next =>
       split at ht
       next e2=>exact q2.2 (e2▸hxp)
       next=>cases ht
     next=>cases q1
theorem ways_few {E:List (Int×Int)} {room:Int} (hE:∀e∈E,e.1≠e.2) (hl:E.length<=10) {n:Nat} {ws:List (List Nat)} (h:waysP E room n [0]=some ws):ws.length<=36 :=
 y1k (zb3 hE hl (by simp) h) (zp0 _ (y1k List.countP_le_length hl))
end Hg
end
section
namespace Hg
abbrev Arc:=Int×Int×Int
def ind (b:Bool):Int:=if b then 1 else 0
def net (x:Int):List Arc->Int
 | []=>0
 | a::L=>a.2.2*(ind (decide (a.1=x)) - ind (decide (a.2.1=x)))+net x L
def bnd (S:Int->Bool):List Arc->Int
 | []=>0
 | a::L=>a.2.2*(ind (S a.1) - ind (S a.2.1))+bnd S L
def ends (L:List Arc):List (Int×Int):=L.map fun a=>(a.1,a.2.1)
def sumV (S:Int->Bool) (g:Int->Int):List Int->Int
 | []=>0
 | x::V=>ind (S x)*g x+sumV S g V
theorem z7j (S:Int->Bool) (g h:Int->Int):∀V,sumV S (fun x=>g x+h x) V=sumV S g V+sumV S h V
 | []=>rfl
 | x::V=>by simp only[sumV,z7j S g h V,Int.mul_add];omega
theorem z7h (S:Int->Bool) (c a:Int):∀{V:List Int},V.Nodup->a∈V->sumV S (fun x=>c*ind (decide (a=x))) V=c*ind (S a)
 | x::V,nd,h=>by
  have n:=y0r.mp nd
  simp only[sumV]
  by_cases e:a=x
  ·subst e
   have z:sumV S (fun x=>c*ind (decide (a=x))) V=0:=by
    have:∀{U:List Int},a∉U->sumV S (fun x=>c*ind (decide (a=x))) U=0:=by
     intro U
     induction U with
     | nil=>intro _;rfl
     | cons y U ih =>
      intro hy
      have h1:¬a=y:=fun q=>hy (by simp[q])
      simp only[sumV,h1,decide_false,ind,y1o,if_false,Int.mul_zero,Int.zero_add]
      exact ih fun q=>hy (by simp[q])
    exact this n.1
   rw[z]
   simp only[decide_true,ind,if_true,Int.mul_one,Int.add_zero]
   cases S a <;> simp
  ·have hx:a∈V:=by
    rcases y09.mp h with q|q
    ·exact absurd q e
    ·exact q
   rw[z7h S c a n.2 hx]
   simp only[e,decide_false,ind,y1o,if_false,Int.mul_zero,Int.zero_add]
theorem z7i (S:Int->Bool) {V:List Int} (nd:V.Nodup):∀{L:List Arc},(∀a∈L,a.1∈V/\a.2.1∈V)->sumV S (fun x=>net x L) V=bnd S L
 | [],_=>by
  simp only[net,bnd]
  clear nd
  induction V with
  | nil=>rfl
  | cons x V ih=>simp[sumV,ih]
 | a::L,h=>by
  obtain⟨h1,h2⟩:=h a (by simp)
  have ih:=z7i S nd (L:=L) fun a ha=>h a (by simp[ha])
  simp only[net,bnd]
  rw[z7j,ih]
  congr 1
  have e:(fun x=>a.2.2*(ind (decide (a.1=x)) - ind (decide (a.2.1=x))))=fun x=>a.2.2*ind (decide (a.1=x))+(-a.2.2)*ind (decide (a.2.1=x)):=by
   funext x
   rw[Int.mul_sub,Int.neg_mul]
   omega
  rw[e,z7j,z7h S _ _ nd h1,z7h S _ _ nd h2,Int.mul_sub,Int.neg_mul]
  omega
theorem z7g (S:Int->Bool) (g:Int->Int) (s t:Int) (hs:S s=true) (ht:S t=false) (hz:∀x,x≠s->x≠t->g x=0):∀{V:List Int},V.Nodup->s∈V->sumV S g V=g s
 | x::V,nd,h=>by
  have n:=y0r.mp nd
  have zero:∀{U:List Int},s∉U->sumV S g U=0:=by
   intro U
   induction U with
   | nil=>intro _;rfl
   | cons y U ih =>
    intro hy
    have h1:y≠s:=fun q=>hy (by simp[q])
    rw[sumV,ih fun q=>hy (by simp[q])]
    by_cases e:y=t
    ·subst e
     simp[ht,ind]
    ·simp[hz y h1 e]
  rw[sumV]
  by_cases e:x=s
  ·subst e
   rw[zero n.1,hs]
   simp[ind]
  ·have hx:s∈V:=by
    rcases y09.mp h with q|q
    ·exact absurd q.symm e
    ·exact q
   rw[z7g S g s t hs ht hz n.2 hx]
   by_cases e2:x=t
   ·subst e2
    simp[ht,ind]
   ·simp[hz x e e2]
inductive Pth (r:Int->Int->Prop):Int->List Int->Int->Prop
 | nil (x:Int):Pth r x [] x
 | cons {x y z:Int} {p:List Int}:r x y->Pth r y p z->Pth r x (y::p) z
inductive Rch (r:Int->Int->Prop) (s:Int):Int->Prop
 | zero:Rch r s s
 | step {x y:Int}:Rch r s x->r x y->Rch r s y
theorem zhc {r:Int->Int->Prop} {x y z:Int} {p:List Int} (w:Pth r x p y) (a:r y z):Pth r x (p++[z]) z:=by
 induction w with
 | nil x=>exact .cons a (.nil z)
 | cons b _ ih=>exact .cons b (ih a)
theorem zhd {r:Int->Int->Prop} {x y:Int} {p:List Int} (w:Pth r x p y):(x::p).getLast?=some y:=by
 induction w with
 | nil x=>rfl
 | cons a _ ih=>rw[List.getLast?_cons_cons];exact ih
theorem zee {r:Int->Int->Prop} {y:Int}:∀{p:List Int} {x z:Int},Pth r x p z->(x::p).Nodup->y∈x::p->∃q,Pth r x q y/\(x::q).Nodup/\∀t∈q,t∈p
 | p,x,z,w,nd,hy=>by
  by_cases e:y=x
  ·subst e
   exact⟨[],.nil _,by simp,by simp⟩
  ·cases w with
   | nil=>exact absurd (by simpa using hy) e
   | @cons _ u _ p a w =>
    have n:=y0r.mp nd
    obtain⟨q,h1,h2,h3⟩:=zee w n.2 (by
     rcases y09.mp hy with h|h
     ·exact absurd h e
     ·exact h)
    have sub:∀t∈u::q,t∈u::p:=fun t ht=>by
     rcases y09.mp ht with rfl|ht
     ·simp
     ·exact y05 _ (h3 t ht)
    exact⟨u::q,.cons a h1,y0r.mpr ⟨fun h=>n.1 (sub x h),h2⟩,sub⟩
theorem ze6 {r:Int->Int->Prop} {s x:Int} (h:Rch r s x):∃p,Pth r s p x/\(s::p).Nodup:=by
 induction h with
 | zero=>exact⟨[],.nil _,by simp⟩
 | @step x y _ a ih =>
  obtain⟨p,w,nd⟩:=ih
  by_cases h:y∈s::p
  ·obtain⟨q,h1,h2,_⟩:=zee w nd h
   exact⟨q,h1,h2⟩
  ·refine⟨p++[y],zhc w a,?_⟩
   rw[<- List.cons_append,y1i]
   refine⟨nd,by simp,fun u hu t ht=>?_⟩
   have:t=y:=by simpa using ht
   subst this
   exact fun e=>h (e▸hu)
def Stp (G:Int->Prop) (L:List Arc) (x y:Int):Prop:=∃(k:Nat) (a:Arc),L[k]?=some a/\((a.1=x/\a.2.1=y/\G a.2.2)\/(a.2.1=x/\a.1=y/\G (-a.2.2)))
theorem zf1 (x:Int):∀{L:List Arc} {k:Nat} {a:Arc},L[k]?=some a->∀f:Int,net x (L.set k (a.1,a.2.1,f))=net x L+(f - a.2.2)*(ind (decide (a.1=x)) - ind (decide (a.2.1=x)))
 | b::L,0,a,h,f=>by
  cases h
  simp only[y1f,net,Int.sub_mul]
  omega
 | b::L,k+1,a,h,f=>by
  rw[y26] at h
  simp only[y1g,net,zf1 x h f]
  omega
theorem zio {L:List Arc} {k:Nat} {a:Arc} (h:L[k]?=some a) (f:Int):ends (L.set k (a.1,a.2.1,f))=ends L:=by
 unfold ends
 rw[List.map_set]
 refine List.ext_getElem? fun i=>?_
 rw[List.getElem?_set]
 split
 next e =>
  subst e
  split
  next=>rw[y13,h];rfl
  next hn =>
   rw[y12] at hn
   rcases Nat.lt_or_ge k L.length with q|q
   ·exact absurd q hn
   ·rw[List.getElem?_eq_none q] at h;cases h
 next=>rfl
def Chg (c:Int) (G:Int->Prop) (a b:Arc):Prop:=b.1=a.1/\b.2.1=a.2.1/\((G a.2.2/\b.2.2=a.2.2+c)\/(G (-a.2.2)/\b.2.2=a.2.2 - c))
theorem zk2 (c:Int) (G:Int->Prop) {L:List Arc} (hL:∀a∈L,a.1≠a.2.1):∀{p:List Int} {x t:Int},Pth (Stp G L) x p t->(x::p).Nodup ->
  ∃L' w,ends L'=ends L/\Fol (ends L) x w p/\(∀z,net z L'=net z L+c*(ind (decide (x=z)) - ind (decide (t=z))))/\(∀k,k∉w->L'[k]?=L[k]?)/\(∀k∈w,∃a b,L[k]?=some a/\L'[k]?=some b/\Chg c G a b)/\∀k∈w,∀a,L[k]?=some a->a.1∈x::p/\a.2.1∈x::p
 | p,x,t,w,nd=>by
  cases w with
  | nil=>exact⟨L,[],rfl,rfl,fun z=>by simp,fun _ _=>rfl,by simp,by simp⟩
  | @cons _ y _ p st w =>
   have n:=y0r.mp nd
   obtain⟨L',w',h1,h2,h3,h4,h5,h6⟩:=zk2 c G hL w n.2
   obtain⟨k,a,hk,hd⟩:=st
   have hne:=hL a (y1p hk)
   have hkw:k∉w':=fun z=>by
    obtain⟨q1,q2⟩:=h6 k z a hk
    rcases hd with ⟨e,_,_⟩|⟨e,_,_⟩
    ·exact n.1 (e▸q1)
    ·exact n.1 (e▸q2)
   have hk':L'[k]?=some a:=(h4 k hkw).trans hk
   have hE:(ends L)[k]?=some (a.1,a.2.1):=by
    unfold ends
    rw[y13,hk]
    rfl
   have hlt:k<L'.length:=by
    rcases Nat.lt_or_ge k L'.length with q|q
    ·exact q
    ·rw[List.getElem?_eq_none q] at hk';cases hk'
   obtain⟨f,hf1,hf2,hf3⟩:∃f:Int,(∀z,(f - a.2.2)*(ind (decide (a.1=z)) - ind (decide (a.2.1=z)))=c*(ind (decide (x=z)) - ind (decide (y=z))))/\Chg c G a (a.1,a.2.1,f)/\adj (a.1,a.2.1) x=some y:=by
    rcases hd with ⟨e1,e2,e3⟩|⟨e1,e2,e3⟩
    ·refine⟨a.2.2+c,fun z=>?_,⟨rfl,rfl,.inl ⟨e3,rfl⟩⟩,?_⟩
     ·rw[e1,e2,show a.2.2+c - a.2.2=c from by omega]
     ·unfold adj
      rw[if_pos e1,e2]
    ·refine⟨a.2.2 - c,fun z=>?_,⟨rfl,rfl,.inr ⟨e3,rfl⟩⟩,?_⟩
     ·rw[e1,e2,show a.2.2 - c - a.2.2=-c from by omega,Int.neg_mul,<- Int.mul_neg]
      congr 1
      omega
     ·unfold adj
      simp only
      rw[if_neg (by rw[e2];intro q;exact hne (by rw[e2,e1,q])),if_pos e1,e2]
   refine⟨L'.set k (a.1,a.2.1,f),k::w',by rw[zio hk' f,h1],⟨_,y,p,hE,hf3,rfl,h2⟩,fun z=>?_,fun j hj=>?_,fun j hj=>?_,fun j hj b hb=>?_⟩
   ·rw[zf1 z hk' f,h3 z,hf1 z,Int.add_assoc,<- Int.mul_add]
    congr 2
    omega
   ·have hj1:k≠j:=fun q=>hj (by simp[q])
    rw[List.getElem?_set_ne hj1]
    exact h4 j fun q=>hj (by simp[q])
   ·rcases y09.mp hj with rfl|hj
    ·exact⟨a,_,hk,by rw[List.getElem?_set_self hlt],hf2⟩
    ·obtain⟨a',b',q1,q2,q3⟩:=h5 j hj
     have hjk:k≠j:=fun q=>hkw (q▸hj)
     exact⟨a',b',q1,by rw[List.getElem?_set_ne hjk];exact q2,q3⟩
   ·rcases y09.mp hj with rfl|hj
    ·rw[hk] at hb
     cases hb
     rcases hd with ⟨e1,e2,_⟩|⟨e1,e2,_⟩
     ·rw[e1,e2];simp
     ·rw[e1,e2];simp
    ·obtain⟨q1,q2⟩:=h6 j hj b hb
     exact⟨y05 _ q1,y05 _ q2⟩
structure Flow (E:List (Int×Int)) (s t:Int) (v:Int) (L:List Arc):Prop where
 en:ends L=E
 un:∀a∈L,-1<=a.2.2/\a.2.2<=1
 cons:∀x,x≠s->x≠t->net x L=0
 val:net s L=v
theorem zji {E:List (Int×Int)} {L:List Arc} (h:ends L=E):L.length=E.length:=by rw[<- h,ends,y12]
theorem zjf (x:Int):∀{L:List Arc},(∀a∈L,a.1≠a.2.1)->(∀a∈L,-1<=a.2.2/\a.2.2<=1)->net x L<=L.length
 | [],_,_=>by simp[net]
 | a::L,h0,h=>by
  have ih:=zjf x (L:=L) (fun a ha=>h0 a (by simp[ha])) fun a ha=>h a (by simp[ha])
  have ha:=h a (by simp)
  have h1:a.2.2*(ind (decide (a.1=x)) - ind (decide (a.2.1=x)))<=1:=by
   by_cases e1:a.1=x <;> by_cases e2:a.2.1=x <;> simp[ind,e1,e2] <;> omega
  simp only[net,y0w]
  omega
theorem z5g {E:List (Int×Int)} (hE:∀e∈E,e.1≠e.2) {L:List Arc} (h:ends L=E):∀a∈L,a.1≠a.2.1:=fun a ha=>by
 have:=hE (a.1,a.2.1) (by rw[<- h];exact y0m.mpr ⟨a,ha,rfl⟩)
 exact this
open Classical in
theorem zi6 {E:List (Int×Int)} (hE:∀e∈E,e.1≠e.2) {s t:Int} (hst:s≠t):∃v L,0<=v/\Flow E s t v L/\¬Rch (Stp (fun g=>g<1) L) s t:=by
 have key:∀(n:Nat) (v:Int) (L:List Arc),0<=v->Flow E s t v L->(E.length:Int) - v<n->∃v L,0<=v/\Flow E s t v L/\¬Rch (Stp (fun g=>g<1) L) s t:=by
  intro n
  induction n with
  | zero =>
   intro v L h0 F hn
   have:=zjf s (z5g hE F.en) F.un
   rw[F.val,zji F.en] at this
   omega
  | succ n ih =>
   intro v L h0 F hn
   by_cases hr:Rch (Stp (fun g=>g<1) L) s t
   ·obtain⟨p,w,nd⟩:=ze6 hr
    obtain⟨L',w',h1,h2,h3,h4,h5,_⟩:=zk2 1 (fun g=>g<1) (z5g hE F.en) w nd
    refine ih (v+1) L' (by omega) ⟨h1.trans F.en,fun b hb=>?_,fun x hs ht=>?_,?_⟩ (by omega)
    ·obtain⟨k,hk⟩:=List.mem_iff_getElem?.mp hb
     by_cases hw:k∈w'
     ·obtain⟨a,b',q1,q2,_,_,q3⟩:=h5 k hw
      rw[hk] at q2
      cases q2
      have:=F.un a (y1p q1)
      rcases q3 with ⟨g,e⟩|⟨g,e⟩ <;> omega
     ·rw[h4 k hw] at hk
      exact F.un b (y1p hk)
    ·rw[h3 x,F.cons x hs ht]
     have e1:¬s=x:=fun q=>hs q.symm
     have e2:¬t=x:=fun q=>ht q.symm
     simp[ind,e1,e2]
    ·rw[h3 s,F.val]
     have e2:¬t=s:=fun q=>hst q.symm
     simp[ind,e2]
   ·exact⟨v,L,h0,F,hr⟩
 refine key (E.length+1) 0 (E.map fun e=>(e.1,e.2,0)) (Int.le_refl _) ⟨?_,?_,?_,?_⟩ (by omega)
 ·unfold ends
  rw[y2d]
  conv=>rhs;rw[<- List.map_id E]
  rfl
 ·intro a ha
  obtain⟨e,_,rfl⟩:=y0m.mp ha
  simp
 ·intro x _ _
  clear hE key
  induction E with
  | nil=>rfl
  | cons e E ih=>simp[net,ih]
 ·clear hE key
  induction E with
  | nil=>rfl
  | cons e E ih=>simp[net,ih]
def ixs (P:Arc->Bool):List Arc->Nat->List Nat
 | [],_=>[]
 | a::L,k=>if P a then k::ixs P L (k+1) else ixs P L (k+1)
theorem z7z {P:Arc->Bool}:∀{L:List Arc} {k j:Nat},j∈ixs P L k <-> ∃i a,L[i]?=some a/\P a=true/\j=k+i
 | [],k,j=>by simp[ixs]
 | b::L,k,j=>by
  have ih:=z7z (P:=P) (L:=L) (k:=k+1) (j:=j)
  unfold ixs
  constructor
  ·intro h
   split at h
   next hb =>
    rcases y09.mp h with rfl|h
    ·exact⟨0,b,rfl,hb,rfl⟩
    ·obtain⟨i,a,h1,h2,h3⟩:=ih.mp h
     exact⟨i+1,a,by simpa using h1,h2,by omega⟩
   next =>
    obtain⟨i,a,h1,h2,h3⟩:=ih.mp h
    exact⟨i+1,a,by simpa using h1,h2,by omega⟩
  ·rintro⟨i,a,h1,h2,h3⟩
   cases i with
   | zero =>
    cases h1
    rw[if_pos h2]
    simp[h3]
   | succ i =>
    have:j∈ixs P L (k+1):=ih.mpr ⟨i,a,by simpa using h1,h2,by omega⟩
    split
    ·exact y05 _ this
    ·exact this
theorem zfj {P:Arc->Bool}:∀(L:List Arc) (k:Nat),(ixs P L k).Pairwise (·<·)
 | [],k=>.nil
 | b::L,k=>by
  unfold ixs
  split
  ·refine y16.mpr ⟨fun j hj=>?_,zfj L (k+1)⟩
   obtain⟨i,_,_,_,h3⟩:=z7z.mp hj
   omega
  ·exact zfj L (k+1)
theorem z9f {E:List (Int×Int)} {S:Int->Bool}:∀{w:List Nat} {x y:Int} {p:List Int},Fol E x w p->(x::p).getLast?=some y->S x=true->S y=false->∃k∈w,∃e,E[k]?=some e/\S e.1≠S e.2
 | [],x,y,p,h,hl,hx,hy=>by
  have:p=[]:=h
  subst this
  have:x=y:=y27 hl
  rw[<- this,hx] at hy
  cases hy
 | k::w,x,y,p,⟨e,t,q,h1,h2,h3,h4⟩,hl,hx,hy=>by
  subst h3
  rw[List.getLast?_cons_cons] at hl
  by_cases ht:S t=true
  ·obtain⟨j,hj,r⟩:=z9f h4 hl ht hy
   exact⟨j,by simp[hj],r⟩
  ·refine⟨k,by simp,e,h1,fun q=>?_⟩
   unfold adj at h2
   split at h2
   next e1=>cases h2;rw[e1,hx] at q;exact ht q.symm
   next =>
    split at h2
    next e2=>cases h2;rw[e2,hx] at q;exact ht q
    next=>cases h2
open Classical in
theorem znl {E:List (Int×Int)} {s t v:Int} {L:List Arc} (F:Flow E s t v L) (hr:¬Rch (Stp (fun g=>g<1) L) s t) {V:List Int} (nd:V.Nodup) (hV:∀a∈L,a.1∈V/\a.2.1∈V) (hs:s∈V) :
  ∃C:List Nat,C.Pairwise (·<·)/\(C.length:Int)=v/\(∀k∈C,k<E.length)/\∀w p,Fol E s w p->(s::p).getLast?=some t->∃k∈w,k∈C:=by
 let S:Int->Bool:=fun x=>decide (Rch (Stp (fun g=>g<1) L) s x)
 have hSs:S s=true:=decide_eq_true .zero
 have hSt:S t=false:=decide_eq_false hr
 have hb:bnd S L=v:=by
  rw[<- z7i S nd hV,z7g S (fun x=>net x L) s t hSs hSt F.cons nd hs]
  exact F.val
 let P:Arc->Bool:=fun a=>decide (S a.1≠S a.2.1)
 have step:∀{k:Nat} {a:Arc},L[k]?=some a->(S a.1=true->S a.2.1=false->a.2.2=1)/\(S a.2.1=true->S a.1=false->a.2.2=-1):=fun {k a} hk=>by
  have hu:=F.un a (y1p hk)
  constructor
  ·intro h1 h2
   rcases Int.lt_or_eq_of_le hu.2 with q|q
   ·have:S a.2.1=true:=decide_eq_true (.step (of_decide_eq_true h1) ⟨k,a,hk,.inl ⟨rfl,rfl,q⟩⟩)
    rw[this] at h2
    cases h2
   ·exact q
  ·intro h1 h2
   rcases Int.lt_or_eq_of_le hu.1 with q|q
   ·have:S a.1=true:=decide_eq_true (.step (of_decide_eq_true h1) ⟨k,a,hk,.inr ⟨rfl,rfl,by omega⟩⟩)
    rw[this] at h2
    cases h2
   ·omega
 have cnt:∀{M:List Arc} {k:Nat},(∀a∈M,(S a.1=true->S a.2.1=false->a.2.2=1)/\(S a.2.1=true->S a.1=false->a.2.2=-1))->((ixs P M k).length:Int)=bnd S M:=by
  intro M
  induction M with
  | nil=>intro k _;rfl
  | cons a M ih =>
   intro k h
   have ih':=ih (k:=k+1) fun a ha=>h a (by simp[ha])
   obtain⟨g1,g2⟩:=h a (by simp)
   simp only[ixs,bnd,P]
   cases h1:S a.1 <;> cases h2:S a.2.1
   ·simp only[ind]
    simpa [P] using ih'
   ·have:=g2 h2 h1
    simp[ind,this]
    rw[<- ih']
    simp only[P,decide_not]
    omega
   ·have:=g1 h1 h2
    simp[ind,this]
    rw[<- ih']
    simp only[P,decide_not]
    omega
   ·simp only[ind]
    simpa [P] using ih'
 refine⟨ixs P L 0,zfj L 0,?_,fun k hk=>?_,fun w p hf hl=>?_⟩
 ·rw[cnt fun a ha=>by
   obtain⟨k,hk⟩:=List.mem_iff_getElem?.mp ha
   exact step hk,hb]
 ·obtain⟨i,a,h1,_,h3⟩:=z7z.mp hk
  rw[<- zji F.en]
  rcases Nat.lt_or_ge i L.length with q|q
  ·omega
  ·rw[List.getElem?_eq_none q] at h1;cases h1
 ·obtain⟨k,hk,e,he,hne⟩:=z9f hf hl hSs hSt
  rw[<- F.en,ends,y13] at he
  obtain⟨a,ha,rfl⟩:=y07.mp he
  exact⟨k,hk,z7z.mpr ⟨k,a,ha,decide_eq_true hne,by simp⟩⟩
open Classical in
theorem z9g {E:List (Int×Int)} (hE:∀e∈E,e.1≠e.2) {s t:Int} (hst:s≠t) {V:List Int} (nd:V.Nodup) (hV:∀e∈E,e.1∈V/\e.2∈V) (hs:s∈V):∀(n:Nat) (L:List Arc),Flow E s t n L ->
  ∃ws:List (List Nat),ws.length=n/\(∀w∈ws,∃p,Fol E s w p/\(s::p).Nodup/\(s::p).getLast?=some t)/\(∀w∈ws,∀k∈w,∃a,L[k]?=some a/\a.2.2≠0)/\ws.Pairwise fun w v=>∀k∈w,k∉v
 | 0,L,F=>⟨[],rfl,by simp,by simp,.nil⟩
 | n+1,L,F=>by
  have hVL:∀a∈L,a.1∈V/\a.2.1∈V:=fun a ha=>hV (a.1,a.2.1) (by rw[<- F.en];exact y0m.mpr ⟨a,ha,rfl⟩)
  have hr:Rch (Stp (fun g=>g=1) L) s t:=by
   refine Classical.byContradiction fun hr=>?_
   let S:Int->Bool:=fun x=>decide (Rch (Stp (fun g=>g=1) L) s x)
   have hSs:S s=true:=decide_eq_true .zero
   have hSt:S t=false:=decide_eq_false hr
   have hb:bnd S L=(n+1:Nat):=by
    rw[<- z7i S nd hVL,z7g S (fun x=>net x L) s t hSs hSt F.cons nd hs]
    exact F.val
   have step:∀a∈L,a.2.2*(ind (S a.1) - ind (S a.2.1))<=0:=fun a ha=>by
    obtain⟨k,hk⟩:=List.mem_iff_getElem?.mp ha
    have hu:=F.un a ha
    cases h1:S a.1 <;> cases h2:S a.2.1
    ·simp[ind]
    ·simp only[ind,y1o,if_false,if_true]
     have:a.2.2≠-1:=fun q=>by
      have:S a.1=true:=decide_eq_true (.step (of_decide_eq_true h2) ⟨k,a,hk,.inr ⟨rfl,rfl,by omega⟩⟩)
      rw[this] at h1
      cases h1
     omega
    ·simp only[ind,y1o,if_false,if_true]
     have:a.2.2≠1:=fun q=>by
      have:S a.2.1=true:=decide_eq_true (.step (of_decide_eq_true h1) ⟨k,a,hk,.inl ⟨rfl,rfl,q⟩⟩)
      rw[this] at h2
      cases h2
     omega
    ·simp[ind]
   have all:∀{M:List Arc},(∀a∈M,a.2.2*(ind (S a.1) - ind (S a.2.1))<=0)->bnd S M<=0:=by
    intro M
    induction M with
    | nil=>intro _;exact Int.le_refl _
    | cons a M ih =>
     intro h
     have h1:=h a (by simp)
     have h2:=ih fun a ha=>h a (by simp[ha])
     simp only[bnd]
     omega
   have:=all step
   omega
  obtain⟨p,w,ndp⟩:=ze6 hr
  obtain⟨L',w',h1,h2,h3,h4,h5,_⟩:=zk2 (-1) (fun g=>g=1) (z5g hE F.en) w ndp
  have zero:∀k∈w',∃b,L'[k]?=some b/\b.2.2=0:=fun k hk=>by
   obtain⟨a,b,q1,q2,_,_,q3⟩:=h5 k hk
   refine⟨b,q2,?_⟩
   rcases q3 with ⟨g,e⟩|⟨g,e⟩ <;> omega
  have F':Flow E s t n L':=by
   refine⟨h1.trans F.en,fun b hb=>?_,fun x hs ht=>?_,?_⟩
   ·obtain⟨k,hk⟩:=List.mem_iff_getElem?.mp hb
    by_cases hw:k∈w'
    ·obtain⟨b',q1,q2⟩:=zero k hw
     rw[hk] at q1
     cases q1
     omega
    ·rw[h4 k hw] at hk
     exact F.un b (y1p hk)
   ·rw[h3 x,F.cons x hs ht]
    have e1:¬s=x:=fun q=>hs q.symm
    have e2:¬t=x:=fun q=>ht q.symm
    simp[ind,e1,e2]
   ·rw[h3 s,F.val]
    have e2:¬t=s:=fun q=>hst q.symm
    simp[ind,e2]
    omega
  obtain⟨ws,q1,q2,q3,q4⟩:=z9g hE hst nd hV hs n L' F'
  have hlast:(s::p).getLast?=some t:=zhd w
  rw[F.en] at h2
  refine⟨w'::ws,by simp[q1],fun v hv=>?_,fun v hv k hk=>?_,y16.mpr ⟨fun v hv k hk hkv=>?_,q4⟩⟩
  ·rcases y09.mp hv with rfl|hv
   ·exact⟨p,h2,ndp,hlast⟩
   ·exact q2 v hv
  ·rcases y09.mp hv with rfl|hv
   ·obtain⟨a,b,r1,r2,_,_,r3⟩:=h5 k hk
    refine⟨a,r1,?_⟩
    rcases r3 with ⟨g,e⟩|⟨g,e⟩ <;> omega
   ·obtain⟨a,r1,r2⟩:=q3 v hv k hk
    by_cases hw:k∈w'
    ·obtain⟨b,z1,z2⟩:=zero k hw
     rw[r1] at z1
     cases z1
     exact absurd z2 r2
    ·exact⟨a,by rw[<- h4 k hw];exact r1,r2⟩
  ·obtain⟨a,r1,r2⟩:=q3 v hv k hkv
   obtain⟨b,z1,z2⟩:=zero k hk
   rw[r1] at z1
   cases z1
   exact r2 z2
theorem zmy {E:List (Int×Int)} (hE:∀e∈E,e.1≠e.2) {s t:Int} (hst:s≠t) {V:List Int} (nd:V.Nodup) (hV:∀e∈E,e.1∈V/\e.2∈V) (hs:s∈V) :
  ∃(C:List Nat) (ws:List (List Nat)),C.Pairwise (·<·)/\ws.length=C.length/\(∀k∈C,k<E.length)/\(∀w p,Fol E s w p->(s::p).getLast?=some t->∃k∈w,k∈C)/\(∀w∈ws,∃p,Fol E s w p/\(s::p).Nodup/\(s::p).getLast?=some t)/\ws.Pairwise fun w v=>∀k∈w,k∉v:=by
 obtain⟨v,L,h0,F,hr⟩:=zi6 hE hst
 obtain⟨n,rfl⟩:∃n:Nat,v=n:=⟨v.toNat,by omega⟩
 obtain⟨C,c1,c2,c3,c4⟩:=znl F hr nd (fun a ha=>hV (a.1,a.2.1) (by rw[<- F.en];exact y0m.mpr ⟨a,ha,rfl⟩)) hs
 obtain⟨ws,q1,q2,_,q4⟩:=z9g hE hst nd hV hs n L F
 exact⟨C,ws,c1,by omega,c3,c4,q2,q4⟩
end Hg
end
section
namespace Hg
def Hits (C:List Nat) (ths:List (List Nat)):Prop:=∀w∈ths,∃k∈w,k∈C
inductive Lx {α:Type} (r:α->α->Prop):List α->List α->Prop
 | nil {b:α} {y:List α}:Lx r [] (b::y)
 | head {a b:α} {x y:List α}:r a b->Lx r (a::x) (b::y)
 | tail {a:α} {x y:List α}:Lx r x y->Lx r (a::x) (a::y)
def missed (n:Nat) (ths:List (List Nat)):List (List Nat):=ths.filter fun w=>!decide (n∈w)
noncomputable def stopsR:List (List Nat)->List Nat->Nat->Option (List Nat)
 | ths,[],_=>if ths.isEmpty then some [] else none
 | ths,n::ns,many=>if ths.isEmpty then some [] else if many=0 then none else
  if (missed n ths).length<ths.length then
   match stopsR (missed n ths) ns (many - 1) with
   | some b=>some (n::b)
   | none=>stopsR ths ns many
  else stopsR ths ns many
theorem stopsR_nil (nums:List Nat) (many:Nat):stopsR [] nums many=some []:=by cases nums <;> rfl
theorem z24 {n:Nat} {b:List Nat} {ths:List (List Nat)}:Hits b (missed n ths) <-> Hits (n::b) ths:=by
 constructor
 ·intro h w hw
  by_cases q:n∈w
  ·exact⟨n,q,by simp⟩
  ·obtain⟨k,h1,h2⟩:=h w (List.mem_filter.mpr ⟨hw,by simpa using q⟩)
   exact⟨k,h1,by simp[h2]⟩
 ·intro h w hw
  obtain⟨h1,h2⟩:=List.mem_filter.mp hw
  obtain⟨k,h3,h4⟩:=h w h1
  rcases y09.mp h4 with rfl|h4
  ·simp[h3] at h2
  ·exact⟨k,h3,h4⟩
theorem z72 {n:Nat} {ths:List (List Nat)} (h:¬(missed n ths).length<ths.length):∀w∈ths,n∉w:=by
 have:=List.length_filter_eq_length_iff.mp (Nat.le_antisymm (y22 (fun w=>!decide (n∈w)) ths) (Nat.le_of_not_lt h))
 intro w hw
 simpa using this w hw
theorem stops_sound:∀{nums:List Nat} {ths:List (List Nat)} {many:Nat} {C:List Nat},stopsR ths nums many=some C->C.Sublist nums/\C.length<=many/\Hits C ths
 | [],ths,many,C,h=>by
  unfold stopsR at h
  split at h
  next e =>
   cases h
   have:ths=[]:=by simpa using e
   subst this
   exact⟨.slnil,by simp,by simp[Hits]⟩
  next=>cases h
 | n::ns,ths,many,C,h=>by
  unfold stopsR at h
  split at h
  next e =>
   cases h
   have:ths=[]:=by simpa using e
   subst this
   exact⟨List.nil_sublist _,by simp,by simp[Hits]⟩
  next =>
   split at h
   next=>cases h
   next hm =>
    split at h
    next =>
     split at h
     next b hb =>
      cases h
      obtain⟨h1,h2,h3⟩:=stops_sound hb
      exact⟨h1.cons₂ n,by simp;omega,z24.mp h3⟩
     next =>
      obtain⟨h1,h2,h3⟩:=stops_sound h
      exact⟨h1.cons n,h2,h3⟩
    next =>
     obtain⟨h1,h2,h3⟩:=stops_sound h
     exact⟨h1.cons n,h2,h3⟩
theorem z80 {ths:List (List Nat)} (h:Hits [] ths):ths=[]:=by
 cases ths with
 | nil=>rfl
 | cons w ws =>
  obtain⟨k,_,hk⟩:=h w (by simp)
  cases hk
theorem z17:∀{nums:List Nat} {ths:List (List Nat)} {many:Nat} {D:List Nat},D.Sublist nums->D.length<=many->Hits D ths->stopsR ths nums many≠none
 | [],ths,many,D,hs,hl,hh=>by
  have:D=[]:=List.sublist_nil.mp hs
  subst this
  have:=z80 hh
  subst this
  simp[stopsR]
 | n::ns,ths,many,D,hs,hl,hh=>by
  unfold stopsR
  split
  next=>simp
  next he =>
   split
   next hm =>
    have:D=[]:=by
     cases D with
     | nil=>rfl
     | cons a D=>simp at hl;omega
    subst this
    exact absurd (z80 hh) (by simpa using he)
   next hm =>
    split
    next =>
     split
     next=>simp
     next hn =>
      cases hs with
      | cons _ hs=>exact z17 hs hl hh
      | cons_cons _ hs=>exact absurd hn (z17 hs (by simp at hl;omega) (z24.mpr hh))
    next hlt =>
     cases hs with
     | cons _ hs=>exact z17 hs hl hh
     | @cons_cons D' _ _ hs =>
      refine z17 hs (by simp at hl;omega) fun w hw=>?_
      obtain⟨k,h1,h2⟩:=hh w hw
      rcases y09.mp h2 with rfl|h2
      ·exact absurd h1 (z72 hlt w hw)
      ·exact⟨k,h1,h2⟩
theorem z2r:∀{nums:List Nat} {ths:List (List Nat)} {many:Nat} {C:List Nat},nums.Pairwise (·<·)->stopsR ths nums many=some C->(∀D,D.Sublist nums->Hits D ths->many<=D.length)->∀D,D.Sublist nums->Hits D ths->D.length<=many->D=C\/Lx (·<·) C D
 | [],ths,many,C,_,h,hmin,D,hs,hh,hl=>by
  have:D=[]:=List.sublist_nil.mp hs
  subst this
  have:=(stops_sound h).1
  exact .inl (List.sublist_nil.mp this).symm
 | n::ns,ths,many,C,pw,h,hmin,D,hs,hh,hl=>by
  have p:=y16.mp pw
  unfold stopsR at h
  split at h
  next e =>
   cases h
   cases D with
   | nil=>exact .inl rfl
   | cons a D=>exact .inr .nil
  next he =>
   split at h
   next=>cases h
   next hm =>
    have hup:∀D,D.Sublist ns->Hits D ths->many<=D.length:=fun D hs hh=>hmin D (hs.cons n) hh
    split at h
    next =>
     split at h
     next b hb =>
      cases h
      cases hs with
      | cons _ hs =>
       cases D with
       | nil=>exact absurd (z80 hh) (by simpa using he)
       | cons a D=>exact .inr (.head (p.1 a (hs.subset (by simp))))
      | @cons_cons D' _ _ hs =>
       rcases z2r p.2 hb (fun X h1 h2=>by
        have:=hmin (n::X) (h1.cons₂ n) (z24.mp h2)
        simp at this
        omega) D' hs (z24.mpr hh) (by simp at hl;omega) with q|q
       ·exact .inl (by rw[q])
       ·exact .inr (.tail q)
     next hn =>
      cases hs with
      | cons _ hs=>exact z2r p.2 h hup D hs hh hl
      | cons_cons _ hs=>exact absurd hn (z17 hs (by simp at hl;omega) (z24.mpr hh))
    next hlt =>
     cases hs with
     | cons _ hs=>exact z2r p.2 h hup D hs hh hl
     | @cons_cons D' _ _ hs =>
      have:=hup D' hs fun w hw=>by
       obtain⟨k,h1,h2⟩:=hh w hw
       rcases y09.mp h2 with rfl|h2
       ·exact absurd h1 (z72 hlt w hw)
       ·exact⟨k,h1,h2⟩
      simp at hl
      omega
def fewL (ths:List (List Nat)) (nums:List Nat):List Nat->Option (List Nat)
 | []=>none
 | m::ms=>match stopsR ths nums m with
  | some C=>some C
  | none=>fewL ths nums ms
theorem z9h {ths:List (List Nat)} {nums:List Nat}:∀{k n:Nat} {C:List Nat},fewL ths nums (List.range' k n)=some C->∃m,k<=m/\m<k+n/\stopsR ths nums m=some C/\∀j,k<=j->j<m->stopsR ths nums j=none
 | k,0,C,h=>by cases h
 | k,n+1,C,h=>by
  rw[List.range'_succ,fewL] at h
  split at h
  next C' hC =>
   cases h
   exact⟨k,y0o _,by omega,hC,fun j h1 h2=>by omega⟩
  next hn =>
   obtain⟨m,h1,h2,h3,h4⟩:=z9h h
   refine⟨m,by omega,by omega,h3,fun j g1 g2=>?_⟩
   rcases Nat.lt_or_ge k j with q|q
   ·exact h4 j (by omega) g2
   ·have:j=k:=by omega
    subst this
    exact hn
theorem zc2 {ths:List (List Nat)} {nums:List Nat}:∀{k n m:Nat},k<=m->m<k+n->stopsR ths nums m≠none->∃C,fewL ths nums (List.range' k n)=some C
 | k,0,m,h1,h2,_=>by omega
 | k,n+1,m,h1,h2,h3=>by
  rw[List.range'_succ,fewL]
  split
  next C _=>exact⟨C,rfl⟩
  next hn =>
   refine zc2 (m:=m) ?_ (by omega) h3
   rcases Nat.lt_or_ge k m with q|q
   ·exact q
   ·have:m=k:=by omega
    subst this
    exact absurd hn h3
theorem few_spec {ths:List (List Nat)} {M:Nat} (hne:∀w∈ths,w≠[]/\∀k∈w,k<M):∃C,fewL ths (List.range M) (List.range (M+1))=some C/\C.Sublist (List.range M)/\Hits C ths/\(∀D,D.Sublist (List.range M)->Hits D ths->C.length<=D.length)/\∀D,D.Sublist (List.range M)->Hits D ths->D.length=C.length->D=C\/Lx (·<·) C D:=by
 have full:Hits (List.range M) ths:=fun w hw=>by
  obtain⟨h1,h2⟩:=hne w hw
  cases w with
  | nil=>exact absurd rfl h1
  | cons k w=>exact⟨k,by simp,List.mem_range.mpr (h2 k (by simp))⟩
 have hs:=z17 (many:=M) (List.Sublist.refl (List.range M)) (by simp) full
 rw[List.range_eq_range' (n:=M+1)]
 obtain⟨C,hC⟩:=zc2 (ths:=ths) (nums:=List.range M) (k:=0) (n:=M+1) (m:=M) (by omega) (by omega) hs
 obtain⟨m,h1,h2,h3,h4⟩:=z9h hC
 obtain⟨s1,s2,s3⟩:=stops_sound h3
 have hmin:∀D,D.Sublist (List.range M)->Hits D ths->m<=D.length:=fun D d1 d2=>by
  rcases Nat.lt_or_ge D.length m with q|q
  ·exact absurd (h4 D.length (by omega) q) (z17 d1 (y0o _) d2)
  ·exact q
 have hCm:C.length=m:=Nat.le_antisymm s2 (hmin C s1 s3)
 exact⟨C,hC,s1,s3,fun D d1 d2=>by rw[hCm];exact hmin D d1 d2,fun D d1 d2 d3=>z2r List.pairwise_lt_range h3 hmin D d1 d2 (by omega)⟩
def Apt (w v:List Nat):Prop:=∀k∈w,k∉v
def aptB (w v:List Nat):Bool:=!w.any fun k=>decide (k∈v)
theorem zcg {w v:List Nat}:aptB w v=true <-> Apt w v:=by
 simp[aptB,Apt]
noncomputable def faL (rec:List (List Nat)->Option (List (List Nat))):List (List Nat)->Option (List (List Nat))
 | []=>none
 | w::ws=>match rec (ws.filter (aptB w)) with
  | some b=>some (w::b)
  | none=>faL rec ws
def faR:Nat->List (List Nat)->Option (List (List Nat))
 | 0,_=>some []
 | m+1,ths=>faL (faR m) ths
theorem fa_sound:∀{m:Nat} {ths B:List (List Nat)},faR m ths=some B->B.Sublist ths/\B.length=m/\B.Pairwise Apt
 | 0,ths,B,h=>by
  cases h
  exact⟨List.nil_sublist _,rfl,.nil⟩
 | m+1,ths,B,h=>by
  have key:∀{l B:List (List Nat)},faL (faR m) l=some B->B.Sublist l/\B.length=m+1/\B.Pairwise Apt:=by
   intro l
   induction l with
   | nil=>intro B h;cases h
   | cons w ws ih =>
    intro B h
    unfold faL at h
    split at h
    next b hb =>
     cases h
     obtain⟨h1,h2,h3⟩:=fa_sound hb
     refine⟨(h1.trans List.filter_sublist).cons₂ w,by simp[h2],y16.mpr ⟨fun v hv=>?_,h3⟩⟩
     exact zcg.mp (List.mem_filter.mp (h1.subset hv)).2
    next =>
     obtain⟨h1,h2,h3⟩:=ih h
     exact⟨h1.cons w,h2,h3⟩
  exact key h
theorem zd3 {D ws:List (List Nat)} {w:List Nat} (hs:D.Sublist ws) (ha:∀v∈D,Apt w v):D.Sublist (ws.filter (aptB w)):=by
 have:=hs.filter (aptB w)
 rw[List.filter_eq_self.mpr fun v hv=>zcg.mpr (ha v hv)] at this
 exact this
theorem fa_compl:∀{m:Nat} {ths D:List (List Nat)},D.Sublist ths->D.length=m->D.Pairwise Apt->faR m ths≠none
 | 0,ths,D,_,_,_=>by simp[faR]
 | m+1,ths,D,hs,hl,hp=>by
  have key:∀{l D:List (List Nat)},D.Sublist l->D.length=m+1->D.Pairwise Apt->faL (faR m) l≠none:=by
   intro l
   induction l with
   | nil =>
    intro D hs hl _
    have:D=[]:=List.sublist_nil.mp hs
    subst this
    simp at hl
   | cons w ws ih =>
    intro D hs hl hp
    unfold faL
    split
    next=>simp
    next hn =>
     cases hs with
     | cons _ hs=>exact ih hs hl hp
     | @cons_cons D' _ _ hs =>
      have p:=y16.mp hp
      exact absurd hn (fa_compl (zd3 hs p.1) (by simpa using hl) p.2)
  exact key hs hl hp
theorem zch {C:List Nat}:∀{B:List (List Nat)},B.Pairwise Apt->Hits C B->B.length<=C.length
 | [],_,_=>by simp
 | w::B,hp,hh=>by
  have p:=y16.mp hp
  obtain⟨k,h1,h2⟩:=hh w (by simp)
  have ih:=zch (C:=C.erase k) p.2 fun v hv=>by
   obtain⟨j,g1,g2⟩:=hh v (by simp[hv])
   refine⟨j,g1,(List.mem_erase_of_ne fun (e:j=k)=>?_).mpr g2⟩
   subst e
   exact p.1 v hv j h1 g1
  rw[List.length_erase_of_mem h2] at ih
  have:=List.length_pos_of_mem h2
  simp
  omega
theorem apart_many {R:Int} {E:List (Int×Int)} (hW:Within R E) (h0:0<=R) (hE:∀e∈E,e.1≠e.2) {room:Int} (hr:room≠0) {n:Nat} {ws:List (List Nat)} (h:waysP E room n [0]=some ws) {C:List Nat} (hC:Hits C ws) (hmin:∀D,D.Sublist (List.range E.length)->Hits D ws->C.length<=D.length) :
  ∃D:List (List Nat),D.Sublist ws/\D.length=C.length/\D.Pairwise Apt:=by
 have nd:((List.range (R.toNat+1)).map fun (k:Nat)=>(k:Int)).Nodup:=List.pairwise_map.mpr (List.nodup_range.imp fun h z=>h (by omega))
 have hin:∀x:Int,0<=x->x<=R->x∈(List.range (R.toNat+1)).map fun (k:Nat)=>(k:Int):=fun x h1 h2=>y0m.mpr ⟨x.toNat,List.mem_range.mpr (by omega),by omega⟩
 obtain⟨K,vs,k1,k2,k3,k4,k5,k6⟩:=zmy hE (s:=0) (t:=room) (Ne.symm hr) nd (fun e he=>by
  obtain⟨a,b,c,d⟩:=hW e he
  exact⟨hin _ a b,hin _ c d⟩) (hin 0 (Int.le_refl _) h0)
 have hvw:∀v∈vs,v∈ws:=fun v hv=>(ways_char h v).mpr (k5 v hv)
 have hKs:K.Sublist (List.range E.length):=by
  have:∀{l:List Nat} {a n:Nat},l.Pairwise (·<·)->(∀k∈l,a<=k/\k<a+n)->l.Sublist (List.range' a n):=by
   intro l a n
   induction n generalizing l a with
   | zero =>
    intro _ hb
    cases l with
    | nil=>exact List.nil_sublist _
    | cons x l=>have:=hb x (by simp);omega
   | succ n ih =>
    intro pw hb
    rw[List.range'_succ]
    cases l with
    | nil=>exact List.nil_sublist _
    | cons x l =>
     have p:=y16.mp pw
     by_cases e:x=a
     ·subst e
      exact (ih p.2 fun k hk=>by have:=p.1 k hk;have:=hb k (by simp[hk]);omega).cons₂ _
     ·have hx:=hb x (by simp)
      exact (ih pw fun k hk=>by
       have h1:=hb k hk
       rcases y09.mp hk with rfl|hk
       ·omega
       ·have:=p.1 k hk
        omega).cons a
  rw[List.range_eq_range']
  exact this k1 fun k hk=>by have:=k3 k hk;omega
 have hKh:Hits K ws:=fun w hw=>by
  obtain⟨p,p1,p2,p3⟩:=(ways_char h w).mp hw
  exact k4 w p p1 p3
 have l1:=hmin K hKs hKh
 have l2:=zch k6 fun v hv=>hC v (hvw v hv)
 have ne:∀v∈ws,v≠[]:=fun v hv=>by
  rintro rfl
  obtain⟨p,p1,p2,p3⟩:=(ways_char h []).mp hv
  have:p=[]:=p1
  subst this
  simp at p3
  exact hr p3.symm
 have ndv:vs.Nodup:=by
  have:∀{l:List (List Nat)},l.Pairwise Apt->(∀v∈l,v≠[])->l.Nodup:=by
   intro l hp hn
   refine List.Pairwise.imp_of_mem (fun {a b} ha hb (q:Apt a b) z=>?_) hp
   subst z
   cases a with
   | nil=>exact hn [] ha rfl
   | cons k a=>exact q k (by simp) (by simp)
  exact this k6 fun v hv=>ne v (hvw v hv)
 have ndw:ws.Nodup:=(ways_pw h).imp fun q z=>by
  subst z
  exact List.lt_irrefl _ q
 have hperm:(ws.filter fun w=>decide (w∈vs)).Perm vs:=(List.perm_ext_iff_of_nodup (ndw.filter _) ndv).mpr fun w=>by
  rw[List.mem_filter]
  simp only[decide_eq_true_eq]
  exact⟨fun z=>z.2,fun z=>⟨hvw w z,z⟩⟩
 have sym:∀{a b:List Nat},Apt a b->Apt b a:=fun q k h1 h2=>q k h2 h1
 refine⟨_,List.filter_sublist,by rw[hperm.length_eq];omega,?_⟩
 exact (hperm.pairwise_iff sym).mpr k6
end Hg
end
section
namespace Wo
open PySem D Ho
theorem z2b {c:Ft} {a:Fs} {ε:Ev} (h:c ε=some false):iff c a skip ε=some (.nx ε):=(z9c h).trans rfl
def cstN (w:List Nat):List Int:=w.map fun (k:Nat)=>(k:Int)
theorem z4l (w:List Nat):wT w=.tuple ((cstN w).map .int):=by simp[wT,cstN]
theorem zi5 {k:Nat} {w:List Nat}:((k:Int)∈cstN w) <-> k∈w:=by
 unfold cstN
 rw[y0m]
 constructor
 ·rintro⟨j,hj,e⟩
  have:j=k:=by omega
  exact this▸hj
 ·intro h
  exact⟨k,h,rfl⟩
theorem zez (neg:Bool) (k:Nat) (w:List Nat):oIn neg (.int k) (wT w)=some (.bool (if neg then !decide (k∈w) else decide (k∈w))):=by
 rw[z4l,z7r]
 have:decide ((k:Int)∈cstN w)=decide (k∈w):=decide_eq_decide.mpr zi5
 rw[this]
def seqT (b:Bool) (ws:List (List Nat)):T:=if b then .tuple (ws.map wT) else .list (ws.map wT)
theorem zap {f:Fe} {ε:Ev} {b:Bool} {ws:List (List Nat)} (h:f ε=some (seqT b ws)):z0a f ε=some (ws.map wT):=by
 unfold z0a
 rw[h]
 cases b <;> rfl
theorem zi8 (b:Bool) (ws:List (List Nat)):oLen [seqT b ws]=some (.int ws.length):=by
 cases b <;> simp[seqT,oLen]
theorem zgy {f:Fe} {ε:Ev} {b:Bool} {ws:List (List Nat)} (h:f ε=some (seqT b ws)):tstL f ε=some (!ws.isEmpty):=by
 unfold tstL
 rw[h]
 cases b <;> cases ws <;> rfl
theorem zbe (n k:Nat) (h:k<=n):D.sIx n 0 (some (k:Int))=k:=by
 unfold D.sIx
 simp only
 rw[if_neg (by omega)]
 omega
theorem zk1 (b:Bool) (ws:List (List Nat)) (k:Nat) (h:k<=ws.length):oSl (seqT b ws) (some (k:Int)) none=some (seqT b (ws.drop k)):=by
 have e:cutZ (ws.map wT) (some (k:Int)) none=(ws.drop k).map wT:=by
  unfold cutZ
  have h1:D.sIx (ws.map wT).length (ws.map wT).length none=(ws.map wT).length:=rfl
  rw[zbe _ _ (by simpa using h),h1,List.map_drop]
  refine List.take_of_length_le ?_
  rw[List.length_drop]
  exact y0o _
 cases b
 ·show some (PyData.list _)=_
  rw[e]
  rfl
 ·show some (PyData.tuple _)=_
  rw[e]
  rfl
theorem zlx (w:List Nat) (k:Nat) (h:k<=w.length):oSl (wT w) (some (k:Int)) none=some (wT (w.drop k)):=by
 unfold wT oSl cutZ
 have h1:D.sIx (w.map fun (k:Nat)=>PyData.int (k:Int)).length (w.map fun (k:Nat)=>PyData.int (k:Int)).length none=(w.map fun (k:Nat)=>PyData.int (k:Int)).length:=rfl
 simp only
 rw[zbe _ _ (by simpa using h),h1,List.map_drop,List.take_of_length_le (by rw[List.length_drop];exact y0o _)]
theorem zlj (n:Nat) (w:List Nat) (h:w.length<=1000):oAdd (.tuple [.int n]) (wT w)=some (wT (n::w)):=by
 have:=z7f (xs:=[PyData.int (n:Int)]) (ys:=w.map fun (k:Nat)=>PyData.int (k:Int)) (by simp;omega)
 exact this
def opW:Option (List Nat)->T
 | some C=>wT C
 | none=>.none
def opR:Option (List (List Nat))->T
 | some B=>.tuple (B.map wT)
 | none=>.none
theorem z6c (n:Nat):∀(ths:List (List Nat)) (j:Option Sl),z1v (gNm 0) (tstB (op2 (oIn true) (nm 1) (nm 0))) (nmV 0) (ths.map wT) [j,some (.imm (.int n))]=some ((Hg.missed n ths).map wT)
 | [],j=>rfl
 | w::ths,j=>by
  have ih:=z6c n ths (some (.imm (wT w)))
  have e0:gNm 0 (wT w) [j,some (.imm (.int n))]=some [some (.imm (wT w)),some (.imm (.int n))]:=rfl
  have c:tstB (op2 (oIn true) (nm 1) (nm 0)) [some (.imm (wT w)),some (.imm (.int n))]=some (!decide (n∈w)):=z1b (z0f rfl rfl (zez true n w))
  have v:nmV 0 [some (.imm (wT w)),some (.imm (.int n))]=some (wT w):=rfl
  unfold Hg.missed at ih ⊢
  by_cases h:n∈w
  ·simp only[y0d,z1v,e0,c,y0p,h,decide_true,Bool.not_true,y1o,if_false,ih,List.filter_cons]
  ·simp only[y0d,z1v,e0,c,y0p,h,decide_false,Bool.not_false,if_true,v,ih,List.filter_cons,y1l]
def endW (ε:Ev):Option (List Nat)->Out
 | some C=>.rt (wT C)
 | none=>.nx ε
def endN (n:Nat) (ε:Ev):Option (List Nat)->Out
 | some C=>.rt (wT (n::C))
 | none=>.nx ε
noncomputable def bS (rec:List T->Option T):Fs:=(seq (asg 5 (comp 1 [4] (z0a (nmV 0)) (gNm 0) (tstB (op2 (oIn true) (nm 1) (nm 0))) (nmV 0)))
  (iff (tstB (op2 oLt (opN oLen [(nm 5)]) (opN oLen [(nm 0)]))) (seq (asg 6 (opN rec [(nmV 5),(z2l (nm 1) (opt (op2 oAdd (nm 3) (cst (.int 1)))) optN),(op2 oSub (nm 2) (cst (.int 1)))]))
  (iff (tstB (op1 z0p (nm 6))) (rtn (op2 oAdd (z03 [(nmV 4)]) (nm 6))) skip)) skip))
def envS (b:Bool) (ths:List (List Nat)) (nums:List Nat) (many:Nat) (j3 j4 j5 j6:Option Sl):Ev:=[some (.imm (seqT b ths)),some (.imm (wT nums)),some (.imm (.int many)),j3,j4,j5,j6]
theorem zly {rec:List T->Option T} (b:Bool) (ths:List (List Nat)) (nums:List Nat) (many:Nat) (hm:many≠0) (hl:ths.length<=1000) (k n:Nat) (hk:k<nums.length) (r:Option (List Nat)) (hr:∀C,r=some C->C.length<=900)
  (hrec:(Hg.missed n ths).length<ths.length->rec [.list ((Hg.missed n ths).map wT),wT (nums.drop (k+1)),.int ((many:Int) - 1)]=some (opW r)) (j5 j6:Option Sl) :
  bS rec (envS b ths nums many (some (.imm (.int k))) (some (.imm (.int n))) j5 j6) =
   some (if (Hg.missed n ths).length<ths.length then (endN n (envS b ths nums many (some (.imm (.int k))) (some (.imm (.int n))) (some (.imm (.list ((Hg.missed n ths).map wT)))) (some (.imm .none))) r) else .nx (envS b ths nums many (some (.imm (.int k))) (some (.imm (.int n))) (some (.imm (.list ((Hg.missed n ths).map wT)))) j6)):=by
 have v5:comp 1 [4] (z0a (nmV 0)) (gNm 0) (tstB (op2 (oIn true) (nm 1) (nm 0))) (nmV 0) (envS b ths nums many (some (.imm (.int k))) (some (.imm (.int n))) j5 j6)=some (.list ((Hg.missed n ths).map wT)):=by
  have it:z0a (nmV 0) (envS b ths nums many (some (.imm (.int k))) (some (.imm (.int n))) j5 j6)=some (ths.map wT):=zap rfl
  have hcap:z16 1 [4] (envS b ths nums many (some (.imm (.int k))) (some (.imm (.int n))) j5 j6)=[none,some (.imm (.int n))]:=rfl
  simp only[comp,it,y0p,hcap,z6c,y12]
  rw[if_pos (by unfold big;omega)]
  rfl
 have s5:asg 5 (comp 1 [4] (z0a (nmV 0)) (gNm 0) (tstB (op2 (oIn true) (nm 1) (nm 0))) (nmV 0)) (envS b ths nums many (some (.imm (.int k))) (some (.imm (.int n))) j5 j6)=some (.nx (envS b ths nums many (some (.imm (.int k))) (some (.imm (.int n))) (some (.imm (.list ((Hg.missed n ths).map wT)))) j6)):=z2q v5
 have c:tstB (op2 oLt (opN oLen [(nm 5)]) (opN oLen [(nm 0)])) (envS b ths nums many (some (.imm (.int k))) (some (.imm (.int n))) (some (.imm (.list ((Hg.missed n ths).map wT)))) j6)=some (decide (((Hg.missed n ths).length:Int)<(ths.length:Int))):=by
  refine z1b (z0f (z0o (z38 (f:=nm 5) rfl) (t:=.int (Hg.missed n ths).length) (by simp[oLen])) (z0o (z38 (f:=nm 0) rfl) (zi8 b ths)) rfl)
 unfold bS
 rw[z07 s5]
 by_cases hlt:(Hg.missed n ths).length<ths.length
 ·rw[if_pos hlt]
  rw[decide_eq_true (by omega)] at c
  rw[z2i c]
  have sl:z2l (nm 1) (opt (op2 oAdd (nm 3) (cst (.int 1)))) optN (envS b ths nums many (some (.imm (.int k))) (some (.imm (.int n))) (some (.imm (.list ((Hg.missed n ths).map wT)))) j6)=some (wT (nums.drop (k+1))):=by
   have h1:nm 1 (envS b ths nums many (some (.imm (.int k))) (some (.imm (.int n))) (some (.imm (.list ((Hg.missed n ths).map wT)))) j6)=some (wT nums):=rfl
   have h2:opt (op2 oAdd (nm 3) (cst (.int 1))) (envS b ths nums many (some (.imm (.int k))) (some (.imm (.int n))) (some (.imm (.list ((Hg.missed n ths).map wT)))) j6)=some (some ((k+1:Nat):Int)):=rfl
   simp only[z2l,h1,h2,y0p,optN]
   exact zlx nums (k+1) hk
  have sb:op2 oSub (nm 2) (cst (.int 1)) (envS b ths nums many (some (.imm (.int k))) (some (.imm (.int n))) (some (.imm (.list ((Hg.missed n ths).map wT)))) j6)=some (.int ((many:Int) - 1)):=z0f rfl rfl rfl
  have s6:asg 6 (opN rec [(nmV 5),(z2l (nm 1) (opt (op2 oAdd (nm 3) (cst (.int 1)))) optN),(op2 oSub (nm 2) (cst (.int 1)))]) (envS b ths nums many (some (.imm (.int k))) (some (.imm (.int n))) (some (.imm (.list ((Hg.missed n ths).map wT)))) j6)=some (.nx (envS b ths nums many (some (.imm (.int k))) (some (.imm (.int n))) (some (.imm (.list ((Hg.missed n ths).map wT)))) (some (.imm (opW r))))) :=
   z2q (z0o (znr rfl sl sb) (hrec hlt))
  rw[z07 s6]
  cases r with
  | none =>
   have c6:tstB (op1 z0p (nm 6)) (envS b ths nums many (some (.imm (.int k))) (some (.imm (.int n))) (some (.imm (.list ((Hg.missed n ths).map wT)))) (some (.imm (opW none))))=some false:=rfl
   rw[z2b c6]
   rfl
  | some C =>
   have c6:tstB (op1 z0p (nm 6)) (envS b ths nums many (some (.imm (.int k))) (some (.imm (.int n))) (some (.imm (.list ((Hg.missed n ths).map wT)))) (some (.imm (opW (some C)))))=some true:=rfl
   rw[z2i c6]
   have ha:op2 oAdd (z03 [(nmV 4)]) (nm 6) (envS b ths nums many (some (.imm (.int k))) (some (.imm (.int n))) (some (.imm (.list ((Hg.missed n ths).map wT)))) (some (.imm (opW (some C)))))=some (wT (n::C)) :=
    z0f (z2y (z38 rfl) (by simp)) rfl (zlj n C (by have:=hr C rfl;omega))
   simp only[rtn,ha,y1l,endN]
 ·rw[if_neg hlt]
  rw[decide_eq_false (by omega)] at c
  rw[z2b c]
theorem zdq {ths:List (List Nat)} {nums:List Nat} {many:Nat} {C:List Nat} (h:Hg.stopsR ths nums many=some C):C.length<=nums.length:=(Hg.stops_sound h).1.length_le
theorem zdy {rec:List T->Option T} (b:Bool) (ths:List (List Nat)) (nums:List Nat) (many:Nat) (hm:many≠0) (hne:ths≠[]) (hl:ths.length<=1000) (hnum:nums.length<=800)
  (hrec:∀os ns,ns.length<nums.length->os.length<=1000->rec [.list (os.map wT),wT ns,.int ((many:Int) - 1)]=some (opW (Hg.stopsR os ns (many - 1)))) :
  ∀(ns:List Nat) (k:Nat) (j3 j4 j5 j6:Option Sl),nums.drop k=ns->∃ε,forL (gTu [(gNm 3),(gNm 4)]) (bS rec) (((ns.map fun (k:Nat)=>PyData.int (k:Int)).zipIdx k).map fun p=>.tuple [.int p.2,p.1]) (envS b ths nums many j3 j4 j5 j6)=some (endW ε (Hg.stopsR ths ns many))
 | [],k,j3,j4,j5,j6,_=>by
  refine⟨envS b ths nums many j3 j4 j5 j6,?_⟩
  have:Hg.stopsR ths [] many=none:=by
   unfold Hg.stopsR
   rw[if_neg (by simpa using hne)]
  rw[this]
  rfl
 | n::ns,k,j3,j4,j5,j6,hd=>by
  have hk:k<nums.length:=by
   rcases Nat.lt_or_ge k nums.length with q|q
   ·exact q
   ·rw[List.drop_of_length_le q] at hd
    cases hd
  have hd':nums.drop (k+1)=ns:=by
   rw[List.drop_eq_getElem_cons hk] at hd
   exact (List.cons.inj hd).2
  have hnl:ns.length<nums.length:=by
   rw[<- hd',List.length_drop]
   omega
  have hml:(Hg.missed n ths).length<=1000:=y1k (y22 _ _) hl
  have st:=zly (rec:=rec) b ths nums many hm hl k n hk (Hg.stopsR (Hg.missed n ths) ns (many - 1)) (fun C h=>by have:=zdq h;omega) (fun _=>by rw[hd'];exact hrec _ ns hnl hml) j5 j6
  have e0:gTu [(gNm 3),(gNm 4)] (.tuple [.int k,.int n]) (envS b ths nums many j3 j4 j5 j6)=some (envS b ths nums many (some (.imm (.int k))) (some (.imm (.int n))) j5 j6):=rfl
  have he:ths.isEmpty=false:=by simpa using hne
  rw[y0d,List.zipIdx_cons,y0d]
  by_cases hlt:(Hg.missed n ths).length<ths.length
  ·rw[if_pos hlt] at st
   cases hs:Hg.stopsR (Hg.missed n ths) ns (many - 1) with
   | some C =>
    rw[hs] at st
    have unf:Hg.stopsR ths (n::ns) many=some (n::C):=by
     simp only[Hg.stopsR,he,y1o,if_false,hm,hlt,if_true,hs]
    rw[unf]
    refine⟨envS b ths nums many j3 j4 j5 j6,?_⟩
    simp only[forL,e0,y0p,st,endN]
    rfl
   | none =>
    rw[hs] at st
    have unf:Hg.stopsR ths (n::ns) many=Hg.stopsR ths ns many:=by
     conv=>lhs;simp only[Hg.stopsR,he,y1o,if_false,hm,hlt,if_true,hs]
    rw[unf]
    obtain⟨ε,ih⟩:=zdy b ths nums many hm hne hl hnum hrec ns (k+1) (some (.imm (.int k))) (some (.imm (.int n))) (some (.imm (.list ((Hg.missed n ths).map wT)))) (some (.imm .none)) hd'
    exact⟨ε,by rw[z2j e0 st];exact ih⟩
  ·rw[if_neg hlt] at st
   have unf:Hg.stopsR ths (n::ns) many=Hg.stopsR ths ns many:=by
    conv=>lhs;simp only[Hg.stopsR,he,y1o,if_false,hm,hlt]
   rw[unf]
   obtain⟨ε,ih⟩:=zdy b ths nums many hm hne hl hnum hrec ns (k+1) (some (.imm (.int k))) (some (.imm (.int n))) (some (.imm (.list ((Hg.missed n ths).map wT)))) j6 hd'
   exact⟨ε,by rw[z2j e0 st];exact ih⟩
theorem zb8:∀(n:Nat) (b:Bool) (ths:List (List Nat)) (nums:List Nat) (many:Nat),nums.length<n->ths.length<=1000->nums.length<=800->z1s n [seqT b ths,wT nums,.int many]=some (opW (Hg.stopsR ths nums many))
 | 0,b,ths,nums,many,h,_,_=>by omega
 | n+1,b,ths,nums,many,h,hl,hnum=>by
  have e0:z1s (n+1) [seqT b ths,wT nums,.int many]=(z3k (z1s n) (envS b ths nums many none none none none)).bind fun o=>match o with|.rt t=>some t|.nx _=>some .none|_=>none:=rfl
  rw[e0]
  have c1:notT (tstL (nm 0)) (envS b ths nums many none none none none)=some (!(!ths.isEmpty)):=by
   have:tstL (nm 0) (envS b ths nums many none none none none)=some (!ths.isEmpty):=zgy rfl
   simp only[notT,this,y1l]
  by_cases hne:ths=[]
  ·subst hne
   have r:z3k (z1s n) (envS b [] nums many none none none none)=some (.rt (.tuple [])):=by
    unfold z3k
    simp only[seq,z2i (show notT (tstL (nm 0)) (envS b [] nums many none none none none)=some true from c1),rtn]
    rfl
   rw[r,Hg.stopsR_nil]
   rfl
  ·have he:ths.isEmpty=false:=by cases ths with
    | nil=>exact absurd rfl hne
    | cons a b=>rfl
   rw[he] at c1
   have c2:tstB (op2 oEq (nm 2) (cst (.int 0))) (envS b ths nums many none none none none)=some (decide ((many:Int)=0)):=z1b (z0f rfl rfl (z3c _ _))
   by_cases hm:many=0
   ·subst hm
    have hs:Hg.stopsR ths nums 0=none:=by
     cases nums with
     | nil=>unfold Hg.stopsR;rw[if_neg (by simpa using hne)]
     | cons a r=>unfold Hg.stopsR;rw[if_neg (by simpa using hne),if_pos rfl]
    have r:z3k (z1s n) (envS b ths nums 0 none none none none)=some (.rt .none):=by
     unfold z3k
     rw[z07 (z2b c1)]
     simp only[seq,z2i (show tstB (op2 oEq (nm 2) (cst (.int 0))) (envS b ths nums 0 none none none none)=some true from c2),rtn]
     rfl
    rw[r,hs]
    rfl
   ·rw[decide_eq_false (by omega)] at c2
    have hmi:(many:Int) - 1=((many - 1:Nat):Int):=by omega
    obtain⟨ε,hlp⟩:=zdy (rec:=z1s n) b ths nums many hm hne hl hnum (fun os ns h1 h2=>by
     rw[hmi]
     exact zb8 n false os ns (many - 1) (by omega) h2 (by omega)) nums 0 none none none none rfl
    have it:z1p (z4q (nmV 1)) (envS b ths nums many none none none none)=some (((nums.map fun (k:Nat)=>PyData.int (k:Int)).zipIdx 0).map fun p=>.tuple [.int p.2,p.1]):=rfl
    have hf:for_ (z1p (z4q (nmV 1))) (gTu [(gNm 3),(gNm 4)]) (bS (z1s n)) (envS b ths nums many none none none none)=some (endW ε (Hg.stopsR ths nums many)):=by
     simp only[for_,it,y0p]
     exact hlp
    have r:z3k (z1s n) (envS b ths nums many none none none none)=some (.rt (opW (Hg.stopsR ths nums many))):=by
     unfold bS at hf
     unfold z3k
     rw[z07 (z2b c1),z07 (z2b c2)]
     cases hs:Hg.stopsR ths nums many with
     | some C =>
      rw[hs] at hf
      simp only[seq,hf,y0p,endW]
      rfl
     | none =>
      rw[hs] at hf
      rw[z07 hf]
      rfl
    rw[r]
    rfl
def bF:Fs:=(seq (asg 5 (opN (z1s 20) [(nmV 2),(nmV 3),(nmV 4)]))
  (iff (tstB (op1 z0p (nm 5))) (rtn (nm 5)) skip))
def envF (h:T) (room:Int) (ths:List (List Nat)) (nums:List Nat) (j4 j5:Option Sl):Ev:=[some (.imm h),some (.imm (.int room)),some (.imm (seqT true ths)),some (.imm (wT nums)),j4,j5]
theorem z9i (h:T) (room:Int) (ths:List (List Nat)) (nums:List Nat) (hl:ths.length<=1000) (hnum:nums.length<20):∀(ms:List Nat) (j4 j5:Option Sl) (C:List Nat),Hg.fewL ths nums ms=some C->forL (gNm 4) bF (ms.map fun (k:Nat)=>PyData.int (k:Int)) (envF h room ths nums j4 j5)=some (.rt (wT C))
 | [],j4,j5,C,e=>by cases e
 | m::ms,j4,j5,C,e=>by
  have hs:=zb8 20 true ths nums m hnum hl (by omega)
  have e0:gNm 4 (.int m) (envF h room ths nums j4 j5)=some (envF h room ths nums (some (.imm (.int m))) j5):=rfl
  have s5:asg 5 (opN (z1s 20) [(nmV 2),(nmV 3),(nmV 4)]) (envF h room ths nums (some (.imm (.int m))) j5)=some (.nx (envF h room ths nums (some (.imm (.int m))) (some (.imm (opW (Hg.stopsR ths nums m)))))):=z2q (z0o (znr rfl rfl rfl) hs)
  unfold Hg.fewL at e
  cases hr:Hg.stopsR ths nums m with
  | some C' =>
   rw[hr] at e s5
   cases e
   have st:bF (envF h room ths nums (some (.imm (.int m))) j5)=some (.rt (wT C)):=by
    unfold bF
    rw[z07 s5,z2i (show tstB (op1 z0p (nm 5)) _=some true from rfl)]
    rfl
   rw[y0d]
   simp only[forL,e0,y0p,st]
  | none =>
   rw[hr] at e s5
   have st:bF (envF h room ths nums (some (.imm (.int m))) j5)=some (.nx (envF h room ths nums (some (.imm (.int m))) (some (.imm .none)))):=by
    unfold bF
    rw[z07 s5,z2b (show tstB (op1 z0p (nm 5)) _=some false from rfl)]
    rfl
   rw[y0d,z2j e0 st]
   exact z9i h room ths nums hl hnum ms _ _ C e
theorem ze2 (n:Nat):rng 0 (n:Int)=(List.range n).map fun (k:Nat)=>PyData.int (k:Int):=by
 unfold rng
 simp
theorem znd (R:Int) (os:List Op) (room:Int) (ths:List (List Nat)) (hos:os.length<20):asg 3 (opN z5r [(opN oLen [(op2 oIx (nm 0) (cst (.int 1)))])]) [some (.imm (z02 R os)),some (.imm (.int room)),some (.imm (seqT true ths)),none,none,none]=some (.nx (envF (z02 R os) room ths (List.range os.length) none none)):=by
 have h1:opN oLen [(op2 oIx (nm 0) (cst (.int 1)))] [some (.imm (z02 R os)),some (.imm (.int room)),some (.imm (seqT true ths)),none,none,none]=some (.int os.length):=z0o (z38 (z0f (x:=z02 R os) rfl rfl (t:=.tuple (os.map opT)) rfl)) (by simp[oLen])
 have h2:z5r [.int os.length]=some (wT (List.range os.length)):=by
  have hb:(0:Int)<=(os.length:Int)/\(os.length:Int)<=100000:=⟨by omega,by omega⟩
  have e:z5r [.int os.length]=if (0:Int)<=(os.length:Int)/\(os.length:Int)<=100000 then some (.tuple (rng 0 (os.length:Int))) else none:=by unfold z5r;rfl
  rw[e,if_pos hb,ze2,wT]
 exact z2q (z0o (z38 h1) h2)
theorem zh6 {j:Int} (h0:0<=j) (h1:j<=100):z1h j=true:=by
 unfold z1h
 simp
 omega
theorem zn8 {f:Fe} {ε:Ev} {j:Int} (h:f ε=some (.int j)) (h0:0<=j) (h1:j<=100):z36 f ε=some (rng 0 j):=by
 unfold z36
 rw[h]
 simp only[y0p]
 rw[if_pos (zh6 h0 h1)]
theorem zne (R:Int) (os:List Op) (room:Int) (ths:List (List Nat)) (hos:os.length<20):z36 (op2 oAdd (opN oLen [(nm 3)]) (cst (.int 1))) (envF (z02 R os) room ths (List.range os.length) none none)=some ((List.range (os.length+1)).map fun (k:Nat)=>PyData.int (k:Int)):=by
 have h0:opN oLen [(nm 3)] (envF (z02 R os) room ths (List.range os.length) none none)=some (.int os.length):=z0o (z38 (x:=wT (List.range os.length)) rfl) (by simp[oLen,wT])
 have h1:op2 oAdd (opN oLen [(nm 3)]) (cst (.int 1)) (envF (z02 R os) room ths (List.range os.length) none none)=some (.int ((os.length:Int)+1)):=z0f h0 rfl rfl
 have e:(os.length:Int)+1=((os.length+1:Nat):Int):=by omega
 rw[zn8 h1 (by omega) (by omega),e,ze2]
theorem zg0 {R:Int} {os:List Op} {room:Int} {ths:List (List Nat)} {C:List Nat} (hw:z0r [z02 R os,.int room]=some (.tuple (ths.map wT))) (hl:ths.length<=1000) (hos:os.length<20)
  (hC:Hg.fewL ths (List.range os.length) (List.range (os.length+1))=some C):z32 [z02 R os,.int room]=some (wT C):=by
 have e0:z32 [z02 R os,.int room]=(z5d [some (.imm (z02 R os)),some (.imm (.int room)),none,none,none,none]).bind fun o=>match o with|.rt t=>some t|.nx _=>some .none|_=>none:=rfl
 rw[e0]
 have s2:asg 2 (opN z0r [(nmV 0),(nmV 1)]) [some (.imm (z02 R os)),some (.imm (.int room)),none,none,none,none]=some (.nx [some (.imm (z02 R os)),some (.imm (.int room)),some (.imm (seqT true ths)),none,none,none]):=z2q (z0o (z3u rfl rfl) hw)
 have s3:=znd R os room ths hos
 have it:=zne R os room ths hos
 have hf:for_ (z36 (op2 oAdd (opN oLen [(nm 3)]) (cst (.int 1)))) (gNm 4) bF (envF (z02 R os) room ths (List.range os.length) none none)=some (.rt (wT C)):=by
  simp only[for_,it,y0p]
  exact z9i (z02 R os) room ths (List.range os.length) hl (by simpa using hos) _ none none C hC
 have r:z5d [some (.imm (z02 R os)),some (.imm (.int room)),none,none,none,none]=some (.rt (wT C)):=by
  unfold bF at hf
  unfold z5d
  rw[z07 s2,z07 s3]
  simp only[seq,hf,y0p]
 rw[r]
 rfl
theorem zca (v:List Nat):∀(w:List Nat) (j:Option Sl),z1v (gNm 0) (cstT true) (op2 (oIn false) (nm 0) (nm 1)) (w.map fun (k:Nat)=>PyData.int (k:Int)) [j,some (.imm (wT v))]=some ((w.map fun k=>decide (k∈v)).map .bool)
 | [],j=>rfl
 | k::w,j=>by
  have ih:=zca v w (some (.imm (.int k)))
  have e0:gNm 0 (.int k) [j,some (.imm (wT v))]=some [some (.imm (.int k)),some (.imm (wT v))]:=rfl
  have x:op2 (oIn false) (nm 0) (nm 1) [some (.imm (.int k)),some (.imm (wT v))]=some (.bool (decide (k∈v))):=z0f rfl rfl (zez false k v)
  simp only[y0d,z1v,e0,y0p,cstT,if_true,x,ih,y1l]
theorem z4i:∀bs:List Bool,z88 (bs.map .bool)=some bs
 | []=>rfl
 | b::bs=>by
  simp only[y0d,z88,z4i bs]
  rfl
theorem z9z (w v:List Nat) (hl:w.length<=1000):z0z [wT w,wT v]=some (.bool (Hg.aptB w v)):=by
 have e0:z0z [wT w,wT v]=(z4a [some (.imm (wT w)),some (.imm (wT v))]).bind fun o=>match o with|.rt t=>some t|.nx _=>some .none|_=>none:=rfl
 rw[e0]
 have hc:comp 1 [1] (z0a (nmV 0)) (gNm 0) (cstT true) (op2 (oIn false) (nm 0) (nm 1)) [some (.imm (wT w)),some (.imm (wT v))]=some (.list ((w.map fun k=>decide (k∈v)).map .bool)):=by
  have it:z0a (nmV 0) [some (.imm (wT w)),some (.imm (wT v))]=some (w.map fun (k:Nat)=>PyData.int (k:Int)):=rfl
  have hcap:z16 1 [1] [some (.imm (wT w)),some (.imm (wT v))]=[none,some (.imm (wT v))]:=rfl
  simp only[comp,it,y0p,hcap,zca,y12]
  rw[if_pos (by unfold big;omega)]
  rfl
 have ha:opN oAny [(comp 1 [1] (z0a (nmV 0)) (gNm 0) (cstT true) (op2 (oIn false) (nm 0) (nm 1)))] [some (.imm (wT w)),some (.imm (wT v))]=some (.bool ((w.map fun k=>decide (k∈v)).any id)):=by
  refine z0o (z38 hc) ?_
  simp only[oAny,z4i,y1l]
 simp only[z4a,rtn,notV,ha,y0p,y1l,Hg.aptB,List.any_map,Function.comp_def,id]
theorem zcd (w:List Nat) (hl:w.length<=1000):∀(vs:List (List Nat)) (j:Option Sl),z1v (gNm 0) (tstB (opN z0z [(nmV 1),(nmV 0)])) (nmV 0) (vs.map wT) [j,some (.imm (wT w))]=some ((vs.filter (Hg.aptB w)).map wT)
 | [],j=>rfl
 | v::vs,j=>by
  have ih:=zcd w hl vs (some (.imm (wT v)))
  have e0:gNm 0 (wT v) [j,some (.imm (wT w))]=some [some (.imm (wT v)),some (.imm (wT w))]:=rfl
  have c:tstB (opN z0z [(nmV 1),(nmV 0)]) [some (.imm (wT v)),some (.imm (wT w))]=some (Hg.aptB w v):=z1b (z0o (z3u rfl rfl) (z9z w v hl))
  have x:nmV 0 [some (.imm (wT v)),some (.imm (wT w))]=some (wT v):=rfl
  cases h:Hg.aptB w v with
  | true=>rw[h] at c;simp only[y0d,z1v,e0,c,y0p,if_true,x,ih,List.filter_cons,h,y1l]
  | false=>rw[h] at c;simp only[y0d,z1v,e0,c,y0p,y1o,if_false,ih,List.filter_cons,h]
noncomputable def bA (rec:List T->Option T):Fs:=(seq (asg 4 (comp 1 [3] (z0a (z2l (nm 0) (opt (op2 oAdd (nm 2) (cst (.int 1)))) optN)) (gNm 0) (tstB (opN z0z [(nmV 1),(nmV 0)])) (nmV 0)))
  (seq (asg 5 (opN rec [(nmV 4),(op2 oSub (nm 1) (cst (.int 1)))]))
  (iff (tstB (op1 z0p (nm 5))) (rtn (op2 oAdd (z03 [(nmV 3)]) (nm 5))) skip)))
def envA (b:Bool) (ths:List (List Nat)) (many:Nat) (j2 j3 j4 j5:Option Sl):Ev:=[some (.imm (seqT b ths)),some (.imm (.int many)),j2,j3,j4,j5]
theorem znf {m:Nat} {ths B:List (List Nat)} (h:Hg.faR m ths=some B):B.length=m:=(Hg.fa_sound h).2.1
theorem zjr {rec:List T->Option T} (b:Bool) (ths:List (List Nat)) (m:Nat) (hm:m<=1000) (hl:ths.length<=1000) (hw:∀w∈ths,w.length<=1000)
  (hrec:∀vs,vs.length<=1000->(∀w∈vs,w.length<=1000)->rec [.list (vs.map wT),.int (((m+1:Nat):Int) - 1)]=some (opR (Hg.faR m vs))) :
  ∀(ws:List (List Nat)) (k:Nat) (j2 j3 j4 j5:Option Sl),ths.drop k=ws->∃ε,forL (gTu [(gNm 2),(gNm 3)]) (bA rec) (((ws.map wT).zipIdx k).map fun p=>.tuple [.int p.2,p.1]) (envA b ths (m+1) j2 j3 j4 j5)=some (match Hg.faL (Hg.faR m) ws with|some B=>.rt (.tuple (B.map wT))|none=>.nx ε)
 | [],k,j2,j3,j4,j5,_=>⟨envA b ths (m+1) j2 j3 j4 j5,rfl⟩
 | w::ws,k,j2,j3,j4,j5,hd=>by
  have hk:k<ths.length:=by
   rcases Nat.lt_or_ge k ths.length with q|q
   ·exact q
   ·rw[List.drop_of_length_le q] at hd
    cases hd
  have hd':ths.drop (k+1)=ws:=by
   rw[List.drop_eq_getElem_cons hk] at hd
   exact (List.cons.inj hd).2
  have hmem:∀v∈w::ws,v∈ths:=fun v hv=>List.mem_of_mem_drop (by rw[hd];exact hv)
  have hwl:=hw w (hmem w (by simp))
  have hwsl:ws.length<=1000:=by rw[<- hd',List.length_drop];omega
  have e0:gTu [(gNm 2),(gNm 3)] (.tuple [.int k,wT w]) (envA b ths (m+1) j2 j3 j4 j5)=some (envA b ths (m+1) (some (.imm (.int k))) (some (.imm (wT w))) j4 j5):=rfl
  have sl:z2l (nm 0) (opt (op2 oAdd (nm 2) (cst (.int 1)))) optN (envA b ths (m+1) (some (.imm (.int k))) (some (.imm (wT w))) j4 j5)=some (seqT b ws):=by
   have h1:nm 0 (envA b ths (m+1) (some (.imm (.int k))) (some (.imm (wT w))) j4 j5)=some (seqT b ths):=rfl
   have h2:opt (op2 oAdd (nm 2) (cst (.int 1))) (envA b ths (m+1) (some (.imm (.int k))) (some (.imm (wT w))) j4 j5)=some (some ((k+1:Nat):Int)):=rfl
   simp only[z2l,h1,h2,y0p,optN]
   rw[zk1 b ths (k+1) hk,hd']
  have v4:comp 1 [3] (z0a (z2l (nm 0) (opt (op2 oAdd (nm 2) (cst (.int 1)))) optN)) (gNm 0) (tstB (opN z0z [(nmV 1),(nmV 0)])) (nmV 0) (envA b ths (m+1) (some (.imm (.int k))) (some (.imm (wT w))) j4 j5)=some (.list ((ws.filter (Hg.aptB w)).map wT)):=by
   have it:=zap sl
   have hcap:z16 1 [3] (envA b ths (m+1) (some (.imm (.int k))) (some (.imm (wT w))) j4 j5)=[none,some (.imm (wT w))]:=rfl
   simp only[comp,it,y0p,hcap,zcd w hwl,y12]
   rw[if_pos (by unfold big;omega)]
   rfl
  have s4:asg 4 (comp 1 [3] (z0a (z2l (nm 0) (opt (op2 oAdd (nm 2) (cst (.int 1)))) optN)) (gNm 0) (tstB (opN z0z [(nmV 1),(nmV 0)])) (nmV 0)) (envA b ths (m+1) (some (.imm (.int k))) (some (.imm (wT w))) j4 j5)=some (.nx (envA b ths (m+1) (some (.imm (.int k))) (some (.imm (wT w))) (some (.imm (.list ((ws.filter (Hg.aptB w)).map wT)))) j5)):=z2q v4
  have hr:=hrec (ws.filter (Hg.aptB w)) (y1k (y22 _ _) hwsl) fun v hv=>hw v (hmem v (y05 _ (List.mem_filter.mp hv).1))
  have s5:asg 5 (opN rec [(nmV 4),(op2 oSub (nm 1) (cst (.int 1)))]) (envA b ths (m+1) (some (.imm (.int k))) (some (.imm (wT w))) (some (.imm (.list ((ws.filter (Hg.aptB w)).map wT)))) j5)=some (.nx (envA b ths (m+1) (some (.imm (.int k))) (some (.imm (wT w))) (some (.imm (.list ((ws.filter (Hg.aptB w)).map wT)))) (some (.imm (opR (Hg.faR m (ws.filter (Hg.aptB w)))))))) :=
   z2q (z0o (z3u rfl (z0f rfl rfl rfl)) hr)
  rw[y0d,List.zipIdx_cons,y0d,Hg.faL]
  cases hs:Hg.faR m (ws.filter (Hg.aptB w)) with
  | some B =>
   rw[hs] at s5
   have hB:=znf hs
   refine⟨envA b ths (m+1) j2 j3 j4 j5,?_⟩
   have st:bA rec (envA b ths (m+1) (some (.imm (.int k))) (some (.imm (wT w))) j4 j5)=some (.rt (.tuple ((w::B).map wT))):=by
    unfold bA
    rw[z07 s4,z07 s5,z2i (show tstB (op1 z0p (nm 5)) _=some true from rfl)]
    have ha:op2 oAdd (z03 [(nmV 3)]) (nm 5) (envA b ths (m+1) (some (.imm (.int k))) (some (.imm (wT w))) (some (.imm (.list ((ws.filter (Hg.aptB w)).map wT)))) (some (.imm (opR (some B)))))=some (.tuple ((w::B).map wT)) :=
     z0f (z2y (z38 rfl) (by simp)) rfl (z7f (by simp;omega))
    simp only[rtn,ha,y1l]
   simp only[forL,e0,y0p,st]
  | none =>
   rw[hs] at s5
   have st:bA rec (envA b ths (m+1) (some (.imm (.int k))) (some (.imm (wT w))) j4 j5)=some (.nx (envA b ths (m+1) (some (.imm (.int k))) (some (.imm (wT w))) (some (.imm (.list ((ws.filter (Hg.aptB w)).map wT)))) (some (.imm .none)))):=by
    unfold bA
    rw[z07 s4,z07 s5,z2b (show tstB (op1 z0p (nm 5)) _=some false from rfl)]
    rfl
   obtain⟨ε,ih⟩:=zjr b ths m hm hl hw hrec ws (k+1) (some (.imm (.int k))) (some (.imm (wT w))) (some (.imm (.list ((ws.filter (Hg.aptB w)).map wT)))) (some (.imm .none)) hd'
   exact⟨ε,by rw[z2j e0 st];exact ih⟩
theorem z3x:∀(n:Nat) (b:Bool) (ths:List (List Nat)) (many:Nat),many<n->many<=1000->ths.length<=1000->(∀w∈ths,w.length<=1000)->z0h n [seqT b ths,.int many]=some (opR (Hg.faR many ths))
 | 0,b,ths,many,h,_,_,_=>by omega
 | n+1,b,ths,many,h,hm,hl,hw=>by
  have e0:z0h (n+1) [seqT b ths,.int many]=(z14 (z0h n) (envA b ths many none none none none)).bind fun o=>match o with|.rt t=>some t|.nx _=>some .none|_=>none:=rfl
  rw[e0]
  have c2:tstB (op2 oEq (nm 1) (cst (.int 0))) (envA b ths many none none none none)=some (decide ((many:Int)=0)):=z1b (z0f rfl rfl (z3c _ _))
  cases many with
  | zero =>
   have r:z14 (z0h n) (envA b ths 0 none none none none)=some (.rt (.tuple [])):=by
    unfold z14
    simp only[seq,z2i (show tstB (op2 oEq (nm 1) (cst (.int 0))) (envA b ths 0 none none none none)=some true from c2),rtn]
    rfl
   rw[r]
   rfl
  | succ m =>
   rw[decide_eq_false (by omega)] at c2
   have hmi:((m+1:Nat):Int) - 1=(m:Int):=by omega
   obtain⟨ε,hlp⟩:=zjr (rec:=z0h n) b ths m (by omega) hl hw (fun vs h1 h2=>by
    rw[hmi]
    exact z3x n false vs m (by omega) (by omega) h1 h2) ths 0 none none none none rfl
   have it:z1p (z0a (nmV 0)) (envA b ths (m+1) none none none none)=some (((ths.map wT).zipIdx 0).map fun p=>.tuple [.int p.2,p.1]):=by
    have:=zap (f:=nmV 0) (ε:=envA b ths (m+1) none none none none) (b:=b) (ws:=ths) rfl
    simp only[z1p,this,y1l]
    rfl
   have hf:for_ (z1p (z0a (nmV 0))) (gTu [(gNm 2),(gNm 3)]) (bA (z0h n)) (envA b ths (m+1) none none none none)=some (match Hg.faL (Hg.faR m) ths with|some B=>.rt (.tuple (B.map wT))|none=>.nx ε):=by
    simp only[for_,it,y0p]
    exact hlp
   have r:z14 (z0h n) (envA b ths (m+1) none none none none)=some (.rt (opR (Hg.faR (m+1) ths))):=by
    unfold bA at hf
    unfold z14
    rw[z07 (z2b c2)]
    show seq _ _ _=some (.rt (opR (Hg.faL (Hg.faR m) ths)))
    cases hs:Hg.faL (Hg.faR m) ths with
    | some C =>
     rw[hs] at hf
     simp only[seq,hf,y0p]
     rfl
    | none =>
     rw[hs] at hf
     rw[z07 hf]
     rfl
   rw[r]
   rfl
theorem ziw {R:Int} {os:List Op} {room:Int} {ths:List (List Nat)} {C:List Nat} (hw:z0r [z02 R os,.int room]=some (.tuple (ths.map wT))) (hl:ths.length<=1000) (hwl:∀w∈ths,w.length<=1000) (hf:z32 [z02 R os,.int room]=some (wT C)) (hC:C.length<20):zaw [z02 R os,.int room]=some (opR (Hg.faR C.length ths)):=by
 have e0:zaw [z02 R os,.int room]=(zay [some (.imm (z02 R os)),some (.imm (.int room))]).bind fun o=>match o with|.rt t=>some t|.nx _=>some .none|_=>none:=rfl
 rw[e0]
 have h1:opN z0r [(nmV 0),(nmV 1)] [some (.imm (z02 R os)),some (.imm (.int room))]=some (seqT true ths):=z0o (z3u rfl rfl) hw
 have h2:opN oLen [(opN z32 [(nmV 0),(nmV 1)])] [some (.imm (z02 R os)),some (.imm (.int room))]=some (.int C.length):=z0o (z38 (z0o (z3u rfl rfl) hf)) (by simp[oLen,wT])
 have h3:opN (z0h 20) [(opN z0r [(nmV 0),(nmV 1)]),(opN oLen [(opN z32 [(nmV 0),(nmV 1)])])] [some (.imm (z02 R os)),some (.imm (.int room))]=some (opR (Hg.faR C.length ths)):=z0o (z3u h1 h2) (z3x 20 true ths C.length hC (by omega) hl hwl)
 simp only[zay,rtn,h3,y1l,y0p]
end Wo
end
section
namespace Qo
open PySem D Ho Wo
local instance:Tbl:=⟨[],fun _=>[],fun _=>none⟩
theorem zbl (w:List Nat):(wT w).canLay0=true/\(wT w).depth<=2:=by
 have hi:=z4d (cstN w)
 rw[z4l]
 simp only[PyData.canLay0,y20,hi.1,true_and]
 have:=hi.2
 omega
theorem zet:∀ws:List (List Nat),y1e (ws.map wT)=true/\y1c (ws.map wT)<=2
 | []=>by simp[y1e,y1c]
 | w::ws=>by
  have h1:=zbl w
  have h2:=zet ws
  simp only[y0d,y1e,y1c,h1.1,h2.1,Bool.and_self,true_and]
  have:=h1.2
  have:=h2.2
  omega
theorem z5a:∀{x y:List Nat},cstN x=cstN y->x=y
 | [],[],_=>rfl
 | [],_::_,h=>by simp[cstN] at h
 | _::_,[],h=>by simp[cstN] at h
 | a::x,b::y,h=>by
  simp only[cstN,y0d,List.cons.injEq] at h
  have h1:a=b:=by omega
  rw[h1,z5a (show cstN x=cstN y from h.2)]
theorem zg5 (x y:List Nat):y1v (wT x) (wT y)=decide (x=y):=by
 rw[z4l,z4l,zin]
 exact decide_eq_decide.mpr ⟨z5a,fun h=>by rw[h]⟩
theorem z69:∀B D:List (List Nat),PyData.eqvAll (B.map wT) (D.map wT)=decide (B=D)
 | [],[]=>rfl
 | [],_::_=>rfl
 | _::_,[]=>rfl
 | x::B,y::D=>by
  rw[y0d,y0d,PyData.eqvAll,zg5,z69 B D]
  by_cases h1:x=y <;> by_cases h2:B=D <;> simp[h1,h2]
theorem z96:∀xs ys:List Int,lexD (xs.map .int) (ys.map .int)=some (ltL xs ys)
 | [],[]=>by simp[lexD,ltL]
 | [],_::_=>by simp[lexD,ltL]
 | _::_,[]=>by simp[lexD,ltL]
 | a::x,b::y=>by
  have ih:=z96 x y
  simp only[y0d,lexD,ltL,y1v]
  by_cases h:a=b
  ·subst h
   simp[ih]
  ·have:(a == b)=false:=by simpa using h
   simp[this,h,ltD]
def ltN (x y:List Nat):Bool:=ltL (cstN x) (cstN y)
theorem zkx (x y:List Nat):ltD (wT x) (wT y)=some (ltN x y):=by
 rw[z4l,z4l]
 simp only[ltD,z96,ltN]
def ltK (x y:List Nat):Bool:=decide (x.length<y.length) || (decide (x.length=y.length) && ltN x y)
def pT (x:List Nat):T:=.tuple [.int x.length,wT x]
theorem zkw (x:List Nat):ltN x x=false:=zf7 _
theorem zi7 (x y:List Nat):ltD (pT x) (pT y)=some (ltK x y):=by
 simp only[pT,ltD,lexD,y1v,zg5,zkx,ltK]
 by_cases h:x.length=y.length
 ·have e:((x.length:Int) == (y.length:Int))=true:=by simp[h]
  simp only[e,if_true,h,Nat.lt_irrefl,decide_false,Bool.false_or,decide_true,Bool.true_and]
  by_cases q:x=y
  ·subst q
   simp[zkw]
  ·simp[q]
 ·have e:((x.length:Int) == (y.length:Int))=false:=by simp;omega
  simp only[e,y1o,if_false,h,decide_false,Bool.false_and,Bool.or_false]
  congr 1
  exact decide_eq_decide.mpr (by omega)
theorem zhs (x:List Nat):okT (pT x)=true:=by
 have:=zbl x
 simp[okT,pT,PyData.canLay0,y20,y1e,y1c,this.1]
 omega
def rwT (B:List (List Nat)):T:=.tuple (B.map wT)
theorem zmt (B:List (List Nat)):(rwT B).canLay0=true/\(rwT B).depth<=3:=by
 have h:=zet B
 simp only[rwT,PyData.canLay0,y20,h.1,true_and]
 have:=h.2
 omega
theorem zku (B:List (List Nat)):okT (rwT B)=true:=by
 have:=zmt B
 simp[okT,this.1]
 omega
theorem zg6 (B D:List (List Nat)):y1v (rwT B) (rwT D)=decide (B=D):=by rw[rwT,rwT,y1v,z69]
def z56 (b:List Nat):List (List Nat)->List Nat
 | []=>b
 | d::ds=>if ltK d b then z56 d ds else z56 b ds
def minW:List (List Nat)->List Nat
 | []=>[]
 | d::ds=>z56 d ds
theorem z5u:∀(ds:List (List Nat)) (b:List Nat),z56 b ds=b\/z56 b ds∈ds
 | [],b=>.inl rfl
 | d::ds,b=>by
  unfold z56
  split
  ·rcases z5u ds d with h|h
   ·exact .inr (by rw[h];exact y0e)
   ·exact .inr (y05 _ h)
  ·rcases z5u ds b with h|h
   ·exact .inl h
   ·exact .inr (y05 _ h)
theorem zbq {ws:List (List Nat)} (h:ws≠[]):minW ws∈ws:=by
 cases ws with
 | nil=>exact absurd rfl h
 | cons d ds =>
  rcases z5u ds d with h|h
  ·show z56 d ds∈d::ds
   rw[h]
   exact y0e
  ·exact y05 _ h
theorem zjj (ε:Ev) (w:List Nat):keyE (z03 [(opN oLen [(nm 0)]),(nmV 0)]) ε (wT w)=some (pT w):=by
 have b2:(2:Nat)<=big:=by unfold big;omega
 have hl:(w.map fun (k:Nat)=>PyData.int (k:Int)).length=w.length:=by simp
 have e1:z03 [(opN oLen [(nm 0)]),(nmV 0)] (some (.imm (wT w))::ε)=some (pT w):=by
  simp only[z03,args,opN,nm,nmV,y25,y0p,y1l,wT,oLen,hl,y0w,y28,if_pos b2]
  rfl
 unfold keyE
 rw[e1]
 simp only[y0p,zhs,if_true]
theorem z45 (ε:Ev):∀(ds:List (List Nat)) (b:List Nat),z2z (keyE (z03 [(opN oLen [(nm 0)]),(nmV 0)]) ε) (wT b) (pT b) (ds.map wT)=some (wT (z56 b ds))
 | [],b=>rfl
 | d::ds,b=>by
  rw[y0d,z2z,zjj]
  simp only[y0p,zi7]
  unfold z56
  by_cases h:ltK d b=true
  ·rw[if_pos h,if_pos h,z45 ε ds d]
  ·rw[if_neg h,if_neg h,z45 ε ds b]
theorem zns {h:T} {room:Int} {ws:List (List Nat)} (hw:z0r [h,.int room]=some (.tuple (ws.map wT))) (hne:ws≠[]):z0t [h,.int room]=some (.tuple (ws.map wT)):=by
 have e1:opN z0r [(nmV 0),(nmV 1)] [some (.imm h),some (.imm (.int room)),none]=some (.tuple (ws.map wT)):=by
  simp only[opN,args,nmV,y26,y25,y0p,y1l,hw]
 have e2:notT (tstL (nm 2)) [some (.imm h),some (.imm (.int room)),some (.imm (.tuple (ws.map wT)))]=some false:=by
  cases ws with
  | nil=>exact absurd rfl hne
  | cons w ws=>rfl
 have hs:z1y [some (.imm h),some (.imm (.int room)),none]=some (.rt (.tuple (ws.map wT))):=by
  unfold z1y seq asg
  rw[e1]
  simp only[y1l,y0p,y1g,y1f]
  unfold iff
  rw[e2]
  rfl
 unfold z0t runF
 show Option.bind (z1y [some (.imm h),some (.imm (.int room)),none]) _=_
 rw[hs]
 rfl
theorem zha {h:T} {room:Int} {ws:List (List Nat)} (hw:z0r [h,.int room]=some (.tuple (ws.map wT))) (hne:ws≠[]):z1j [h,.int room]=some (wT (minW ws)):=by
 have e1:opN z0t [(nmV 0),(nmV 1)] [some (.imm h),some (.imm (.int room))]=some (.tuple (ws.map wT)):=by
  simp only[opN,args,nmV,y26,y25,y0p,y1l,zns hw hne]
 have hs:z3p [some (.imm h),some (.imm (.int room))]=some (.rt (wT (minW ws))):=by
  unfold z3p rtn zi4
  rw[e1]
  simp only[y0p]
  cases ws with
  | nil=>exact absurd rfl hne
  | cons d ds =>
   rw[y0d,minK,zjj]
   simp only[y0p,z45,y1l]
   rfl
 unfold z1j runF
 show Option.bind (z3p [some (.imm h),some (.imm (.int room))]) _=_
 rw[hs]
 rfl
theorem zof {h:T} {room:Int} {ws:List (List Nat)} (hw:z0r [h,.int room]=some (.tuple (ws.map wT))) (h0:0<=room) (h9:room<1000):z1d [.imm h,.imm (.int room)]=ws.isEmpty:=by
 have e1:opN z0r [(nmV 0),(nmV 1)] [some (.imm h),some (.imm (.int room)),none]=some (.tuple (ws.map wT)):=by
  simp only[opN,args,nmV,y26,y25,y0p,y1l,hw]
 have e2:notT (tstL (nm 2)) [some (.imm h),some (.imm (.int room)),some (.imm (.tuple (ws.map wT)))]=some ws.isEmpty:=by
  cases ws with
  | nil=>rfl
  | cons w ws=>rfl
 have l1:(("no way leads to room ":Str)).length<=1000:=by decide
 have n1:room.natAbs<1000:=by omega
 show z2h [some (.imm h),some (.imm (.int room)),none]=ws.isEmpty
 unfold z2h seqZ asg
 rw[e1]
 simp only[y1l,y1g,y1f]
 unfold iffZ
 rw[e2]
 cases ws with
 | nil =>
  show D.okZ _ _=true
  unfold D.okZ op1
  have e3:nm 1 [some (.imm h),some (.imm (.int room)),some (.imm (.tuple (([]:List (List Nat)).map wT)))]=some (.int room):=rfl
  rw[e3]
  simp only[y0p,zcw,if_pos (And.intro n1 l1),Option.isSome_some]
 | cons w ws=>rfl
theorem zk8 {h:T} {room:Int} {ws:List (List Nat)} (hw:z0r [h,.int room]=some (.tuple (ws.map wT))) (h0:0<=room) (h9:room<1000):z1i [.imm h,.imm (.int room)]=ws.isEmpty:=by
 show z40 [some (.imm h),some (.imm (.int room))]=ws.isEmpty
 unfold z40 z85
 have a:agsE [.v (nmV 0),.v (nmV 1)] [some (.imm h),some (.imm (.int room))]=some [.imm h,.imm (.int room)]:=rfl
 rw[a]
 exact zof hw h0 h9
def qT (ws:List (List Nat)):T:=if ws.isEmpty then .tuple [.str "refused",.int 1] else .tuple [.str "told",wT (minW ws)]
theorem zcq {h:T} {room:Int} {ws:List (List Nat)} (hw:z0r [h,.int room]=some (.tuple (ws.map wT))) (h0:0<=room) (h9:room<1000) {ε:Ev} {f g:Fe} (hf:f ε=some h) (hg:g ε=some (.int room)) :
  zcr (z7p (opN z1j [f,g])) (z85 z1i [.v f,.v g]) 1 ε=some (qT ws,ε):=by
 have a:agsE [.v f,.v g] ε=some [.imm h,.imm (.int room)]:=by simp only[agsE,hf,hg,y0p,y1l]
 have m:z85 z1i [.v f,.v g] ε=ws.isEmpty:=by
  unfold z85
  rw[a]
  exact zk8 hw h0 h9
 unfold zcr qT
 rw[m]
 cases ws with
 | nil=>rfl
 | cons w ws =>
  have q:=zha hw (by simp)
  simp only[List.isEmpty_cons,y1o,if_false,zgz,z7p,opN,args,hf,hg,y0p,y1l,q]
end Qo
end
section
namespace Qo
open PySem D Ho Wo
local instance:Tbl:=⟨[],fun _=>[],fun _=>none⟩
theorem zbn {t:T} (h:okT t=true):oNe t t=some (.bool false):=by
 have hc:t.canLay0=true:=by
  unfold okT at h
  simp only[y19] at h
  exact h.1
 unfold oNe
 rw[h,PySem.SeqAt.eqv_refl t hc]
 rfl
theorem zhv {t:T} (h:okT t=true):oEq t t=some (.bool true):=by
 have hc:t.canLay0=true:=by
  unfold okT at h
  simp only[y19] at h
  exact h.1
 unfold oEq
 rw[h,PySem.SeqAt.eqv_refl t hc]
 rfl
theorem z44 {R:Int} {os:List Op} (d:Drawn R os):∀e∈os.map edge,e.1≠e.2:=fun e he=>by
 obtain⟨o,ho,rfl⟩:=y0m.mp he
 obtain⟨h1,h2,h3,h4⟩:=d.ok o ho
 show o.1≠o.2.1
 omega
theorem zjl {E:List (Int×Int)}:∀{w:List Nat} {x:Int} {q:List Int},Hg.Fol E x w q->∀k∈w,k<E.length
 | [],_,_,_,k,hk=>by cases hk
 | j::w,x,q,h,k,hk=>by
  obtain⟨e,t,r,h1,_,_,h4⟩:=h
  rcases y09.mp hk with rfl|hk
  ·exact (y0k.mp h1).1
  ·exact zjl h4 k hk
structure Room1 (R:Int) (os:List Op) (x:Int) (ws:List (List Nat)) (C:List Nat) (B:List (List Nat)):Prop where
 w:Hg.waysP (os.map edge) x 20 [0]=some ws
 dw:z0r [z02 R os,.int x]=some (.tuple (ws.map wT))
 re:ws≠[] <-> Hg.Reach (os.map edge) x
 len:ws.length<=36
 wl:∀w∈ws,w.length<=20
 ne:∀w∈ws,w≠[]/\∀k∈w,k<os.length
 pw:ws.Pairwise (·<·)
 df:z32 [z02 R os,.int x]=some (wT C)
 da:zaw [z02 R os,.int x]=some (rwT B)
 cs:C.Sublist (List.range os.length)
 ch:Hg.Hits C ws
 cm:∀D,D.Sublist (List.range os.length)->Hg.Hits D ws->C.length<=D.length
 bs:B.Sublist ws
 bl:B.length=C.length
 bp:B.Pairwise Hg.Apt
theorem zm3 {R:Int} {os:List Op} (d:Drawn R os) {x:Int} (x1:1<=x) (x2:x<=R):∃ws C B,Room1 R os x ws C B:=by
 have hr7:=d.r7
 have hl:=d.len
 obtain⟨ws,w1,w2,w3⟩:=zgt d x
 have wf:ws.length<=36:=Hg.ways_few (z44 d) (by simpa using d.len) w1
 have wl:∀w∈ws,w.length<=20:=fun w hw=>z8b 20 [0] ws w1 w hw
 have hne:∀w∈ws,w≠[]/\∀k∈w,k<os.length:=fun w hw=>by
  obtain⟨p,f1,f2,f3⟩:=(Hg.ways_char w1 w).mp hw
  refine⟨?_,fun k hk=>?_⟩
  ·rintro rfl
   cases p with
   | nil =>
    simp at f3
    omega
   | cons _ _=>cases f1
  ·have:=zjl f1 k hk
   simpa using this
 obtain⟨C,c1,c2,c3,c4,c5⟩:=Hg.few_spec hne
 have hC:C.length<20:=by have:=c2.length_le;simp at this;omega
 have f1:=zg0 (C:=C) w2 (by omega) (by omega) c1
 have a1:=ziw w2 (by omega) (fun w hw=>by have:=wl w hw;omega) f1 hC
 obtain⟨D,d1,d2,d3⟩:=Hg.apart_many (z4k d) (by omega) (z44 d) (by omega) w1 c3 (fun D h1 h2=>c4 D (by simpa using h1) h2)
 have:=Hg.fa_compl d1 d2 d3
 cases q:Hg.faR C.length ws with
 | none=>exact absurd q this
 | some B =>
  obtain⟨b1,b2,b3⟩:=Hg.fa_sound q
  rw[q] at a1
  exact⟨ws,C,B,w1,w2,w3,wf,wl,hne,Hg.ways_pw w1,f1,a1,c2,c3,c4,b1,b2,b3⟩
theorem zbm (ws:List (List Nat)):okT (.tuple (ws.map wT))=true:=zku ws
theorem zmv (ws:List (List Nat)):okT (qT ws)=true:=by
 unfold qT
 split
 ·decide +kernel
 ·have h:=zbl (minW ws)
  have c:(y1r "told").canLay0=true:=by decide +kernel
  simp[okT,PyData.canLay0,y1e,y20,y1c,h.1]
  refine⟨?_,?_⟩
  ·first|exact c|decide|simpa [PyData.canLay0] using c
  ·have:=h.2;omega
theorem zkz (w:List Nat):oLen [wT w]=some (.int w.length):=by simp[wT,oLen]
theorem z7k {xs:List Str} (h:xs.all (fun x=>(y1r x).canLay0)=true):z54 xs:=fun x hx=>List.all_eq_true.mp h x hx
end Qo
end
section
namespace Qo
open PySem D Ho Wo
local instance:Tbl:=⟨[],fun _=>[],fun _=>none⟩
theorem z95:∀{x y:List Nat},x<y->ltL (cstN x) (cstN y)=true
 | [],[],h=>by cases h
 | [],_::_,_=>rfl
 | _::_,[],h=>by cases h
 | a::x,b::y,h=>by
  rcases List.cons_lt_cons_iff.mp h with q|⟨q1,q2⟩
  ·have:(a:Int)<b:=by omega
   simp[cstN,ltL,this]
  ·have:=z95 q2
   unfold cstN at this
   simp[cstN,ltL,q1,this]
theorem zdg (w:List Nat):wT w=rowT (cstN w):=by
 unfold wT rowT cstN
 rw[y2d]
 rfl
theorem z47:∀(ns:List Int),z3e (ns.map .int)=some ns
 | []=>rfl
 | x::r=>by
  simp only[y0d,z3e,z47 r]
  rfl
theorem z5l:∀ws:List (List Nat),z6v (ws.map wT)=some (ws.map cstN)
 | []=>rfl
 | w::ws=>by
  have:z3e (w.map fun (k:Nat)=>PyData.int (k:Int))=some (cstN w):=by
   have:=z47 (cstN w)
   rw[cstN,y2d] at this
   exact this
  simp only[y0d,wT,z6v,this,y0p]
  have ih:=z5l ws
  rw[ih]
  rfl
theorem zde {ws:List (List Nat)} (h:ws.Pairwise (·<·)):ws.Nodup:=h.imp fun h=>by rintro rfl;exact List.lt_irrefl _ h
theorem za4 {ws vs:List (List Nat)} (h:ws.Pairwise (·<·)) (hp:vs.Perm ws) (hl:ws.length<64) (hn:∀w∈ws,w≠[]):z3n [.list (vs.map wT)]=some (.list (ws.map wT)):=by
 have hnd:(vs.map cstN).Nodup:=List.pairwise_map.mpr ((hp.nodup_iff.mpr (zde h)).imp fun h z=>h (z5a z))
 have hne:∀r∈vs.map cstN,r≠[]:=fun r hr z=>by
  obtain⟨w,hw,rfl⟩:=y0m.mp hr
  refine hn w (hp.mem_iff.mp hw) ?_
  cases w with
  | nil=>rfl
  | cons _ _=>simp[cstN] at z
 have hs:(ws.map cstN).Pairwise lLe:=List.pairwise_map.mpr (h.imp fun h=>z30 (z95 h))
 simp only[z3n,y12]
 rw[if_pos (by rw[hp.length_eq];exact hl),z5l,y0p,if_pos ⟨hnd,hne⟩,<- zbc (hp.symm.map cstN) hs,y2d]
 congr 2
 exact (List.map_congr_left fun w _=>zdg w).symm
end Qo
end
section
namespace K20
open PySem D Ho Wo Qo
local instance:Tbl:=⟨[],fun _=>[],fun _=>none⟩
noncomputable def ndsE (rec:List Int->Nat) (pl:List Int) (h:Int):List (Int×Int)->Nat
 | []=>0
 | e::es=>(match Hg.adj e h with
  | some t=>if t∈pl then 0 else rec (pl++[t])
  | none=>0)+ndsE rec pl h es
noncomputable def nds (E:List (Int×Int)) (room:Int):Nat->List Int->Nat
 | 0,_=>0
 | n+1,pl=>match pl.getLast? with
  | none=>0
  | some h=>if h=room then 1 else 1+ndsE (nds E room n) pl h E
theorem zf2 {rec:List Int->Nat} {pl:List Int} {h:Int} {B:Nat} (hr:∀t,t∉pl->rec (pl++[t])<=B):∀E:List (Int×Int),ndsE rec pl h E<=E.countP (Hg.outE pl h)*B
 | []=>by simp[ndsE]
 | e::es=>by
  have ih:=zf2 hr (h:=h) es
  rw[ndsE,List.countP_cons]
  cases ha:Hg.adj e h with
  | none =>
   have:Hg.outE pl h e=false:=by simp[Hg.outE,ha]
   simp only[this,y1o,if_false,Nat.add_zero,Nat.zero_add]
   exact ih
  | some t =>
   by_cases q:t∈pl
   ·have:Hg.outE pl h e=false:=by simp[Hg.outE,ha,q]
    simp only[this,y1o,if_false,Nat.add_zero,if_pos q,Nat.zero_add]
    exact ih
   ·have:Hg.outE pl h e=true:=by simp[Hg.outE,ha,q]
    have hb:=hr t q
    dsimp only
    rw[if_neg q,this,if_pos rfl,Nat.succ_mul]
    omega
def N (m:Nat):Nat:=[1,2,3,5,7,11,16,23,34,49,70].getD m 0
theorem znu:∀m,m<=10->∀d,d<=10->∀m',m'<=10->d+m'<=m->1+d*N m'<=N m:=by decide
theorem zoz:∀m,m<=10->1<=N m:=by decide
theorem zoy:∀m,m<=10->N m<=70:=by decide
theorem zjg {E:List (Int×Int)} {room:Int} (hE:∀e∈E,e.1≠e.2) (hl:E.length<=10):∀{n:Nat} {pl:List Int},pl.Nodup->nds E room n pl<=N (E.countP (Hg.offE pl.dropLast))
 | 0,pl,_=>y1z _
 | n+1,pl,nd=>by
  have hc:∀p:Int×Int->Bool,E.countP p<=10:=fun p=>y1k List.countP_le_length hl
  unfold nds
  split
  ·exact y1z _
  next x hx =>
   split
   ·exact zoz _ (hc _)
   ·have hp:pl=pl.dropLast++[x]:=by
     have hne:pl≠[]:=by rintro rfl;cases hx
     have e1:=List.dropLast_concat_getLast hne
     rw[List.getLast?_eq_getLast hne] at hx
     rw[y27 hx] at e1
     exact e1.symm
    have hxd:x∉pl.dropLast:=fun z=>by
     rw[hp,y1i] at nd
     exact nd.2.2 x z x (by simp) rfl
    have hB:=zf2 (rec:=nds E room n) (pl:=pl) (h:=x) (B:=N (E.countP (Hg.offE pl))) (fun t ht=>by
     have nd':(pl++[t]).Nodup:=by
      rw[y1i]
      exact⟨nd,by simp,fun a ha b hb=>by
       have:b=t:=by simpa using hb
       subst this
       exact fun z=>ht (z▸ha)⟩
     have:=zjg (room:=room) hE hl (n:=n) nd'
     simpa using this) E
    refine y1k (Nat.add_le_add_left hB 1) (znu _ (hc _) _ (hc _) _ (hc _) (Hg.countP_two (fun e he q=>?_) (fun e he q=>?_) (fun e he q1 q2=>?_)))
    ·unfold Hg.outE at q
     split at q
     next t ht =>
      have ht':t∉pl:=by simpa using q
      have htd:t∉pl.dropLast:=fun z=>ht' (List.dropLast_subset _ z)
      unfold Hg.adj at ht
      unfold Hg.offE
      split at ht
      next e1=>cases ht;simp[e1,hxd,htd]
      next =>
       split at ht
       next e2=>cases ht;simp[e2,hxd,htd]
       next=>cases ht
     next=>cases q
    ·unfold Hg.offE at q ⊢
     simp only[y19,decide_eq_true_eq] at q ⊢
     exact⟨fun z=>q.1 (List.dropLast_subset _ z),fun z=>q.2 (List.dropLast_subset _ z)⟩
    ·have hxp:x∈pl:=by rw[hp];simp
     unfold Hg.offE at q2
     simp only[y19,decide_eq_true_eq] at q2
     unfold Hg.outE Hg.adj at q1
     split at q1
     next t ht =>
      split at ht
      next e1=>exact q2.1 (e1▸hxp)
      next =>
       split at ht
       next e2=>exact q2.2 (e2▸hxp)
       next=>cases ht
     next=>cases q1
abbrev Ent:=List Int×List Nat
noncomputable def extL (x:Ent) (h:Int):Nat->List (Int×Int)->List Ent
 | _,[]=>[]
 | k,e::es=>(match Hg.adj e h with
  | some t=>if t∈x.1 then [] else [(x.1++[t],x.2++[k])]
  | none=>[])++extL x h (k+1) es
def duF (E:List (Int×Int)) (room:Int) (x:Ent):List (List Nat):=((Hg.waysP E room (21 - x.1.length) x.1).getD []).map fun v=>x.2++v
def coF (E:List (Int×Int)) (room:Int) (x:Ent):Nat:=nds E room (21 - x.1.length) x.1
def Fit (E:List (Int×Int)) (room:Int) (x:Ent):Prop:=x.1.Nodup/\x.2.length+1=x.1.length/\∃us,Hg.waysP E room (21 - x.1.length) x.1=some us
theorem Fit.len {E:List (Int×Int)} {room:Int} {x:Ent} (h:Fit E room x):x.1.length<=20:=by
 obtain⟨_,_,us,hu⟩:=h
 rcases Nat.lt_or_ge 20 x.1.length with q|q
 ·have:21 - x.1.length=0:=by omega
  rw[this] at hu
  cases hu
 ·exact q
theorem Fit.co {E:List (Int×Int)} {room:Int} {x:Ent} (h:Fit E room x):1<=coF E room x:=by
 have hl:=h.len
 obtain⟨_,_,us,hu⟩:=h
 obtain⟨n,hn⟩:∃n,21 - x.1.length=n+1:=⟨20 - x.1.length,by omega⟩
 unfold coF
 rw[hn] at hu ⊢
 unfold Hg.waysP at hu
 unfold nds
 split at hu
 ·cases hu
 next h0 hh =>
  try rw[hh]
  try dsimp only
  split <;> omega
theorem zc5 {E:List (Int×Int)} {room h:Int} {x:Ent} {n:Nat} (hn:21 - x.1.length=n+1) (nd:x.1.Nodup) (hw:x.2.length+1=x.1.length):∀(es:List (Int×Int)) (k:Nat) (ws:List (List Nat)),Hg.exts (Hg.waysP E room n) x.1 h k es=some ws ->
  (extL x h k es).flatMap (duF E room)=ws.map (fun v=>x.2++v)/\(∀y∈extL x h k es,Fit E room y)/\((extL x h k es).map (coF E room)).sum=ndsE (nds E room n) x.1 h es
 | [],k,ws,e=>by
  cases e
  exact⟨rfl,fun y hy=>(by cases hy),rfl⟩
 | e::es,k,ws,he=>by
  unfold Hg.exts at he
  unfold extL ndsE
  cases ha:Hg.adj e h with
  | none =>
   rw[ha] at he
   simp only[y2c,Nat.zero_add]
   exact zc5 hn nd hw es (k+1) ws he
  | some t =>
   rw[ha] at he
   dsimp only at he ⊢
   by_cases q:t∈x.1
   ·rw[if_pos q] at he
    rw[if_pos q,if_pos q]
    simp only[y2c,Nat.zero_add]
    exact zc5 hn nd hw es (k+1) ws he
   ·rw[if_neg q] at he
    rw[if_neg q,if_neg q]
    simp only[y01,y07] at he
    obtain⟨us,h1,vs,h2,rfl⟩:=he
    obtain⟨i1,i2,i3⟩:=zc5 hn nd hw es (k+1) vs h2
    have nn:21 - (x.1++[t]).length=n:=by simp;omega
    have fit:Fit E room (x.1++[t],x.2++[k]):=by
     refine⟨?_,by simp;omega,us,by show Hg.waysP E room (21 - (x.1++[t]).length) (x.1++[t])=some us;rw[nn];exact h1⟩
     show (x.1++[t]).Nodup
     rw[y1i]
     exact⟨nd,by simp,fun a hA b hb=>by
      have:b=t:=by simpa using hb
      rw[this]
      exact fun z=>q (z▸hA)⟩
    refine⟨?_,fun y hy=>?_,?_⟩
    ·rw[List.flatMap_append,i1]
     have:duF E room (x.1++[t],x.2++[k])=us.map fun v=>(x.2++[k])++v:=by
      unfold duF
      show ((Hg.waysP E room (21 - (x.1++[t]).length) (x.1++[t])).getD []).map _=_
      rw[nn,h1]
      rfl
     simp only[List.flatMap_cons,List.flatMap_nil,y1t,this,List.map_append,y2d]
     congr 1
     refine List.map_congr_left fun v _=>?_
     simp
    ·rcases y10.mp hy with z|z
     ·rw[y0z.mp z]
      exact fit
     ·exact i2 y z
    ·have:coF E room (x.1++[t],x.2++[k])=nds E room n (x.1++[t]):=by
      unfold coF
      show nds E room (21 - (x.1++[t]).length) (x.1++[t])=_
      rw[nn]
     simp only[List.map_append,y0d,y17,List.sum_append,List.sum_cons,List.sum_nil,this,i3,Nat.add_zero]
theorem zij {E:List (Int×Int)} {room:Int} {x:Ent} (f:Fit E room x):∃h n,x.1.getLast?=some h/\21 - x.1.length=n+1/\(h=room->duF E room x=[x.2]/\coF E room x=1)/\(h≠room->∃ws,Hg.exts (Hg.waysP E room n) x.1 h 0 E=some ws/\duF E room x=ws.map (fun v=>x.2++v)/\coF E room x=1+ndsE (nds E room n) x.1 h E):=by
 have hl:=f.len
 obtain⟨_,_,us,hu⟩:=f
 obtain⟨n,hn⟩:∃n,21 - x.1.length=n+1:=⟨20 - x.1.length,by omega⟩
 have hu0:=hu
 rw[hn] at hu
 unfold Hg.waysP at hu
 cases hg:x.1.getLast? with
 | none =>
  rw[hg] at hu
  cases hu
 | some h =>
  rw[hg] at hu
  dsimp only at hu
  refine⟨h,n,rfl,hn,fun e=>?_,fun e=>?_⟩
  ·rw[if_pos e] at hu
   cases hu
   refine⟨?_,?_⟩
   ·unfold duF
    rw[hu0]
    simp
   ·unfold coF
    rw[hn]
    unfold nds
    rw[hg]
    dsimp only
    rw[if_pos e]
  ·rw[if_neg e] at hu
   refine⟨us,hu,?_,?_⟩
   ·unfold duF
    rw[hu0]
    rfl
   ·unfold coF
    rw[hn]
    unfold nds
    rw[hg]
    dsimp only
    rw[if_neg e]
end K20
end
section
namespace K20
open PySem D Ho Wo Qo
local instance:Tbl:=⟨[],fun _=>[],fun _=>none⟩
def entT (x:Ent):T:=.tuple [.tuple (x.1.map .int),wT x.2]
noncomputable def VL (H:T) (room:Int) (fd:List (List Nat)) (st:List Ent) (s4 s5 s6 s7 s8 s9 s10 s11:Option Sl):Ev :=
 [some (.imm H),some (.imm (.int room)),some (.own (fd.map wT)),some (.own (st.map entT)),s4,s5,s6,s7,s8,s9,s10,s11]
noncomputable def bD:Fs:=(iff (andT (tstB (op2 oEq (nm 10) (op2 oIx (nm 4) (op1 oNeg (cst (.int 1)))))) (tstB (op2 (oIn true) (nm 11) (nm 4)))) (app 3 (z03 [(op2 oAdd (nm 4) (z03 [(nmV 11)])),(op2 oAdd (nm 5) (z03 [(nmV 6)]))])) skip)
def bE:Fs:=(for_ (z0a (z03 [(z03 [(nmV 7),(nmV 8)]),(z03 [(nmV 8),(nmV 7)])])) (gTu [(gNm 10),(gNm 11)]) bD)
theorem zjo {H:T} {room:Int} {fd:List (List Nat)} {st:List Ent} {x:Ent} {h:Int} (hh:x.1.getLast?=some h) (hx:x.1.length<=100) (hw:x.2.length<=100) (hs:st.length<1000) (k:Nat) (a b:Int) (s7 s8 s9:Option Sl) :
  bD (VL H room fd st (some (.imm (.tuple (x.1.map .int)))) (some (.imm (wT x.2))) (some (.imm (.int k))) s7 s8 s9 (some (.imm (.int a))) (some (.imm (.int b)))) =
   some (.nx (VL H room fd (st++if a=h/\b∉x.1 then [(x.1++[b],x.2++[k])] else []) (some (.imm (.tuple (x.1.map .int)))) (some (.imm (wT x.2))) (some (.imm (.int k))) s7 s8 s9 (some (.imm (.int a))) (some (.imm (.int b))))):=by
 generalize hE:VL H room fd st (some (.imm (.tuple (x.1.map .int)))) (some (.imm (wT x.2))) (some (.imm (.int k))) s7 s8 s9 (some (.imm (.int a))) (some (.imm (.int b)))=ε
 have n10:nm 10 ε=some (.int a):=by rw[<- hE];rfl
 have n11:nm 11 ε=some (.int b):=by rw[<- hE];rfl
 have n4:nm 4 ε=some (.tuple (x.1.map .int)):=by rw[<- hE];rfl
 have n5:nm 5 ε=some (wT x.2):=by rw[<- hE];rfl
 have v11:nmV 11 ε=some (.int b):=by rw[<- hE];rfl
 have v6:nmV 6 ε=some (.int k):=by rw[<- hE];rfl
 have i4:op2 oIx (nm 4) (op1 oNeg (cst (.int 1))) ε=some (.int h):=z0f (y:=.int (-1)) n4 rfl (z7u hh)
 have t1:tstB (op2 oEq (nm 10) (op2 oIx (nm 4) (op1 oNeg (cst (.int 1))))) ε=some (decide (a=h)):=z1b (z0f n10 i4 (z3c a h))
 have t2:tstB (op2 (oIn true) (nm 11) (nm 4)) ε=some (!decide (b∈x.1)):=z1b (z0f n11 n4 (by rw[z7r];rfl))
 have t:andT (tstB (op2 oEq (nm 10) (op2 oIx (nm 4) (op1 oNeg (cst (.int 1)))))) (tstB (op2 (oIn true) (nm 11) (nm 4))) ε=some (decide (a=h/\b∉x.1)):=by
  unfold andT
  rw[t1]
  by_cases q:a=h
  ·rw[decide_eq_true q]
   simp only[y0p,if_true,t2]
   simp[q]
  ·rw[decide_eq_false q]
   simp[q]
 unfold bD
 by_cases q:a=h/\b∉x.1
 ·rw[if_pos q]
  rw[decide_eq_true q] at t
  rw[z2i t]
  have m1:op2 oAdd (nm 4) (z03 [(nmV 11)]) ε=some (.tuple ((x.1++[b]).map .int)):=by
   refine z0f n4 (z2y (z38 v11) (by simp)) ?_
   rw[z7f (by simp;omega),List.map_append]
   rfl
  have m2:op2 oAdd (nm 5) (z03 [(nmV 6)]) ε=some (wT (x.2++[k])):=by
   refine z0f n5 (z2y (z38 v6) (by simp)) ?_
   unfold wT
   rw[z7f (by simp;omega),List.map_append]
   rfl
  have m:z03 [(op2 oAdd (nm 4) (z03 [(nmV 11)])),(op2 oAdd (nm 5) (z03 [(nmV 6)]))] ε=some (entT (x.1++[b],x.2++[k])):=z2y (z3u m1 m2) (by simp)
  have e3:ε[3]?=some (some (.own (st.map entT))):=by rw[<- hE];rfl
  have bg:(st.map entT).length<big:=by rw[y12];unfold big;omega
  unfold app
  rw[e3]
  simp only[m,y0p,if_pos bg]
  rw[<- hE]
  simp only[VL,y1g,y1f,List.map_append,y0d,y17]
 ·rw[if_neg q]
  rw[decide_eq_false q] at t
  rw[z9c t,y1t,hE]
  rfl
theorem zng {H:T} {room:Int} {fd:List (List Nat)} {st:List Ent} {x:Ent} {h:Int} (hh:x.1.getLast?=some h) (hx:x.1.length<=100) (hw:x.2.length<=100) (hs:st.length+2<1000) (k:Nat) {a b:Int} (hab:a≠b) (s9 s10 s11:Option Sl) :
  ∃t10 t11,bE (VL H room fd st (some (.imm (.tuple (x.1.map .int)))) (some (.imm (wT x.2))) (some (.imm (.int k))) (some (.imm (.int a))) (some (.imm (.int b))) s9 s10 s11) =
   some (.nx (VL H room fd (st++(match Hg.adj (a,b) h with
    | some t=>if t∈x.1 then [] else [(x.1++[t],x.2++[k])]
    | none=>[])) (some (.imm (.tuple (x.1.map .int)))) (some (.imm (wT x.2))) (some (.imm (.int k))) (some (.imm (.int a))) (some (.imm (.int b))) s9 t10 t11)):=by
 refine⟨some (.imm (.int b)),some (.imm (.int a)),?_⟩
 have it:z0a (z03 [(z03 [(nmV 7),(nmV 8)]),(z03 [(nmV 8),(nmV 7)])]) (VL H room fd st (some (.imm (.tuple (x.1.map .int)))) (some (.imm (wT x.2))) (some (.imm (.int k))) (some (.imm (.int a))) (some (.imm (.int b))) s9 s10 s11)=some [.tuple [.int a,.int b],.tuple [.int b,.int a]]:=rfl
 unfold bE for_
 rw[it]
 simp only[y0p]
 have g1:gTu [(gNm 10),(gNm 11)] (.tuple [.int a,.int b]) (VL H room fd st (some (.imm (.tuple (x.1.map .int)))) (some (.imm (wT x.2))) (some (.imm (.int k))) (some (.imm (.int a))) (some (.imm (.int b))) s9 s10 s11)=some (VL H room fd st (some (.imm (.tuple (x.1.map .int)))) (some (.imm (wT x.2))) (some (.imm (.int k))) (some (.imm (.int a))) (some (.imm (.int b))) s9 (some (.imm (.int a))) (some (.imm (.int b)))):=rfl
 rw[z2j g1 (zjo hh hx hw (by omega) k a b _ _ _)]
 generalize hst:(st++if a=h/\b∉x.1 then [(x.1++[b],x.2++[k])] else [])=st1
 have hl1:st1.length<1000:=by
  rw[<- hst,y1x]
  split <;> simp <;> omega
 have g2:gTu [(gNm 10),(gNm 11)] (.tuple [.int b,.int a]) (VL H room fd st1 (some (.imm (.tuple (x.1.map .int)))) (some (.imm (wT x.2))) (some (.imm (.int k))) (some (.imm (.int a))) (some (.imm (.int b))) s9 (some (.imm (.int a))) (some (.imm (.int b))))=some (VL H room fd st1 (some (.imm (.tuple (x.1.map .int)))) (some (.imm (wT x.2))) (some (.imm (.int k))) (some (.imm (.int a))) (some (.imm (.int b))) s9 (some (.imm (.int b))) (some (.imm (.int a)))):=rfl
 rw[z2j g2 (zjo hh hx hw hl1 k b a _ _ _),<- hst]
 have fin:(st++if a=h/\b∉x.1 then [(x.1++[b],x.2++[k])] else [])++(if b=h/\a∉x.1 then [(x.1++[a],x.2++[k])] else [])=st++(match Hg.adj (a,b) h with
    | some t=>if t∈x.1 then [] else [(x.1++[t],x.2++[k])]
    | none=>[]):=by
  unfold Hg.adj
  dsimp only
  by_cases q1:a=h
  ·have q2:¬b=h:=fun z=>hab (q1.trans z.symm)
   rw[if_pos q1]
   by_cases q3:b∈x.1 <;> simp[q1,q2,q3]
  ·rw[if_neg q1]
   by_cases q2:b=h
   ·rw[if_pos q2]
    by_cases q3:a∈x.1 <;> simp[q1,q2,q3]
   ·rw[if_neg q2]
    simp[q1,q2]
 rw[fin]
 rfl
theorem zjm {H:T} {room:Int} {fd:List (List Nat)} {x:Ent} {h:Int} (hh:x.1.getLast?=some h) (hx:x.1.length<=100) (hw:x.2.length<=100):∀(os:List Op) (k:Nat) (st:List Ent) (s6 s7 s8 s9 s10 s11:Option Sl),(∀o∈os,o.1≠o.2.1)->st.length+2*os.length<990 ->
  ∃t6 t7 t8 t9 t10 t11,forL (gTu [(gNm 6),(gTu [(gNm 7),(gNm 8),(gNm 9)])]) bE ((os.zipIdx k).map fun q=>PyData.tuple [.int (q.2:Nat),opT q.1]) (VL H room fd st (some (.imm (.tuple (x.1.map .int)))) (some (.imm (wT x.2))) s6 s7 s8 s9 s10 s11) =
   some (.nx (VL H room fd (st++extL x h k (os.map edge)) (some (.imm (.tuple (x.1.map .int)))) (some (.imm (wT x.2))) t6 t7 t8 t9 t10 t11))
 | [],k,st,s6,s7,s8,s9,s10,s11,_,_=>⟨s6,s7,s8,s9,s10,s11,by rw[y17,extL,y1t];rfl⟩
 | o::os,k,st,s6,s7,s8,s9,s10,s11,ho,hs=>by
  have hab:=ho o (by simp)
  simp only[y0w] at hs
  obtain⟨t10,t11,st1⟩:=zng (H:=H) (room:=room) (fd:=fd) (st:=st) hh hx hw (by omega) k hab (some (.imm (zT o.2.2))) s10 s11
  have hl:(st++(match Hg.adj (o.1,o.2.1) h with
    | some t=>if t∈x.1 then [] else [(x.1++[t],x.2++[k])]
    | none=>[])).length<=st.length+1:=by
   rw[y1x]
   cases Hg.adj (o.1,o.2.1) h with
   | none=>simp
   | some t=>dsimp only;split <;> simp
  obtain⟨u6,u7,u8,u9,u10,u11,ih⟩:=zjm (H:=H) (room:=room) (fd:=fd) hh hx hw os (k+1) (st++(match Hg.adj (o.1,o.2.1) h with
    | some t=>if t∈x.1 then [] else [(x.1++[t],x.2++[k])]
    | none=>[])) (some (.imm (.int k))) (some (.imm (.int o.1))) (some (.imm (.int o.2.1))) (some (.imm (zT o.2.2))) t10 t11 (fun y hy=>ho y (y05 _ hy)) (by omega)
  refine⟨u6,u7,u8,u9,u10,u11,?_⟩
  have g:gTu [(gNm 6),(gTu [(gNm 7),(gNm 8),(gNm 9)])] (.tuple [.int (k:Nat),opT o]) (VL H room fd st (some (.imm (.tuple (x.1.map .int)))) (some (.imm (wT x.2))) s6 s7 s8 s9 s10 s11)=some (VL H room fd st (some (.imm (.tuple (x.1.map .int)))) (some (.imm (wT x.2))) (some (.imm (.int k))) (some (.imm (.int o.1))) (some (.imm (.int o.2.1))) (some (.imm (zT o.2.2))) s10 s11):=rfl
  rw[List.zipIdx_cons,y0d,z2j g st1,ih,y0d,extL,y2b]
  rfl
theorem zhr (st:List Ent):okT (.list (st.map entT))=true:=by
 have:y1e (st.map entT)=true/\y1c (st.map entT)<=4:=by
  induction st with
  | nil=>simp[y1e,y1c]
  | cons x st ih =>
   have h1:=z4d x.1
   have h2:=zbl x.2
   have e1:(entT x).canLay0=true:=by
    simp only[entT,PyData.canLay0,y1e,h1.1,h2.1,Bool.and_self]
   have e2:(entT x).depth<=4:=by
    simp only[entT,y20,y1c]
    have:=h1.2
    have:=h2.2
    omega
   simp only[y0d,y1e,y1c,e1,ih.1,Bool.and_self,true_and]
   have:=ih.2
   omega
 simp only[okT,PyData.canLay0,y20,this.1,Bool.true_and]
 exact decide_eq_true (by have:=this.2;omega)
noncomputable def bB:Fs:=(seq (zdb (gTu [(gNm 4),(gNm 5)]) (popX 3))
  (iff (tstB (op2 oEq (op2 oIx (nm 4) (op1 oNeg (cst (.int 1)))) (nm 1))) (app 2 (nmV 5)) (for_ (z1p (z4q (op2 oIx (nm 0) (cst (.int 1))))) (gTu [(gNm 6),(gTu [(gNm 7),(gNm 8),(gNm 9)])]) bE)))
theorem znq {R room:Int} {os:List Op} {fd:List (List Nat)} {st:List Ent} {x:Ent} {h:Int} (hos:∀o∈os,o.1≠o.2.1) (hol:os.length<=10) (hh:x.1.getLast?=some h) (hx:x.1.length<=100) (hw:x.2.length<=100) (hs:st.length<900) (hf:fd.length<900) (s4 s5 s6 s7 s8 s9 s10 s11:Option Sl) :
  ∃t4 t5 t6 t7 t8 t9 t10 t11,bB (VL (z02 R os) room fd (st++[x]) s4 s5 s6 s7 s8 s9 s10 s11) =
   some (.nx (if h=room then VL (z02 R os) room (fd++[x.2]) st t4 t5 t6 t7 t8 t9 t10 t11 else VL (z02 R os) room fd (st++extL x h 0 (os.map edge)) t4 t5 t6 t7 t8 t9 t10 t11)):=by
 have pop:zdb (gTu [(gNm 4),(gNm 5)]) (popX 3) (VL (z02 R os) room fd (st++[x]) s4 s5 s6 s7 s8 s9 s10 s11)=some (.nx (VL (z02 R os) room fd st (some (.imm (.tuple (x.1.map .int)))) (some (.imm (wT x.2))) s6 s7 s8 s9 s10 s11)):=by
  have p:popX 3 (VL (z02 R os) room fd (st++[x]) s4 s5 s6 s7 s8 s9 s10 s11)=some (entT x,VL (z02 R os) room fd st s4 s5 s6 s7 s8 s9 s10 s11):=by
   have e3:(VL (z02 R os) room fd (st++[x]) s4 s5 s6 s7 s8 s9 s10 s11)[3]?=some (some (.own ((st++[x]).map entT))):=rfl
   unfold popX
   rw[e3]
   simp only[List.map_append,y0d,y17,List.getLast?_concat,List.dropLast_concat]
   rfl
  unfold zdb
  rw[p]
  rfl
 have ix:op2 oIx (nm 4) (op1 oNeg (cst (.int 1))) (VL (z02 R os) room fd st (some (.imm (.tuple (x.1.map .int)))) (some (.imm (wT x.2))) s6 s7 s8 s9 s10 s11)=some (.int h):=z0f (x:=.tuple (x.1.map .int)) (y:=.int (-1)) rfl rfl (z7u hh)
 have t:tstB (op2 oEq (op2 oIx (nm 4) (op1 oNeg (cst (.int 1)))) (nm 1)) (VL (z02 R os) room fd st (some (.imm (.tuple (x.1.map .int)))) (some (.imm (wT x.2))) s6 s7 s8 s9 s10 s11)=some (decide (h=room)):=z1b (z0f (y:=.int room) ix rfl (z3c h room))
 by_cases q:h=room
 ·refine⟨some (.imm (.tuple (x.1.map .int))),some (.imm (wT x.2)),s6,s7,s8,s9,s10,s11,?_⟩
  rw[if_pos q]
  rw[decide_eq_true q] at t
  unfold bB
  rw[z07 pop,z2i t]
  have e2:(VL (z02 R os) room fd st (some (.imm (.tuple (x.1.map .int)))) (some (.imm (wT x.2))) s6 s7 s8 s9 s10 s11)[2]?=some (some (.own (fd.map wT))):=rfl
  have v:nmV 5 (VL (z02 R os) room fd st (some (.imm (.tuple (x.1.map .int)))) (some (.imm (wT x.2))) s6 s7 s8 s9 s10 s11)=some (wT x.2):=rfl
  have bg:(fd.map wT).length<big:=by rw[y12];unfold big;omega
  unfold app
  rw[e2]
  simp only[v,y0p,if_pos bg]
  simp only[VL,y1g,y1f,List.map_append,y0d,y17]
 ·obtain⟨u6,u7,u8,u9,u10,u11,el⟩:=zjm (H:=z02 R os) (room:=room) (fd:=fd) hh hx hw os 0 st s6 s7 s8 s9 s10 s11 hos (by omega)
  refine⟨some (.imm (.tuple (x.1.map .int))),some (.imm (wT x.2)),u6,u7,u8,u9,u10,u11,?_⟩
  rw[if_neg q]
  rw[decide_eq_false q] at t
  unfold bB
  rw[z07 pop,z9c t]
  have it:z1p (z4q (op2 oIx (nm 0) (cst (.int 1)))) (VL (z02 R os) room fd st (some (.imm (.tuple (x.1.map .int)))) (some (.imm (wT x.2))) s6 s7 s8 s9 s10 s11)=some ((os.zipIdx 0).map fun q=>PyData.tuple [.int (q.2:Nat),opT q.1]):=by
   show some (enum (os.map opT))=_
   unfold enum
   rw[List.zipIdx_map,y2d]
   rfl
  unfold for_
  rw[it]
  exact el
theorem zmz {R room:Int} {os:List Op} {ws:List (List Nat)} (hos:∀o∈os,o.1≠o.2.1) (hol:os.length<=10) (hlw:ws.length<=36):∀(c f:Nat) (st:List Ent) (fd:List (List Nat)) (s4 s5 s6 s7 s8 s9 s10 s11:Option Sl),(st.map (coF (os.map edge) room)).sum=c->c<f->c<=200->(∀x∈st,Fit (os.map edge) room x)->(fd++st.flatMap (duF (os.map edge) room)).Perm ws ->
  ∃fd' t4 t5 t6 t7 t8 t9 t10 t11,fd'.Perm ws/\whl (tstB (op2 oNe (nm 3) (z0i []))) bB f (VL (z02 R os) room fd st s4 s5 s6 s7 s8 s9 s10 s11)=some (.nx (VL (z02 R os) room fd' [] t4 t5 t6 t7 t8 t9 t10 t11)):=by
 intro c
 induction c using Nat.strongRecOn with
 | _ c ih =>
  intro f st fd s4 s5 s6 s7 s8 s9 s10 s11 hc hf hc2 hfit hp
  obtain⟨f,rfl⟩:∃g,f=g+1:=⟨f - 1,by omega⟩
  have tst:tstB (op2 oNe (nm 3) (z0i [])) (VL (z02 R os) room fd st s4 s5 s6 s7 s8 s9 s10 s11)=some (!st.isEmpty):=by
   refine z1b (z0f (x:=.list (st.map entT)) (y:=.list []) rfl rfl ?_)
   have k2:okT (.list ([]:List T))=true:=by decide
   unfold oNe
   rw[zhr,k2]
   cases st with
   | nil=>rfl
   | cons y st=>simp[y1v,PyData.eqvAll]
  rcases List.eq_nil_or_concat st with z|⟨st',x,z⟩
  ·subst z
   refine⟨fd,s4,s5,s6,s7,s8,s9,s10,s11,by simpa using hp,?_⟩
   unfold whl
   rw[tst]
   rfl
  ·rw[List.concat_eq_append] at z
   subst z
   have fx:=hfit x (by simp)
   have f':∀y∈st',Fit (os.map edge) room y:=fun y hy=>hfit y (by simp[hy])
   obtain⟨h,n,hh,hn,c1,c2⟩:=zij fx
   have hxl:=fx.len
   have hlen:∀l:List Ent,(∀y∈l,Fit (os.map edge) room y)->l.length<=(l.map (coF (os.map edge) room)).sum:=by
    intro l
    induction l with
    | nil=>intro _;simp
    | cons y l ihl =>
     intro hl
     have h1:=(hl y (by simp)).co
     have h2:=ihl fun z hz=>hl z (by simp[hz])
     simp only[y0w,y0d,List.sum_cons]
     omega
   have hl':=hlen st' f'
   have hsum:(st'.map (coF (os.map edge) room)).sum+coF (os.map edge) room x=c:=by
    rw[<- hc]
    simp
   have hfd:fd.length<=36:=by
    have:=hp.length_eq
    rw[y1x] at this
    omega
   obtain⟨u4,u5,u6,u7,u8,u9,u10,u11,bs⟩:=znq (R:=R) (room:=room) (os:=os) (fd:=fd) (st:=st') hos hol hh (by omega) (by have:=fx.2.1;omega) (by omega) (by omega) s4 s5 s6 s7 s8 s9 s10 s11
   have go:whl (tstB (op2 oNe (nm 3) (z0i []))) bB (f+1) (VL (z02 R os) room fd (st'++[x]) s4 s5 s6 s7 s8 s9 s10 s11)=whl (tstB (op2 oNe (nm 3) (z0i []))) bB f (if h=room then VL (z02 R os) room (fd++[x.2]) st' u4 u5 u6 u7 u8 u9 u10 u11 else VL (z02 R os) room fd (st'++extL x h 0 (os.map edge)) u4 u5 u6 u7 u8 u9 u10 u11):=by
    have e:(st'++[x]).isEmpty=false:=by simp
    rw[e] at tst
    rw[whl,tst]
    simp only[Bool.not_false,y0p,if_true,bs]
   rw[go]
   rw[List.flatMap_append] at hp
   simp only[List.flatMap_cons,List.flatMap_nil,y1t] at hp
   by_cases q:h=room
   ·obtain⟨d1,d2⟩:=c1 q
    rw[if_pos q]
    refine ih (st'.map (coF (os.map edge) room)).sum (by omega) f st' (fd++[x.2]) u4 u5 u6 u7 u8 u9 u10 u11 rfl (by omega) (by omega) f' ?_
    rw[d1] at hp
    refine List.Perm.trans ?_ hp
    rw[y2b]
    exact List.Perm.append_left _ List.perm_append_comm
   ·obtain⟨vs,e1,d1,d2⟩:=c2 q
    obtain⟨i1,i2,i3⟩:=zc5 hn fx.1 fx.2.1 (os.map edge) 0 vs e1
    rw[if_neg q]
    have hs:((st'++extL x h 0 (os.map edge)).map (coF (os.map edge) room)).sum=(st'.map (coF (os.map edge) room)).sum+ndsE (nds (os.map edge) room n) x.1 h (os.map edge):=by
     rw[List.map_append,List.sum_append,i3]
    refine ih _ ?_ f (st'++extL x h 0 (os.map edge)) fd u4 u5 u6 u7 u8 u9 u10 u11 rfl ?_ ?_ ?_ ?_
    ·rw[hs];omega
    ·rw[hs];omega
    ·rw[hs];omega
    ·intro y hy
     rcases y10.mp hy with z|z
     ·exact f' y z
     ·exact i2 y z
    ·rw[List.flatMap_append,i1,<- d1]
     exact hp
theorem z97 {R:Int} {os:List Op} {room:Int} {ws C B:_} (d:Drawn R os) (r:Room1 R os room ws C B):z2e [z02 R os,.int room]=some (.list (ws.map wT)):=by
 have hos:∀o∈os,o.1≠o.2.1:=fun o ho=>by
  obtain⟨h1,h2,h3,h4⟩:=d.ok o ho
  omega
 have hol:=d.len
 have w1:=r.w
 have fit:Fit (os.map edge) room ([0],[]):=⟨by simp,rfl,ws,w1⟩
 have cost:coF (os.map edge) room ([0],[])<=70:=y1k (zjg (z44 d) (by simpa using d.len) (by simp)) (zoy _ (y1k List.countP_le_length (by simpa using d.len)))
 obtain⟨fd,t4,t5,t6,t7,t8,t9,t10,t11,hp,lp⟩:=zmz (R:=R) (room:=room) (ws:=ws) hos hol r.len (coF (os.map edge) room ([0],[])) 1000 [([0],[])] [] none none none none none none none none (by simp) (by omega) (by omega) (fun x hx=>by
  rw[y0z.mp hx]
  exact fit) (by
  have:duF (os.map edge) room ([0],[])=ws:=by
   unfold duF
   show ((Hg.waysP (os.map edge) room 20 [0]).getD []).map _=_
   rw[w1]
   simp
  simp[this])
 have so:=za4 r.pw hp (by have:=r.len;omega) fun w hw=>(r.ne w hw).1
 have hs:z5c [some (.imm (z02 R os)),some (.imm (.int room)),none,none,none,none,none,none,none,none,none,none]=some (.rt (.list (ws.map wT))):=by
  unfold z5c
  refine (z07 (ε':=[some (.imm (z02 R os)),some (.imm (.int room)),some (.own []),none,none,none,none,none,none,none,none,none]) rfl).trans ?_
  refine (z07 (ε':=VL (z02 R os) room [] [([0],[])] none none none none none none none none) rfl).trans ?_
  refine (z07 lp).trans ?_
  have:opN z3n [(nm 2)] (VL (z02 R os) room fd [] t4 t5 t6 t7 t8 t9 t10 t11)=some (.list (ws.map wT)):=z0o (z38 (x:=.list (fd.map wT)) rfl) so
  unfold rtn
  rw[this]
  rfl
 show Option.bind (z5c [some (.imm (z02 R os)),some (.imm (.int room)),none,none,none,none,none,none,none,none,none,none]) _=_
 rw[hs]
 rfl
end K20
end
section
namespace K20
open PySem D Ho Wo Qo
local instance:Tbl:=⟨[],fun _=>[],fun _=>none⟩
def pr (w:List Nat):Int×List Int:=((w.length:Int),cstN w)
theorem zjh (x y:List Nat):ltK x y=ltP (pr x) (pr y):=by
 unfold ltK ltP pr ltN
 have h1:decide (x.length<y.length)=decide ((x.length:Int)<(y.length:Int)):=decide_eq_decide.mpr (by omega)
 have h2:decide (x.length=y.length)=decide ((x.length:Int)=(y.length:Int)):=decide_eq_decide.mpr (by omega)
 rw[h1,h2]
theorem zmj (w:List Nat):prT (pr w)=.tuple [.int w.length,wT w]:=by
 unfold prT pr
 rw[zdg]
theorem z5t:∀(ds:List (List Nat)) (b:List Nat),∀w∈b::ds,leP (pr (z56 b ds)) (pr w)=true
 | [],b,w,h=>by
  rw[y0z.mp h]
  have:=zam (pr b) (pr b)
  simpa [z56] using this
 | d::ds,b,w,h=>by
  unfold z56
  by_cases q:ltK d b=true
  ·rw[if_pos q]
   have i:=z5t ds d
   rcases y09.mp h with rfl|h
   ·refine z5x _ _ _ (i d (by simp)) ?_
    rw[zjh] at q
    unfold leP
    rw[z4e q]
    rfl
   ·exact i w h
  ·rw[if_neg q]
   have i:=z5t ds b
   rcases y09.mp h with rfl|h
   ·exact i w (by simp)
   ·rcases y09.mp h with rfl|h
    ·refine z5x _ _ _ (i b (by simp)) ?_
     rw[zjh] at q
     unfold leP
     simpa using q
    ·exact i w (by simp[h])
theorem zi2 {ws:List (List Nat)} {w:List Nat} (h:w∈ws):leP (pr (minW ws)) (pr w)=true:=by
 cases ws with
 | nil=>cases h
 | cons d ds=>exact z5t ds d w h
theorem zbs (x:Int×List Int):leP x x=true:=by simpa using zam x x
theorem zbw {rs:List (Int×List Int)} {m:Int×List Int} (hm:m∈rs) (hl:∀x∈rs,leP m x=true):∃l,z7n rs=m::l:=by
 have hp:=z6q rs
 have pw:=zba rs
 cases hs:z7n rs with
 | nil =>
  rw[hs] at hp
  exact absurd (hp.mem_iff.mpr hm) (by simp)
 | cons x l =>
  rw[hs] at hp pw
  have hx:x∈rs:=hp.mem_iff.mp (by simp)
  have hxm:leP x m=true:=by
   rcases y09.mp (hp.mem_iff.mpr hm) with e|e
   ·rw[e];exact zbs x
   ·exact (y16.mp pw).1 m e
  rw[zbt hxm (hl x hx)]
  exact⟨l,rfl⟩
def prsL (ws:List (List Nat)):List (Int×List Int):=ws.map pr++[((99:Int),[])]
theorem zbi:∀l:List (Int×List Int),zah (l.map prT)=some l
 | []=>rfl
 | x::l=>by
  obtain⟨a,r⟩:=x
  have ih:=zbi l
  have hi:=z47 r
  simp only[y0d,prT,rowT,zah,hi,y0p]
  have e:(l.map fun x=>(PyData.tuple [.int x.1,.tuple (x.2.map .int)]))=l.map prT:=rfl
  rw[show zah (List.map prT l)=some l from ih]
  rfl
theorem zmi {ws:List (List Nat)} (h:ws.Nodup) (hl:∀w∈ws,w.length<=20):(prsL ws).Nodup:=by
 unfold prsL
 rw[y1i]
 refine⟨List.pairwise_map.mpr (h.imp fun hne e=>hne (z5a (congrArg (·.2) e))),by simp,fun a ha b hb=>?_⟩
 obtain⟨w,hw,rfl⟩:=y0m.mp ha
 rw[y0z.mp hb]
 intro e
 have:=congrArg (·.1) e
 have h2:=hl w hw
 simp only[pr] at this
 omega
theorem zcs {ws:List (List Nat)} (h:ws.Nodup) (hl:∀w∈ws,w.length<=20) (hz:ws.length<=36):z1n [.list ((prsL ws).map prT)]=some (.list ((z7n (prsL ws)).map prT)):=by
 unfold z1n
 dsimp only
 rw[if_pos (by simp[prsL];omega),zbi]
 simp only[y0p,if_pos (zmi h hl)]
theorem zik {ws:List (List Nat)} (h:ws.Nodup) (hl:∀w∈ws,w.length<=20) (hz:ws.length<=36):∃m l,z1n [.list ((prsL ws).map prT)]=some (.list (prT m::l))/\(ws≠[]->rowT m.2=wT (minW ws)):=by
 rw[zcs h hl hz]
 by_cases hw:ws=[]
 ·subst hw
  obtain⟨l,e⟩:=zbw (rs:=prsL []) (m:=((99:Int),[])) (by simp[prsL]) (fun x hx=>by
   have:x=((99:Int),[]):=by simpa [prsL] using hx
   rw[this]
   exact zbs _)
  rw[e]
  exact⟨_,l.map prT,rfl,fun z=>absurd rfl z⟩
 ·obtain⟨l,e⟩:=zbw (rs:=prsL ws) (m:=pr (minW ws)) (List.mem_append_left _ (y0m.mpr ⟨_,zbq hw,rfl⟩)) (fun x hx=>by
   rcases y10.mp hx with q|q
   ·obtain⟨w,hw,rfl⟩:=y0m.mp q
    exact zi2 hw
   ·rw[y0z.mp q]
    have hl2:(minW ws).length<=20:=hl _ (zbq hw)
    simp only[leP,ltP,pr,Bool.not_eq_true',Bool.or_eq_false_iff,Bool.and_eq_false_iff,decide_eq_false_iff_not]
    exact⟨decide_eq_false (by omega),.inl (decide_eq_false (by omega))⟩)
  rw[e]
  exact⟨_,l.map prT,rfl,fun _=>(zdg _).symm⟩
theorem zc9:∀(ws:List (List Nat)) (j:Option Sl),z1v (gNm 0) (cstT true) (z03 [(opN oLen [(nm 0)]),(nmV 0)]) (ws.map wT) [j]=some (ws.map fun w=>prT (pr w))
 | [],j=>rfl
 | w::ws,j=>by
  have ih:=zc9 ws (some (.imm (wT w)))
  have g:gNm 0 (wT w) [j]=some [some (.imm (wT w))]:=rfl
  have e:z03 [(opN oLen [(nm 0)]),(nmV 0)] [some (.imm (wT w))]=some (prT (pr w)):=by
   rw[zmj]
   exact z2y (z3u (z0o (z38 (x:=wT w) rfl) (zkz w)) rfl) (by simp)
  have c:cstT true [some (.imm (wT w))]=some true:=rfl
  rw[y0d,z1v,g]
  simp only[y0p,c,if_true,e,ih,y1l,y0d]
def badW (xs:List Str) (os:List Op) (k:Nat):Bool:=match os[k]? with
 | some o=>!free xs o
 | none=>false
theorem z9e {xs:List Str} {os:List Op}:∀{w:List Nat} {c:Int} {p:List Int},Hg.Fol (os.map edge) c w p->(∀k∈w,badW xs os k=false)->Hg.Reach (z0y xs os) c->∀x,(c::p).getLast?=some x->Hg.Reach (z0y xs os) x
 | [],c,p,f,_,r,x,hx=>by
  have:p=[]:=f
  subst this
  cases hx
  exact r
 | k::w,c,p,f,hb,r,x,hx=>by
  obtain⟨e,t,q,h1,h2,rfl,h4⟩:=f
  rw[y13] at h1
  obtain⟨o,ho,rfl⟩:=y07.mp h1
  have hf:free xs o=true:=by
   have:=hb k (by simp)
   simpa [badW,ho] using this
  have hm:edge o∈z0y xs os:=y0m.mpr ⟨o,List.mem_filter.mpr ⟨y1p ho,hf⟩,rfl⟩
  refine z9e h4 (fun j hj=>hb j (y05 _ hj)) (.step r ⟨_,hm,h2⟩) x ?_
  simpa using hx
theorem zgv {xs:List Str} {os:List Op} {c x:Int} {p:List Int} (w:Hg.Walk (z0y xs os) c p x):∃v,Hg.Fol (os.map edge) c v p/\(∀k∈v,badW xs os k=false)/\(c::p).getLast?=some x:=by
 induction w with
 | nil c=>exact⟨[],rfl,fun k hk=>(by cases hk),rfl⟩
 | @cons c y z p a _ ih =>
  obtain⟨v,h1,h2,h3⟩:=ih
  obtain⟨e,he,ha⟩:=a
  obtain⟨o,ho,rfl⟩:=y0m.mp he
  obtain⟨ho1,ho2⟩:=List.mem_filter.mp ho
  obtain⟨k,hk,hk2⟩:=List.getElem_of_mem ho1
  have hk':os[k]?=some o:=by rw[y0v hk,hk2]
  refine⟨k::v,⟨edge o,y,p,by rw[y13,hk'];rfl,ha,rfl,h1⟩,fun j hj=>?_,by simpa using h3⟩
  rcases y09.mp hj with rfl|hj
  ·simp[badW,hk',ho2]
  ·exact h2 j hj
theorem zii {xs:List Str} {os:List Op} {x:Int} {ws:List (List Nat)} (h:Hg.waysP (os.map edge) x 20 [0]=some ws):(ws.any fun w=>(w.filter (badW xs os)).isEmpty)=true <-> Hg.Reach (z0y xs os) x:=by
 rw[List.any_eq_true]
 constructor
 ·rintro⟨w,hw,hf⟩
  obtain⟨p,f1,f2,f3⟩:=(Hg.ways_char h w).mp hw
  refine z9e f1 (fun k hk=>?_) .zero x f3
  have hf':w.filter (badW xs os)=[]:=by simpa using hf
  have:=List.filter_eq_nil_iff.mp hf' k hk
  simpa using this
 ·intro r
  obtain⟨p,w,nd⟩:=Hg.reach_walk r
  obtain⟨v,h1,h2,h3⟩:=zgv w
  refine⟨v,(Hg.ways_char h v).mpr ⟨p,h1,nd,h3⟩,?_⟩
  have:v.filter (badW xs os)=[]:=List.filter_eq_nil_iff.mpr fun k hk=>by simp[h2 k hk]
  rw[this]
  rfl
theorem zcc {R:Int} {xs:List Str} (hx:z54 xs) {os:List Op} (ho:zgs os):∀(w:List Nat) (j:Option Sl),(∀k∈w,k<os.length)->z1v (gNm 0) (andT (tstB (op1 z0p (op2 oIx (op2 oIx (op2 oIx (nm 2) (cst (.int 1))) (nm 0)) (cst (.int 2))))) (tstB (op2 (oIn true) (op2 oIx (op2 oIx (op2 oIx (nm 2) (cst (.int 1))) (nm 0)) (cst (.int 2))) (nm 1)))) (nmV 0) (w.map fun (k:Nat)=>PyData.int (k:Int)) [j,some (.imm (z09 xs)),some (.imm (z02 R os))]=some ((w.filter (badW xs os)).map fun (k:Nat)=>PyData.int (k:Int))
 | [],j,_=>rfl
 | k::w,j,h=>by
  have ih:=zcc (R:=R) hx ho w (some (.imm (.int k))) fun y hy=>h y (y05 _ hy)
  have hk:=h k (by simp)
  have g:gNm 0 (.int k) [j,some (.imm (z09 xs)),some (.imm (z02 R os))]=some [some (.imm (.int k)),some (.imm (z09 xs)),some (.imm (z02 R os))]:=rfl
  have ix:op2 oIx (op2 oIx (op2 oIx (nm 2) (cst (.int 1))) (nm 0)) (cst (.int 2)) [some (.imm (.int k)),some (.imm (z09 xs)),some (.imm (z02 R os))]=some (zT os[k].2.2):=by
   refine z0f (x:=opT os[k]) (y:=.int 2) (z0f (x:=.tuple (os.map opT)) (y:=.int k) rfl rfl ?_) rfl rfl
   show atZ (os.map opT) (k:Int)=some (opT os[k])
   have:ixOf (os.map opT).length (k:Int)=some k:=by
    unfold ixOf
    rw[if_pos (by omega),if_pos (by simp;omega)]
    simp
   unfold atZ
   rw[this]
   simp[hk]
  have hb:badW xs os k=!free xs os[k]:=by simp[badW,hk]
  have e:andT (tstB (op1 z0p (op2 oIx (op2 oIx (op2 oIx (nm 2) (cst (.int 1))) (nm 0)) (cst (.int 2))))) (tstB (op2 (oIn true) (op2 oIx (op2 oIx (op2 oIx (nm 2) (cst (.int 1))) (nm 0)) (cst (.int 2))) (nm 1))) [some (.imm (.int k)),some (.imm (z09 xs)),some (.imm (z02 R os))]=some (badW xs os k):=by
   rw[hb]
   have hok:=ho os[k] (List.getElem_mem hk)
   generalize os[k]=o at ix hok
   obtain⟨a,b,z⟩:=o
   cases z with
   | none =>
    have t1:op1 z0p (op2 oIx (op2 oIx (op2 oIx (nm 2) (cst (.int 1))) (nm 0)) (cst (.int 2))) [some (.imm (.int k)),some (.imm (z09 xs)),some (.imm (z02 R os))]=some (.bool false):=by
     unfold op1
     rw[ix]
     rfl
    unfold andT
    rw[z1b t1]
    rfl
   | some z =>
    have t1:op1 z0p (op2 oIx (op2 oIx (op2 oIx (nm 2) (cst (.int 1))) (nm 0)) (cst (.int 2))) [some (.imm (.int k)),some (.imm (z09 xs)),some (.imm (z02 R os))]=some (.bool true):=by
     unfold op1
     rw[ix]
     rfl
    have t2:op2 (oIn true) (op2 oIx (op2 oIx (op2 oIx (nm 2) (cst (.int 1))) (nm 0)) (cst (.int 2))) (nm 1) [some (.imm (.int k)),some (.imm (z09 xs)),some (.imm (z02 R os))]=some (.bool (!decide (z∈xs))):=by
     refine z0f (y:=z09 xs) ix rfl ?_
     show oIn true (.str z) (.tuple (xs.map .str))=_
     rw[zai _ _ _ (hok z rfl) hx]
     rfl
    unfold andT
    rw[z1b t1]
    simp only[y0p,if_true]
    rw[z1b t2]
    rfl
  rw[y0d,z1v,g]
  simp only[y0p,e]
  cases hq:badW xs os k with
  | true =>
   rw[List.filter_cons_of_pos hq]
   have nv:nmV 0 [some (.imm (.int k)),some (.imm (z09 xs)),some (.imm (z02 R os))]=some (.int k):=rfl
   simp only[if_true,nv,y0p,ih,y1l,y0d]
  | false =>
   rw[List.filter_cons_of_neg (by simp[hq])]
   simp only[y1o,if_false]
   exact ih
noncomputable def V (ns:List Int) (R:Int) (os:List Op) (m x:Int) (xs:List Str) (ws:List (List Nat)) (s6 s7 s8 s9 s10:Option Sl):Ev :=
 [some (.imm (D.scriptT ns)),some (.imm (z02 R os)),some (.imm (.int m)),some (.imm (.int x)),some (.imm (z09 xs)),some (.imm (.list (ws.map wT))),s6,s7,s8,s9,s10]
noncomputable def bF:Fs:=(app 9 (op2 oEq (comp 1 [4,1] (z0a (nmV 10)) (gNm 0) (andT (tstB (op1 z0p (op2 oIx (op2 oIx (op2 oIx (nm 2) (cst (.int 1))) (nm 0)) (cst (.int 2))))) (tstB (op2 (oIn true) (op2 oIx (op2 oIx (op2 oIx (nm 2) (cst (.int 1))) (nm 0)) (cst (.int 2))) (nm 1)))) (nmV 0)) (z0i [])))
theorem zhw (w:List Nat):oEq (.list (w.map fun (k:Nat)=>PyData.int (k:Int))) (.list [])=some (.bool w.isEmpty):=by
 have h1:okT (.list (w.map fun (k:Nat)=>PyData.int (k:Int)))=true:=by
  have:=z4d (w.map fun (k:Nat)=>(k:Int))
  rw[y2d] at this
  have e:(PyData.int ∘ fun (k:Nat)=>(k:Int))=fun (k:Nat)=>PyData.int (k:Int):=rfl
  rw[e] at this
  simp only[okT,PyData.canLay0,y20,this.1,Bool.true_and]
  exact decide_eq_true (by have:=this.2;omega)
 have h2:okT (.list ([]:List T))=true:=by decide
 unfold oEq
 rw[h1,h2]
 cases w with
 | nil=>rfl
 | cons k w=>simp[y1v,PyData.eqvAll]
theorem z9i {ns:List Int} {R:Int} {os:List Op} {m x:Int} {xs:List Str} (hx:z54 xs) (ho:zgs os) {ws:List (List Nat)} (s6 s7 s8:Option Sl):∀(vs:List (List Nat)) (bs:List Bool) (s10:Option Sl),(∀w∈vs,w.length<=20/\∀k∈w,k<os.length)->bs.length+vs.length<=1000 ->
  ∃t10,forL (gNm 10) bF (vs.map wT) (V ns R os m x xs ws s6 s7 s8 (some (.own (bs.map .bool))) s10)=some (.nx (V ns R os m x xs ws s6 s7 s8 (some (.own ((bs++vs.map fun w=>(w.filter (badW xs os)).isEmpty).map .bool))) t10))
 | [],bs,s10,_,_=>⟨s10,by rw[y17,y17,y1t];rfl⟩
 | w::vs,bs,s10,h,hl=>by
  obtain⟨w1,w2⟩:=h w (by simp)
  simp only[y0w] at hl
  obtain⟨t10,ih⟩:=z9i (ns:=ns) (R:=R) (m:=m) (x:=x) hx ho (ws:=ws) s6 s7 s8 vs (bs++[(w.filter (badW xs os)).isEmpty]) (some (.imm (wT w))) (fun y hy=>h y (y05 _ hy)) (by simp;omega)
  refine⟨t10,?_⟩
  have g:gNm 10 (wT w) (V ns R os m x xs ws s6 s7 s8 (some (.own (bs.map .bool))) s10)=some (V ns R os m x xs ws s6 s7 s8 (some (.own (bs.map .bool))) (some (.imm (wT w)))):=rfl
  have st:bF (V ns R os m x xs ws s6 s7 s8 (some (.own (bs.map .bool))) (some (.imm (wT w))))=some (.nx (V ns R os m x xs ws s6 s7 s8 (some (.own ((bs++[(w.filter (badW xs os)).isEmpty]).map .bool))) (some (.imm (wT w))))):=by
   have cm:comp 1 [4,1] (z0a (nmV 10)) (gNm 0) (andT (tstB (op1 z0p (op2 oIx (op2 oIx (op2 oIx (nm 2) (cst (.int 1))) (nm 0)) (cst (.int 2))))) (tstB (op2 (oIn true) (op2 oIx (op2 oIx (op2 oIx (nm 2) (cst (.int 1))) (nm 0)) (cst (.int 2))) (nm 1)))) (nmV 0) (V ns R os m x xs ws s6 s7 s8 (some (.own (bs.map .bool))) (some (.imm (wT w))))=some (.list ((w.filter (badW xs os)).map fun (k:Nat)=>PyData.int (k:Int))):=by
    have it:z0a (nmV 10) (V ns R os m x xs ws s6 s7 s8 (some (.own (bs.map .bool))) (some (.imm (wT w))))=some (w.map fun (k:Nat)=>PyData.int (k:Int)):=rfl
    have bg:(w.map fun (k:Nat)=>PyData.int (k:Int)).length<=big:=by rw[y12];unfold big;omega
    unfold comp
    rw[it]
    simp only[y0p,if_pos bg]
    have cp:z16 1 [4,1] (V ns R os m x xs ws s6 s7 s8 (some (.own (bs.map .bool))) (some (.imm (wT w))))=[none,some (.imm (z09 xs)),some (.imm (z02 R os))]:=rfl
    rw[cp,zcc hx ho w _ w2]
    rfl
   have e:op2 oEq (comp 1 [4,1] (z0a (nmV 10)) (gNm 0) (andT (tstB (op1 z0p (op2 oIx (op2 oIx (op2 oIx (nm 2) (cst (.int 1))) (nm 0)) (cst (.int 2))))) (tstB (op2 (oIn true) (op2 oIx (op2 oIx (op2 oIx (nm 2) (cst (.int 1))) (nm 0)) (cst (.int 2))) (nm 1)))) (nmV 0)) (z0i []) (V ns R os m x xs ws s6 s7 s8 (some (.own (bs.map .bool))) (some (.imm (wT w))))=some (.bool (w.filter (badW xs os)).isEmpty):=z0f cm (show z0i [] _=some (.list []) from rfl) (zhw _)
   have e9:(V ns R os m x xs ws s6 s7 s8 (some (.own (bs.map .bool))) (some (.imm (wT w))))[9]?=some (some (.own (bs.map .bool))):=rfl
   have bg:(bs.map PyData.bool).length<big:=by rw[y12];unfold big;omega
   unfold bF app
   rw[e9]
   simp only[e,y0p,if_pos bg]
   simp only[V,y1g,y1f,List.map_append,y0d,y17]
  rw[y0d,z2j g st,ih,y0d,y2b]
  rfl
theorem zf0 (bs:List Bool):oIn false (.bool true) (.list (bs.map .bool))=some (.bool (bs.any id)):=by
 have h1:okT (.bool true)=true:=by decide
 have h2:y1e (bs.map PyData.bool)=true/\y1c (bs.map PyData.bool)<=1:=by
  induction bs with
  | nil=>simp[y1e,y1c]
  | cons b bs ih =>
   simp only[y0d,y1e,y1c,PyData.canLay0,y20,ih.1,Bool.and_self,true_and]
   have:=ih.2
   omega
 have h3:okL (bs.map PyData.bool)=true:=by
  unfold okL
  rw[h2.1,Bool.true_and]
  exact decide_eq_true (by have:=h2.2;omega)
 have h4:hasT (.bool true) (bs.map .bool)=bs.any id:=by
  unfold hasT
  rw[List.any_map]
  congr 1
  funext b
  cases b <;> simp[y1v]
 unfold oIn
 dsimp only
 rw[h1,h3,h4]
 rfl
def bG:Fs:=(seq (asgN 9 (z0i []))
  (seq (for_ (z0a (opN z2e [(nmV 1),(nmV 8)])) (gNm 10) bF)
  (iff (tstB (op2 (oIn false) (cst (.bool true)) (nm 9))) (app 7 (nmV 8)) skip)))
theorem zfx {ns:List Int} {R:Int} {os:List Op} (d:Drawn R os) {m x:Int} {xs:List Str} (hx:z54 xs) {ws:List (List Nat)} (s6:Option Sl):∀(gs:List Int) (acc:List Int) (s8 s9 s10:Option Sl),(∀y∈gs,1<=y/\y<=R)->acc.length+gs.length<=1000 ->
  ∃rs t8 t9 t10,(∀y,y∈rs <-> y∈gs/\Hg.Reach (z0y xs os) y)/\rs.Sublist gs/\forL (gNm 8) bG (gs.map .int) (V ns R os m x xs ws s6 (some (.own (acc.map .int))) s8 s9 s10)=some (.nx (V ns R os m x xs ws s6 (some (.own ((acc++rs).map .int))) t8 t9 t10))
 | [],acc,s8,s9,s10,_,_=>⟨[],s8,s9,s10,fun y=>by simp,.slnil,by rw[y1t];rfl⟩
 | y::gs,acc,s8,s9,s10,h,hl=>by
  obtain⟨y1,y2⟩:=h y (by simp)
  simp only[y0w] at hl
  obtain⟨vs,C,B,r⟩:=zm3 d (x:=y) y1 y2
  have lw:=z97 d r
  obtain⟨t10,fl⟩:=z9i (ns:=ns) (R:=R) (m:=m) (x:=x) hx (z9j d) (ws:=ws) s6 (some (.own (acc.map .int))) (some (.imm (.int y))) vs [] s10 (fun w hw=>⟨r.wl w hw,(r.ne w hw).2⟩) (by have:=r.len;simp;omega)
  rw[y2c] at fl
  have fw:=zii (xs:=xs) r.w
  have any:(vs.map fun w=>(w.filter (badW xs os)).isEmpty).any id=vs.any fun w=>(w.filter (badW xs os)).isEmpty:=by rw[List.any_map];rfl
  have g:gNm 8 (.int y) (V ns R os m x xs ws s6 (some (.own (acc.map .int))) s8 s9 s10)=some (V ns R os m x xs ws s6 (some (.own (acc.map .int))) (some (.imm (.int y))) s9 s10):=rfl
  have it:z0a (opN z2e [(nmV 1),(nmV 8)]) (V ns R os m x xs ws s6 (some (.own (acc.map .int))) (some (.imm (.int y))) (some (.own [])) s10)=some (vs.map wT):=by
   have l1:opN z2e [(nmV 1),(nmV 8)] (V ns R os m x xs ws s6 (some (.own (acc.map .int))) (some (.imm (.int y))) (some (.own [])) s10)=some (.list (vs.map wT)):=z0o (z3u rfl rfl) lw
   unfold z0a
   rw[l1]
   rfl
  have s1:bG (V ns R os m x xs ws s6 (some (.own (acc.map .int))) (some (.imm (.int y))) s9 s10)=(iff (tstB (op2 (oIn false) (cst (.bool true)) (nm 9))) (app 7 (nmV 8)) skip) (V ns R os m x xs ws s6 (some (.own (acc.map .int))) (some (.imm (.int y))) (some (.own ((vs.map fun w=>(w.filter (badW xs os)).isEmpty).map .bool))) t10):=by
   unfold bG
   refine (z07 (ε':=V ns R os m x xs ws s6 (some (.own (acc.map .int))) (some (.imm (.int y))) (some (.own [])) s10) rfl).trans ?_
   refine z07 ?_
   unfold for_
   rw[it]
   exact fl
  have t:tstB (op2 (oIn false) (cst (.bool true)) (nm 9)) (V ns R os m x xs ws s6 (some (.own (acc.map .int))) (some (.imm (.int y))) (some (.own ((vs.map fun w=>(w.filter (badW xs os)).isEmpty).map .bool))) t10)=some (vs.any fun w=>(w.filter (badW xs os)).isEmpty):=by
   rw[<- any]
   exact z1b (z0f (x:=.bool true) rfl rfl (zf0 _))
  cases hq:(vs.any fun w=>(w.filter (badW xs os)).isEmpty) with
  | true =>
   have hr:=fw.mp hq
   rw[hq] at t
   obtain⟨rs,u8,u9,u10,h1,h2,ih⟩:=zfx (ns:=ns) d (m:=m) (x:=x) hx (ws:=ws) s6 gs (acc++[y]) (some (.imm (.int y))) (some (.own ((vs.map fun w=>(w.filter (badW xs os)).isEmpty).map .bool))) t10 (fun z hz=>h z (y05 _ hz)) (by simp;omega)
   refine⟨y::rs,u8,u9,u10,fun z=>?_,h2.cons₂ y,?_⟩
   ·simp only[y09,h1]
    constructor
    ·rintro (rfl|⟨a,b⟩)
     ·exact⟨.inl rfl,hr⟩
     ·exact⟨.inr a,b⟩
    ·rintro⟨rfl|a,b⟩
     ·exact .inl rfl
     ·exact .inr ⟨a,b⟩
   ·have st:bG (V ns R os m x xs ws s6 (some (.own (acc.map .int))) (some (.imm (.int y))) s9 s10)=some (.nx (V ns R os m x xs ws s6 (some (.own ((acc++[y]).map .int))) (some (.imm (.int y))) (some (.own ((vs.map fun w=>(w.filter (badW xs os)).isEmpty).map .bool))) t10)):=by
     rw[s1,z2i t]
     have e7:(V ns R os m x xs ws s6 (some (.own (acc.map .int))) (some (.imm (.int y))) (some (.own ((vs.map fun w=>(w.filter (badW xs os)).isEmpty).map .bool))) t10)[7]?=some (some (.own (acc.map .int))):=rfl
     have v8:nmV 8 (V ns R os m x xs ws s6 (some (.own (acc.map .int))) (some (.imm (.int y))) (some (.own ((vs.map fun w=>(w.filter (badW xs os)).isEmpty).map .bool))) t10)=some (.int y):=rfl
     have bg:(acc.map PyData.int).length<big:=by rw[y12];unfold big;omega
     unfold app
     rw[e7]
     simp only[v8,y0p,if_pos bg]
     simp only[V,y1g,y1f,List.map_append,y0d,y17]
    rw[y0d,z2j g st,ih,y2b]
    rfl
  | false =>
   have hr:¬Hg.Reach (z0y xs os) y:=fun z=>by
    have:=fw.mpr z
    rw[hq] at this
    cases this
   rw[hq] at t
   obtain⟨rs,u8,u9,u10,h1,h2,ih⟩:=zfx (ns:=ns) d (m:=m) (x:=x) hx (ws:=ws) s6 gs acc (some (.imm (.int y))) (some (.own ((vs.map fun w=>(w.filter (badW xs os)).isEmpty).map .bool))) t10 (fun z hz=>h z (y05 _ hz)) (by omega)
   refine⟨rs,u8,u9,u10,fun z=>?_,h2.cons y,?_⟩
   ·simp only[y09,h1]
    constructor
    ·rintro⟨a,b⟩
     exact⟨.inr a,b⟩
    ·rintro⟨rfl|a,b⟩
     ·exact absurd b hr
     ·exact⟨a,b⟩
   ·have st:bG (V ns R os m x xs ws s6 (some (.own (acc.map .int))) (some (.imm (.int y))) s9 s10)=some (.nx (V ns R os m x xs ws s6 (some (.own (acc.map .int))) (some (.imm (.int y))) (some (.own ((vs.map fun w=>(w.filter (badW xs os)).isEmpty).map .bool))) t10)):=by
     rw[s1,z9c t]
     rfl
    rw[y0d,z2j g st]
    exact ih
theorem zi1 {fs:List Fe} {ε:Ev} {ts:List T} (h:args fs ε=some ts) (hz:ts.length<=big):z0i fs ε=some (.list ts):=by
 unfold z0i
 rw[h]
 exact if_pos hz
theorem zi9 (ns:List Int) (h:ns.length<=63):zd5 [D.scriptT ns]=some (.bool true):=by
 obtain⟨m0,hm0,x0⟩:=zbp ns 0
 obtain⟨m,hm,x1⟩:=zbp ns 1
 obtain⟨R,os,d,xh⟩:=zif m0 hm0
 have hR:=d.r1
 have hR7:=d.r7
 have x0':z1q [D.scriptT ns,.int 0]=some (.int m0):=x0
 have x1':z1q [D.scriptT ns,.int 1]=some (.int m):=x1
 obtain⟨x,ex⟩:∃x,x=1+m % R:=⟨_,rfl⟩
 have hx0:0<=m % R:=y29 _ (by omega)
 have hx1:m % R<R:=y2a _ (by omega)
 obtain⟨ws,C,B,r⟩:=zm3 d (x:=x) (by omega) (by omega)
 have lw:=z97 d r
 have nd:=zde r.pw
 obtain⟨z3,e3⟩:∃z3,z3=m / 8 % 5:=⟨_,rfl⟩
 have z0:0<=z3:=by rw[e3];exact y29 _ (by omega)
 have z1:z3<5:=by rw[e3];exact y2a _ (by omega)
 obtain⟨xs,hx,xz⟩:∃xs:List Str,z54 xs/\oIx (.tuple [z09 ["a","b"],z09 [],z09 ["hall"],z09 ["a","back","win"],z09 ["b","zz"]]) (.int z3)=some (z09 xs):=by
  have:z3=0\/z3=1\/z3=2\/z3=3\/z3=4:=by omega
  rcases this with rfl|rfl|rfl|rfl|rfl
  ·exact⟨["a","b"],z7k (by decide +kernel),rfl⟩
  ·exact⟨[],fun x hx=>(by cases hx),rfl⟩
  ·exact⟨["hall"],z7k (by decide +kernel),rfl⟩
  ·exact⟨["a","back","win"],z7k (by decide +kernel),rfl⟩
  ·exact⟨["b","zz"],z7k (by decide +kernel),rfl⟩
 suffices hs:zlh [some (.imm (D.scriptT ns)),none,none,none,none,none,none,none,none,none,none]=some (.rt (.bool true)) by
  unfold zd5 runF
  simp only[y0d,y17,y0w,y28,List.cons_append,y2c]
  exact congrArg (fun o=>Option.bind o _) hs
 unfold zlh
 rw[z07 (z2q (t:=z02 R os) (z0o (z38 (z0o (z3u rfl rfl) x0')) xh))]
 simp only[y1g,y1f]
 rw[z07 (z2q (t:=.int m) (z0o (z3u rfl rfl) x1'))]
 simp only[y1g,y1f]
 rw[z07 (z2q (t:=.int x) (z0f (x:=.int 1) (y:=.int (m % R)) rfl (z0f (x:=.int m) (y:=.int R) rfl rfl (z35 (by omega))) (by rw[ex];rfl)))]
 simp only[y1g,y1f]
 have s4:op2 oIx (z03 [(z03 [(cst (.str "a")),(cst (.str "b"))]),(z03 []),(z03 [(cst (.str "hall"))]),(z03 [(cst (.str "a")),(cst (.str "back")),(cst (.str "win"))]),(z03 [(cst (.str "b")),(cst (.str "zz"))])]) (op2 oMod (op2 oDiv (nm 2) (cst (.int 8))) (cst (.int 5))) [some (.imm (D.scriptT ns)),some (.imm (z02 R os)),some (.imm (.int m)),some (.imm (.int x)),none,none,none,none,none,none,none]=some (z09 xs) :=
  z0f (x:=.tuple [z09 ["a","b"],z09 [],z09 ["hall"],z09 ["a","back","win"],z09 ["b","zz"]]) (y:=.int z3) rfl (z0f (x:=.int (m / 8)) (z0f (x:=.int m) rfl rfl (z9k (by decide))) rfl (by rw[z35 (by omega),e3])) xz
 rw[z07 (z2q s4)]
 simp only[y1g,y1f]
 rw[z07 (z2q (t:=.list (ws.map wT)) (z0o (z3u rfl rfl) lw))]
 simp only[y1g,y1f]
 have t5:op2 oNe (opN z0r [(nmV 1),(nmV 3)]) (opN z2n [(nm 5)]) (V ns R os m x xs ws none none none none none)=some (.bool false):=z0f (z0o (z3u rfl rfl) r.dw) (z0o (z38 (x:=.list (ws.map wT)) rfl) rfl) (zbn (zbm ws))
 refine (z07 ((z9c (z1b t5)).trans rfl)).trans ?_
 have s6:op2 oIx (z0i [(z03 [(cst (.str "told")),(op2 oIx (op2 oIx (opN z1n [(op2 oAdd (comp 1 [] (z0a (nmV 5)) (gNm 0) (cstT true) (z03 [(opN oLen [(nm 0)]),(nmV 0)])) (z0i [(z03 [(cst (.int 99)),(z03 [])])]))]) (cst (.int 0))) (cst (.int 1)))]),(z03 [(cst (.str "refused")),(cst (.int 1))])]) (opN oInt [(op2 oEq (nm 5) (z0i []))]) (V ns R os m x xs ws none none none none none)=some (qT ws):=by
  have cm:comp 1 [] (z0a (nmV 5)) (gNm 0) (cstT true) (z03 [(opN oLen [(nm 0)]),(nmV 0)]) (V ns R os m x xs ws none none none none none)=some (.list (ws.map fun w=>prT (pr w))):=by
   have it:z0a (nmV 5) (V ns R os m x xs ws none none none none none)=some (ws.map wT):=rfl
   have bg:(ws.map wT).length<=big:=by rw[y12];have:=r.len;unfold big;omega
   unfold comp
   rw[it]
   simp only[y0p,if_pos bg]
   have cp:z16 1 [] (V ns R os m x xs ws none none none none none)=[none]:=rfl
   rw[cp,zc9]
   rfl
  obtain⟨mm,l,so,sm⟩:=zik nd r.wl r.len
  have ad:op2 oAdd (comp 1 [] (z0a (nmV 5)) (gNm 0) (cstT true) (z03 [(opN oLen [(nm 0)]),(nmV 0)])) (z0i [(z03 [(cst (.int 99)),(z03 [])])]) (V ns R os m x xs ws none none none none none)=some (.list ((prsL ws).map prT)):=by
   refine z0f cm (show z0i [(z03 [(cst (.int 99)),(z03 [])])] _=some (.list [prT ((99:Int),[])]) from rfl) ?_
   have hz:(ws.map fun w=>prT (pr w)).length+[prT ((99:Int),[])].length<=16777216:=by
    have:=r.len
    simp
    omega
   have e:oAdd (.list (ws.map fun w=>prT (pr w))) (.list [prT ((99:Int),[])])=some (.list ((ws.map fun w=>prT (pr w))++[prT ((99:Int),[])])):=if_pos hz
   rw[e]
   simp[prsL]
  have fs:op2 oIx (op2 oIx (opN z1n [(op2 oAdd (comp 1 [] (z0a (nmV 5)) (gNm 0) (cstT true) (z03 [(opN oLen [(nm 0)]),(nmV 0)])) (z0i [(z03 [(cst (.int 99)),(z03 [])])]))]) (cst (.int 0))) (cst (.int 1)) (V ns R os m x xs ws none none none none none)=some (rowT mm.2):=by
   refine z0f (x:=prT mm) (y:=.int 1) (z0f (x:=.list (prT mm::l)) (y:=.int 0) (z0o (z38 ad) so) rfl ?_) rfl rfl
   show atZ (prT mm::l) 0=_
   unfold atZ ixOf
   rw[if_pos (by decide),if_pos (by simp)]
   rfl
  have lst:z0i [(z03 [(cst (.str "told")),(op2 oIx (op2 oIx (opN z1n [(op2 oAdd (comp 1 [] (z0a (nmV 5)) (gNm 0) (cstT true) (z03 [(opN oLen [(nm 0)]),(nmV 0)])) (z0i [(z03 [(cst (.int 99)),(z03 [])])]))]) (cst (.int 0))) (cst (.int 1)))]),(z03 [(cst (.str "refused")),(cst (.int 1))])] (V ns R os m x xs ws none none none none none)=some (.list [.tuple [.str "told",rowT mm.2],.tuple [.str "refused",.int 1]]):=by
   have t1:z03 [(cst (.str "told")),(op2 oIx (op2 oIx (opN z1n [(op2 oAdd (comp 1 [] (z0a (nmV 5)) (gNm 0) (cstT true) (z03 [(opN oLen [(nm 0)]),(nmV 0)])) (z0i [(z03 [(cst (.int 99)),(z03 [])])]))]) (cst (.int 0))) (cst (.int 1)))] (V ns R os m x xs ws none none none none none)=some (.tuple [.str "told",rowT mm.2]):=z2y (z3u rfl fs) (by simp)
   have t2:z03 [(cst (.str "refused")),(cst (.int 1))] (V ns R os m x xs ws none none none none none)=some (.tuple [.str "refused",.int 1]):=rfl
   exact zi1 (z3u t1 t2) (by simp[big])
  have ie:opN oInt [(op2 oEq (nm 5) (z0i []))] (V ns R os m x xs ws none none none none none)=some (.int (if ws.isEmpty then 1 else 0)):=by
   have oe:oEq (.list (ws.map wT)) (.list [])=some (.bool ws.isEmpty):=by
    have h1:okT (.list (ws.map wT))=true:=by
     have:=zbm ws
     simpa [okT,PyData.canLay0,y20] using this
    have h2:okT (.list ([]:List T))=true:=by decide
    unfold oEq
    rw[h1,h2]
    cases ws with
    | nil=>rfl
    | cons w ws=>simp[y1v,PyData.eqvAll]
   exact z0o (z38 (z0f (x:=.list (ws.map wT)) (y:=.list []) rfl rfl oe)) rfl
  refine z0f lst ie ?_
  unfold qT
  by_cases hw:ws=[]
  ·subst hw
   rfl
  ·have e:ws.isEmpty=false:=by simpa using hw
   rw[e,sm hw]
   rfl
 refine (z07 (z2q s6)).trans ?_
 show seq _ _ (V ns R os m x xs ws (some (.imm (qT ws))) none none none none)=_
 have q1:=zcq r.dw (by omega) (by omega) (ε:=V ns R os m x xs ws (some (.imm (qT ws))) none none none none) (f:=nmV 1) (g:=nmV 3) rfl rfl
 have s7:iffX (tstX (op2X oNe (zcr (z7p (opN z1j [(nmV 1),(nmV 3)])) (z85 z1i [.v (nmV 1),.v (nmV 3)]) 1) (z7p (nmV 6)))) (rtn (cst (.bool false))) skip (V ns R os m x xs ws (some (.imm (qT ws))) none none none none)=some (.nx (V ns R os m x xs ws (some (.imm (qT ws))) none none none none)):=by
  unfold iffX tstX op2X
  rw[q1]
  have p1:z7p (nmV 6) (V ns R os m x xs ws (some (.imm (qT ws))) none none none none)=some (qT ws,V ns R os m x xs ws (some (.imm (qT ws))) none none none none):=rfl
  simp only[y0p]
  rw[p1]
  simp only[y0p,zbn (zmv ws)]
  rfl
 refine (z07 s7).trans ?_
 refine (z07 (ε':=V ns R os m x xs ws (some (.imm (qT ws))) (some (.own (([0]:List Int).map .int))) none none none) rfl).trans ?_
 obtain⟨rs,t8,t9,t10,h1,h2,gl⟩:=zfx (ns:=ns) d (m:=m) (x:=x) hx (ws:=ws) (some (.imm (qT ws))) ((List.range R.toNat).map fun (k:Nat)=>1+(k:Int)) [0] none none none (fun y hy=>by
  obtain⟨k,hk,rfl⟩:=y0m.mp hy
  have:=List.mem_range.mp hk
  omega) (by simp;omega)
 have it:z74 (cst (.int 1)) (op2 oAdd (op2 oIx (nm 1) (cst (.int 0))) (cst (.int 1))) (V ns R os m x xs ws (some (.imm (qT ws))) (some (.own (([0]:List Int).map .int))) none none none)=some (((List.range R.toNat).map fun (k:Nat)=>1+(k:Int)).map .int):=by
  have e1:op2 oAdd (op2 oIx (nm 1) (cst (.int 0))) (cst (.int 1)) (V ns R os m x xs ws (some (.imm (qT ws))) (some (.own (([0]:List Int).map .int))) none none none)=some (.int (R+1)):=rfl
  have sm:(z1h 1 && z1h (R+1))=true:=by
   simp only[z1h,y19,decide_eq_true_eq]
   omega
  unfold z74
  rw[e1]
  simp only[cst,y0p,sm,if_true]
  unfold rng
  rw[y2d]
  have:(R+1 - 1).toNat=R.toNat:=by omega
  rw[this]
  rfl
 have fo:for_ (z74 (cst (.int 1)) (op2 oAdd (op2 oIx (nm 1) (cst (.int 0))) (cst (.int 1)))) (gNm 8) bG (V ns R os m x xs ws (some (.imm (qT ws))) (some (.own (([0]:List Int).map .int))) none none none)=some (.nx (V ns R os m x xs ws (some (.imm (qT ws))) (some (.own (([0]++rs).map .int))) t8 t9 t10)):=by
  unfold for_
  rw[it]
  exact gl
 refine (z07 fo).trans ?_
 obtain⟨_,m1,p1,b1⟩:=zbg (z5f d xs) (by omega) d.r7
 have pwg:((List.range R.toNat).map fun (k:Nat)=>1+(k:Int)).Pairwise (·<·):=List.pairwise_map.mpr (List.pairwise_lt_range.imp fun h=>by omega)
 have pws:([0]++rs).Pairwise (·<·):=by
  rw[List.singleton_append,y16]
  refine⟨fun y hy=>?_,pwg.sublist h2⟩
  obtain⟨k,hk,rfl⟩:=y0m.mp ((h1 y).mp hy).1
  omega
 have eqr:z4x (z0y xs os)=[0]++rs:=by
  refine zf5 p1 pws fun y=>?_
  rw[m1,y10,y0z,h1]
  constructor
  ·intro hr
   by_cases y0:y=0
   ·exact .inl y0
   ·have:=b1 y ((m1 y).mpr hr)
    refine .inr ⟨y0m.mpr ⟨(y - 1).toNat,List.mem_range.mpr (by omega),by omega⟩,hr⟩
  ·rintro (rfl|⟨_,hr⟩)
   ·exact .zero
   ·exact hr
 have u:opN z2d [(nmV 1),(nmV 4)] (V ns R os m x xs ws (some (.imm (qT ws))) (some (.own (([0]++rs).map .int))) t8 t9 t10)=some (.tuple (([0]++rs).map .int)):=by
  rw[<- eqr]
  exact z0o (z3u rfl rfl) (zcn d hx)
 have fin:op2 oEq (opN z2d [(nmV 1),(nmV 4)]) (opN z2n [(nm 7)]) (V ns R os m x xs ws (some (.imm (qT ws))) (some (.own (([0]++rs).map .int))) t8 t9 t10)=some (.bool true):=z0f u (z0o (z38 (x:=.list (([0]++rs).map .int)) rfl) rfl) (zhv (zht _))
 unfold rtn
 rw[fin]
 rfl
end K20
end
section
namespace K20
open PySem PySem.Spec PyProof.Rows L2 D Ho Wo Qo
theorem all_mk {l:PySem.W.OpenLaw} {w:World} {K:y00} {h:Heap} {mg:Str->Option Value} {fa f1 f2 f3 f4 f5 f6 f7 f8 f9 f10 f11 f12 f13 cL12 cL XD xz xw xd xt:Addr} {od1 an1 od2 an2 od3 an3 od4 an4 od5 an5 od6 an6 od7 an7 od8 an8 od9 an9 od10 an10 od11 an11 od12 an12 od13 an13:Option Addr} {sl1 sl2 sl3 sl4 sl5 sl6 sl7 sl8 sl9 sl10 sl11 sl12 sl13:Array (Option Value)} {oc1 kV1 dc1 pm1 cd1 ct1 oc2 kV2 dc2 pm2 cd2 ct2 oc3 kV3 dc3 pm3 cd3 ct3 oc4 kV4 dc4 pm4 cd4 ct4 oc5 kV5 dc5 pm5 cd5 ct5 oc6 kV6 dc6 pm6 cd6 ct6 oc7 kV7 dc7 pm7 cd7 ct7 oc8 kV8 dc8 pm8 cd8 ct8 oc9 kV9 dc9 pm9 cd9 ct9 oc10 kV10 dc10 pm10 cd10 ct10 oc11 kV11 dc11 pm11 cd11 ct11 oc12 kV12 dc12 pm12 ct12 oc13 kV13 dc13 pm13 ct13:Value} {t_OUTSIDE:Tok} (X:K.In h) (G:h.Ns y0n mg) (hfa:mg "law"=some (.ref fa))
  (a1:y0s K y0n "_law_drawn"=some (some (.ref f1)))
  (l1:K.lookup f1=some ⟨oc1,od1,.func (y0i "_law_drawn" "_law_drawn" (z0l z23) (z08 z23) (z00 z23) .none kV1 dc1 pm1 an1 cd1 ct1),sl1⟩)
  (c1:y0f K cd1 "_law_drawn"=true)
  (k1:y08 K (.ref f1)=true)
  (a2:y0s K y0n "_law_house"=some (some (.ref f2)))
  (l2:K.lookup f2=some ⟨oc2,od2,.func (y0i "_law_house" "_law_house" (z0l z22) (z08 z22) (z00 z22) .none kV2 dc2 pm2 an2 cd2 ct2),sl2⟩)
  (c2:y0f K cd2 "_law_house"=true)
  (k2:y08 K (.ref f2)=true)
  (a3:y0s K y0n "_law_cell_at"=some (some (.ref f3)))
  (l3:K.lookup f3=some ⟨oc3,od3,.func (y0i "_law_cell_at" "_law_cell_at" (z0l z18) (z08 z18) (z00 z18) .none kV3 dc3 pm3 an3 cd3 ct3),sl3⟩)
  (c3:y0f K cd3 "_law_cell_at"=true)
  (k3:y08 K (.ref f3)=true)
  (a4:y0s K y0n "_law_mixed"=some (some (.ref f4)))
  (l4:K.lookup f4=some ⟨oc4,od4,.func (y0i "_law_mixed" "_law_mixed" (z0l z21) (z08 z21) (z00 z21) .none kV4 dc4 pm4 an4 cd4 ct4),sl4⟩)
  (c4:y0f K cd4 "_law_mixed"=true)
  (k4:y08 K (.ref f4)=true)
  (a5:y0s K y0n "_law_ways"=some (some (.ref f5)))
  (l5:K.lookup f5=some ⟨oc5,od5,.func (y0i "_law_ways" "_law_ways" (z0l z2t) (z08 z2t) (z00 z2t) .none kV5 dc5 pm5 an5 cd5 ct5),sl5⟩)
  (c5:y0f K cd5 "_law_ways"=true)
  (k5:y08 K (.ref f5)=true)
  (a6:y0s K y0n "beyond"=some (some (.ref f6)))
  (l6:K.lookup f6=some ⟨oc6,od6,.func (y0i "beyond" "beyond" (z0l z2u) (z08 z2u) (z00 z2u) .none kV6 dc6 pm6 an6 cd6 ct6),sl6⟩)
  (c6:y0f K cd6 "beyond"=true)
  (k6:y08 K (.ref f6)=true)
  (a7:y0s K y0n "ways_on"=some (some (.ref f7)))
  (l7:K.lookup f7=some ⟨oc7,od7,.func (y0i "ways_on" "ways_on" (z0l z1c) (z08 z1c) (z00 z1c) .none kV7 dc7 pm7 an7 cd7 ct7),sl7⟩)
  (c7:y0f K cd7 "ways_on"=true)
  (k7:y08 K (.ref f7)=true)
  (a8:y0s K y0n "ways"=some (some (.ref f8)))
  (l8:K.lookup f8=some ⟨oc8,od8,.func (y0i "ways" "ways" (z0l z5k) (z08 z5k) (z00 z5k) .none kV8 dc8 pm8 an8 cd8 ct8),sl8⟩)
  (c8:y0f K cd8 "ways"=true)
  (k8:y08 K (.ref f8)=true)
  (a9:y0s K y0n "_law_told"=some (some (.ref f9)))
  (l9:K.lookup f9=some ⟨oc9,od9,.func (y0i "_law_told" "_law_told" (z0l z11) (z08 z11) (z00 z11) .none kV9 dc9 pm9 an9 cd9 ct9),sl9⟩)
  (c9:y0f K cd9 "_law_told"=true)
  (k9:y08 K (.ref f9)=true)
  (a10:y0s K y0n "unseen"=some (some (.ref f10)))
  (l10:K.lookup f10=some ⟨oc10,od10,.func (y0i "unseen" "unseen" (z0l z29) (z08 z29) (z00 z29) .none kV10 dc10 pm10 an10 cd10 ct10),sl10⟩)
  (c10:y0f K cd10 "unseen"=true)
  (k10:y08 K (.ref f10)=true)
  (a11:y0s K y0n "ways_at_all"=some (some (.ref f11)))
  (l11:K.lookup f11=some ⟨oc11,od11,.func (y0i "ways_at_all" "ways_at_all" (z0l z0n) (z08 z0n) (z00 z0n) .none kV11 dc11 pm11 an11 cd11 ct11),sl11⟩)
  (c11:y0f K cd11 "ways_at_all"=true)
  (k11:y08 K (.ref f11)=true)
  (a12:y0s K y0n "quickest"=some (some (.ref f12)))
  (l12:K.lookup f12=some ⟨oc12,od12,.func (y0i "quickest" "quickest" (z0l z0v) (z08 z0v) (z00 z0v) .none kV12 dc12 pm12 an12 (.ref cL12) ct12),sl12⟩)
  (c12:y0f K (.ref cL12) "quickest"=true)
  (k12:y08 K (.ref f12)=true)
  (a13:y0s K y0n "law"=some (some (.ref f13)))
  (l13:K.lookup f13=some ⟨oc13,od13,.func (y0i "law" "law" (z0l z3r) (z08 z3r) (z00 z3r) .none kV13 dc13 pm13 an13 (.ref cL) ct13),sl13⟩)
  (c13:y0f K (.ref cL) "law"=true)
  (k13:y08 K (.ref f13)=true)
  (z_range:y0s K y0n "range"=some none)
  (z_min:y0s K y0n "min"=some none)
  (z_max:y0s K y0n "max"=some none)
  (z_len:y0s K y0n "len"=some none)
  (z_sorted:y0s K y0n "sorted"=some none)
  (z_enumerate:y0s K y0n "enumerate"=some none)
  (z_tuple:y0s K y0n "tuple"=some none)
  (z_int:y0s K y0n "int"=some none)
  (g_OUTSIDE:y0s K y0n "OUTSIDE"=some (some (.int 0 t_OUTSIDE)))
  (hCH12:PySem.W.codeHdIn K cL12 108=true)
  (hCH:PySem.W.codeHdIn K cL 157=true)
  (nDoorError:y0s K y0n "DoorError"=some (some (.ref XD)))
  (nNoZone:y0s K y0n "NoZone"=some (some (.ref xz)))
  (nNoWay:y0s K y0n "NoWay"=some (some (.ref xw)))
  (nNoDeed:y0s K y0n "NoDeed"=some (some (.ref xd)))
  (nNoText:y0s K y0n "NoText"=some (some (.ref xt)))
  (z_isinstance:y0s K y0n "isinstance"=some none)
  (z_ValueError:y0s K y0n "ValueError"=some none)
  (hDo:zg7 K XD=true)
  (hXw:zhq K XD xz xw xd xt xw false true false false=true) :
  ∃fd:y0b,(∀(s:y04) (v:Value),BindsTo s fd ⟨[v],[]⟩ [("_law_script",v)])/\∀base:Heap,K.In base->base.Ns y0n mg->BM mg base->FnOk l.prog w K mg base CX0 29 fa fd ["_law_script"] (@spT (tOf [(157,(("law":Str)++".<locals>.")++"<lambda>"),(108,(("quickest":Str)++".<locals>.")++"<lambda>")]) K 1 zd5):=by
 have e:=hfa.symm.trans (y11 X G a13)
 cases e
 refine⟨y0i "law" "law" (z0l z3r) (z08 z3r) (z00 z3r) .none kV13 dc13 pm13 an13 (.ref cL) ct13,fun s v=>.of_eq rfl,fun base _ _ hbm=>?_⟩
 letI tt:Tbl:=⟨[(157,(("law":Str)++".<locals>.")++"<lambda>"),(108,(("quickest":Str)++".<locals>.")++"<lambda>")],fun c=>match c with  | _=>[],fun c=>match c with  | _=>none⟩
 replace z_range:=y1a X G z_range
 replace z_min:=y1a X G z_min
 replace z_max:=y1a X G z_max
 replace z_len:=y1a X G z_len
 replace z_sorted:=y1a X G z_sorted
 replace z_enumerate:=y1a X G z_enumerate
 replace z_tuple:=y1a X G z_tuple
 replace z_int:=y1a X G z_int
 replace z_isinstance:=y1a X G z_isinstance
 replace z_ValueError:=y1a X G z_ValueError
 have Nm:Names K mg XD xz xw xd xt:=⟨y11 X G nDoorError,y11 X G nNoZone,y11 X G nNoWay,y11 X G nNoDeed,y11 X G nNoText,z_isinstance,z_ValueError,hDo⟩
 have Rw:=zoe hXw
 replace g_OUTSIDE:=y11 X G g_OUTSIDE
 have F1:=z2c (st:=z23) l1 c1 k1
 have C_l_drawn:=z6f (P:=l.prog) (w:=w) (base:=base) (k:=0) F1 (y11 X G a1)
 have F2:=z2c (st:=z22) l2 c2 k2
 have C_l_house:=z6e (P:=l.prog) (w:=w) (base:=base) (k:=1) F2 (y11 X G a2) z_range (C_l_drawn.mono (by decide)) z_min z_max
 have F3:=z2c (st:=z18) l3 c3 k3
 have C_l_cell_at:=z48 (P:=l.prog) (w:=w) (base:=base) (k:=0) F3 (y11 X G a3) z_len
 have F4:=z2c (st:=z21) l4 c4 k4
 have C_l_mixed:=z4h (P:=l.prog) (w:=w) (base:=base) (k:=1) F4 (y11 X G a4) (C_l_cell_at.mono (by decide))
 have F5:=z2c (st:=z2t) l5 c5 k5
 have C_l_ways:=z5b (P:=l.prog) (w:=w) (base:=base) (k:=0) F5 (y11 X G a5) z_sorted z_enumerate
 have F6:=z2c (st:=z2u) l6 c6 k6
 have C_beyond:=z2g (P:=l.prog) (w:=w) (base:=base) (k:=0) F6 (y11 X G a6)
 have F7:=z2c (st:=z1c) l7 c7 k7
 have C_ways_on:=z2p (P:=l.prog) (w:=w) (base:=base) (k:=1) F7 (y11 X G a7) z_enumerate (C_beyond.mono (by decide)) 20
 have F8:=z2c (st:=z5k) l8 c8 k8
 have C_ways:=z6d (P:=l.prog) (w:=w) (base:=base) (k:=21) F8 (y11 X G a8) z_tuple (C_ways_on.mono (by decide)) g_OUTSIDE
 have F9:=z2c (st:=z11) l9 c9 k9
 have F10:=z2c (st:=z29) l10 c10 k10
 have C_unseen:=z86 (P:=l.prog) (w:=w) (base:=base) (k:=1) F10 (y11 X G a10) z_tuple z_sorted (C_beyond.mono (by decide)) g_OUTSIDE
 have F11:=z2c (st:=z0n) l11 c11 k11
 have C_ways_at_all:=z1x (P:=l.prog) (w:=w) (base:=base) (k:=22) F11 (y11 X G a11) (C_ways.mono (by decide))
 have Z_ways_at_all:=z1l (P:=l.prog) (w:=w) (base:=base) (k:=22) F11 (y11 X G a11) Nm Rw (C_ways.mono (by decide))
 have F12:=z2c (st:=z0v) l12 c12 k12
 have C_quickest:=z4t (P:=l.prog) (w:=w) (base:=base) (k:=23) l12 c12 k12 (y11 X G a12) hCH12 hbm (by show _∈[(157,(("law":Str)++".<locals>.")++"<lambda>"),(108,(("quickest":Str)++".<locals>.")++"<lambda>")];simp) (fun p hp=>by
  have hp:p∈[(157,(("law":Str)++".<locals>.")++"<lambda>"),(108,(("quickest":Str)++".<locals>.")++"<lambda>")]:=hp
  simp only[y09,List.not_mem_nil,or_false] at hp
  rcases hp with rfl|rfl <;> first|(intro z;exact absurd z (by decide))|(intro _;rfl)) z_min (C_ways_at_all.mono (by decide)) z_len
 have Z_quickest:=z3z (P:=l.prog) (w:=w) (base:=base) (k:=25) F12 (y11 X G a12) Nm Rw z_min (C_ways_at_all.mono (by decide)) z_len (Z_ways_at_all.mono (by decide))
 have F13:=z2c (st:=z3r) l13 c13 k13
 exact zl8 rfl (zot (k:=26) l13 c13 hCH hbm (by show _∈[(157,(("law":Str)++".<locals>.")++"<lambda>"),(108,(("quickest":Str)++".<locals>.")++"<lambda>")];simp) (fun p hp=>by
  have hp:p∈[(157,(("law":Str)++".<locals>.")++"<lambda>"),(108,(("quickest":Str)++".<locals>.")++"<lambda>")]:=hp
  simp only[y09,List.not_mem_nil,or_false] at hp
  rcases hp with rfl|rfl <;> first|(intro z;exact absurd z (by decide))|(intro _;rfl)) Nm Rw (Z_quickest.mono (by decide)) (Z_ways_at_all.mono (by decide)) (C_l_house.mono (by decide)) (C_l_mixed.mono (by decide)) (C_l_ways.mono (by decide)) z_range (C_ways.mono (by decide)) z_tuple z_int F9 (y11 X G a9) (C_unseen.mono (by decide)) (C_quickest.mono (by decide)) z_sorted z_len)
theorem walk {l:PySem.W.OpenLaw} {q:y0q} {loose:List Str} {XP:(Str->Option Value)->Heap->Prop} {YP:World->Heap->Prop} {d:DefRec} {K:Params->y00} (hn:l.most=some 63) (hdf:d.params.defaults=[])
  (hL:∀w:World,noL (K w.params)=true) (hY:∀(w:World) (h:Heap),YP w h->(K w.params).In h) (hT:∀(w:World) (h:Heap),YP w h->∀b∈[108,157],h.get? b=some (PySem.W.tabObj #[]))
  (hK0:∀w:World,(([108,157]:List Nat).all fun b=>((K w.params).lookup b).isNone)=true) (hcd:∀w:World,(([108,157]:List Nat).all fun b=>(K w.params).any fun p=>PySem.W.codeHdIn (K w.params) p.1 b)=true)
  (F:∀(w:World) (mg:Str->Option Value) (fa:Addr) (h:Heap),(K w.params).In h->h.Ns y0n mg->mg d.name=some (.ref fa) ->
   ∃fd:y0b,(∀(s:y04) (u:Value),BindsTo s fd ⟨[u],[]⟩ [("_law_script",u)])/\∀base:Heap,(K w.params).In base->base.Ns y0n mg->BM mg base->FnOk l.prog w (K w.params) mg base CX0 29 fa fd ["_law_script"] (@spT (tOf [(157,(("law":Str)++".<locals>.")++"<lambda>"),(108,(("quickest":Str)++".<locals>.")++"<lambda>")]) (K w.params) 1 zd5)) :
  PySem.W.WalkO q loose XP YP l.row.toRowW d [] (fun f vs=>PySem.call f vs) :=
 zgu (n:=63) (k:=29) (x:="_law_script") (ts:=[108,157]) (CX:=fun _=>CX0) (sp:=fun w=>@spT (tOf [(157,(("law":Str)++".<locals>.")++"<lambda>"),(108,(("quickest":Str)++".<locals>.")++"<lambda>")]) (K w.params) 1 zd5) hn (by decide) hdf ⟨rfl,by decide,by decide⟩ hY hT (fun w b hb=>Option.isNone_iff_eq_none.mp (List.all_eq_true.mp (hK0 w) b hb)) (fun w b hb=>by
  obtain⟨p,_,hp⟩:=List.any_eq_true.mp (List.all_eq_true.mp (hcd w) b hb)
  exact⟨p.1,hp⟩) F (fun w H a ns hl hO hS=>zds (t:=tOf [(157,(("law":Str)++".<locals>.")++"<lambda>"),(108,(("quickest":Str)++".<locals>.")++"<lambda>")]) (fun p hp=>by
  have hp:p∈[(157,(("law":Str)++".<locals>.")++"<lambda>"),(108,(("quickest":Str)++".<locals>.")++"<lambda>")]:=hp
  simp only[y09,List.not_mem_nil,or_false] at hp
  rcases hp with rfl|rfl <;> simp) hO (hL w) (zi9 ns hl) hS) fun _ _ _ _ _ z=>z
end K20
open PySem PySem.W PyProof.Rows
set_option maxRecDepth 100000 in
set_option maxHeartbeats 0 in
theorem PySem.Challenge.cw_doorwatch_k20_ways_of_houses_holds : PySem.Challenge.rw_doorwatch_k20_ways_of_houses.Holds := by
 w_on;o_law;k_head;(case hw=>w_witness2)
 k_fill
 refine K20.walk (l:=PySem.Challenge.rw_doorwatch_k20_ways_of_houses) rfl rfl ?L (fun w h Y=>PySem.W.km_in_of Y) (fun w h Y=>PySem.W.km_tabs_of Y) ?K0 ?CD ?F
 case L =>
  intro w
  first|rfl|(with_unfolding_all rfl)|kernel_rfl
 case K0 =>
  intro w
  first|rfl|(with_unfolding_all rfl)|kernel_rfl
 case CD =>
  intro w
  first|rfl|(with_unfolding_all rfl)|kernel_rfl
 case F =>
  intro w mg fa h KX G hmg
  refine' K20.all_mk KX G hmg ?a1 ?l1 ?c1 ?k1 ?a2 ?l2 ?c2 ?k2 ?a3 ?l3 ?c3 ?k3 ?a4 ?l4 ?c4 ?k4 ?a5 ?l5 ?c5 ?k5 ?a6 ?l6 ?c6 ?k6 ?a7 ?l7 ?c7 ?k7 ?a8 ?l8 ?c8 ?k8 ?a9 ?l9 ?c9 ?k9 ?a10 ?l10 ?c10 ?k10 ?a11 ?l11 ?c11 ?k11 ?a12 ?l12 ?c12 ?k12 ?a13 ?l13 ?c13 ?k13 ?z_range ?z_min ?z_max ?z_len ?z_sorted ?z_enumerate ?z_tuple ?z_int ?g_OUTSIDE ?hCH12 ?hCH ?nDoorError ?nNoZone ?nNoWay ?nNoDeed ?nNoText ?z_isinstance ?z_ValueError ?hDo ?hXw
  (case a1=>k_is)
  (case l1=>k_is)
  (case c1=>k_is)
  (case k1=>k_is)
  (case a2=>k_is)
  (case l2=>k_is)
  (case c2=>k_is)
  (case k2=>k_is)
  (case a3=>k_is)
  (case l3=>k_is)
  (case c3=>k_is)
  (case k3=>k_is)
  (case a4=>k_is)
  (case l4=>k_is)
  (case c4=>k_is)
  (case k4=>k_is)
  (case a5=>k_is)
  (case l5=>k_is)
  (case c5=>k_is)
  (case k5=>k_is)
  (case a6=>k_is)
  (case l6=>k_is)
  (case c6=>k_is)
  (case k6=>k_is)
  (case a7=>k_is)
  (case l7=>k_is)
  (case c7=>k_is)
  (case k7=>k_is)
  (case a8=>k_is)
  (case l8=>k_is)
  (case c8=>k_is)
  (case k8=>k_is)
  (case a9=>k_is)
  (case l9=>k_is)
  (case c9=>k_is)
  (case k9=>k_is)
  (case a10=>k_is)
  (case l10=>k_is)
  (case c10=>k_is)
  (case k10=>k_is)
  (case a11=>k_is)
  (case l11=>k_is)
  (case c11=>k_is)
  (case k11=>k_is)
  (case a12=>k_is)
  (case l12=>k_is)
  (case c12=>k_is)
  (case k12=>k_is)
  (case a13=>k_is)
  (case l13=>k_is)
  (case c13=>k_is)
  (case k13=>k_is)
  (case z_range=>k_is)
  (case z_min=>k_is)
  (case z_max=>k_is)
  (case z_len=>k_is)
  (case z_sorted=>k_is)
  (case z_enumerate=>k_is)
  (case z_tuple=>k_is)
  (case z_int=>k_is)
  (case g_OUTSIDE=>k_is)
  (case hCH12=>first|kernel_rfl|rfl|(with_unfolding_all rfl))
  (case hCH=>first|kernel_rfl|rfl|(with_unfolding_all rfl))
  (case nDoorError=>k_is)
  (case nNoZone=>k_is)
  (case nNoWay=>k_is)
  (case nNoDeed=>k_is)
  (case nNoText=>k_is)
  (case z_isinstance=>k_is)
  (case z_ValueError=>k_is)
  (case hDo=>first|kernel_rfl|rfl|(with_unfolding_all rfl))
  (case hXw=>first|kernel_rfl|rfl|(with_unfolding_all rfl))
end
end
