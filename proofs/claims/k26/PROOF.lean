import PyProof.Rows.All
import Wide.All
import OpenK.AllK
import Wide.FinOn
import Lean
import PyProof.EqAt
import PyProof.EqKinds
import PyProof.TupleCall
import PyProof.P3Statements
import KE.KSortTup
import PyProof.AttrMissHeap
import PyProof.ZipIter
import PyProof.Draws
import PyProof.ListMulRoad
import Wide.Seal
import KE.KLam
import KE.KNest
import KE.KNestM
import KE.KIsAll
import PyProof.ExcArgs
import PyProof.ReprStr
import PyProof.FString
import PyProof.FitsInt
import KE.KMinKey
import PySem.Challenge.RW_doorwatch_k26_whole_rooms_by_other_numbe
set_option Elab.async false
set_option linter.all false
set_option maxRecDepth 100000
set_option maxHeartbeats 0
open PySem.W renaming Frag → y00, keepIn → y08, codeIn → y0f, fnOf → y0i, nsIn → y0s, mg_of → y11, mg_none_of → y1b
open Option renaming bind_eq_some_iff → y01, map_eq_some_iff → y07, bind_some → y0p, map_some → y1m
open PySem renaming wpAny_bind → y02, Shared → y04, wpAny_pure → y06, starEach → y0a, FuncData → y0b, sizeLine → y0j, mainGlobals → y0n, Program → y0q, wpAny → y0u, wpAny_mono → y1c, mem_of_lookup → y25
open PySem.Heap renaming get?_push_of_some → y03, lt_size → y0c, get?_push_size → y0l
open List renaming mem_cons_of_mem → y05, mem_cons → y09, map_cons → y0d, mem_cons_self → y0e, replicate → y0g, size_toArray → y0h, getElem?_eq_some_iff → y0k, mem_map → y0m, nodup_cons → y0r, getElem?_eq_getElem → y0v, length_cons → y0w, mem_singleton → y0z, mem_append → y10, length_map → y13, getElem?_map → y14, pairwise_cons → y17, map_nil → y18, mem_append_right → y19, lookup_cons → y1e, getElem?_append_right → y1i, nodup_append → y1j, getElem?_append_left → y1k, find?_cons → y1n, mem_of_getElem? → y1q, append_nil → y1u, length_append → y1x, length_filter_le → y22, not_mem_nil → y24, getElem?_cons_zero → y26, getElem?_cons_succ → y27, length_nil → y29, map_map → y2c
open Nat renaming le_refl → y0o, lt_of_lt_of_le → y0x, ne_of_lt → y0y, ne_of_gt → y15, le_trans → y1l, zero_le → y1z
open PySem.Builtin.SmallTypes renaming nextOf → y0t
open PySem.Builtin.Tuple renaming tupleExact → y12
open Function renaming comp_def → y16
open Bool renaming and_eq_true → y1a, false_eq_true → y1p, false_ne_true → y1y
open PySem.PyData renaming depthAll → y1d, canLayAll0 → y1f, str → y1s, eqv → y1w, depth → y20
open PyProof.Rows renaming slot_tuple_getitem → y1g, callWith_type1 → y1o
open PySem.Builtin.Slice renaming slicePlaces → y1h
open PySem.Around renaming under_plainId → y1r
open False renaming elim → y1t
open Array renaming length_toList → y1v
open PySem.PassesOwn renaming never → y21
open PySem.F renaming slot_tuple_iterator_next → y23
open Option.some renaming inj → y28
open Int renaming emod_nonneg → y2a, emod_lt_of_pos → y2b
namespace PySem.W.Fast
def tw14348951927685724474:=0
def tw6057570978084632217:=0
def tw12158017277576211566:=0
def tw17016182934500153217:=0
def tw7731388895785203218:=0
def tw16485938616397199124:=0
def tw10595828886571768685:=0
def tw2807120174728463698:=0
def tw15848817470192498014:=0
def tw12037467519569432781:=0
def tw6620210548982005039:=0
def tw5101895417934027514:=0
def tw6932391949029581162:=0
def tw10841998136294485599:=0
def tw14265048094601646243:=0
def tw11466531701498588782:=0
def tw10029645834681049340:=0
def tw7181794601713532475:=0
def tw16167320218623223738:=0
def tw7057184731243763868:=0
def tw4869913714555522894:=0
def tw16309699036848888990:=0
def tw10349249391556053259:=0
def tw10235646241285056838:=0
def tw3589666581924103259:=0
def tw4078505322044752:=0
def tw8517336062335113428:=0
def tw4302609370852857336:=0
def tw6792270520619441084:=0
def tw11389842031844024464:=0
def tw7686157723052700248:=0
end PySem.W.Fast
noncomputable section
section
namespace L2
open PySem PySem.Spec PyProof.Rows
abbrev Key:=Sum Int Str
def zaq:Key->Value->Bool
 | .inl k,v=>Value.isInt k v
 | .inr x,v=>Value.isStrOf x v
def keyH (w:World):Key->Int
 | .inl k=>hashInt k
 | .inr x=>hashStr w x
theorem z0l:∀{k:Key} {v:Value},zaq k v=true->(∃i t,k=Sum.inl i/\v=Value.int i t)\/(∃x t,k=Sum.inr x/\v=Value.str x t)
 | .inl i,v,h=>by
  obtain⟨t,e⟩:=Value.isInt_shape (k:=i) (v:=v) h
  exact .inl ⟨i,t,rfl,e⟩
 | .inr x,v,h=>by
  obtain⟨t,e⟩:=Value.isStrOf_shape (x:=x) (v:=v) h
  exact .inr ⟨x,t,rfl,e⟩
theorem zev (i:Int) (t:Tok):zaq (.inl i) (.int i t)=true:=by simp[zaq,Value.isInt]
theorem zeu (x:Str) (t:Tok):zaq (.inr x) (.str x t)=true:=by simp[zaq,Value.isStrOf]
theorem zm2 (a b:Int):decide ((Sum.inl a:Key)=Sum.inl b)=(a == b):=by
 by_cases e:a=b
 ·subst e;simp
 ·have h:¬(Sum.inl a:Key)=Sum.inl b:=fun q=>e (Sum.inl.inj q)
  rw[decide_eq_false h]
  exact (beq_eq_false_iff_ne.mpr e).symm
theorem zlz (a b:Str):decide ((Sum.inr a:Key)=Sum.inr b)=decide (a=b):=by
 by_cases e:a=b
 ·subst e;simp
 ·have h:¬(Sum.inr a:Key)=Sum.inr b:=fun q=>e (Sum.inr.inj q)
  rw[decide_eq_false h,decide_eq_false e]
theorem zm1 (a:Int) (b:Str):decide ((Sum.inl a:Key)=Sum.inr b)=false:=decide_eq_false (fun q=>nomatch q)
theorem zm0 (a:Str) (b:Int):decide ((Sum.inr a:Key)=Sum.inl b)=false:=decide_eq_false (fun q=>nomatch q)
noncomputable def z0j (prog:y0q) (w:World):PySem.KeyKind prog w Key where
 is:=zaq
 hash:=keyH w
 inj:=fun v a b ha hb=>by
  rcases z0l ha with ⟨i,t,rfl,rfl⟩|⟨x,t,rfl,rfl⟩
  ·rcases z0l hb with ⟨j,u,rfl,e⟩|⟨y,u,rfl,e⟩
   ·injection e with e1 _;rw[e1]
   ·exact nomatch e
  ·rcases z0l hb with ⟨j,u,rfl,e⟩|⟨y,u,rfl,e⟩
   ·exact nomatch e
   ·injection e with e1 _;rw[e1]
 byValue:=fun k v h=>by
  rcases z0l h with ⟨i,t,rfl,rfl⟩|⟨x,t,rfl,rfl⟩ <;> rfl
 pyHash:=fun hv h=>by
  rcases z0l hv with ⟨i,t,rfl,rfl⟩|⟨x,t,rfl,rfl⟩
  ·exact wpAny_pyHash_int h
  ·exact wpAny_pyHash_str h
 eqBool:=fun hu hv h=>by
  rcases z0l hu with ⟨i,t,rfl,rfl⟩|⟨x,t,rfl,rfl⟩
  ·rcases z0l hv with ⟨j,u,rfl,rfl⟩|⟨y,u,rfl,rfl⟩
   ·rw[zm2] at h;exact wpAny_eqBool_int h
   ·rw[zm1] at h;exact SeqAt.EqAt.int_str i t y u _ _ _ _ h
  ·rcases z0l hv with ⟨j,u,rfl,rfl⟩|⟨y,u,rfl,rfl⟩
   ·rw[zm0] at h;exact SeqAt.EqAt.str_int x t j u _ _ _ _ h
   ·rw[zlz] at h;exact wpAny_eqBool_str h
 «strs»:=fun k x t v h=>by
  rcases z0l h with ⟨i,u,rfl,e⟩|⟨y,u,rfl,e⟩
  ·exact nomatch e
  ·injection e with e1 _
   subst e1
   cases v <;> rfl
theorem z7e (prog:y0q) (w:World) (k:Key) (v:Value):(z0j prog w).is k v=zaq k v:=rfl
theorem z5z (prog:y0q) (w:World) (i:Int) (t:Tok):(z0j prog w).is (.inl i) (.int i t)=true:=zev i t
theorem z5y (prog:y0q) (w:World) (x:Str) (t:Tok):(z0j prog w).is (.inr x) (.str x t)=true:=zeu x t
end L2
namespace L2
open PySem PySem.Spec PyProof.Rows
inductive V where
 | non|bl (b:Bool)|int (i:Int)|str (x:Str)|byt (b:Array UInt8)|flt (b:UInt64)|ref (a:Addr)|ty (n:String)
 deriving DecidableEq
noncomputable def RelV:V->Value->Prop
 | .non,u=>u=Value.none
 | .bl b,u=>u=Value.bool b
 | .int i,u=>∃t,u=Value.int i t
 | .str x,u=>∃t,u=Value.str x t
 | .byt b,u=>∃t,u=Value.bytes b t
 | .flt b,u=>∃t,u=Value.float b t
 | .ref a,u=>u=Value.ref a
 | .ty n,u=>u=Value.type n
abbrev Vals:List V->List Value->Prop:=Paired RelV
theorem Vals.length {xs:List V} {us:List Value} (r:Vals xs us):xs.length=us.length:=Paired.length r
theorem Vals.get:∀{xs:List V} {us:List Value} {i:Nat} {x:V},Vals xs us->xs[i]?=some x->∃u,us[i]?=some u/\RelV x u
 | _,_,_,_,.nil,e=>by simp at e
 | _,_,0,_,.cons r _,e=>by simp at e;subst e;exact⟨_,rfl,r⟩
 | _,_,i+1,x,.cons _ t,e=>by
  obtain⟨u,h1,h2⟩:=Vals.get (i:=i) (x:=x) t (by simpa using e)
  exact⟨u,by simpa using h1,h2⟩
theorem Vals.append:∀{xs ys:List V} {us ws:List Value},Vals xs us->Vals ys ws->Vals (xs++ys) (us++ws)
 | _,_,_,_,.nil,s=>s
 | _,_,_,_,.cons r t,s=>.cons r (Vals.append t s)
theorem Vals.take:∀{xs:List V} {us:List Value} (n:Nat),Vals xs us->Vals (xs.take n) (us.take n)
 | _,_,0,_=>.nil
 | _,_,_+1,.nil=>.nil
 | _,_,n+1,.cons r t=>.cons r (Vals.take n t)
theorem Vals.drop:∀{xs:List V} {us:List Value} (n:Nat),Vals xs us->Vals (xs.drop n) (us.drop n)
 | _,_,0,r=>r
 | _,_,_+1,.nil=>.nil
 | _,_,n+1,.cons _ t=>Vals.drop n t
def RelO:Option V->Option Value->Prop
 | some v,some u=>RelV v u
 | none,none=>True
 | _,_=>False
def KV {κ:Type}:List (κ×V)->List (κ×Value)->Prop:=Paired fun (p:κ×V) (q:κ×Value)=>p.1=q.1/\RelV p.2 q.2
def kV:Key->V
 | .inl i=>.int i
 | .inr x=>.str x
inductive HO where
 | lst (xs:List V)
 | tup (xs:List V)
 | dK (kvs:List (Key×V))|dT (kvs:List (List Key×V))
 | set (S:Int->Bool) (n:Nat)
 | ins (C dx:Addr) (fs:List (Str×V))
 | own (x:Addr)
 | xd (fs:List (Str×V))
 | met (f x:Addr)
 | rng (lo hi:Int)
 | frz (o:Obj) (u:HO)
 | tbl (ps:Array Value)
 | ext (φ:Heap->Prop)
abbrev Hp:=Addr->Option HO
def upd (H:Hp) (a:Addr) (o:HO):Hp:=fun b=>if b=a then some o else H b
theorem z03 {H:Hp} {a:Addr} {o:HO}:upd H a o a=some o:=by unfold upd;rw[if_pos rfl]
theorem z02 {H:Hp} {a b:Addr} {o:HO} (h:b≠a):upd H a o b=H b:=by unfold upd;rw[if_neg h]
theorem znl {H:Hp} {a b:Addr} {o u:HO} (h:H a=some o) (h':H b=some u) (d:o≠u):a≠b:=by
 intro e;subst e;rw[h] at h';exact d (y28 h')
theorem z0a {H:Hp} {a b:Addr} {o:HO} (h:H a=some o) (h':H b=none):a≠b:=by
 intro e;subst e;rw[h] at h';cases h'
section
variable (P:y0q) (w:World)
noncomputable def z2c (H:Hp) (h:Heap) (a:Addr):HO->Prop
 | .lst xs=>xs.length<=y0j/\∃(its:List Value) (n:Nat),Vals xs its/\h.get? a=some { cls:=.type "list",data:=.seq its.toArray n }
 | .tup xs=>xs.length<=y0j/\∃its:List Value,Vals xs its/\IsTup h a its.toArray
 | .dK kvs=>kvs.length<=y0j/\(a == sysModules)=false/\∃vs,KV kvs vs/\h.DictOf (z0j P w) a vs
 | .dT kvs=>kvs.length<=y0j/\(a == sysModules)=false/\∃xs:List (List Key×Addr×Value),
   Paired (fun (p:List Key×V) (q:List Key×Addr×Value)=>p.1=q.1/\H q.2.1=some (.tup (p.1.map kV))/\RelV p.2 q.2.2) kvs xs /\
   ∃o es ep,h.get? a=some o/\o.ExactDict/\o.data=.dict es ep/\es.toList=xs.map (entryOfKey (tupleKind (z0j P w)))/\(xs.map (·.1)).Nodup
 | .set S n=>h.SetOf (intKind P w) a S n
 | .ins C dx fs=>H dx=some (.own a)/\fs.length<=1000/\dx≠a/\h.get? a=some (PySem.W.instObj C dx) /\
   ∃mA,h.Ns1 dx mA/\(∀f,RelO (fs.lookup f) (mA f))/\PySem.Within mA (fs.map (·.1))
 | .own _=>∃o,h.get? a=some o
 | .xd fs=>∃mA,h.Ns1 a mA/\∀f,RelO (fs.lookup f) (mA f)
 | .rng lo hi=>∃t u v,h.get? a=some { cls:=.type "range",data:=.fields #[.int lo t,.int hi u,.int 1 v] }
 | .frz o u=>h.get? a=some o/\z2c H h a u
 | .tbl ps=>h.get? a=some { cls:=.none,data:=.fields ps }
 | .met f x=>h.get? a=some (PySem.W.methodObj (.ref f) (.ref x))
 | .ext φ=>φ h/\(∃o,h.get? a=some o)/\∀h1 h2:Heap,φ h1->(∀o,h1.get? a=some o->h2.get? a=some o)->φ h2
def HOk (H:Hp) (h:Heap):Prop:=∀a o,H a=some o->z2c P w H h a o
end
section
variable {P:y0q} {w:World} {H H':Hp} {h h':Heap} {a:Addr} {o:HO}
theorem z2c.lt (x:z2c P w H h a o):a<h.objs.size:=by
 cases o with
 | lst xs=>obtain⟨_,_,_,_,e⟩:=x;exact y0c e
 | tup xs=>obtain⟨_,_,_,p⟩:=x;exact p.lt
 | dK kvs=>obtain⟨_,_,_,_,o,_,_,e,_⟩:=x;exact y0c e
 | dT kvs=>obtain⟨_,_,_,_,o,_,_,e,_⟩:=x;exact y0c e
 | set S n=>obtain⟨o,_,_,_,e,_⟩:=x;exact y0c e
 | ins C dx fs=>obtain⟨_,_,_,e,_⟩:=x;exact y0c e
 | own y=>obtain⟨_,e⟩:=x;exact y0c e
 | xd fs=>obtain⟨_,⟨_,_,_,e,_⟩,_⟩:=x;exact y0c e
 | rng lo hi=>obtain⟨_,_,_,e⟩:=x;exact y0c e
 | frz ob u=>obtain⟨e,_⟩:=x;exact y0c e
 | tbl ps=>exact y0c (show h.get? a=some _ from x)
 | met f y=>exact y0c (show h.get? a=some _ from x)
 | ext φ=>obtain⟨_,⟨_,e⟩,_⟩:=x;exact y0c e
theorem Paired.mapP {α β:Type} {F G:α->β->Prop}:∀{l₁:List α} {l₂:List β},Paired F l₁ l₂->(∀a b,F a b->G a b)->Paired G l₁ l₂
 | _,_,.nil,_=>.nil
 | _,_,.cons r t,f=>.cons (f _ _ r) (Paired.mapP t f)
theorem z2c.stay (x:z2c P w H h a o) (k:∀b u,(b=a\/H b=some (.own a))->h.get? b=some u->h'.get? b=some u)
  (ho:∀b,H b=some (.own a)->H' b=some (.own a)) (ht:∀b xs,H b=some (.tup xs)->H' b=some (.tup xs)):z2c P w H' h' a o:=by
 induction o with
 | lst xs=>obtain⟨z,its,n,r,e⟩:=x;exact⟨z,its,n,r,k _ _ (.inl rfl) e⟩
 | tup xs=>obtain⟨z,its,r,ob,e,c⟩:=x;exact⟨z,its,r,ob,k _ _ (.inl rfl) e,c⟩
 | dK kvs=>obtain⟨z,y,vs,r,ob,es,ep,e,c⟩:=x;exact⟨z,y,vs,r,ob,es,ep,k _ _ (.inl rfl) e,c⟩
 | dT kvs =>
  obtain⟨z,y,xs,r,ob,es,ep,e,c⟩:=x
  exact⟨z,y,xs,Paired.mapP r fun p q z=>⟨z.1,ht _ _ z.2.1,z.2.2⟩,ob,es,ep,k _ _ (.inl rfl) e,c⟩
 | set S n=>obtain⟨ob,es,ep,t,e,c⟩:=x;exact⟨ob,es,ep,t,k _ _ (.inl rfl) e,c⟩
 | ins C dx fs =>
  obtain⟨d,z,ne,e,mA,⟨od,es,ep,e2,c⟩,r⟩:=x
  exact⟨ho _ d,z,ne,k _ _ (.inl rfl) e,mA,⟨od,es,ep,k _ _ (.inr d) e2,c⟩,r⟩
 | own y=>obtain⟨ob,e⟩:=x;exact⟨ob,k _ _ (.inl rfl) e⟩
 | xd fs=>obtain⟨mA,⟨od,es,ep,e,c⟩,r⟩:=x;exact⟨mA,⟨od,es,ep,k _ _ (.inl rfl) e,c⟩,r⟩
 | rng lo hi=>obtain⟨t,u,v,e⟩:=x;exact⟨t,u,v,k _ _ (.inl rfl) e⟩
 | frz ob u ih=>obtain⟨e,q⟩:=x;exact⟨k _ _ (.inl rfl) e,ih q⟩
 | tbl ps =>
  have e:h.get? a=some { cls:=.none,data:=.fields ps }:=x
  show h'.get? a=some { cls:=.none,data:=.fields ps }
  exact k a _ (.inl rfl) e
 | met f y =>
  have e:h.get? a=some (PySem.W.methodObj (.ref f) (.ref y)):=x
  show h'.get? a=some (PySem.W.methodObj (.ref f) (.ref y))
  exact k a _ (.inl rfl) e
 | ext φ=>obtain⟨p,⟨o,e⟩,st⟩:=x;exact⟨st _ _ p fun o q=>k _ _ (.inl rfl) q,⟨o,k _ _ (.inl rfl) e⟩,st⟩
theorem HOk.lt (x:HOk P w H h) (e:H a=some o):a<h.objs.size:=(x a o e).lt
theorem HOk.fresh (x:HOk P w H h) (e:h.objs.size<=a):H a=none:=by
 cases q:H a with
 | none=>rfl
 | some u=>exact absurd (y0x (x.lt q) e) (Nat.lt_irrefl _)
theorem HOk.kept (x:HOk P w H h) (k:∀b u,h.get? b=some u->h'.get? b=some u):HOk P w H h':=fun a o e =>
 (x a o e).stay (fun b u _ q=>k b u q) (fun _ q=>q) fun _ _ q=>q
theorem HOk.laid (x:HOk P w H h) (k:∀b u,h.get? b=some u->h'.get? b=some u) (hp:h.objs.size<=a) (new:z2c P w (upd H a o) h' a o):HOk P w (upd H a o) h':=fun b u e=>by
 have hn:=x.fresh hp
 by_cases hb:b=a
 ·subst hb;rw[z03] at e;cases e;exact new
 ·rw[z02 hb] at e
  exact (x b u e).stay (fun c v _ q=>k c v q) (fun c q=>by rw[z02 (z0a q hn)];exact q) fun c xs q=>by rw[z02 (z0a q hn)];exact q
end
def Rd (H:Hp) (a:Addr) (u:HO):Prop:=H a=some u\/∃o,H a=some (.frz o u)
theorem Rd.ok {P:y0q} {w:World} {H:Hp} {h:Heap} {a:Addr} {u:HO} (r:Rd H a u) (x:HOk P w H h):z2c P w H h a u:=by
 rcases r with r|⟨o,r⟩
 ·exact x a u r
 ·obtain⟨_,q⟩:=x a _ r
  exact q
def Mut:Option HO->Prop
 | some (.lst _)=>True
 | some (.dK _)=>True
 | some (.dT _)=>True
 | some (.set _ _)=>True
 | some (.ins _ _ _)=>True
 | some (.ext _)=>True
 | _=>False
section
variable {P:y0q} {w:World} {H:Hp} {h h':Heap} {x e:Addr} {o':HO}
theorem HOk.write (ok:HOk P w H h) (mu:Mut (H x)) (he:e=x\/H e=some (.own x)) (k:∀b u,b≠e->h.get? b=some u->h'.get? b=some u) (heo:∃u,h'.get? e=some u)
  (new:z2c P w (upd H x o') h' x o'):HOk P w (upd H x o') h':=fun b u q=>by
 have nown:∀c y,H c=some (.own y)->c≠x:=fun c y r z=>by subst z;rw[r] at mu;exact mu
 have ntup:∀c xs,H c=some (.tup xs)->c≠x:=fun c xs r z=>by subst z;rw[r] at mu;exact mu
 by_cases hb:b=x
 ·subst hb;rw[z03] at q;cases q;exact new
 ·rw[z02 hb] at q
  by_cases hbe:b=e
  ·have q':H b=some (.own x):=by
    rcases he with z|z
    ·exact absurd (hbe.trans z) hb
    ·rw[hbe];exact z
   rw[q] at q';cases q'
   obtain⟨v,hv⟩:=heo
   exact⟨v,by rw[hbe];exact hv⟩
  ·refine (ok b u q).stay (fun c v hc r=>k c v ?_ r) (fun c r=>by rw[z02 (nown c b r)];exact r) fun c xs r=>by rw[z02 (ntup c xs r)];exact r
   rcases hc with rfl|hc
   ·exact hbe
   ·rintro rfl
    rcases he with z|z
    ·exact nown c b hc z
    ·rw[hc] at z;cases z;exact hb rfl
end
structure Un (fs ex:List Addr) (H H':Hp) (h h':Heap):Prop where
 keep:∀b o,h.get? b=some o->H b=none->b∉fs->b∉ex->h'.get? b=some o
 slot:∀b o,h.get? b=some o->H b=none->b∈fs->b∉ex->∃sl,h'.get? b=some { o with slots:=sl }
 free:∀b o,h.get? b=some o->H b=none->b∉ex->H' b=none
 there:∀b o,h.get? b=some o->b∉ex->∃o',h'.get? b=some o'
 tups:∀b xs,H b=some (.tup xs)->H' b=some (.tup xs)
 frzs:∀b o u,H b=some (.frz o u)->H' b=some (.frz o u)
 tbls:∀b ps,H b=some (.tbl ps)->∃more,H' b=some (.tbl (ps++more))
section
variable {fs fs' ex ex':List Addr} {H H1 H2:Hp} {h h1 h2 h':Heap} {a x e:Addr} {o:HO}
theorem Un.any (u:Un fs ex H H1 h h1) {b:Addr} {ob:Obj} (q:h.get? b=some ob) (n:H b=none) (hx:b∉ex):∃sl,h1.get? b=some { ob with slots:=sl }:=by
 by_cases hb:b∈fs
 ·exact u.slot b ob q n hb hx
 ·exact⟨ob.slots,u.keep b ob q n hb hx⟩
theorem Un.kept (k:∀b u,h.get? b=some u->h'.get? b=some u):Un fs ex H H h h' :=
 ⟨fun b ob q _ _ _=>k b ob q,fun b ob q _ _ _=>⟨ob.slots,k b ob q⟩,fun _ _ _ n _=>n,fun b ob q _=>⟨ob,k b ob q⟩,fun _ _ q=>q,fun _ _ _ q=>q,fun _ ps q=>⟨#[],by rw[q];simp⟩⟩
theorem Un.refl:Un fs ex H H h h:=Un.kept fun _ _ q=>q
theorem Un.laid (k:∀b u,h.get? b=some u->h'.get? b=some u) (hp:h.objs.size<=a) (hn:H a=none):Un fs ex H (upd H a o) h h' where
 keep:=fun b u q _ _ _=>k b u q
 slot:=fun b u q _ _ _=>⟨u.slots,k b u q⟩
 free:=fun b u q n _=>by rw[z02 (y0y (y0x (y0c q) hp))];exact n
 there:=fun b u q _=>⟨u,k b u q⟩
 tups:=fun b xs q=>by rw[z02 (z0a q hn)];exact q
 frzs:=fun b u xs q=>by rw[z02 (z0a q hn)];exact q
 tbls:=fun b ps q=>⟨#[],by rw[z02 (z0a q hn),q];simp⟩
theorem Un.write (mu:Mut (H x)) (he:e=x\/H e=some (.own x)) (k:∀b u,b≠e->h.get? b=some u->h'.get? b=some u) (heo:∃u,h'.get? e=some u):Un fs ex H (upd H x o) h h':=by
 have hx:∀b,H b=none->b≠x:=fun b n z=>by subst z;rw[n] at mu;exact mu
 have hb:∀b,H b=none->b≠e:=fun b n z=>by
  subst z
  rcases he with r|r
  ·exact hx b n r
  ·rw[n] at r;cases r
 have hm:∀b u,H b=some u->¬Mut (some u)->b≠x:=fun b u q nm z=>by subst z;rw[q] at mu;exact nm mu
 refine⟨fun b u q n _ _=>k b u (hb b n) q,fun b u q n _ _=>⟨u.slots,k b u (hb b n) q⟩,fun b u q n _=>by rw[z02 (hx b n)];exact n,fun b u q _=>?_,
  fun b xs q=>by rw[z02 (hm b _ q fun z=>z)];exact q,fun b u xs q=>by rw[z02 (hm b _ q fun z=>z)];exact q,fun b ps q=>⟨#[],by rw[z02 (hm b _ q fun z=>z),q];simp⟩⟩
 by_cases hbe:b=e
 ·subst hbe;exact heo
 ·exact⟨u,k b u hbe q⟩
end
def trk (h:Heap) (H:Hp):List Addr:=(List.range h.objs.size).filter fun a=>(H a).isSome
def hidT (h:Heap) (H:Hp):Heap:=PySem.W.hideAll h (trk h H)
theorem zf3 (h:Heap) (H:Hp):(hidT h H).objs.size=h.objs.size:=PySem.W.hideAll_size _ _
theorem zhd {h:Heap} {H:Hp} {b:Addr} {o:Obj} (e:h.get? b=some o) (n:H b=none):(hidT h H).get? b=some o :=
 PySem.W.hideAll_get _ e fun hm=>by
  have q:(H b).isSome=true:=(List.mem_filter.mp hm).2
  rw[n] at q;simp at q
theorem zjl {h:Heap} {H:Hp} {b:Addr} {o:Obj} (e:(hidT h H).get? b=some o):h.get? b=some o/\H b=none:=by
 have e':h.get? b=some o:=PySem.W.of_hideAll (trk h H) e
 refine⟨e',?_⟩
 cases q:H b with
 | none=>rfl
 | some x =>
  have hm:b∈trk h H:=List.mem_filter.mpr ⟨List.mem_range.mpr (y0c e'),by simp[q]⟩
  have z:(hidT h H).get? b=none:=PySem.W.hideAll_none (trk h H) hm
  rw[z] at e;cases e
def zka (g h:Heap) (L:Addr):List (Addr×Obj):=(List.range h.objs.size).filterMap fun a=>if a=L\/(g.get? a).isSome=true then none else (h.get? a).map fun o=>(a,o)
def rest (g h:Heap) (L d:Addr):List (Addr×Obj):=(zka g h L).filter fun p=>decide (p.1≠d)
end L2
namespace L2
open PySem PySem.Spec PyProof.Rows
structure Mod (K:y00) (mg:Str->Option Value) (base:Heap):Prop where
 kin:K.In base
 glob:base.Ns y0n mg
 blt:∃mb,base.Ns builtinsNs mb/\∀x:Str,x≠"__name__"->mb x=bootBuiltins x
 nolimit:base.NoLimit
structure Cx where
 prog:y0q
 w:World
 K:y00
 mg:Str->Option Value
 base:Heap
 A:Around
 N:List Str
 s₀:y04
 H₀:Hp
 env:Env
 outer:List Env
 stack:List Env
 ex:List Addr
 fn:Str->Bool
 calm:Bool
 pn:List (Addr×Obj)
 xe:Value->y04->Prop
def frs (l:List Env):List Addr:=l.filterMap (·.frame)
abbrev Cx.fs (X:Cx):List Addr:=frs X.outer
def Vis (sc:Scope) (x:Str):Prop:=sc.names.lookup x=some .local\/sc.names.lookup x=some .cell\/sc.names.lookup x=some .free
def Loc (sc:Scope) (x:Str):Prop:=sc.names.lookup x=some .local\/sc.names.lookup x=some .cell
noncomputable def Look (env:Env) (h:Heap) (m:Str->Option Value) (x:Str) (u:Value):Prop :=
 (env.kindOf x=some .local/\m x=some u)\/((env.kindOf x=some .cell\/env.kindOf x=some .free)/\∃c,env.cells.lookup x=some c/\h.IsCell c (some u))
structure Cx.Ok (X:Cx):Prop where
 mod:Mod X.K X.mg X.base
 kind:X.env.scope.kind=.function
 glob:X.env.globals=y0n
 blt:X.env.builtins=builtinsNs
 above:X.s₀.heap.objs.size<=X.env.locals
 inj:∀x y c,X.env.cells.lookup x=some c->X.env.cells.lookup y=some c->x=y
 has:∀x,(X.env.kindOf x=some .cell\/X.env.kindOf x=some .free)->∃c,X.env.cells.lookup x=some c
 cab:∀x c,X.fn x=true->X.env.cells.lookup x=some c->X.s₀.heap.objs.size<=c
 hd:X.calm=true->X.A.handled=none
 frames:X.A.frames=some X.stack
 stk:X.stack=X.outer\/(X.stack=X.env::X.outer/\X.env.frame=some X.env.locals)
 exf:∀b∈X.ex,b≠X.env.locals/\∀x c,X.env.cells.lookup x=some c->c≠b
 bs:∀b o,X.base.get? b=some o->X.s₀.heap.get? b=some o/\X.H₀ b=none
 bsz:X.base.objs.size<=X.s₀.heap.objs.size
 noex:∀b o,X.base.get? b=some o->b∉X.ex
 exfs:∀b∈X.ex,b∉X.fs
 funs:X.s₀.heap.FunFrames X.base X.outer
 frf:∀b∈X.fs,X.H₀ b=none
structure Inv (X:Cx) (pins:List (Addr×Obj)) (σ:List (Option V)) (H:Hp) (s:y04):Prop where
 ok:X.Ok
 os:s.os=X.s₀.os
 bare:AllBare s.gens
 base:Un X.fs X.ex X.H₀ H X.s₀.heap s.heap
 loc:∃m,s.heap.Ns X.env.locals m/\∀(i:Nat) (x:Str) (v:V),X.N[i]?=some x->σ[i]?=some (some v)->Vis X.env.scope x->∃u,RelV v u/\Look X.env s.heap m x u
 cell:∀x c,X.env.cells.lookup x=some c->∃v,s.heap.IsCell c v
 free:H X.env.locals=none
 freeC:∀x c,X.env.cells.lookup x=some c->H c=none
 pin:∀p∈X.pn++pins,s.heap.get? p.1=some p.2/\H p.1=none/\p.1≠X.env.locals/\p.1∉X.fs/\∀v,p.2.data≠.cell v
 hok:HOk X.prog X.w H s.heap
 len:σ.length=X.N.length
section
variable {X:Cx} {pins:List (Addr×Obj)} {σ:List (Option V)} {H H':Hp} {s:y04} {h':Heap}
theorem Cx.Ok.nofr (ok:X.Ok) {b:Addr} {o:Obj} (e:X.base.get? b=some o):b∉X.fs:=fun hb=>by
 have:=(ok.funs.mem hb).1
 rw[e] at this;cases this
theorem Inv.bs (I:Inv X pins σ H s):∀b o,X.base.get? b=some o->s.heap.get? b=some o/\H b=none:=fun b o e =>
 ⟨I.base.keep b o (I.ok.bs b o e).1 (I.ok.bs b o e).2 (I.ok.nofr e) (I.ok.noex b o e),I.base.free b o (I.ok.bs b o e).1 (I.ok.bs b o e).2 (I.ok.noex b o e)⟩
theorem Inv.bk (I:Inv X pins σ H s):∀b o,X.base.get? b=some o->s.heap.get? b=some o:=fun b o e=>(I.bs b o e).1
theorem Inv.mod (I:Inv X pins σ H s):Mod X.K X.mg X.base:=I.ok.mod
theorem Inv.kIn (I:Inv X pins σ H s):X.K.In s.heap:=I.ok.mod.kin.keeps I.bk
theorem Inv.lt (I:Inv X pins σ H s):X.env.locals<s.heap.objs.size:=let ⟨_,hn,_⟩:=I.loc;hn.lt
theorem Inv.sz (I:Inv X pins σ H s):X.s₀.heap.objs.size<=s.heap.objs.size:=y1l I.ok.above (Nat.le_of_lt I.lt)
theorem Inv.nofs (I:Inv X pins σ H s) {a:Addr} (h:s.heap.objs.size<=a):a∉X.fs:=fun hb=>by
 obtain⟨_,o,ho,_⟩:=I.ok.funs.mem hb
 exact absurd (y0x (y0c ho) (y1l I.sz h)) (Nat.lt_irrefl _)
theorem Inv.cne (I:Inv X pins σ H s):∀x c,X.env.cells.lookup x=some c->c≠X.env.locals:=fun x c e z=>by
 obtain⟨v,o,ho,hd⟩:=I.cell x c e
 obtain⟨m,⟨o',es,ep,ho',hd',_⟩,_⟩:=I.loc
 rw[z,ho'] at ho;cases ho;rw[hd'] at hd;cases hd
theorem Inv.funs (I:Inv X pins σ H s):s.heap.FunFrames X.base X.outer:=by
 have all:∀(l:List Env),(∀b∈frs l,b∈X.fs)->X.s₀.heap.FunFrames X.base l->s.heap.FunFrames X.base l:=by
  intro l
  induction l with
  | nil=>intro _ _;trivial
  | cons env r ih =>
   intro hs hl
   obtain⟨hk,⟨L,o,hf,hn,ho,hd⟩,hr⟩:=hl
   have hL:L∈X.fs:=hs L (by unfold frs;rw[List.filterMap_cons,hf];exact y0e)
   obtain⟨sl,e⟩:=I.base.slot L o ho (I.ok.frf L hL) hL fun z=>I.ok.exfs L z hL
   exact⟨hk,⟨L,_,hf,hn,e,hd⟩,ih (fun b hb=>hs b (by unfold frs;rw[List.filterMap_cons,hf];exact y05 _ hb)) hr⟩
 exact all X.outer (fun _ hb=>hb) I.ok.funs
theorem Inv.stack (I:Inv X pins σ H s):s.heap.FunFrames X.base X.stack:=by
 rcases I.ok.stk with e|⟨e,hf⟩
 ·rw[e];exact I.funs
 ·rw[e]
  obtain⟨m,hn,_⟩:=I.loc
  refine .cons (by rw[I.ok.kind];decide) hf hn ?_ I.funs
  exact Heap.get?_none_of_le (y1l I.ok.bsz I.ok.above)
theorem Inv.stkSub (I:Inv X pins σ H s):∀b∈frs X.stack,b∈X.env.locals::X.fs:=fun b hb=>by
 rcases I.ok.stk with e|⟨e,hf⟩
 ·rw[e] at hb;exact y05 _ hb
 ·rw[e] at hb
  unfold frs at hb
  rw[List.filterMap_cons,hf] at hb
  exact hb
theorem Inv.stkFree (I:Inv X pins σ H s):∀b∈frs X.stack,H b=none:=fun b hb=>by
 rcases y09.mp (I.stkSub b hb) with e|hb
 ·rw[e];exact I.free
 ·obtain⟨_,o,ho,_⟩:=I.ok.funs.mem hb
  exact I.base.free b o ho (I.ok.frf b hb) fun z=>I.ok.exfs b z hb
theorem Inv.step {g':Array GenState} {t':Nat} {d':Drawn} {ch:List Addr} (I:Inv X pins σ H s)
  (hch:∀b∈ch,(b∈X.ex\/X.s₀.heap.objs.size<=b)/\b≠X.env.locals/\(∀x c,X.env.cells.lookup x=some c->c≠b)/\∀p∈X.pn++pins,p.1≠b)
  (keep:∀b o,b≠X.env.locals->b∉X.fs->b∉ch->s.heap.get? b=some o->H b=none->h'.get? b=some o)
  (slot:∀b o,b≠X.env.locals->b∈X.fs->b∉ch->s.heap.get? b=some o->H b=none->∃sl,h'.get? b=some { o with slots:=sl }) (free:∀b o,b∉ch->s.heap.get? b=some o->H b=none->H' b=none)
  (there:∀b o,b∉ch->s.heap.get? b=some o->∃o',h'.get? b=some o')
  (tups:∀b xs,H b=some (.tup xs)->H' b=some (.tup xs)) (frzs:∀b o u,H b=some (.frz o u)->H' b=some (.frz o u)) (tbls:∀b ps,H b=some (.tbl ps)->∃more,H' b=some (.tbl (ps++more)))
  (ns:∀m,s.heap.Ns X.env.locals m->h'.Ns X.env.locals m) (hok:HOk X.prog X.w H' h') (hg:AllBare g') :
  Inv X pins σ H' { s with heap:=h',gens:=g',drawn:=d',toks:=t' }:=by
 have neL:∀b o,X.s₀.heap.get? b=some o->b≠X.env.locals:=fun b o e=>y0y (y0x (y0c e) I.ok.above)
 have neC:∀b o,X.s₀.heap.get? b=some o->b∉X.ex->b∉ch:=fun b o e hx hb=>by
  rcases (hch b hb).1 with z|z
  ·exact hx z
  ·exact absurd (y0x (y0c e) z) (Nat.lt_irrefl _)
 have cellK:∀x c,X.env.cells.lookup x=some c->∀v,s.heap.IsCell c v->h'.IsCell c v:=fun x c e v ⟨o,ho,hd⟩=>by
  have nch:c∉ch:=fun z=>(hch c z).2.2.1 x c e rfl
  by_cases hc:c∈X.fs
  ·obtain⟨sl,q⟩:=slot c o (I.cne x c e) hc nch ho (I.freeC x c e)
   exact⟨_,q,hd⟩
  ·exact⟨o,keep c o (I.cne x c e) hc nch ho (I.freeC x c e),hd⟩
 refine⟨I.ok,I.os,hg,⟨fun b o e n hb hx=>?_,fun b o e n hb hx=>?_,fun b o e n hx=>?_,fun b o e hx=>?_,fun b xs e=>tups b xs (I.base.tups b xs e),fun b o xs e=>frzs b o xs (I.base.frzs b o xs e),fun b ps e=>?_⟩,?_,fun x c e=>?_,?_,fun x c e=>?_,fun p hp=>?_,hok,I.len⟩
 ·exact keep b o (neL b o e) hb (neC b o e hx) (I.base.keep b o e n hb hx) (I.base.free b o e n hx)
 ·obtain⟨sl,e1⟩:=I.base.slot b o e n hb hx
  obtain⟨sl',e2⟩:=slot b _ (neL b o e) hb (neC b o e hx) e1 (I.base.free b o e n hx)
  exact⟨sl',e2⟩
 ·obtain⟨o',e1⟩:=I.base.there b o e hx
  exact free b o' (neC b o e hx) e1 (I.base.free b o e n hx)
 ·obtain⟨o',e1⟩:=I.base.there b o e hx
  exact there b o' (neC b o e hx) e1
 ·obtain⟨m1,e1⟩:=I.base.tbls b ps e
  obtain⟨m2,e2⟩:=tbls b _ e1
  exact⟨m1++m2,by rw[e2,Array.append_assoc]⟩
 ·obtain⟨m,hn,hl⟩:=I.loc
  refine⟨m,ns m hn,fun i x v e1 e2 e3=>?_⟩
  obtain⟨u,r,l⟩:=hl i x v e1 e2 e3
  refine⟨u,r,?_⟩
  rcases l with l|⟨k,c,e,z⟩
  ·exact .inl l
  ·exact .inr ⟨k,c,e,cellK x c e _ z⟩
 ·obtain⟨v,z⟩:=I.cell x c e
  exact⟨v,cellK x c e v z⟩
 ·obtain⟨m,⟨o,_,_,ho,_⟩,_⟩:=I.loc
  exact free _ o (fun z=>(hch _ z).2.1 rfl) ho I.free
 ·obtain⟨v,o,ho,hd⟩:=I.cell x c e
  exact free c o (fun z=>(hch c z).2.2.1 x c e rfl) ho (I.freeC x c e)
 ·obtain⟨e,n,ne,nf,d⟩:=I.pin p hp
  have nch:p.1∉ch:=fun z=>(hch p.1 z).2.2.2 p hp rfl
  exact⟨keep p.1 p.2 ne nf nch e n,free p.1 p.2 nch e n,ne,nf,d⟩
theorem Inv.un {t':Nat} (I:Inv X pins σ H s) (u:Un X.fs [] H H' s.heap h') (hok:HOk X.prog X.w H' h'):Inv X pins σ H' { s with heap:=h',toks:=t' }:=by
 obtain⟨m,⟨o,es,ep,ho,r⟩,_⟩:=id I.loc
 obtain⟨sl,hL⟩:=u.any ho I.free (by simp)
 exact I.step (g':=s.gens) (d':=s.drawn) (ch:=[]) (fun _ z=>nomatch z) (fun b o _ hb _ e n=>u.keep b o e n hb (by simp)) (fun b o _ hb _ e n=>u.slot b o e n hb (by simp)) (fun b o _ e n=>u.free b o e n (by simp)) (fun b o _ e=>u.there b o e (by simp)) u.tups u.frzs u.tbls (fun m' hm=>by
  obtain⟨o',es',ep',ho',r'⟩:=hm
  rw[ho] at ho';cases ho'
  exact⟨_,es',ep',hL,r'⟩) hok I.bare
theorem Inv.call {g':Array GenState} {t':Nat} {d':Drawn} {ch:List Addr} (I:Inv X pins σ H s) (u:Un (frs X.stack) ch H H' s.heap h') (hok:HOk X.prog X.w H' h') (hg:AllBare g')
  (hch:∀b∈ch,(b∈X.ex\/X.s₀.heap.objs.size<=b)/\b≠X.env.locals/\(∀x c,X.env.cells.lookup x=some c->c≠b)/\∀p∈X.pn++pins,p.1≠b) :
  Inv X pins σ H' { s with heap:=h',gens:=g',drawn:=d',toks:=t' }:=by
 obtain⟨m,⟨o,es,ep,ho,r⟩,_⟩:=id I.loc
 obtain⟨sl,hL⟩:=u.any ho I.free fun z=>(hch _ z).2.1 rfl
 exact I.step (ch:=ch) hch (fun b o hL hb hc e n=>u.keep b o e n (fun z=>(y09.mp (I.stkSub b z)).elim hL hb) hc) (fun b o _ _ hc e n=>u.any e n hc) (fun b o hc e n=>u.free b o e n hc) (fun b o hc e=>u.there b o e hc) u.tups u.frzs u.tbls (fun m' hm=>by
  obtain⟨o',es',ep',ho',r'⟩:=hm
  rw[ho] at ho';cases ho'
  exact⟨_,es',ep',hL,r'⟩) hok hg
theorem Inv.turned {t':Nat} {it:Addr} (I:Inv X pins σ H s) (k:∀b o,b≠it->s.heap.get? b=some o->h'.get? b=some o) (hn:H it=none) (hL:it≠X.env.locals)
  (h1:it∈X.ex\/X.s₀.heap.objs.size<=it) (h2:∀x c,X.env.cells.lookup x=some c->c≠it) (h3:∀p∈X.pn++pins,p.1≠it):Inv X pins σ H { s with heap:=h',toks:=t' }:=by
 have nit:∀b u,H b=some u->b≠it:=fun b u e z=>by rw[z,hn] at e;cases e
 refine I.step (g':=s.gens) (d':=s.drawn) (ch:=[it]) (fun b hb=>?_) (fun b o _ _ hc e _=>k b o (fun z=>hc (by simp[z])) e) (fun b o _ _ hc e _=>⟨o.slots,k b o (fun z=>hc (by simp[z])) e⟩) (fun _ _ _ _ n=>n)
  (fun b o hc e=>⟨o,k b o (fun z=>hc (by simp[z])) e⟩) (fun _ _ e=>e) (fun _ _ _ e=>e) (fun b ps e=>⟨#[],by rw[e];simp⟩) (fun m hm=>?_) (fun b u e=>?_) I.bare
 ·have e:b=it:=by simpa using hb
  subst e
  exact⟨h1,hL,h2,h3⟩
 ·obtain⟨o,es,ep,ho,r⟩:=hm
  exact⟨o,es,ep,k _ o (Ne.symm hL) ho,r⟩
 ·refine (I.hok b u e).stay (fun c v hc q=>k c v ?_ q) (fun _ q=>q) fun _ _ q=>q
  rcases hc with z|z
  ·rw[z];exact nit b u e
  ·exact nit c _ z
theorem Inv.tok (I:Inv X pins σ H s) (t:Nat):Inv X pins σ H { s with toks:=t }:=I.un (h':=s.heap) (t':=t) Un.refl I.hok
theorem Inv.kept {t':Nat} (I:Inv X pins σ H s) (k:∀b u,s.heap.get? b=some u->h'.get? b=some u):Inv X pins σ H { s with heap:=h',toks:=t' }:=I.un (Un.kept k) (I.hok.kept k)
theorem Inv.laid {a:Addr} {o:HO} {t':Nat} (I:Inv X pins σ H s) (k:∀b u,s.heap.get? b=some u->h'.get? b=some u) (hp:s.heap.objs.size<=a) (new:z2c X.prog X.w (upd H a o) h' a o) :
  Inv X pins σ (upd H a o) { s with heap:=h',toks:=t' }:=I.un (Un.laid k hp (I.hok.fresh hp)) (I.hok.laid k hp new)
theorem Inv.write {x e:Addr} {o:HO} {t':Nat} (I:Inv X pins σ H s) (mu:Mut (H x)) (he:e=x\/H e=some (.own x)) (k:∀b u,b≠e->s.heap.get? b=some u->h'.get? b=some u) (heo:∃u,h'.get? e=some u)
  (new:z2c X.prog X.w (upd H x o) h' x o):Inv X pins σ (upd H x o) { s with heap:=h',toks:=t' }:=I.un (Un.write mu he k heo) (I.hok.write mu he k heo new)
theorem Inv.pins_of {pins':List (Addr×Obj)} (I:Inv X pins σ H s) (h:∀p∈pins',s.heap.get? p.1=some p.2/\H p.1=none/\p.1≠X.env.locals/\p.1∉X.fs/\∀v,p.2.data≠.cell v):Inv X pins' σ H s :=
 ⟨I.ok,I.os,I.bare,I.base,I.loc,I.cell,I.free,I.freeC,fun p hp=>(y10.mp hp).elim (fun z=>I.pin p (List.mem_append_left _ z)) (h p),I.hok,I.len⟩
theorem z86 {N:List Str} (hN:N.Nodup) {i j:Nat} {x:Str} (a:N[i]?=some x) (b:N[j]?=some x):i=j:=by
 obtain⟨h1,e1⟩:=y0k.mp a
 obtain⟨h2,e2⟩:=y0k.mp b
 exact (List.getElem_inj hN).mp (e1.trans e2.symm)
theorem z8r {M:Model} {A:Around} {E:Value->y04->Prop} {i:Nat} {x:Str} {v:V} {u:Value} {Q:Unit->y04->Prop} (I:Inv X pins σ H s) (hN:X.N.Nodup) (hi:X.N[i]?=some x) (hx:Loc X.env.scope x) (r:RelV v u)
  (h:∀s',Inv X pins (σ.set i (some v)) H s'->(∃a,Heap.SameBut a s.heap s'.heap/\(a=X.env.locals\/X.env.cells.lookup x=some a))->Q () s') (hf:X.fn x=true\/X.env.scope.names.lookup x=some .local:=by first|exact .inl rfl|exact .inr rfl|assumption):y0u M A (storeName X.env x u) Q E s:=by
 obtain⟨m,hn,hl⟩:=id I.loc
 have hcls:(X.env.scope.kind == .class || (X.env.scope.kind == .module && X.env.locals != X.env.globals))=false:=by rw[I.ok.kind];rfl
 have hiσ:i<σ.length:=by rw[I.len];exact (y0k.mp hi).1
 have cne:=I.cne
 have tracked:∀{a:Addr} {h':Heap},(∃o,s.heap.get? a=some o/\H a=none)->Heap.SameBut a s.heap h'->HOk X.prog X.w H h':=fun {a h'} ha hs b ob e=>by
  obtain⟨_,_,hfree⟩:=ha
  refine (I.hok b ob e).stay (fun c w' hc q=>(hs.2 c ?_).trans q) (fun _ q=>q) fun _ _ q=>q
  rintro rfl
  rcases hc with rfl|hc
  ·rw[hfree] at e;cases e
  ·rw[hfree] at hc;cases hc
 rcases hx with hk|hk
 ·refine wpAny_storeName_local hk hn (fun h' hn' hs=>?_) hcls
  obtain⟨oL,_,_,hoL,_⟩:=id hn
  refine h _ ⟨I.ok,I.os,I.bare,⟨fun b o e n hb hx=>?_,fun b o e n hb hx=>?_,I.base.free,fun b o e hx=>?_,I.base.tups,I.base.frzs,I.base.tbls⟩,⟨_,hn',fun j y v' e1 e2 e3=>?_⟩,fun y c e=>?_,I.free,I.freeC,fun p hp=>?_,tracked ⟨oL,hoL,I.free⟩ hs,by simpa using I.len⟩ ⟨_,hs,.inl rfl⟩
  ·exact (hs.2 b (y0y (y0x (y0c e) I.ok.above))).trans (I.base.keep b o e n hb hx)
  ·obtain⟨sl,e1⟩:=I.base.slot b o e n hb hx
   exact⟨sl,(hs.2 b (y0y (y0x (y0c e) I.ok.above))).trans e1⟩
  ·obtain⟨o',e1⟩:=I.base.there b o e hx
   exact⟨o',(hs.2 b (y0y (y0x (y0c e) I.ok.above))).trans e1⟩
  ·by_cases hj:j=i
   ·subst hj
    rw[hi] at e1;cases e1
    rw[List.getElem?_set_self hiσ] at e2
    cases e2
    exact⟨u,r,.inl ⟨hk,by simp⟩⟩
   ·rw[List.getElem?_set_ne (Ne.symm hj)] at e2
    obtain⟨u',r',q⟩:=hl j y v' e1 e2 e3
    refine⟨u',r',?_⟩
    rcases q with ⟨k,e⟩|⟨k,c,e,z⟩
    ·refine .inl ⟨k,?_⟩
     have:y≠x:=fun e=>hj (z86 hN e1 (e▸hi))
     simp[this,e]
    ·exact .inr ⟨k,c,e,z.sameBut hs (cne y c e)⟩
  ·obtain⟨w',z⟩:=I.cell y c e
   exact⟨w',z.sameBut hs (cne y c e)⟩
  ·obtain⟨e,n,ne,nf,d⟩:=I.pin p hp
   exact⟨(hs.2 p.1 ne).trans e,n,ne,nf,d⟩
 ·have hfn:X.fn x=true:=by
   rcases hf with z|z
   ·exact z
   ·rw[z] at hk;cases hk
  obtain⟨c,hc⟩:=I.ok.has x (.inl hk)
  obtain⟨w',z⟩:=I.cell x c hc
  refine wpAny_storeName_cell I.ok.kind hk hc z (fun h' hc' hs=>?_)
  obtain⟨oc,hoc,hocd⟩:=id z
  refine h { s with heap:=h' } ⟨I.ok,I.os,I.bare,⟨fun b o e n hb hx=>?_,fun b o e n hb hx=>?_,I.base.free,fun b o e hx=>?_,I.base.tups,I.base.frzs,I.base.tbls⟩,⟨m,hn.sameBut hs (Ne.symm (cne x c hc)),fun j y v' e1 e2 e3=>?_⟩,fun y c' e=>?_,I.free,I.freeC,fun p hp=>?_,tracked ⟨oc,hoc,I.freeC x c hc⟩ hs,by simpa using I.len⟩ ⟨c,hs,.inr hc⟩
  ·exact (hs.2 b (y0y (y0x (y0c e) (I.ok.cab x c hfn hc)))).trans (I.base.keep b o e n hb hx)
  ·obtain⟨sl,e1⟩:=I.base.slot b o e n hb hx
   exact⟨sl,(hs.2 b (y0y (y0x (y0c e) (I.ok.cab x c hfn hc)))).trans e1⟩
  ·obtain⟨o',e1⟩:=I.base.there b o e hx
   exact⟨o',(hs.2 b (y0y (y0x (y0c e) (I.ok.cab x c hfn hc)))).trans e1⟩
  ·by_cases hj:j=i
   ·subst hj
    rw[hi] at e1;cases e1
    rw[List.getElem?_set_self hiσ] at e2
    cases e2
    exact⟨u,r,.inr ⟨.inl hk,c,hc,hc'⟩⟩
   ·rw[List.getElem?_set_ne (Ne.symm hj)] at e2
    obtain⟨u',r',q⟩:=hl j y v' e1 e2 e3
    refine⟨u',r',?_⟩
    rcases q with q|⟨k,c',e,z'⟩
    ·exact .inl q
    ·refine .inr ⟨k,c',e,z'.sameBut hs ?_⟩
     rintro rfl
     exact hj (z86 hN e1 (I.ok.inj _ _ _ e hc▸hi))
  ·by_cases hcc:c'=c
   ·subst hcc;exact⟨_,hc'⟩
   ·obtain⟨w2,z2⟩:=I.cell y c' e
    exact⟨w2,z2.sameBut hs hcc⟩
  ·obtain⟨e,n,ne,nf,d⟩:=I.pin p hp
   refine⟨(hs.2 p.1 ?_).trans e,n,ne,nf,d⟩
   intro q
   rw[q,hoc] at e
   have q':oc=p.2:=y28 e
   exact d w' (by rw[<- q'];exact hocd)
theorem z7w {M:Model} {A:Around} {E:Value->y04->Prop} {i:Nat} {x:Str} {v:V} {u:Value} {Q:Unit->y04->Prop} (I:Inv X pins σ H s) (hN:X.N.Nodup) (hi:X.N[i]?=some x) (hx:Loc X.env.scope x) (r:RelV v u)
  (h:∀s',Inv X pins (σ.set i (some v)) H s'->Q () s') (hf:X.fn x=true\/X.env.scope.names.lookup x=some .local:=by first|exact .inl rfl|exact .inr rfl|assumption):y0u M A (storeName X.env x u) Q E s :=
 z8r I hN hi hx r (fun s' I' _=>h s' I') hf
theorem Inv.call' {s':y04} {ch:List Addr} (I:Inv X pins σ H s) (ho:s'.os=s.os) (u:Un (frs X.stack) ch H H' s.heap s'.heap) (hok:HOk X.prog X.w H' s'.heap) (hg:AllBare s'.gens)
  (hch:∀b∈ch,(b∈X.ex\/X.s₀.heap.objs.size<=b)/\b≠X.env.locals/\(∀x c,X.env.cells.lookup x=some c->c≠b)/\∀p∈X.pn++pins,p.1≠b):Inv X pins σ H' s':=by
 obtain⟨h',g',d',t',o'⟩:=s'
 have e:o'=s.os:=ho
 subst e
 exact I.call (g':=g') (t':=t') (d':=d') u hok hg hch
end
abbrev XK:=Value->Option Addr->Hp->Prop
abbrev St:=List (Option V)
abbrev VK:=V->Hp->Prop
abbrev TE:=St->Hp->VK->Prop
abbrev TT:=St->Hp->(Bool->Hp->Prop)->Prop
abbrev TA:=St->Hp->(List V->Hp->Prop)->Prop
structure Ends where
 nx:St->Hp->Prop
 rt:VK
 bk:St->Hp->Prop:=fun _ _=>False
 ct:St->Hp->Prop:=fun _ _=>False
abbrev TS:=Ends->St->Hp->Prop
def EP (X:Cx) (pins:List (Addr×Obj)) (σ:St) (Q:VK) (u:Value) (s':y04):Prop:=∃v H',Inv X pins σ H' s'/\RelV v u/\Q v H'
def TP (X:Cx) (pins:List (Addr×Obj)) (σ:St) (Q:Bool->Hp->Prop) (b:Bool) (s':y04):Prop:=∃H',Inv X pins σ H' s'/\Q b H'
def AP (X:Cx) (pins:List (Addr×Obj)) (σ:St) (Q:List V->Hp->Prop) (us:List Value) (s':y04):Prop:=∃vs H',Inv X pins σ H' s'/\Vals vs us/\Q vs H'
noncomputable def SP (X:Cx) (pins:List (Addr×Obj)) (D:Ends) (f:Flow) (s':y04):Prop :=
 match f with
 | .next=>∃σ' H',Inv X pins σ' H' s'/\D.nx σ' H'
 | .brk=>∃σ' H',Inv X pins σ' H' s'/\D.bk σ' H'
 | .cont=>∃σ' H',Inv X pins σ' H' s'/\D.ct σ' H'
 | .ret u=>∃v σ' H',Inv X pins σ' H' s'/\RelV v u/\D.rt v H'
noncomputable def PE (X:Cx) (e:Expr) (t:TE):Prop :=
 ∀(pins:List (Addr×Obj)) (s:y04) (σ:St) (H:Hp) (Q:VK),Inv X pins σ H s->t σ H Q->y0u (model X.prog X.w) X.A (eval e X.env) (EP X pins σ Q) X.xe s
noncomputable def PT (X:Cx) (e:Expr) (t:TT):Prop :=
 ∀(pins:List (Addr×Obj)) (s:y04) (σ:St) (H:Hp) (Q:Bool->Hp->Prop),Inv X pins σ H s->t σ H Q->y0u (model X.prog X.w) X.A (isTrue e X.env (eval e X.env)) (TP X pins σ Q) X.xe s
noncomputable def PW (X:Cx) (e:Expr) (t:TT):Prop :=
 ∀(whole:Sem Value) (pins:List (Addr×Obj)) (s:y04) (σ:St) (H:Hp) (Q:Bool->Hp->Prop),Inv X pins σ H s->t σ H Q->y0u (model X.prog X.w) X.A (isTrue e X.env whole) (TP X pins σ Q) X.xe s
theorem PW.pt {X:Cx} {e:Expr} {t:TT} (h:PW X e t):PT X e t:=h _
noncomputable def PA (X:Cx) (es:List Expr) (t:TA):Prop :=
 ∀(pos:Pos) (pins:List (Addr×Obj)) (s:y04) (σ:St) (H:Hp) (Q:List V->Hp->Prop),Inv X pins σ H s->t σ H Q->y0u (model X.prog X.w) X.A (spliced (backTo pos (y0a es X.env))) (AP X pins σ Q) X.xe s
noncomputable def PS (X:Cx) (st:Stmt) (t:TS):Prop :=
 ∀(pins:List (Addr×Obj)) (s:y04) (σ:St) (H:Hp) (D:Ends),Inv X pins σ H s->t D σ H->y0u (model X.prog X.w) X.A (exec st X.env) (SP X pins D) X.xe s
noncomputable def PSs (X:Cx) (st:List Stmt) (t:TS):Prop :=
 ∀(pins:List (Addr×Obj)) (s:y04) (σ:St) (H:Hp) (D:Ends),Inv X pins σ H s->t D σ H->y0u (model X.prog X.w) X.A (execs st X.env) (SP X pins D) X.xe s
theorem thn {α:Type} {t:Sem α} {Q Q':α->y04->Prop} {M:Model} {A:Around} {E:Value->y04->Prop} {s:y04} (h:y0u M A t Q E s) (hQ:∀a s,Q a s->Q' a s):y0u M A t Q' E s:=y1c h hQ fun _ _ x=>x
end L2
namespace L2
open PySem PySem.Spec PyProof.Rows
section
variable {X:Cx}
def tVar (i:Nat):TE:=fun σ H Q=>∃v,σ[i]?=some (some v)/\Q v H
def tC (v:V):TE:=fun _ H Q=>Q v H
theorem zlh {i:Nat} {x:Str} {pos:Pos} (hN:X.N[i]?=some x) (hv:Vis X.env.scope x) (hd:(x == ("__debug__":Str))=false:=by decide) (hcd:(x == ("__classdict__":Str))=false:=by decide):PE X (.Name x pos) (tVar i):=by
 intro pins s σ H Q I h
 obtain⟨v,e,h⟩:=h
 obtain⟨m,hn,hl⟩:=I.loc
 obtain⟨u,r,l⟩:=hl i x v hN e hv
 have fin:EP X pins σ Q u s:=⟨v,H,I,r,h⟩
 rcases l with ⟨hk,hm⟩|⟨hk,c,hc,hcell⟩
 ·exact wpAny_Name (wpAny_loadName_local I.ok.kind hk hn hm fin) hd
 ·rcases hk with hk|hk
  ·exact wpAny_Name (wpAny_loadName_cell I.ok.kind hk hc hcell fin) hd
  ·exact wpAny_Name (wpAny_loadName_free I.ok.kind hk hc hcell fin hcd) hd
theorem ze4 {i j pos}:PE X (.Constant (.int i) j pos) (tC (.int i)):=fun _ _ _ H _ I h=>wpAny_Constant_int ⟨.int i,H,I.tok _,⟨_,rfl⟩,h⟩
theorem zjd {b j pos}:PE X (.Constant (.bool b) j pos) (tC (.bl b)):=fun _ _ _ H _ I h=>Constant_bool ⟨.bl b,H,I,rfl,h⟩
theorem zlk {j pos}:PE X (.Constant .none j pos) (tC .non):=fun _ _ _ H _ I h=>Constant_none ⟨.non,H,I,rfl,h⟩
theorem z96 {x j pos}:PE X (.Constant (.str x) j pos) (tC (.str x)):=fun _ _ _ H _ I h=>Calls.Constant_str ⟨.str x,H,I.tok _,⟨_,rfl⟩,h⟩
def Gl (X:Cx) (x:Str):Prop:=X.env.kindOf x=some .globalImplicit
theorem z56 {E:Value->y04->Prop} {pins:List (Addr×Obj)} {s:y04} {σ:St} {H:Hp} {x:Str} {u:Value} {pos:Pos} {Q:Value->y04->Prop} (I:Inv X pins σ H s) (hg:Gl X x) (hm:X.mg x=some u) (h:Q u s)
  (hd:(x == ("__debug__":Str))=false:=by decide):y0u (model X.prog X.w) X.A (eval (.Name x pos) X.env) Q E s :=
 Calls.Name_function_global I.ok.kind hg (Calls.loadGlobal_global (by rw[I.ok.glob];exact I.mod.glob.keeps I.bk) hm h) hd
theorem z4y {E:Value->y04->Prop} {pins:List (Addr×Obj)} {s:y04} {σ:St} {H:Hp} {x:Str} {u:Value} {pos:Pos} {Q:Value->y04->Prop} (I:Inv X pins σ H s) (hg:Gl X x) (hm:X.mg x=none) (hv:bootBuiltins x=some u) (h:Q u s)
  (hn:x≠"__name__":=by decide) (hd:(x == ("__debug__":Str))=false:=by decide):y0u (model X.prog X.w) X.A (eval (.Name x pos) X.env) Q E s:=by
 obtain⟨mb,h1,h2⟩:=I.mod.blt
 exact Calls.Name_function_global I.ok.kind hg (Calls.loadGlobal_builtin (by rw[I.ok.glob];exact I.mod.glob.keeps I.bk) hm (by rw[I.ok.blt];exact h1.keeps I.bk) ((h2 x hn).trans hv) h) hd
theorem z5w {x:Str} {v:V} {u:Value} {pos:Pos} (hg:Gl X x) (hm:X.mg x=some u) (r:RelV v u) (hd:(x == ("__debug__":Str))=false:=by decide):PE X (.Name x pos) (tC v) :=
 fun _ _ _ H _ I h=>z56 I hg hm ⟨v,H,I,r,h⟩ hd
theorem zjc {x:Str} {v:V} {u:Value} {pos:Pos} (hg:Gl X x) (hm:X.mg x=none) (hv:bootBuiltins x=some u) (r:RelV v u) (hn:x≠"__name__":=by decide) (hd:(x == ("__debug__":Str))=false:=by decide):PE X (.Name x pos) (tC v) :=
 fun _ _ _ H _ I h=>z4y I hg hm hv ⟨v,H,I,r,h⟩ hn hd
variable {a b:Expr} {ta tb:TE} {pos:Pos}
noncomputable def PC (X:Cx) (op:CmpOp) (a b:Expr) (t:TE):Prop :=
 ∀(pins:List (Addr×Obj)) (s:y04) (σ:St) (H:Hp) (Q:VK),Inv X pins σ H s->t σ H Q ->
  y0u (model X.prog X.w) X.A (eval a X.env) (fun v s₁=>y0u (model X.prog X.w) X.A (eval b X.env) (fun u s₂=>y0u (model X.prog X.w) X.A (compareOp op v u) (EP X pins σ Q) X.xe s₂) X.xe s₁) X.xe s
theorem zgx (b:Expr) {op:CmpOp} (h:op≠.In) (h2:op≠.NotIn):behindInMarks op b=false:=by
 have e1:(op == CmpOp.In)=false:=by cases op <;> first|rfl|exact absurd rfl h
 have e2:(op == CmpOp.NotIn)=false:=by cases op <;> first|rfl|exact absurd rfl h2
 cases b <;> simp[behindInMarks,e1,e2]
def tIsN (ta:TE):TE:=fun σ H Q=>ta σ H fun x H1=>Q (.bl (decide (x=.non))) H1
def zmx (ta:TE):TE:=fun σ H Q=>ta σ H fun x H1=>Q (.bl (!decide (x=.non))) H1
theorem RelV.none_iff {x:V} {v:Value} (r:RelV x v):(v == Value.none)=decide (x=.non):=by
 cases x with
 | non=>cases r;rfl
 | bl _=>cases r;rfl
 | int _=>obtain⟨t,rfl⟩:=r;rfl
 | str _=>obtain⟨t,rfl⟩:=r;rfl
 | byt _=>obtain⟨t,rfl⟩:=r;rfl
 | flt _=>obtain⟨t,rfl⟩:=r;rfl
 | ref _=>cases r;rfl
 | ty _=>cases r;rfl
theorem zlm {j pos'} (ha:PE X a ta):PC X .Is a (.Constant .none j pos') (tIsN ta):=by
 intro pins s σ H Q I h
 refine thn (ha pins s σ H _ I h) fun v s1 ⟨x,H1,I1,r1,q1⟩=>?_
 exact Constant_none (is_none_gen ⟨.bl _,H1,I1,by rw[r1.none_iff];rfl,q1⟩)
theorem zje {j pos'} (ha:PE X a ta):PC X .IsNot a (.Constant .none j pos') (zmx ta):=by
 intro pins s σ H Q I h
 refine thn (ha pins s σ H _ I h) fun v s1 ⟨x,H1,I1,r1,q1⟩=>?_
 exact Constant_none (isnot_none_gen ⟨.bl _,H1,I1,by rw[r1.none_iff];rfl,q1⟩)
def tB (t:TE):TT:=fun σ H Q=>t σ H fun x H1=>∃c,x=.bl c/\Q c H1
theorem zdw {op:CmpOp} {t:TE} (h:PC X op a b t) (h1:behindInMarks op b=false:=by first|exact zgx _ (by decide) (by decide)|rfl):PT X (.Compare a [op] [b] pos) (tB t):=by
 intro pins s σ H Q I hw
 refine wpAny_isTrue_Compare1 (thn (h pins s σ H _ I hw) fun v s1 h1=>thn h1 fun u s2 h2=>thn h2 fun c s3 ⟨x,H1,I1,r1,q1⟩=>?_) h1
 obtain⟨d,rfl,q⟩:=q1
 cases r1
 exact wpAny_truthy_bool ⟨H1,I1,q⟩
theorem zhy {e:Expr} {t:TE} (h:PE X e t) (he:∀whole,isTrue e X.env whole=(do let v <- whole;standAt e.pos;holding [v] (truthy v)):=by intro _;rfl):PT X e (tB t):=by
 intro pins s σ H Q I hw
 refine isTrue_plain (thn (h pins s σ H _ I hw) fun v s1 ⟨x,H1,I1,r1,q1⟩=>?_) (he _)
 obtain⟨d,rfl,q⟩:=q1
 cases r1
 exact wpAny_truthy_bool ⟨H1,I1,q⟩
variable {tA tB':TT} {rest:List Expr}
def tAnd (t u:TT):TT:=fun σ H Q=>t σ H fun c H1=>if c=true then u σ H1 Q else Q false H1
def tOr (t u:TT):TT:=fun σ H Q=>t σ H fun c H1=>if c=true then Q true H1 else u σ H1 Q
def tNot (t:TT):TT:=fun σ H Q=>t σ H fun c H1=>Q (!c) H1
theorem zdv (ha:PT X a tA):PW X (.BoolOp .And [a] pos) tA:=by
 intro wh pins s σ H Q I h
 refine isTrue_and (thn (ha pins s σ H Q I h) fun c s1 e=>?_)
 cases c with
 | true=>exact isTrue_and_nil e
 | false=>exact e
theorem zld (ha:PT X a tA):PW X (.BoolOp .Or [a] pos) tA:=by
 intro wh pins s σ H Q I h
 refine isTrue_or (thn (ha pins s σ H Q I h) fun c s1 e=>?_)
 cases c with
 | false=>exact isTrue_or_nil e
 | true=>exact e
theorem zhx (ha:PT X a tA) (hb:PW X (.BoolOp .And (b::rest) pos) tB'):PW X (.BoolOp .And (a::b::rest) pos) (tAnd tA tB'):=by
 intro wh pins s σ H Q I h
 refine isTrue_and (thn (ha pins s σ H _ I h) fun c s1 ⟨H1,I1,q1⟩=>?_)
 cases c with
 | true=>exact hb wh pins s1 σ H1 Q I1 q1
 | false=>exact⟨H1,I1,q1⟩
theorem zng (ha:PT X a tA) (hb:PW X (.BoolOp .Or (b::rest) pos) tB'):PW X (.BoolOp .Or (a::b::rest) pos) (tOr tA tB'):=by
 intro wh pins s σ H Q I h
 refine isTrue_or (thn (ha pins s σ H _ I h) fun c s1 ⟨H1,I1,q1⟩=>?_)
 cases c with
 | true=>exact⟨H1,I1,q1⟩
 | false=>exact hb wh pins s1 σ H1 Q I1 q1
theorem zle (ha:PT X a tA):PT X (.UnaryOp .Not a pos) (tNot tA):=by
 intro pins s σ H Q I h
 exact isTrue_not (ha pins s σ H (fun c H1=>Q (!c) H1) I h)
def zmw (ta:TE):TE:=fun σ H Q=>ta σ H fun x H1=>∃c,x=.bl c/\Q (.bl (!c)) H1
theorem zlj (ha:PE X a ta):PE X (.UnaryOp .Not a pos) (zmw ta):=by
 intro pins s σ H Q I h
 refine UnaryOp_ (thn (ha pins s σ H _ I h) fun v s1 ⟨x,H1,I1,r1,q1⟩=>?_)
 obtain⟨c,rfl,q1⟩:=q1
 cases r1
 exact not_of (wpAny_truthy_bool ⟨.bl (!c),H1,I1,rfl,q1⟩)
end
end L2
namespace L2
open PySem PySem.Spec PyProof.Rows
noncomputable def SqL (K:y00) (H:Hp) (a:Addr) (xs:List V):Prop :=
 Rd H a (.lst xs) \/
  ∃(o:Obj) (its:Array Value) (n:Nat),K.lookup a=some o/\o.cls=.type "list"/\o.dict=none/\o.data=.seq its n/\its.size<=y0j/\Vals xs its.toList
noncomputable def SqT (K:y00) (H:Hp) (a:Addr) (xs:List V):Prop :=
 Rd H a (.tup xs) \/
  ∃(o:Obj) (its:Array Value) (n:Nat),K.lookup a=some o/\o.cls=.type "tuple"/\o.data=.seq its n/\its.size<=y0j/\Vals xs its.toList
noncomputable def absV:Value->Option V
 | .none=>some .non
 | .bool b=>some (.bl b)
 | .int i _=>some (.int i)
 | .str x _=>some (.str x)
 | .bytes b _=>some (.byt b)
 | .float b _=>some (.flt b)
 | .ref a=>some (.ref a)
 | .type n=>some (.ty n)
 | _=>none
theorem RelV.abs {x:V} {u:Value} (r:RelV x u):absV u=some x:=by
 cases x with
 | non=>cases r;rfl
 | bl _=>cases r;rfl
 | int _=>obtain⟨t,rfl⟩:=r;rfl
 | str _=>obtain⟨t,rfl⟩:=r;rfl
 | byt _=>obtain⟨t,rfl⟩:=r;rfl
 | flt _=>obtain⟨t,rfl⟩:=r;rfl
 | ref _=>cases r;rfl
 | ty _=>cases r;rfl
theorem RelV.inj {x y:V} {u:Value} (r:RelV x u) (q:RelV y u):x=y:=y28 (r.abs.symm.trans q.abs)
theorem Vals.inj:∀{xs ys:List V} {us:List Value},Vals xs us->Vals ys us->xs=ys
 | _,_,_,.nil,.nil=>rfl
 | _,_,_,.cons r t,.cons r' t'=>by rw[r.inj r',Vals.inj t t']
section
variable {X:Cx} {pins:List (Addr×Obj)} {σ:St} {H:Hp} {s:y04} {a:Addr} {xs ys:List V}
theorem SqL.of {K:y00} (h:H a=some (.lst xs)):SqL K H a xs:=.inl (.inl h)
theorem SqT.of {K:y00} (h:H a=some (.tup xs)):SqT K H a xs:=.inl (.inl h)
theorem Inv.list (I:Inv X pins σ H s) (h:SqL X.K H a xs):∃its:List Value,Vals xs its/\PlainL s.heap a its.toArray/\xs.length<=y0j:=by
 rcases h with h|⟨o,its,n,hk,hc,hd,hs,hz,r⟩
 ·obtain⟨z,its,n,r,e⟩:=h.ok I.hok
  exact⟨its,r,⟨_,n,e,rfl,rfl,rfl⟩,z⟩
 ·refine⟨its.toList,r,⟨o,n,I.kIn a o hk,hc,hd,by simpa using hs⟩,?_⟩
  have e:=r.length
  simp only[y1v] at e
  omega
theorem Inv.tuple (I:Inv X pins σ H s) (h:SqT X.K H a xs):∃its:List Value,Vals xs its/\IsTup s.heap a its.toArray/\xs.length<=y0j:=by
 rcases h with h|⟨o,its,n,hk,hc,hs,hz,r⟩
 ·obtain⟨z,its,r,p⟩:=h.ok I.hok
  exact⟨its,r,p,z⟩
 ·refine⟨its.toList,r,⟨o,I.kIn a o hk,hc,n,by simpa using hs⟩,?_⟩
  have e:=r.length
  simp only[y1v] at e
  omega
theorem Inv.list_inj (I:Inv X pins σ H s) (h:SqL X.K H a xs) (h':SqL X.K H a ys):xs=ys:=by
 obtain⟨its,r,⟨o,n,e,_,_,d⟩,_⟩:=I.list h
 obtain⟨its',r',⟨o',n',e',_,_,d'⟩,_⟩:=I.list h'
 rw[e] at e';cases e'
 rw[d] at d'
 injection d' with d1 _
 have:its=its':=by simpa using congrArg Array.toList d1
 subst this
 exact r.inj r'
theorem Inv.tuple_inj (I:Inv X pins σ H s) (h:SqT X.K H a xs) (h':SqT X.K H a ys):xs=ys:=by
 obtain⟨its,r,⟨o,e,_,n,d⟩,_⟩:=I.tuple h
 obtain⟨its',r',⟨o',e',_,n',d'⟩,_⟩:=I.tuple h'
 rw[e] at e';cases e'
 rw[d] at d'
 injection d' with d1 _
 have:its=its':=by simpa using congrArg Array.toList d1
 subst this
 exact r.inj r'
end
abbrev Cx.wish (X:Cx) (E:Value->y04->Prop):Cx:={ X with xe:=E }
abbrev Cx.nox (X:Cx):Cx:=X.wish fun _ _=>False
theorem Cx.Ok.wish {X:Cx} (ok:X.Ok) (E:Value->y04->Prop):(X.wish E).Ok :=
 ⟨ok.mod,ok.kind,ok.glob,ok.blt,ok.above,ok.inj,ok.has,ok.cab,ok.hd,ok.frames,ok.stk,ok.exf,ok.bs,ok.bsz,ok.noex,ok.exfs,ok.funs,ok.frf⟩
theorem Cx.Ok.unwish {X:Cx} {E:Value->y04->Prop} (ok:(X.wish E).Ok):X.Ok :=
 ⟨ok.mod,ok.kind,ok.glob,ok.blt,ok.above,ok.inj,ok.has,ok.cab,ok.hd,ok.frames,ok.stk,ok.exf,ok.bs,ok.bsz,ok.noex,ok.exfs,ok.funs,ok.frf⟩
section
variable {X:Cx} {pins:List (Addr×Obj)} {σ:St} {H:Hp} {s:y04} {E:Value->y04->Prop}
theorem Inv.wish (I:Inv X pins σ H s) (E:Value->y04->Prop):Inv (X.wish E) pins σ H s:=⟨I.ok.wish E,I.os,I.bare,I.base,I.loc,I.cell,I.free,I.freeC,I.pin,I.hok,I.len⟩
theorem Inv.unwish (I:Inv (X.wish E) pins σ H s):Inv X pins σ H s:=⟨I.ok.unwish,I.os,I.bare,I.base,I.loc,I.cell,I.free,I.freeC,I.pin,I.hok,I.len⟩
theorem SP.unwish {D:Ends} {f:Flow} {s':y04} (h:SP (X.wish E) pins D f s'):SP X pins D f s':=by
 cases f with
 | next=>obtain⟨σ',H',I,q⟩:=h;exact⟨σ',H',I.unwish,q⟩
 | brk=>obtain⟨σ',H',I,q⟩:=h;exact⟨σ',H',I.unwish,q⟩
 | cont=>obtain⟨σ',H',I,q⟩:=h;exact⟨σ',H',I.unwish,q⟩
 | ret u=>obtain⟨v,σ',H',I,r,q⟩:=h;exact⟨v,σ',H',I.unwish,r,q⟩
theorem PE.nox {e:Expr} {t:TE} (h:PE X.nox e t):PE X e t:=fun pins s σ H Q I hw =>
 y1c (h pins s σ H Q (I.wish _) hw) (fun _ _ ⟨v,H',I',r,q⟩=>⟨v,H',I'.unwish,r,q⟩) fun _ _ z=>y1t z
theorem PT.nox {e:Expr} {t:TT} (h:PT X.nox e t):PT X e t:=fun pins s σ H Q I hw =>
 y1c (h pins s σ H Q (I.wish _) hw) (fun _ _ ⟨H',I',q⟩=>⟨H',I'.unwish,q⟩) fun _ _ z=>y1t z
theorem PSs.nox {st:List Stmt} {t:TS} (h:PSs X.nox st t):PSs X st t:=fun pins s σ H D I hw =>
 y1c (h pins s σ H D (I.wish _) hw) (fun _ _ q=>q.unwish) fun _ _ z=>y1t z
end
section
variable {X:Cx} {st:Stmt} {rest:List Stmt} {t u:TS} {e:Expr} {te:TE} {pos:Pos}
def zkq:TS:=fun D σ H=>D.nx σ H
def tSeq (t u:TS):TS:=fun D σ H=>t { D with nx:=u D } σ H
theorem zdx:PSs X [] zkq:=fun _ _ σ H _ I h=>wpAny_execs_nil ⟨σ,H,I,h⟩
theorem z37 (h1:PS X st t) (h2:PSs X rest u):PSs X (st::rest) (tSeq t u):=by
 intro pins s σ H D I h
 refine wpAny_execs_cons (thn (h1 pins s σ H { D with nx:=u D } I h) fun f s1 q=>?_)
 cases f with
 | next =>
  obtain⟨σ',H',I',q⟩:=q
  exact h2 pins s1 σ' H' D I' q
 | ret v=>exact q
 | brk=>exact q
 | cont=>exact q
theorem z4f (h1:PS X st t):PSs X [st] t:=by
 intro pins s σ H D I h
 refine wpAny_execs_cons (thn (h1 pins s σ H D I h) fun f s1 q=>?_)
 cases f with
 | next=>exact wpAny_execs_nil q
 | ret v=>exact q
 | brk=>exact q
 | cont=>exact q
theorem Inv.quiet {pins:List (Addr×Obj)} {σ:St} {H:Hp} {s:y04} (I:Inv X pins σ H s):interactive X.env=false:=by simp[interactive,I.ok.kind]
def zmy (te:TE):TS:=fun D σ H=>te σ H fun _ H1=>D.nx σ H1
theorem zdy (he:PE X e te) (hs:swapsWith e none pos.line X.env=pure false:=by rfl):PS X (.Expr e pos) (zmy te):=by
 intro pins s σ H D I h
 exact wpAny_Expr_any (thn (he pins s σ H _ I h) fun v s1 ⟨x,H1,I1,r1,q1⟩=>⟨σ,H1,I1,q1⟩) I.quiet hs
def tRet (te:TE):TS:=fun D σ H=>te σ H D.rt
theorem z94 (he:PE X e te):PS X (.Return (some e) pos) (tRet te):=by
 intro pins s σ H D I h
 exact wpAny_Return_some (thn (he pins s σ H _ I h) fun v s1 ⟨x,H1,I1,r1,q1⟩=>⟨x,σ,H1,I1,r1,q1⟩)
def tIfS (c:TT) (t u:TS):TS:=fun D σ H=>c σ H fun b H1=>if b=true then t D σ H1 else u D σ H1
theorem zgg {c:Expr} {a b:List Stmt} {tc:TT} (hc:PT X c tc) (ha:PSs X a t) (hb:PSs X b u):PS X (.If c a b pos) (tIfS tc t u):=by
 intro pins s σ H D I h
 refine wpAny_If (thn (hc pins s σ H _ I h) fun d s1 ⟨H1,I1,q1⟩=>?_)
 cases d with
 | true=>exact ha pins s1 σ H1 D I1 q1
 | false=>exact hb pins s1 σ H1 D I1 q1
end
abbrev TG:=V->St->Hp->(St->Hp->Prop)->Prop
abbrev TGs:=List V->St->Hp->(St->Hp->Prop)->Prop
noncomputable def PG (X:Cx) (target:Expr) (t:TG):Prop :=
 ∀(pins:List (Addr×Obj)) (s:y04) (σ:St) (H:Hp) (v:V) (u:Value) (Q:St->Hp->Prop),Inv X pins σ H s->RelV v u->t v σ H Q ->
  y0u (model X.prog X.w) X.A (assign target X.env u) (fun _ s'=>∃σ' H',Inv X pins σ' H' s'/\Q σ' H') X.xe s
noncomputable def PGs (X:Cx) (ts:List Expr) (t:TGs):Prop :=
 ∀(pins:List (Addr×Obj)) (s:y04) (σ:St) (H:Hp) (vs:List V) (us:List Value) (Q:St->Hp->Prop),Inv X pins σ H s->Vals vs us->t vs σ H Q ->
  y0u (model X.prog X.w) X.A (assignInOrder ((assignEach ts X.env).map (·.2)) us) (fun _ s'=>∃σ' H',Inv X pins σ' H' s'/\Q σ' H') X.xe s
section
variable {X:Cx} {pos:Pos}
def z9m (i:Nat):TG:=fun v σ H Q=>Q (σ.set i (some v)) H
theorem zan {i:Nat} {x:Str} (hN:X.N.Nodup) (hi:X.N[i]?=some x) (hx:Loc X.env.scope x) (hf:X.fn x=true\/X.env.scope.names.lookup x=some .local:=by first|exact .inl rfl|exact .inr rfl|assumption):PG X (.Name x pos) (z9m i):=by
 intro pins s σ H v u Q I r h
 exact wpAny_assign_Name (z7w I hN hi hx r (fun s' I'=>⟨_,H,I',h⟩) hf)
def gNil:TGs:=fun vs σ H Q=>vs=[]/\Q σ H
def zno (t:TG) (u:TGs):TGs:=fun vs σ H Q=>∃v r,vs=v::r/\t v σ H fun σ' H'=>u r σ' H' Q
theorem ze2:PGs X [] gNil:=by
 intro pins s σ H vs us Q I r h
 obtain⟨e,h⟩:=h
 subst e
 cases r
 exact assignInOrder_nil ⟨σ,H,I,h⟩
theorem z83 {e:Expr} {es:List Expr} {t:TG} {u:TGs} (h1:PG X e t) (h2:PGs X es u)
  (hs:(assignEach (e::es) X.env).map (·.2)=assign e X.env::(assignEach es X.env).map (·.2):=by rfl):PGs X (e::es) (zno t u):=by
 intro pins s σ H vs us Q I r h
 obtain⟨v,vr,e1,h⟩:=h
 subst e1
 cases r with
 | cons r rr =>
  rw[hs]
  refine assignInOrder_cons (thn (h1 pins s σ H _ _ _ I r h) fun _ s1 ⟨σ1,H1,I1,q1⟩=>?_)
  exact h2 pins s1 σ1 H1 _ _ Q I1 rr q1
def gTup (K:y00) (n:Nat) (t:TGs):TG:=fun v σ H Q=>∃a xs,v=.ref a/\SqT K H a xs/\xs.length=n/\t xs σ H Q
theorem zi0 {es:List Expr} {k:Nat} {t:TGs} {n:Nat} (hc:X.calm=true) (h:PGs X es t)
  (hn:(assignEach es X.env).length=n:=by rfl) (hst:(assignEach es X.env).findIdx? (·.1)=none:=by rfl):PG X (.Tuple es k pos) (gTup X.K n t):=by
 intro pins s σ H v u Q I r hw
 obtain⟨a,xs,e1,hq,hl,hw⟩:=hw
 subst e1
 cases r
 obtain⟨its,rv,ht,hz⟩:=I.tuple hq
 refine assign_Tuple_tuple (I.ok.hd hc) ht (by simp[hn,<- hl,rv.length]) hst fun h' hx=>?_
 have I1:Inv X pins σ H { s with heap:=h' }:=I.kept (t':=s.toks) fun b o e=>hx b o (y0y (y0c e)) e
 exact h pins _ σ H xs _ Q I1 (by simpa using rv) hw
def tAsg (te:TE) (g:TG):TS:=fun D σ H=>te σ H fun x H1=>g x σ H1 D.nx
theorem zhz {tg e:Expr} {te:TE} {g:TG} (he:PE X e te) (hg:PG X tg g) (hs:swapsWithSole [tg] e pos.line X.env=pure false:=by rfl) (hw:swappedStores [tg] e X.env=pure none:=by rfl)
  (h1:(assignEach [tg] X.env).map (·.2)=[assign tg X.env]:=by rfl):PS X (.Assign [tg] e pos) (tAsg te g):=by
 intro pins s σ H D I h
 refine wpAny_Assign_stores (thn (he pins s σ H _ I h) fun v s1 ⟨x,H1,I1,r1,q1⟩=>?_) hs hw
 rw[h1]
 exact thn (hg pins s1 σ H1 x v _ I1 r1 q1) fun _ s2 q=>q
theorem z44 {i:Nat} {x:Str} {e:Expr} {te:TE} {pos':Pos} (hN:X.N.Nodup) (hi:X.N[i]?=some x) (hx:Loc X.env.scope x) (he:PE X e te) (hs:swapsWith e (some (.Name x pos')) pos.line X.env=pure false:=by rfl) (hf:X.fn x=true\/X.env.scope.names.lookup x=some .local:=by first|exact .inl rfl|exact .inr rfl|assumption) :
  PS X (.Assign [.Name x pos'] e pos) (tAsg te (z9m i)):=by
 intro pins s σ H D I h
 refine wpAny_Assign_Name (thn (he pins s σ H _ I h) fun v s1 ⟨y,H1,I1,r1,q1⟩=>?_) hs
 exact z7w I1 hN hi hx r1 (fun s2 I2=>⟨_,H1,I2,q1⟩) hf
end
section
variable {X:Cx} {pos:Pos}
noncomputable def zko (c:TT) (tb:TS):TS:=fun D σ H=>∃W:Nat->St->Hp->Prop,(∃m,W m σ H)/\∀m σ H,W m σ H ->
 c σ H fun b H1=>if b=true then ∃N:St->Hp->Prop,(∀σ' H',N σ' H'->∃m',m'<m/\W m' σ' H')/\tb { D with nx:=N,ct:=N,bk:=D.nx } σ H1 else D.nx σ H1
theorem zge {c:Expr} {body:List Stmt} {tc:TT} {tb:TS} (hp:PassesOwn (model X.prog X.w) X.A X.env X.xe) (hc:PT X c tc) (hb:PSs X body tb):PS X (.While c body [] pos) (zko tc tb):=by
 intro pins s σ H D I h
 obtain⟨W,⟨m0,w0⟩,turn⟩:=h
 refine wpAny_While (codeAny_whileLoop (fun n s'=>∃σ' H',Inv X pins σ' H' s'/\W n σ' H') ?_ m0 ⟨σ,H,I,w0⟩)
 rintro n s1 ⟨σ1,H1,I1,w1⟩
 refine wpAny_passesOwn hp (thn (hc pins s1 σ1 H1 _ I1 (turn n σ1 H1 w1)) fun b s2 ⟨H2,I2,q2⟩=>?_)
 cases b with
 | true =>
  obtain⟨N,hN,q2⟩:=q2
  rw[if_pos rfl]
  refine wpAny_passesOwn hp (thn (hb pins s2 σ1 H2 _ I2 q2) fun f s3 q3=>?_)
  cases f with
  | next =>
   obtain⟨σ3,H3,I3,n3⟩:=q3
   obtain⟨m',hm,w3⟩:=hN σ3 H3 n3
   exact⟨m',hm,σ3,H3,I3,w3⟩
  | cont =>
   obtain⟨σ3,H3,I3,n3⟩:=q3
   obtain⟨m',hm,w3⟩:=hN σ3 H3 n3
   exact⟨m',hm,σ3,H3,I3,w3⟩
  | brk=>exact q3
  | ret v=>exact q3
 | false =>
  rw[if_neg y1y]
  exact wpAny_execs_nil ⟨σ1,H2,I2,q2⟩
end
structure It where
 go:Nat->Hp->Prop
 yld:Nat->Hp->V->Hp->Prop
 stop:Nat->Hp->Prop
noncomputable def FpOk (X:Cx) (pins:List (Addr×Obj)) (H:Hp) (b:Addr):Prop :=
 H b=none/\b≠X.env.locals/\b∉X.fs/\(b∈X.ex\/X.s₀.heap.objs.size<=b)/\(∀x c,X.env.cells.lookup x=some c->c≠b)/\∀p∈X.pn++pins,p.1≠b
theorem Inv.fpOk {X:Cx} {pins:List (Addr×Obj)} {σ:St} {H H':Hp} {s:y04} {b:Addr} (I:Inv X pins σ H s) (hb:s.heap.objs.size<=b) (hn:H' b=none):FpOk X pins H' b:=by
 refine⟨hn,y15 (y0x I.lt hb),I.nofs hb,.inr (y1l I.sz hb),fun x c e z=>?_,fun p hp z=>?_⟩
 ·obtain⟨v,q⟩:=I.cell x c e
  exact absurd (y0x q.lt (by rw[z];exact hb)) (Nat.lt_irrefl _)
 ·exact absurd (y0x (y0c (I.pin p hp).1) (by rw[z];exact hb)) (Nat.lt_irrefl _)
structure Turn (P:y0q) (w:World) (K:y00) (tg:Expr) (J:It) (fp:List Addr) (it:Addr) (tn:Nat->Heap->Prop):Prop where
 mem:it∈fp
 obj:∀i h,tn i h->∀b∈fp,∃o,h.get? b=some o/\∀v,o.data≠.cell v
 keep:∀i h h',tn i h->(∀b∈fp,∀o,h.get? b=some o->h'.get? b=some o)->tn i h'
 item:∀(X:Cx),X.prog=P->X.w=w->X.K=K->X.calm=true->∀(i:Nat) (pins:List (Addr×Obj)) (s:y04) (σ:St) (H:Hp) (E:Value->y04->Prop),Inv X pins σ H s->(∀b∈fp,FpOk X pins H b)->tn i s.heap->J.go i H ->
  y0u (model P w) X.A (pyNext (.ref it)) (fun r s1=>∃u,r=some u /\
   y0u (model P w) X.A (letOwnedTupleGo tg (.ref it) u) (fun _ s2=>∃x H',Inv X pins σ H' s2/\RelV x u/\J.yld i H x H'/\tn (i+1) s2.heap/\∀b∈fp,H' b=none) E s1) E s
 done:∀(X:Cx),X.prog=P->X.w=w->X.K=K->X.calm=true->∀(i:Nat) (pins:List (Addr×Obj)) (s:y04) (σ:St) (H:Hp) (E:Value->y04->Prop),Inv X pins σ H s->(∀b∈fp,FpOk X pins H b)->tn i s.heap->J.stop i H ->
  y0u (model P w) X.A (pyNext (.ref it)) (fun r s1=>r=none/\Inv X pins σ H s1) E s
 self:∀(A:Around) (i:Nat) (s:y04) (Q:Value->y04->Prop) (E:Value->y04->Prop),tn i s.heap->Q (.ref it) s->y0u (model P w) A (pyIter (.ref it)) Q E s
abbrev TI:=St->Hp->(It->Hp->Prop)->Prop
noncomputable def PIE (X:Cx) (pins:List (Addr×Obj)) (σ:St) (tg:Expr) (R:It->Hp->Prop) (itv:Value) (s2:y04):Prop :=
 ∃(it:Addr) (fp:List Addr) (tn:Nat->Heap->Prop) (J:It) (H':Hp),itv=.ref it/\Inv X pins σ H' s2/\Turn X.prog X.w X.K tg J fp it tn/\tn 0 s2.heap/\(∀b∈fp,FpOk X pins H' b)/\R J H'
noncomputable def PI (X:Cx) (tg iter:Expr) (wi:TI):Prop :=
 ∀(pins:List (Addr×Obj)) (s:y04) (σ:St) (H:Hp) (R:It->Hp->Prop),Inv X pins σ H s->wi σ H R ->
  y0u (model X.prog X.w) X.A (eval iter X.env) (fun v s1=>y0u (model X.prog X.w) X.A (pyIter v) (PIE X pins σ tg R) X.xe s1) X.xe s
theorem zju {M:Model} {A:Around} {E:Value->y04->Prop} {s:y04} {tg:Expr} {it:Addr} {u:Value} {o:Obj} {n:String} {vs:Array Value} {Q:Unit->y04->Prop} (ho:s.heap.get? it=some o) (hc:o.cls=.type n) (hd:o.data=.fields vs)
    (hn:["enumerate","zip","dict_itemiterator","dict_reverseitemiterator","odict_iterator","itertools.zip_longest","itertools.pairwise"].contains n=false) (hQ:Q () s):y0u M A (letOwnedTupleGo tg (.ref it) u) Q E s:=by
  unfold letOwnedTupleGo
  cases tg <;> first
    | exact y06 hQ
    | (cases u <;> first
        | exact y06 hQ
        | (refine y02 (wpAny_load ho ?_)
           rw[hc,hd]
           show y0u M A (if (["enumerate","zip","dict_itemiterator","dict_reverseitemiterator","odict_iterator","itertools.zip_longest","itertools.pairwise"].contains n && vs[0]? == some (rawInt _))=true then _ else _) Q E s
           rw[if_neg (by intro h;rw[hn,Bool.false_and] at h;cases h)]
           exact y06 hQ))
noncomputable def Itl (K:y00) (a:Addr):It :=
 ⟨fun i H=>∃xs x,SqL K H a xs/\xs[i]?=some x,fun i H x H'=>H'=H/\∀xs,SqL K H a xs->xs[i]?=some x,fun i H=>∃xs,SqL K H a xs/\xs.length<=i⟩
noncomputable def Itt (K:y00) (a:Addr):It :=
 ⟨fun i H=>∃xs x,SqT K H a xs/\xs[i]?=some x,fun i H x H'=>H'=H/\∀xs,SqT K H a xs->xs[i]?=some x,fun i H=>∃xs,SqT K H a xs/\xs.length<=i⟩
def Itr (lo:Int) (n:Nat):It:=⟨fun i _=>i<n,fun i H x H'=>H'=H/\x=.int (lo+i),fun i _=>n<=i⟩
theorem zd7 {P:y0q} {w:World} {K:y00} {tg:Expr} (a it:Addr):Turn P w K tg (Itl K a) [it] it (fun i h=>h.IsListIter it a i) where
 mem:=by simp
 obj:=fun i h st b hb=>by
  have e:b=it:=by simpa using hb
  subst e
  obtain⟨o,e,c,d⟩:=st
  exact⟨o,e,fun v z=>by rw[d] at z;cases z⟩
 keep:=fun i h h' st k=>st.at fun o e=>k it (by simp) o e
 item:=by
  intro X hP hw hK hc i pins s σ H E I hf st hg
  subst hP hw hK
  obtain⟨xs,x,hq,hx⟩:=hg
  obtain⟨its,rv,p,hz⟩:=I.list hq
  obtain⟨u,hu,ru⟩:=rv.get hx
  obtain⟨f0,f1,f2,f3,f4,f5⟩:=hf it (by simp)
  refine wpAny_pyNext_list_item st p.isList (x:=u) (by simpa using hu) fun h' st' sb=>?_
  have I1:Inv X pins σ H { s with heap:=h' }:=I.turned (t':=s.toks) (fun b o hb e=>(sb.2 b hb).trans e) f0 f1 f3 f4 f5
  obtain⟨o,e,c,d⟩:=id st'
  exact⟨u,rfl,zju (s:={ s with heap:=h' }) e c d (by decide) ⟨x,H,I1,ru,⟨rfl,fun ys hy=>by rw[I.list_inj hy hq];exact hx⟩,st',fun b hb=>(hf b hb).1⟩⟩
 done:=by
  intro X hP hw hK hc i pins s σ H E I hf st hg
  subst hP hw hK
  obtain⟨xs,hq,hx⟩:=hg
  obtain⟨its,rv,p,hz⟩:=I.list hq
  obtain⟨f0,f1,f2,f3,f4,f5⟩:=hf it (by simp)
  have hl:=rv.length
  exact wpAny_pyNext_list_end (I.ok.hd hc) st p.isList (by simp;omega) fun h' eb=>⟨rfl,I.turned (t':=s.toks) (fun b o hb e=>eb b o hb e) f0 f1 f3 f4 f5⟩
 self:=fun _ _ _ _ _ st h=>wpAny_pyIter_listiter st h
theorem zcc {P:y0q} {w:World} {K:y00} {tg:Expr} (a it:Addr):Turn P w K tg (Itt K a) [it] it (fun i h=>h.IsTupleIter it a i) where
 mem:=by simp
 obj:=fun i h st b hb=>by
  have e:b=it:=by simpa using hb
  subst e
  obtain⟨o,e,c,d⟩:=st
  exact⟨o,e,fun v z=>by rw[d] at z;cases z⟩
 keep:=fun i h h' st k=>st.at fun o e=>k it (by simp) o e
 item:=by
  intro X hP hw hK hc i pins s σ H E I hf st hg
  subst hP hw hK
  obtain⟨xs,x,hq,hx⟩:=hg
  obtain⟨its,rv,p,hz⟩:=I.tuple hq
  obtain⟨u,hu,ru⟩:=rv.get hx
  obtain⟨f0,f1,f2,f3,f4,f5⟩:=hf it (by simp)
  refine wpAny_pyNext_tuple_item st (show s.heap.IsTuple a its.toArray from p) (x:=u) (by simpa using hu) fun h' st' sb=>?_
  have I1:Inv X pins σ H { s with heap:=h' }:=I.turned (t':=s.toks) (fun b o hb e=>(sb.2 b hb).trans e) f0 f1 f3 f4 f5
  obtain⟨o,e,c,d⟩:=id st'
  exact⟨u,rfl,zju (s:={ s with heap:=h' }) e c d (by decide) ⟨x,H,I1,ru,⟨rfl,fun ys hy=>by rw[I.tuple_inj hy hq];exact hx⟩,st',fun b hb=>(hf b hb).1⟩⟩
 done:=by
  intro X hP hw hK hc i pins s σ H E I hf st hg
  subst hP hw hK
  obtain⟨xs,hq,hx⟩:=hg
  obtain⟨its,rv,p,hz⟩:=I.tuple hq
  obtain⟨f0,f1,f2,f3,f4,f5⟩:=hf it (by simp)
  have hl:=rv.length
  exact wpAny_pyNext_tuple_end (I.ok.hd hc) st (show s.heap.IsTuple a its.toArray from p) (by simp;omega) fun h' eb=>⟨rfl,I.turned (t':=s.toks) (fun b o hb e=>eb b o hb e) f0 f1 f3 f4 f5⟩
 self:=fun _ _ _ _ _ st h=>wpAny_pyIter_tupleiter st h
theorem zcd {P:y0q} {w:World} {K:y00} {tg:Expr} (it:Addr) (lo:Int) (n:Nat):Turn P w K tg (Itr lo n) [it] it (fun i h=>IsRangeIter h it (lo+(i:Nat)*1) ((n:Int) - (i:Nat)) 1) where
 mem:=by simp
 obj:=fun i h st b hb=>by
  have e:b=it:=by simpa using hb
  subst e
  exact⟨_,st,fun v z=>by
   have z':Data.fields _=Data.cell v:=z
   cases z'⟩
 keep:=fun i h h' st k=>k it (by simp) _ st
 item:=by
  intro X hP hw hK hc i pins s σ H E I hf st hg
  subst hP hw hK
  obtain⟨f0,f1,f2,f3,f4,f5⟩:=hf it (by simp)
  have W:=Walks.range (prog:=X.prog) (w:=X.w) (I.ok.hd hc) it lo 1 n
  refine W.item i s _ _ hg st fun v h' tk hv st' kk=>?_
  obtain⟨t,rfl⟩:=hv
  have I1:Inv X pins σ H { s with heap:=h',toks:=tk }:=I.turned (fun b o hb e=>kk b o (by simpa using hb) e) f0 f1 f3 f4 f5
  refine⟨_,rfl,zju (s:={ s with heap:=h',toks:=tk }) (n:="range_iterator") st' rfl rfl (by decide) ⟨.int (lo+i),H,I1,⟨t,?_⟩,⟨rfl,rfl⟩,st',fun b hb=>(hf b hb).1⟩⟩
  rw[Int.mul_one]
 done:=by
  intro X hP hw hK hc i pins s σ H E I hf st hg
  subst hP hw hK
  obtain⟨f0,f1,f2,f3,f4,f5⟩:=hf it (by simp)
  exact wpAny_pyNext_range_end (I.ok.hd hc) st (by have:n<=i:=hg;omega) fun h' eb=>⟨rfl,I.turned (t':=s.toks) (fun b o hb e=>eb b o hb e) f0 f1 f3 f4 f5⟩
 self:=fun _ _ _ _ _ st h=>wpAny_pyIter_rangeiter st h
end L2
namespace L2
open PySem PySem.Spec PyProof.Rows
section
variable {X:Cx} {tg:Expr}
theorem zbh {pins:List (Addr×Obj)} {σ:St} {H:Hp} {s:y04} {R:It->Hp->Prop} {E:Value->y04->Prop} {lo hi:Int} {t u v:Tok} {tk:Nat} (I:Inv X pins σ H s) (h1:-(2 ^ 62)<=lo) (h2:lo<2 ^ 62) (h3:-(2 ^ 62)<=hi) (h4:hi<2 ^ 62)
  (q:R (Itr lo (hi - lo).toNat) H):y0u (model X.prog X.w) X.A (pyIter (.ref s.heap.objs.size)) (PIE X pins σ tg R) E { s with heap:=s.heap.push { cls:=.type "range",data:=.fields #[.int lo t,.int hi u,.int 1 v] },toks:=tk }:=by
 refine wpAny_pyIter_range (IsRange.new ..) (small_one h1 h2 h3 h4) ?_
 have I1:Inv X pins σ H { s with heap:=s.heap.push { cls:=.type "range",data:=.fields #[.int lo t,.int hi u,.int 1 v] },toks:=tk }:=I.kept fun b o e=>y03 _ e
 refine⟨(s.heap.push { cls:=.type "range",data:=.fields #[.int lo t,.int hi u,.int 1 v] }).objs.size,[(s.heap.push { cls:=.type "range",data:=.fields #[.int lo t,.int hi u,.int 1 v] }).objs.size],_,_,H,rfl,
  I1.kept (t':=tk) fun b o e=>y03 _ e,zcd _ lo (hi - lo).toNat,?_,fun b hb=>?_,q⟩
 ·have e1:lo+((0:Nat):Int)*1=lo:=by simp
  have e2:(((hi - lo).toNat:Nat):Int) - ((0:Nat):Int)=Builtin.Range.rangeSize lo hi 1:=by rw[rangeSize_one];split <;> omega
  show IsRangeIter _ _ (lo+((0:Nat):Int)*1) ((((hi - lo).toNat:Nat):Int) - ((0:Nat):Int)) 1
  rw[e1,e2]
  exact y0l _ rfl
 ·have e:b=(s.heap.push { cls:=.type "range",data:=.fields #[.int lo t,.int hi u,.int 1 v] }).objs.size:=by simpa using hb
  subst e
  exact I1.fpOk (y0o _) (I1.hok.fresh (y0o _))
def znn (ta:TA):TI:=fun σ H R=>ta σ H fun vs H1=>∃j:Int,vs=[.int j]/\-(2 ^ 62)<=j/\j<2 ^ 62/\R (Itr 0 j.toNat) H1
def znm (ta:TA):TI:=fun σ H R=>ta σ H fun vs H1=>∃i j:Int,vs=[.int i,.int j]/\(-(2 ^ 62)<=i/\i<2 ^ 62/\-(2 ^ 62)<=j/\j<2 ^ 62)/\R (Itr i (j - i).toNat) H1
theorem ze1 {a:Expr} {ta:TA} {p pos:Pos} (hg:Gl X "range") (hm:X.mg "range"=none) (ha:PA X [a] ta) (hs:y0a [a] X.env=[(false,eval a X.env)]:=by rfl):PI X tg (.Call (.Name "range" p) [a] [] pos) (znn ta):=by
 intro pins s σ H R I h
 refine Call_ (z4y I hg hm boot_range (y1o (thn (ha pos pins s σ H _ I h) fun us s1 ⟨vs,H1,I1,r1,q1⟩=>?_) hs rfl))
 obtain⟨j,e,q1,q2,q⟩:=q1
 subst e
 cases r1 with
 | cons r rr =>
  cases rr
  obtain⟨t,rfl⟩:=r
  exact call_range_1 (zbh I1 (by omega) (by omega) q1 q2 (by simpa using q))
theorem ze0 {a b:Expr} {ta:TA} {p pos:Pos} (hg:Gl X "range") (hm:X.mg "range"=none) (ha:PA X [a,b] ta) (hs:y0a [a,b] X.env=[(false,eval a X.env),(false,eval b X.env)]:=by rfl) (hs2:y0a [b] X.env=[(false,eval b X.env)]:=by rfl) :
  PI X tg (.Call (.Name "range" p) [a,b] [] pos) (znm ta):=by
 intro pins s σ H R I h
 refine Call_ (z4y I hg hm boot_range (y1o (thn (ha pos pins s σ H _ I h) fun us s1 ⟨vs,H1,I1,r1,q1⟩=>?_) (by rw[hs,hs2]) (by rw[hs2];rfl)))
 obtain⟨i,j,e,⟨q1,q2,q3,q4⟩,q⟩:=q1
 subst e
 cases r1 with
 | cons r rr =>
  cases rr with
  | cons r' rr =>
   cases rr
   obtain⟨t,rfl⟩:=r
   obtain⟨t',rfl⟩:=r'
   exact call_range_2 (zbh I1 q1 q2 q3 q4 q)
noncomputable def tFor (wi:TI) (g:TG) (tb:TS):TS:=fun D σ H=>wi σ H fun J H1=>∃W:Nat->Nat->St->Hp->Prop,(∃m,W 0 m σ H1)/\∀i m σ H,W i m σ H ->
 (J.stop i H/\D.nx σ H)\/(J.go i H/\∃N:St->Hp->Prop,(∀σ' H',N σ' H'->∃m',m'<m/\W (i+1) m' σ' H')/\∀x H',J.yld i H x H'->g x σ H' fun σ2 H2=>tb { D with nx:=N,ct:=N,bk:=D.nx } σ2 H2)
def z95 (fp:List Addr) (h:Heap):List (Addr×Obj):=fp.filterMap fun b=>(h.get? b).map fun o=>(b,o)
theorem z3y {fp:List Addr} {h:Heap} {b:Addr} {o:Obj} (hb:b∈fp) (e:h.get? b=some o):(b,o)∈z95 fp h:=List.mem_filterMap.mpr ⟨b,hb,by rw[e];rfl⟩
theorem zed {fp:List Addr} {h:Heap} {p:Addr×Obj} (hp:p∈z95 fp h):p.1∈fp/\h.get? p.1=some p.2:=by
 obtain⟨b,hb,e⟩:=List.mem_filterMap.mp hp
 cases q:h.get? b with
 | none=>rw[q] at e;cases e
 | some o =>
  rw[q] at e
  have e':(b,o)=p:=y28 e
  subst e'
  exact⟨hb,q⟩
theorem Inv.pinned {pins:List (Addr×Obj)} {σ:St} {H:Hp} {s:y04} {fp:List Addr} (I:Inv X pins σ H s) (hf:∀b∈fp,FpOk X pins H b) (ho:∀b∈fp,∃o,s.heap.get? b=some o/\∀v,o.data≠.cell v):Inv X (pins++z95 fp s.heap) σ H s :=
 I.pins_of fun p hp=>(y10.mp hp).elim (fun z=>I.pin p (y19 _ z)) fun z=>by
  obtain⟨hb,e⟩:=zed z
  obtain⟨f0,f1,f2,_⟩:=hf p.1 hb
  obtain⟨o,e',d⟩:=ho p.1 hb
  rw[e] at e';cases e'
  exact⟨e,f0,f1,f2,d⟩
theorem Inv.unpinned {pins pl:List (Addr×Obj)} {σ:St} {H:Hp} {s:y04} (I:Inv X (pins++pl) σ H s):Inv X pins σ H s:=I.pins_of fun p hp=>I.pin p (y19 _ (List.mem_append_left _ hp))
theorem zlg {iter:Expr} {body:List Stmt} {wi:TI} {g:TG} {tb:TS} {pos:Pos} (hp:PassesOwn (model X.prog X.w) X.A X.env X.xe) (hc:X.calm=true) (hi:PI X tg iter wi) (hg:PG X tg g) (hb:PSs X body tb)
  (hs:∀x,foldedSetIterable iter X.env x=pure x:=by intro _;rfl):PS X (.For tg iter body [] pos) (tFor wi g tb):=by
 intro pins s σ H D I h
 refine wpAny_For (thn (hi pins s σ H _ I h) fun v s1 h1=>thn h1 fun itv s2 h2=>?_) hs
 obtain⟨it,fp,tn,J,H2,e,I2,T,st2,f2,W,⟨m0,w0⟩,turn⟩:=h2
 subst e
 have stat:∀{H':Hp},(∀b∈fp,H' b=none)->∀b∈fp,FpOk X pins H' b:=fun hn b hb=>⟨hn b hb,(f2 b hb).2⟩
 refine codeAny_forLoop_any (fun n s'=>∃i σ' H',Inv X pins σ' H' s'/\tn i s'.heap/\(∀b∈fp,H' b=none)/\W i n σ' H') ?_ m0 ⟨0,σ,H2,I2,st2,fun b hb=>(f2 b hb).1,w0⟩
 rintro n s3 ⟨i,σ3,H3,I3,st3,fr3,w3⟩
 rcases turn i n σ3 H3 w3 with ⟨stop,qn⟩|⟨go,N,hN,step⟩
 ·refine wpAny_passesOwn hp (thn (T.done X rfl rfl rfl hc i pins s3 σ3 H3 X.xe I3 (stat fr3) st3 stop) fun r s4 ⟨hr,I4⟩=>?_)
  subst hr
  exact wpAny_execs_nil ⟨σ3,H3,I4,qn⟩
 ·refine wpAny_passesOwn hp (thn (T.item X rfl rfl rfl hc i pins s3 σ3 H3 X.xe I3 (stat fr3) st3 go) fun r s4 ⟨u,hr,h4⟩=>?_)
  subst hr
  refine wpAny_passesOwn hp (thn h4 fun _ s5 ⟨x,H5,I5,r5,y5,st5,fr5⟩=>?_)
  have I5':=I5.pinned (stat fr5) (T.obj _ _ st5)
  refine wpAny_passesOwn hp (thn (hg _ s5 σ3 H5 x u _ I5' r5 (step x H5 y5)) fun _ s6 ⟨σ6,H6,I6,q6⟩=>?_)
  refine wpAny_passesOwn hp (thn (hb _ s6 σ6 H6 _ I6 q6) fun f s7 q7=>?_)
  have again:∀{σ7:St} {H7:Hp},Inv X (pins++z95 fp s5.heap) σ7 H7 s7->N σ7 H7->∃m,m<n/\∃i σ' H',Inv X pins σ' H' s7/\tn i s7.heap/\(∀b∈fp,H' b=none)/\W i m σ' H':=fun {σ7 H7} I7 n7=>by
   obtain⟨m',hm,w7⟩:=hN σ7 H7 n7
   refine⟨m',hm,i+1,σ7,H7,I7.unpinned,T.keep _ _ _ st5 fun b hb o e=>(I7.pin (b,o) (y19 _ (y19 _ (z3y hb e)))).1,fun b hb=>?_,w7⟩
   obtain⟨o,e,d⟩:=T.obj _ _ st5 b hb
   exact (I7.pin (b,o) (y19 _ (y19 _ (z3y hb e)))).2.1
  cases f with
  | next=>obtain⟨σ7,H7,I7,n7⟩:=q7;exact again I7 n7
  | cont=>obtain⟨σ7,H7,I7,n7⟩:=q7;exact again I7 n7
  | brk=>obtain⟨σ7,H7,I7,q7⟩:=q7;exact⟨σ7,H7,I7.unpinned,q7⟩
  | ret v=>obtain⟨x7,σ7,H7,I7,r7,q7⟩:=q7;exact⟨x7,σ7,H7,I7.unpinned,r7,q7⟩
end
end L2
namespace L2
open PySem PySem.Spec PyProof.Rows
abbrev R2:=V->V->Hp->VK->Prop
noncomputable def OpR (X:Cx) (f:Value->Value->Sem Value) (r:R2):Prop :=
 ∀(pins:List (Addr×Obj)) (s:y04) (σ:St) (H:Hp) (x y:V) (v u:Value) (Q:VK),Inv X pins σ H s->RelV x v->RelV y u->r x y H Q ->
  y0u (model X.prog X.w) X.A (f v u) (EP X pins σ Q) X.xe s
noncomputable def UnR (X:Cx) (f:Value->Sem Value) (r:V->Hp->VK->Prop):Prop :=
 ∀(pins:List (Addr×Obj)) (s:y04) (σ:St) (H:Hp) (x:V) (v:Value) (Q:VK),Inv X pins σ H s->RelV x v->r x H Q ->
  y0u (model X.prog X.w) X.A (f v) (EP X pins σ Q) X.xe s
noncomputable def z3l (X:Cx) (f:Value) (r:List V->Hp->VK->Prop):Prop :=
 ∀(pins:List (Addr×Obj)) (s:y04) (σ:St) (H:Hp) (xs:List V) (us:List Value) (Q:VK),Inv X pins σ H s->Vals xs us->r xs H Q ->
  y0u (model X.prog X.w) X.A (call f us) (EP X pins σ Q) X.xe s
noncomputable def TruR (X:Cx) (r:V->Hp->(Bool->Hp->Prop)->Prop):Prop :=
 ∀(pins:List (Addr×Obj)) (s:y04) (σ:St) (H:Hp) (x:V) (v:Value) (Q:Bool->Hp->Prop),Inv X pins σ H s->RelV x v->r x H Q ->
  y0u (model X.prog X.w) X.A (truthy v) (TP X pins σ Q) X.xe s
def tOp (r:R2) (ta tb:TE):TE:=fun σ H Q=>ta σ H fun x H1=>tb σ H1 fun y H2=>r x y H2 Q
def tUn (r:V->Hp->VK->Prop) (ta:TE):TE:=fun σ H Q=>ta σ H fun x H1=>r x H1 Q
def rI (C:Int->Int->Prop) (g:Int->Int->V):R2:=fun x y H Q=>∃i j,x=.int i/\y=.int j/\C i j/\Q (g i j) H
def rI0 (g:Int->Int->V):R2:=fun x y H Q=>∃i j,x=.int i/\y=.int j/\Q (g i j) H
def rU (g:Int->V):V->Hp->VK->Prop:=fun x H Q=>∃i,x=.int i/\Q (g i) H
section
variable {X:Cx} {a b c:Expr} {ta tb tc:TE} {pos:Pos}
theorem binT (ha:PE X a ta) (hb:PE X b tb) {pins:List (Addr×Obj)} {s:y04} {σ:St} {H:Hp} {R:V->V->Hp->Prop} (I:Inv X pins σ H s)
  (h:ta σ H fun x H1=>tb σ H1 fun y H2=>R x y H2) {Q:Value->y04->Prop} {f:Value->Value->Sem Value}
  (hf:∀v u s2 x y H2,Inv X pins σ H2 s2->RelV x v->RelV y u->R x y H2->y0u (model X.prog X.w) X.A (f v u) Q X.xe s2) :
  y0u (model X.prog X.w) X.A (eval a X.env) (fun v s₁=>y0u (model X.prog X.w) X.A (eval b X.env) (fun u s₂=>y0u (model X.prog X.w) X.A (f v u) Q X.xe s₂) X.xe s₁) X.xe s:=by
 refine thn (ha pins s σ H _ I h) fun v s1 ⟨x,H1,I1,r1,q1⟩=>?_
 refine thn (hb pins s1 σ H1 _ I1 q1) fun u s2 ⟨y,H2,I2,r2,q2⟩=>?_
 exact hf v u s2 x y H2 I2 r1 r2 q2
theorem ze3 {op:Operator} {r:R2} (ho:OpR X (binaryOp op) r) (ha:PE X a ta) (hb:PE X b tb):PE X (.BinOp a op b pos) (tOp r ta tb):=by
 intro pins s σ H Q I h
 exact wpAny_BinOp (binT ha hb I h fun v u s2 x y H2 I2 rx ry q=>ho pins s2 σ H2 x y v u Q I2 rx ry q)
theorem zli {op:UnaryOp} {r:V->Hp->VK->Prop} (ho:UnR X (unaryOp op) r) (ha:PE X a ta):PE X (.UnaryOp op a pos) (tUn r ta):=by
 intro pins s σ H Q I h
 exact UnaryOp_ (thn (ha pins s σ H _ I h) fun v s1 ⟨x,H1,I1,r1,q1⟩=>ho pins s1 σ H1 x v Q I1 r1 q1)
theorem opI {f:Value->Value->Sem Value} {C:Int->Int->Prop} {g:Int->Int->Int}
  (rule:∀(i j:Int) (t u:Tok) (s:y04) (Q:Value->y04->Prop) (E:Value->y04->Prop),C i j->Q (.int (g i j) s.toks) { s with toks:=s.toks+1 }->y0u (model X.prog X.w) X.A (f (.int i t) (.int j u)) Q E s) :
  OpR X f (rI C fun i j=>.int (g i j)):=by
 intro pins s σ H x y v u Q I rx ry h
 obtain⟨i,j,rfl,rfl,hc,q⟩:=h
 obtain⟨t,rfl⟩:=rx
 obtain⟨t',rfl⟩:=ry
 exact rule i j t t' s _ _ hc ⟨.int (g i j),H,I.tok _,⟨_,rfl⟩,q⟩
theorem opI0 {f:Value->Value->Sem Value} {g:Int->Int->Int}
  (rule:∀(i j:Int) (t u:Tok) (s:y04) (Q:Value->y04->Prop) (E:Value->y04->Prop),Q (.int (g i j) s.toks) { s with toks:=s.toks+1 }->y0u (model X.prog X.w) X.A (f (.int i t) (.int j u)) Q E s) :
  OpR X f (rI0 fun i j=>.int (g i j)):=by
 intro pins s σ H x y v u Q I rx ry h
 obtain⟨i,j,rfl,rfl,q⟩:=h
 obtain⟨t,rfl⟩:=rx
 obtain⟨t',rfl⟩:=ry
 exact rule i j t t' s _ _ ⟨.int (g i j),H,I.tok _,⟨_,rfl⟩,q⟩
theorem opB0 {f:Value->Value->Sem Value} {g:Int->Int->Bool}
  (rule:∀(i j:Int) (t u:Tok) (s:y04) (Q:Value->y04->Prop) (E:Value->y04->Prop),Q (.bool (g i j)) s->y0u (model X.prog X.w) X.A (f (.int i t) (.int j u)) Q E s) :
  OpR X f (rI0 fun i j=>.bl (g i j)):=by
 intro pins s σ H x y v u Q I rx ry h
 obtain⟨i,j,rfl,rfl,q⟩:=h
 obtain⟨t,rfl⟩:=rx
 obtain⟨t',rfl⟩:=ry
 exact rule i j t t' s _ _ ⟨.bl (g i j),H,I,rfl,q⟩
def CDiv (i j:Int):Prop:=0<j/\j<1073741824
def CMul (i j:Int):Prop:=(-(2 ^ 64)<i/\i<2 ^ 64)\/(-(2 ^ 64)<j/\j<2 ^ 64)
theorem CMul.ok {i j:Int} (h:CMul i j):IntMulOk i j:=by
 rcases h with ⟨h1,h2⟩|⟨h1,h2⟩
 ·exact .of_left (intBits_le_64 h1 h2)
 ·exact .of_right (intBits_le_64 h1 h2)
theorem zlr:OpR X (binaryOp .Add) (rI0 fun i j=>.int (i+j)):=opI0 fun _ _ _ _ _ _ _ q=>add_int q
theorem zln:OpR X (binaryOp .Sub) (rI0 fun i j=>.int (i - j)):=opI0 fun _ _ _ _ _ _ _ q=>sub_int q
theorem zlo:OpR X (binaryOp .Mult) (rI CMul fun i j=>.int (i*j)):=opI fun _ _ _ _ _ _ _ hc q=>mul_int q hc.ok
theorem zjg:OpR X (binaryOp .FloorDiv) (rI CDiv fun i j=>.int (i / j)):=opI fun i j _ _ _ _ _ hc q=>by
 have h1:(0:Int)<j:=hc.1
 have h2:j<1073741824:=hc.2
 exact floordiv_int (by omega) (by rw[Int.fdiv_eq_ediv_of_nonneg i (by omega)];exact q) (.inl (PyProof.noPylong_small (by omega)))
theorem zlp:OpR X (binaryOp .Mod) (rI (fun _ j=>0<j) fun i j=>.int (i % j)):=opI fun i j _ _ _ _ _ hc q=>by
 have h1:(0:Int)<j:=hc
 exact mod_int' (by omega) (by rw[Int.fmod_eq_emod_of_nonneg i (by omega)];exact q)
theorem unI {f:Value->Sem Value} {g:Int->Int}
  (rule:∀(i:Int) (t:Tok) (s:y04) (Q:Value->y04->Prop) (E:Value->y04->Prop),Q (.int (g i) s.toks) { s with toks:=s.toks+1 }->y0u (model X.prog X.w) X.A (f (.int i t)) Q E s) :
  UnR X f (rU fun i=>.int (g i)):=by
 intro pins s σ H x v Q I rx h
 obtain⟨i,rfl,q⟩:=h
 obtain⟨t,rfl⟩:=rx
 exact rule i t s _ _ ⟨.int (g i),H,I.tok _,⟨_,rfl⟩,q⟩
theorem zht:UnR X (unaryOp .USub) (rU fun i=>.int (-i)):=unI fun _ _ _ _ _ q=>neg_int q
end
noncomputable def scal:V->V->Bool
 | .non,.non=>true|.non,.int _=>true|.int _,.non=>true|.non,.bl _=>true|.bl _,.non=>true|.non,.str _=>true|.str _,.non=>true
 | .int _,.int _=>true|.bl _,.bl _=>true|.str _,.str _=>true|.byt _,.byt _=>true
 | .int _,.str _=>true|.str _,.int _=>true|.bl _,.str _=>true|.str _,.bl _=>true
 | _,_=>false
def rEq:R2:=fun x y H Q=>scal x y=true/\Q (.bl (decide (x=y))) H
theorem zk2 {i j:Int}:decide (V.int i=V.int j)=(i == j):=by
 rw[Bool.eq_iff_iff]
 simp
theorem zmg {i j:Bool}:decide (V.bl i=V.bl j)=(i == j):=by
 rw[Bool.eq_iff_iff]
 simp
theorem zk1 {i j:Str}:decide (V.str i=V.str j)=(i == j):=by
 rw[Bool.eq_iff_iff]
 simp
theorem zk3 {i j:Array UInt8}:decide (V.byt i=V.byt j)=(i.toList == j.toList):=by
 rw[Bool.eq_iff_iff]
 cases i
 cases j
 simp
section
variable {X:Cx} {a b c:Expr} {ta tb tc:TE} {pos:Pos}
theorem z25 {pins:List (Addr×Obj)} {σ:St} {H:Hp} {s:y04} {Q:VK} {k k':Bool} (I:Inv X pins σ H s) (q:Q (.bl k) H) (e:k=k'):EP X pins σ Q (.bool k') s:=by
 subst e
 exact⟨.bl k,H,I,rfl,q⟩
theorem znk:OpR X (compareOp .Eq) rEq:=by
 intro pins s σ H x y v u Q I rx ry h
 obtain⟨hs,q⟩:=h
 cases x with
 | non =>
  cases rx
  cases y with
  | non=>cases ry;exact PySem.EqNone.eq_none_none (z25 I q (by simp))
  | bl j=>cases ry;exact PySem.EqNone.eq_none_bool (z25 I q (by simp))
  | int j=>obtain⟨t',rfl⟩:=ry;exact PySem.EqNone.eq_none_int (z25 I q (by simp))
  | str j=>obtain⟨t',rfl⟩:=ry;exact PySem.EqNone.eq_none_str (z25 I q (by simp))
  | _=>exact absurd (show false=true from hs) y1y
 | bl i =>
  cases rx
  cases y with
  | non=>cases ry;exact PySem.EqNone.eq_bool_none (z25 I q (by simp))
  | bl j=>cases ry;exact eq_bool (z25 I q zmg)
  | str j=>obtain⟨t',rfl⟩:=ry;exact PySem.EqMixed.eq_bool_str (z25 I q (by simp))
  | _=>exact absurd (show false=true from hs) y1y
 | int i =>
  obtain⟨t,rfl⟩:=rx
  cases y with
  | non=>cases ry;exact PySem.EqNone.eq_int_none (z25 I q (by simp))
  | int j=>obtain⟨t',rfl⟩:=ry;exact eq_int (z25 I q zk2)
  | str j=>obtain⟨t',rfl⟩:=ry;exact PySem.EqMixed.eq_int_str (z25 I q (by simp))
  | _=>exact absurd (show false=true from hs) y1y
 | str i =>
  obtain⟨t,rfl⟩:=rx
  cases y with
  | non=>cases ry;exact PySem.EqNone.eq_str_none (z25 I q (by simp))
  | bl j=>cases ry;exact PySem.EqMixed.eq_str_bool (z25 I q (by simp))
  | int j=>obtain⟨t',rfl⟩:=ry;exact PySem.EqMixed.eq_str_int (z25 I q (by simp))
  | str j=>obtain⟨t',rfl⟩:=ry;exact eq_str (z25 I q zk1)
  | _=>exact absurd (show false=true from hs) y1y
 | byt i =>
  obtain⟨t,rfl⟩:=rx
  cases y with
  | byt j=>obtain⟨t',rfl⟩:=ry;exact PySem.W.eq_bytes (z25 I q zk3)
  | _=>exact absurd (show false=true from hs) y1y
 | _=>cases y <;> exact absurd (show false=true from hs) y1y
theorem zlq:OpR X (compareOp .Lt) (rI0 fun i j=>.bl (decide (i<j))):=opB0 fun _ _ _ _ _ _ _ q=>lt_int q
theorem z9a:OpR X (compareOp .Lt) (fun x y H Q=>∃i j,x=.str i/\y=.str j/\Q (.bl (decide (i.cps.toList<j.cps.toList))) H):=by
 intro pins s σ H x y v u Q I rx ry h
 obtain⟨i,j,rfl,rfl,q⟩:=h
 obtain⟨t,rfl⟩:=rx
 obtain⟨t',rfl⟩:=ry
 exact lt_str (z25 I q rfl)
theorem OpR.or {f:Value->Value->Sem Value} {r r':R2} (h:OpR X f r) (h':OpR X f r'):OpR X f (fun x y H Q=>r x y H Q\/r' x y H Q):=by
 intro pins s σ H x y v u Q I rx ry q
 rcases q with q|q
 ·exact h pins s σ H x y v u Q I rx ry q
 ·exact h' pins s σ H x y v u Q I rx ry q
theorem zbl (b:Expr) {op:CmpOp} (h:op≠.In:=by decide) (h2:op≠.NotIn:=by decide):behindInMarks op b=false:=by
 have e1:(op == CmpOp.In)=false:=by cases op <;> first|rfl|exact absurd rfl h
 have e2:(op == CmpOp.NotIn)=false:=by cases op <;> first|rfl|exact absurd rfl h2
 cases b <;> simp[behindInMarks,e1,e2]
theorem zjb {op:CmpOp} {r:R2} (ho:OpR X (compareOp op) r) (ha:PE X a ta) (hb:PE X b tb) (hm:behindInMarks op b=false):PE X (.Compare a [op] [b] pos) (tOp r ta tb):=by
 intro pins s σ H Q I h
 exact wpAny_Compare1 (binT ha hb I h fun v u s2 x y H2 I2 rx ry q=>ho pins s2 σ H2 x y v u Q I2 rx ry q) hm
def zkp (t:TE):TT:=fun σ H Q=>t σ H fun x H'=>∃k,x=.bl k/\Q k H'
theorem zam {op:CmpOp} {r:R2} (ho:OpR X (compareOp op) r) (ha:PE X a ta) (hb:PE X b tb) (hm:behindInMarks op b=false):PT X (.Compare a [op] [b] pos) (zkp (tOp r ta tb)):=by
 intro pins s σ H Q I h
 refine wpAny_isTrue_Compare1 (thn (ha pins s σ H _ I h) fun v s1 ⟨x,H1,I1,r1,q1⟩=>thn (hb pins s1 σ H1 _ I1 q1) fun u s2 ⟨y,H2,I2,r2,q2⟩ =>
  thn (ho pins s2 σ H2 x y v u _ I2 r1 r2 q2) fun c s3 ⟨z,H3,I3,r3,k,e,q3⟩=>?_) hm
 subst e
 cases r3
 exact wpAny_truthy_bool ⟨H3,I3,q3⟩
noncomputable def TruV (K:y00) (x:V) (H:Hp) (k:Bool):Prop :=
 match x with
 | .non=>k=false
 | .bl b=>k=b
 | .int i=>k=(i != 0)
 | .str y=>y.length<=y0j/\k=((y.length:Int) != 0)
 | .byt y=>y.size<=y0j/\k=((y.size:Int) != 0)
 | .ref p=>(∃xs,SqL K H p xs/\k=!xs.isEmpty)\/(∃xs,SqT K H p xs/\k=!xs.isEmpty)\/∃kvs,H p=some (.dK kvs)/\k=!kvs.isEmpty
 | _=>False
theorem zcp {κ:Type} {kvs:List (κ×V)} {vs:List (κ×Value)} (r:KV kvs vs):(!vs.isEmpty)=!kvs.isEmpty:=by
 cases r <;> rfl
theorem z7i {xs:List V} {its:List Value} (r:Vals xs its):(!its.toArray.isEmpty)=!xs.isEmpty:=by
 cases r <;> simp
theorem z7g:(y0j:Nat)<2 ^ 63:=by rw[sizeLine_eq];decide
theorem zkk:TruR X (fun x H Q=>∃k,TruV X.K x H k/\Q k H):=by
 intro pins s σ H x v Q I rx h
 obtain⟨k,e,q⟩:=h
 have hl:=z7g
 have hs:y0j=16777216:=sizeLine_eq
 cases x with
 | non =>
  cases rx
  have e':k=false:=e
  subst e'
  exact truthy_none ⟨H,I,q⟩
 | bl b =>
  cases rx
  have e':k=b:=e
  subst e'
  exact wpAny_truthy_bool ⟨H,I,q⟩
 | int i =>
  obtain⟨t,rfl⟩:=rx
  have e':k=(i != 0):=e
  subst e'
  exact PySem.P.truthy_int ⟨H,I,q⟩
 | str y =>
  obtain⟨t,rfl⟩:=rx
  obtain⟨hy,e'⟩:y.length<=y0j/\k=((y.length:Int) != 0):=e
  subst e'
  exact PySem.P.truthy_str (by omega) ⟨H,I.tok _,q⟩
 | byt y =>
  obtain⟨t,rfl⟩:=rx
  obtain⟨hy,e'⟩:y.size<=y0j/\k=((y.size:Int) != 0):=e
  subst e'
  exact PySem.W.truthy_bytes (by omega) ⟨H,I.tok _,q⟩
 | ref p =>
  cases rx
  have e':(∃xs,SqL X.K H p xs/\k=!xs.isEmpty)\/(∃xs,SqT X.K H p xs/\k=!xs.isEmpty)\/∃kvs,H p=some (.dK kvs)/\k=!kvs.isEmpty:=e
  rcases e' with ⟨xs,hx,e'⟩|⟨xs,hx,e'⟩|⟨kvs,hx,e'⟩
  ·subst e'
   obtain⟨its,r,pl,hz⟩:=I.list hx
   have hlen:=r.length
   exact wpAny_truthy_list pl.isList (by simp only[y0h];omega) ⟨H,I.tok _,by rw[z7i r];exact q⟩
  ·subst e'
   obtain⟨its,r,pl,hz⟩:=I.tuple hx
   have hlen:=r.length
   exact truthy_tuple pl (by simp only[y0h];omega) ⟨H,I.tok _,by rw[z7i r];exact q⟩
  ·subst e'
   obtain⟨hz,hS,vs,r,m⟩:kvs.length<=y0j/\(p == sysModules)=false/\∃vs,KV kvs vs/\s.heap.DictOf (z0j X.prog X.w) p vs:=I.hok p _ hx
   have hlen:kvs.length=vs.length:=Paired.length r
   exact wpAny_truthy_dict hS m (by omega) ⟨H,I.tok _,by rw[zcp r];exact q⟩
 | _=>exact (show False from e).elim
theorem zgd (ha:PE X a ta) (he:∀whole,isTrue a X.env whole=(do let v <- whole;standAt a.pos;holding [v] (truthy v))) :
  PT X a (fun σ H Q=>ta σ H fun x H'=>∃k,TruV X.K x H' k/\Q k H'):=by
 intro pins s σ H Q I h
 exact isTrue_plain (thn (ha pins s σ H _ I h) fun v s1 ⟨x,H1,I1,r1,q1⟩=>zkk pins s1 σ H1 x v Q I1 r1 q1) (he _)
theorem zcj:OpR X (binaryOp .Add) (fun x y H Q=>∃i j,x=.str i/\y=.str j/\i.length+j.length<=y0j/\Q (.str (i++j)) H):=by
 intro pins s σ H x y v u Q I rx ry h
 obtain⟨i,j,rfl,rfl,hz,q⟩:=h
 obtain⟨t,rfl⟩:=rx
 obtain⟨t',rfl⟩:=ry
 exact add_str (fun t' tk=>⟨.str (i++j),H,I.tok _,⟨_,rfl⟩,q⟩) hz
theorem z6r {x:V} {us:List Value} (r:Vals [x] us):∃u,us=[u]/\RelV x u:=by
 cases r with
 | cons r1 r2=>cases r2;exact⟨_,rfl,r1⟩
theorem zkj {x y:V} {us:List Value} (r:Vals [x,y] us):∃u w',us=[u,w']/\RelV x u/\RelV y w':=by
 cases r with
 | cons r1 r2 =>
  cases r2 with
  | cons r3 r4=>cases r4;exact⟨_,_,rfl,r1,r3⟩
theorem zfm (hc:X.calm=true):z3l X (.builtin "max") (fun xs H Q=>∃i j,xs=[.int i,.int j]/\Q (.int (if j > i then j else i)) H):=by
 intro pins s σ H xs us Q I r h
 obtain⟨i,j,rfl,q⟩:=h
 obtain⟨u,w',rfl,⟨t,rfl⟩,⟨t',rfl⟩⟩:=zkj r
 refine max_two_ints (I.ok.hd hc) fun h' tk k=>⟨_,H,I.kept k,?_,q⟩
 by_cases hj:j > i
 ·rw[if_pos hj,if_pos hj];exact⟨_,rfl⟩
 ·rw[if_neg hj,if_neg hj];exact⟨_,rfl⟩
theorem zfl (hc:X.calm=true):z3l X (.builtin "min") (fun xs H Q=>∃i j,xs=[.int i,.int j]/\Q (.int (if j<i then j else i)) H):=by
 intro pins s σ H xs us Q I r h
 obtain⟨i,j,rfl,q⟩:=h
 obtain⟨u,w',rfl,⟨t,rfl⟩,⟨t',rfl⟩⟩:=zkj r
 refine min_two_ints (I.ok.hd hc) fun h' tk k=>⟨_,H,I.kept k,?_,q⟩
 by_cases hj:j<i
 ·rw[if_pos hj,if_pos hj];exact⟨_,rfl⟩
 ·rw[if_neg hj,if_neg hj];exact⟨_,rfl⟩
theorem zfn:z3l X (.type "int") (fun xs H Q=>(∃i,xs=[.int i]/\Q (.int i) H)\/∃k,xs=[.bl k]/\Q (.int (if k then 1 else 0)) H):=by
 intro pins s σ H xs us Q I r h
 rcases h with ⟨i,rfl,q⟩|⟨k,rfl,q⟩
 ·obtain⟨u,rfl,t,rfl⟩:=z6r r
  exact call_int_int ⟨.int i,H,I,⟨_,rfl⟩,q⟩
 ·obtain⟨u,rfl,r1⟩:=z6r r
  cases r1
  exact call_int_bool ⟨.int (if k then 1 else 0),H,I.tok _,⟨_,rfl⟩,q⟩
end
end L2
namespace L2
open PySem PySem.Spec PyProof.Rows
section
variable {prog:y0q} {w:World} {A:Around} {E:Value->y04->Prop} {s:y04} {K:y00} {x dx C f:Addr} {mA:Str->Option Value} {name:Str} {v:Value}
end
section
variable {P:y0q} {w:World} {H H':Hp} {h h':Heap} {a C dx:Addr} {fs fs':List (Str×V)}
end
section
variable {X:Cx} {pins:List (Addr×Obj)} {σ:St} {H:Hp} {s:y04} {a C dx:Addr} {fs:List (Str×V)} {f:Str} {v:V} {A:Around} {E:Value->y04->Prop}
end
section
variable {X:Cx} {o e value:Expr} {f:Str} {pos pos' tpos:Pos} {ta tv:TE}
end
section
variable {X:Cx} {pins:List (Addr×Obj)} {σ:St} {H:Hp} {s:y04} {A:Around} {E:Value->y04->Prop} {Q:Value->y04->Prop} {c:Value} {b:Bool}
end
end L2
namespace L2
open PySem PySem.Spec PyProof.Rows
structure Room (k:Nat) (A:Around):Prop where
 hd:A.handled=none
 dp:A.depth+3*k+5<recursionLimit
 un:A.units+16*k+200<cLine
theorem Room.mono {j k:Nat} {A:Around} (r:Room k A) (h:j<=k):Room j A:=⟨r.hd,by have:=r.dp;omega,by have:=r.un;omega⟩
theorem Room.deeper {k:Nat} {A:Around} (r:Room (k+1) A) (env:Env):Room k (A.deeper env) :=
 ⟨r.hd,by have:=r.dp;show A.depth+1+3*k+5<_;omega,by have:=r.un;show A.units+3+16*k+200<_;omega⟩
theorem Room.in1 {k:Nat} {A:Around} (r:Room (k+1) A):Room k A.in1 :=
 ⟨r.hd,by have:=r.dp;show A.depth+3*k+5<_;omega,by have:=r.un;show A.units+1+16*k+200<_;omega⟩
theorem Room.depth {k:Nat} {A:Around} (r:Room k A):A.depth<recursionLimit:=by have:=r.dp;omega
theorem Room.units {k:Nat} {A:Around} (r:Room k A):A.units+64<cLine:=by have:=r.un;omega
def tNil:TA:=fun _ H Q=>Q [] H
def z2n (ta:TE) (tr:TA):TA:=fun σ H Q=>ta σ H fun x H1=>tr σ H1 fun xs H2=>Q (x::xs) H2
section
variable {X:Cx} {e:Expr} {es:List Expr} {te:TE} {t:TA} {pos:Pos}
theorem z17:PA X [] tNil:=fun _ _ _ _ H Q I h=>Calls.spliced_nil ⟨[],H,I,.nil,h⟩
theorem z0f (ha:PE X e te) (hr:PA X es t) (hs:y0a (e::es) X.env=(false,eval e X.env)::y0a es X.env:=by rfl):PA X (e::es) (z2n te t):=by
 intro pos pins s σ H Q I h
 rw[hs]
 show y0u _ _ (spliced ((false,eval e X.env)::backTo pos (y0a es X.env))) _ _ s
 refine Calls.spliced_cons (thn (ha pins s σ H _ I h) fun u s1 ⟨x,H1,I1,r1,q1⟩=>?_)
 exact thn (hr pos pins s1 σ H1 _ I1 q1) fun us s2 ⟨xs,H2,I2,r2,q2⟩=>⟨x::xs,H2,I2,.cons r1 r2,q2⟩
def tTup (t:TA):TE:=fun σ H Q=>t σ H fun xs H1=>xs.length<=y0j/\∀p,H1 p=none->Q (.ref p) (upd H1 p (.tup xs))
def tLst (t:TA):TE:=fun σ H Q=>t σ H fun xs H1=>xs.length<=y0j/\∀p,H1 p=none->Q (.ref p) (upd H1 p (.lst xs))
theorem z7b {x1} (h:PA X es t):PE X (.Tuple es x1 pos) (tTup t):=by
 intro pins s σ H Q I hq
 refine wpAny_Tuple_spliced (thn (h pos pins s σ H _ I hq) fun us s1 ⟨xs,H1,I1,r,z,q⟩=>⟨by rw[<- r.length];exact z,?_⟩)
 have hf:H1 s1.heap.objs.size=none:=I1.hok.fresh (y0o _)
 refine⟨.ref s1.heap.objs.size,upd H1 s1.heap.objs.size (.tup xs),I1.laid (t':=s1.toks) (fun b u e=>y03 _ e) (y0o _) ?_,rfl,q _ hf⟩
 exact⟨z,us,r,⟨_,y0l _ rfl,rfl,_,rfl⟩⟩
theorem zi1 (h:PA X es t):PE X (.List es pos) (tLst t):=by
 intro pins s σ H Q I hq
 refine wpAny_List_spliced (thn (h pos pins s σ H _ I hq) fun us s1 ⟨xs,H1,I1,r,z,q⟩=>⟨by rw[<- r.length];exact z,?_⟩)
 have hf:H1 s1.heap.objs.size=none:=I1.hok.fresh (y0o _)
 refine⟨.ref s1.heap.objs.size,upd H1 s1.heap.objs.size (.lst xs),I1.laid (t':=s1.toks) (fun b u e=>y03 _ e) (y0o _) ?_,rfl,q _ hf⟩
 exact⟨z,us,0,r,y0l _ rfl⟩
end
abbrev Sp:=List V->Hp->VK->XK->Prop
abbrev CXT:=List Env->Hp->y04->XK->Value->y04->Prop
structure Env0 (P:y0q) (w:World) (K:y00) (mg:Str->Option Value) (base:Heap) (A:Around) (outer:List Env) (s:y04) (H:Hp):Prop where
 frames:A.frames=some outer
 mod:Mod K mg base
 bs:∀b o,base.get? b=some o->s.heap.get? b=some o/\H b=none
 bsz:base.objs.size<=s.heap.objs.size
 funs:s.heap.FunFrames base outer
 frf:∀b∈frs outer,H b=none
 hok:HOk P w H s.heap
 bare:AllBare s.gens
noncomputable def CE (outer:List Env) (P:y0q) (w:World) (H:Hp) (s:y04) (Q:VK) (u:Value) (s':y04):Prop :=
 ∃v H',s'.os=s.os/\AllBare s'.gens/\Un (frs outer) [] H H' s.heap s'.heap/\HOk P w H' s'.heap/\RelV v u/\Q v H'
noncomputable def CR (CX:CXT) (outer:List Env) (P:y0q) (w:World) (H:Hp) (s:y04) (Q:VK) (E:XK) (r:Result) (s':y04):Prop :=
 match r with
 | .ok (.ret u)=>CE outer P w H s Q u s'
 | .ok _=>False
 | .error e=>CX outer H s E e s'
structure FnOk (P:y0q) (w:World) (K:y00) (mg:Str->Option Value) (base:Heap) (CX:CXT) (k:Nat) (f:Addr) (fd:y0b) (ps:List Str) (sp:Sp):Prop where
 len:∀vs H Q E,sp vs H Q E->vs.length=ps.length
 run:∀(A:Around) (outer:List Env) (s:y04) (H:Hp) (args:Args) (us:List Value) (vs:List V) (Q:VK) (E:XK),Room k A->Env0 P w K mg base A outer s H->BindsTo s fd args (ps.zip us)->Vals vs us->sp vs H Q E ->
  codeAny (model P w) A (.call (.ref f) args) (CR CX outer P w H s Q E) s
theorem FnOk.mono {P:y0q} {w:World} {K:y00} {mg:Str->Option Value} {base:Heap} {CX:CXT} {j k:Nat} {f:Addr} {fd:y0b} {ps:List Str} {sp:Sp} (F:FnOk P w K mg base CX j f fd ps sp) (h:j<=k) :
  FnOk P w K mg base CX k f fd ps sp:=⟨F.len,fun A outer s H args us vs Q E hr=>F.run A outer s H args us vs Q E (hr.mono h)⟩
theorem FnOk.imp {P:y0q} {w:World} {K:y00} {mg:Str->Option Value} {base:Heap} {CX:CXT} {k:Nat} {f:Addr} {fd:y0b} {ps:List Str} {sp sp':Sp} (F:FnOk P w K mg base CX k f fd ps sp)
  (h:∀vs H Q E,sp' vs H Q E->sp vs H Q E):FnOk P w K mg base CX k f fd ps sp' :=
 ⟨fun vs H Q E q=>F.len vs H Q E (h _ _ _ _ q),fun A outer s H args us vs Q E hr he hb hv hs=>F.run A outer s H args us vs Q E hr he hb hv (h _ _ _ _ hs)⟩
theorem Env0.in1 {P:y0q} {w:World} {K:y00} {mg:Str->Option Value} {base:Heap} {A:Around} {outer:List Env} {s:y04} {H:Hp} (e:Env0 P w K mg base A outer s H) :
  Env0 P w K mg base A.in1 outer s H:=⟨e.frames,e.mod,e.bs,e.bsz,e.funs,e.frf,e.hok,e.bare⟩
section
variable {X:Cx} {pins:List (Addr×Obj)} {σ:St} {H:Hp} {s s':y04}
theorem Inv.env0 (I:Inv X pins σ H s):Env0 X.prog X.w X.K X.mg X.base X.A X.stack s H :=
 ⟨I.ok.frames,I.ok.mod,I.bs,y1l I.ok.bsz I.sz,I.stack,I.stkFree,I.hok,I.bare⟩
theorem Inv.after {Q:VK} {u:Value} (I:Inv X pins σ H s) (h:CE X.stack X.prog X.w H s Q u s'):EP X pins σ Q u s':=by
 obtain⟨v,H',os,bare,un,hok,r,q⟩:=h
 obtain⟨hh,g,d,t,os'⟩:=s'
 obtain rfl:os'=s.os:=os
 exact⟨v,H',I.call (h':=hh) (g':=g) (d':=d) (t':=t) (ch:=[]) un hok bare (fun b z=>absurd z (by simp)),r,q⟩
end
def zn0 (sp:Sp) (dvs:List V) (E:XK) (t:TA):TE:=fun σ H Q=>t σ H fun vs H1=>sp (vs++dvs) H1 Q E
def z1f (K:y00) (fd:y0b) (ps:List Str) (ds:List Value):Prop :=
 ∀(s:y04) (us:List Value),K.In s.heap->(us++ds).length=ps.length->BindsTo s fd ⟨us,[]⟩ (ps.zip (us++ds))
theorem z1f.all {K:y00} {fd:y0b} {ps:List Str} (h:∀us:List Value,us.length=ps.length->bindArgs fd ⟨us,[]⟩=pure (ps.zip us)):z1f K fd ps []:=fun s us _ hl=>by
 rw[y1u] at hl ⊢
 exact .of_eq (h us hl)
def zca (CX:CXT) (X:Cx) (E:XK):Prop:=∀(pins:List (Addr×Obj)) (σ:St) (H:Hp) (s:y04) (e:Value) (s':y04),Inv X pins σ H s->CX X.stack H s E e s'->X.xe e s'
section
variable {X:Cx} {CX:CXT} {k:Nat} {f C:Addr} {fd:y0b} {ps:List Str} {sp:Sp} {dvs:List V} {ds:List Value} {E:XK} {x m:Str} {p pos apos:Pos} {e o:Expr} {es:List Expr} {ta:TE} {t:TA}
theorem zl2 {pins:List (Addr×Obj)} {σ:St} {H:Hp} {s:y04} {Q:VK} {us:List Value} {vs:List V} (F:FnOk X.prog X.w X.K X.mg X.base CX k f fd ps sp) (hr:Room k X.A) (hb:z1f X.K fd ps ds) (hd:Vals dvs ds) (hx:zca CX X E)
  (I:Inv X pins σ H s) (r:Vals vs us) (h:sp (vs++dvs) H Q E):y0u (model X.prog X.w) X.A (call (.ref f) us) (EP X pins σ Q) X.xe s:=by
 have r2:Vals (vs++dvs) (us++ds):=r.append hd
 have hl:(us++ds).length=ps.length:=by rw[<- r2.length];exact F.len _ _ _ _ h
 refine wpAny_call (codeAny_mono (F.run X.A X.stack s H ⟨us,[]⟩ (us++ds) (vs++dvs) Q E hr I.env0 (hb s us I.kIn hl) r2 h) fun r s' hq=>?_)
 cases r with
 | error e=>exact hx pins σ H s e s' I hq
 | ok fl =>
  cases fl with
  | ret u=>exact I.after hq
  | next=>exact y1t hq
  | brk=>exact y1t hq
  | cont=>exact y1t hq
theorem ze5 (F:FnOk X.prog X.w X.K X.mg X.base CX k f fd ps sp) (hr:Room k X.A) (hg:Gl X x) (hm:X.mg x=some (.ref f)) (hk:y08 X.K (.ref f)=true) (hb:z1f X.K fd ps ds) (hd:Vals dvs ds) (hx:zca CX X E)
  (ha:PA X (e::es) t) (hdb:(x == ("__debug__":Str))=false:=by decide) (he:y0a (e::es) X.env=(false,eval e X.env)::y0a es X.env:=by rfl) (hpl:(backTo pos (y0a es X.env)).any (·.1)=false:=by rfl) :
  PE X (.Call (.Name x p) (e::es) [] pos) (zn0 sp dvs E t):=by
 intro pins s σ H Q I h
 refine wpAny_Call_Name_kw (z56 I hg hm ?_ hdb)
 refine PySem.W.callWith_K (h₀:=X.base) I.ok.mod.kin hk (thn (ha pos pins s σ H _ I h) fun us s1 ⟨vs,H1,I1,r,q⟩=>⟨I1.kIn,?_⟩) he hpl
 exact zl2 F hr hb hd hx I1 r q
end
section
variable {X:Cx} {CX:CXT} {k:Nat} {f C:Addr} {fd:y0b} {ps ks:List Str} {sp:Sp} {E:XK} {x m:Str} {p pos apos kpos:Pos} {e o:Expr} {es:List Expr} {kws:List Keyword} {te ta:TE} {t tk:TA} {nm:Option Str}
variable {g:List Value->List Value->List Value} {gV:List V->List V->List V}
end
structure FnScope (N P:List Str) (sc:Scope):Prop where
 kind:sc.kind=.function
 co:sc.isCoroutine=false
 gen:sc.isGenerator=false
 nd:N.Nodup
 pre:N.take P.length=P
 par:∀x∈P,sc.names.lookup x=some .local\/sc.names.lookup x=some .cell
 nofree:∀y∈sc.names,y.2≠.free
theorem z9w {kindOf:Str->Option NameKind} {x:Str}:∀{binds:List (Str×Value)} {m:Str->Option Value},(∀v,(x,v)∉binds)->bindL kindOf binds m x=m x
  | [],_,_=>rfl
  | (n,v)::r,m,h=>by
    unfold bindL
    rw[z9w fun w hw=>h w (y05 _ hw)]
    split
    · have:x≠n:=by rintro rfl;exact h v y0e
      simp[this]
    · rfl
theorem z9y {kindOf:Str->Option NameKind} {x:Str}:∀{binds:List (Str×Value)} {m:Str->Option Value},(∀v,(x,v)∉binds)->bindC kindOf binds m x=m x
  | [],_,_=>rfl
  | (n,v)::r,m,h=>by
    unfold bindC
    rw[z9y fun w hw=>h w (y05 _ hw)]
    split
    · rfl
    · have:x≠n:=by rintro rfl;exact h v y0e
      simp[this]
theorem z9x {kindOf:Str->Option NameKind} {x:Str} {v:Value}:∀{P:List Str} {vs:List Value} {i:Nat} {m:Str->Option Value},P.Nodup->P[i]?=some x->vs[i]?=some v->kindOf x=some .local ->
  bindL kindOf (P.zip vs) m x=some v
 | [],_,_,_,_,h,_,_=>by simp at h
 | _::_,[],_,_,_,_,h,_=>by simp at h
 | p::P,w::vs,0,m,nd,h1,h2,hk=>by
  simp at h1 h2;subst h1;subst h2
  show bindL kindOf ((p,w)::P.zip vs) m p=_
  unfold bindL
  rw[z9w fun v hv=>(y0r.mp nd).1 (List.of_mem_zip hv).1,if_pos hk]
  simp
 | p::P,w::vs,i+1,m,nd,h1,h2,hk=>by
  show bindL kindOf ((p,w)::P.zip vs) m x=_
  unfold bindL
  exact z9x (i:=i) (y0r.mp nd).2 (by simpa using h1) (by simpa using h2) hk
theorem z9z {kindOf:Str->Option NameKind} {x:Str} {v:Value}:∀{P:List Str} {vs:List Value} {i:Nat} {m:Str->Option Value},P.Nodup->P[i]?=some x->vs[i]?=some v->kindOf x≠some .local ->
  bindC kindOf (P.zip vs) m x=some v
 | [],_,_,_,_,h,_,_=>by simp at h
 | _::_,[],_,_,_,_,h,_=>by simp at h
 | p::P,w::vs,0,m,nd,h1,h2,hk=>by
  simp at h1 h2;subst h1;subst h2
  show bindC kindOf ((p,w)::P.zip vs) m p=_
  unfold bindC
  rw[z9y fun v hv=>(y0r.mp nd).1 (List.of_mem_zip hv).1,if_neg hk]
  simp
 | p::P,w::vs,i+1,m,nd,h1,h2,hk=>by
  show bindC kindOf ((p,w)::P.zip vs) m x=_
  unfold bindC
  exact z9z (i:=i) (y0r.mp nd).2 (by simpa using h1) (by simpa using h2) hk
def start (N:List Str) (vs:List V):St:=vs.map some++y0g (N.length - vs.length) none
noncomputable def cxOf (CX:CXT) (P:y0q) (w:World) (K:y00) (mg:Str->Option Value) (base:Heap) (N:List Str) (qual:Str) (scope:Scope) (f:Addr) (cd:Value) (A:Around) (outer:List Env) (s:y04) (H:Hp) (E:XK):Cx where
 prog:=P
 w:=w
 K:=K
 mg:=mg
 base:=base
 A:=A.deeper (envOfC qual scope s.heap.objs.size f cd)
 N:=N
 s₀:=s
 H₀:=H
 env:=envOfC qual scope s.heap.objs.size f cd
 outer:=outer
 stack:=envOfC qual scope s.heap.objs.size f cd::outer
 ex:=[]
 calm:=true
 fn:=fun _=>true
 pn:=[]
 xe:=fun e s'=>y0u (model P w) (A.deeper (envOfC qual scope s.heap.objs.size f cd)) (leaving (envOfC qual scope s.heap.objs.size f cd) e) (fun _ s''=>CX outer H s E e s'') (fun e' s''=>CX outer H s E e' s'') s'
theorem zc6 {sc:Scope} {n:Nat} {x:Str} (h:sc.names.lookup x=some .cell):∃c,(cellsFrom n sc.names []).lookup x=some c:=by
 have q:=PySem.W.cellsFrom_some sc.names n [] (.inl h)
 exact Option.isSome_iff_exists.mp q
theorem z9i {CX:CXT} {P:y0q} {w:World} {K:y00} {mg:Str->Option Value} {base:Heap} {N ps:List Str} {qual:Str} {scope:Scope} {f:Addr} {cd:Value} {A:Around} {outer:List Env} {s s1:y04} {H:Hp} {E:XK} {us:List Value} {vs:List V}
  (S:FnScope N ps scope) (hd:A.handled=none) (e0:Env0 P w K mg base A outer s H) (hl:vs.length=ps.length) (r:Vals vs us)
  (x:InCallC s s.heap.objs.size (bindL (envOfC qual scope s.heap.objs.size f cd).kindOf (ps.zip us) fun _=>none) (cellsFrom (s.heap.objs.size+1) scope.names []) (bindC (envOfC qual scope s.heap.objs.size f cd).kindOf (ps.zip us) fun _=>none) s1) :
  Inv (cxOf CX P w K mg base N qual scope f cd A outer s H E) [] (start N vs) H s1:=by
 have hpl:ps.length<=N.length:=by have:=congrArg List.length S.pre;rw[List.length_take] at this;omega
 obtain⟨h1,tk,rfl,hk⟩:=x.done
 have noA:∀b:Addr,b∉(cxOf CX P w K mg base N qual scope f cd A outer s H E).ex:=fun b z=>absurd (show b∈([]:List Addr) from z) (by simp)
 refine⟨⟨e0.mod,S.kind,rfl,rfl,y0o _,fun y z c h1 h2=>?_,fun y hy=>?_,fun y c _ h=>?_,fun _=>hd,Around.frames_deeper e0.frames,.inr ⟨rfl,rfl⟩,fun b z=>absurd z (noA b),e0.bs,e0.bsz,fun b _ _=>noA b,fun b z=>absurd z (noA b),e0.funs,e0.frf⟩,
  rfl,e0.bare,Un.kept hk,⟨_,x.toInCall.ns,fun i y v h1 h2 h3=>?_⟩,fun y c h=>⟨_,x.cell y c h⟩,e0.hok.fresh (y0o _),fun y c h=>?_,fun p hp=>absurd (show p∈([]:List (Addr×Obj)) from hp) (by simp),e0.hok.kept hk,?_⟩
 ·exact name_of_addr x.apart (y25 h1) (y25 h2)
 ·have hy:scope.names.lookup y=some .cell\/scope.names.lookup y=some .free:=hy
  rcases hy with hy|hy
  ·exact zc6 hy
  ·exact absurd rfl (S.nofree _ (y25 hy))
 ·exact Nat.le_of_lt (x.above y c (y25 h))
 ·have hi:i<vs.length:=by
   unfold start at h2
   by_cases hi:i<vs.length
   ·exact hi
   ·rw[y1i (by simpa using hi)] at h2
    rw[List.getElem?_replicate] at h2
    split at h2 <;> cases h2
  have ha:vs[i]?=some v:=by
   unfold start at h2
   rw[y1k (by simpa using hi),y14] at h2
   cases e:vs[i]? with
   | none=>rw[e] at h2;cases h2
   | some a=>rw[e] at h2;cases h2;rfl
  obtain⟨u,hu,rv⟩:=r.get ha
  have hp:ps[i]?=some y:=by
   rw[<- S.pre,List.getElem?_take_of_lt (by omega)];exact h1
  have ndP:ps.Nodup:=by rw[<- S.pre];exact S.nd.sublist (List.take_sublist _ _)
  refine⟨u,rv,?_⟩
  rcases S.par y (y1q hp) with k|k
  ·exact .inl ⟨k,z9x ndP hp hu k⟩
  ·obtain⟨c,e⟩:=zc6 (n:=s.heap.objs.size+1) k
   refine .inr ⟨.inl k,c,e,?_⟩
   have q:=x.cell y c e
   rw[z9z ndP hp hu (by show scope.names.lookup y≠_;rw[k];decide)] at q
   exact q
 ·exact e0.hok.fresh (Nat.le_of_lt (x.above y c (y25 h)))
 ·unfold start
  show _=N.length
  rw[y1x,y13,List.length_replicate]
  omega
theorem zjx {CX:CXT} {P:y0q} {w:World} {K:y00} {mg:Str->Option Value} {base:Heap} {k:Nat} {f:Addr} {name qual:Str} {params:Arguments} {body:List Stmt} {scope:Scope} {dV kV doc pm cdv ct oc:Value} {an od:Option Addr}
  {osl:Array (Option Value)} {N ps:List Str} {sp:Sp} (lk:K.lookup f=some ⟨oc,od,.func (y0i name qual params body scope dV kV doc pm an cdv ct),osl⟩) (hcd:y0f K cdv qual=true) (S:FnScope N ps scope)
  (len:∀vs H Q E,sp vs H Q E->vs.length=ps.length)
  (hbody:∀(A:Around) (outer:List Env) (s:y04) (H:Hp) (vs:List V) (Q:VK) (E:XK),Room k (A.deeper (envOfC qual scope s.heap.objs.size f cdv))->sp vs H Q E ->
   ∃t,PSs (cxOf CX P w K mg base N qual scope f cdv A outer s H E) body t/\t { nx:=fun _ H'=>Q .non H',rt:=Q } (start N vs) H) :
  FnOk P w K mg base CX (k+1) f (y0i name qual params body scope dV kV doc pm an cdv ct) ps sp:=by
 refine⟨len,fun A outer s H args us vs Q E hr e0 hb r hsp=>?_⟩
 have hl:=len _ _ _ _ hsp
 have KX:K.In s.heap:=e0.mod.kin.keeps fun b o e=>(e0.bs b o e).1
 have lim:s.heap.NoLimit:=e0.mod.nolimit.keeps fun b o e=>(e0.bs b o e).1
 have hkind:∀y∈ps.zip us,scope.names.lookup y.1=some .local\/(scope.names.lookup y.1=some .cell/\((cellsFrom (s.heap.objs.size+1) scope.names []).lookup y.1).isSome=true):=fun⟨n,v⟩ hy=>by
  rcases S.par n (List.of_mem_zip hy).1 with q|q
  ·exact .inl q
  ·exact .inr ⟨q,PySem.W.cellsFrom_some _ _ _ (.inl q)⟩
 refine codeAny_call_function hr.depth (KX _ _ lk) rfl S.co S.gen rfl (PySem.W.codeRec_of KX hcd) (hb _ _ _ _ ?_)
 refine wpAny_newFunctionEnv_cells S.kind hkind fun env he s1 x=>?_
 subst he
 refine⟨lim.keeps x.toInCall.keep,codeAny_func ?_⟩
 obtain⟨t,ht,hq⟩:=hbody A outer s H vs Q E (hr.deeper _) hsp
 have I:Inv (cxOf CX P w K mg base N qual scope f cdv A outer s H E) [] (start N vs) H s1:=z9i S hr.hd e0 hl r x
 refine y1c (ht [] s1 (start N vs) H _ I hq) (fun fl s' hs=>?_) fun e s' hs=>hs
 have fin:∀{σ':St} {H':Hp} {v:V} {u:Value},Inv (cxOf CX P w K mg base N qual scope f cdv A outer s H E) [] σ' H' s'->RelV v u->Q v H'->CE outer P w H s Q u s' :=
  fun {σ' H' v u} J rv q=>⟨v,H',J.os,J.bare,J.base,J.hok,rv,q⟩
 cases fl with
 | ret u =>
  obtain⟨v,σ',H',J,rv,q⟩:=hs
  exact fin J rv q
 | next =>
  obtain⟨σ',H',J,q⟩:=hs
  exact fin (v:=V.non) (u:=Value.none) J rfl q
 | brk =>
  obtain⟨_,_,_,q⟩:=hs
  exact y1t q
 | cont =>
  obtain⟨_,_,_,q⟩:=hs
  exact y1t q
end L2
namespace L2
open PySem PySem.Spec PyProof.Rows
section
variable {X:Cx} {x:Str} {p pos:Pos} {e:Expr} {es:List Expr} {t:TA} {id T:String} {r:List V->Hp->VK->Prop}
def tCB (r:List V->Hp->VK->Prop) (t:TA):TE:=fun σ H Q=>t σ H fun vs H1=>r vs H1 Q
theorem z38 (hc:z3l X (.builtin id) r) (hg:Gl X x) (hm:X.mg x=none) (hv:bootBuiltins x=some (.builtin id)) (ha:PA X (e::es) t) (hn:x≠"__name__":=by decide) (hdb:(x == ("__debug__":Str))=false:=by decide)
  (he:y0a (e::es) X.env=(false,eval e X.env)::y0a es X.env:=by rfl) (hpl:(backTo pos (y0a es X.env)).any (·.1)=false:=by rfl):PE X (.Call (.Name x p) (e::es) [] pos) (tCB r t):=by
 intro pins s σ H Q I h
 refine wpAny_Call_Name_kw (z4y I hg hm hv ?_ hn hdb)
 exact PyProof.Rows.callWith_builtin1 (thn (ha pos pins s σ H _ I h) fun us s1 ⟨vs,H1,I1,r1,q1⟩=>hc pins s1 σ H1 vs us Q I1 r1 q1) he hpl
theorem z4v (hc:z3l X (.type T) r) (hg:Gl X x) (hm:X.mg x=none) (hv:bootBuiltins x=some (.type T)) (ha:PA X (e::es) t) (hn:x≠"__name__":=by decide) (hdb:(x == ("__debug__":Str))=false:=by decide)
  (he:y0a (e::es) X.env=(false,eval e X.env)::y0a es X.env:=by rfl) (hpl:(backTo pos (y0a es X.env)).any (·.1)=false:=by rfl):PE X (.Call (.Name x p) (e::es) [] pos) (tCB r t):=by
 intro pins s σ H Q I h
 refine wpAny_Call_Name_kw (z4y I hg hm hv ?_ hn hdb)
 exact y1o (thn (ha pos pins s σ H _ I h) fun us s1 ⟨vs,H1,I1,r1,q1⟩=>hc pins s1 σ H1 vs us Q I1 r1 q1) he hpl
end
end L2
namespace HT
open PySem PyProof.Rows
section
open PySem.SeqAt
open PySem.AutoSeq1 (wpAny_loadPart')
open PySem.MeetsSeq PySem.MeetsSeq2 PySem.MeetsSeq3
end
section
variable {prog:y0q} {w:World} {A:Around} {E:Value->y04->Prop} {s:y04}
theorem cat_tup {t b:Addr} {vs ws:List Value} {Q:Value->y04->Prop} (ht:IsTup s.heap t vs.toArray) (hb:IsTup s.heap b ws.toArray) (hv:vs≠[])
  (h1:ws=[]->Q (.ref t) s) (h2:ws≠[]->Q (.ref s.heap.objs.size) { s with heap:=s.heap.push { cls:=.type "tuple",data:=.seq (vs++ws).toArray } })
  (hsz:vs.length+ws.length<=y0j):y0u (model prog w) A (binaryOp .Add (.ref t) (.ref b)) Q E s:=by
 obtain⟨⟨cls,dd,data,sl⟩,ho,hc,n,hd⟩:=id ht
 obtain⟨⟨cls2,dd2,data2,sl2⟩,ho2,hc2,n2,hd2⟩:=id hb
 simp only at hc hd hc2 hd2
 subst hc hd hc2 hd2
 have e:vs.toArray++ws.toArray=(vs++ws).toArray:=by simp
 by_cases hw:ws=[]
 ·exact concat_meets ⟨_,ho,rfl⟩ ⟨_,ho2,rfl⟩ noFill_tuple_add seq_tuple_add PySem.F.slot_tuple_add PySem.F.entry_tuple_add (PySem.F.args_tuple_add_2 _ _)
   (tuple_addW1 t b vs.toArray ws.toArray n n2 dd dd2 sl sl2 (by simpa using hv) (by simp[hw])) ⟨ho,ho2,h1 hw⟩
 ·refine concat_meets ⟨_,ho,rfl⟩ ⟨_,ho2,rfl⟩ noFill_tuple_add seq_tuple_add PySem.F.slot_tuple_add PySem.F.entry_tuple_add (PySem.F.args_tuple_add_2 _ _)
   (tuple_addW2 t b vs.toArray ws.toArray n n2 dd dd2 sl sl2 (by simpa using hv) (by simpa using hw) (by rw[y0h,y0h];exact hsz)) ⟨ho,ho2,?_⟩
  rw[e]
  exact h2 hw
def sIx (n d:Nat):Option Int->Nat
 | none=>d
 | some v=>if v<0 then (v+(n:Int)).toNat else min v.toNat n
theorem zl0 (n d:Nat) (hd:d<=n) (o:Option Int):sIx n d o<=n:=by
 cases o with
 | none=>exact hd
 | some v =>
  show (if v<0 then (v+(n:Int)).toNat else min v.toNat n)<=n
  by_cases hv:v<0
  ·rw[if_pos hv];omega
  ·rw[if_neg hv];exact Nat.min_le_right _ _
theorem zfi (v:Int) (n d:Nat):(if v<0 then max (v+(n:Int)) 0 else min v (n:Int))=((sIx n d (some v):Nat):Int):=by
 show (if v<0 then max (v+(n:Int)) 0 else min v (n:Int))=(((if v<0 then (v+(n:Int)).toNat else min v.toNat n):Nat):Int)
 by_cases hv:v<0
 ·simp only[if_pos hv];omega
 ·simp only[if_neg hv];omega
theorem zd0 (lo hi:Option Int) (n:Nat):Builtin.Slice.sliceAdjust lo hi 1 (n:Int)=(((sIx n 0 lo:Nat):Int),((sIx n n hi:Nat):Int)):=by
 have h1:¬((1:Int)<0):=by omega
 unfold Builtin.Slice.sliceAdjust
 simp only[h1,if_false]
 refine Prod.ext ?_ ?_
 ·cases lo with
  | none=>rfl
  | some v=>exact zfi v n 0
 ·cases hi with
  | none=>rfl
  | some v=>exact zfi v n n
theorem zci (i j:Nat):y1h (i:Int) (j:Int) 1=j - i:=by
 unfold y1h
 have h1:(1:Int) > 0:=by omega
 simp only[h1,if_true,Int.ediv_one]
 split <;> omega
theorem z72 {v:Value} {o:Option Int} {Q:Option Int->y04->Prop} (p:IsPart v o) (h:Q o s):y0u (model prog w) A (Builtin.Slice.slicePartIndex v) Q E s:=by
 cases p with
 | none=>exact slicePart_none h
 | int i t=>exact slicePart_int h
theorem sliceApplied_gen {sl:Addr} {vl vu:Value} {lo hi:Option Int} {n:Nat} {Q:Int×Int×Nat->y04->Prop} (hs:s.heap.IsSliceOf sl vl vu .none) (pl:IsPart vl lo) (pu:IsPart vu hi)
  (h:Q (((sIx n 0 lo:Nat):Int),1,sIx n n hi - sIx n 0 lo) s):y0u (model prog w) A (Builtin.Slice.sliceApplied (.ref sl) (pure (n:Int))) Q E s:=by
 obtain⟨os,hos,hcs,hds⟩:=id hs
 unfold Builtin.Slice.sliceApplied Builtin.Slice.sliceFields
 refine y02 (y02 (wpAny_field hos hds (x:=vl) rfl (y02 (wpAny_field hos hds (x:=vu) rfl (y02 (wpAny_field hos hds (x:=.none) rfl (y06 ?_)))))))
 refine y02 (slicePart_none ?_)
 show y0u _ _ (if ((1:Int) == 0)=true then _ else _) _ _ s
 rw[if_neg (by decide)]
 refine y02 (z72 pl (y02 (z72 pu (y02 (y06 ?_)))))
 show y0u _ _ (match Builtin.Slice.sliceAdjust lo hi 1 (n:Int) with|(lo,hi)=>pure (lo,(1:Int),y1h lo hi 1)) _ _ s
 rw[zd0 lo hi n]
 show y0u _ _ (pure (((sIx n 0 lo:Nat):Int),(1:Int),y1h ((sIx n 0 lo:Nat):Int) ((sIx n n hi:Nat):Int) 1)) _ _ s
 rw[zci]
 exact y06 h
theorem zgi (xs:Array Value) (i k:Nat):((List.range k).filterMap fun (m:Nat)=>xs[((i:Int)+(m:Int)*1).toNat]?).toArray=((xs.toList.drop i).take k).toArray:=by
 have e:(fun (m:Nat)=>xs[((i:Int)+(m:Int)*1).toNat]?)=fun m=>xs[i+m]?:=by
  funext m
  have:((i:Int)+(m:Int)*1).toNat=i+m:=by omega
  rw[this]
 rw[e]
 have:=pick_run xs i k
 rw[List.filterMap_map] at this
 have e2:((fun x=>xs[x]?) ∘ fun x=>i+x)=fun m=>xs[i+m]?:=rfl
 rw[e2] at this
 rw[this]
theorem getItem_tuple_cut {t sl:Addr} {items:Array Value} {vl vu:Value} {lo hi:Option Int} {Q:Value->y04->Prop} (ht:IsTup s.heap t items) (hs:s.heap.IsSliceOf sl vl vu .none) (pl:IsPart vl lo) (pu:IsPart vu hi)
  (hw:¬(sIx items.size 0 lo=0/\sIx items.size items.size hi=items.size))
  (h:Q (.ref s.heap.objs.size) { s with heap:=s.heap.push { cls:=.type "tuple",data:=.seq ((items.toList.drop (sIx items.size 0 lo)).take (sIx items.size items.size hi - sIx items.size 0 lo)).toArray } })
  (hsz:items.size<=y0j):y0u (model prog w) A (getItem (.ref t) (.ref sl)) Q E s:=by
 have htake:sizeOk (.seq ((items.toList.drop (sIx items.size 0 lo)).take (sIx items.size items.size hi - sIx items.size 0 lo)).toArray):=by
  show ((items.toList.drop (sIx items.size 0 lo)).take (sIx items.size items.size hi - sIx items.size 0 lo)).toArray.size<=y0j
  rw[y0h,List.length_take,List.length_drop,y1v]
  omega
 have hj:sIx items.size items.size hi<=items.size:=zl0 _ _ (y0o _) hi
 obtain⟨os,hos,hcs,hds⟩:=id hs
 have hTs:s.TypeIs (.ref sl) "slice":=⟨os,hos,hcs⟩
 unfold getItem
 try with_reducible refine wpAny_holding ?_
 first|refine y02 (y06 ?_)|skip
 refine y02 (wpAny_sequenceKey ht.typeIs (by decide) ?_)
 refine y02 (wpAny_callSpecial?_slot (name:=Str.ofString "__getitem__") ht.typeIs y1g
  (wpAny_call_entry y1g ht.typeIs entry_tuple_getitem ?_ (args_tuple_getitem _ _)))
 show y0u _ _ (Builtin.Tuple.tupleItemsOf (.ref t) >>= _) _ _ s
 refine y02 (tupleItemsOf_ ht ?_)
 refine y02 (wpAny_typeOf hTs ?_)
 rw[if_pos (by decide)]
 refine y02 (sliceApplied_gen hs pl pu ?_)
 have hno:¬((((sIx items.size 0 lo:Nat):Int) == 0 && (1:Int) == 1 && (sIx items.size items.size hi - sIx items.size 0 lo) == items.size)=true):=by
  intro q
  rw[y1a,y1a] at q
  have q1:((sIx items.size 0 lo:Nat):Int)=0:=eq_of_beq q.1.1
  have q2:sIx items.size items.size hi - sIx items.size 0 lo=items.size:=eq_of_beq q.2
  exact hw ⟨by omega,by omega⟩
 show y0u _ _ (if (((sIx items.size 0 lo:Nat):Int) == 0 && (1:Int) == 1 && (sIx items.size items.size hi - sIx items.size 0 lo) == items.size)=true then _ else _) _ _ s
 rw[if_neg hno,zgi]
 first
  | exact y02 (m:=y12 _) (wpAny_newObj_type (y06 ⟨_,rfl,y06 h⟩) htake)
  | exact y02 (m:=y12 _) (wpAny_newObj_type (y02 (y06 (y06 ⟨_,rfl,y06 h⟩))) htake)
  | exact y02 (y02 (m:=y12 _) (wpAny_newObj_type (y06 (y06 ⟨_,rfl,y06 h⟩)) htake))
  | exact y02 (y02 (m:=y12 _) (wpAny_newObj_type (y06 ⟨_,rfl,y06 h⟩) htake))
end
end HT
namespace L2
open PySem PySem.Spec PyProof.Rows
abbrev TO:=St->Hp->(Option Int->Hp->Prop)->Prop
noncomputable def PO (X:Cx) (e:Option Expr) (t:TO):Prop :=
 ∀(pins:List (Addr×Obj)) (s:y04) (σ:St) (H:Hp) (Q:Option Int->Hp->Prop),Inv X pins σ H s->t σ H Q ->
  y0u (model X.prog X.w) X.A (evalPart e X.env) (fun u s'=>∃o H',Inv X pins σ H' s'/\IsPart u o/\Q o H') X.xe s
def zis:TO:=fun _ H Q=>Q none H
def zmv (t:TE):TO:=fun σ H Q=>t σ H fun x H1=>∃i,x=.int i/\Q (some i) H1
section
variable {X:Cx} {e:Expr} {te:TE} {lo hi:Option Expr} {tl th:TO} {pos p2:Pos}
theorem zj7:PO X none zis:=by
 intro pins s σ H Q I h
 rw[evalPart_none]
 exact y06 ⟨none,H,I,.none,h⟩
theorem zj6 (h:PE X e te):PO X (some e) (zmv te):=by
 intro pins s σ H Q I hw
 rw[evalPart_some]
 refine thn (h pins s σ H _ I hw) fun u s1 ⟨x,H1,I1,r1,q1⟩=>?_
 obtain⟨i,rfl,q⟩:=q1
 obtain⟨t,rfl⟩:=r1
 exact⟨some i,H1,I1,.int i t,q⟩
noncomputable def SlR (X:Cx) (r:V->Option Int->Option Int->Hp->VK->Prop):Prop :=
 ∀(pins:List (Addr×Obj)) (s:y04) (σ:St) (H:Hp) (x:V) (v vl vu:Value) (lo hi:Option Int) (sl:Addr) (Q:VK),Inv X pins σ H s->RelV x v->s.heap.IsSliceOf sl vl vu .none->IsPart vl lo->IsPart vu hi->r x lo hi H Q ->
  ∃T id,typeLookup (.type T) "__getitem__"=pure (some (.builtin id))/\s.TypeIs v T/\y0u (model X.prog X.w) X.A (getItem v (.ref sl)) (EP X pins σ Q) X.xe s
theorem SlR.or {r r':V->Option Int->Option Int->Hp->VK->Prop} (h:SlR X r) (h':SlR X r'):SlR X (fun x lo hi H Q=>r x lo hi H Q\/r' x lo hi H Q):=by
 intro pins s σ H x v vl vu lo hi sl Q I rx hs pl pu q
 rcases q with q|q
 ·exact h pins s σ H x v vl vu lo hi sl Q I rx hs pl pu q
 ·exact h' pins s σ H x v vl vu lo hi sl Q I rx hs pl pu q
def tSl (r:V->Option Int->Option Int->Hp->VK->Prop) (te:TE) (tl th:TO):TE:=fun σ H Q=>te σ H fun x H1=>tl σ H1 fun l H2=>th σ H2 fun u H3=>r x l u H3 Q
theorem zgk {r:V->Option Int->Option Int->Hp->VK->Prop} (hr:SlR X r) (he:PE X e te) (hl:PO X lo tl) (hu:PO X hi th):PE X (.Subscript e (.Slice lo hi none p2) pos) (tSl r te tl th):=by
 intro pins s σ H Q I h
 refine Subscript_ (thn (he pins s σ H _ I h) fun v s1 ⟨x,H1,I1,r1,q1⟩=>?_)
 refine wpAny_Slice (thn (hl pins s1 σ H1 _ I1 q1) fun vl s2 ⟨l,H2,I2,pl,q2⟩=>thn (hu pins s2 σ H2 _ I2 q2) fun vu s3 ⟨u,H3,I3,pu,q3⟩=>?_)
 rw[evalPart_none]
 refine y06 ?_
 have I4:Inv X pins σ H3 { s3 with heap:=s3.heap.push { cls:=.type "slice",data:=.fields #[vl,vu,.none] } }:=I3.kept (t':=s3.toks) fun b ob q=>y03 _ q
 obtain⟨T,id,hT,ht,hg⟩:=hr pins { s3 with heap:=s3.heap.push { cls:=.type "slice",data:=.fields #[vl,vu,.none] } } σ H3 x v vl vu l u s3.heap.objs.size Q I4 r1 (Heap.IsSliceOf.new ..) pl pu q3
 show y0u (model X.prog X.w) X.A (subscriptTail e (.Slice lo hi none p2) v (.ref s3.heap.objs.size)) (EP X pins σ Q) X.xe { s3 with heap:=s3.heap.push { cls:=.type "slice",data:=.fields #[vl,vu,.none] } }
 exact tail_any (ops:=[.ref s3.heap.objs.size,v]) ht hT hg (by with_unfolding_all rfl)
def cutV (xs:List V) (lo hi:Option Int):List V:=(xs.drop (HT.sIx xs.length 0 lo)).take (HT.sIx xs.length xs.length hi - HT.sIx xs.length 0 lo)
theorem z6g (xs:List V) (lo hi:Option Int):(cutV xs lo hi).length<=xs.length:=by
 unfold cutV
 rw[List.length_take,List.length_drop]
 omega
noncomputable def rSlT (K:y00):V->Option Int->Option Int->Hp->VK->Prop:=fun x lo hi H Q=>∃a xs,x=.ref a/\SqT K H a xs /\
 ¬(HT.sIx xs.length 0 lo=0/\HT.sIx xs.length xs.length hi=xs.length)/\∀p,H p=none->Q (.ref p) (upd H p (.tup (cutV xs lo hi)))
theorem zkt:SlR X (rSlT X.K):=by
 intro pins s σ H x v vl vu lo hi sl Q I rx hs pl pu h
 obtain⟨a,xs,rfl,hx,hw,q⟩:=h
 cases rx
 obtain⟨its,r,ht,hz⟩:=I.tuple hx
 have hlen:its.toArray.size=xs.length:=by rw[y0h];exact r.length.symm
 refine⟨"tuple",_,PyProof.Rows.slot_tuple_getitem.lookup,ht.typeIs,?_⟩
 refine HT.getItem_tuple_cut ht hs pl pu (by rw[hlen];exact hw) ?_ (by rw[hlen];exact hz)
 rw[hlen]
 refine⟨.ref s.heap.objs.size,_,I.laid (t':=s.toks) (o:=.tup (cutV xs lo hi)) (fun b ob q=>y03 _ q) (y0o _) ?_,rfl,q _ (I.hok.fresh (y0o _))⟩
 exact⟨y1l (z6g xs lo hi) hz,_,(r.drop (HT.sIx xs.length 0 lo)).take (HT.sIx xs.length xs.length hi - HT.sIx xs.length 0 lo),IsTup.new _ _⟩
noncomputable def zna (K:y00):R2:=fun x y H Q=>∃a b xs ys,x=.ref a/\y=.ref b/\SqT K H a xs/\SqT K H b ys/\xs≠[]/\xs.length+ys.length<=y0j /\
 (ys=[]->Q (.ref a) H)/\(ys≠[]->∀p,H p=none->Q (.ref p) (upd H p (.tup (xs++ys))))
theorem Vals.nil_iff {xs:List V} {us:List Value} (r:Vals xs us):us=[] <-> xs=[]:=by
 cases r with
 | nil=>simp
 | cons _ _=>simp
theorem zjh:OpR X (binaryOp .Add) (zna X.K):=by
 intro pins s σ H x y v u Q I rx ry h
 obtain⟨a,b,xs,ys,rfl,rfl,ha,hb,hx,hz,q1,q2⟩:=h
 cases rx
 cases ry
 obtain⟨its,r1,p1,_⟩:=I.tuple ha
 obtain⟨its2,r2,p2,_⟩:=I.tuple hb
 refine HT.cat_tup p1 p2 (fun z=>hx (r1.nil_iff.mp z)) (fun z=>⟨.ref a,H,I,rfl,q1 (r2.nil_iff.mp z)⟩) (fun z=>?_) (by rw[<- r1.length,<- r2.length];exact hz)
 refine⟨.ref s.heap.objs.size,_,I.laid (t':=s.toks) (o:=.tup (xs++ys)) (fun b ob q=>y03 _ q) (y0o _) ?_,rfl,q2 (fun w=>z (r2.nil_iff.mpr w)) _ (I.hok.fresh (y0o _))⟩
 exact⟨by rw[y1x];exact hz,_,r1.append r2,IsTup.new _ _⟩
end
end L2
namespace L2
open PySem PySem.Spec PyProof.Rows
def ixN (n:Nat) (i:Int):Option Nat:=if 0<=i then (if i<n then some i.toNat else none) else if -(n:Int)<=i then some (i+n).toNat else none
def atI {α:Type} (xs:List α) (i:Int):Option α:=(ixN xs.length i).bind fun j=>xs[j]?
theorem zjq {n:Nat} {i:Int} {j:Nat} (h:ixN n i=some j):seqIndex? i n=some j/\j<n/\-(n:Int)<=i/\i<n:=by
 unfold ixN at h
 by_cases h0:0<=i
 ·rw[if_pos h0] at h
  by_cases h1:i<n
  ·rw[if_pos h1] at h
   have e:i.toNat=j:=y28 h
   exact⟨by rw[seqIndex_of h0 h1,e],by omega,by omega,h1⟩
  ·rw[if_neg h1] at h;cases h
 ·rw[if_neg h0] at h
  by_cases h1:-(n:Int)<=i
  ·rw[if_pos h1] at h
   have e:(i+n).toNat=j:=y28 h
   exact⟨by rw[seqIndex_neg (by omega) h1,e],by omega,h1,by omega⟩
  ·rw[if_neg h1] at h;cases h
theorem zb0 {α:Type} {xs:List α} {i:Int} {v:α} (h:atI xs i=some v):∃j,seqIndex? i xs.length=some j/\xs[j]?=some v/\j<xs.length/\-(xs.length:Int)<=i/\i<xs.length:=by
 unfold atI at h
 cases e:ixN xs.length i with
 | none=>rw[e] at h;cases h
 | some j =>
  rw[e] at h
  obtain⟨h1,h2,h3,h4⟩:=zjq e
  exact⟨j,h1,h,h2,h3,h4⟩
def zfy (b:Expr):Prop:=∀o i,subscripted b false o i=operate [o,i] (getItem o i)
noncomputable def IxR (X:Cx) (r:R2):Prop :=
 ∀(value slice:Expr) (pins:List (Addr×Obj)) (s:y04) (σ:St) (H:Hp) (x y:V) (v u:Value) (Q:VK),Inv X pins σ H s->RelV x v->RelV y u->r x y H Q ->
  subscripted slice false v u=operate [v,u] (getItem v u)->y0u (model X.prog X.w) X.A (subscriptTail value slice v u) (EP X pins σ Q) X.xe s
noncomputable def MtR (X:Cx) (id:String) (r:V->List V->Hp->VK->Prop):Prop :=
 ∀(pins:List (Addr×Obj)) (s:y04) (σ:St) (H:Hp) (x:V) (xs:List V) (v:Value) (us:List Value) (Q:VK),Inv X pins σ H s->RelV x v->Vals xs us->r x xs H Q ->
  y0u (model X.prog X.w) X.A (call (.builtin id) (v::us)) (EP X pins σ Q) X.xe s
section
variable {X:Cx} {a b:Expr} {ta tb:TE} {pos:Pos}
theorem IxR.or {r r':R2} (h:IxR X r) (h':IxR X r'):IxR X (fun x y H Q=>r x y H Q\/r' x y H Q):=by
 intro value slice pins s σ H x y v u Q I rx ry q hs
 rcases q with q|q
 ·exact h value slice pins s σ H x y v u Q I rx ry q hs
 ·exact h' value slice pins s σ H x y v u Q I rx ry q hs
theorem zni {r:R2} (hr:IxR X r) (ha:PE X a ta) (hb:PE X b tb) (hs:zfy b):PE X (.Subscript a b pos) (tOp r ta tb):=by
 intro pins s σ H Q I h
 exact Subscript_ (binT ha hb I h fun v u s2 x y H2 I2 rx ry q=>hr a b pins s2 σ H2 x y v u Q I2 rx ry q (hs _ _))
def rIxL (K:y00):R2:=fun x y H Q=>∃p xs i v,x=.ref p/\y=.int i/\SqL K H p xs/\atI xs i=some v/\Q v H
def rIxT (K:y00):R2:=fun x y H Q=>∃p xs i v,x=.ref p/\y=.int i/\SqT K H p xs/\atI xs i=some v/\Q v H
def rIxS:R2:=fun x y H Q=>∃z i c,x=.str z/\y=.int i/\z.length<=y0j/\atI z.cps.toList i=some c/\Q (.str ⟨#[c]⟩) H
theorem zjp:IxR X (rIxL X.K):=by
 intro value slice pins s σ H x y v u Q I rx ry h hs
 obtain⟨p,xs,i,z,rfl,rfl,hq,he,q⟩:=h
 cases rx
 obtain⟨t,rfl⟩:=ry
 obtain⟨its,r,pl,hz⟩:=I.list hq
 obtain⟨j,h1,h2,h3,h4,h5⟩:=zb0 he
 obtain⟨w,ew,rw'⟩:=r.get h2
 have hl:=r.length
 have hn:=z7g
 have fin:EP X pins σ Q w s:=⟨z,H,I,rw',q⟩
 by_cases h0:0<=i
 ·have hj:i.toNat=j:=by
   rw[seqIndex_of h0 h5] at h1
   exact y28 h1
  exact item_listR pl.isList h0 (by omega) (by rw[hj];simpa using ew) fin hs
 ·have hj:(i+(its.toArray.size:Int)).toNat=j:=by
   rw[seqIndex_neg (by omega) h4] at h1
   rw[y0h,<- hl]
   exact y28 h1
  exact subscriptTail_builtinR (x:=w) pl.isList.typeIs slot_list_getitem.lookup
   (wpAny_getItem_list_neg (Q:=fun r s'=>r=w/\EP X pins σ Q r s') pl.isList (by omega) (by rw[y0h] <;> omega) (by omega) (by rw[hj];simpa using ew) ⟨rfl,fin⟩) hs
theorem zm3:IxR X (rIxT X.K):=by
 intro value slice pins s σ H x y v u Q I rx ry h hs
 obtain⟨p,xs,i,z,rfl,rfl,hq,he,q⟩:=h
 cases rx
 obtain⟨t,rfl⟩:=ry
 obtain⟨its,r,pl,hz⟩:=I.tuple hq
 obtain⟨j,h1,h2,h3,h4,h5⟩:=zb0 he
 obtain⟨w,ew,rw'⟩:=r.get h2
 have hl:=r.length
 have hn:=z7g
 have fin:EP X pins σ Q w s:=⟨z,H,I,rw',q⟩
 exact subscriptTail_builtinR (x:=w) pl.typeIs slot_tuple_getitem.lookup
  (getItem_tuple (j:=j) (Q:=fun r s'=>r=w/\EP X pins σ Q r s') pl (by omega) (by omega) (by rw[y0h,<- hl];exact h1) (by simpa using ew) ⟨rfl,fin⟩) hs
theorem zm4:IxR X rIxS:=by
 intro value slice pins s σ H x y v u Q I rx ry h hs
 obtain⟨z,i,c,rfl,rfl,hz,he,q⟩:=h
 obtain⟨t,rfl⟩:=rx
 obtain⟨t',rfl⟩:=ry
 obtain⟨j,h1,h2,h3,h4,h5⟩:=zb0 he
 have hl:z.cps.toList.length=z.length:=by simp[Str.length]
 rw[hl] at h1 h4 h5
 have hn:=z7g
 exact tail_any (typeIs_str s z t) slot_str_getitem.lookup (getItem_str (c:=c) (by
  have e1:decide (i < -(2 ^ 63:Int))=false:=decide_eq_false (by omega)
  have e2:decide (i >= 2 ^ 63)=false:=decide_eq_false (by omega)
  rw[e1,e2,Bool.or_false]) (by rw[h1];simpa using h2) ⟨.str ⟨#[c]⟩,H,I.tok _,⟨_,rfl⟩,q⟩) hs
def rIx (K:y00):R2:=fun x y H Q=>rIxL K x y H Q\/rIxT K x y H Q\/rIxS x y H Q
theorem zm5:IxR X (rIx X.K):=zjp.or (zm3.or zm4)
theorem z8v (lo hi:Option Int) (n:Nat):(sliceBounds lo hi none n).1=((HT.sIx n 0 lo:Nat):Int)/\(sliceBounds lo hi none n).2.1=((HT.sIx n n hi:Nat):Int)/\(sliceBounds lo hi none n).2.2=1:=by
 refine⟨?_,?_,rfl⟩
 ·cases lo with
  | none=>simp[sliceBounds,HT.sIx]
  | some i =>
   simp only[sliceBounds,HT.sIx,Option.getD_none,show (1:Int) > 0 by decide,if_true]
   by_cases h:i<0
   ·simp only[h,if_true] <;> omega
   ·simp only[h,if_false] <;> omega
 ·cases hi with
  | none=>simp[sliceBounds,HT.sIx]
  | some i =>
   simp only[sliceBounds,HT.sIx,Option.getD_none,show (1:Int) > 0 by decide,if_true]
   by_cases h:i<0
   ·simp only[h,if_true] <;> omega
   ·simp only[h,if_false] <;> omega
theorem z7z (its:List Value) (lo hi:Option Int):slicePick its.toArray lo hi none=((its.drop (HT.sIx its.length 0 lo)).take (HT.sIx its.length its.length hi - HT.sIx its.length 0 lo)).toArray:=by
 obtain⟨h1,h2,h3⟩:=z8v lo hi its.toArray.size
 unfold slicePick
 rw[h1,h2,h3]
 simp only[sliceRange_one,pick_run,y0h] <;> rfl
def rSlL (K:y00):V->Option Int->Option Int->Hp->VK->Prop:=fun x lo hi H Q=>∃a xs,x=.ref a/\SqL K H a xs/\∀p,H p=none->Q (.ref p) (upd H p (.lst (cutV xs lo hi)))
theorem ziu:SlR X (rSlL X.K):=by
 intro pins s σ H x v vl vu lo hi sl Q I rx hs pl pu h
 obtain⟨a,xs,rfl,hx,q⟩:=h
 cases rx
 obtain⟨its,r,ht,hz⟩:=I.list hx
 have hlen:=r.length
 refine⟨"list",_,slot_list_getitem.lookup,ht.isList.typeIs,?_⟩
 refine wpAny_getItem_list_slice ht.isList hs pl pu .none (by simp) ?_ (by rw[y0h] <;> omega)
 rw[z7z,<- hlen]
 refine⟨.ref s.heap.objs.size,_,I.laid (t':=s.toks) (o:=.lst (cutV xs lo hi)) (fun b ob q=>y03 _ q) (y0o _) ?_,rfl,q _ (I.hok.fresh (y0o _))⟩
 exact⟨y1l (z6g xs lo hi) hz,_,0,(r.drop (HT.sIx xs.length 0 lo)).take (HT.sIx xs.length xs.length hi - HT.sIx xs.length 0 lo),y0l _ rfl⟩
theorem z9v:z3l X (.builtin "len") (fun xs H Q=>∃p ys,xs=[.ref p]/\(SqL X.K H p ys\/SqT X.K H p ys)/\Q (.int ys.length) H):=by
 intro pins s σ H xs us Q I r h
 obtain⟨p,ys,rfl,hq,q⟩:=h
 obtain⟨u,rfl,rx⟩:=z6r r
 cases rx
 have hn:=z7g
 rcases hq with hq|hq
 ·obtain⟨its,r',pl,hz⟩:=I.list hq
  have hlen:=r'.length
  exact Calls.call_len_list pl.isList (by simp only[y0h] <;> omega) ⟨.int ys.length,H,I.tok _,⟨s.toks+1,by rw[y0h,hlen]⟩,q⟩
 ·obtain⟨its,r',pl,hz⟩:=I.tuple hq
  have hlen:=r'.length
  exact len_tuple pl (by simp only[y0h] <;> omega) ⟨.int ys.length,H,I.tok _,⟨s.toks+1,by rw[y0h,hlen]⟩,q⟩
theorem z9u:z3l X (.builtin "len") (fun xs H Q=>∃z,xs=[.str z]/\z.length<=y0j/\Q (.int z.length) H):=by
 intro pins s σ H xs us Q I r h
 obtain⟨z,rfl,hz,q⟩:=h
 obtain⟨u,rfl,t,rfl⟩:=z6r r
 have hn:=z7g
 exact len_str (by omega) ⟨.int z.length,H,I.tok _,⟨_,rfl⟩,q⟩
theorem z3l.or {f:Value} {r r':List V->Hp->VK->Prop} (h:z3l X f r) (h':z3l X f r'):z3l X f (fun xs H Q=>r xs H Q\/r' xs H Q):=by
 intro pins s σ H xs us Q I rs q
 rcases q with q|q
 ·exact h pins s σ H xs us Q I rs q
 ·exact h' pins s σ H xs us Q I rs q
theorem z8g:z3l X (.type "tuple") (fun xs H Q=>∃p ys,xs=[.ref p]/\((SqL X.K H p ys/\∀l,H l=none->Q (.ref l) (upd H l (.tup ys)))\/(SqT X.K H p ys/\Q (.ref p) H))):=by
 intro pins s σ H xs us Q I r h
 obtain⟨p,ys,rfl,h⟩:=h
 obtain⟨u,rfl,rx⟩:=z6r r
 cases rx
 rcases h with ⟨hq,q⟩|⟨hq,q⟩
 ·obtain⟨its,r',pl,hz⟩:=I.list hq
  have hlen:=r'.length
  refine call_tuple_list pl.isList (fun h' kp=>?_) (by simp only[y0h] <;> omega)
  have I1:Inv X pins σ H { s with heap:=h' }:=I.kept (t':=s.toks) kp
  have I2:Inv X pins σ (upd H h'.objs.size (.tup ys)) { s with heap:=h'.push { cls:=.type "tuple",data:=.seq its.toArray } } :=
   I1.laid (t':=s.toks) (fun b o e=>y03 _ e) (y0o _) (show z2c X.prog X.w _ _ _ (.tup ys) from ⟨hz,its,r',IsTup.new _ _⟩)
  exact⟨.ref h'.objs.size,_,I2,rfl,q _ (I1.hok.fresh (y0o _))⟩
 ·obtain⟨its,r',pl,hz⟩:=I.tuple hq
  exact call_tuple_same pl ⟨.ref p,H,I,rfl,q⟩
noncomputable def tyV (K:y00) (T:String) (x:V) (H:Hp):Prop:=match x with
 | .str _=>T="str"
 | .int _=>T="int"
 | .ref p=>(T="list"/\∃xs,SqL K H p xs)\/(T="tuple"/\∃o,K.lookup p=some o/\o.cls=.type "tuple"/\o.dict=none) \/
   (T="dict"/\((∃kvs,H p=some (.dK kvs))\/∃kvs,H p=some (.dT kvs)))\/(T="set"/\∃S n,H p=some (.set S n))
 | _=>False
theorem zhu {pins:List (Addr×Obj)} {σ:St} {H:Hp} {s:y04} {T:String} {x:V} {v:Value} (I:Inv X pins σ H s) (r:RelV x v) (ty:tyV X.K T x H) :
  s.TypeIs v T/\∀a,v=.ref a->∃ob,s.heap.get? a=some ob/\ob.dict=none:=by
 cases x with
 | str z =>
  obtain⟨t,rfl⟩:=r
  cases (show T="str" from ty)
  exact⟨typeIs_str s z t,fun _ e=>nomatch e⟩
 | int i =>
  obtain⟨t,rfl⟩:=r
  cases (show T="int" from ty)
  exact⟨typeIs_int s i t,fun _ e=>nomatch e⟩
 | ref p =>
  cases r
  rcases ty with ⟨rfl,xs,hq⟩|⟨rfl,o,hk,hc,hd⟩|⟨rfl,hk⟩|⟨rfl,S,n,hk⟩
  ·obtain⟨its,_,pl,_⟩:=I.list hq
   refine⟨pl.isList.typeIs,fun a e=>?_⟩
   cases e
   obtain⟨o,n,e,c,hd,_⟩:=pl
   exact⟨o,e,hd⟩
  ·refine⟨⟨o,I.kIn p o hk,hc⟩,fun a e=>?_⟩
   cases e
   exact⟨o,I.kIn _ o hk,hd⟩
  ·have z:∃o,s.heap.get? p=some o/\o.ExactDict:=by
    rcases hk with ⟨kvs,hk⟩|⟨kvs,hk⟩
    ·obtain⟨_,_,_,_,o,_,_,e,ex,_⟩:=I.hok p _ hk
     exact⟨o,e,ex⟩
    ·obtain⟨_,_,_,_,o,_,_,e,ex,_⟩:=I.hok p _ hk
     exact⟨o,e,ex⟩
   obtain⟨o,e,ex⟩:=z
   refine⟨⟨o,e,ex.1⟩,fun a e2=>?_⟩
   cases e2
   exact⟨o,e,ex.2.1⟩
  ·obtain⟨o,_,_,_,e,ex,_⟩:=I.hok p _ hk
   refine⟨⟨o,e,ex.1⟩,fun a e2=>?_⟩
   cases e2
   exact⟨o,e,ex.2.1⟩
 | _=>exact y1t ty
def tBM0 (K:y00) (T:String) (r:V->List V->Hp->VK->Prop) (to:TE):TE:=fun σ H Q=>to σ H fun x H1=>tyV K T x H1/\r x [] H1 Q
def tBM (K:y00) (T:String) (r:V->List V->Hp->VK->Prop) (to:TE) (t:TA):TE:=fun σ H Q=>to σ H fun x H1=>tyV K T x H1/\t σ H1 fun xs H2=>r x xs H2 Q
variable {o e:Expr} {es:List Expr} {to:TE} {t:TA} {name:Str} {apos cpos:Pos} {T id:String} {r:V->List V->Hp->VK->Prop}
theorem zll (pa:PlainAttrs T) (slot:Slot T name id) (hty:typeOf (.builtin id)=pure (.type "method_descriptor")) (hm:MtR X id r) (ho:PE X o to)
  (hbase:attributeBase o name X.env (eval o X.env)=eval o X.env:=by rfl) (hline:(apos.endLine == cpos.line)=true:=by rfl):PE X (.Call (.Attribute o name apos) [] [] cpos) (tBM0 X.K T r to):=by
 intro pins s σ H Q I h
 refine wpAny_Call_method0_late hbase hline (thn (ho pins s σ H _ I h) fun v s1 ⟨x,H1,I1,r1,ty,q1⟩=>?_)
 obtain⟨h1,h2⟩:=zhu I1 r1 ty
 exact⟨T,id,pa,slot,hty,h1,h2,Calls.callWith_builtin rfl (PySem.evalArgs_none (hm pins s1 σ H1 x [] v [] Q I1 r1 .nil q1))⟩
theorem zgm (pa:PlainAttrs T) (slot:Slot T name id) (hty:typeOf (.builtin id)=pure (.type "method_descriptor")) (hm:MtR X id r) (ho:PE X o to) (ha:PA X (e::es) t)
  (hbase:attributeBase o name X.env (eval o X.env)=eval o X.env:=by rfl)
  (hfew:((backTo cpos (y0a (e::es) X.env)).all (fun x=>!x.1) && (backToKw cpos (keywordEach [] X.env)).all (fun x=>x.1.isSome)
   && decide ((e::es).length+([]:List Keyword).length+(if ([]:List Keyword).isEmpty then 0 else 1)<30))=true:=by rfl)
  (hline:(apos.endLine == cpos.line)=true:=by rfl) (hs:y0a (e::es) X.env=(false,eval e X.env)::y0a es X.env:=by rfl) (hplain:(backTo cpos (y0a es X.env)).any (·.1)=false:=by rfl) :
  PE X (.Call (.Attribute o name apos) (e::es) [] cpos) (tBM X.K T r to t):=by
 intro pins s σ H Q I h
 refine wpAny_Call_method_late hbase hfew hline rfl (thn (ho pins s σ H _ I h) fun v s1 ⟨x,H1,I1,r1,ty,q1⟩=>?_)
 obtain⟨h1,h2⟩:=zhu I1 r1 ty
 refine⟨T,id,pa,slot,hty,h1,h2,?_⟩
 have hA:=ha cpos pins s1 σ H1 _ I1 q1
 rw[hs] at hA ⊢
 refine Calls.callWith_builtin (by show (false || (backTo cpos (y0a es X.env)).any (·.1))=false;rw[hplain] <;> rfl) (Calls.evalArgs_plain ?_)
 exact thn hA fun us s2 ⟨vs,H2,I2,r2,q2⟩=>hm pins s2 σ H2 x vs v us Q I2 r1 r2 q2
end
end L2
namespace L2
open PySem PySem.Spec PyProof.Rows
noncomputable def MtM (X:Cx) (id:String) (r:V->List V->Hp->VK->Prop):Prop :=
 ∀(pins:List (Addr×Obj)) (s:y04) (σ:St) (H:Hp) (x:V) (xs:List V) (v:Value) (us:List Value) (Q:VK),Inv X pins σ H s->RelV x v->Vals xs us->r x xs H Q ->
  y0u (model X.prog X.w) X.A (call (.builtin id) (v::us)) (EP X pins σ Q) X.xe s
theorem Vals.one:∀{x:V} {us:List Value},Vals [x] us->∃u,us=[u]/\RelV x u
 | _,_,.cons r .nil=>⟨_,rfl,r⟩
theorem Vals.zero:∀{us:List Value},Vals [] us->us=[]
 | _,.nil=>rfl
theorem Vals.dropLast {xs:List V} {us:List Value} (h:Vals xs us):Vals xs.dropLast us.dropLast:=by
 induction h with
 | nil=>exact .nil
 | cons r t ih =>
  cases t with
  | nil=>exact .nil
  | cons q t'=>exact .cons r ih
theorem zcs {α:Type} (l:List α):l.eraseIdx (l.length - 1)=l.dropLast:=by
 induction l with
 | nil=>rfl
 | cons a r ih =>
  cases r with
  | nil=>rfl
  | cons b r =>
   have e:(a::b::r).length - 1=((b::r).length - 1)+1:=by
    have h1:(a::b::r).length=r.length+2:=rfl
    have h2:(b::r).length=r.length+1:=rfl
    omega
   rw[e,List.eraseIdx_cons_succ,ih]
   all_goals rfl
section
variable {X:Cx} {pins:List (Addr×Obj)} {σ:St} {H:Hp} {s:y04} {l b:Addr} {xs ys zs:List V}
theorem Inv.lset {its its':List Value} {n:Nat} {f:Array Value->Array Value} {t':Nat} (I:Inv X pins σ H s) (hH:H l=some (.lst xs))
  (e:s.heap.get? l=some { cls:=.type "list",data:=.seq its.toArray n }) (hf:f its.toArray=its'.toArray) (hv:Vals ys its') (hz:ys.length<=y0j) :
  Inv X pins σ (upd H l (.lst ys)) { s with heap:=s.heap.update l (Obj.mapSeq f),toks:=t' }:=by
 have q:=PySem.IsL.update e f
 rw[hf] at q
 refine I.write (x:=l) (e:=l) (by rw[hH];exact trivial) (.inl rfl) (fun b' u hb hu=>(Heap.get?_update_other s.heap (Obj.mapSeq f) (Ne.symm hb)).trans hu) ⟨_,q⟩ ?_
 exact⟨hz,its',_,hv,q⟩
theorem Inv.lnew {its:List Value} {t':Nat} (I:Inv X pins σ H s) (hv:Vals ys its) (hz:ys.length<=y0j) :
  Inv X pins σ (upd H s.heap.objs.size (.lst ys)) { s with heap:=s.heap.push { cls:=.type "list",data:=.seq its.toArray },toks:=t' } :=
 I.laid (fun _ _ q=>y03 _ q) (y0o _) ⟨hz,its,0,hv,y0l _ rfl⟩
theorem Inv.fresh (I:Inv X pins σ H s):H s.heap.objs.size=none:=I.hok.fresh (y0o _)
theorem Inv.lstM (I:Inv X pins σ H s) (hH:H l=some (.lst xs)):xs.length<=y0j/\∃(its:List Value) (n:Nat),Vals xs its/\xs.length=its.length/\s.heap.get? l=some { cls:=.type "list",data:=.seq its.toArray n }:=by
 obtain⟨z,its,n,r,e⟩:=I.hok l _ hH
 exact⟨z,its,n,r,r.length,e⟩
theorem zgw {n:Nat} (h:n<=y0j):Builtin.List.listTooLong n=false:=by
 unfold Builtin.List.listTooLong
 exact decide_eq_false (by omega)
end
section
variable {X:Cx}
def zj0:V->List V->Hp->VK->Prop:=fun x vs H Q=>∃l xs y,x=.ref l/\vs=[y]/\H l=some (.lst xs)/\xs.length<y0j/\Q .non (upd H l (.lst (xs++[y])))
theorem z9c:MtM X "list.append" zj0:=by
 intro pins s σ H x vs v us Q I rx rv h
 obtain⟨l,xs,y,rfl,rfl,hH,hz,q⟩:=h
 cases rx
 obtain⟨u,rfl,ru⟩:=rv.one
 obtain⟨z,its,n,r,hl,e⟩:=I.lstM hH
 refine call_meets F.slot_list_append ⟨_,e,rfl⟩ F.entry_list_append (F.args_list_append_2 _ _) (PySem.list_append l its.toArray n u (by rw[y0h];omega)) ⟨e,?_⟩
 refine⟨.non,_,I.lset (its':=its++[u]) hH e (by simp) (r.append (.cons ru .nil)) ?_,rfl,q⟩
 rw[y1x,List.length_singleton]
 omega
def rPop:V->List V->Hp->VK->Prop:=fun x vs H Q=>∃l xs y,x=.ref l/\vs=[]/\H l=some (.lst xs)/\xs[xs.length - 1]?=some y/\Q y (upd H l (.lst xs.dropLast))
theorem zlx:MtM X "list.pop" rPop:=by
 intro pins s σ H x vs v us Q I rx rv h
 obtain⟨l,xs,y,rfl,rfl,hH,hy,q⟩:=h
 cases rx
 have hus:=rv.zero
 subst hus
 obtain⟨z,its,n,r,hl,e⟩:=I.lstM hH
 obtain⟨u,hu,ru⟩:=r.get hy
 have hy':its.toArray[its.toArray.size - 1]?=some u:=by
  show its.toArray[its.length - 1]?=some u
  rw[<- Array.getElem?_toList,<- hl]
  exact hu
 refine call_meets F.slot_list_pop ⟨_,e,rfl⟩ F.entry_list_pop (F.args_list_pop_1 _) (MeetsSeq.list_pop_last l its.toArray n u hy' (by rw[y0h];omega)) ⟨e,?_⟩
 refine⟨y,_,I.lset (its':=its.dropLast) hH e ?_ r.dropLast ?_,ru,q⟩
 ·show its.toArray.eraseIdxIfInBounds (its.toArray.size - 1)=its.dropLast.toArray
  rw[y0h,List.eraseIdxIfInBounds_toArray,zcs]
 ·rw[List.length_dropLast]
  omega
end
section
variable {prog:y0q} {w:World} {A:Around} {E:Value->y04->Prop} {s:y04}
end
section
variable {X:Cx}
end
end L2
namespace Att
open PySem PySem.W PySem.Calls PyProof.Rows
theorem z67 {P:Params} {h:Heap}:∀(ns:List Int) (vs:List Value),WellAll P h vs (ns.map WData.int)->IntsAre vs ns:=by
 intro ns
 induction ns with
 | nil =>
  intro vs w
  rw[y18] at w
  cases w
  exact .nil
 | cons n ns ih =>
  intro vs w
  rw[y0d] at w
  cases w with
  | cons a b =>
   cases a
   exact .cons _ _ (ih _ b)
theorem zdi {l:OpenLaw} {n:Nat} (hn:l.most=some n) {P:Params} {h:Heap} {args:List WData} {vals:List Value}
    (hpre:l.row.toRowW.claim.pre args=true) (hwl:WellAll P h vals args) :
    ∃a vs ns,vals=[Value.ref a]/\args=[WData.list (ns.map WData.int)]/\h.get? a=some { cls:=.type "list",data:=.seq vs.toArray }/\IntsAre vs ns/\ns.length<=n:=by
  have hsh:WShape.hasAll [] args [.list .int]=true:=(pre_splitW hpre).1
  have hc:l.pre.holds [] { args:=args }=true:=(pre_splitW hpre).2
  obtain⟨d,r,rfl,h1,h2⟩:=hasAllW_cons hsh
  obtain rfl:=hasAllW_nil h2
  obtain⟨xs,rfl,h3⟩:=hasW_list h1
  obtain⟨ns,rfl⟩:=items_int h3
  have hlen:ns.length<=n:=by
    unfold OpenLaw.pre at hc
    have h4:(WTm.not (.lt (.lit (.int (n:Int))) (.len (.arg 0)))).holds [] { args:=[.list (ns.map .int)] }=true:=by
      have h4:=(holds_andW hc).1
      rw[hn] at h4
      exact h4
    have h5:=condW_of h4 (w_not (w_lt w_lit (w_len_list (w_arg rfl))))
    rw[y13] at h5
    refine Nat.le_of_not_lt fun q=>?_
    have q':(n:Int)<((ns.length:Nat):Int):=by omega
    first
      | (rw[decide_eq_true q'] at h5;exact absurd h5 (by decide))
      | (simp at h5;omega)
  cases hwl with
  | cons w1 w2 =>
    cases w2
    cases w1 with
    | list ho hall=>exact⟨_,_,ns,rfl,rfl,ho,z67 ns _ hall,hlen⟩
theorem zdz (l:OpenLaw) (args:List WData):l.row.toRowW.claim.post args (.bool true) args=true :=
 postW_of (r:=l.row.toRowW) (X:=(true == true))
  (show WShape.has [] (.bool true) .bool=true by first|rfl|decide|simp[WShape.has,WShape.arms,WShape.armsAll])
  (show (WTm.eq .res (.lit (.bool true))).value [] { args:=args,res:=some (.bool true),after:=args }=some (.bool (true == true)) from w_eq_bool (w_res rfl) w_lit) rfl
theorem attach_call {l:OpenLaw} {n:Nat} {q:y0q} {loose:List Str} {XP:(Str->Option Value)->Heap->Prop} {YP:World->Heap->Prop} {d:DefRec}
  (hn:l.most=some n) (hdf:d.params.defaults=[])
  (call:∀(w:World) (s₀ s₁:y04) (mg mb:Str->Option Value) (fa:Addr) (o:Obj) (pm cd doc:Value) (a:Addr) (vs:List Value) (ns:List Int),
   Ground q loose [] XP w s₀ mg mb s₁.heap->YP w s₁.heap ->
   s₁.heap.get? fa=some o->o.data=.func (docDef d.name d.params d.body d.scope pm cd doc)->s₁.heap.CodeRec cd d.name->mg d.name=some (.ref fa) ->
   s₁.heap.get? a=some { cls:=.type "list",data:=.seq vs.toArray }->IntsAre vs ns->ns.length<=n->s₁.gens=#[] ->
   codeAny (model l.prog w) callerA (.call (.ref fa) ⟨[.ref a],[]⟩) (fun r s'=>r=.ok (.ret (.bool true))/\OldK s₁.heap s'.heap/\s'.os=s₁.os/\AllBare s'.gens) s₁) :
  WalkO q loose XP YP l.row.toRowW d [] (fun f vs=>PySem.call f vs):=by
 intro w s₀ s₁ mg mb G Y fa o pm cd doc dV kV ho hd hcd hD hmg hg args vals as hpre hlay hrd hwl hlo
 obtain rfl:dV=.none:=Dflts.none hD hdf
 obtain rfl:kV=.none:=Dflts.noKw hD
 obtain⟨a,vs,ns,rfl,rfl,hobj,hints,hlen⟩:=zdi hn hpre hwl
 refine enter_call (codeAny_mono (call w s₀ s₁ mg mb fa o pm cd doc a vs ns G Y ho (fd_plain hd) hcd hmg hobj hints hlen hg) fun r s' hq=>?_)
 obtain⟨rfl,h2,h3,h4⟩:=hq
 exact⟨.inl ⟨.bool true,.bool true,[],rfl,fun _=>rfl,.bool true,zdz l _,fun _=>⟨List.Pairwise.nil,fun _ hm=>(nomatch hm)⟩⟩,h2,h3,h4⟩
section
variable {prog:y0q} {w:World} {A:Around} {E:Value->y04->Prop} {s:y04} {K:Frag}
end
end Att
namespace L2
open PySem PySem.Spec PyProof.Rows
theorem z8m:∀{vs:List Value} {ns:List Int},IntsAre vs ns->Vals (ns.map V.int) vs
 | _,_,.nil=>.nil
 | _,_,.cons n t h=>.cons ⟨t,rfl⟩ (z8m h)
end L2
namespace L2
open PySem PySem.Spec PyProof.Rows
end L2
namespace L2
open PySem PySem.Spec PyProof.Rows
noncomputable def z0h (s:Stmt):Arguments:=match s with
 | .FunctionDef _ a _ _ _ _ _ _ _ _=>a
 | _=>{ posonlyargs:=[],args:=[],vararg:=none,kwonlyargs:=[],kw_defaults:=[],kwarg:=none,defaults:=[] }
def z09 (s:Stmt):List Stmt:=match s with
 | .FunctionDef _ _ b _ _ _ _ _ _ _=>b
 | _=>[]
def z00 (s:Stmt):Scope:=match s with
 | .FunctionDef _ _ _ _ _ _ sc _ _ _=>sc
 | _=>{ kind:=.function,names:=[],isGenerator:=false,isCoroutine:=false }
abbrev CX0:CXT:=fun _ _ _ _ _ _=>False
abbrev E0:XK:=fun _ _ _=>False
theorem znj {X:Cx}:zca CX0 X E0:=fun _ _ _ _ _ _ _ h=>h.elim
structure Fun (K:y00) (x qual:Str) (st:Stmt) (f:Addr) (fd:y0b):Prop where
 ex:∃(oc:Value) (od:Option Addr) (kV doc pm:Value) (an:Option Addr) (cdv ct:Value) (osl:Array (Option Value)),
  fd=y0i x qual (z0h st) (z09 st) (z00 st) .none kV doc pm an cdv ct/\K.lookup f=some ⟨oc,od,.func fd,osl⟩/\y0f K cdv qual=true
 kp:y08 K (.ref f)=true
section
variable {P:y0q} {w:World} {K:y00} {mg:Str->Option Value} {base:Heap}
theorem Fun.ok {x qual:Str} {st:Stmt} {f:Addr} {fd:y0b} {N ps:List Str} {k:Nat} {sp:Sp} (F:Fun K x qual st f fd) (S:FnScope N ps (z00 st)) (len:∀vs H Q E,sp vs H Q E->vs.length=ps.length)
  (hbody:∀(cdv:Value) (A:Around) (outer:List Env) (s:y04) (H:Hp) (vs:List V) (Q:VK) (E:XK),Room k (A.deeper (envOfC qual (z00 st) s.heap.objs.size f cdv))->sp vs H Q E ->
   ∃t,PSs (cxOf CX0 P w K mg base N qual (z00 st) f cdv A outer s H E).nox (z09 st) t/\t { nx:=fun _ H'=>Q .non H',rt:=Q } (start N vs) H):FnOk P w K mg base CX0 (k+1) f fd ps sp:=by
 obtain⟨oc,od,kV,doc,pm,an,cdv,ct,osl,rfl,lk,hcd⟩:=F.ex
 refine zjx lk hcd S len fun A outer s H vs Q E hr hsp=>?_
 obtain⟨t,h,q⟩:=hbody cdv A outer s H vs Q E hr hsp
 exact⟨t,h.nox,q⟩
theorem Fun.binds {x qual:Str} {st:Stmt} {f:Addr} {fd:y0b} {ps:List Str} (F:Fun K x qual st f fd)
  (h:∀(kV doc pm:Value) (an:Option Addr) (cdv ct:Value) (us:List Value),us.length=ps.length->bindArgs (y0i x qual (z0h st) (z09 st) (z00 st) .none kV doc pm an cdv ct) ⟨us,[]⟩=pure (ps.zip us)):z1f K fd ps []:=by
 obtain⟨oc,od,kV,doc,pm,an,cdv,ct,osl,rfl,lk,hcd⟩:=F.ex
 exact .all (h kV doc pm an cdv ct)
theorem z1m {x qual:Str} {st:Stmt} {f:Addr} {oc:Value} {od an:Option Addr} {osl:Array (Option Value)} {kV doc pm cdv ct:Value} (l:K.lookup f=some ⟨oc,od,.func (y0i x qual (z0h st) (z09 st) (z00 st) .none kV doc pm an cdv ct),osl⟩)
  (c:y0f K cdv qual=true) (k:y08 K (.ref f)=true):Fun K x qual st f (y0i x qual (z0h st) (z09 st) (z00 st) .none kV doc pm an cdv ct):=⟨⟨oc,od,kV,doc,pm,an,cdv,ct,osl,rfl,l,c⟩,k⟩
end
theorem zm8 {A:Around} {k:Nat} (hr:Room k A):A.units+1<cLine:=Nat.lt_of_le_of_lt (Nat.add_le_add_left (by decide:1<=64) _) hr.units
section
variable {X:Cx}
theorem pv (i:Nat) {x:Str} {pos:Pos} (hN:X.N[i]?=some x:=by rfl) (hv:Vis X.env.scope x:=by first|exact Or.inl rfl|exact Or.inr (Or.inl rfl)|exact Or.inr (Or.inr rfl)) (hd:(x == ("__debug__":Str))=false:=by decide)
  (hcd:(x == ("__classdict__":Str))=false:=by decide):PE X (.Name x pos) (tVar i):=zlh hN hv hd hcd
end
theorem iteF {A B:Prop} (h:B):if false=true then A else B:=by
 rw[if_neg y1y]
 exact h
theorem iteT {A B:Prop} (h:A):if true=true then A else B:=by
 rw[if_pos rfl]
 exact h
def Same (H H':Hp):Prop:=∀b o,H b=some o->H' b=some o
end L2
end
section
namespace D
open PySem
abbrev T:=PyData
def okT (a:T):Bool:=a.canLay0 && decide (a.depth<=60)
def okL (as:List T):Bool:=y1f as && decide (y1d as<=60)
abbrev Key:=Sum Int Str
inductive Md where
 | ro|own|lent
 deriving DecidableEq
inductive Sl where
 | imm (t:T)|own (ts:List T)|dic (kvs:List (Key×T))|obj (m:Md) (c:Nat) (fs:List Sl)
abbrev Ev:=List (Option Sl)
inductive Out where
 | nx (ε:Ev)|rt (t:T)|bk (ε:Ev)|ct (ε:Ev)|rtm (t:T) (ε:Ev)|rto (s:Sl)
abbrev Fe:=Ev->Option T
abbrev Ft:=Ev->Option Bool
abbrev Fs:=Ev->Option Out
abbrev Fi:=Ev->Option (List T)
abbrev Fg:=T->Ev->Option Ev
def big:Nat:=16777216
noncomputable def oAdd:T->T->Option T
 | .int i,.int j=>some (.int (i+j))
 | .str x,.str y=>if x.length+y.length<=big then some (.str (x++y)) else none
 | .tuple xs,.tuple ys=>if xs.length+ys.length<=big then some (.tuple (xs++ys)) else none
 | .list xs,.list ys=>if xs.length+ys.length<=big then some (.list (xs++ys)) else none
 | _,_=>none
def oSub:T->T->Option T
 | .int i,.int j=>some (.int (i - j))
 | _,_=>none
def zgy (i j:Int):Bool:=(decide (-(2 ^ 64)<i) && decide (i<2 ^ 64)) || (decide (-(2 ^ 64)<j) && decide (j<2 ^ 64))
def oMul:T->T->Option T
 | .int i,.int j=>if zgy i j then some (.int (i*j)) else none
 | _,_=>none
def oDiv:T->T->Option T
 | .int i,.int j=>if 0<j/\j<1073741824 then some (.int (i / j)) else none
 | _,_=>none
def oMod:T->T->Option T
 | .int i,.int j=>if 0<j then some (.int (i % j)) else none
 | _,_=>none
def oNeg:T->Option T
 | .int i=>some (.int (-i))
 | _=>none
def ixOf (n:Nat) (i:Int):Option Nat:=if 0<=i then (if i<n then some i.toNat else none) else if -(n:Int)<=i then some (i+n).toNat else none
def atZ {α:Type} (xs:List α) (i:Int):Option α:=(ixOf xs.length i).bind fun j=>xs[j]?
noncomputable def oIx:T->T->Option T
 | .tuple xs,.int i=>atZ xs i
 | .list xs,.int i=>atZ xs i
 | .str x,.int i=>if x.length<=big then (atZ x.cps.toList i).map fun c=>.str ⟨#[c]⟩ else none
 | _,_=>none
def oEq (a b:T):Option T:=if okT a && okT b then some (.bool (y1w a b)) else none
def oNe (a b:T):Option T:=if okT a && okT b then some (.bool (!PyData.eqv a b)) else none
def oIsN (a:T):Option T:=some (.bool (match a with|.none=>true|_=>false))
def z1a (a:T):Option T:=some (.bool (match a with|.none=>false|_=>true))
def z54 (x y:Str):Bool:=decide (x.cps.toList<y.cps.toList)
def oLt:T->T->Option T
 | .int i,.int j=>some (.bool (decide (i<j)))
 | .str x,.str y=>some (.bool (z54 x y))
 | _,_=>none
def oLe:T->T->Option T
 | .int i,.int j=>some (.bool (decide (i<=j)))
 | .str x,.str y=>some (.bool (!z54 y x))
 | _,_=>none
def oGt:T->T->Option T
 | .int i,.int j=>some (.bool (decide (j<i)))
 | .str x,.str y=>some (.bool (z54 y x))
 | _,_=>none
def oGe:T->T->Option T
 | .int i,.int j=>some (.bool (decide (j<=i)))
 | .str x,.str y=>some (.bool (!z54 x y))
 | _,_=>none
def hasT (x:T) (ts:List T):Bool:=ts.any fun y=>y1w y x
noncomputable def oIn (neg:Bool):T->T->Option T
 | x,.tuple ys=>if okT x && okL ys then some (.bool (if neg then !hasT x ys else hasT x ys)) else none
 | x,.list ys=>if okT x && okL ys then some (.bool (if neg then !hasT x ys else hasT x ys)) else none
 | _,_=>none
def oLen:List T->Option T
 | [.tuple xs]=>some (.int xs.length)
 | [.list xs]=>some (.int xs.length)
 | [.str x]=>if x.length<=big then some (.int x.length) else none
 | _=>none
def oMin:List T->Option T
 | [.int i,.int j]=>some (.int (if j<i then j else i))
 | _=>none
def oMax:List T->Option T
 | [.int i,.int j]=>some (.int (if j > i then j else i))
 | _=>none
def z3f:List T->Option T
 | [.tuple xs]=>some (.tuple xs)
 | [.list xs]=>some (.tuple xs)
 | _=>none
def zlv:List T->Option T
 | [.tuple xs]=>some (.list xs)
 | [.list xs]=>some (.list xs)
 | _=>none
def oInt:List T->Option T
 | [.int i]=>some (.int i)
 | [.bool b]=>some (.int (if b then 1 else 0))
 | _=>none
def sIx (n d:Nat):Option Int->Nat
 | none=>d
 | some v=>(if v<0 then max (v+n) 0 else min v n).toNat
def cutZ {α:Type} (xs:List α) (lo hi:Option Int):List α:=(xs.drop (sIx xs.length 0 lo)).take (sIx xs.length xs.length hi - sIx xs.length 0 lo)
def oSl (t:T) (lo hi:Option Int):Option T:=match t with
 | .tuple xs=>some (.tuple (cutZ xs lo hi))
 | .list xs=>some (.list (cutZ xs lo hi))
 | _=>none
def z47:List T->Option (List Int)
 | []=>some []
 | .int i::ts=>(z47 ts).map fun r=>i::r
 | _::_=>none
def zb9:List T->Option (List Str)
 | []=>some []
 | .str x::ts=>(zb9 ts).map fun r=>x::r
 | _::_=>none
def insI (x:Int):List Int->List Int
 | []=>[x]
 | y::ys=>if x<=y then x::y::ys else y::insI x ys
def z1p:List Int->List Int
 | []=>[]
 | x::xs=>insI x (z1p xs)
def insS (x:Str):List Str->List Str
 | []=>[x]
 | y::ys=>if !z54 y x then x::y::ys else y::insS x ys
def z6s:List Str->List Str
 | []=>[]
 | x::xs=>insS x (z6s xs)
noncomputable def z2j:List T->Option T
 | [.list xs]=>if xs.length<64 then
   match z47 xs with
   | some ns=>some (.list ((z1p ns).map .int))
   | none=>(zb9 xs).map fun ss=>.list ((z6s ss).map .str)
  else none
 | _=>none
def z88:T->Option Key
 | .int i=>some (.inl i)
 | .str x=>some (.inr x)
 | _=>none
def putD (kvs:List (Key×T)) (k:Key) (v:T):List (Key×T):=if kvs.any (fun p=>decide (p.1=k)) then kvs.map fun p=>if p.1=k then (k,v) else p else kvs++[(k,v)]
def hasD (kvs:List (Key×T)) (k:Key):Bool:=kvs.any fun p=>decide (p.1=k)
def keyT:Key->T
 | .inl i=>.int i
 | .inr x=>.str x
def dic? (i:Nat) (ε:Ev):Option (List (Key×T)):=match ε[i]? with
 | some (some (.dic kvs))=>some kvs
 | _=>none
def dIn (neg:Bool) (f:Fe) (i:Nat):Fe:=fun ε=>(f ε).bind fun t=>(z88 t).bind fun k=>(dic? i ε).map fun kvs=>.bool (if neg then !hasD kvs k else hasD kvs k)
def z6f (i:Nat):Fe:=fun ε=>(dic? i ε).bind fun kvs=>if kvs.length<64 then (z47 (kvs.map fun p=>keyT p.1)).map fun ns=>.list ((z1p ns).map .int) else none
def cst (t:T):Fe:=fun _=>some t
def nm (i:Nat):Fe:=fun ε=>match ε[i]? with
 | some (some (.imm t))=>some t
 | some (some (.own ts))=>some (.list ts)
 | _=>none
def nmV (i:Nat):Fe:=fun ε=>match ε[i]? with
 | some (some (.imm t))=>some t
 | _=>none
def op1 (o:T->Option T) (f:Fe):Fe:=fun ε=>(f ε).bind o
def op2 (o:T->T->Option T) (f g:Fe):Fe:=fun ε=>(f ε).bind fun x=>(g ε).bind fun y=>o x y
def args:List Fe->Ev->Option (List T)
 | [],_=>some []
 | f::fs,ε=>(f ε).bind fun t=>(args fs ε).map fun ts=>t::ts
def opN (o:List T->Option T) (fs:List Fe):Fe:=fun ε=>(args fs ε).bind o
def z07 (fs:List Fe):Fe:=fun ε=>(args fs ε).bind fun ts=>if ts.length<=big then some (.tuple ts) else none
def z1d (fs:List Fe):Fe:=fun ε=>(args fs ε).bind fun ts=>if ts.length<=big then some (.list ts) else none
def opt (f:Fe):Ev->Option (Option Int):=fun ε=>(f ε).bind fun t=>match t with|.int i=>some (some i)|_=>none
def optN:Ev->Option (Option Int):=fun _=>some none
def slice (f:Fe) (lo hi:Ev->Option (Option Int)):Fe:=fun ε=>(f ε).bind fun t=>(lo ε).bind fun l=>(hi ε).bind fun h=>oSl t l h
def notV (f:Fe):Fe:=fun ε=>(f ε).bind fun t=>match t with|.bool b=>some (.bool (!b))|_=>none
def tstB (f:Fe):Ft:=fun ε=>(f ε).bind fun t=>match t with|.bool b=>some b|_=>none
def tstL (f:Fe):Ft:=fun ε=>(f ε).bind fun t=>match t with|.list ts=>some (!ts.isEmpty)|.tuple ts=>some (!ts.isEmpty)|_=>none
def andT (f g:Ft):Ft:=fun ε=>(f ε).bind fun b=>if b then g ε else some false
def orT (f g:Ft):Ft:=fun ε=>(f ε).bind fun b=>if b then some true else g ε
def notT (f:Ft):Ft:=fun ε=>(f ε).map fun b=>!b
def cstT (b:Bool):Ft:=fun _=>some b
def ofT (c:Ft):Fe:=fun ε=>(c ε).map .bool
def z0i (f:Fe):Fi:=fun ε=>(f ε).bind fun t=>match t with|.tuple ts=>some ts|.list ts=>some ts|_=>none
def z6v (f:Fe):Fi:=fun ε=>(f ε).bind fun t=>match t with|.tuple ts=>some ts|_=>none
def rng (lo hi:Int):List T:=(List.range (hi - lo).toNat).map fun (k:Nat)=>.int (lo+(k:Int))
def z2v (i:Int):Bool:=decide (-(2 ^ 62)<=i) && decide (i<2 ^ 62)
def z3h (f:Fe):Fi:=fun ε=>(f ε).bind fun t=>match t with|.int j=>if z2v j then some (rng 0 j) else none|_=>none
def z7h (f g:Fe):Fi:=fun ε=>(f ε).bind fun t=>(g ε).bind fun u=>match t,u with|.int i,.int j=>if z2v i && z2v j then some (rng i j) else none|_,_=>none
def enum (ts:List T):List T:=ts.zipIdx.map fun p=>.tuple [.int p.2,p.1]
def z24 (f:Fi):Fi:=fun ε=>(f ε).map enum
def gNm (i:Nat):Fg:=fun t ε=>some (ε.set i (some (.imm t)))
def gAll:List Fg->List T->Ev->Option Ev
 | [],[],ε=>some ε
 | g::gs,t::ts,ε=>(g t ε).bind fun ε'=>gAll gs ts ε'
 | _,_,_=>none
def gTu (gs:List Fg):Fg:=fun t ε=>match t with|.tuple ts=>gAll gs ts ε|_=>none
noncomputable def z2o (g:Fg) (c:Ft) (e:Fe):List T->Ev->Option (List T)
 | [],_=>some []
 | t::ts,ε=>(g t ε).bind fun ε1=>(c ε1).bind fun b=>if b then (e ε1).bind fun y=>(z2o g c e ts ε1).map fun ys=>y::ys else z2o g c e ts ε1
def z1j (own:Nat) (caps:List Nat) (ε:Ev):Ev:=y0g own none++caps.map fun i=>(ε[i]?).join
def comp (own:Nat) (caps:List Nat) (it:Fi) (g:Fg) (c:Ft) (e:Fe):Fe:=fun ε=>(it ε).bind fun ts=>if ts.length<=big then (z2o g c e ts (z1j own caps ε)).map .list else none
def skip:Fs:=fun ε=>some (.nx ε)
def seq (a b:Fs):Fs:=fun ε=>(a ε).bind fun o=>match o with|.nx ε'=>b ε'|o=>some o
def asg (i:Nat) (f:Fe):Fs:=fun ε=>(f ε).map fun t=>.nx (ε.set i (some (.imm t)))
def asgN (i:Nat) (f:Fe):Fs:=fun ε=>(f ε).bind fun t=>match t with|.list ts=>some (.nx (ε.set i (some (.own ts))))|_=>none
def asgT (g:Fg) (f:Fe):Fs:=fun ε=>(f ε).bind fun t=>(g t ε).map .nx
def rtn (f:Fe):Fs:=fun ε=>(f ε).map .rt
def iff (c:Ft) (a b:Fs):Fs:=fun ε=>(c ε).bind fun x=>if x then a ε else b ε
def brk:Fs:=fun ε=>some (.bk ε)
noncomputable def forL (g:Fg) (b:Fs):List T->Ev->Option Out
 | [],ε=>some (.nx ε)
 | t::ts,ε=>(g t ε).bind fun ε1=>(b ε1).bind fun o=>match o with
  | .nx ε2=>forL g b ts ε2
  | .ct ε2=>forL g b ts ε2
  | .bk ε2=>some (.nx ε2)
  | .rt t=>some (.rt t)
  | .rtm t ε2=>some (.rtm t ε2)
  | .rto s=>some (.rto s)
def for_ (it:Fi) (g:Fg) (b:Fs):Fs:=fun ε=>(it ε).bind fun ts=>forL g b ts ε
noncomputable def whl (c:Ft) (b:Fs):Nat->Fs
 | 0,_=>none
 | n+1,ε=>(c ε).bind fun x=>if x then (b ε).bind fun o=>(match o with
   | .nx ε2=>whl c b n ε2
   | .ct ε2=>whl c b n ε2
   | .bk ε2=>some (.nx ε2)
   | .rt t=>some (.rt t)
   | .rtm t ε2=>some (.rtm t ε2)
   | .rto s=>some (.rto s)) else some (.nx ε)
noncomputable def app (i:Nat) (f:Fe):Fs:=fun ε=>match ε[i]? with
 | some (some (.own ts))=>(f ε).bind fun t=>if ts.length<big then some (.nx (ε.set i (some (.own (ts++[t]))))) else none
 | _=>none
noncomputable def ext (i:Nat) (f:Fe):Fs:=fun ε=>match ε[i]? with
 | some (some (.own ts))=>(f ε).bind fun t=>match t with
  | .list us=>if ts.length+us.length<=big then some (.nx (ε.set i (some (.own (ts++us))))) else none
  | _=>none
 | _=>none
noncomputable def pop (i j:Nat):Fs:=fun ε=>match ε[j]? with
 | some (some (.own ts))=>(ts.getLast?).bind fun t=>if i=j then none else some (.nx ((ε.set j (some (.own ts.dropLast))).set i (some (.imm t))))
 | _=>none
noncomputable def par (i j:Nat) (own:Bool) (f g:Fe):Fs:=fun ε=>(f ε).bind fun t=>(g ε).bind fun u=>if own then (match u with|.list us=>some (.nx ((ε.set i (some (.imm t))).set j (some (.own us))))|_=>none) else some (.nx ((ε.set i (some (.imm t))).set j (some (.imm u))))
def dNew (i:Nat) (k v:Fe):Fs:=fun ε=>(k ε).bind fun t=>(z88 t).bind fun k=>(v ε).map fun v=>.nx (ε.set i (some (.dic [(k,v)])))
noncomputable def dPut (i:Nat) (k v:Fe):Fs:=fun ε=>(v ε).bind fun v=>(k ε).bind fun t=>(z88 t).bind fun k=>(dic? i ε).bind fun kvs=>if kvs.length<big then some (.nx (ε.set i (some (.dic (putD kvs k v))))) else none
noncomputable def runF (b:Fs) (n:Nat) (as:List T):Option T:=(b ((as.map fun t=>some (.imm t))++y0g (n - as.length) none)).bind fun o=>match o with
 | .rt t=>some t
 | .nx _=>some .none
 | _=>none
end D
end
section
namespace D
open PySem PySem.Spec PyProof.Rows L2
section
mutual
noncomputable def Rep (K:y00) (F:Addr->Prop) (H:Hp):T->V->Prop
 | .none,v=>v=.non
 | .bool b,v=>v=.bl b
 | .int i,v=>v=.int i
 | .str x,v=>v=.str x
 | .dict _,_=>False
 | .tuple ts,v=>∃a vs,v=.ref a/\SqT K H a vs/\RepL K F H ts vs
 | .list ts,v=>∃a vs,v=.ref a/\F a/\Rd H a (.lst vs)/\RepL K F H ts vs
noncomputable def RepL (K:y00) (F:Addr->Prop) (H:Hp):List T->List V->Prop
 | [],vs=>vs=[]
 | t::ts,vs=>∃v r,vs=v::r/\Rep K F H t v/\RepL K F H ts r
end
section
variable {K:y00} {F F':Addr->Prop} {H H':Hp}
mutual
theorem Rep.keep (h1:∀b xs,SqT K H b xs->SqT K H' b xs) (h2:∀b xs,F b->Rd H b (.lst xs)->F' b/\Rd H' b (.lst xs)):∀{t:T} {v:V},Rep K F H t v->Rep K F' H' t v
 | .none,v,h=>by simpa [Rep] using h
 | .bool _,v,h=>by simpa [Rep] using h
 | .dict _,v,h=>by simp[Rep] at h
 | .int _,v,h=>by simpa [Rep] using h
 | .str _,v,h=>by simpa [Rep] using h
 | .tuple ts,v,h=>by
  simp only[Rep] at h ⊢
  obtain⟨a,vs,e,q,r⟩:=h
  exact⟨a,vs,e,h1 _ _ q,RepL.keep h1 h2 r⟩
 | .list ts,v,h=>by
  simp only[Rep] at h ⊢
  obtain⟨a,vs,e,f,q,r⟩:=h
  exact⟨a,vs,e,(h2 _ _ f q).1,(h2 _ _ f q).2,RepL.keep h1 h2 r⟩
theorem RepL.keep (h1:∀b xs,SqT K H b xs->SqT K H' b xs) (h2:∀b xs,F b->Rd H b (.lst xs)->F' b/\Rd H' b (.lst xs)):∀{ts:List T} {vs:List V},RepL K F H ts vs->RepL K F' H' ts vs
 | [],vs,h=>by simpa [RepL] using h
 | t::ts,vs,h=>by
  simp only[RepL] at h ⊢
  obtain⟨v,r,e,q,z⟩:=h
  exact⟨v,r,e,Rep.keep h1 h2 q,RepL.keep h1 h2 z⟩
end
theorem RepL.nil:RepL K F H [] []:=by simp[RepL]
theorem RepL.cons {t:T} {v:V} {ts:List T} {vs:List V} (h:Rep K F H t v) (r:RepL K F H ts vs):RepL K F H (t::ts) (v::vs):=by
 simp only[RepL]
 exact⟨v,vs,rfl,h,r⟩
theorem RepL.length:∀{ts:List T} {vs:List V},RepL K F H ts vs->ts.length=vs.length
 | [],vs,h=>by
  simp only[RepL] at h
  subst h
  rfl
 | t::ts,vs,h=>by
  simp only[RepL] at h
  obtain⟨v,r,e,q,z⟩:=h
  subst e
  simp[RepL.length z]
theorem RepL.get:∀{ts:List T} {vs:List V} {i:Nat} {t:T},RepL K F H ts vs->ts[i]?=some t->∃v,vs[i]?=some v/\Rep K F H t v
 | [],vs,i,t,h,e=>by simp at e
 | x::ts,vs,0,t,h,e=>by
  simp only[RepL] at h
  obtain⟨v,r,rfl,q,z⟩:=h
  simp at e
  subst e
  exact⟨v,rfl,q⟩
 | x::ts,vs,i+1,t,h,e=>by
  simp only[RepL] at h
  obtain⟨v,r,rfl,q,z⟩:=h
  obtain⟨u,h1,h2⟩:=RepL.get (i:=i) (t:=t) z (by simpa using e)
  exact⟨u,by simpa using h1,h2⟩
theorem RepL.append:∀{ts us:List T} {vs ws:List V},RepL K F H ts vs->RepL K F H us ws->RepL K F H (ts++us) (vs++ws)
 | [],us,vs,ws,h,r=>by
  simp only[RepL] at h
  subst h
  exact r
 | t::ts,us,vs,ws,h,r=>by
  simp only[RepL] at h
  obtain⟨v,z,rfl,q,y⟩:=h
  exact RepL.cons q (RepL.append y r)
theorem RepL.take:∀{ts:List T} {vs:List V} (n:Nat),RepL K F H ts vs->RepL K F H (ts.take n) (vs.take n)
 | [],vs,n,h=>by
  simp only[RepL] at h
  subst h
  simpa using RepL.nil
 | t::ts,vs,0,h=>by simpa using RepL.nil
 | t::ts,vs,n+1,h=>by
  simp only[RepL] at h
  obtain⟨v,z,rfl,q,y⟩:=h
  simpa using RepL.cons q (RepL.take n y)
theorem RepL.drop:∀{ts:List T} {vs:List V} (n:Nat),RepL K F H ts vs->RepL K F H (ts.drop n) (vs.drop n)
 | [],vs,n,h=>by
  simp only[RepL] at h
  subst h
  simpa using RepL.nil
 | t::ts,vs,0,h=>by simpa using h
 | t::ts,vs,n+1,h=>by
  simp only[RepL] at h
  obtain⟨v,z,rfl,q,y⟩:=h
  simpa using RepL.drop n y
end
class Tbl where
 tb:List (Addr×Str)
 cn:Nat->List Str
 ck:Nat->Option Addr
noncomputable def TbG (H:Hp) (b:Addr) (q:Str):Prop:=∃ps:Array Value,H b=some (.tbl ps)/\TriplesOk ps.toList/\∀pos cv,codeAmong pos ps.toList=some cv->∃c,cv=.ref c/\H c=some (.ext fun h=>h.CodeRec (.ref c) q)
def TbS [t:Tbl] (H:Hp):Prop:=∀p∈t.tb,TbG H p.1 p.2
theorem TbG.keep {H H':Hp} {b:Addr} {q:Str} (h:TbG H b q) (k1:∀a ps,H a=some (.tbl ps)->H' a=some (.tbl ps)) (k2:∀a φ,H a=some (.ext φ)->H' a=some (.ext φ)):TbG H' b q:=by
 obtain⟨ps,h1,h2,h3⟩:=h
 refine⟨ps,k1 _ _ h1,h2,fun pos cv e=>?_⟩
 obtain⟨c,e1,e2⟩:=h3 pos cv e
 exact⟨c,e1,k2 _ _ e2⟩
variable [Tbl]
def HoM (u:HO):Prop:=(∃xs,u=.lst xs)\/(∃xs,u=.dK xs)\/∃C dx fs,u=.ins C dx fs
theorem HoM.cases {P:Prop} {u:HO} (h:HoM u) (h1:∀xs,u=.lst xs->P) (h2:∀xs,u=.dK xs->P) (h3:∀C dx fs,u=.ins C dx fs->P):P:=by
 rcases h with ⟨xs,e⟩|⟨xs,e⟩|⟨C,dx,fs,e⟩
 ·exact h1 xs e
 ·exact h2 xs e
 ·exact h3 C dx fs e
theorem TbS.updM {H:Hp} (h:TbS H) {p:Addr} {o:HO} (hp:∀u,H p=some u->HoM u):TbS (upd H p o):=fun b hb =>
 (h b hb).keep (fun a ps e=>by
  have nb:a≠p:=by
   rintro rfl
   exact (hp _ e).cases (fun _ z=>by cases z) (fun _ z=>by cases z) (fun _ _ _ z=>by cases z)
  rw[z02 nb];exact e) fun a φ e=>by
  have nb:a≠p:=by
   rintro rfl
   exact (hp _ e).cases (fun _ z=>by cases z) (fun _ z=>by cases z) (fun _ _ _ z=>by cases z)
  rw[z02 nb];exact e
theorem TbS.upd {H:Hp} (h:TbS H) {p:Addr} {o:HO} (hp:∀u,H p=some u->(∃xs,u=.lst xs)\/∃xs,u=.dK xs):TbS (upd H p o):=h.updM fun u e=>by
 rcases hp u e with z|z
 ·exact .inl z
 ·exact .inr (.inl z)
theorem TbS.new {H:Hp} (h:TbS H) {p:Addr} {o:HO} (hp:H p=none):TbS (L2.upd H p o):=h.upd fun u e=>by rw[hp] at e;cases e
structure Dom (F:Addr->Prop) (H:Hp):Prop where
 dm:∀a,F a->∃o,H a=some o
 tgs:TbS H
instance {F:Addr->Prop} {H:Hp}:CoeFun (Dom F H) fun _=>∀a,F a->∃o,H a=some o:=⟨Dom.dm⟩
def z3k (H H':Hp):Prop:=∀b o,H b=some o->H' b=some o\/∃ps ps',o=.tbl ps/\H' b=some (.tbl ps')
theorem z3k.refl (H:Hp):z3k H H:=fun _ _ h=>.inl h
theorem z3k.ne {H H':Hp} (s:z3k H H') {b:Addr} {o:HO} (e:H b=some o):∃u,H' b=some u:=by
 rcases s b o e with h|⟨_,_,_,h⟩
 ·exact⟨_,h⟩
 ·exact⟨_,h⟩
theorem z3k.none {H H':Hp} (s:z3k H H') {b:Addr} (e:H' b=none):H b=none:=by
 cases z:H b with
 | none=>rfl
 | some o =>
  obtain⟨u,q⟩:=s.ne z
  rw[e] at q
  cases q
theorem z3k.get {H H':Hp} (s:z3k H H') {b:Addr} {o:HO} (e:H b=some o) (n:∀ps,o≠.tbl ps:=by intro _ z;cases z):H' b=some o:=by
 rcases s b o e with h|⟨_,_,z,_⟩
 ·exact h
 ·exact absurd z (n _)
theorem z3k.trans {H H1 H2:Hp} (a:z3k H H1) (b:z3k H1 H2):z3k H H2:=fun c o h=>by
 rcases a c o h with q|⟨ps,ps1,z,q⟩
 ·exact b c o q
 ·rcases b c _ q with q2|⟨_,ps2,z2,q2⟩
  ·exact .inr ⟨ps,ps1,z,q2⟩
  ·exact .inr ⟨ps,ps2,z,q2⟩
structure Ext (F:Addr->Prop) (H:Hp) (F':Addr->Prop) (H':Hp):Prop where
 same:z3k H H'
 sub:∀a,F a->F' a
 new:∀a,F' a->F a\/H a=none
 dom:Dom F' H'
section
variable {K:y00} {F F1 F2:Addr->Prop} {H H1 H2:Hp}
theorem Ext.refl (d:Dom F H):Ext F H F H:=⟨z3k.refl H,fun _ h=>h,fun _ h=>.inl h,d⟩
theorem Ext.trans (a:Ext F H F1 H1) (b:Ext F1 H1 F2 H2):Ext F H F2 H2 :=
 ⟨a.same.trans b.same,fun x h=>b.sub x (a.sub x h),fun x h=>(b.new x h).elim (fun z=>a.new x z) fun z=>.inr (a.same.none z),b.dom⟩
theorem Rd.same {a:Addr} {u:HO} (s:z3k H H1) (r:Rd H a u) (n:∀ps,u≠.tbl ps:=by intro _ z;cases z):Rd H1 a u:=by
 rcases r with r|⟨o,r⟩
 ·exact .inl (s.get r n)
 ·exact .inr ⟨o,s.get r⟩
theorem SqT.same {a:Addr} {xs:List V} (s:z3k H H1) (r:SqT K H a xs):SqT K H1 a xs:=by
 rcases r with r|r
 ·exact .inl (Rd.same s r)
 ·exact .inr r
theorem Rep.ext {t:T} {v:V} (r:Rep K F H t v) (x:Ext F H F1 H1):Rep K F1 H1 t v:=r.keep (fun _ _ q=>SqT.same x.same q) fun b _ f q=>⟨x.sub b f,Rd.same x.same q⟩
theorem RepL.ext {t:List T} {v:List V} (r:RepL K F H t v) (x:Ext F H F1 H1):RepL K F1 H1 t v:=r.keep (fun _ _ q=>SqT.same x.same q) fun b _ f q=>⟨x.sub b f,Rd.same x.same q⟩
theorem Ext.laid {p:Addr} {o:HO} (d:Dom F H) (hp:H p=none):Ext F H F (upd H p o) :=
 ⟨fun b u q=>.inl (same_new' hp o b u q),fun _ h=>h,fun _ h=>.inl h,⟨fun a h=>by
  obtain⟨u,e⟩:=d a h
  exact⟨u,same_new' hp o a u e⟩,d.tgs.new hp⟩⟩
where same_new' {H:Hp} {p:Addr} (h:H p=none) (o:HO):Same H (upd H p o):=fun b u q=>by rw[z02 (z0a q h)];exact q
theorem Ext.laidF {p:Addr} {o:HO} (d:Dom F H) (hp:H p=none):Ext F H (fun a=>F a\/a=p) (upd H p o) :=
 ⟨fun b u q=>.inl (Ext.laid.same_new' hp o b u q),fun _ h=>.inl h,fun a h=>by
  rcases h with h|rfl
  ·exact .inl h
  ·exact .inr hp,⟨fun a h=>by
  rcases h with h|rfl
  ·obtain⟨u,e⟩:=d a h
   exact⟨u,Ext.laid.same_new' hp o a u e⟩
  ·exact⟨o,z03⟩,d.tgs.new hp⟩⟩
end
structure Kp (K:y00) (F:Addr->Prop) (H:Hp) (F':Addr->Prop) (H':Hp):Prop where
 tup:∀b xs,SqT K H b xs->SqT K H' b xs
 lst:∀b xs,F b->Rd H b (.lst xs)->F' b/\Rd H' b (.lst xs)
section
variable {K:y00} {F F1 F2:Addr->Prop} {H H1 H2:Hp}
theorem Kp.refl:Kp K F H F H:=⟨fun _ _ h=>h,fun _ _ f h=>⟨f,h⟩⟩
theorem Kp.trans (a:Kp K F H F1 H1) (b:Kp K F1 H1 F2 H2):Kp K F H F2 H2:=⟨fun x xs h=>b.tup x xs (a.tup x xs h),fun x xs f h=>b.lst x xs (a.lst x xs f h).1 (a.lst x xs f h).2⟩
theorem Ext.kp (x:Ext F H F1 H1):Kp K F H F1 H1:=⟨fun _ _ q=>SqT.same x.same q,fun b _ f q=>⟨x.sub b f,Rd.same x.same q⟩⟩
theorem Rep.kp {t:T} {v:V} (r:Rep K F H t v) (x:Kp K F H F1 H1):Rep K F1 H1 t v:=r.keep x.tup x.lst
theorem RepL.kp {t:List T} {v:List V} (r:RepL K F H t v) (x:Kp K F H F1 H1):RepL K F1 H1 t v:=r.keep x.tup x.lst
end
def RepR (K:y00) (O F:Addr->Prop) (H:Hp) (t:T) (v:V):Prop :=
 Rep K F H t v\/∃ts a vs,t=.list ts/\v=.ref a/\H a=some (.lst vs)/\RepL K F H ts vs
section
variable {K:y00} {O F F1:Addr->Prop} {H H1:Hp} {v:V}
theorem RepR.ext {t:T} (r:RepR K O F H t v) (x:Ext F H F1 H1):RepR K O F1 H1 t v:=by
 rcases r with r|⟨ts,a,vs,e1,e2,e4,r⟩
 ·exact .inl (r.ext x)
 ·exact .inr ⟨ts,a,vs,e1,e2,x.same.get e4,r.ext x⟩
theorem RepR.non (r:RepR K O F H .none v):v=.non:=by
 rcases r with r|⟨ts,a,vs,e1,_⟩
 ·simpa [Rep] using r
 ·cases e1
theorem RepR.bl {b:Bool} (r:RepR K O F H (.bool b) v):v=.bl b:=by
 rcases r with r|⟨ts,a,vs,e1,_⟩
 ·simpa [Rep] using r
 ·cases e1
theorem RepR.int {i:Int} (r:RepR K O F H (.int i) v):v=.int i:=by
 rcases r with r|⟨ts,a,vs,e1,_⟩
 ·simpa [Rep] using r
 ·cases e1
theorem RepR.str {x:Str} (r:RepR K O F H (.str x) v):v=.str x:=by
 rcases r with r|⟨ts,a,vs,e1,_⟩
 ·simpa [Rep] using r
 ·cases e1
theorem RepR.tup {ts:List T} (r:RepR K O F H (.tuple ts) v):∃a vs,v=.ref a/\SqT K H a vs/\RepL K F H ts vs:=by
 rcases r with r|⟨ts,a,vs,e1,_⟩
 ·simpa [Rep] using r
 ·cases e1
theorem RepR.lst {ts:List T} (r:RepR K O F H (.list ts) v):∃a vs,v=.ref a/\Rd H a (.lst vs)/\RepL K F H ts vs:=by
 rcases r with r|⟨us,a,vs,e1,e2,e4,r⟩
 ·simp only[Rep] at r
  obtain⟨a,vs,e,_,q,z⟩:=r
  exact⟨a,vs,e,q,z⟩
 ·cases e1
  exact⟨a,vs,e2,.inl e4,r⟩
end
def RepD (K:y00) (F:Addr->Prop) (H:Hp):List (D.Key×T)->List (D.Key×V)->Prop
 | [],vs=>vs=[]
 | p::ts,vs=>∃v r,vs=(p.1,v)::r/\Rep K F H p.2 v/\RepD K F H ts r
theorem RepD.kp {K:y00} {F F':Addr->Prop} {H H':Hp} (x:Kp K F H F' H'):∀{ts:List (D.Key×T)} {vs:List (D.Key×V)},RepD K F H ts vs->RepD K F' H' ts vs
 | [],vs,h=>h
 | p::ts,vs,h=>by
  obtain⟨v,r,e,q,z⟩:=h
  exact⟨v,r,e,q.kp x,RepD.kp x z⟩
structure En where
 h:Hp
 la:Addr
def rf:V->List Addr
 | .ref a=>[a]
 | _=>[]
def fp0:Sl->V->List Addr
 | .imm _,_=>[]
 | _,v=>rf v
def fpF:List Sl->List V->List Addr
 | s::ss,v::vs=>fp0 s v++fpF ss vs
 | _,_=>[]
def zb5 (H:Hp):V->List V
 | .ref a=>(match H a with
  | some (.ins _ _ kvs)=>kvs.map (·.2)
  | some (.dK kvs)=>kvs.map (·.2)
  | _=>[])
 | _=>[]
def fpS (H:Hp):Sl->V->List Addr
 | .imm _,_=>[]
 | .own _,v=>rf v
 | .dic _,v=>rf v
 | .obj _ _ fs,v=>rf v++fpF fs (zb5 H v)
noncomputable def z6y (H:Hp) (a:Addr) (c:Nat) (vs:List V):Prop:=vs.length<=(Tbl.cn c).length/\match Tbl.ck c with
 | some C=>∃dx,H a=some (.ins C dx ((Tbl.cn c).zip vs))
 | none=>H a=some (.dK (((Tbl.cn c).zip vs).map fun p=>(.inr p.1,p.2)))
noncomputable def zd1 (K:y00) (F:Addr->Prop) (H:Hp):Sl->V->Prop
 | .imm t,v=>Rep K F H t v
 | .own ts,v=>∃b us,v=.ref b/\H b=some (.lst us)/\RepL K F H ts us
 | .dic kvs,v=>∃b us,v=.ref b/\H b=some (.dK us)/\RepD K F H kvs us
 | .obj _ _ _,_=>False
def RelF (K:y00) (F:Addr->Prop) (H:Hp):List Sl->List V->Prop
 | [],vs=>vs=[]
 | s::ss,vs=>∃v r,vs=v::r/\zd1 K F H s v/\RelF K F H ss r
def OwnM (E:En) (O F:Addr->Prop) (m:Md) (b:Addr):Prop:=¬F b/\match m with
 | .ro=>E.h b≠none
 | _=>O b
noncomputable def z1r (K:y00) (E:En) (O F:Addr->Prop) (H:Hp):Sl->V->Prop
 | .imm t,v=>Rep K F H t v
 | .own ts,v=>∃a vs,v=.ref a/\¬F a/\O a/\H a=some (.lst vs)/\RepL K F H ts vs
 | .dic kvs,v=>∃a vs,v=.ref a/\¬F a/\O a/\H a=some (.dK vs)/\RepD K F H kvs vs
 | .obj m c fs,v=>∃a vs,v=.ref a/\z6y H a c vs/\RelF K F H fs vs/\(a::fpF fs vs).Nodup/\(∀b∈a::fpF fs vs,OwnM E O F m b)/\(m=.lent->a=E.la)
def Sl.isOwn:Sl->Bool
 | .imm _=>false
 | .obj .ro _ _=>false
 | _=>true
section
variable {K:y00} {F F' O O':Addr->Prop} {H H':Hp} {E:En}
theorem za8 {α β:Type}:∀{xs:List α} {ys:List β},ys.length<=xs.length->(xs.zip ys).map (·.2)=ys
 | xs,[],_=>by simp
 | [],y::ys,h=>by simp at h
 | x::xs,y::ys,h=>by simp[za8 (xs:=xs) (ys:=ys) (by simpa using h)]
theorem z6y.vals {a:Addr} {c:Nat} {vs:List V} (h:z6y H a c vs):zb5 H (.ref a)=vs:=by
 obtain⟨hl,h⟩:=h
 unfold zb5
 split at h
 ·obtain⟨dx,e⟩:=h
  simp only[e]
  exact za8 hl
 ·simp only[h,y2c]
  exact za8 hl
theorem z6y.mem {a:Addr} {c:Nat} {vs:List V} (h:z6y H a c vs):∃o,H a=some o/\HoM o:=by
 obtain⟨hl,h⟩:=h
 split at h
 ·obtain⟨dx,e⟩:=h
  exact⟨_,e,.inr (.inr ⟨_,_,_,rfl⟩)⟩
 ·exact⟨_,h,.inr (.inl ⟨_,rfl⟩)⟩
theorem z6y.keep {a:Addr} {c:Nat} {vs:List V} (h:z6y H a c vs) (e:H' a=H a):z6y H' a c vs:=by
 obtain⟨hl,h⟩:=h
 refine⟨hl,?_⟩
 rw[e]
 exact h
theorem z76 {v:V} {b:Addr} (h:b∈rf v):v=.ref b:=by
 unfold rf at h
 split at h
 ·simp at h
  rw[h]
 ·simp at h
theorem zd1.at {s:Sl} {v:V} {b:Addr} (r:zd1 K F H s v) (h:b∈fp0 s v):∃o,H b=some o/\HoM o:=by
 cases s with
 | imm t=>simp[fp0] at h
 | own ts =>
  obtain⟨b',us,e,eh,_⟩:=r
  have:=z76 h
  rw[e] at this
  cases this
  exact⟨_,eh,.inl ⟨_,rfl⟩⟩
 | dic ts =>
  obtain⟨b',us,e,eh,_⟩:=r
  have:=z76 h
  rw[e] at this
  cases this
  exact⟨_,eh,.inr (.inl ⟨_,rfl⟩)⟩
 | obj m c fs=>exact r.elim
theorem RelF.at:∀{fs:List Sl} {vs:List V} {b:Addr},RelF K F H fs vs->b∈fpF fs vs->∃o,H b=some o/\HoM o
 | [],vs,b,r,h=>by simp[fpF] at h
 | s::ss,vs,b,r,h=>by
  obtain⟨v,z,rfl,r1,r2⟩:=r
  rw[show fpF (s::ss) (v::z)=fp0 s v++fpF ss z from rfl] at h
  rcases y10.mp h with h|h
  ·exact r1.at h
  ·exact RelF.at r2 h
theorem z57 {m:Md} {c:Nat} {fs:List Sl} {a:Addr} {vs:List V} (h:z6y H a c vs):fpS H (.obj m c fs) (.ref a)=a::fpF fs vs:=by
 show rf (.ref a)++fpF fs (zb5 H (.ref a))=_
 rw[h.vals]
 rfl
theorem z1r.at {s:Sl} {v:V} {b:Addr} (r:z1r K E O F H s v) (h:b∈fpS H s v):∃o,H b=some o/\HoM o:=by
 cases s with
 | imm t=>simp[fpS] at h
 | own ts =>
  obtain⟨b',us,e,_,_,eh,_⟩:=r
  have:=z76 h
  rw[e] at this
  cases this
  exact⟨_,eh,.inl ⟨_,rfl⟩⟩
 | dic ts =>
  obtain⟨b',us,e,_,_,eh,_⟩:=r
  have:=z76 h
  rw[e] at this
  cases this
  exact⟨_,eh,.inr (.inl ⟨_,rfl⟩)⟩
 | obj m c fs =>
  obtain⟨a,vs,rfl,ha,hf,_⟩:=r
  rw[z57 ha] at h
  rcases y09.mp h with rfl|h
  ·exact ha.mem
  ·exact hf.at h
theorem z1r.held {s:Sl} {v:V} {b:Addr} (r:z1r K E O F H s v) (h:b∈fpS H s v):¬F b/\(s.isOwn=true->O b)/\(s.isOwn=false->E.h b≠none):=by
 cases s with
 | imm t=>simp[fpS] at h
 | own ts =>
  obtain⟨b',us,e,n,o,eh,_⟩:=r
  have:=z76 h
  rw[e] at this
  cases this
  exact⟨n,fun _=>o,fun z=>by cases z⟩
 | dic ts =>
  obtain⟨b',us,e,n,o,eh,_⟩:=r
  have:=z76 h
  rw[e] at this
  cases this
  exact⟨n,fun _=>o,fun z=>by cases z⟩
 | obj m c fs =>
  obtain⟨a,vs,rfl,ha,hf,nd,ow,_⟩:=r
  rw[z57 ha] at h
  obtain⟨n,q⟩:=ow b h
  refine⟨n,fun z=>?_,fun z=>?_⟩
  ·cases m with
   | ro=>cases z
   | own=>exact q
   | lent=>exact q
  ·cases m with
   | ro=>exact q
   | own=>cases z
   | lent=>cases z
theorem zd1.keep {s:Sl} {v:V} (r:zd1 K F H s v) (kp:Kp K F H F' H') (hh:∀b∈fp0 s v,H' b=H b):zd1 K F' H' s v:=by
 cases s with
 | imm t=>exact Rep.kp r kp
 | own ts =>
  obtain⟨b,us,rfl,eh,z⟩:=r
  exact⟨b,us,rfl,by rw[hh b (by simp[fp0,rf])];exact eh,z.kp kp⟩
 | dic ts =>
  obtain⟨b,us,rfl,eh,z⟩:=r
  exact⟨b,us,rfl,by rw[hh b (by simp[fp0,rf])];exact eh,RepD.kp kp z⟩
 | obj m c fs=>exact r.elim
theorem RelF.keep:∀{fs:List Sl} {vs:List V},RelF K F H fs vs->Kp K F H F' H'->(∀b∈fpF fs vs,H' b=H b)->RelF K F' H' fs vs
 | [],vs,r,_,_=>r
 | s::ss,vs,r,kp,hh=>by
  obtain⟨v,z,rfl,r1,r2⟩:=r
  rw[show fpF (s::ss) (v::z)=fp0 s v++fpF ss z from rfl] at hh
  exact⟨v,z,rfl,r1.keep kp fun b h=>hh b (y10.mpr (.inl h)),RelF.keep r2 kp fun b h=>hh b (y10.mpr (.inr h))⟩
theorem z1r.keep {s:Sl} {v:V} (r:z1r K E O F H s v) (kp:Kp K F H F' H') (hh:∀b∈fpS H s v,H' b=H b) (hf:∀b∈fpS H s v,F' b->F b) (ho:∀b∈fpS H s v,O b->O' b) :
  z1r K E O' F' H' s v/\fpS H' s v=fpS H s v:=by
 cases s with
 | imm t=>exact⟨Rep.kp r kp,rfl⟩
 | own ts =>
  obtain⟨a,vs,rfl,n,o,eh,z⟩:=r
  have m:a∈fpS H (.own ts) (.ref a):=by simp[fpS,rf]
  exact⟨⟨a,vs,rfl,fun f=>n (hf a m f),ho a m o,by rw[hh a m];exact eh,z.kp kp⟩,rfl⟩
 | dic ts =>
  obtain⟨a,vs,rfl,n,o,eh,z⟩:=r
  have m:a∈fpS H (.dic ts) (.ref a):=by simp[fpS,rf]
  exact⟨⟨a,vs,rfl,fun f=>n (hf a m f),ho a m o,by rw[hh a m];exact eh,RepD.kp kp z⟩,rfl⟩
 | obj m c fs =>
  obtain⟨a,vs,rfl,ha,hr,nd,ow,la⟩:=r
  rw[z57 ha] at hh hf ho
  have ha':z6y H' a c vs:=ha.keep (hh a (by simp))
  refine⟨⟨a,vs,rfl,ha',hr.keep kp fun b h=>hh b (y05 _ h),nd,fun b h=>?_,la⟩,by rw[z57 ha,z57 ha']⟩
  obtain⟨n,q⟩:=ow b h
  refine⟨fun f=>n (hf b h f),?_⟩
  cases m with
  | ro=>exact q
  | own=>exact ho b h q
  | lent=>exact ho b h q
theorem z1r.extP {s:Sl} {v:V} (r:z1r K E O F H s v) (x:Ext F H F' H'):z1r K E O F' H' s v/\fpS H' s v=fpS H s v :=
 r.keep x.kp (fun b h=>by
  obtain⟨o,e,m⟩:=r.at h
  rw[e]
  exact x.same.get e fun ps z=>by subst z;exact m.cases (fun _ z=>by cases z) (fun _ z=>by cases z) (fun _ _ _ z=>by cases z)) (fun b h f=>by
  rcases x.new b f with z|z
  ·exact z
  ·obtain⟨o,e,_⟩:=r.at h
   rw[z] at e
   cases e) fun _ _ o=>o
theorem z1r.ext {s:Sl} {v:V} (r:z1r K E O F H s v) (x:Ext F H F' H'):z1r K E O F' H' s v:=(r.extP x).1
end
structure RelE (K:y00) (F₀:Addr->Prop) (E:En) (O F:Addr->Prop) (H:Hp) (ε:Ev) (σ:L2.St):Prop where
 len:ε.length=σ.length
 val:∀(i:Nat) (s:Sl),ε[i]?=some (some s)->∃v,σ[i]?=some (some v)/\z1r K E O F H s v
 ne:∀(i j:Nat) (s u:Sl) (v w:V),i≠j->ε[i]?=some (some s)->ε[j]?=some (some u)->s.isOwn=true->u.isOwn=true->σ[i]?=some (some v)->σ[j]?=some (some w)->∀a∈fpS H s v,a∉fpS H u w
 ent:Ext F₀ E.h F H
 o0:∀a,O a->E.h a=none
 fr:∀a,H a=none->O a
section
variable {K:y00} {F₀ O F F1:Addr->Prop} {E:En} {H H1:Hp} {ε:Ev} {σ:L2.St}
theorem RelE.dom (r:RelE K F₀ E O F H ε σ):Dom F H:=r.ent.dom
theorem RelE.ext (r:RelE K F₀ E O F H ε σ) (x:Ext F H F1 H1):RelE K F₀ E O F1 H1 ε σ :=
 ⟨r.len,fun i s e=>by
  obtain⟨v,h1,h2⟩:=r.val i s e
  exact⟨v,h1,h2.ext x⟩,fun i j s u v w hij e1 e2 o1 o2 h1 h2=>by
  obtain⟨v',h1',r1⟩:=r.val i s e1
  obtain⟨w',h2',r2⟩:=r.val j u e2
  rw[h1] at h1'
  rw[h2] at h2'
  cases h1'
  cases h2'
  rw[(r1.extP x).2,(r2.extP x).2]
  exact r.ne i j s u v w hij e1 e2 o1 o2 h1 h2,r.ent.trans x,r.o0,fun a e=>r.fr a (x.same.none e)⟩
theorem z3r {α:Type} {l:List (Option α)} {i j:Nat} {x:Option α} {y:α} (h:(l.set i x)[j]?=some (some y)):(i=j/\x=some y/\j<l.length)\/(i≠j/\l[j]?=some (some y)):=by
 rw[List.getElem?_set] at h
 by_cases e:i=j
 ·subst e
  rw[if_pos rfl] at h
  split at h
  next hl=>exact .inl ⟨rfl,y28 h,hl⟩
  next=>cases h
 ·rw[if_neg e] at h
  exact .inr ⟨e,h⟩
theorem zag {α:Type} {l:List (Option α)} {i:Nat} {x:Option α} (h:i<l.length):(l.set i x)[i]?=some x:=by
 rw[List.getElem?_set,if_pos rfl,if_pos h]
theorem z3w {α:Type} {l:List (Option α)} {i j:Nat} {x:Option α} (h:i≠j):(l.set i x)[j]?=l[j]?:=by
 rw[List.getElem?_set,if_neg h]
theorem RelE.setG {s:Sl} {v:V} (r:RelE K F₀ E O F H ε σ) (i:Nat) (h:z1r K E O F H s v) (fr:s.isOwn=true->∀(j:Nat) (u:Sl) (w:V),i≠j->ε[j]?=some (some u)->u.isOwn=true->σ[j]?=some (some w)->∀a∈fpS H s v,a∉fpS H u w) :
  RelE K F₀ E O F H (ε.set i (some s)) (σ.set i (some v)):=by
 refine⟨by simp[r.len],fun j u e=>?_,fun j k u w vu vw hjk e1 e2 o1 o2 h1 h2=>?_,r.ent,r.o0,r.fr⟩
 ·rcases z3r e with ⟨rfl,e',hl⟩|⟨ne,e'⟩
  ·cases e'
   exact⟨_,zag (by rw[<- r.len];exact hl),h⟩
  ·obtain⟨w,h1,h2⟩:=r.val j u e'
   exact⟨w,by rw[z3w ne];exact h1,h2⟩
 ·rcases z3r e1 with ⟨rfl,e',hl⟩|⟨ne1,e1'⟩
  ·rcases z3r e2 with ⟨rfl,_,_⟩|⟨ne2,e2'⟩
   ·exact absurd rfl hjk
   ·rw[zag (by rw[<- r.len];exact hl)] at h1
    rw[z3w ne2] at h2
    cases h1
    cases e'
    exact fr o1 k w vw ne2 e2' o2 h2
  ·rw[z3w ne1] at h1
   rcases z3r e2 with ⟨rfl,e',hl⟩|⟨ne2,e2'⟩
   ·rw[zag (by rw[<- r.len];exact hl)] at h2
    cases h2
    cases e'
    intro a ha hb
    exact fr o2 j u vu ne1 e1' o1 h1 a hb ha
   ·rw[z3w ne2] at h2
    exact r.ne j k u w vu vw hjk e1' e2' o1 o2 h1 h2
theorem RelE.set {t:T} {v:V} (r:RelE K F₀ E O F H ε σ) (i:Nat) (h:Rep K F H t v):RelE K F₀ E O F H (ε.set i (some (.imm t))) (σ.set i (some v)):=r.setG (s:=.imm t) i h fun z=>by cases z
theorem RelE.setNew {s:Sl} {v:V} (r:RelE K F₀ E O F H ε σ) (i:Nat) (x:Ext F H F1 H1) (h:z1r K E O F1 H1 s v) (hn:∀a∈fpS H1 s v,H a=none):RelE K F₀ E O F1 H1 (ε.set i (some s)) (σ.set i (some v)) :=
 (r.ext x).setG i h fun _ j u w _ ej _ hj a ha hb=>by
  obtain⟨w',h1,h2⟩:=r.val j u ej
  rw[hj] at h1
  cases h1
  rw[(h2.extP x).2] at hb
  obtain⟨o,e,_⟩:=h2.at hb
  rw[hn a ha] at e
  cases e
theorem zes {x:Addr} {o o':HO} (hn:¬F x) (hx:H x=some o) (hm:HoM o):Kp K F H F (upd H x o'):=by
 refine⟨fun b xs q=>?_,fun b xs f q=>⟨f,?_⟩⟩
 ·rcases q with q|q
  ·refine .inl ?_
   have nb:b≠x:=by
    rintro rfl
    rcases q with q|⟨_,q⟩ <;> (rw[hx] at q;cases q;exact hm.cases (fun _ z=>by cases z) (fun _ z=>by cases z) (fun _ _ _ z=>by cases z))
   rcases q with q|⟨u,q⟩
   ·exact .inl (by rw[z02 nb];exact q)
   ·exact .inr ⟨u,by rw[z02 nb];exact q⟩
  ·exact .inr q
 ·have nb:b≠x:=by
   rintro rfl
   exact hn f
  rcases q with q|⟨u,q⟩
  ·exact .inl (by rw[z02 nb];exact q)
  ·exact .inr ⟨u,by rw[z02 nb];exact q⟩
theorem zby {x:Addr} {o o':HO} {h0:Hp} (e:Ext F₀ h0 F H) (h0x:h0 x=none) (hn:¬F x) (hx:H x=some o) (hm:HoM o):Ext F₀ h0 F (upd H x o'):=by
 refine⟨fun b u q=>?_,e.sub,e.new,⟨fun b f=>?_,e.dom.tgs.updM fun u z=>by rw[hx] at z;cases z;exact hm⟩⟩
 ·have nb:b≠x:=by
   rintro rfl
   rw[h0x] at q
   cases q
  rw[z02 nb]
  exact e.same b u q
 ·have nb:b≠x:=by
   rintro rfl
   exact hn f
  rw[z02 nb]
  exact e.dom b f
theorem RelE.mutG {s s':Sl} {v:V} {x:Addr} {o':HO} (r:RelE K F₀ E O F H ε σ) {i:Nat} (e:ε[i]?=some (some s)) (ho:s.isOwn=true) (hv:σ[i]?=some (some v)) (hx:x∈fpS H s v)
  (h:Kp K F H F (upd H x o')->z1r K E O F (upd H x o') s' v)
  (hp:∀b∈fpS (upd H x o') s' v,b∈fpS H s v\/∀(j:Nat) (u:Sl) (w:V),i≠j->ε[j]?=some (some u)->u.isOwn=true->σ[j]?=some (some w)->b∉fpS H u w) :
  Kp K F H F (upd H x o')/\RelE K F₀ E O F (upd H x o') (ε.set i (some s')) σ:=by
 obtain⟨v',hv',rs⟩:=r.val i s e
 rw[hv] at hv'
 cases hv'
 obtain⟨o,eo,hm⟩:=rs.at hx
 obtain⟨nF,hO,_⟩:=rs.held hx
 have hOx:=hO ho
 have kp:Kp K F H F (upd H x o'):=zes nF eo hm
 have h0:=r.o0 x hOx
 have keep:∀(j:Nat) (u:Sl) (w:V),i≠j->ε[j]?=some (some u)->σ[j]?=some (some w)->z1r K E O F H u w->z1r K E O F (upd H x o') u w/\fpS (upd H x o') u w=fpS H u w:=by
  intro j u w hij ej hj ru
  refine ru.keep kp (fun b hb=>z02 ?_) (fun _ _ f=>f) fun _ _ o=>o
  rintro rfl
  cases ou:u.isOwn with
  | true=>exact r.ne i j s u v w hij e ej ho ou hv hj b hx hb
  | false=>exact (ru.held hb).2.2 ou h0
 refine⟨kp,⟨by simp[r.len],fun j u e'=>?_,fun j k u w vu vw hjk e1 e2 o1 o2 h1 h2=>?_,zby r.ent h0 nF eo hm,r.o0,fun b e'=>r.fr b ?_⟩⟩
 ·rcases z3r e' with ⟨rfl,e'',hl⟩|⟨ne,e''⟩
  ·cases e''
   exact⟨_,hv,h kp⟩
  ·obtain⟨w,h1,h2⟩:=r.val j u e''
   exact⟨w,h1,(keep j u w ne e'' h1 h2).1⟩
 ·rcases z3r e1 with ⟨rfl,e',hl⟩|⟨ne1,e1'⟩
  ·rcases z3r e2 with ⟨rfl,_,_⟩|⟨ne2,e2'⟩
   ·exact absurd rfl hjk
   ·cases e'
    rw[hv] at h1
    cases h1
    obtain⟨w',h2',r2⟩:=r.val k w e2'
    rw[h2] at h2'
    cases h2'
    rw[(keep k w vw ne2 e2' h2 r2).2]
    intro a ha hb
    rcases hp a ha with z|z
    ·exact r.ne i k s w v vw ne2 e e2' ho o2 hv h2 a z hb
    ·exact z k w vw ne2 e2' o2 h2 hb
  ·obtain⟨v1,h1',r1⟩:=r.val j u e1'
   rw[h1] at h1'
   cases h1'
   rw[(keep j u vu ne1 e1' h1 r1).2]
   rcases z3r e2 with ⟨rfl,e',hl⟩|⟨ne2,e2'⟩
   ·cases e'
    rw[hv] at h2
    cases h2
    intro a ha hb
    rcases hp a hb with z|z
    ·exact r.ne i j s u v vu ne1 e e1' ho o1 hv h1 a z ha
    ·exact z j u vu ne1 e1' o1 h1 ha
   ·obtain⟨w',h2',r2⟩:=r.val k w e2'
    rw[h2] at h2'
    cases h2'
    rw[(keep k w vw ne2 e2' h2 r2).2]
    exact r.ne j k u w vu vw hjk e1' e2' o1 o2 h1 h2
 ·by_cases nb:b=x
  ·subst nb
   rw[z03] at e'
   cases e'
  ·rwa [z02 nb] at e'
theorem RelE.mut {s s':Sl} {a:Addr} {o o':HO} (r:RelE K F₀ E O F H ε σ) {i:Nat} (e:ε[i]?=some (some s)) (ho:s.isOwn=true) (hv:σ[i]?=some (some (.ref a))) (hn:¬F a) (ho':O a) (ha:H a=some o)
  (hk:(∃xs,o=.lst xs)\/∃xs,o=.dK xs) (h:Kp K F H F (upd H a o')->z1r K E O F (upd H a o') s' (.ref a)) (f1:∀H:Hp,fpS H s (.ref a)=[a]:=by intro _;rfl) (f2:∀H:Hp,fpS H s' (.ref a)=[a]:=by intro _;rfl) :
  Kp K F H F (upd H a o')/\RelE K F₀ E O F (upd H a o') (ε.set i (some s')) σ :=
 r.mutG e ho hv (by rw[f1];simp) h fun b hb=>by
  rw[f2] at hb
  rw[f1]
  exact .inl hb
end
def tR (K:y00) (f:Fe):TE:=fun σ H Q=>∃F₀ H₀ O F ε t,RelE K F₀ H₀ O F H ε σ/\f ε=some t/\∀v F' H',Ext F H F' H'->RepR K O F' H' t v->Q v H'
def tV (K:y00) (f:Fe):TE:=fun σ H Q=>∃F₀ H₀ O F ε t,RelE K F₀ H₀ O F H ε σ/\f ε=some t/\∀v F' H',Ext F H F' H'->Rep K F' H' t v->Q v H'
noncomputable def tN (K:y00) (f:Fe):TE:=fun σ H Q=>∃F₀ H₀ O F ε ts,RelE K F₀ H₀ O F H ε σ/\f ε=some (.list ts)/\∀a vs F' H',Ext F H F' H'->H a=none->¬F' a->H' a=some (.lst vs)->RepL K F' H' ts vs->Q (.ref a) H'
def tT (K:y00) (f:Ft):TT:=fun σ H Q=>∃F₀ H₀ O F ε b,RelE K F₀ H₀ O F H ε σ/\f ε=some b/\∀F' H',Ext F H F' H'->Q b H'
def tAR (K:y00) (fs:List Fe):TA:=fun σ H Q=>∃F₀ H₀ O F ε ts,RelE K F₀ H₀ O F H ε σ/\args fs ε=some ts/\∀vs F' H',Ext F H F' H'->Paired (RepR K O F' H') ts vs->Q vs H'
def tAV (K:y00) (fs:List Fe):TA:=fun σ H Q=>∃F₀ H₀ O F ε ts,RelE K F₀ H₀ O F H ε σ/\args fs ε=some ts/\∀vs F' H',Ext F H F' H'->RepL K F' H' ts vs->Q vs H'
abbrev PEr (X:Cx) (e:Expr) (f:Fe):Prop:=PE X e (tR X.K f)
abbrev PEv (X:Cx) (e:Expr) (f:Fe):Prop:=PE X e (tV X.K f)
abbrev PEn (X:Cx) (e:Expr) (f:Fe):Prop:=PE X e (tN X.K f)
abbrev PTt (X:Cx) (e:Expr) (f:Ft):Prop:=PT X e (tT X.K f)
abbrev PWt (X:Cx) (e:Expr) (f:Ft):Prop:=PW X e (tT X.K f)
abbrev PAr (X:Cx) (es:List Expr) (fs:List Fe):Prop:=PA X es (tAR X.K fs)
abbrev PAv (X:Cx) (es:List Expr) (fs:List Fe):Prop:=PA X es (tAV X.K fs)
theorem z0u {X:Cx} {e:Expr} {t t':TE} (h:PE X e t) (k:∀σ H Q,t' σ H Q->t σ H Q):PE X e t':=fun pins s σ H Q I q=>h pins s σ H Q I (k σ H Q q)
theorem z5g {X:Cx} {e:Expr} {t t':TT} (h:PT X e t) (k:∀σ H Q,t' σ H Q->t σ H Q):PT X e t':=fun pins s σ H Q I q=>h pins s σ H Q I (k σ H Q q)
theorem zij {X:Cx} {e:Expr} {t t':TT} (h:PW X e t) (k:∀σ H Q,t' σ H Q->t σ H Q):PW X e t':=fun w pins s σ H Q I q=>h w pins s σ H Q I (k σ H Q q)
theorem za7 {X:Cx} {e:List Expr} {t t':TA} (h:PA X e t) (k:∀σ H Q,t' σ H Q->t σ H Q):PA X e t':=fun pos pins s σ H Q I q=>h pos pins s σ H Q I (k σ H Q q)
theorem z1t {X:Cx} {e:Stmt} {t t':TS} (h:PS X e t) (k:∀D σ H,t' D σ H->t D σ H):PS X e t':=fun pins s σ H D I q=>h pins s σ H D I (k D σ H q)
theorem z6q {X:Cx} {e:List Stmt} {t t':TS} (h:PSs X e t) (k:∀D σ H,t' D σ H->t D σ H):PSs X e t':=fun pins s σ H D I q=>h pins s σ H D I (k D σ H q)
section
variable {X:Cx} {e:Expr} {f:Fe}
theorem v2r (h:PEv X e f):PEr X e f:=z0u h fun σ H Q ⟨F₀,H₀,O,F,ε,t,r,e,k⟩=>⟨F₀,H₀,O,F,ε,t,r,e,fun v F' H' x q=>k v F' H' x (.inl q)⟩
theorem n2v (h:PEn X e f) (hf:∀ε t,f ε=some t->∃ts,t=.list ts):PEv X e f:=z0u h fun σ H Q ⟨F₀,H₀,O,F,ε,t,r,e,k⟩=>by
 obtain⟨ts,rfl⟩:=hf _ _ e
 refine⟨F₀,H₀,O,F,ε,ts,r,e,fun a vs F' H' x hn nf ha q=>?_⟩
 have y:Ext F H (fun b=>F' b\/b=a) H':=⟨x.same,fun b z=>.inl (x.sub b z),fun b z=>by
  rcases z with z|rfl
  ·exact x.new b z
  ·exact .inr hn,⟨fun b z=>by
  rcases z with z|rfl
  ·exact x.dom b z
  ·exact⟨_,ha⟩,x.dom.tgs⟩⟩
 refine k (.ref a) _ H' y ?_
 simp only[Rep]
 exact⟨a,vs,rfl,.inr rfl,.inl ha,q.keep (fun _ _ z=>z) fun b _ z w=>⟨.inl z,w⟩⟩
end
end
section
variable [Tbl]
section
variable {X:Cx} {a b c e:Expr} {f g h:Fe} {pos:Pos}
theorem zdu {t:T} {v:V} (he:PE X e (tC v)) (hr:∀F H,Rep X.K F H t v):PEv X e (cst t):=z0u he fun σ H Q ⟨F₀,H₀,O,F,ε,t',r,e,k⟩=>by
 cases e
 exact k v F H (Ext.refl r.dom) (hr _ _)
theorem z0k {i j}:PEv X (.Constant (.int i) j pos) (cst (.int i)):=zdu ze4 fun _ _=>by simp[Rep]
theorem q_bl {i j}:PEv X (.Constant (.bool i) j pos) (cst (.bool i)):=zdu zjd fun _ _=>by simp[Rep]
theorem z6t {i j}:PEv X (.Constant (.str i) j pos) (cst (.str i)):=zdu z96 fun _ _=>by simp[Rep]
theorem zch {j}:PEv X (.Constant .none j pos) (cst .none):=zdu zlk fun _ _=>by simp[Rep]
theorem q_nm (i:Nat) {x:Str} (hN:X.N[i]?=some x:=by rfl) (hv:Vis X.env.scope x:=by first|exact Or.inl rfl|exact Or.inr (Or.inl rfl)|exact Or.inr (Or.inr rfl)) (hd:(x == ("__debug__":Str))=false:=by decide)
  (hcd:(x == ("__classdict__":Str))=false:=by decide):PEr X (.Name x pos) (nm i):=z0u (pv i hN hv hd hcd) fun σ H Q ⟨F₀,H₀,O,F,ε,t,r,e,k⟩=>by
 unfold nm at e
 split at e
 next t' he =>
  cases e
  obtain⟨v,h1,h2⟩:=r.val _ _ he
  exact⟨v,h1,k v F H (Ext.refl r.dom) (.inl h2)⟩
 next ts he =>
  cases e
  obtain⟨v,h1,a,vs,rfl,n,h0,hh,hr⟩:=r.val _ _ he
  exact⟨_,h1,k _ F H (Ext.refl r.dom) (.inr ⟨ts,a,vs,rfl,rfl,hh,hr⟩)⟩
 next=>cases e
theorem z08 (i:Nat) {x:Str} (hN:X.N[i]?=some x:=by rfl) (hv:Vis X.env.scope x:=by first|exact Or.inl rfl|exact Or.inr (Or.inl rfl)|exact Or.inr (Or.inr rfl)) (hd:(x == ("__debug__":Str))=false:=by decide)
  (hcd:(x == ("__classdict__":Str))=false:=by decide):PEv X (.Name x pos) (nmV i):=z0u (pv i hN hv hd hcd) fun σ H Q ⟨F₀,H₀,O,F,ε,t,r,e,k⟩=>by
 unfold nmV at e
 split at e
 next t' he =>
  cases e
  obtain⟨v,h1,h2⟩:=r.val _ _ he
  exact⟨v,h1,k v F H (Ext.refl r.dom) h2⟩
 next=>cases e
noncomputable def Op2 (K:y00) (o:T->T->Option T) (R:R2):Prop :=
 ∀(O F:Addr->Prop) (H:Hp) (x y t:T) (vx vy:V) (Q:VK),Dom F H->RepR K O F H x vx->RepR K O F H y vy->o x y=some t ->
  (∀v F' H',Ext F H F' H'->Rep K F' H' t v->Q v H')->R vx vy H Q
theorem z3o {o:T->T->Option T} {R:R2} (h:Op2 X.K o R):∀σ H Q,tV X.K (op2 o f g) σ H Q->tOp R (tR X.K f) (tR X.K g) σ H Q:=by
 rintro σ H Q ⟨F₀,H₀,O,F,ε,t,r,e,k⟩
 simp only[op2,y01] at e
 obtain⟨x,ex,y,ey,eo⟩:=e
 refine⟨F₀,H₀,O,F,ε,x,r,ex,fun vx F1 H1 x1 rx=>⟨F₀,H₀,O,F1,ε,y,r.ext x1,ey,fun vy F2 H2 x2 ry=>?_⟩⟩
 exact h O F2 H2 x y t vx vy Q x2.dom (rx.ext x2) ry eo fun v F' H' x3 q3=>k v F' H' ((x1.trans x2).trans x3) q3
theorem Inv.lstR {pins:List (Addr×Obj)} {σ:L2.St} {H:Hp} {s:y04} {l:Addr} {xs:List V} (I:Inv X pins σ H s) (hH:Rd H l (.lst xs)) :
  xs.length<=y0j/\∃(its:List Value) (n:Nat),Vals xs its/\xs.length=its.length/\s.heap.get? l=some { cls:=.type "list",data:=.seq its.toArray n }:=by
 obtain⟨z,its,n,r,e⟩:=hH.ok I.hok
 exact⟨z,its,n,r,r.length,e⟩
noncomputable def znb:R2:=fun x y H Q=>∃l b xs zs,x=.ref l/\y=.ref b/\Rd H l (.lst xs)/\Rd H b (.lst zs)/\xs.length+zs.length<=y0j/\∀p,H p=none->Q (.ref p) (upd H p (.lst (xs++zs)))
theorem zji:OpR X (binaryOp .Add) znb:=by
 intro pins s σ H x y v u Q I rx ry h
 obtain⟨l,b,xs,zs,rfl,rfl,hH,hB,hz,q⟩:=h
 cases rx
 cases ry
 obtain⟨z,its,n,r,hl,e⟩:=Inv.lstR I hH
 obtain⟨z2,its2,n2,r2,hl2,e2⟩:=Inv.lstR I hB
 refine PySem.P.add_list e e2 ?_ (by rw[y0h,y0h];omega)
 have ea:its.toArray++its2.toArray=(its++its2).toArray:=by simp
 rw[ea]
 exact⟨.ref _,_,I.lnew (t':=s.toks) (r.append r2) (by rw[y1x];omega),rfl,q _ I.fresh⟩
def zl5 (K:y00):R2:=fun x y H Q=>∃a b ys,x=.ref a/\y=.ref b/\SqT K H a []/\SqT K H b ys/\Q (.ref b) H
theorem zgo:OpR X (binaryOp .Add) (zl5 X.K):=by
 intro pins s σ H x y v u Q I rx ry h
 obtain⟨a,b,ys,rfl,rfl,ha,hb,q⟩:=h
 cases rx
 cases ry
 obtain⟨its,r1,p1,_⟩:=I.tuple ha
 obtain⟨its2,r2,p2,_⟩:=I.tuple hb
 have ei:its=[]:=r1.nil_iff.mpr rfl
 subst ei
 obtain⟨⟨cls,dd,data,sl⟩,ho,hc,n,hd⟩:=id p1
 obtain⟨⟨cls2,dd2,data2,sl2⟩,ho2,hc2,n2,hd2⟩:=id p2
 simp only at hc hd hc2 hd2
 subst hc hd hc2 hd2
 exact concat_meets ⟨_,ho,rfl⟩ ⟨_,ho2,rfl⟩ noFill_tuple_add seq_tuple_add PySem.F.slot_tuple_add PySem.F.entry_tuple_add (PySem.F.args_tuple_add_2 _ _)
   (tuple_addW0 a b ([]:List Value).toArray its2.toArray n n2 dd dd2 sl sl2 (by simp)) ⟨ho,ho2,⟨.ref b,H,I,rfl,q⟩⟩
theorem z5t:y0j=big:=by rw[sizeLine_eq];rfl
theorem z22 (ha:PEr X a f) (hb:PEr X b g):PEv X (.BinOp a .Add b pos) (op2 oAdd f g) :=
 z0u (ze3 (zlr.or (zcj.or (zgo.or (zjh.or zji)))) ha hb) (z3o (by
  intro O F H x y t vx vy Q d rx ry e k
  unfold oAdd at e
  split at e
  ·cases e
   rw[rx.int,ry.int]
   exact .inl ⟨_,_,rfl,rfl,k _ F H (Ext.refl d) (by simp[Rep])⟩
  ·split at e
   next hz =>
    cases e
    rw[rx.str,ry.str]
    exact .inr (.inl ⟨_,_,rfl,rfl,by rw[z5t];exact hz,k _ F H (Ext.refl d) (by simp[Rep])⟩)
   next=>cases e
  ·split at e
   next xs ys hz =>
    cases e
    obtain⟨ax,vs,rfl,hs,hr⟩:=rx.tup
    obtain⟨ay,ws,rfl,hs',hr'⟩:=ry.tup
    cases xs with
    | nil =>
     simp only[RepL] at hr
     subst hr
     refine .inr (.inr (.inl ⟨_,_,_,rfl,rfl,hs,hs',k _ F H (Ext.refl d) ?_⟩))
     simp only[Rep]
     exact⟨_,_,rfl,hs',by simpa using hr'⟩
    | cons x0 xr =>
     refine .inr (.inr (.inr (.inl ⟨_,_,_,_,rfl,rfl,hs,hs',?_,?_,fun e0=>?_,fun e0 p hp=>?_⟩)))
     ·intro z
      subst z
      have:=hr.length
      simp at this
     ·rw[z5t,<- hr.length,<- hr'.length]
      exact hz
     ·refine k _ F H (Ext.refl d) ?_
      subst e0
      have e1:ys=[]:=List.eq_nil_of_length_eq_zero (by rw[hr'.length];rfl)
      subst e1
      simp only[Rep]
      exact⟨_,_,rfl,hs,by simpa using hr⟩
     ·have x1:=Ext.laid (o:=.tup (vs++ws)) d hp
      refine k _ F _ x1 ?_
      simp only[Rep]
      exact⟨p,_,rfl,SqT.of z03,(hr.append hr').ext x1⟩
   next=>cases e
  ·split at e
   next xs ys hz =>
    cases e
    obtain⟨ax,vs,rfl,hs,hr⟩:=rx.lst
    obtain⟨ay,ws,rfl,hs',hr'⟩:=ry.lst
    refine .inr (.inr (.inr (.inr ⟨_,_,_,_,rfl,rfl,hs,hs',by rw[z5t,<- hr.length,<- hr'.length];exact hz,fun p hp=>?_⟩)))
    have x1:=Ext.laidF (o:=.lst (vs++ws)) d hp
    refine k _ _ _ x1 ?_
    simp only[Rep]
    exact⟨p,_,rfl,.inr rfl,.inl z03,(hr.append hr').ext x1⟩
   next=>cases e
  ·cases e))
noncomputable def zg8:V->List V->Hp->VK->Prop:=fun x vs H Q=>∃l b xs zs,x=.ref l/\vs=[.ref b]/\H l=some (.lst xs)/\Rd H b (.lst zs)/\xs.length+zs.length<=y0j/\Q .non (upd H l (.lst (xs++zs)))
theorem zcl:MtM X "list.extend" zg8:=by
 intro pins s σ H x vs v us Q I rx rv h
 obtain⟨l,b,xs,zs,rfl,rfl,hH,hB,hz,q⟩:=h
 cases rx
 obtain⟨u,rfl,ru⟩:=rv.one
 cases ru
 obtain⟨z,its,n,r,hl,e⟩:=I.lstM hH
 obtain⟨z2,its2,n2,r2,hl2,e2⟩:=Inv.lstR I hB
 have hsz:its.toArray.size+its2.toArray.size<=y0j:=by rw[y0h,y0h];omega
 have hlong:¬(!its.toArray.isEmpty && Builtin.List.listTooLong (its.toArray.size+its2.toArray.size))=true:=by
  rw[zgw hsz,Bool.and_false]
  exact y1y
 refine call_meets F.slot_list_extend ⟨_,e,rfl⟩ F.entry_list_extend (F.args_list_extend_2 _ _)
  (AutoSeq1.list_extend_list_list_0 l its.toArray n b its2.toArray n2 hlong (by rw[y0h];omega) (by omega)) ⟨e,e2,?_⟩
 refine⟨.non,_,I.lset (its':=its++its2) hH e (by simp) (r.append r2) ?_,rfl,q⟩
 rw[y1x]
 omega
theorem zj1 (ha:PEr X a f) (hb:PEr X b g):PEv X (.BinOp a .Sub b pos) (op2 oSub f g) :=
 z0u (ze3 zln ha hb) (z3o (by
  intro O F H x y t vx vy Q d rx ry e k
  unfold oSub at e
  split at e
  ·cases e
   rw[rx.int,ry.int]
   exact⟨_,_,rfl,rfl,k _ F H (Ext.refl d) (by simp[Rep])⟩
  ·cases e))
theorem z93 (ha:PEr X a f) (hb:PEr X b g):PEv X (.BinOp a .Mult b pos) (op2 oMul f g) :=
 z0u (ze3 zlo ha hb) (z3o (by
  intro O F H x y t vx vy Q d rx ry e k
  unfold oMul at e
  split at e
  ·split at e
   next hm =>
    cases e
    rw[rx.int,ry.int]
    refine⟨_,_,rfl,rfl,?_,k _ F H (Ext.refl d) (by simp[Rep])⟩
    simpa [zgy,CMul] using hm
   next=>cases e
  ·cases e))
theorem zgc (ha:PEr X a f) (hb:PEr X b g):PEv X (.BinOp a .FloorDiv b pos) (op2 oDiv f g) :=
 z0u (ze3 zjg ha hb) (z3o (by
  intro O F H x y t vx vy Q d rx ry e k
  unfold oDiv at e
  split at e
  ·split at e
   next hm =>
    cases e
    rw[rx.int,ry.int]
    exact⟨_,_,rfl,rfl,hm,k _ F H (Ext.refl d) (by simp[Rep])⟩
   next=>cases e
  ·cases e))
theorem z6u (ha:PEr X a f) (hb:PEr X b g):PEv X (.BinOp a .Mod b pos) (op2 oMod f g) :=
 z0u (ze3 zlp ha hb) (z3o (by
  intro O F H x y t vx vy Q d rx ry e k
  unfold oMod at e
  split at e
  ·split at e
   next hm =>
    cases e
    rw[rx.int,ry.int]
    exact⟨_,_,rfl,rfl,hm,k _ F H (Ext.refl d) (by simp[Rep])⟩
   next=>cases e
  ·cases e))
theorem q_ix (ha:PEr X a f) (hb:PEr X b g) (hs:zfy b:=by intro _ _;rfl):PEv X (.Subscript a b pos) (op2 oIx f g) :=
 z0u (zni zm5 ha hb hs) (z3o (by
  intro O F H x y t vx vy Q d rx ry e k
  unfold oIx at e
  split at e
  ·obtain⟨ax,vs,rfl,hs,hr⟩:=rx.tup
   rw[ry.int]
   simp only[atZ,y01] at e
   obtain⟨j,hj,et⟩:=e
   obtain⟨v,hv,rv⟩:=hr.get et
   refine .inr (.inl ⟨_,_,_,v,rfl,rfl,hs,?_,k _ F H (Ext.refl d) rv⟩)
   rw[hr.length] at hj
   show (ixN _ _).bind _=_
   rw[show ixN vs.length _=some j from hj]
   exact hv
  ·obtain⟨ax,vs,rfl,hs,hr⟩:=rx.lst
   rw[ry.int]
   simp only[atZ,y01] at e
   obtain⟨j,hj,et⟩:=e
   obtain⟨v,hv,rv⟩:=hr.get et
   refine .inl ⟨_,_,_,v,rfl,rfl,.inl hs,?_,k _ F H (Ext.refl d) rv⟩
   rw[hr.length] at hj
   show (ixN _ _).bind _=_
   rw[show ixN vs.length _=some j from hj]
   exact hv
  ·split at e
   next hz =>
    rw[rx.str,ry.int]
    simp only[y07] at e
    obtain⟨c,hc,rfl⟩:=e
    exact .inr (.inr ⟨_,_,c,rfl,rfl,by rw[z5t];exact hz,hc,k _ F H (Ext.refl d) (by simp[Rep])⟩)
   next=>cases e
  ·cases e))
end
end
section
variable [Tbl]
noncomputable def DO (K:y00) (F₀:Addr->Prop) (H₀:En) (O F:Addr->Prop) (H:Hp) (D:Ends):Out->Prop
 | .nx ε'=>∀σ' F' H',Kp K F H F' H'->RelE K F₀ H₀ O F' H' ε' σ'->D.nx σ' H'
 | .rt t=>∀v F' H',Ext F₀ H₀.h F' H'->Rep K F' H' t v->D.rt v H'
 | .rtm t ε'=>∀v σ' F' H',RelE K F₀ H₀ O F' H' ε' σ'->Rep K F' H' t v->D.rt v H'
 | .rto s=>∀a F' H',Ext F₀ H₀.h F' H'->z1r K H₀ O F' H' s (.ref a)->D.rt (.ref a) H'
 | .bk ε'=>∀σ' F' H',Kp K F H F' H'->RelE K F₀ H₀ O F' H' ε' σ'->D.bk σ' H'
 | .ct ε'=>∀σ' F' H',Kp K F H F' H'->RelE K F₀ H₀ O F' H' ε' σ'->D.ct σ' H'
def tS (K:y00) (g:Fs):TS:=fun D σ H=>∃F₀ H₀ O F ε o,RelE K F₀ H₀ O F H ε σ/\g ε=some o/\DO K F₀ H₀ O F H D o
abbrev PSt (X:Cx) (s:Stmt) (g:Fs):Prop:=PS X s (tS X.K g)
abbrev PBt (X:Cx) (s:List Stmt) (g:Fs):Prop:=PSs X s (tS X.K g)
theorem DO.kp {K:y00} {F₀ O F F1:Addr->Prop} {H₀:En} {H H1:Hp} {D:Ends} {o:Out} (h:DO K F₀ H₀ O F H D o) (x:Kp K F H F1 H1):DO K F₀ H₀ O F1 H1 D o:=by
 cases o with
 | nx ε=>exact fun σ' F' H' k r=>h σ' F' H' (x.trans k) r
 | rt t=>exact h
 | bk ε=>exact fun σ' F' H' k r=>h σ' F' H' (x.trans k) r
 | ct ε=>exact fun σ' F' H' k r=>h σ' F' H' (x.trans k) r
 | rtm t ε=>exact h
 | rto s=>exact h
section
variable {X:Cx} {e a b c:Expr} {f:Fe} {g g':Fs} {ft:Ft} {st:Stmt} {rest:List Stmt} {pos:Pos}
theorem z3j:PBt X [] skip:=z6q zdx fun D σ H ⟨F₀,H₀,O,F,ε,o,r,e,k⟩=>by
 cases e
 exact k σ F H Kp.refl r
theorem z0r (h:PSt X st g):PBt X [st] g:=z4f h
theorem z0b (h1:PSt X st g) (h2:PBt X rest g'):PBt X (st::rest) (seq g g'):=z6q (z37 h1 h2) fun D σ H ⟨F₀,H₀,O,F,ε,o,r,e,k⟩=>by
 simp only[seq,y01] at e
 obtain⟨o1,e1,e2⟩:=e
 refine⟨F₀,H₀,O,F,ε,o1,r,e1,?_⟩
 cases o1 with
 | nx ε'=>exact fun σ' F' H' x r'=>⟨F₀,H₀,O,F',ε',o,r',e2,k.kp x⟩
 | rt t =>
  cases e2
  exact k
 | bk ε' =>
  cases e2
  exact k
 | ct ε' =>
  cases e2
  exact k
 | rtm t ε' =>
  cases e2
  exact k
 | rto s =>
  cases e2
  exact k
theorem z1q (h:PEv X e f):PSt X (.Return (some e) pos) (rtn f):=z1t (z94 h) fun D σ H ⟨F₀,H₀,O,F,ε,o,r,e,k⟩=>by
 simp only[rtn,y07] at e
 obtain⟨t,et,rfl⟩:=e
 exact⟨F₀,H₀,O,F,ε,t,r,et,fun v F' H' x q=>k v F' H' (r.ent.trans x) q⟩
theorem zdl (i:Nat) {x:Str} {npos:Pos} (hN:X.N[i]?=some x:=by rfl) (hv:Vis X.env.scope x:=by first|exact Or.inl rfl|exact Or.inr (Or.inl rfl)|exact Or.inr (Or.inr rfl)) (hd:(x == ("__debug__":Str))=false:=by decide)
  (hcd:(x == ("__classdict__":Str))=false:=by decide):PSt X (.Return (some (.Name x npos)) pos) (rtn (nm i)):=z1t (z94 (pv i hN hv hd hcd)) fun D σ H ⟨F₀,H₀,O,F,ε,o,r,e,k⟩=>by
 simp only[rtn,y07] at e
 obtain⟨t,et,rfl⟩:=e
 unfold nm at et
 split at et
 next t' he =>
  cases et
  obtain⟨v,h1,h2⟩:=r.val _ _ he
  exact⟨v,h1,k v F H r.ent h2⟩
 next ts he =>
  cases et
  obtain⟨v,h1,a,vs,rfl,n,h0,ha,q⟩:=r.val _ _ he
  have x2:=r.ent
  have y:Ext F₀ H₀.h (fun b=>F b\/b=a) H:=⟨x2.same,fun b z=>.inl (x2.sub b z),fun b z=>by
   rcases z with z|rfl
   ·exact x2.new b z
   ·exact .inr (r.o0 _ h0),⟨fun b z=>by
   rcases z with z|rfl
   ·exact x2.dom b z
   ·exact⟨_,ha⟩,x2.dom.tgs⟩⟩
  refine⟨_,h1,k _ _ H y ?_⟩
  simp only[Rep]
  exact⟨a,vs,rfl,.inr rfl,.inl ha,q.keep (fun _ _ z=>z) fun b _ z w=>⟨.inl z,w⟩⟩
 next=>cases et
theorem s_if (hc:PTt X c ft) (ha:PBt X rest g) {els:List Stmt} (hb:PBt X els g'):PSt X (.If c rest els pos) (iff ft g g'):=z1t (zgg hc ha hb) fun D σ H ⟨F₀,H₀,O,F,ε,o,r,e,k⟩=>by
 simp only[iff,y01] at e
 obtain⟨b,eb,e⟩:=e
 refine⟨F₀,H₀,O,F,ε,b,r,eb,fun F' H' x=>?_⟩
 cases b with
 | true=>exact iteT ⟨F₀,H₀,O,F',ε,o,r.ext x,by simpa using e,k.kp x.kp⟩
 | false=>exact iteF ⟨F₀,H₀,O,F',ε,o,r.ext x,by simpa using e,k.kp x.kp⟩
theorem z2i (i:Nat) {x:Str} {pos':Pos} (hN:X.N.Nodup) (he:PEv X e f) (hi:X.N[i]?=some x:=by rfl) (hx:Loc X.env.scope x:=by first|exact Or.inl rfl|exact Or.inr rfl)
  (hs:swapsWith e (some (.Name x pos')) pos.line X.env=pure false:=by rfl) (hf:X.fn x=true\/X.env.scope.names.lookup x=some .local:=by first|exact .inl rfl|exact .inr rfl) :
  PSt X (.Assign [.Name x pos'] e pos) (asg i f):=z1t (z44 hN hi hx he hs hf) fun D σ H ⟨F₀,H₀,O,F,ε,o,r,e,k⟩=>by
 simp only[asg,y07] at e
 obtain⟨t,et,rfl⟩:=e
 refine⟨F₀,H₀,O,F,ε,t,r,et,fun v F' H' x q=>?_⟩
 exact k _ F' H' x.kp ((r.ext x).set i q)
theorem zhv (i:Nat) {x:Str} {pos':Pos} (hN:X.N.Nodup) (he:PEn X e f) (hi:X.N[i]?=some x:=by rfl) (hx:Loc X.env.scope x:=by first|exact Or.inl rfl|exact Or.inr rfl)
  (hs:swapsWith e (some (.Name x pos')) pos.line X.env=pure false:=by rfl) (hf:X.fn x=true\/X.env.scope.names.lookup x=some .local:=by first|exact .inl rfl|exact .inr rfl) :
  PSt X (.Assign [.Name x pos'] e pos) (asgN i f):=z1t (z44 hN hi hx he hs hf) fun D σ H ⟨F₀,H₀,O,F,ε,o,r,e,k⟩=>by
 simp only[asgN,y01] at e
 obtain⟨t,et,e⟩:=e
 split at e
 next ts =>
  cases e
  refine⟨F₀,H₀,O,F,ε,ts,r,et,fun a vs F' H' x hn nf ha q=>?_⟩
  exact k _ F' H' x.kp (r.setNew (s:=.own ts) i x ⟨a,vs,rfl,nf,r.fr a hn,ha,q⟩ fun b hb=>by
   have:b=a:=by simpa [fpS,rf] using hb
   rw[this]
   exact hn)
 next=>cases e
def tG (K:y00) (g:Fg):TG:=fun v σ H Q=>∃F₀ H₀ O F ε t ε',RelE K F₀ H₀ O F H ε σ/\Rep K F H t v/\g t ε=some ε'/\∀σ',RelE K F₀ H₀ O F H ε' σ'->Q σ' H
def tGs (K:y00) (gs:List Fg):TGs:=fun vs σ H Q=>∃F₀ H₀ O F ε ts ε',RelE K F₀ H₀ O F H ε σ/\RepL K F H ts vs/\gAll gs ts ε=some ε'/\∀σ',RelE K F₀ H₀ O F H ε' σ'->Q σ' H
abbrev PGt (X:Cx) (e:Expr) (g:Fg):Prop:=PG X e (tG X.K g)
abbrev PGst (X:Cx) (es:List Expr) (gs:List Fg):Prop:=PGs X es (tGs X.K gs)
theorem zil {X:Cx} {e:Expr} {t t':TG} (h:PG X e t) (k:∀v σ H Q,t' v σ H Q->t v σ H Q):PG X e t':=fun pins s σ H v u Q I r q=>h pins s σ H v u Q I r (k v σ H Q q)
theorem zfz {X:Cx} {e:List Expr} {t t':TGs} (h:PGs X e t) (k:∀v σ H Q,t' v σ H Q->t v σ H Q):PGs X e t':=fun pins s σ H v u Q I r q=>h pins s σ H v u Q I r (k v σ H Q q)
theorem g_nm (i:Nat) {x:Str} (hN:X.N.Nodup) (hi:X.N[i]?=some x:=by rfl) (hx:Loc X.env.scope x:=by first|exact Or.inl rfl|exact Or.inr rfl)
  (hf:X.fn x=true\/X.env.scope.names.lookup x=some .local:=by first|exact .inl rfl|exact .inr rfl):PGt X (.Name x pos) (gNm i):=zil (zan hN hi hx hf) fun v σ H Q ⟨F₀,H₀,O,F,ε,t,ε',r,q,e,k⟩=>by
 cases e
 exact k _ (r.set i q)
theorem zf5:PGst X [] []:=zfz ze2 fun vs σ H Q ⟨F₀,H₀,O,F,ε,ts,ε',r,q,e,k⟩=>by
 cases ts with
 | nil =>
  cases e
  simp only[RepL] at q
  exact⟨q,k σ r⟩
 | cons t ts=>cases e
theorem z3s {es:List Expr} {g:Fg} {gs:List Fg} (h1:PGt X e g) (h2:PGst X es gs) (hs:(assignEach (e::es) X.env).map (·.2)=assign e X.env::(assignEach es X.env).map (·.2):=by rfl):PGst X (e::es) (g::gs) :=
 zfz (z83 h1 h2 hs) fun vs σ H Q ⟨F₀,H₀,O,F,ε,ts,ε',r,q,e,k⟩=>by
 cases ts with
 | nil=>cases e
 | cons t ts =>
  simp only[gAll,y01] at e
  obtain⟨ε1,e1,e2⟩:=e
  simp only[RepL] at q
  obtain⟨v,vr,rfl,q1,q2⟩:=q
  exact⟨v,vr,rfl,F₀,H₀,O,F,ε,t,ε1,r,q1,e1,fun σ1 r1=>⟨F₀,H₀,O,F,ε1,ts,ε',r1,q2,e2,k⟩⟩
theorem zbs:∀{gs:List Fg} {ts:List T} {ε ε':Ev},gAll gs ts ε=some ε'->ts.length=gs.length
 | [],[],_,_,_=>rfl
 | [],_::_,_,_,h=>by cases h
 | _::_,[],_,_,h=>by cases h
 | g::gs,t::ts,ε,ε',h=>by
  simp only[gAll,y01] at h
  obtain⟨ε1,_,h⟩:=h
  simp[zbs h]
theorem zf4 {es:List Expr} {k:Nat} {gs:List Fg} (h:PGst X es gs) (hc:X.calm=true:=by rfl) (hn:(assignEach es X.env).length=gs.length:=by rfl) (hst:(assignEach es X.env).findIdx? (·.1)=none:=by rfl) :
  PGt X (.Tuple es k pos) (gTu gs):=zil (zi0 hc h hn hst) fun v σ H Q ⟨F₀,H₀,O,F,ε,t,ε',r,q,e,k⟩=>by
 unfold gTu at e
 split at e
 next ts =>
  simp only[Rep] at q
  obtain⟨a,vs,rfl,hs,hr⟩:=q
  exact⟨a,vs,rfl,hs,by rw[<- hr.length];exact zbs e,F₀,H₀,O,F,ε,ts,ε',r,hr,e,k⟩
 next=>cases e
theorem zkz {tg:Expr} {g:Fg} (he:PEv X e f) (hg:PGt X tg g) (hs:swapsWithSole [tg] e pos.line X.env=pure false:=by rfl) (hw:swappedStores [tg] e X.env=pure none:=by rfl)
  (h1:(assignEach [tg] X.env).map (·.2)=[assign tg X.env]:=by rfl):PSt X (.Assign [tg] e pos) (asgT g f):=z1t (zhz he hg hs hw h1) fun D σ H ⟨F₀,H₀,O,F,ε,o,r,e,k⟩=>by
 simp only[asgT,y01,y07] at e
 obtain⟨t,et,ε',eg,rfl⟩:=e
 refine⟨F₀,H₀,O,F,ε,t,r,et,fun v F' H' x q=>?_⟩
 exact⟨F₀,H₀,O,F',ε,t,ε',r.ext x,q,eg,fun σ' r'=>k σ' F' H' x.kp r'⟩
structure ItOk (K:y00) (J:It) (F1:Addr->Prop) (H1:Hp) (ts:List T):Prop where
 go:∀i F H t,Kp K F1 H1 F H->Dom F H->ts[i]?=some t->J.go i H
 yld:∀i F H t x H',Kp K F1 H1 F H->Dom F H->ts[i]?=some t->J.yld i H x H'->∃F',Ext F H F' H'/\Rep K F' H' t x
 stop:∀i F H,Kp K F1 H1 F H->ts.length<=i->J.stop i H
def tI (K:y00) (f:Fi):TI:=fun σ H R=>∃F₀ H₀ O F ε ts,RelE K F₀ H₀ O F H ε σ/\f ε=some ts/\∀J F' H',Ext F H F' H'->ItOk K J F' H' ts->R J H'
abbrev PIt (X:Cx) (tg e:Expr) (f:Fi):Prop:=PI X tg e (tI X.K f)
theorem za6 {X:Cx} {tg e:Expr} {t t':TI} (h:PI X tg e t) (k:∀σ H R,t' σ H R->t σ H R):PI X tg e t':=fun pins s σ H R I q=>h pins s σ H R I (k σ H R q)
theorem zex {K:y00} {a:Addr} {F1:Addr->Prop} {H1:Hp} {ts:List T} {vs:List V} (fa:F1 a) (hr:Rd H1 a (.lst vs)) (q:RepL K F1 H1 ts vs):ItOk K (Itl K a) F1 H1 ts where
 go:=fun i F H t kp d e=>by
  obtain⟨v,h1,_⟩:=q.get e
  exact⟨vs,v,.inl (kp.lst _ _ fa hr).2,h1⟩
 yld:=fun i F H t x H' kp d e y=>by
  obtain⟨rfl,y⟩:=y
  obtain⟨v,h1,h2⟩:=(q.kp kp).get e
  have:=y vs (.inl (kp.lst _ _ fa hr).2)
  rw[h1] at this
  cases this
  exact⟨F,Ext.refl d,h2⟩
 stop:=fun i F H kp hl=>⟨vs,.inl (kp.lst _ _ fa hr).2,by rw[<- q.length];exact hl⟩
theorem zh9 {K:y00} {a:Addr} {F1:Addr->Prop} {H1:Hp} {ts:List T} {vs:List V} (hr:SqT K H1 a vs) (q:RepL K F1 H1 ts vs):ItOk K (Itt K a) F1 H1 ts where
 go:=fun i F H t kp d e=>by
  obtain⟨v,h1,_⟩:=q.get e
  exact⟨vs,v,kp.tup _ _ hr,h1⟩
 yld:=fun i F H t x H' kp d e y=>by
  obtain⟨rfl,y⟩:=y
  obtain⟨v,h1,h2⟩:=(q.kp kp).get e
  have:=y vs (kp.tup _ _ hr)
  rw[h1] at this
  cases this
  exact⟨F,Ext.refl d,h2⟩
 stop:=fun i F H kp hl=>⟨vs,kp.tup _ _ hr,by rw[<- q.length];exact hl⟩
theorem zah (lo hi:Int):(rng lo hi).length=(hi - lo).toNat:=by simp[rng]
theorem zbn {K:y00} {F1:Addr->Prop} {H1:Hp} (lo hi:Int):ItOk K (Itr lo (hi - lo).toNat) F1 H1 (rng lo hi) where
 go:=fun i F H t kp d e=>by
  have h:=(y0k.mp e).1
  rw[zah] at h
  exact h
 yld:=fun i F H t x H' kp d e y=>by
  obtain⟨rfl,rfl⟩:=y
  refine⟨F,Ext.refl d,?_⟩
  have h:=(y0k.mp e).1
  rw[zah] at h
  unfold rng at e
  rw[y14,List.getElem?_range h] at e
  simp at e
  subst e
  simp[Rep]
 stop:=fun i F H kp hl=>by
  rw[zah] at hl
  exact hl
def iSq (K:y00) (tl:TE):TI:=fun σ H R=>tl σ H fun x H1=>∃a,x=.ref a/\(((∃xs,SqL K H1 a xs)/\R (Itl K a) H1)\/((∃xs,SqT K H1 a xs)/\R (Itt K a) H1))
theorem znh {tg l:Expr} {tl:TE} (hl:PE X l tl):PI X tg l (iSq X.K tl):=by
 intro pins s σ H R I h
 refine thn (hl pins s σ H _ I h) fun v s1 ⟨x,H1,I1,r1,a,e1,q⟩=>?_
 subst e1
 cases r1
 have fp:∀b∈[s1.heap.objs.size],FpOk X pins H1 b:=fun b hb=>by
  have e:b=s1.heap.objs.size:=by simpa using hb
  subst e
  exact I1.fpOk (y0o _) (I1.hok.fresh (y0o _))
 rcases q with ⟨⟨xs,hq⟩,q⟩|⟨⟨xs,hq⟩,q⟩
 ·obtain⟨its,rv,p,hz⟩:=I1.list hq
  refine wpAny_pyIter_list p.isList ?_
  exact⟨s1.heap.objs.size,[s1.heap.objs.size],_,_,H1,rfl,I1.kept (t':=s1.toks) fun b o e=>y03 _ e,zd7 a _,⟨_,y0l _ rfl,rfl,rfl⟩,fp,q⟩
 ·obtain⟨its,rv,p,hz⟩:=I1.tuple hq
  refine wpAny_pyIter_tuple (show s1.heap.IsTuple a its.toArray from p) ?_
  exact⟨s1.heap.objs.size,[s1.heap.objs.size],_,_,H1,rfl,I1.kept (t':=s1.toks) fun b o e=>y03 _ e,zcc a _,⟨_,y0l _ rfl,rfl,rfl⟩,fp,q⟩
theorem z89 {tg l:Expr} {f:Fe} (hl:PEv X l f):PIt X tg l (z0i f):=za6 (znh hl) fun σ H R ⟨F₀,H₀,O,F,ε,ts,r,e,k⟩=>by
 simp only[z0i,y01] at e
 obtain⟨t,et,e⟩:=e
 split at e
 ·cases e
  refine⟨F₀,H₀,O,F,ε,_,r,et,fun v F' H' x q=>?_⟩
  simp only[Rep] at q
  obtain⟨a,vs,rfl,hs,hr⟩:=q
  exact⟨a,rfl,.inr ⟨⟨vs,hs⟩,k _ F' H' x (zh9 hs hr)⟩⟩
 ·cases e
  refine⟨F₀,H₀,O,F,ε,_,r,et,fun v F' H' x q=>?_⟩
  simp only[Rep] at q
  obtain⟨a,vs,rfl,fa,hs,hr⟩:=q
  exact⟨a,rfl,.inl ⟨⟨vs,.inl hs⟩,k _ F' H' x (zex fa hs hr)⟩⟩
 ·cases e
theorem zia {tg a:Expr} {f:Fe} {p pos:Pos} (hm:X.mg "range"=none) (ha:PEr X a f) (hg:Gl X "range":=by rfl) (hs:y0a [a] X.env=[(false,eval a X.env)]:=by rfl) (hs2:y0a [a] X.env=(false,eval a X.env)::y0a [] X.env:=by rfl) :
  PIt X tg (.Call (.Name "range" p) [a] [] pos) (z3h f):=za6 (ze1 hg hm (z0f ha z17 hs2) hs) fun σ H R ⟨F₀,H₀,O,F,ε,ts,r,e,k⟩=>by
 simp only[z3h,y01] at e
 obtain⟨t,et,e⟩:=e
 split at e
 next j =>
  split at e
  next hz =>
   cases e
   refine⟨F₀,H₀,O,F,ε,_,r,et,fun v F' H' x q=>⟨j,by rw[q.int],?_,?_,k _ F' H' x (by simpa using zbn 0 j)⟩⟩
   ·simp[z2v] at hz
    omega
   ·simp[z2v] at hz
    omega
  next=>cases e
 next=>cases e
theorem zm7 {tg a b:Expr} {f g:Fe} {p pos:Pos} (hm:X.mg "range"=none) (ha:PEr X a f) (hb:PEr X b g) (hg:Gl X "range":=by rfl) (hs:y0a [a,b] X.env=[(false,eval a X.env),(false,eval b X.env)]:=by rfl) (hs2:y0a [b] X.env=[(false,eval b X.env)]:=by rfl)
  (hs3:y0a [a,b] X.env=(false,eval a X.env)::y0a [b] X.env:=by rfl) (hs4:y0a [b] X.env=(false,eval b X.env)::y0a [] X.env:=by rfl) :
  PIt X tg (.Call (.Name "range" p) [a,b] [] pos) (z7h f g):=za6 (ze0 hg hm (z0f ha (z0f hb z17 hs4) hs3) hs hs2) fun σ H R ⟨F₀,H₀,O,F,ε,ts,r,e,k⟩=>by
 simp only[z7h,y01] at e
 obtain⟨t,et,u,eu,e⟩:=e
 split at e
 next i j =>
  split at e
  next hz =>
   cases e
   refine⟨F₀,H₀,O,F,ε,_,r,et,fun v F1 H1 x1 q1=>⟨F₀,H₀,O,F1,ε,_,r.ext x1,eu,fun w F2 H2 x2 q2=>⟨i,j,by rw[q1.int,q2.int],?_,k _ F2 H2 (x1.trans x2) (zbn i j)⟩⟩⟩
   simp[z2v] at hz
   omega
  next=>cases e
 next=>cases e
theorem z80 {tg iter:Expr} {body:List Stmt} {it:Fi} {gg:Fg} {bb:Fs} (hp:PassesOwn (model X.prog X.w) X.A X.env X.xe) (hi:PIt X tg iter it) (hg:PGt X tg gg) (hb:PBt X body bb) (hc:X.calm=true:=by rfl)
  (hs:∀x,foldedSetIterable iter X.env x=pure x:=by intro _;rfl):PSt X (.For tg iter body [] pos) (for_ it gg bb):=z1t (zlg hp hc hi hg hb hs) fun D σ H ⟨F₀,H₀,O,F,ε,o,r,e,k⟩=>by
 simp only[for_,y01] at e
 obtain⟨ts,et,e⟩:=e
 refine⟨F₀,H₀,O,F,ε,ts,r,et,fun J F1 H1 x1 ok=>?_⟩
 refine⟨fun i m σ' H'=>m=ts.length - i/\i<=ts.length/\∃F' ε' ,Kp X.K F1 H1 F' H'/\RelE X.K F₀ H₀ O F' H' ε' σ'/\forL gg bb (ts.drop i) ε'=some o,⟨_,rfl,y1z _,F1,ε,Kp.refl,r.ext x1,by simpa using e⟩,?_⟩
 rintro i m σ' H' ⟨rfl,hi',F',ε',kp,r',e'⟩
 by_cases hlt:i<ts.length
 ·have hd:ts.drop i=ts[i]::ts.drop (i+1):=List.drop_eq_getElem_cons hlt
  have hg':ts[i]?=some ts[i]:=y0v hlt
  rw[hd] at e'
  simp only[forL,y01] at e'
  obtain⟨ε1,eg,o1,eb,e'⟩:=e'
  refine .inr ⟨ok.go i F' H' _ kp r'.dom hg',fun σ2 H2=>∃m',m'<ts.length - i/\(m'=ts.length - (i+1)/\i+1<=ts.length/\∃F2 ε2,Kp X.K F1 H1 F2 H2/\RelE X.K F₀ H₀ O F2 H2 ε2 σ2/\forL gg bb (ts.drop (i+1)) ε2=some o),fun _ _ z=>z,fun x H2 y=>?_⟩
  obtain⟨F2,x2,rx⟩:=ok.yld i F' H' _ x H2 kp r'.dom hg' y
  refine⟨F₀,H₀,O,F2,ε',_,ε1,r'.ext x2,rx,eg,fun σ3 r3=>⟨F₀,H₀,O,F2,ε1,o1,r3,eb,?_⟩⟩
  have kp2:Kp X.K F1 H1 F2 H2:=kp.trans x2.kp
  cases o1 with
  | nx ε2=>exact fun σ4 F4 H4 k4 r4=>⟨_,by omega,rfl,hlt,F4,ε2,kp2.trans k4,r4,e'⟩
  | ct ε2=>exact fun σ4 F4 H4 k4 r4=>⟨_,by omega,rfl,hlt,F4,ε2,kp2.trans k4,r4,e'⟩
  | bk ε2 =>
   cases e'
   exact fun σ4 F4 H4 k4 r4=>k σ4 F4 H4 ((x1.kp.trans kp2).trans k4) r4
  | rt t =>
   cases e'
   exact k
  | rtm t ε2 =>
   cases e'
   exact k
  | rto s =>
   cases e'
   exact k
 ·have hd:ts.drop i=[]:=List.drop_eq_nil_of_le (by omega)
  rw[hd] at e'
  cases e'
  exact .inl ⟨ok.stop i F' H' kp (by omega),k σ' F' H' (x1.kp.trans kp) r'⟩
theorem ziw {body:List Stmt} {bb:Fs} (n:Nat) (hp:PassesOwn (model X.prog X.w) X.A X.env X.xe) (hc:PTt X c ft) (hb:PBt X body bb):PSt X (.While c body [] pos) (whl ft bb n):=z1t (zge hp hc hb) fun D σ H ⟨F₀,H₀,O,F,ε,o,r,e,k⟩=>by
 refine⟨fun m σ' H'=>∃F' ε',Kp X.K F H F' H'/\RelE X.K F₀ H₀ O F' H' ε' σ'/\whl ft bb m ε'=some o,⟨n,F,ε,Kp.refl,r,e⟩,?_⟩
 rintro m σ' H' ⟨F',ε',kp,r',e'⟩
 cases m with
 | zero=>cases e'
 | succ m =>
  simp only[whl,y01] at e'
  obtain⟨x,ex,e'⟩:=e'
  refine⟨F₀,H₀,O,F',ε',x,r',ex,fun F1 H1 x1=>?_⟩
  cases x with
  | false =>
   simp only[y1p,if_false] at e'
   cases e'
   exact iteF (k σ' F1 H1 (kp.trans x1.kp) (r'.ext x1))
  | true =>
   simp only[if_true,y01] at e'
   obtain⟨o1,eb,e'⟩:=e'
   refine iteT ⟨fun σ2 H2=>∃m',m'<m+1/\∃F2 ε2,Kp X.K F H F2 H2/\RelE X.K F₀ H₀ O F2 H2 ε2 σ2/\whl ft bb m' ε2=some o,fun _ _ z=>z,F₀,H₀,O,F1,ε',o1,r'.ext x1,eb,?_⟩
   have kp2:=kp.trans (x1.kp (K:=X.K))
   cases o1 with
   | nx ε2=>exact fun σ4 F4 H4 k4 r4=>⟨m,by omega,F4,ε2,kp2.trans k4,r4,e'⟩
   | ct ε2=>exact fun σ4 F4 H4 k4 r4=>⟨m,by omega,F4,ε2,kp2.trans k4,r4,e'⟩
   | bk ε2 =>
    cases e'
    exact fun σ4 F4 H4 k4 r4=>k σ4 F4 H4 (kp2.trans k4) r4
   | rt t =>
    cases e'
    exact k
   | rtm t ε2 =>
    cases e'
    exact k
   | rto s =>
    cases e'
    exact k
theorem zn5 (i:Nat) {x:Str} {px apos cpos:Pos} (he:PEv X e f) (hN:X.N[i]?=some x:=by rfl) (hv:Vis X.env.scope x:=by first|exact Or.inl rfl|exact Or.inr (Or.inl rfl)|exact Or.inr (Or.inr rfl)) (hd:(x == ("__debug__":Str))=false:=by decide)
  (hcd:(x == ("__classdict__":Str))=false:=by decide) (hs1:y0a [e] X.env=(false,eval e X.env)::y0a [] X.env:=by rfl)
  (hbase:attributeBase (.Name x px) "append" X.env (eval (.Name x px) X.env)=eval (.Name x px) X.env:=by rfl)
  (hfew:((backTo cpos (y0a [e] X.env)).all (fun x=>!x.1) && (backToKw cpos (keywordEach [] X.env)).all (fun x=>x.1.isSome)
   && decide (([e]:List Expr).length+([]:List Keyword).length+(if ([]:List Keyword).isEmpty then 0 else 1)<30))=true:=by rfl)
  (hline:(apos.endLine == cpos.line)=true:=by rfl) (hplain:(backTo cpos (y0a [] X.env)).any (·.1)=false:=by rfl)
  (hsw:swapsWith (.Call (.Attribute (.Name x px) "append" apos) [e] [] cpos) none pos.line X.env=pure false:=by rfl) :
  PSt X (.Expr (.Call (.Attribute (.Name x px) "append" apos) [e] [] cpos) pos) (app i f) :=
 z1t (zdy (zgm PySem.F.plainAttrs_list PySem.F.slot_list_append PySem.F.type_list_append z9c (pv i hN hv hd hcd) (z0f he z17 hs1) hbase hfew hline hs1 hplain) hsw) fun D σ H ⟨F₀,H₀,O,F,ε,o,r,e,k⟩=>by
 unfold app at e
 split at e
 next ts he =>
  simp only[y01] at e
  obtain⟨t,et,e⟩:=e
  split at e
  next hz =>
   cases e
   obtain⟨v,h1,a,vs,rfl,n,h0,hh,hr⟩:=r.val _ _ he
   refine⟨_,h1,.inl ⟨rfl,_,SqL.of hh⟩,F₀,H₀,O,F,ε,t,r,et,fun v F' H' x q=>?_⟩
   have r1:=r.ext x
   obtain⟨v1,h1',a1,vs1,e1,n1,h01,hh1,hr1⟩:=r1.val _ _ he
   rw[h1] at h1'
   cases h1'
   cases e1
   refine⟨a,vs1,v,rfl,rfl,hh1,by rw[z5t,<- hr1.length];exact hz,?_⟩
   obtain⟨kp,r2⟩:=r1.mut (s':=.own (ts++[t])) (o':=.lst (vs1++[v])) he rfl h1 n1 h0 hh1 (.inl ⟨_,rfl⟩) fun kp=>⟨a,_,rfl,n1,h0,z03,(hr1.kp kp).append (RepL.cons (q.kp kp) RepL.nil)⟩
   exact k σ F' _ (x.kp.trans kp) r2
  next=>cases e
 next=>cases e
theorem zn4 (i:Nat) {x:Str} {px apos cpos:Pos} (he:PEr X e f) (hN:X.N[i]?=some x:=by rfl) (hv:Vis X.env.scope x:=by first|exact Or.inl rfl|exact Or.inr (Or.inl rfl)|exact Or.inr (Or.inr rfl)) (hd:(x == ("__debug__":Str))=false:=by decide)
  (hcd:(x == ("__classdict__":Str))=false:=by decide) (hs1:y0a [e] X.env=(false,eval e X.env)::y0a [] X.env:=by rfl)
  (hbase:attributeBase (.Name x px) "extend" X.env (eval (.Name x px) X.env)=eval (.Name x px) X.env:=by rfl)
  (hfew:((backTo cpos (y0a [e] X.env)).all (fun x=>!x.1) && (backToKw cpos (keywordEach [] X.env)).all (fun x=>x.1.isSome)
   && decide (([e]:List Expr).length+([]:List Keyword).length+(if ([]:List Keyword).isEmpty then 0 else 1)<30))=true:=by rfl)
  (hline:(apos.endLine == cpos.line)=true:=by rfl) (hplain:(backTo cpos (y0a [] X.env)).any (·.1)=false:=by rfl)
  (hsw:swapsWith (.Call (.Attribute (.Name x px) "extend" apos) [e] [] cpos) none pos.line X.env=pure false:=by rfl) :
  PSt X (.Expr (.Call (.Attribute (.Name x px) "extend" apos) [e] [] cpos) pos) (ext i f) :=
 z1t (zdy (zgm PySem.F.plainAttrs_list PySem.F.slot_list_extend PySem.F.type_list_extend zcl (pv i hN hv hd hcd) (z0f he z17 hs1) hbase hfew hline hs1 hplain) hsw) fun D σ H ⟨F₀,H₀,O,F,ε,o,r,e,k⟩=>by
 unfold ext at e
 split at e
 next ts he =>
  simp only[y01] at e
  obtain⟨t,et,e⟩:=e
  split at e
  next us =>
   split at e
   next hz =>
    cases e
    obtain⟨v,h1,a,vs,rfl,n,h0,hh,hr⟩:=r.val _ _ he
    refine⟨_,h1,.inl ⟨rfl,_,SqL.of hh⟩,F₀,H₀,O,F,ε,_,r,et,fun v F' H' x q=>?_⟩
    obtain⟨b,ws,rfl,hb,hw⟩:=q.lst
    have r1:=r.ext x
    obtain⟨v1,h1',a1,vs1,e1,n1,h01,hh1,hr1⟩:=r1.val _ _ he
    rw[h1] at h1'
    cases h1'
    cases e1
    refine⟨a,b,vs1,ws,rfl,rfl,hh1,hb,by rw[z5t,<- hr1.length,<- hw.length];exact hz,?_⟩
    obtain⟨kp,r2⟩:=r1.mut (s':=.own (ts++us)) (o':=.lst (vs1++ws)) he rfl h1 n1 h0 hh1 (.inl ⟨_,rfl⟩) fun kp=>⟨a,_,rfl,n1,h0,z03,(hr1.kp kp).append (hw.kp kp)⟩
    exact k σ F' _ (x.kp.trans kp) r2
   next=>cases e
  next=>cases e
 next=>cases e
theorem zn2 (i j:Nat) {x y:Str} {px py apos cpos:Pos} (hN:X.N.Nodup) (hi:X.N[i]?=some x:=by rfl) (hx:Loc X.env.scope x:=by first|exact Or.inl rfl|exact Or.inr rfl) (hj:X.N[j]?=some y:=by rfl)
  (hv:Vis X.env.scope y:=by first|exact Or.inl rfl|exact Or.inr (Or.inl rfl)|exact Or.inr (Or.inr rfl)) (hd:(y == ("__debug__":Str))=false:=by decide) (hcd:(y == ("__classdict__":Str))=false:=by decide)
  (hbase:attributeBase (.Name y py) "pop" X.env (eval (.Name y py) X.env)=eval (.Name y py) X.env:=by rfl) (hline:(apos.endLine == cpos.line)=true:=by rfl)
  (hs:swapsWith (.Call (.Attribute (.Name y py) "pop" apos) [] [] cpos) (some (.Name x px)) pos.line X.env=pure false:=by rfl) (hf:X.fn x=true\/X.env.scope.names.lookup x=some .local:=by first|exact .inl rfl|exact .inr rfl) :
  PSt X (.Assign [.Name x px] (.Call (.Attribute (.Name y py) "pop" apos) [] [] cpos) pos) (pop i j) :=
 z1t (z44 hN hi hx (zll PySem.F.plainAttrs_list PySem.F.slot_list_pop PySem.F.type_list_pop zlx (pv j hj hv hd hcd) hbase hline) hs hf) fun D σ H ⟨F₀,H₀,O,F,ε,o,r,e,k⟩=>by
 unfold pop at e
 split at e
 next ts he =>
  simp only[y01] at e
  obtain⟨t,et,e⟩:=e
  split at e
  next=>cases e
  next hij =>
   cases e
   obtain⟨v,h1,a,vs,rfl,n,h0,hh,hr⟩:=r.val _ _ he
   rw[List.getLast?_eq_getElem?] at et
   obtain⟨w,hw,rw'⟩:=hr.get et
   refine⟨_,h1,.inl ⟨rfl,_,SqL.of hh⟩,a,vs,w,rfl,rfl,hh,by rw[<- hr.length];exact hw,?_⟩
   obtain⟨kp,r2⟩:=r.mut (s':=.own ts.dropLast) (o':=.lst vs.dropLast) he rfl h1 n h0 hh (.inl ⟨_,rfl⟩) fun kp=>⟨a,_,rfl,n,h0,z03,by
    have:=(hr.kp kp).take (ts.length - 1)
    rw[<- List.dropLast_eq_take,hr.length,<- List.dropLast_eq_take] at this
    exact this⟩
   exact k _ F _ kp (r2.set i (rw'.kp kp))
 next=>cases e
end
end
section
variable [Tbl]
section
variable {X:Cx} {a b c e:Expr} {es:List Expr} {f g h:Fe} {fs:List Fe} {ft gt:Ft} {pos p:Pos}
theorem z21:PAr X [] []:=za7 z17 fun σ H Q ⟨F₀,H₀,O,F,ε,ts,r,e,k⟩=>by
 cases e
 exact k [] F H (Ext.refl r.dom) .nil
theorem z0z (ha:PEr X e f) (hr:PAr X es fs) (hs:y0a (e::es) X.env=(false,eval e X.env)::y0a es X.env:=by rfl):PAr X (e::es) (f::fs):=za7 (z0f ha hr hs) fun σ H Q ⟨F₀,H₀,O,F,ε,ts,r,e,k⟩=>by
 simp only[args,y01,y07] at e
 obtain⟨t,et,us,eu,rfl⟩:=e
 refine⟨F₀,H₀,O,F,ε,t,r,et,fun v F1 H1 x1 q1=>⟨F₀,H₀,O,F1,ε,us,r.ext x1,eu,fun vs F2 H2 x2 q2=>?_⟩⟩
 exact k _ F2 H2 (x1.trans x2) (.cons (q1.ext x2) q2)
theorem z06:PAv X [] []:=za7 z17 fun σ H Q ⟨F₀,H₀,O,F,ε,ts,r,e,k⟩=>by
 cases e
 exact k [] F H (Ext.refl r.dom) RepL.nil
theorem z01 (ha:PEv X e f) (hr:PAv X es fs) (hs:y0a (e::es) X.env=(false,eval e X.env)::y0a es X.env:=by rfl):PAv X (e::es) (f::fs):=za7 (z0f ha hr hs) fun σ H Q ⟨F₀,H₀,O,F,ε,ts,r,e,k⟩=>by
 simp only[args,y01,y07] at e
 obtain⟨t,et,us,eu,rfl⟩:=e
 refine⟨F₀,H₀,O,F,ε,t,r,et,fun v F1 H1 x1 q1=>⟨F₀,H₀,O,F1,ε,us,r.ext x1,eu,fun vs F2 H2 x2 q2=>?_⟩⟩
 exact k _ F2 H2 (x1.trans x2) (RepL.cons (q1.ext x2) q2)
theorem z27 {x1} (h:PAv X es fs):PEv X (.Tuple es x1 pos) (z07 fs):=z0u (z7b h) fun σ H Q ⟨F₀,H₀,O,F,ε,t,r,e,k⟩=>by
 simp only[z07,y01] at e
 obtain⟨ts,et,e⟩:=e
 split at e
 next hz =>
  cases e
  refine⟨F₀,H₀,O,F,ε,ts,r,et,fun vs F1 H1 x1 q1=>⟨by rw[z5t,<- q1.length];exact hz,fun p hp=>?_⟩⟩
  have x2:=Ext.laid (o:=.tup vs) x1.dom hp
  refine k _ F1 _ (x1.trans x2) ?_
  simp only[Rep]
  exact⟨p,vs,rfl,SqT.of z03,q1.ext x2⟩
 next=>cases e
theorem zj2 (h:PAv X es fs):PEn X (.List es pos) (z1d fs):=z0u (zi1 h) fun σ H Q ⟨F₀,H₀,O,F,ε,us,r,e,k⟩=>by
 simp only[z1d,y01] at e
 obtain⟨ts,et,e⟩:=e
 split at e
 next hz =>
  cases e
  refine⟨F₀,H₀,O,F,ε,_,r,et,fun vs F1 H1 x1 q1=>⟨by rw[z5t,<- q1.length];exact hz,fun p hp=>?_⟩⟩
  have x2:=Ext.laid (o:=.lst vs) x1.dom hp
  refine k p vs F1 _ (x1.trans x2) ?_ ?_ z03 (q1.ext x2)
  ·exact x1.same.none hp
  ·intro fp
   obtain⟨o,eo⟩:=x1.dom p fp
   rw[hp] at eo
   cases eo
 next=>cases e
theorem zds (h:PAv X es fs):PEv X (.List es pos) (z1d fs):=n2v (zj2 h) fun ε t e=>by
 simp only[z1d,y01] at e
 obtain⟨ts,et,e⟩:=e
 split at e
 ·cases e
  exact⟨_,rfl⟩
 ·cases e
mutual
theorem zbf {F:Addr->Prop} {pins:List (Addr×Obj)} {σ:L2.St} {H:Hp} {s:y04} (I:Inv X pins σ H s):∀{t:T} {v:V} {u:Value},Rep X.K F H t v->RelV v u->∃as,Reads s.heap u t as
 | .none,v,u,h,r=>by
  simp only[Rep] at h
  subst h
  cases r
  exact⟨_,.none⟩
 | .bool b,v,u,h,r=>by
  simp only[Rep] at h
  subst h
  cases r
  exact⟨_,.bool b⟩
 | .int i,v,u,h,r=>by
  simp only[Rep] at h
  subst h
  obtain⟨t,rfl⟩:=r
  exact⟨_,.int i t⟩
 | .str x,v,u,h,r=>by
  simp only[Rep] at h
  subst h
  obtain⟨t,rfl⟩:=r
  exact⟨_,.str x t⟩
 | .dict _,v,u,h,r=>by simp[Rep] at h
 | .tuple ts,v,u,h,r=>by
  simp only[Rep] at h
  obtain⟨a,vs,rfl,hs,hr⟩:=h
  cases r
  obtain⟨its,rv,⟨o,h1,h2,n,h3⟩,hz⟩:=I.tuple hs
  obtain⟨as,ra⟩:=z4u I hr rv
  exact⟨_,.tuple h1 h2 h3 (by simpa using ra)⟩
 | .list ts,v,u,h,r=>by
  simp only[Rep] at h
  obtain⟨a,vs,rfl,fa,hs,hr⟩:=h
  cases r
  obtain⟨z,its,n,rv,hl,e⟩:=Inv.lstR I hs
  obtain⟨as,ra⟩:=z4u I hr rv
  exact⟨_,.list e rfl rfl (by simpa using ra)⟩
theorem z4u {F:Addr->Prop} {pins:List (Addr×Obj)} {σ:L2.St} {H:Hp} {s:y04} (I:Inv X pins σ H s):∀{ts:List T} {vs:List V} {us:List Value},RepL X.K F H ts vs->Vals vs us->∃as,ReadsAll s.heap us ts as
 | [],vs,us,h,r=>by
  simp only[RepL] at h
  subst h
  cases r
  exact⟨_,.nil⟩
 | t::ts,vs,us,h,r=>by
  simp only[RepL] at h
  obtain⟨v,vr,rfl,h1,h2⟩:=h
  cases r with
  | cons r1 r2 =>
   obtain⟨as,q1⟩:=zbf I h1 r1
   obtain⟨bs,q2⟩:=z4u I h2 r2
   exact⟨_,.cons q1 q2⟩
end
theorem z10 {O F:Addr->Prop} {pins:List (Addr×Obj)} {σ:L2.St} {H:Hp} {s:y04} (I:Inv X pins σ H s) {t:T} {v:V} {u:Value} (h:RepR X.K O F H t v) (r:RelV v u):∃as,Reads s.heap u t as:=by
 rcases h with h|⟨ts,a,vs,rfl,rfl,ha,h⟩
 ·exact zbf I h r
 ·cases r
  obtain⟨z,its,n,rv,hl,e⟩:=Inv.lstR I (.inl ha)
  obtain⟨as,ra⟩:=z4u I h rv
  exact⟨_,.list e rfl rfl (by simpa using ra)⟩
theorem z5d {t:T} (h:okT t=true):t.canLay0=true/\t.depth<=60:=by
 simp only[okT,y1a,decide_eq_true_eq] at h
 exact h
theorem zi5 {t:List T} (h:okL t=true):y1f t=true/\y1d t<=60:=by
 simp only[okL,y1a,decide_eq_true_eq] at h
 exact h
noncomputable def zg9 (K:y00) (n:Bool):R2:=fun x y H Q=>∃(O F:Addr->Prop) (s t:T),RepR K O F H s x/\RepR K O F H t y/\okT s=true/\okT t=true/\Q (.bl (if n then !PyData.eqv s t else y1w s t)) H
theorem z7c (hu:X.A.units+64<cLine):OpR X (compareOp .Eq) (zg9 X.K false):=by
 intro pins s σ H x y v u Q I rx ry ⟨O,F,d,t,h1,h2,o1,o2,q⟩
 obtain⟨as,ra⟩:=z10 I h1 rx
 obtain⟨bs,rb⟩:=z10 I h2 ry
 obtain⟨c1,l1⟩:=z5d o1
 obtain⟨c2,l2⟩:=z5d o2
 refine SeqAt.compareEq_reads ra rb c1 c2 (by have:=Nat.min_le_left d.depth t.depth;omega) ?_
 exact⟨.bl _,H,I,rfl,q⟩
theorem z99 (hu:X.A.units+64<cLine):OpR X (compareOp .NotEq) (zg9 X.K true):=by
 intro pins s σ H x y v u Q I rx ry ⟨O,F,d,t,h1,h2,o1,o2,q⟩
 obtain⟨as,ra⟩:=z10 I h1 rx
 obtain⟨bs,rb⟩:=z10 I h2 ry
 obtain⟨c1,l1⟩:=z5d o1
 obtain⟨c2,l2⟩:=z5d o2
 refine SeqAt.compareNe_reads ra rb c1 c2 (by have:=Nat.min_le_left d.depth t.depth;omega) ?_
 exact⟨.bl _,H,I,rfl,q⟩
theorem zlb {op:CmpOp} {R:R2} {o:T->T->Option T} (ho:OpR X (compareOp op) R) (h2:Op2 X.K o R) (ha:PEr X a f) (hb:PEr X b g) (hm:behindInMarks op b=false:=by first|exact zbl _|rfl):PEv X (.Compare a [op] [b] pos) (op2 o f g):=z0u (zjb ho ha hb hm) (z3o h2)
theorem z4r {op:CmpOp} {R:R2} {o:T->T->Option T} (ho:OpR X (compareOp op) R) (h2:Op2 X.K o R) (ha:PEr X a f) (hb:PEr X b g) (hm:behindInMarks op b=false:=by first|exact zbl _|rfl):PTt X (.Compare a [op] [b] pos) (tstB (op2 o f g)) :=
 z5g (zam ho ha hb hm) fun σ H Q ⟨F₀,H₀,O,F,ε,b,r,e,k⟩=>by
 simp only[tstB,y01] at e
 obtain⟨t,et,e⟩:=e
 split at e
 ·cases e
  refine z3o h2 σ H _ ⟨F₀,H₀,O,F,ε,_,r,et,fun v F' H' x q=>?_⟩
  simp only[Rep] at q
  exact⟨_,q,k F' H' x⟩
 ·cases e
theorem z7d:Op2 X.K oEq (zg9 X.K false):=by
  intro O F H x y t vx vy Q d rx ry e k
  unfold oEq at e
  split at e
  next hz =>
   cases e
   rw[y1a] at hz
   exact⟨O,F,x,y,rx,ry,hz.1,hz.2,k _ F H (Ext.refl d) (by simp[Rep])⟩
  next=>cases e
theorem z9b:Op2 X.K oNe (zg9 X.K true):=by
  intro O F H x y t vx vy Q d rx ry e k
  unfold oNe at e
  split at e
  next hz =>
   cases e
   rw[y1a] at hz
   exact⟨O,F,x,y,rx,ry,hz.1,hz.2,k _ F H (Ext.refl d) (by simp[Rep])⟩
  next=>cases e
noncomputable def rInT (K:y00) (n:Bool):R2:=fun x y H Q=>∃(O F:Addr->Prop) (s:T) (ts:List T),RepR K O F H s x/\(RepR K O F H (.tuple ts) y\/RepR K O F H (.list ts) y)/\okT s=true/\okL ts=true/\Q (.bl (if n then !hasT s ts else hasT s ts)) H
theorem zi3 (hu:X.A.units+64<cLine):OpR X (compareOp .In) (rInT X.K false):=by
 intro pins s σ H x y v u Q I rx ry ⟨O,F,d,ts,h1,h2,o1,o2,q⟩
 obtain⟨as,ra⟩:=z10 I h1 rx
 obtain⟨c1,l1⟩:=z5d o1
 obtain⟨c2,l2⟩:=zi5 o2
 have hm:=Nat.min_le_left (y1d ts) d.depth
 rcases h2 with h2|h2
 ·obtain⟨bs,rb⟩:=z10 I h2 ry
  exact SeqAt.in_tuple_reads rb ra c2 c1 (by omega) ⟨.bl _,H,I,rfl,q⟩
 ·obtain⟨bs,rb⟩:=z10 I h2 ry
  exact SeqAt.in_list_reads rb ra c2 c1 (by omega) ⟨.bl _,H,I,rfl,q⟩
theorem z98 (hu:X.A.units+64<cLine):OpR X (compareOp .NotIn) (rInT X.K true):=by
 intro pins s σ H x y v u Q I rx ry ⟨O,F,d,ts,h1,h2,o1,o2,q⟩
 obtain⟨as,ra⟩:=z10 I h1 rx
 obtain⟨c1,l1⟩:=z5d o1
 obtain⟨c2,l2⟩:=zi5 o2
 have hm:=Nat.min_le_left (y1d ts) d.depth
 rcases h2 with h2|h2
 ·obtain⟨bs,rb⟩:=z10 I h2 ry
  exact SeqAt.notIn_tuple_reads rb ra c2 c1 (by omega) ⟨.bl _,H,I,rfl,q⟩
 ·obtain⟨bs,rb⟩:=z10 I h2 ry
  exact SeqAt.notIn_list_reads rb ra c2 c1 (by omega) ⟨.bl _,H,I,rfl,q⟩
theorem zbj {n:Bool}:Op2 X.K (oIn n) (rInT X.K n):=by
 intro O F H x y t vx vy Q d rx ry e k
 unfold oIn at e
 split at e
 ·split at e
  next hz =>
   cases e
   rw[y1a] at hz
   exact⟨O,F,x,_,rx,.inl ry,hz.1,hz.2,k _ F H (Ext.refl d) (by simp[Rep])⟩
  next=>cases e
 ·split at e
  next hz =>
   cases e
   rw[y1a] at hz
   exact⟨O,F,x,_,rx,.inr ry,hz.1,hz.2,k _ F H (Ext.refl d) (by simp[Rep])⟩
  next=>cases e
 ·cases e
theorem zi4:Op2 X.K oLt (fun x y H Q=>rI0 (fun i j=>.bl (decide (i<j))) x y H Q\/∃i j,x=.str i/\y=.str j/\Q (.bl (decide (i.cps.toList<j.cps.toList))) H):=by
  intro O F H x y t vx vy Q d rx ry e k
  unfold oLt at e
  split at e
  ·cases e
   rw[rx.int,ry.int]
   exact .inl ⟨_,_,rfl,rfl,k _ F H (Ext.refl d) (by simp[Rep])⟩
  ·cases e
   rw[rx.str,ry.str]
   exact .inr ⟨_,_,rfl,rfl,k _ F H (Ext.refl d) (by simp[Rep,z54])⟩
  ·cases e
theorem zl6 (ha:PEr X a f):PEv X (.UnaryOp .USub a pos) (op1 oNeg f):=z0u (zli zht ha) fun σ H Q ⟨F₀,H₀,O,F,ε,t,r,e,k⟩=>by
 simp only[op1,y01] at e
 obtain⟨x,ex,e⟩:=e
 unfold oNeg at e
 split at e
 ·cases e
  exact⟨F₀,H₀,O,F,ε,_,r,ex,fun v F1 H1 x1 rx=>⟨_,rx.int,k _ F1 H1 x1 (by simp[Rep])⟩⟩
 ·cases e
noncomputable def OpN (K:y00) (o:List T->Option T) (R:List V->Hp->VK->Prop):Prop :=
 ∀(O F:Addr->Prop) (H:Hp) (ts:List T) (t:T) (vs:List V) (Q:VK),Dom F H->Paired (RepR K O F H) ts vs->o ts=some t ->
  (∀v F' H',Ext F H F' H'->Rep K F' H' t v->Q v H')->R vs H Q
theorem z4g {o:List T->Option T} {R:List V->Hp->VK->Prop} (hR:OpN X.K o R):∀σ H Q,tV X.K (opN o fs) σ H Q->tCB R (tAR X.K fs) σ H Q:=by
 rintro σ H Q ⟨F₀,H₀,O,F,ε,t,r,e,k⟩
 simp only[opN,y01] at e
 obtain⟨ts,et,eo⟩:=e
 exact⟨F₀,H₀,O,F,ε,ts,r,et,fun vs F1 H1 x1 q=>hR O F1 H1 ts t vs Q x1.dom q eo fun v F' H' x3 q3=>k v F' H' (x1.trans x3) q3⟩
theorem zak (hm:X.mg "len"=none) (ha:PAr X (e::es) fs) (hg:Gl X "len":=by rfl) (he:y0a (e::es) X.env=(false,eval e X.env)::y0a es X.env:=by rfl) (hpl:(backTo pos (y0a es X.env)).any (·.1)=false:=by rfl) :
  PEv X (.Call (.Name "len" p) (e::es) [] pos) (opN oLen fs):=z0u (z38 (z9v.or z9u) hg hm PySem.boot_len ha (he:=he) (hpl:=hpl)) (z4g (by
 intro O F H ts t vs Q d q e k
 unfold oLen at e
 split at e
 ·cases e
  cases q with
  | cons q1 q2 =>
   cases q2
   obtain⟨a,ws,rfl,hs,hr⟩:=q1.tup
   exact .inl ⟨a,ws,rfl,.inr hs,k _ F H (Ext.refl d) (by simp[Rep,hr.length])⟩
 ·cases e
  cases q with
  | cons q1 q2 =>
   cases q2
   obtain⟨a,ws,rfl,hs,hr⟩:=q1.lst
   exact .inl ⟨a,ws,rfl,.inl (.inl hs),k _ F H (Ext.refl d) (by simp[Rep,hr.length])⟩
 ·split at e
  next hz =>
   cases e
   cases q with
   | cons q1 q2 =>
    cases q2
    exact .inr ⟨_,by rw[q1.str],by rw[z5t];exact hz,k _ F H (Ext.refl d) (by simp[Rep])⟩
  next=>cases e
 ·cases e))
theorem znd (hm:X.mg "min"=none) (ha:PAr X (e::es) fs) (hc:X.calm=true:=by rfl) (hg:Gl X "min":=by rfl) (he:y0a (e::es) X.env=(false,eval e X.env)::y0a es X.env:=by rfl) (hpl:(backTo pos (y0a es X.env)).any (·.1)=false:=by rfl) :
  PEv X (.Call (.Name "min" p) (e::es) [] pos) (opN oMin fs):=z0u (z38 (zfl hc) hg hm (by decide +kernel) ha (he:=he) (hpl:=hpl)) (z4g (by
 intro O F H ts t vs Q d q e k
 unfold oMin at e
 split at e
 ·cases e
  cases q with
  | cons q1 q2 =>
   cases q2 with
   | cons q2 q3 =>
    cases q3
    exact⟨_,_,by rw[q1.int,q2.int],k _ F H (Ext.refl d) (by simp[Rep])⟩
 ·cases e))
theorem zne (hm:X.mg "max"=none) (ha:PAr X (e::es) fs) (hc:X.calm=true:=by rfl) (hg:Gl X "max":=by rfl) (he:y0a (e::es) X.env=(false,eval e X.env)::y0a es X.env:=by rfl) (hpl:(backTo pos (y0a es X.env)).any (·.1)=false:=by rfl) :
  PEv X (.Call (.Name "max" p) (e::es) [] pos) (opN oMax fs):=z0u (z38 (zfm hc) hg hm (by decide +kernel) ha (he:=he) (hpl:=hpl)) (z4g (by
 intro O F H ts t vs Q d q e k
 unfold oMax at e
 split at e
 ·cases e
  cases q with
  | cons q1 q2 =>
   cases q2 with
   | cons q2 q3 =>
    cases q3
    exact⟨_,_,by rw[q1.int,q2.int],k _ F H (Ext.refl d) (by simp[Rep])⟩
 ·cases e))
theorem zaj (hm:X.mg "tuple"=none) (ha:PAr X (e::es) fs) (hg:Gl X "tuple":=by rfl) (he:y0a (e::es) X.env=(false,eval e X.env)::y0a es X.env:=by rfl) (hpl:(backTo pos (y0a es X.env)).any (·.1)=false:=by rfl) :
  PEv X (.Call (.Name "tuple" p) (e::es) [] pos) (opN z3f fs):=z0u (z4v z8g hg hm (by decide +kernel) ha (he:=he) (hpl:=hpl)) (z4g (by
 intro O F H ts t vs Q d q e k
 unfold z3f at e
 split at e
 ·cases e
  cases q with
  | cons q1 q2 =>
   cases q2
   obtain⟨a,ws,rfl,hs,hr⟩:=q1.tup
   refine⟨a,ws,rfl,.inr ⟨hs,k _ F H (Ext.refl d) ?_⟩⟩
   simp only[Rep]
   exact⟨a,ws,rfl,hs,hr⟩
 ·cases e
  cases q with
  | cons q1 q2 =>
   cases q2
   obtain⟨a,ws,rfl,hs,hr⟩:=q1.lst
   refine⟨a,ws,rfl,.inl ⟨.inl hs,fun l hl=>?_⟩⟩
   have x1:=Ext.laid (o:=.tup ws) d hl
   refine k _ F _ x1 ?_
   simp only[Rep]
   exact⟨l,ws,rfl,SqT.of z03,hr.ext x1⟩
 ·cases e))
theorem zl8 (hm:X.mg "int"=none) (ha:PAr X (e::es) fs) (hg:Gl X "int":=by rfl) (he:y0a (e::es) X.env=(false,eval e X.env)::y0a es X.env:=by rfl) (hpl:(backTo pos (y0a es X.env)).any (·.1)=false:=by rfl) :
  PEv X (.Call (.Name "int" p) (e::es) [] pos) (opN oInt fs):=z0u (z4v zfn hg hm (by decide +kernel) ha (he:=he) (hpl:=hpl)) (z4g (by
 intro O F H ts t vs Q d q e k
 unfold oInt at e
 split at e
 ·cases e
  cases q with
  | cons q1 q2 =>
   cases q2
   exact .inl ⟨_,by rw[q1.int],k _ F H (Ext.refl d) (by simp[Rep])⟩
 ·cases e
  cases q with
  | cons q1 q2 =>
   cases q2
   exact .inr ⟨_,by rw[q1.bl],k _ F H (Ext.refl d) (by simp[Rep])⟩
 ·cases e))
theorem zkn (h:PEr X e f) (he:∀whole,isTrue e X.env whole=(do let v <- whole;standAt e.pos;holding [v] (truthy v)):=by intro _;rfl):PTt X e (tstB f):=z5g (zhy h he) fun σ H Q ⟨F₀,H₀,O,F,ε,b,r,e,k⟩=>by
 simp only[tstB,y01] at e
 obtain⟨t,et,e⟩:=e
 split at e
 ·cases e
  exact⟨F₀,H₀,O,F,ε,_,r,et,fun v F1 H1 x1 rx=>⟨_,rx.bl,k F1 H1 x1⟩⟩
 ·cases e
theorem zms {j pos'} (ha:PEr X a f):PTt X (.Compare a [.Is] [.Constant .none j pos'] pos) (tstB (op1 oIsN f)):=z5g (zdw (zlm ha)) fun σ H Q ⟨F₀,H₀,O,F,ε,t,r,e,k⟩=>by
 simp only[tstB,op1,oIsN,y01] at e
 obtain⟨_,⟨x,ex,e1⟩,e⟩:=e
 cases e1
 cases e
 refine⟨F₀,H₀,O,F,ε,x,r,ex,fun v F1 H1 x1 rx=>⟨_,?_,k F1 H1 x1⟩⟩
 cases x with
 | none=>rw[rx.non];simp
 | bool b=>rw[rx.bl];simp
 | int b=>rw[rx.int];simp
 | str b=>rw[rx.str];simp
 | tuple b=>obtain⟨_,_,e,_⟩:=rx.tup;rw[e];simp
 | list b=>obtain⟨_,_,e,_⟩:=rx.lst;rw[e];simp
 | dict b=>rcases rx with rx|⟨_,_,_,z,_⟩;simp[Rep] at rx;cases z
theorem z8p {j pos'} (ha:PEr X a f):PTt X (.Compare a [.IsNot] [.Constant .none j pos'] pos) (tstB (op1 z1a f)):=z5g (zdw (zje ha)) fun σ H Q ⟨F₀,H₀,O,F,ε,t,r,e,k⟩=>by
 simp only[tstB,op1,z1a,y01] at e
 obtain⟨_,⟨x,ex,e1⟩,e⟩:=e
 cases e1
 cases e
 refine⟨F₀,H₀,O,F,ε,x,r,ex,fun v F1 H1 x1 rx=>⟨_,?_,k F1 H1 x1⟩⟩
 cases x with
 | none=>rw[rx.non];simp
 | bool b=>rw[rx.bl];simp
 | int b=>rw[rx.int];simp
 | str b=>rw[rx.str];simp
 | tuple b=>obtain⟨_,_,e,_⟩:=rx.tup;rw[e];simp
 | list b=>obtain⟨_,_,e,_⟩:=rx.lst;rw[e];simp
 | dict b=>rcases rx with rx|⟨_,_,_,z,_⟩;simp[Rep] at rx;cases z
theorem zb7 (h:PEr X e f) (he:∀whole,isTrue e X.env whole=(do let v <- whole;standAt e.pos;holding [v] (truthy v)):=by intro _;rfl):PTt X e (tstL f):=z5g (zgd h he) fun σ H Q ⟨F₀,H₀,O,F,ε,b,r,e,k⟩=>by
 simp only[tstL,y01] at e
 obtain⟨t,et,e⟩:=e
 have emp:∀{ts:List T} {vs:List V} {F1:Addr->Prop} {H1:Hp},RepL X.K F1 H1 ts vs->ts.isEmpty=vs.isEmpty:=fun {ts vs F1 H1} q=>by
  have:=q.length
  cases ts <;> cases vs <;> simp_all
 split at e
 ·cases e
  refine⟨F₀,H₀,O,F,ε,_,r,et,fun v F1 H1 x1 rx=>?_⟩
  obtain⟨a,vs,rfl,hs,hr⟩:=rx.lst
  exact⟨_,.inl ⟨vs,.inl hs,by rw[emp hr]⟩,k F1 H1 x1⟩
 ·cases e
  refine⟨F₀,H₀,O,F,ε,_,r,et,fun v F1 H1 x1 rx=>?_⟩
  obtain⟨a,vs,rfl,hs,hr⟩:=rx.tup
  exact⟨_,.inr (.inl ⟨vs,hs,by rw[emp hr]⟩),k F1 H1 x1⟩
 ·cases e
theorem ziq (h:PTt X e ft):PTt X (.UnaryOp .Not e pos) (notT ft):=z5g (zle h) fun σ H Q ⟨F₀,H₀,O,F,ε,b,r,e,k⟩=>by
 simp only[notT,y07] at e
 obtain⟨c,ec,rfl⟩:=e
 exact⟨F₀,H₀,O,F,ε,c,r,ec,fun F1 H1 x1=>k F1 H1 x1⟩
theorem zhs (h:PTt X e ft):PWt X (.BoolOp .And [e] pos) ft:=zdv h
theorem zkh (h:PTt X e ft):PWt X (.BoolOp .Or [e] pos) ft:=zld h
theorem zki (h:PTt X a ft) (h2:PWt X (.BoolOp .And (b::es) pos) gt):PWt X (.BoolOp .And (a::b::es) pos) (andT ft gt):=zij (zhx h h2) fun σ H Q ⟨F₀,H₀,O,F,ε,b,r,e,k⟩=>by
 simp only[andT,y01] at e
 obtain⟨c,ec,e⟩:=e
 refine⟨F₀,H₀,O,F,ε,c,r,ec,fun F1 H1 x1=>?_⟩
 cases c with
 | true=>exact iteT ⟨F₀,H₀,O,F1,ε,b,r.ext x1,by simpa using e,fun F2 H2 x2=>k F2 H2 (x1.trans x2)⟩
 | false =>
  have:b=false:=by simpa using e.symm
  subst this
  exact iteF (k F1 H1 x1)
theorem w_or (h:PTt X a ft) (h2:PWt X (.BoolOp .Or (b::es) pos) gt):PWt X (.BoolOp .Or (a::b::es) pos) (orT ft gt):=zij (zng h h2) fun σ H Q ⟨F₀,H₀,O,F,ε,b,r,e,k⟩=>by
 simp only[orT,y01] at e
 obtain⟨c,ec,e⟩:=e
 refine⟨F₀,H₀,O,F,ε,c,r,ec,fun F1 H1 x1=>?_⟩
 cases c with
 | true =>
  have:b=true:=by simpa using e.symm
  subst this
  exact iteT (k F1 H1 x1)
 | false=>exact iteF ⟨F₀,H₀,O,F1,ε,b,r.ext x1,by simpa using e,fun F2 H2 x2=>k F2 H2 (x1.trans x2)⟩
theorem w_t (h:PWt X e ft):PTt X e ft:=h.pt
end
end
section
variable [Tbl]
noncomputable def spT (K:y00) (n:Nat) (d:List T->Option T):Sp:=fun vs H Q _=>vs.length=n/\∃F ts t,Dom F H/\RepL K F H ts vs/\d ts=some t/\∀v F' H',Ext F H F' H'->Rep K F' H' t v->Q v H'
section
variable {X:Cx} {k n:Nat} {fa:Addr} {fd:y0b} {ps:List Str} {d:List T->Option T} {x:Str} {p pos:Pos} {e:Expr} {es:List Expr} {fs:List Fe}
theorem zlc (F:FnOk X.prog X.w X.K X.mg X.base CX0 k fa fd ps (spT X.K n d)) (hr:Room k X.A) (hg:Gl X x) (hm:X.mg x=some (.ref fa)) (hk:y08 X.K (.ref fa)=true) (hb:z1f X.K fd ps [])
  (ha:PAv X (e::es) fs) (hn:fs.length=n:=by rfl) (hdb:(x == ("__debug__":Str))=false:=by decide) (he:y0a (e::es) X.env=(false,eval e X.env)::y0a es X.env:=by rfl) (hpl:(backTo pos (y0a es X.env)).any (·.1)=false:=by rfl) :
  PEv X (.Call (.Name x p) (e::es) [] pos) (opN d fs):=z0u (ze5 F hr hg hm hk hb .nil znj ha hdb he hpl) fun σ H Q ⟨F₀,H₀,O,F,ε,t,r,e,k⟩=>by
 simp only[opN,y01] at e
 obtain⟨ts,et,ed⟩:=e
 have hl:∀(gs:List Fe) (us:List T),args gs ε=some us->us.length=gs.length:=by
  intro gs
  induction gs with
  | nil=>intro us e;cases e;rfl
  | cons g gs ih =>
   intro us e
   simp only[args,y01,y07] at e
   obtain⟨t,_,vs,ev,rfl⟩:=e
   simp[ih vs ev]
 refine⟨F₀,H₀,O,F,ε,ts,r,et,fun vs F1 H1 x1 q=>⟨?_,F1,ts,t,x1.dom,by simpa using q,ed,fun v F' H' x2 q2=>k v F' H' (x1.trans x2) q2⟩⟩
 rw[y1u,<- q.length,hl fs ts et,hn]
end
section
variable {P:y0q} {w:World} {K:y00} {mg:Str->Option Value} {base:Heap}
theorem z7a {F:Addr->Prop} {H:Hp} {ts:List T} {vs:List V} {N:List Str} (dom:Dom F H) (q:RepL K F H ts vs) (n:Nat) :
  RelE K F ⟨H,0⟩ (fun a=>H a=none) F H ((ts.map fun t=>some (.imm t))++y0g n none) (vs.map some++y0g n none):=by
 have imm:∀(i:Nat) (s:Sl),((ts.map fun t=>some (Sl.imm t))++y0g n none)[i]?=some (some s)->∃t,s=.imm t/\ts[i]?=some t:=by
  intro i s e
  by_cases hi:i<ts.length
  ·rw[y1k (by simpa using hi),y14] at e
   rw[y0v hi] at e ⊢
   simp at e
   exact⟨_,e.symm,rfl⟩
  ·rw[y1i (by simpa using hi),List.getElem?_replicate] at e
   split at e <;> cases e
 refine⟨by simp[q.length],fun i s e=>?_,fun i j s u v w hij e1 e2 o1=>?_,Ext.refl dom,fun _ h=>h,fun _ h=>h⟩
 ·obtain⟨t,rfl,ht⟩:=imm i s e
  obtain⟨v,hv,rv⟩:=q.get ht
  refine⟨v,?_,rv⟩
  rw[y1k (by have:=(y0k.mp hv).1;simpa using this),y14,hv]
  rfl
 ·obtain⟨t,rfl,_⟩:=imm i s e1
  cases o1
theorem zm9 {x qual:Str} {st:Stmt} {f:Addr} {fd:y0b} {N ps:List Str} {k:Nat} {b:Fs} (F:Fun K x qual st f fd) (S:FnScope N ps (z00 st))
  (hb:∀(cdv:Value) (A:Around) (outer:List Env) (s:y04) (H:Hp) (E:XK),Room k (A.deeper (envOfC qual (z00 st) s.heap.objs.size f cdv)) ->
   PBt (cxOf CX0 P w K mg base N qual (z00 st) f cdv A outer s H E).nox (z09 st) b) :
  FnOk P w K mg base CX0 (k+1) f fd ps (spT K ps.length (runF b N.length)):=by
 refine F.ok S (fun vs H Q E h=>h.1) fun cdv A outer s H vs Q E hr h=>⟨_,hb cdv A outer s H E hr,?_⟩
 obtain⟨hl,F,ts,t,dom,q,e,kq⟩:=h
 simp only[runF,y01] at e
 obtain⟨o,eo,e⟩:=e
 refine⟨F,⟨H,0⟩,fun a=>H a=none,F,_,o,?_,eo,?_⟩
 ·have:=z7a (N:=N) dom q (N.length - ts.length)
  unfold L2.start
  rw[q.length] at this ⊢
  exact this
 ·cases o with
  | rt t' =>
   cases e
   exact fun v F' H' x q=>kq v F' H' x q
  | nx ε' =>
   cases e
   exact fun σ' F' H' _ r=>kq _ F' H' r.ent (by simp[Rep])
  | bk _=>cases e
  | ct _=>cases e
  | rtm _ _=>cases e
  | rto _=>cases e
theorem z6c {f:Addr} {fd:y0b} {ps:List Str} {k n:Nat}:FnOk P w K mg base CX0 k f fd ps (spT K n fun _=>none):=by
 have no:∀vs H Q E,¬spT K n (fun _=>none) vs H Q E:=fun vs H Q E h=>by
  obtain⟨_,_,_,_,_,_,e,_⟩:=h
  cases e
 exact⟨fun vs H Q E h=>absurd h (no vs H Q E),fun A outer s H args us vs Q E _ _ _ _ h=>absurd h (no vs H Q E)⟩
end
end
section
variable [Tbl]
noncomputable def clos (env:Env):List (Str×NameKind)->List (Str×Addr)->List (Str×Addr)
 | [],cs=>cs
 | x::r,cs=>if x.2 == .free then clos env r ((x.1,(env.cells.lookup x.1).getD 0)::cs) else clos env r cs
theorem z29 {scope:Scope} {env:Env} (h:∀x∈scope.names,x.2=.free->∃c,env.cells.lookup x.1=some c):closureFor scope env=pure (clos env scope.names []):=by
 have go:∀(l:List (Str×NameKind)) (cs:List (Str×Addr)),(∀x∈l,x.2=.free->∃c,env.cells.lookup x.1=some c) ->
   (forIn l cs (fun x r=>(if (x.2 == NameKind.free)=true then do let a <- cellOf env x.1;pure (ForInStep.yield ((x.1,a)::r)) else pure (ForInStep.yield r)):_->_->Sem (ForInStep (List (Str×Addr)))):Sem (List (Str×Addr)))=pure (clos env l cs):=by
  intro l
  induction l with
  | nil=>intro cs _;rfl
  | cons x r ih =>
   intro cs hl
   rw[List.forIn_cons]
   have hr:=fun y hy=>hl y (y05 _ hy)
   by_cases k:x.2=.free
   ·obtain⟨c,hc⟩:=hl x y0e k
    have e1:(x.2 == NameKind.free)=true:=by simp[k]
    simp only[e1,if_true,cellOf,hc,clos,Option.getD_some]
    exact ih _ hr
   ·have e1:(x.2 == NameKind.free)=false:=by simpa using k
    simp only[e1,y1p,if_false,clos]
    exact ih _ hr
 have:=go scope.names [] h
 simp only[closureFor]
 exact congrArg (fun m=>m >>= fun cs=>pure cs) this
theorem z2y {env:Env}:∀{l:List (Str×NameKind)} {cs:List (Str×Addr)},(∀x∈l,x.2=.free->∃c,env.cells.lookup x.1=some c)->(∀x c,cs.lookup x=some c->env.cells.lookup x=some c)->∀x c,(clos env l cs).lookup x=some c->env.cells.lookup x=some c
 | [],cs,_,h,x,c,e=>h x c e
 | y::r,cs,hl,h,x,c,e=>by
  unfold clos at e
  have hr:=fun z hz=>hl z (y05 _ hz)
  split at e
  next k =>
   refine z2y hr (fun x c e=>?_) x c e
   rw[y1e] at e
   split at e
   next hb =>
    obtain⟨c',hc⟩:=hl y y0e (by simpa using k)
    have:x=y.1:=by simpa using hb
    subst this
    rw[hc] at e ⊢
    simpa using e
   next=>exact h x c e
  next=>exact z2y hr h x c e
theorem z2t {env:Env}:∀{l:List (Str×NameKind)} {cs:List (Str×Addr)} {x:Str},((∃y∈l,y.2=.free/\y.1=x)\/∃c,cs.lookup x=some c)->∃c,(clos env l cs).lookup x=some c
 | [],cs,x,h=>by
  rcases h with ⟨y,hy,_⟩|h
  ·cases hy
  ·exact h
 | y::r,cs,x,h=>by
  unfold clos
  split
  next k =>
   refine z2t ?_
   rcases h with ⟨z,hz,k',e⟩|⟨c,h⟩
   ·rcases y09.mp hz with rfl|hz
    ·refine .inr ?_
     subst e
     rw[y1e]
     simp
    ·exact .inl ⟨z,hz,k',e⟩
   ·refine .inr ?_
    rw[y1e]
    split
    ·exact⟨_,rfl⟩
    ·exact⟨c,h⟩
  next k =>
   refine z2t ?_
   rcases h with ⟨z,hz,k',e⟩|h
   ·rcases y09.mp hz with rfl|hz
    ·exact absurd (by simpa using k') k
    ·exact .inl ⟨z,hz,k',e⟩
   ·exact .inr h
noncomputable def z1o (X:Cx) (N':List Str) (scope:Scope) (cl:List (Str×Addr)) (C:Addr) (s₀:y04) (H₀:Hp) (fp:List Addr) (pn:List (Addr×Obj)):Cx where
 prog:=X.prog
 w:=X.w
 K:=X.K
 mg:=X.mg
 base:=X.base
 A:=X.A
 N:=N'
 s₀:=s₀
 H₀:=H₀
 env:=compEnvC scope cl C X.env
 outer:=X.stack
 stack:=X.stack
 ex:=fp
 fn:=fun _=>false
 calm:=X.calm
 pn:=pn
 xe:=fun _ _=>False
noncomputable def PTs (X:Cx) (ifs:List Expr) (cc:Ft):Prop:=∀(pins:List (Addr×Obj)) (s:y04) (σ:L2.St) (H:Hp) (Q:Bool->Hp->Prop),L2.Inv X pins σ H s->tT X.K cc σ H Q ->
 y0u (model X.prog X.w) X.A (forIn ifs true fun c r=>if r=true then do let ok <- isTrue c X.env (eval c X.env);pure (ForInStep.yield ok) else pure (ForInStep.yield r)) (TP X pins σ Q) X.xe s
theorem zd9 {X:Cx}:PTs X [] (cstT true):=fun pins s σ H Q I ⟨F₀,H₀,O,F,ε,b,r,e,k⟩=>by
 cases e
 exact wpAny_tests_nil ⟨H,I,k F H (Ext.refl r.dom)⟩
theorem zd8 {X:Cx} {c:Expr} {cc:Ft} (h:PTt X c cc):PTs X [c] cc:=fun pins s σ H Q I q=>wpAny_tests_one (h pins s σ H Q I q)
section
variable {prog:y0q} {w:World} {A:Around} {R:Result->y04->Prop} {s:y04}
theorem z9r {elt target iter:Expr} {ifs:List Expr} {scope:Scope} {pos:Pos} {it acc:Value} {env:Env} (I:Nat->y04->Prop)
  (turn:∀n s,I n s->y0u (model prog w) A (pyNext it) (fun r s₁=>match r with
   | none=>R (.ok .next) s₁
   | some v=>y0u (model prog w) A (letOwnedTupleGo target it v) (fun _ s₁'=>y0u (model prog w) A (assign target env v) (fun _ s₂ =>
     y0u (model prog w) A (forIn ifs true fun c r=>if r=true then do let ok <- isTrue c env (eval c env);pure (ForInStep.yield ok) else pure (ForInStep.yield r)) (fun ok s₃ =>
      if ok=true then y0u (model prog w) A (eval elt env) (fun x s₄ =>
       y0u (model prog w) A (call (.builtin "list.append") [acc,x]) (fun _ s₅=>∃m,m<n/\I m s₅) (fun _ _=>False) s₄) (fun _ _=>False) s₃
      else ∃m,m<n/\I m s₃) (fun _ _=>False) s₂) (fun _ _=>False) s₁') (fun _ _=>False) s₁) (fun _ _=>False) s)
  (n:Nat) (h:I n s):codeAny (model prog w) A (.compLoop (.ListComp elt [⟨target,iter,ifs,0⟩] scope pos) 0 it acc env) R s:=by
 refine codeAny_loop rfl I (fun n s hI=>?_) n h
 show y0u _ A ((compTurn (.ListComp elt [⟨target,iter,ifs,0⟩] scope pos) 0 it acc env).onRaise (fun x=>do noteFrame x env;theTreesLotGoes x)) _ _ s
 refine wpAny_noted ?_
 rw[compTurn_list]
 refine y02 (wpAny_standAt (y02 (y1c (turn n s hI) (fun r s₁ h₁=>?_) fun _ _ h'=>h'.elim)))
 cases r with
 | none=>exact y06 h₁
 | some v =>
  refine y02 (y1c h₁ (fun _ s₁' h₁'=>?_) fun _ _ h'=>h'.elim)
  refine y02 (y1c h₁' (fun _ s₂ h₂=>y02 (y1c h₂ (fun ok s₃ h₃=>?_) fun _ _ h'=>h'.elim)) fun _ _ h'=>h'.elim)
  cases ok with
  | false=>exact y06 ⟨rfl,h₃⟩
  | true =>
   exact y02 (y02 (y1c h₃ (fun x s₄ h₄=>y02 (y1c h₄ (fun _ s₅ h₅=>y06 (y06 ⟨rfl,h₅⟩)) fun _ _ h'=>h'.elim)) fun _ _ h'=>h'.elim))
end
end
section
variable [Tbl]
theorem z46 {env:Env} {k:NameKind}:∀{names:List (Str×NameKind)} {x:Str},names.lookup x=some k->∃k',(names.map fun (n,k)=>if (k == NameKind.free && env.scope.kind == .function && env.kindOf n == some .cell) then (n,NameKind.cell) else (n,k)).lookup x=some k'/\(k'=k\/(k=.free/\k'=.cell))
  | [],x,h=>by simp at h
  | (n,j)::r,x,h=>by
    have ih:=@z46 env k r x
    show ∃k',List.lookup x ((if (j == NameKind.free && env.scope.kind == .function && env.kindOf n == some .cell)=true then (n,NameKind.cell) else (n,j))::_)=some k'/\_
    cases hx:x == n with
    | true =>
      simp only[y1e,hx] at h
      cases h
      by_cases hc:(k == NameKind.free && env.scope.kind == .function && env.kindOf n == some .cell)=true
      · rw[if_pos hc]
        refine⟨.cell,by simp[y1e,hx],.inr ⟨?_,rfl⟩⟩
        simp only[y1a] at hc
        simpa using hc.1.1
      · rw[if_neg hc]
        exact⟨k,by simp[y1e,hx],.inl rfl⟩
    | false =>
      simp only[y1e,hx] at h
      obtain⟨k',h1,h2⟩:=ih h
      refine⟨k',?_,h2⟩
      by_cases hc:(j == NameKind.free && env.scope.kind == .function && env.kindOf n == some .cell)=true
      · rw[if_pos hc];simp only[y1e,hx];exact h1
      · rw[if_neg hc];simp only[y1e,hx];exact h1
theorem z0s {names:List (Str×NameKind)} {x:Str} {k:NameKind} (h:names.lookup x=some k):∃y∈names,y.2=k/\y.1=x:=by
 induction names with
 | nil=>simp at h
 | cons y r ih =>
  rw[y1e] at h
  split at h
  next hb =>
   cases h
   exact⟨y,y0e,rfl,by simpa using (beq_iff_eq.mp hb).symm⟩
  next =>
   obtain⟨z,hz,h1,h2⟩:=ih h
   exact⟨z,y05 _ hz,h1,h2⟩
theorem z91 {scope:Scope} {env:Env} (hcell:∀y∈scope.names,y.2≠.cell) {x:Str} (h:(relabel scope env).names.lookup x=some .cell\/(relabel scope env).names.lookup x=some .free):∃y∈scope.names,y.2=.free/\y.1=x:=by
 have go:∀{k:NameKind},(relabel scope env).names.lookup x=some k->(k=.cell\/k=.free)->∃y∈scope.names,y.2=.free/\y.1=x:=fun {k} e hk=>by
  obtain⟨y,hy,h1,h2⟩:=z0s e
  obtain⟨⟨n,j⟩,hz,e2⟩:=y0m.mp (show y∈scope.names.map _ from hy)
  by_cases hc:(j == NameKind.free && env.scope.kind == .function && env.kindOf n == some .cell)=true
  ·have e3:(n,NameKind.cell)=y:=by
    have e4:(if (j == NameKind.free && env.scope.kind == .function && env.kindOf n == some .cell)=true then (n,NameKind.cell) else (n,j))=y:=e2
    rwa [if_pos hc] at e4
   subst e3
   simp only[y1a] at hc
   exact⟨(n,j),hz,by simpa using hc.1.1,h2⟩
  ·have e3:(n,j)=y:=by
    have e4:(if (j == NameKind.free && env.scope.kind == .function && env.kindOf n == some .cell)=true then (n,NameKind.cell) else (n,j))=y:=e2
    rwa [if_neg hc] at e4
   subst e3
   rcases hk with rfl|rfl
   ·exact absurd h1 (hcell _ hz)
   ·exact⟨(n,j),hz,h1,h2⟩
 rcases h with h|h
 ·exact go h (.inl rfl)
 ·exact go h (.inr rfl)
theorem RelE.other {K:y00} {F₀ O F:Addr->Prop} {E:En} {H:Hp} {ε:Ev} {σ:L2.St} {a:Addr} {xs ys:List V} (r:RelE K F₀ E O F H ε σ) (hn:¬F a) (ho:¬O a) (h0:E.h a=none) (ha:H a=some (.lst xs)) :
  Kp K F H F (upd H a (.lst ys))/\RelE K F₀ E O F (upd H a (.lst ys)) ε σ:=by
 have hm:HoM (.lst xs):=.inl ⟨_,rfl⟩
 have kp:Kp K F H F (upd H a (.lst ys)):=zes hn ha hm
 have keep:∀(u:Sl) (w:V),z1r K E O F H u w->z1r K E O F (upd H a (.lst ys)) u w/\fpS (upd H a (.lst ys)) u w=fpS H u w:=by
  intro u w ru
  refine ru.keep kp (fun b hb=>z02 ?_) (fun _ _ f=>f) fun _ _ o=>o
  rintro rfl
  cases ou:u.isOwn with
  | true=>exact ho ((ru.held hb).2.1 ou)
  | false=>exact (ru.held hb).2.2 ou h0
 refine⟨kp,⟨r.len,fun j u e=>?_,fun i j s u v w hij e1 e2 o1 o2 h1 h2=>?_,zby r.ent h0 hn ha hm,r.o0,fun b e=>r.fr b ?_⟩⟩
 ·obtain⟨v,h1,h2⟩:=r.val j u e
  exact⟨v,h1,(keep u v h2).1⟩
 ·obtain⟨v',h1',r1⟩:=r.val i s e1
  obtain⟨w',h2',r2⟩:=r.val j u e2
  rw[h1] at h1'
  rw[h2] at h2'
  cases h1'
  cases h2'
  rw[(keep s v r1).2,(keep u w r2).2]
  exact r.ne i j s u v w hij e1 e2 o1 o2 h1 h2
 ·by_cases nb:b=a
  ·subst nb
   rw[z03] at e
   cases e
  ·rwa [z02 nb] at e
def zhm (n:Nat) (caps:List Nat) (σ:L2.St):L2.St:=y0g n none++caps.map fun i=>(σ[i]?).join
theorem zew {α:Type} {o:Option (Option α)} {x:α} (h:o.join=some x):o=some (some x):=by
 cases o with
 | none=>cases h
 | some o=>exact congrArg some h
theorem z58 {α:Type} {n:Nat} {caps:List Nat} {l:List (Option α)} {i:Nat} {x:α} (h:(y0g n none++caps.map fun i=>(l[i]?).join)[i]?=some (some x)):∃j,n<=i/\caps[i - n]?=some j/\l[j]?=some (some x):=by
 by_cases hi:i<n
 ·rw[y1k (by simpa using hi),List.getElem?_replicate] at h
  rw[if_pos hi] at h
  cases h
 ·rw[y1i (by simpa using hi),List.length_replicate,y14] at h
  cases e:caps[i - n]? with
  | none =>
   rw[e] at h
   cases h
  | some j =>
   rw[e] at h
   exact⟨j,by omega,rfl,zew (y28 h)⟩
theorem zjv {α:Type} {n:Nat} {caps:List Nat} {l:List (Option α)} {i j:Nat} {x:α} (hi:n<=i) (hc:caps[i - n]?=some j) (h:l[j]?=some (some x)):(y0g n none++caps.map fun i=>(l[i]?).join)[i]?=some (some x):=by
 rw[y1i (by simpa using hi),List.length_replicate,y14,hc]
 simp[h]
theorem RelE.cap {K:y00} {F₀ O F:Addr->Prop} {E:En} {H:Hp} {ε:Ev} {σ:L2.St} {D:Addr} (r:RelE K F₀ E O F H ε σ) (n:Nat) {caps:List Nat} (nd:caps.Nodup) (hD:H D=none) :
  RelE K F₀ E (fun a=>O a/\a≠D) F (upd H D (.lst [])) (z1j n caps ε) (zhm n caps σ):=by
 have x:=Ext.laid (o:=.lst []) r.dom hD
 have keep:∀(u:Sl) (w:V),z1r K E O F H u w->z1r K E (fun a=>O a/\a≠D) F (upd H D (.lst [])) u w/\fpS (upd H D (.lst [])) u w=fpS H u w:=by
  intro u w ru
  have nb:∀b∈fpS H u w,b≠D:=fun b hb z=>by
   obtain⟨o,e,_⟩:=ru.at hb
   rw[z,hD] at e
   cases e
  exact ru.keep x.kp (fun b hb=>z02 (nb b hb)) (fun _ _ f=>f) fun b hb o=>⟨o,nb b hb⟩
 refine⟨by simp[z1j,zhm],fun i s e=>?_,fun i j s u v w hij e1 e2 o1 o2 h1 h2=>?_,r.ent.trans x,fun a h=>r.o0 a h.1,fun a h=>?_⟩
 ·obtain⟨j,hn,hc,e'⟩:=z58 e
  obtain⟨v,h1,h2⟩:=r.val j s e'
  exact⟨v,zjv hn hc h1,(keep s v h2).1⟩
 ·obtain⟨i',hi,ci,e1'⟩:=z58 e1
  obtain⟨j',hj,cj,e2'⟩:=z58 e2
  obtain⟨i2,_,ci2,h1'⟩:=z58 (l:=σ) h1
  obtain⟨j2,_,cj2,h2'⟩:=z58 (l:=σ) h2
  rw[ci] at ci2
  rw[cj] at cj2
  cases ci2
  cases cj2
  obtain⟨v',q1,r1⟩:=r.val i' s e1'
  obtain⟨w',q2,r2⟩:=r.val j' u e2'
  rw[h1'] at q1
  rw[h2'] at q2
  cases q1
  cases q2
  rw[(keep s v r1).2,(keep u w r2).2]
  refine r.ne i' j' s u v w (fun z=>?_) e1' e2' o1 o2 h1' h2'
  subst z
  obtain⟨l1,m1⟩:=y0k.mp ci
  obtain⟨l2,m2⟩:=y0k.mp cj
  have ne:i - n≠j - n:=by omega
  rcases Nat.lt_or_gt_of_ne ne with q|q
  ·exact (List.pairwise_iff_getElem.mp nd _ _ l1 l2 q) (m1.trans m2.symm)
  ·exact (List.pairwise_iff_getElem.mp nd _ _ l2 l1 q) (m2.trans m1.symm)
 ·have nd:a≠D:=by
   rintro rfl
   rw[z03] at h
   cases h
  rw[z02 nd] at h
  exact⟨r.fr a h,nd⟩
end
section
variable [Tbl]
structure CompOk (X:Cx) (scope:Scope) (own:List Str) (caps:List (Nat×Str)):Prop where
 kind:scope.kind=.function
 names:∀y∈scope.names,y.2=.local->scope.names.lookup y.1=some .local
 cell:∀y∈scope.names,y.2≠.cell
 free:∀y∈scope.names,y.2=.free->X.env.kindOf y.1=some .cell\/X.env.kindOf y.1=some .free
 cap:∀p∈caps,X.N[p.1]?=some p.2/\scope.names.lookup p.2=some .free
 nd:(caps.map (·.1)).Nodup
 calm:X.calm=true
section
variable {X:Cx} {tg iter elt:Expr} {ifs:List Expr} {scope:Scope} {it:Fi} {gg:Fg} {cc:Ft} {ee:Fe} {pos:Pos} {own:List Str} {caps:List (Nat×Str)}
theorem zfg {pins:List (Addr×Obj)} {σ:L2.St} {H2:Hp} {s2:y04} {fp:List Addr} (S:CompOk X scope own caps) (I2:L2.Inv X pins σ H2 s2) (f2:∀b∈fp,FpOk X pins H2 b) (hfp:∀b∈fp,b<s2.heap.objs.size) (N':List Str) :
  (z1o X N' scope (clos X.env scope.names []) (s2.heap.push { cls:=.type "list",data:=.seq ([]:List Value).toArray }).objs.size { s2 with heap:=s2.heap.push { cls:=.type "list",data:=.seq ([]:List Value).toArray } } (upd H2 s2.heap.objs.size (.lst [])) fp (X.pn++pins)).Ok:=by
 have hcl:∀x∈scope.names,x.2=.free->∃c,X.env.cells.lookup x.1=some c:=fun x hx hk=>I2.ok.has x.1 (S.free x hx hk)
 have cf:∀x c,(clos X.env scope.names []).lookup x=some c->X.env.cells.lookup x=some c:=z2y hcl (fun x c e=>by simp at e)
 have I3:=I2.lnew (its:=[]) (ys:=[]) (t':=s2.toks) .nil (y1z _)
 have sz:(s2.heap.push { cls:=.type "list",data:=.seq ([]:List Value).toArray }).objs.size=s2.heap.objs.size+1:=Heap.size_push ..
 refine⟨I2.ok.mod,S.kind,I2.ok.glob,I2.ok.blt,y0o _,fun x y c e1 e2=>I2.ok.inj x y c (cf x c e1) (cf y c e2),fun x hx=>?_,fun x c h=>(by cases h),I2.ok.hd,I2.ok.frames,.inl rfl,fun b hb=>⟨?_,fun x c e=>(f2 b hb).2.2.2.2.1 x c (cf x c e)⟩,fun b o e=>?_,?_,fun b o e hb=>?_,fun b hb hf=>?_,I3.stack,I3.stkFree⟩
 ·exact z2t (.inl (z91 S.cell hx))
 ·show b≠(s2.heap.push { cls:=.type "list",data:=.seq ([]:List Value).toArray }).objs.size
  have h:=hfp b hb
  rw[sz]
  exact y0y (Nat.lt_succ_of_lt h)
 ·obtain⟨h1,h2⟩:=I3.bs b o e
  exact⟨h1,h2⟩
 ·have h1:=y1l I2.ok.bsz I2.sz
  show X.base.objs.size<=(s2.heap.push { cls:=.type "list",data:=.seq ([]:List Value).toArray }).objs.size
  omega
 ·rcases (f2 b hb).2.2.2.1 with q|q
  ·exact I2.ok.noex b o e q
  ·exact absurd (y0x (y0c (I2.ok.bs b o e).1) q) (Nat.lt_irrefl _)
 ·rcases y09.mp (I2.stkSub b hf) with q|q
  ·exact (f2 b hb).2.1 q
  ·exact (f2 b hb).2.2.1 q
theorem zhj {pins:List (Addr×Obj)} {σ:L2.St} {H2:Hp} {s2:y04} {fp:List Addr} (S:CompOk X scope own caps) (I2:L2.Inv X pins σ H2 s2) (f2:∀b∈fp,FpOk X pins H2 b) (hfp:∀b∈fp,b<s2.heap.objs.size) {h₁:Heap} {m:Str->Option Value} {tk:Nat}
  (hns:h₁.Ns (s2.heap.push { cls:=.type "list",data:=.seq ([]:List Value).toArray }).objs.size m) (keep:∀b u,(s2.heap.push { cls:=.type "list",data:=.seq ([]:List Value).toArray }).get? b=some u->h₁.get? b=some u) :
  L2.Inv (z1o X (own++caps.map (·.2)) scope (clos X.env scope.names []) (s2.heap.push { cls:=.type "list",data:=.seq ([]:List Value).toArray }).objs.size { s2 with heap:=s2.heap.push { cls:=.type "list",data:=.seq ([]:List Value).toArray } } (upd H2 s2.heap.objs.size (.lst [])) fp (X.pn++pins)) []
   (zhm own.length (caps.map (·.1)) σ) (upd H2 s2.heap.objs.size (.lst [])) { s2 with heap:=h₁,toks:=tk }:=by
 have hcl:∀x∈scope.names,x.2=.free->∃c,X.env.cells.lookup x.1=some c:=fun x hx hk=>I2.ok.has x.1 (S.free x hx hk)
 have cf:∀x c,(clos X.env scope.names []).lookup x=some c->X.env.cells.lookup x=some c:=z2y hcl (fun x c e=>by simp at e)
 have I3:=I2.lnew (its:=[]) (ys:=[]) (t':=s2.toks) .nil (y1z _)
 refine⟨zfg S I2 f2 hfp _,rfl,I2.bare,Un.kept keep,⟨m,hns,fun i x v h1 h2 hv=>?_⟩,fun x c e=>?_,?_,fun x c e=>I3.freeC x c (cf x c e),fun p hp=>?_,I3.hok.kept keep,by simp[zhm,z1o]⟩
 ·obtain⟨j,hn,hc,hj⟩:=z58 (l:=σ) h2
  have hx:(caps.map (·.2))[i - own.length]?=some x:=by
   have:(own++caps.map (·.2))[i]?=some x:=h1
   rwa [y1i hn] at this
  rw[y14] at hc hx
  cases ep:caps[i - own.length]? with
  | none=>rw[ep] at hc;cases hc
  | some p =>
   rw[ep] at hc hx
   cases hc
   cases hx
   obtain⟨hN,hf⟩:=S.cap p (y1q ep)
   obtain⟨y,hy,k1,k2⟩:=z0s hf
   have hk:=S.free y hy k1
   rw[k2] at hk
   obtain⟨m3,hn3,hl3⟩:=I3.loc
   have vis:Vis X.env.scope p.2:=by
    rcases hk with hk|hk
    ·exact .inr (.inl hk)
    ·exact .inr (.inr hk)
   obtain⟨u,ru,lu⟩:=hl3 p.1 p.2 v hN hj vis
   refine⟨u,ru,.inr ⟨?_,?_⟩⟩
   ·obtain⟨k',e1,e2⟩:=z46 (env:=X.env) hf
    rcases e2 with rfl|⟨_,rfl⟩
    ·exact .inr e1
    ·exact .inl e1
   ·rcases lu with ⟨q,_⟩|⟨_,c,hc,hcell⟩
    ·rcases hk with hk|hk
     ·rw[hk] at q;cases q
     ·rw[hk] at q;cases q
    ·obtain⟨c',hc'⟩:=z2t (env:=X.env) (l:=scope.names) (cs:=[]) (x:=p.2) (.inl ⟨y,hy,k1,k2⟩)
     have:=cf _ _ hc'
     rw[hc] at this
     cases this
     obtain⟨oc,ho,hd⟩:=hcell
     exact⟨c,hc',oc,keep _ _ ho,hd⟩
 ·obtain⟨v,oc,ho,hd⟩:=I3.cell x c (cf x c e)
  exact⟨v,oc,keep _ _ ho,hd⟩
 ·exact I3.hok.fresh (y0o _)
 ·have hp':p∈X.pn++pins:=by simpa [z1o] using hp
  obtain⟨h1,h2,h3,h4,h5⟩:=I3.pin p hp'
  refine⟨keep _ _ h1,h2,y0y (y0c h1),fun z=>?_,h5⟩
  rcases y09.mp (I2.stkSub p.1 z) with q|q
  ·exact h3 q
  ·exact h4 q
theorem zcu {pins:List (Addr×Obj)} {σ σ':L2.St} {H2 H':Hp} {s2 s':y04} {fp:List Addr} {N':List Str} (I2:L2.Inv X pins σ H2 s2) (f2:∀b∈fp,FpOk X pins H2 b)
  (J:L2.Inv (z1o X N' scope (clos X.env scope.names []) (s2.heap.push { cls:=.type "list",data:=.seq ([]:List Value).toArray }).objs.size { s2 with heap:=s2.heap.push { cls:=.type "list",data:=.seq ([]:List Value).toArray } } (upd H2 s2.heap.objs.size (.lst [])) fp (X.pn++pins)) [] σ' H' s')
  {h':Heap} (sb:Heap.SameBut (s2.heap.push { cls:=.type "list",data:=.seq ([]:List Value).toArray }).objs.size s'.heap h'):L2.Inv X pins σ H' { s' with heap:=h' }:=by
 have I3:=I2.lnew (its:=[]) (ys:=[]) (t':=s2.toks) .nil (y1z _)
 have u:=J.base
 have free:H' (s2.heap.push { cls:=.type "list",data:=.seq ([]:List Value).toArray }).objs.size=none:=J.free
 have old:∀b o,(s2.heap.push { cls:=.type "list",data:=.seq ([]:List Value).toArray }).get? b=some o->b≠(s2.heap.push { cls:=.type "list",data:=.seq ([]:List Value).toArray }).objs.size:=fun b o e=>y0y (y0c e)
 have eqh:∀b,b≠(s2.heap.push { cls:=.type "list",data:=.seq ([]:List Value).toArray }).objs.size->∀o,s'.heap.get? b=some o->h'.get? b=some o:=fun b hb o e=>sb.extBut b o hb e
 have u2:Un (frs X.stack) fp (upd H2 s2.heap.objs.size (.lst [])) H' (s2.heap.push { cls:=.type "list",data:=.seq ([]:List Value).toArray }) h':=by
  refine⟨fun b o e n hf hx=>eqh b (old b o e) _ (u.keep b o e n hf hx),fun b o e n hf hx=>?_,u.free,fun b o e hx=>?_,u.tups,u.frzs,u.tbls⟩
  ·obtain⟨sl,q⟩:=u.slot b o e n hf hx
   exact⟨sl,eqh b (old b o e) _ q⟩
  ·obtain⟨o',q⟩:=u.there b o e hx
   exact⟨o',eqh b (old b o e) _ q⟩
 have hok:HOk X.prog X.w H' h':=fun b o e=>by
  refine (J.hok b o e).stay (fun c v hc q=>eqh c (fun z=>?_) v q) (fun _ q=>q) fun _ _ q=>q
  rcases hc with rfl|hc
  ·rw[z,free] at e
   cases e
  ·rw[z,free] at hc
   cases hc
 have hos:=J.os
 have hbare:=J.bare
 obtain⟨hh,g,d,t,os⟩:=s'
 obtain rfl:os=s2.os:=hos
 have fin:=I3.call (h':=h') (g':=g) (d':=d) (t':=t) (ch:=fp) u2 hok hbare fun b hb=>⟨(f2 b hb).2.2.2.1,(f2 b hb).2.1,(f2 b hb).2.2.2.2.1,(f2 b hb).2.2.2.2.2⟩
 exact fin
theorem zfh {X':Cx} {R:Result->y04->Prop} {J:It} {fp:List Addr} {it' D:Addr} {tn:Nat->Heap->Prop} {F₀ O F1:Addr->Prop} {H₀:En} {H2:Hp} {ts ys:List T} (hx:X'.xe=fun _ _=>False) (hc:X'.calm=true) (hg:PGt X' tg gg) (ht:PTs X' ifs cc) (he:PEv X' elt ee)
  (T:Turn X'.prog X'.w X'.K tg J fp it' tn) (stat:∀H':Hp,(∀b∈fp,H' b=none)->∀b∈fp,FpOk X' [] H' b) (ok:ItOk X'.K J F1 H2 ts) (hbig:ts.length<=big) (hD2:H2 D=none) (hO:¬O D) (hH0:H₀.h D=none)
  (fin:∀σ' H' F' s1 vs,L2.Inv X' [] σ' H' s1->Ext F1 H2 F' H'->H' D=some (.lst vs)->¬F' D->RepL X'.K F' H' ys vs->R (.ok .next) s1)
  {s:y04} {σ:L2.St} {H:Hp} {F:Addr->Prop} {ε:Ev} (I:L2.Inv X' [] σ H s) (st:tn 0 s.heap) (fr:∀b∈fp,H b=none) (x:Ext F1 H2 F H) (r:RelE X'.K F₀ H₀ O F H ε σ) (hD:H D=some (.lst [])) (nD:¬F D) (ey:z2o gg cc ee ts ε=some ys) :
  codeAny (model X'.prog X'.w) X'.A (.compLoop (.ListComp elt [⟨tg,iter,ifs,0⟩] scope pos) 0 (.ref it') (.ref D) X'.env) R s:=by
 refine z9r (fun n s'=>∃i σ' H' F' ε' dn vs,n=ts.length - i/\i<=ts.length/\L2.Inv X' [] σ' H' s'/\tn i s'.heap/\(∀b∈fp,H' b=none)/\Ext F1 H2 F' H'/\RelE X'.K F₀ H₀ O F' H' ε' σ'/\H' D=some (.lst vs)/\¬F' D/\RepL X'.K F' H' dn vs/\dn.length<=i /\
  ∃rest,z2o gg cc ee (ts.drop i) ε'=some rest/\ys=dn++rest) ?_ ts.length ⟨0,σ,H,F,ε,[],[],rfl,y1z _,I,st,fr,x,r,hD,nD,RepL.nil,y0o _,ys,by simpa using ey,by simp⟩
 rintro n s3 ⟨i,σ3,H3,F3,ε3,dn,vs,rfl,hi,I3,st3,fr3,x3,r3,hD3,nD3,q3,hl3,rest,er,es⟩
 have nf:∀{F4:Addr->Prop} {H4:Hp} {F5:Addr->Prop} {H5:Hp} {o:HO},Ext F4 H4 F5 H5->H4 D=some o->¬F4 D->¬F5 D:=fun y e n z=>by
  rcases y.new D z with q|q
  ·exact n q
  ·rw[e] at q
   cases q
 by_cases hlt:i<ts.length
 ·have hd:ts.drop i=ts[i]::ts.drop (i+1):=List.drop_eq_getElem_cons hlt
  have hg':ts[i]?=some ts[i]:=y0v hlt
  rw[hd] at er
  simp only[z2o,y01] at er
  obtain⟨ε4,eg,b,eb,er⟩:=er
  refine y1c (T.item X' rfl rfl rfl hc i [] s3 σ3 H3 (fun _ _=>False) I3 (stat H3 fr3) st3 (ok.go i F3 H3 _ x3.kp r3.dom hg')) (fun rv s4 ⟨u,hr,h4⟩=>?_) fun _ _ z=>z
  subst hr
  refine y1c h4 (fun _ s5 ⟨x',H5,I5,r5,y5,st5,fr5⟩=>?_) fun _ _ z=>z
  obtain⟨F5,x5,rx⟩:=ok.yld i F3 H3 _ x' H5 x3.kp r3.dom hg' y5
  have I5':=I5.pinned (stat H5 fr5) (T.obj _ _ st5)
  have hg2:=hg _ s5 σ3 H5 x' u (fun σ6 H6=>H6=H5/\RelE X'.K F₀ H₀ O F5 H5 ε4 σ6) I5' r5 ⟨F₀,H₀,O,F5,ε3,_,ε4,r3.ext x5,rx,eg,fun σ6 r6=>⟨rfl,r6⟩⟩
  rw[hx] at hg2
  refine y1c hg2 (fun _ s6 ⟨σ6,H6,I6,e6,r6⟩=>?_) fun _ _ z=>z
  subst e6
  have again:∀{σ7:L2.St} {H7:Hp} {s7:y04},L2.Inv X' ([]++z95 fp s5.heap) σ7 H7 s7->tn (i+1) s7.heap/\(∀b∈fp,H7 b=none)/\L2.Inv X' [] σ7 H7 s7:=fun {σ7 H7 s7} I7=>by
   refine⟨T.keep _ _ _ st5 fun b hb o e=>(I7.pin (b,o) (y19 _ (y19 _ (z3y hb e)))).1,fun b hb=>?_,I7.unpinned⟩
   obtain⟨o,e,d⟩:=T.obj _ _ st5 b hb
   exact (I7.pin (b,o) (y19 _ (y19 _ (z3y hb e)))).2.1
  have ht2:=ht _ s6 σ6 H6 (fun b' H7=>b'=b/\∃F7,Ext F5 H6 F7 H7) I6 ⟨F₀,H₀,O,F5,ε4,b,r6,eb,fun F7 H7 x7=>⟨rfl,F7,x7⟩⟩
  rw[hx] at ht2
  refine y1c ht2 (fun ok' s7 ⟨H7,I7,e7,F7,x7⟩=>?_) fun _ _ z=>z
  subst e7
  have x37:=x5.trans x7
  have r7:=r6.ext x7
  cases ok' with
  | false =>
   simp only[y1p,if_false] at er ⊢
   obtain⟨a1,a2,a3⟩:=again I7
   exact⟨_,by omega,i+1,σ6,H7,F7,ε4,dn,vs,rfl,hlt,a3,a1,a2,x3.trans x37,r7,x37.same.get hD3,nf x37 hD3 nD3,q3.ext x37,by omega,rest,er,es⟩
  | true =>
   simp only[if_true,y01,y07] at er ⊢
   obtain⟨y,ey',rest',er',rfl⟩:=er
   have he2:=he _ s7 σ6 H7 (fun v H8=>∃F8,Ext F7 H7 F8 H8/\Rep X'.K F8 H8 y v) I7 ⟨F₀,H₀,O,F7,ε4,y,r7,ey',fun v F8 H8 x8 q8=>⟨F8,x8,q8⟩⟩
   rw[hx] at he2
   refine y1c he2 (fun u8 s8 ⟨v8,H8,I8,r8,F8,x8,q8⟩=>?_) fun _ _ z=>z
   have x38:=x37.trans x8
   have hD8:=x38.same.get hD3
   have nD8:=nf x38 hD3 nD3
   obtain⟨kp9,r9⟩:=(r7.ext x8).other (ys:=vs++[v8]) nD8 hO hH0 hD8
   have ha:=z9c (X:=X') _ s8 σ6 H8 (.ref D) [v8] (.ref D) [u8] (fun _ H9=>H9=upd H8 D (.lst (vs++[v8]))) I8 rfl (.cons r8 .nil) ⟨D,vs,v8,rfl,rfl,hD8,by rw[z5t,<- q3.length];omega,rfl⟩
   rw[hx] at ha
   refine y1c ha (fun u9 s9 ⟨v9,H9,I9,r9',e9⟩=>?_) fun _ _ z=>z
   subst e9
   obtain⟨a1,a2,a3⟩:=again I9
   have x9:Ext F1 H2 F8 (upd H8 D (.lst (vs++[v8]))):=by
    have y:=x3.trans x38
    refine⟨fun b o e=>?_,y.sub,y.new,⟨fun b f=>?_,y.dom.tgs.upd fun u e=>.inl ⟨_,y28 (e.symm.trans hD8)⟩⟩⟩
    ·have nb:b≠D:=by
      rintro rfl
      rw[hD2] at e
      cases e
     rw[z02 nb]
     exact y.same b o e
    ·have nb:b≠D:=by
      rintro rfl
      exact nD8 f
     rw[z02 nb]
     exact y.dom b f
   refine⟨_,by omega,i+1,σ6,_,F8,ε4,dn++[y],vs++[v8],rfl,hlt,a3,a1,a2,x9,r9,z03,nD8,((q3.ext x38).append (RepL.cons q8 RepL.nil)).kp kp9,by simp;omega,rest',er',by rw[es];simp⟩
 ·have hd:ts.drop i=[]:=List.drop_eq_nil_of_le (by omega)
  rw[hd] at er
  cases er
  refine y1c (T.done X' rfl rfl rfl hc i [] s3 σ3 H3 (fun _ _=>False) I3 (stat H3 fr3) st3 (ok.stop i F3 H3 x3.kp (by omega))) (fun rv s4 ⟨hr,I4⟩=>?_) fun _ _ z=>z
  subst hr
  exact fin σ3 H3 F3 s4 vs I4 x3 hD3 nD3 (by rw[es,y1u];exact q3)
structure After (X:Cx) (pins:List (Addr×Obj)) (σ:L2.St) (F:Addr->Prop) (H:Hp) (ys:List T) (D C:Addr) (H':Hp) (F':Addr->Prop) (s1:y04) (vs:List V):Prop where
 inv:∀h',Heap.SameBut C s1.heap h'->L2.Inv X pins σ H' { s1 with heap:=h' }
 ns:∃m,s1.heap.Ns C m
 free:H' C=none
 above:X.s₀.heap.objs.size<=C
 cells:∀x c,X.env.cells.lookup x=some c->c≠C
 pin:∀p∈X.pn++pins,p.1≠C
 loc:C≠X.env.locals
 new:H D=none
 ext:Ext F H F' H'
 nf:¬F' D
 lst:H' D=some (.lst vs)
 rep:RepL X.K F' H' ys vs
theorem zc2 {use:Option (Value->Sem Unit)} {Q:Value->y04->Prop} {p2:Pos} (S:CompOk X scope own caps) (hi:PIt X tg iter it)
  (hg:∀cl C s₀ H₀ fp pn,PGt (z1o X (own++caps.map (·.2)) scope cl C s₀ H₀ fp pn) tg gg)
  (ht:∀cl C s₀ H₀ fp pn,PTs (z1o X (own++caps.map (·.2)) scope cl C s₀ H₀ fp pn) ifs cc)
  (he:∀cl C s₀ H₀ fp pn,PEv (z1o X (own++caps.map (·.2)) scope cl C s₀ H₀ fp pn) elt ee)
  (hs:∀x,foldedSetIterable iter X.env x=pure x) {pins:List (Addr×Obj)} {s:y04} {σ:L2.St} {H:Hp} {F₀ O F:Addr->Prop} {H₀:En} {ε:Ev} {ys:List T} (I:L2.Inv X pins σ H s) (r:RelE X.K F₀ H₀ O F H ε σ)
  (e:comp own.length (caps.map (·.1)) it gg cc ee ε=some (.list ys)) (fin:∀D C H' F' s1 vs,After X pins σ F H ys D C H' F' s1 vs->compPost (model X.prog X.w) X.A X.xe use Q (.ref D) C (.ok .next) s1) :
  y0u (model X.prog X.w) X.A (comprehension (.ListComp elt [⟨tg,iter,ifs,0⟩] scope pos) scope X.env p2 (newList []) false (eval iter X.env) use) Q X.xe s:=by
 simp only[comp,y01] at e
 obtain⟨ts,et,e⟩:=e
 split at e
 case isFalse=>cases e
 next hbig =>
 simp only[y07] at e
 obtain⟨ys',ey,e⟩:=e
 cases e
 have hcl:∀x∈scope.names,x.2=.free->∃c,X.env.cells.lookup x.1=some c:=fun x hx hk=>I.ok.has x.1 (S.free x hx hk)
 refine wpAny_comprehension_free rfl hs (z29 hcl) S.kind S.names (thn (hi pins s σ H (fun J H1=>∃F1,Ext F H F1 H1/\ItOk X.K J F1 H1 ts) I ⟨F₀,H₀,O,F,ε,ts,r,et,fun J F1 H1 x1 ok=>⟨F1,x1,ok⟩⟩) fun v s1 h1=>thn h1 fun itv s2 h2=>?_)
 obtain⟨it',fp,tn,J,H2,rfl,I2,T,st2,f2,F1,x1,ok⟩:=h2
 have hfp:∀b∈fp,b<s2.heap.objs.size:=fun b hb=>by
  obtain⟨o,ho,_⟩:=T.obj 0 _ st2 b hb
  exact y0c ho
 have hD2:H2 s2.heap.objs.size=none:=I2.fresh
 have hD:H s2.heap.objs.size=none:=x1.same.none hD2
 have sz:(s2.heap.push { cls:=.type "list",data:=.seq ([]:List Value).toArray }).objs.size=s2.heap.objs.size+1:=Heap.size_push ..
 refine wpAny_newList ?_ (y1z _)
 refine wpAny_newFunctionEnv S.cell (by intro y hy;simp at hy) (fun h₁ hns₁ hsb₁=>?_) S.kind
 have keep:∀b u,(s2.heap.push { cls:=.type "list",data:=.seq ([]:List Value).toArray }).get? b=some u->h₁.get? b=some u:=fun b u e=>hsb₁.extBut b u (y0y (y0c e)) (y03 _ e)
 have I4:=zhj (tk:=s2.toks+0) S I2 f2 hfp hns₁ keep
 have r4:=(r.ext x1).cap (D:=s2.heap.objs.size) own.length S.nd hD2
 refine codeAny_compStart_list ?loop (T.self _ 0 _ _ _ (T.keep 0 _ _ st2 fun b hb o e=>keep b o (y03 _ e)) ?loop)
 refine zfh (X':=z1o X (own++caps.map (·.2)) scope (clos X.env scope.names []) (s2.heap.push { cls:=.type "list",data:=.seq ([]:List Value).toArray }).objs.size { s2 with heap:=s2.heap.push { cls:=.type "list",data:=.seq ([]:List Value).toArray } } (upd H2 s2.heap.objs.size (.lst [])) fp (X.pn++pins))
  rfl S.calm (hg _ _ _ _ _ _) (ht _ _ _ _ _ _) (he _ _ _ _ _ _) T (fun H' hn b hb=>?_) ok hbig hD2 (fun z=>z.2 rfl) (r.o0 _ (r.fr _ hD)) (fun σ' H' F' s1 vs J1 x' hD' nD' q'=>?_) I4 (T.keep 0 _ _ st2 fun b hb o e=>keep b o (y03 _ e)) (fun b hb=>?_) (Ext.laid x1.dom hD2) r4 z03 ?_ ey
 ·have okX:=zfg S I2 f2 hfp (own++caps.map (·.2))
  refine⟨hn b hb,(okX.exf b hb).1,okX.exfs b hb,.inl hb,fun x c e=>(okX.exf b hb).2 x c e,fun p hp=>?_⟩
  have hp':p∈X.pn++pins:=by simpa [z1o] using hp
  exact (f2 b hb).2.2.2.2.2 p hp'
 ·obtain⟨m,hn,_⟩:=id J1.loc
  refine fin s2.heap.objs.size _ H' F' s1 vs ⟨fun h' sb=>zcu I2 f2 J1 sb,⟨m,hn⟩,J1.free,?_,fun x c e z=>?_,fun p hp z=>?_,?_,hD,x1.trans x',nD',hD',q'⟩
  ·rw[sz]
   exact Nat.le_succ_of_le I2.sz
  ·obtain⟨v,q⟩:=I2.cell x c e
   have:=q.lt
   rw[z,sz] at this
   exact absurd this (Nat.not_lt.mpr (Nat.le_succ _))
  ·have:=y0c (I2.pin p hp).1
   rw[z,sz] at this
   exact absurd this (Nat.not_lt.mpr (Nat.le_succ _))
  ·have:=I2.lt
   rw[sz]
   exact y15 (Nat.lt_succ_of_lt this)
 ·have:=(f2 b hb).1
  rw[z02 (y0y (hfp b hb))]
  exact this
 ·intro z
  obtain⟨o,e⟩:=x1.dom _ z
  rw[hD2] at e
  cases e
theorem zla (S:CompOk X scope own caps) (hi:PIt X tg iter it)
  (hg:∀cl C s₀ H₀ fp pn,PGt (z1o X (own++caps.map (·.2)) scope cl C s₀ H₀ fp pn) tg gg)
  (ht:∀cl C s₀ H₀ fp pn,PTs (z1o X (own++caps.map (·.2)) scope cl C s₀ H₀ fp pn) ifs cc)
  (he:∀cl C s₀ H₀ fp pn,PEv (z1o X (own++caps.map (·.2)) scope cl C s₀ H₀ fp pn) elt ee)
  (hs:∀x,foldedSetIterable iter X.env x=pure x:=by intro _;rfl):PEn X (.ListComp elt [⟨tg,iter,ifs,0⟩] scope pos) (comp own.length (caps.map (·.1)) it gg cc ee):=by
 intro pins s σ H Q I ⟨F₀,H₀,O,F,ε,ys,r,e,k⟩
 rw[eval_ListComp]
 refine zc2 S hi hg ht he hs I r e fun D C H' F' s1 vs a=>?_
 obtain⟨m,hn⟩:=a.ns
 exact⟨m,hn,fun h' sb=>⟨.ref D,H',a.inv h' sb,rfl,k D vs F' H' a.ext a.new a.nf a.lst a.rep⟩⟩
theorem z9p {ε:Ev} {n:Nat} {cs:List Nat} {t:T} (e:comp n cs it gg cc ee ε=some t):∃ts,t=.list ts:=by
 simp only[comp,y01] at e
 obtain⟨ts,_,e⟩:=e
 split at e
 ·simp only[y07] at e
  obtain⟨ys,_,e⟩:=e
  exact⟨ys,e.symm⟩
 ·cases e
theorem zal (S:CompOk X scope own caps) (hi:PIt X tg iter it)
  (hg:∀cl C s₀ H₀ fp pn,PGt (z1o X (own++caps.map (·.2)) scope cl C s₀ H₀ fp pn) tg gg)
  (ht:∀cl C s₀ H₀ fp pn,PTs (z1o X (own++caps.map (·.2)) scope cl C s₀ H₀ fp pn) ifs cc)
  (he:∀cl C s₀ H₀ fp pn,PEv (z1o X (own++caps.map (·.2)) scope cl C s₀ H₀ fp pn) elt ee)
  (hs:∀x,foldedSetIterable iter X.env x=pure x:=by intro _;rfl):PEv X (.ListComp elt [⟨tg,iter,ifs,0⟩] scope pos) (comp own.length (caps.map (·.1)) it gg cc ee) :=
 n2v (zla S hi hg ht he hs) fun ε t e=>z9p e
theorem zdn (i:Nat) {x:Str} {px spos:Pos} (hN:X.N.Nodup) (S:CompOk X scope own caps) (hit:PIt X tg iter it)
  (hg:∀cl C s₀ H₀ fp pn,PGt (z1o X (own++caps.map (·.2)) scope cl C s₀ H₀ fp pn) tg gg)
  (ht:∀cl C s₀ H₀ fp pn,PTs (z1o X (own++caps.map (·.2)) scope cl C s₀ H₀ fp pn) ifs cc)
  (he:∀cl C s₀ H₀ fp pn,PEv (z1o X (own++caps.map (·.2)) scope cl C s₀ H₀ fp pn) elt ee)
  (hi:X.N[i]?=some x:=by rfl) (hx:Loc X.env.scope x:=by first|exact Or.inl rfl|exact Or.inr rfl)
  (hsw:swapsWith (.ListComp elt [⟨tg,iter,ifs,0⟩] scope pos) (some (.Name x px)) spos.line X.env=pure true:=by rfl)
  (hf:X.fn x=true\/X.env.scope.names.lookup x=some .local:=by first|exact .inl rfl|exact .inr rfl)
  (hs:∀x,foldedSetIterable iter X.env x=pure x:=by intro _;rfl) :
  PSt X (.Assign [.Name x px] (.ListComp elt [⟨tg,iter,ifs,0⟩] scope pos) spos) (asg i (comp own.length (caps.map (·.1)) it gg cc ee)):=by
 intro pins s σ H D I ⟨F₀,H₀,O,F,ε,o,r,e,k⟩
 simp only[asg,y07] at e
 obtain⟨t,et,rfl⟩:=e
 obtain⟨ys,rfl⟩:=z9p et
 rw[exec_Assign_Name_used _ _ _ _ hsw]
 refine y02 (wpAny_standAt (y02 ?_))
 show y0u _ X.A (do let _ <- comprehension (.ListComp elt [⟨tg,iter,ifs,0⟩] scope pos) scope X.env _ (newList []) false (eval iter X.env) (some (assign (.Name x px) X.env))) _ _ s
 refine y02 (thn (zc2 (use:=some (assign (.Name x px) X.env)) (Q:=fun _ s'=>SP X pins D .next s') S hit hg ht he hs I r et fun D' C H' F' s1 vs a=>?_) fun _ s' hq=>y06 (y06 hq))
 have IX:=a.inv s1.heap (Heap.SameBut.refl ..)
 have IX':L2.Inv X pins σ H' s1:=IX
 show y0u _ X.A (assign (.Name x px) X.env (.ref D')) _ _ _
 refine wpAny_assign_Name (z8r (v:=.ref D') IX' hN hi hx rfl (fun s2 I2 ⟨b,sb,hb⟩=>?_) hf)
 obtain⟨m,hn⟩:=a.ns
 have nb:C≠b:=by
  rcases hb with rfl|hb
  ·exact a.loc
  ·exact (a.cells x b hb).symm
 refine⟨m,hn.sameBut sb nb,fun h' sb'=>?_⟩
 have I3:L2.Inv X pins (σ.set i (some (.ref D'))) H' { s2 with heap:=h' }:=I2.turned (t':=s2.toks) (it:=C) (fun b o hb e=>sb'.extBut b o hb e) a.free a.loc (.inr a.above) a.cells a.pin
 refine⟨_,H',I3,?_⟩
 have y:Ext F H (fun b=>F' b\/b=D') H':=⟨a.ext.same,fun b z=>.inl (a.ext.sub b z),fun b z=>by
  rcases z with z|rfl
  ·exact a.ext.new b z
  ·exact .inr a.new,⟨fun b z=>by
  rcases z with z|rfl
  ·exact a.ext.dom b z
  ·exact⟨_,a.lst⟩,a.ext.dom.tgs⟩⟩
 refine k _ _ H' y.kp ((r.ext y).set i ?_)
 simp only[Rep]
 exact⟨D',vs,rfl,.inr rfl,.inl a.lst,a.rep.keep (fun _ _ z=>z) fun b _ z w=>⟨.inl z,w⟩⟩
end
end
section
variable [Tbl]
open AutoSeq1 (wpAny_loadPart')
theorem z43 (l:Addr) (items:Array Value) (n:Nat) (dct:Option Addr) (sl:Array (Option Value)) :
  Meets (Builtin.«enumerate.__new__» ⟨[.type "enumerate",.ref l],[]⟩) (fun _ R s=>s.heap.get? l=some { cls:=.type "tuple",dict:=dct,data:=.seq items n,slots:=sl } /\
   R (.ok (.ret (.ref (s.heap.push { cls:=.type "tuple_iterator",data:=.fields #[.ref l,.int 0 0] }).objs.size)))
    { s with heap:=(s.heap.push { cls:=.type "tuple_iterator",data:=.fields #[.ref l,.int 0 0] }).push { cls:=.type "enumerate",data:=.fields #[.none,.bool false,.ref s.heap.objs.size,rawInt 0,.none,.none] } }) :=
 .of_wp fun prog w A R s h=>by
  obtain⟨hp,g,d,tk,os⟩:=s;obtain⟨hl,h⟩:=h
  have hsub:=sub_enumerate
  have hL:Heap.IsTuple (Shared.heap ⟨hp,g,d,tk,os⟩) l items:=⟨_,hl,rfl,n,rfl⟩
  wp_walk using wpAny_loadPart' hl
  refine wpAny_stack_any fun st=>y06 ?_
  split
  ·rename_i c _ _ _ _ _
   cases (c == Value.type "enumerate")
   ·wp_walk using wpAny_loadPart' hl,wpAny_pyIter_tuple hL
    exact⟨_,rfl,h⟩
   ·wp_walk using wpAny_loadPart' hl,wpAny_pyIter_tuple hL
    exact⟨_,rfl,h⟩
  ·wp_walk using wpAny_loadPart' hl,wpAny_pyIter_tuple hL
   exact⟨_,rfl,h⟩
section
variable {prog:y0q} {w:World} {A:Around} {E:Value->y04->Prop} {s:y04}
theorem z26 {l:Addr} {items:Array Value} {Q:Value->y04->Prop} (hL:s.heap.IsTuple l items)
  (h:∀h',IsEnum h' (s.heap.objs.size+1) s.heap.objs.size 0 .none->h'.IsTupleIter s.heap.objs.size l 0->h'.objs.size=s.heap.objs.size+2 ->
   (∀b o,s.heap.get? b=some o->h'.get? b=some o)->Q (.ref (s.heap.objs.size+1)) { s with heap:=h' }) :
  y0u (model prog w) A (call (.type "enumerate") [.ref l]) Q E s:=by
 obtain⟨⟨c,dct,dt,sl⟩,hl,hc,n,hd⟩:=hL
 replace hc:c=.type "tuple":=hc
 replace hd:dt=.seq items n:=hd
 subst hc hd
 refine callType_new F.called_enumerate (by decide) (F.typeCall_enumerate_1 _) (F.newCall_enumerate_1 _) (fun obj=>F.args_object_init_2 obj _) F.entry_enumerate_new
  (z43 l items n dct sl) ⟨hl,?_⟩
 have hz:(s.heap.push { cls:=.type "tuple_iterator",data:=.fields #[.ref l,.int 0 0] }).objs.size=s.heap.objs.size+1:=Heap.size_push ..
 show _/\_
 rw[hz]
 have he:IsEnum ((s.heap.push { cls:=.type "tuple_iterator",data:=.fields #[.ref l,.int 0 0] }).push
   { cls:=.type "enumerate",data:=.fields #[.none,.bool false,.ref s.heap.objs.size,rawInt 0,.none,.none] }) (s.heap.objs.size+1) s.heap.objs.size 0 .none:=by
  have:=y0l (s.heap.push { cls:=.type "tuple_iterator",data:=.fields #[.ref l,.int 0 0] })
   (o:={ cls:=.type "enumerate",data:=.fields #[.none,.bool false,.ref s.heap.objs.size,rawInt 0,.none,.none] }) rfl
  rw[hz] at this;exact this
 refine⟨⟨_,he,rfl⟩,h _ he ⟨_,y03 _ (y0l _ rfl),rfl,rfl⟩ (by rw[Heap.size_push,hz]) fun b o x=>y03 _ (y03 _ x)⟩
theorem z55 {it l:Addr} {i:Nat} {items} {x:Value} {Q:Value->y04->Prop} (hit:s.heap.IsTupleIter it l i)
  (hl:s.heap.IsTuple l items) (hx:items[i]?=some x)
  (hQ:∀h',h'.IsTupleIter it l (i+1)->Heap.SameBut it s.heap h'->Q x { s with heap:=h' }) :
  y0u (model prog w) A (y0t (.ref it)) Q E s:=by
 obtain⟨o,ho,hc,hd⟩:=id hit
 obtain⟨ol,hol,_,nl,hdl⟩:=hl
 unfold y0t
 refine y02 (wpAny_callSpecial?_slot (name:=Str.ofString "__next__") hit.typeIs y23
  (wpAny_call_entry y23 hit.typeIs F.entry_tuple_iterator_next ?_ (F.args_tuple_iterator_next_1 _)))
 show y0u _ _ (field (.ref it) 0 >>= _) _ _ s
 refine y02 (wpAny_field ho hd (x:=.ref l) rfl ?_)
 show y0u _ _ (if (Value.ref l == Value.none)=true then _ else _) _ _ s
 rw[if_neg (show ¬((Value.ref l == Value.none)=true) from y1y)]
 show y0u _ _ (field (.ref it) 1 >>= _) _ _ s
 refine y02 (wpAny_field ho hd (x:=.int i 0) rfl ?_)
 show y0u _ _ (seqItems? (.ref l) >>= _) _ _ s
 refine y02 (wpAny_seqItems hol hdl ?_)
 simp only[Int.toNat_natCast,hx]
 refine y02 (wpAny_setField ho hd (by simp) (y06 ⟨x,rfl,y06 (hQ _ ?_ (Heap.SameBut.update ..))⟩))
 exact⟨_,Heap.get?_update_self _ ho (Obj.isFreed_of_fields (Obj.data_mapFields hd _)),(Obj.cls_mapFields ..).trans hc,by
  rw[Obj.data_mapFields hd];simp[rawInt]⟩
theorem z3g {it l:Addr} {i:Nat} {items} {Q:Value->y04->Prop} (hh:A.handled=none)
  (hit:s.heap.IsTupleIter it l i) (hl:s.heap.IsTuple l items) (hx:items[i]?=none)
  (hE:∀h' e,Heap.ExtBut it s.heap h'->(∃o,h'.get? e=some o/\o.cls=.type "StopIteration")->E (.ref e) { s with heap:=h' }) :
  y0u (model prog w) A (y0t (.ref it)) Q E s:=by
 obtain⟨o,ho,hc,hd⟩:=id hit
 obtain⟨ol,hol,_,nl,hdl⟩:=hl
 unfold y0t
 refine y02 (wpAny_callSpecial?_slot (name:=Str.ofString "__next__") hit.typeIs y23
  (wpAny_call_entry y23 hit.typeIs F.entry_tuple_iterator_next ?_ (F.args_tuple_iterator_next_1 _)))
 show y0u _ _ (field (.ref it) 0 >>= _) _ _ s
 refine y02 (wpAny_field ho hd (x:=.ref l) rfl ?_)
 show y0u _ _ (if (Value.ref l == Value.none)=true then _ else _) _ _ s
 rw[if_neg (show ¬((Value.ref l == Value.none)=true) from y1y)]
 show y0u _ _ (field (.ref it) 1 >>= _) _ _ s
 refine y02 (wpAny_field ho hd (x:=.int i 0) rfl ?_)
 show y0u _ _ (seqItems? (.ref l) >>= _) _ _ s
 refine y02 (wpAny_seqItems hol hdl ?_)
 simp only[Int.toNat_natCast,hx]
 refine y02 (wpAny_rule (y02 (wpAny_setField ho hd (by simp) ?_)))
 show y0u _ _ (newExc (.type "StopIteration") [] >>= _) _ _ _
 refine y02 ?_
 simp only[newExc,newTuple]
 refine y02 (wpAny_newObj_type ?_ (by size_fits))
 refine y02 (m:=firstArgMember _ _) (wpAny_of_eq (a:=Value.none) (by first|rfl|(simp only[firstArgMember];rfl)) ?_)
 refine wpAny_newObj_type ?_ (by size_fits)
 simp only[raiseNew]
 refine y02 (wpAny_handled ?_)
 first|rw[show A.in1.handled=none from hh]|rw[hh]
 refine y02 (y06 (wpAny_throw ?_))
 exact hE _ _ (((Heap.SameBut.update ..).extBut.push _).push _) ⟨_,y0l _ rfl,rfl⟩
end
theorem zau {prog:y0q} {w:World} {A:Around} (hh:A.handled=none) (it l:Addr) (hne:l≠it) (items:Array Value) :
  Draws prog w A it [it,l] items.size (fun i v=>items[i]?=some v) (fun i h=>h.IsTupleIter it l i/\h.IsTuple l items) where
 live:=fun _ _ st=>let ⟨o,ho,_⟩:=st.1;⟨o,ho⟩
 frame:=fun _ _ _ st hk=>⟨st.1.at fun o e=>hk it (by simp) o e,let ⟨o,ho,r⟩:=st.2;⟨o,hk l (by simp) o ho,r⟩⟩
 item:=fun i s Q E hi st hQ=>by
  refine z55 st.1 st.2 (x:=items[i]) (by simp[hi]) fun h' hit' hs'=>?_
  exact hQ _ h' s.toks (by simp[hi]) ⟨hit',st.2.extBut hs'.extBut hne⟩ hs'
 done:=fun s Q E st hE=>z3g hh st.1 st.2 (by simp) hE
noncomputable def Ite (K:y00) (a:Addr):It :=
 ⟨fun i H=>∃xs x,SqT K H a xs/\xs[i]?=some x,fun i H x H'=>∃p v,H p=none/\x=.ref p/\H'=upd H p (.tup [.int i,v])/\∀xs,SqT K H a xs->xs[i]?=some v,fun i H=>∃xs,SqT K H a xs/\xs.length<=i⟩
theorem z8n {P:y0q} {w:World} {K:y00} {es:List Expr} {k:Nat} {pos:Pos} (a it e:Addr) (hne:e≠it) (hai:a≠it) (hae:a≠e):Turn P w K (.Tuple es k pos) (Ite K a) [e,it] e (fun i h=>(∃old,IsEnum h e it i old)/\h.IsTupleIter it a i) where
 mem:=by simp
 obj:=fun i h st b hb=>by
  obtain⟨⟨old,he⟩,o,ho,hc,hd⟩:=st
  rcases y09.mp hb with rfl|hb
  ·exact⟨_,he,fun v z=>by
    have z':Data.fields _=Data.cell v:=z
    cases z'⟩
  ·have e1:b=it:=by simpa using hb
   subst e1
   exact⟨o,ho,fun v z=>by rw[hd] at z;cases z⟩
 keep:=fun i h h' st kk=>by
  obtain⟨⟨old,he⟩,st2⟩:=st
  exact⟨⟨old,kk e (by simp) _ he⟩,st2.at fun o q=>kk it (by simp) o q⟩
 item:=by
  intro X hP hw hK hc i pins s σ H E I hf st hg
  subst hP hw hK
  obtain⟨xs,x,hq,hx⟩:=hg
  obtain⟨its,rv,p,hz⟩:=I.tuple hq
  obtain⟨u,hu,ru⟩:=rv.get hx
  obtain⟨⟨old,he⟩,hit⟩:=st
  obtain⟨f0,f1,f2,f3,f4,f5⟩:=hf e (by simp)
  obtain⟨g0,g1,g2,g3,g4,g5⟩:=hf it (by simp)
  have hi:i<its.toArray.size:=by
   rw[y0h]
   exact (y0k.mp hu).1
  have hnf:e∉[it,a]:=by
   intro z
   rcases y09.mp z with z|z
   ·exact hne z
   ·have z':e=a:=by simpa using z
    exact hae z'.symm
  refine wpAny_pyNext_enum_itemD (zau (A:=X.A.in1) (I.ok.hd hc) it a hai its.toArray) he ⟨hit,p⟩ hi hne hnf fun x' h' tk hP' ho hs' hT hsz hk=>?_
  have ex:x'=u:=by
   have:=hP'
   rw[<- Array.getElem?_toList] at this
   rw[show (its.toArray).toList=its from rfl,hu] at this
   exact (y28 this).symm
  subst ex
  refine⟨_,rfl,wpAny_letOwnedTupleGo_enum ho fun h2 he2 hs2=>?_⟩
  have helt:e<s.heap.objs.size:=y0c he
  have hilt:it<s.heap.objs.size:=by obtain⟨o,ho',_⟩:=hit;exact y0c ho'
  have k2:∀b o,b≠e->b≠it->s.heap.get? b=some o->h2.get? b=some o:=fun b o h1 h3 q=>hs2.extBut b o h1 (hk b o h1 h3 q)
  have fr:H s.heap.objs.size=none:=I.hok.fresh (y0o _)
  have hT2:h2.get? s.heap.objs.size=some { cls:=.type "tuple",data:=.seq #[.int i tk,x'] }:=hs2.extBut _ _ (y15 helt) hT
  have nH:∀b o,H b=some o->b≠e/\b≠it:=fun b o q=>⟨fun z=>(by rw[z,f0] at q;cases q),fun z=>(by rw[z,g0] at q;cases q)⟩
  have hok2:HOk X.prog X.w (upd H s.heap.objs.size (.tup [.int i,x])) h2:=by
   intro b o q
   by_cases hb:b=s.heap.objs.size
   ·subst hb
    rw[z03] at q
    cases q
    exact⟨by show 2<=y0j;decide,[.int i tk,x'],.cons ⟨tk,rfl⟩ (.cons ru .nil),⟨_,hT2,rfl,_,rfl⟩⟩
   ·rw[z02 hb] at q
    refine (I.hok b o q).stay (fun c v hc' q'=>k2 c v ?_ ?_ q') (fun c q'=>?_) fun c ys q'=>?_
    ·rcases hc' with rfl|hc'
     ·exact (nH _ _ q).1
     ·exact (nH _ _ hc').1
    ·rcases hc' with rfl|hc'
     ·exact (nH _ _ q).2
     ·exact (nH _ _ hc').2
    ·rw[z02 (z0a q' fr)]
     exact q'
    ·rw[z02 (z0a q' fr)]
     exact q'
  have I2:L2.Inv X pins σ (upd H s.heap.objs.size (.tup [.int i,x])) { s with heap:=h2,toks:=tk+1 }:=by
   refine I.step (g':=s.gens) (d':=s.drawn) (ch:=[e,it]) (fun b hb=>?_) (fun b o _ _ hc' q _=>k2 b o (fun z=>hc' (by simp[z])) (fun z=>hc' (by simp[z])) q) (fun b o _ _ hc' q _=>⟨o.slots,k2 b o (fun z=>hc' (by simp[z])) (fun z=>hc' (by simp[z])) q⟩) (fun b o _ q n=>?_)
    (fun b o hc' q=>⟨o,k2 b o (fun z=>hc' (by simp[z])) (fun z=>hc' (by simp[z])) q⟩) (fun b ys q=>by rw[z02 (z0a q fr)];exact q) (fun b o u q=>by rw[z02 (z0a q fr)];exact q) (fun b ps q=>⟨#[],by rw[z02 (z0a q fr),q];simp⟩) (fun m hm=>?_) hok2 I.bare
   ·rcases y09.mp hb with rfl|hb
    ·exact⟨f3,f1,f4,f5⟩
    ·have:b=it:=by simpa using hb
     subst this
     exact⟨g3,g1,g4,g5⟩
   ·rw[z02 (y0y (y0c q))]
    exact n
   ·obtain⟨o,es',ep,ho',r⟩:=hm
    exact⟨o,es',ep,k2 _ o (Ne.symm f1) (Ne.symm g1) ho',r⟩
  refine⟨.ref s.heap.objs.size,_,I2,rfl,⟨s.heap.objs.size,x,fr,rfl,rfl,fun ys hy=>by rw[I.tuple_inj hy hq];exact hx⟩,⟨⟨_,by simpa using he2⟩,hs'.1.at fun o q=>(hs2.2 it hne.symm).trans q⟩,fun b hb=>?_⟩
  rcases y09.mp hb with rfl|hb
  ·rw[z02 (y0y helt)]
   exact f0
  ·have:b=it:=by simpa using hb
   subst this
   rw[z02 (y0y hilt)]
   exact g0
 done:=by
  intro X hP hw hK hc i pins s σ H E I hf st hg
  subst hP hw hK
  obtain⟨xs,hq,hx⟩:=hg
  obtain⟨its,rv,p,hz⟩:=I.tuple hq
  obtain⟨⟨old,he⟩,hit⟩:=st
  obtain⟨g0,g1,g2,g3,g4,g5⟩:=hf it (by simp)
  have hT:s.TypeIs (.ref e) "enumerate":=⟨_,he,rfl⟩
  have hl:=rv.length
  unfold pyNext
  refine y02 (wpAny_attempt (wpAny_callSpecial?_slot (name:=Str.ofString "__next__") hT F.slot_enumerate_next
   (wpAny_call_entry F.slot_enumerate_next hT F.entry_enumerate_next ?_ (F.args_enumerate_next_1 _))))
  show y0u _ _ (field (.ref e) 2 >>= _) _ _ _
  refine y02 (wpAny_field he rfl (x:=.ref it) rfl ?_)
  refine y02 (z3g (I.ok.hd hc) hit (show s.heap.IsTuple a its.toArray from p) (by simp;omega) fun h' x he' hx'=>?_)
  obtain⟨o,ho,hc'⟩:=hx'
  refine y02 (wpAny_isInstance (T:="StopIteration") (b:=true) ⟨o,ho,hc'⟩ isSubtype_stop ?_)
  exact y06 ⟨rfl,I.turned (t':=s.toks) (fun b o hb q=>he' b o hb q) g0 g1 g3 g4 g5⟩
 self:=fun _ _ _ _ _ st h=>by
  obtain⟨⟨old,he⟩,_⟩:=st
  exact wpAny_pyIter_enum he h
def iEn (K:y00) (ta:TA):TI:=fun σ H R=>ta σ H fun vs H1=>∃a xs,vs=[.ref a]/\SqT K H1 a xs/\R (Ite K a) H1
section
variable {X:Cx} {es:List Expr} {k:Nat} {p pos p2:Pos} {a:Expr} {f:Fe}
theorem zj8 {ta:TA} (hg:Gl X "enumerate") (hm:X.mg "enumerate"=none) (ha:PA X [a] ta) (hs:y0a [a] X.env=[(false,eval a X.env)]:=by rfl):PI X (.Tuple es k p2) (.Call (.Name "enumerate" p) [a] [] pos) (iEn X.K ta):=by
 intro pins s σ H R I h
 refine Call_ (z4y I hg hm PyProof.Rows.boot_enumerate (y1o (thn (ha pos pins s σ H _ I h) fun us s1 ⟨vs,H1,I1,r1,q1⟩=>?_) hs rfl))
 obtain⟨a,xs,rfl,hq,q⟩:=q1
 cases r1 with
 | cons r rr =>
  cases rr
  cases r
  obtain⟨its,rv,pl,hz⟩:=I1.tuple hq
  have hal:a<s1.heap.objs.size:=by obtain⟨o,ho,_⟩:=pl;exact y0c ho
  refine z26 (show s1.heap.IsTuple a its.toArray from pl) fun h' he hit hsz hk=>wpAny_pyIter_enum he ?_
  refine⟨s1.heap.objs.size+1,[s1.heap.objs.size+1,s1.heap.objs.size],_,_,H1,rfl,I1.kept (t':=s1.toks) hk,z8n a s1.heap.objs.size (s1.heap.objs.size+1) (Nat.succ_ne_self _) (y0y hal) (y0y (Nat.lt_succ_of_lt hal)),⟨⟨_,he⟩,hit⟩,fun b hb=>?_,q⟩
  have hb':s1.heap.objs.size<=b:=by
   rcases y09.mp hb with rfl|hb
   ·exact Nat.le_succ _
   ·have:b=s1.heap.objs.size:=by simpa using hb
    rw[this]
    exact y0o _
  exact I1.fpOk hb' (I1.hok.fresh hb')
theorem z9g {K:y00} {a:Addr} {F1:Addr->Prop} {H1:Hp} {ts:List T} {vs:List V} (hr:SqT K H1 a vs) (q:RepL K F1 H1 ts vs):ItOk K (Ite K a) F1 H1 (enum ts) where
 go:=fun i F H t kp d e=>by
  have hi:=(y0k.mp e).1
  simp only[enum,y13,List.length_zipIdx] at hi
  obtain⟨v,h1,_⟩:=q.get (y0v hi)
  exact⟨vs,v,kp.tup _ _ hr,h1⟩
 yld:=fun i F H t x H' kp d e y=>by
  obtain⟨p,v,hp,rfl,rfl,y⟩:=y
  have hi:=(y0k.mp e).1
  simp only[enum,y13,List.length_zipIdx] at hi
  obtain⟨v',h1,h2⟩:=(q.kp kp).get (y0v hi)
  have h3:=y vs (kp.tup _ _ hr)
  rw[h1] at h3
  cases h3
  have x1:=Ext.laid (o:=.tup [.int i,v]) d hp
  refine⟨F,x1,?_⟩
  have et:t=.tuple [.int i,ts[i]]:=by
   simp only[enum,y14,List.getElem?_zipIdx,y0v hi] at e
   simpa using e.symm
  subst et
  simp only[Rep]
  exact⟨p,_,rfl,SqT.of z03,RepL.cons (by simp[Rep]) (RepL.cons (h2.ext x1) RepL.nil)⟩
 stop:=fun i F H kp hl=>⟨vs,kp.tup _ _ hr,by
  simp only[enum,y13,List.length_zipIdx] at hl
  rw[<- q.length]
  exact hl⟩
theorem zib (hm:X.mg "enumerate"=none) (ha:PEv X a f) (hg:Gl X "enumerate":=by rfl) (hs:y0a [a] X.env=[(false,eval a X.env)]:=by rfl) (hs2:y0a [a] X.env=(false,eval a X.env)::y0a [] X.env:=by rfl) :
  PIt X (.Tuple es k p2) (.Call (.Name "enumerate" p) [a] [] pos) (z24 (z6v f)):=za6 (zj8 hg hm (z0f ha z17 hs2) hs) fun σ H R ⟨F₀,H₀,O,F,ε,ts,r,e,k⟩=>by
 simp only[z24,z6v,y07,y01] at e
 obtain⟨us,⟨t,et,e⟩,rfl⟩:=e
 split at e
 ·cases e
  refine⟨F₀,H₀,O,F,ε,_,r,et,fun v F' H' x q=>?_⟩
  simp only[Rep] at q
  obtain⟨a,vs,rfl,hs,hr⟩:=q
  exact⟨a,vs,rfl,hs,k _ F' H' x (z9g hs hr)⟩
 ·cases e
end
end
section
variable [Tbl]
structure Cl (P:y0q) (w:World) (K:y00) (mg:Str->Option Value) (base:Heap) (x:Str) (k n:Nat) (d:List T->Option T):Prop where
 ex:∃fa fd ps,FnOk P w K mg base CX0 k fa fd ps (spT K n d)/\mg x=some (.ref fa)/\y08 K (.ref fa)=true/\z1f K fd ps []
section
variable {P:y0q} {w:World} {K:y00} {mg:Str->Option Value} {base:Heap} {x:Str} {k n:Nat} {d:List T->Option T}
theorem Cl.mono {j:Nat} (c:Cl P w K mg base x j n d) (h:j<=k):Cl P w K mg base x k n d:=by
 obtain⟨fa,fd,ps,F,r⟩:=c.ex
 exact⟨fa,fd,ps,F.mono h,r⟩
theorem Cl.mk' {fa:Addr} {fd:y0b} {ps:List Str} (F:FnOk P w K mg base CX0 k fa fd ps (spT K n d)) (m:mg x=some (.ref fa)) (kp:y08 K (.ref fa)=true) (b:z1f K fd ps []):Cl P w K mg base x k n d:=⟨fa,fd,ps,F,m,kp,b⟩
end
section
variable {X:Cx} {k n:Nat} {d:List T->Option T} {x:Str} {p pos:Pos} {e:Expr} {es:List Expr} {fs:List Fe}
theorem z0e (C:Cl X.prog X.w X.K X.mg X.base x k n d) (hr:Room k X.A) (ha:PAv X (e::es) fs) (hg:Gl X x:=by rfl) (hn:fs.length=n:=by rfl) (hdb:(x == ("__debug__":Str))=false:=by decide)
  (he:y0a (e::es) X.env=(false,eval e X.env)::y0a es X.env:=by rfl) (hpl:(backTo pos (y0a es X.env)).any (·.1)=false:=by rfl):PEv X (.Call (.Name x p) (e::es) [] pos) (opN d fs):=by
 obtain⟨fa,fd,ps,F,m,kp,b⟩:=C.ex
 exact zlc F hr hg m kp b ha hn hdb he hpl
theorem q_gI {i:Int} {t:Tok} (hm:X.mg x=some (.int i t)) (hg:Gl X x:=by rfl) (hd:(x == ("__debug__":Str))=false:=by decide):PEv X (.Name x pos) (cst (.int i)):=zdu (v:=.int i) (z5w (v:=.int i) hg hm ⟨t,rfl⟩ hd) fun _ _=>by simp[Rep]
noncomputable def zmi (scope sc:Scope) (N:List Str) (caps:List (Nat×Str)):Bool :=
 decide (scope.kind=.function) && scope.names.all (fun y=>(decide (y.2≠.local) || decide (scope.names.lookup y.1=some .local)) && decide (y.2≠.cell) && (decide (y.2≠.free) || decide (sc.names.lookup y.1=some .cell) || decide (sc.names.lookup y.1=some .free)))
  && caps.all (fun q=>decide (N[q.1]?=some q.2) && decide (scope.names.lookup q.2=some .free)) && decide ((caps.map (·.1)).Nodup)
theorem z7o {scope sc:Scope} {own:List Str} {caps:List (Nat×Str)} (N:List Str) (hsc:X.env.scope=sc) (hN:X.N=N) (hc:X.calm=true) (h:zmi scope sc N caps=true):CompOk X scope own caps:=by
 simp only[zmi,y1a,List.all_eq_true,decide_eq_true_eq,Bool.or_eq_true] at h
 obtain⟨⟨⟨h1,h2⟩,h3⟩,h4⟩:=h
 refine⟨h1,fun y hy hl=>?_,fun y hy=>(h2 y hy).1.2,fun y hy hf=>?_,fun q hq=>by rw[hN];exact h3 q hq,h4,hc⟩
 ·rcases (h2 y hy).1.1 with z|z
  ·exact absurd hl z
  ·exact z
 ·have hk:X.env.kindOf y.1=sc.names.lookup y.1:=by rw[<- hsc];rfl
  rw[hk]
  rcases (h2 y hy).2 with (z|z)|z
  ·exact absurd hf z
  ·exact .inl z
  ·exact .inr z
end
theorem z4m {P:y0q} {w:World} {K:y00} {mg:Str->Option Value} {base:Heap} {x:Str} {st:Stmt} {f:Addr} {fd:y0b} {N ps:List Str} {k:Nat} {b:Fs} (F:Fun K x x st f fd) (S:FnScope N ps (z00 st)) (bd:z1f K fd ps []) (m:mg x=some (.ref f))
  (hb:∀(cdv:Value) (A:Around) (outer:List Env) (s:y04) (H:Hp) (E:XK),Room k (A.deeper (envOfC x (z00 st) s.heap.objs.size f cdv)) ->
   PBt (cxOf CX0 P w K mg base N x (z00 st) f cdv A outer s H E).nox (z09 st) b):Cl P w K mg base x (k+1) ps.length (runF b N.length):=.mk' (zm9 F S hb) m F.kp bd
end
end D
end
section
namespace L2
open PySem PySem.Spec PyProof.Rows
section
variable {κ:Type} [DecidableEq κ]
def valV (kvs:List (κ×V)) (k:κ):Option V:=(kvs.find? fun kv=>decide (kv.1=k)).map (·.2)
def putK (kvs:List (κ×V)) (k:κ) (v:V):List (κ×V) :=
 if (kvs.any fun kv=>decide (kv.1=k))=true then kvs.map (fun kv=>if kv.1=k then (kv.1,v) else kv) else kvs++[(k,v)]
theorem z7t {p:κ×V} {r:List (κ×V)} {k:κ} (e:p.1=k):valV (p::r) k=some p.2:=by simp[valV,y1n,e]
theorem z7u {p:κ×V} {r:List (κ×V)} {k:κ} (e:¬p.1=k):valV (p::r) k=valV r k:=by simp[valV,y1n,e]
theorem zb6 (k:κ):∀kvs:List (κ×V),(kvs.any fun kv=>decide (kv.1=k))=(valV kvs k).isSome
 | []=>rfl
 | p::r=>by
  rw[List.any_cons]
  by_cases e:p.1=k
  ·simp only[z7t e,decide_eq_true e,Bool.true_or,Option.isSome_some]
  ·rw[z7u e,decide_eq_false e,Bool.false_or];exact zb6 k r
theorem z4j (kvs:List (κ×V)) (k:κ) (v:V):(putK kvs k v).length<=kvs.length+1:=by
 unfold putK
 split
 ·rw[y13];omega
 ·rw[y1x,y0w,y29];omega
theorem RelO.isSome_eq {o:Option V} {u:Option Value} (r:RelO o u):o.isSome=u.isSome:=by
 cases o with
 | none=>cases u with
  | none=>rfl
  | some _=>exact (show False from r).elim
 | some _=>cases u with
  | none=>exact (show False from r).elim
  | some _=>rfl
theorem KV.val {kvs:List (κ×V)} {vs:List (κ×Value)} (r:KV kvs vs) (k:κ):RelO (valV kvs k) (valueAt vs k):=by
 unfold KV at r
 induction r with
 | nil=>exact True.intro
 | @cons p q ps qs h t ih =>
  obtain⟨h1,h2⟩:=h
  by_cases e:p.1=k
  ·have e':q.1=k:=h1.symm.trans e
   have b:valueAt (q::qs) k=some q.2:=by simp[valueAt,y1n,e']
   rw[z7t e,b];exact h2
  ·have e':¬q.1=k:=fun z=>e (h1.trans z)
   have b:valueAt (q::qs) k=valueAt qs k:=by simp[valueAt,y1n,e']
   rw[z7u e,b];exact ih
theorem KV.any {kvs:List (κ×V)} {vs:List (κ×Value)} (r:KV kvs vs) (k:κ):(kvs.any fun kv=>decide (kv.1=k))=vs.any fun kv=>decide (kv.1=k):=by
 unfold KV at r
 induction r with
 | nil=>rfl
 | cons h t ih=>rw[List.any_cons,List.any_cons,ih,h.1]
theorem KV.repl {kvs:List (κ×V)} {vs:List (κ×Value)} (r:KV kvs vs) (k:κ) {y:V} {u:Value} (ry:RelV y u) :
  KV (kvs.map fun kv=>if kv.1=k then (kv.1,y) else kv) (vs.map fun kv=>if kv.1=k then (kv.1,u) else kv):=by
 unfold KV at r ⊢
 induction r with
 | nil=>exact .nil
 | @cons p q ps qs h t ih =>
  rw[y0d,y0d]
  refine .cons ?_ ih
  obtain⟨h1,h2⟩:=h
  by_cases e:p.1=k
  ·rw[if_pos e,if_pos (h1.symm.trans e)];exact⟨h1,ry⟩
  ·rw[if_neg e,if_neg (fun z=>e (h1.trans z))];exact⟨h1,h2⟩
theorem KV.put {kvs:List (κ×V)} {vs:List (κ×Value)} (r:KV kvs vs) (k:κ) {y:V} {u:Value} (ry:RelV y u):KV (putK kvs k y) (stored vs k u):=by
 unfold putK stored
 rw[r.any k]
 by_cases e:(vs.any fun kv=>decide (kv.1=k))=true
 ·rw[if_pos e,if_pos e];exact r.repl k ry
 ·rw[if_neg e,if_neg e];exact Paired.snoc r ⟨rfl,ry⟩
theorem KV.length {kvs:List (κ×V)} {vs:List (κ×Value)} (r:KV kvs vs):kvs.length=vs.length:=Paired.length r
end
theorem zh8 {P:y0q} {w:World} {k:Key} {u:Value} (r:RelV (kV k) u):(z0j P w).is k u=true:=by
 cases k with
 | inl i=>obtain⟨t,e⟩:=(show ∃t,u=Value.int i t from r);subst e;exact z5z P w i t
 | inr x=>obtain⟨t,e⟩:=(show ∃t,u=Value.str x t from r);subst e;exact z5y P w x t
theorem z9f {P:y0q} {w:World}:∀{ks:List Key} {us:List Value},Vals (ks.map kV) us->ItemsAre (z0j P w) ks us
 | [],_,r=>by rw[y18] at r;cases r;exact .nil
 | k::ks,_,r=>by
  rw[y0d] at r
  cases r with
  | cons h t=>exact .cons (zh8 h) (z9f t)
abbrev KT (H:Hp):List (List Key×V)->List (List Key×Addr×Value)->Prop:=Paired fun p q=>p.1=q.1/\H q.2.1=some (.tup (p.1.map kV))/\RelV p.2 q.2.2
theorem KT.val {H:Hp} {kvs:List (List Key×V)} {xs:List (List Key×Addr×Value)} (r:KT H kvs xs) (k:List Key):RelO (valV kvs k) ((atKey xs k).map (·.2)):=by
 induction r with
 | nil=>exact True.intro
 | @cons p q ps qs h t ih =>
  obtain⟨h1,_,h2⟩:=h
  by_cases e:p.1=k
  ·have e':q.1=k:=h1.symm.trans e
   have b:atKey (q::qs) k=some q.2:=by simp[atKey,y1n,e']
   rw[z7t e,b];exact h2
  ·have e':¬q.1=k:=fun z=>e (h1.trans z)
   have b:atKey (q::qs) k=atKey qs k:=by simp[atKey,y1n,e']
   rw[z7u e,b];exact ih
theorem KT.repl {H:Hp} {kvs:List (List Key×V)} {xs:List (List Key×Addr×Value)} (r:KT H kvs xs) (k:List Key) {y:V} {u:Value} (ry:RelV y u) :
  KT H (kvs.map fun kv=>if kv.1=k then (kv.1,y) else kv) (xs.map (putAt k u)):=by
 induction r with
 | nil=>exact .nil
 | @cons p q ps qs h t ih =>
  rw[y0d,y0d]
  refine .cons ?_ ih
  obtain⟨h1,h2,h3⟩:=h
  unfold putAt
  by_cases e:p.1=k
  ·rw[if_pos e,if_pos (h1.symm.trans e)];exact⟨h1,h2,ry⟩
  ·rw[if_neg e,if_neg (fun z=>e (h1.trans z))];exact⟨h1,h2,h3⟩
theorem KT.put {H:Hp} {kvs:List (List Key×V)} {xs:List (List Key×Addr×Value)} (r:KT H kvs xs) (k:List Key) {b:Addr} {y:V} {u:Value} (hb:H b=some (.tup (k.map kV))) (ry:RelV y u) :
  KT H (putK kvs k y) (storedH xs k b u):=by
 have e:(kvs.any fun kv=>decide (kv.1=k))=(atKey xs k).isSome:=by
  rw[zb6,(r.val k).isSome_eq,Option.isSome_map]
 unfold putK storedH
 rw[e]
 by_cases q:(atKey xs k).isSome=true
 ·rw[if_pos q,if_pos q];exact r.repl k ry
 ·rw[if_neg q,if_neg q];exact Paired.snoc r ⟨rfl,hb,ry⟩
theorem KT.keeps {H H':Hp} {kvs:List (List Key×V)} {xs:List (List Key×Addr×Value)} (r:KT H kvs xs) (ht:∀b ys,H b=some (.tup ys)->H' b=some (.tup ys)):KT H' kvs xs :=
 Paired.mapP r fun _ _ z=>⟨z.1,ht _ _ z.2.1,z.2.2⟩
section
variable {P:y0q} {w:World} {H:Hp} {h:Heap} {a:Addr}
theorem zl3 {u:HO} (ok:HOk P w H h) (e:Rd H a u):z2c P w H h a u:=e.ok ok
theorem zme {kvs:List (Key×V)} (ok:HOk P w H h) (e:Rd H a (.dK kvs)):kvs.length<=y0j/\(a == sysModules)=false/\∃vs,KV kvs vs/\h.DictOf (z0j P w) a vs :=
 show z2c P w H h a (.dK kvs) from zl3 ok e
theorem zmf {kvs:List (Key×V)} (ok:HOk P w H h) (e:H a=some (.dK kvs)):kvs.length<=y0j/\(a == sysModules)=false/\∃vs,KV kvs vs/\h.DictOf (z0j P w) a vs:=zme ok (.inl e)
theorem zet {ks:List Key} (ok:HOk P w H h) (e:H a=some (.tup (ks.map kV))):(tupleKind (z0j P w)).is h ks a:=by
 obtain⟨_,its,r,o,h1,h2,n,h3⟩:=(show z2c P w H h a (.tup (ks.map kV)) from ok a _ e)
 exact⟨o,its.toArray,n,h1,h2,h3,by simpa using z9f r⟩
theorem zmd {kvs:List (List Key×V)} (ok:HOk P w H h) (e:Rd H a (.dT kvs)):kvs.length<=y0j/\(a == sysModules)=false /\
  ∃xs,KT H kvs xs/\h.DictOfH (tupleKind (z0j P w)) a xs:=by
 obtain⟨z,y,xs,r,o,es,ep,h1,h2,h3,h4,h5⟩:=(show z2c P w H h a (.dT kvs) from zl3 ok e)
 refine⟨z,y,xs,r,o,es,ep,h1,h2,h3,h4,fun x hx=>?_,h5⟩
 have all:∀{l:List (List Key×V)} {m:List (List Key×Addr×Value)},KT H l m->∀x∈m,(tupleKind (z0j P w)).is h x.1 x.2.1:=by
  intro l m q
  induction q with
  | nil=>intro x hx;exact nomatch hx
  | @cons p q ps qs hq t ih =>
   intro x hx
   rcases y09.mp hx with e|hx
   ·subst e
    exact zet ok (by rw[<- hq.1];exact hq.2.1)
   ·exact ih x hx
 exact all r x hx
theorem znq {kvs:List (List Key×V)} (ok:HOk P w H h) (e:H a=some (.dT kvs)):kvs.length<=y0j/\(a == sysModules)=false /\
  ∃xs,KT H kvs xs/\h.DictOfH (tupleKind (z0j P w)) a xs:=zmd ok (.inl e)
end
noncomputable def DGet (H:Hp) (a:Addr) (y:V) (r:Option V):Prop :=
 (∃kvs k,Rd H a (.dK kvs)/\y=kV k/\r=valV kvs k)\/∃kvs k b,Rd H a (.dT kvs)/\y=.ref b/\H b=some (.tup (k.map kV))/\r=valV kvs k
noncomputable def DPut (H:Hp) (a:Addr) (y v:V) (H':Hp):Prop :=
 (∃kvs k,H a=some (.dK kvs)/\y=kV k/\kvs.length<y0j/\H'=upd H a (.dK (putK kvs k v))) \/
 ∃kvs k b,H a=some (.dT kvs)/\y=.ref b/\H b=some (.tup (k.map kV))/\kvs.length<y0j/\H'=upd H a (.dT (putK kvs k v))
theorem DGet.k {H:Hp} {a:Addr} {kvs:List (Key×V)} {k:Key} (e:H a=some (.dK kvs)):DGet H a (kV k) (valV kvs k):=.inl ⟨kvs,k,.inl e,rfl,rfl⟩
theorem DPut.k {H:Hp} {a:Addr} {kvs:List (Key×V)} {k:Key} {v:V} (e:H a=some (.dK kvs)) (hl:kvs.length<y0j):DPut H a (kV k) v (upd H a (.dK (putK kvs k v))):=.inl ⟨kvs,k,e,rfl,hl,rfl⟩
section
variable {X:Cx} {pins:List (Addr×Obj)} {σ:St} {H:Hp} {s:y04} {a:Addr} {y v:V} {u r:Value} {o:Option V} {A:Around} {E:Value->y04->Prop}
theorem Inv.big (I:Inv X pins σ H s):sysModules<s.heap.objs.size:=by
 have h:y0n<s.heap.objs.size:=(I.mod.glob.keeps I.bk).lt
 exact Nat.lt_trans (by decide) h
theorem zk4 {Q:Value->y04->Prop} (hu:A.units+1<cLine) (I:Inv X pins σ H s) (g:DGet H a y o) (ry:RelV y u) (h:∀s',Inv X pins σ H s'->Q (.bool (!o.isSome)) s') :
  y0u (model X.prog X.w) A (compareOp .NotIn u (.ref a)) Q E s:=by
 rcases g with ⟨kvs,k,e,ey,l⟩|⟨kvs,k,b,e,ey,eb,l⟩
 ·subst ey
  obtain⟨z,hd,vs,rel,dd⟩:=zme I.hok e
  refine wpAny_notIn_of (zh8 ry) hd dd.mapOf ?_
  rw[<- (rel.val k).isSome_eq,<- l]
  exact h _ (I.tok _)
 ·subst ey
  cases (show u=Value.ref b from ry)
  obtain⟨z,hd,xs,rel,dd⟩:=zmd I.hok e
  refine wpAny_notIn_heap (tupleKind_room_in1 hu) (zet I.hok eb) hd dd ?_
  have q:=(rel.val k).isSome_eq
  rw[Option.isSome_map] at q
  rw[<- q,<- l]
  exact h _ (I.tok _)
theorem zav {h':Heap} {t':Nat} {ob:HO} (I:Inv X pins σ H s) (mu:Mut (H a)) (hs:Heap.SameBut a s.heap h') (he:∃q,h'.get? a=some q) (new:z2c X.prog X.w (upd H a ob) h' a ob) :
  Inv X pins σ (upd H a ob) { s with heap:=h',toks:=t' } :=
 I.write (x:=a) (e:=a) mu (.inl rfl) (fun b q hb z=>(hs.2 b hb).trans z) he new
theorem zie {P:y0q} {w:World} {H':Hp} {h':Heap} {kvs:List (Key×V)} {vs:List (Key×Value)} (z:kvs.length<=y0j) (hd:(a == sysModules)=false) (rel:KV kvs vs) (dd:h'.DictOf (z0j P w) a vs) :
  z2c P w H' h' a (.dK kvs):=⟨z,hd,vs,rel,dd⟩
theorem zfe {H':Hp} {Q:Unit->y04->Prop} (hu:A.units+1<cLine) (I:Inv X pins σ H s) (g:DPut H a y v H') (ry:RelV y u) (rv:RelV v r) (h:∀s',Inv X pins σ H' s'->Q () s') :
  y0u (model X.prog X.w) A (setItem (.ref a) u r) Q E s:=by
 rcases g with ⟨kvs,k,e,ey,l,eH⟩|⟨kvs,k,b,e,ey,eb,l,eH⟩
 ·subst ey eH
  obtain⟨z,hd,vs,rel,dd⟩:=zmf I.hok e
  have hz:vs.length<=y0j:=by rw[<- rel.length];exact z
  have hl:(putK kvs k v).length<=y0j:=by have:=z4j kvs k v;omega
  refine wpAny_setItem_pairs (hsz:=hz) (zh8 ry) dd fun h' dd' hs=>h _ ?_
  have he:∃q,h'.get? a=some q:=let ⟨q,_,_,hq,_⟩:=dd';⟨q,hq⟩
  exact zav I (by rw[e];exact True.intro) hs he (zie hl hd (rel.put k rv) dd')
 ·subst ey eH
  cases (show u=Value.ref b from ry)
  obtain⟨z,hd,xs,rel,dd⟩:=znq I.hok e
  have hz:xs.length<=y0j:=by rw[<- Paired.length rel];exact z
  have hl:(putK kvs k v).length<=y0j:=by have:=z4j kvs k v;omega
  refine wpAny_setItem_heap (hsz:=hz) (tupleKind_room_in1 hu) (zet I.hok eb) dd fun h' dd' hs=>h _ ?_
  obtain⟨q,es,ep,hq,h2,h3,h4,_,h5⟩:=dd'
  refine zav I (by rw[e];exact True.intro) hs ⟨q,hq⟩ ⟨hl,hd,_,(rel.put k eb rv).keeps fun c ys ec=>?_,q,es,ep,hq,h2,h3,h4,h5⟩
  rw[z02 (znl ec e (fun z=>nomatch z))]
  exact ec
end
section
variable {X:Cx} {pins:List (Addr×Obj)} {σ:St} {H:Hp} {s:y04} {a:Addr} {kvs:List (Key×V)} {k:Key} {u:Value} {A:Around} {E:Value->y04->Prop}
end
def zdd (ty td:TE):TE:=fun σ H Q=>ty σ H fun y H1=>td σ H1 fun x H2=>∃a o,x=.ref a/\DGet H2 a y o/\Q (.bl (!o.isSome)) H2
def zn6 (td ty tv:TE):TS:=fun D σ H=>tv σ H fun v H1=>td σ H1 fun x H2=>ty σ H2 fun y H3=>∃a H4,x=.ref a/\DPut H3 a y v H4/\D.nx σ H4
section
variable {X:Cx} {o i e value:Expr} {pos pos' tpos:Pos} {td ty tv:TE}
theorem ze6 (hu:X.A.units+1<cLine) (hi:PE X i ty) (ho:PE X o td):PC X .NotIn i o (zdd ty td):=by
 intro pins s σ H Q I h
 refine thn (hi pins s σ H _ I h) fun iv s1 ⟨y,H1,I1,ry,q1⟩=>thn (ho pins s1 σ H1 _ I1 q1) fun u s2 ⟨x,H2,I2,rx,a,ov,ex,g,q2⟩=>?_
 subst ex
 obtain rfl:u=Value.ref a:=rx
 exact zk4 hu I2 g ry fun s3 I3=>⟨.bl (!ov.isSome),H2,I3,rfl,q2⟩
theorem zj4 (hu:X.A.units+1<cLine) (ho:PE X o td) (hi:PE X i ty) (hv:PE X value tv) (hs:swapsWith value (some (.Subscript o i pos')) pos.line X.env=pure false) :
  PS X (.Assign [.Subscript o i pos'] value pos) (zn6 td ty tv):=by
 intro pins s σ H D I h
 refine wpAny_Assign_Subscript (thn (hv pins s σ H _ I h) fun r s1 ⟨v,H1,I1,rv,q1⟩=>thn (ho pins s1 σ H1 _ I1 q1) fun u s2 ⟨x,H2,I2,rx,q2⟩=>thn (hi pins s2 σ H2 _ I2 q2) fun iv s3 ⟨y,H3,I3,ry,a,H4,ex,g,q3⟩=>?_) hs
 subst ex
 obtain rfl:u=Value.ref a:=rx
 exact zfe hu I3 g ry rv fun s4 I4=>⟨σ,H4,I4,q3⟩
end
theorem zhi {P:y0q} {w:World} {H:Hp} (h:Heap) (hb:sysModules<h.objs.size):z2c P w H (h.push { cls:=.type "dict",data:=.dict #[] }) h.objs.size (.dK []) :=
 ⟨y1z _,beq_eq_false_iff_ne.mpr (Ne.symm (y0y hb)),[],.nil,Heap.DictOf.new h⟩
section
variable {X:Cx} {pos:Pos}
end
noncomputable def zdb:List (TE×TE)->St->Hp->(List (V×V)->Hp->Prop)->Prop
  | [],_,H,Q=>Q [] H
  | (tk,tv)::r,σ,H,Q=>tk σ H fun x H1=>tv σ H1 fun y H2=>zdb r σ H2 fun ps H3=>Q ((x,y)::ps) H3
abbrev VV:List (V×V)->List (Value×Value)->Prop:=Paired fun p q=>RelV p.1 q.1/\RelV p.2 q.2
noncomputable def PPs (X:Cx) (pos:Pos) (keys:List (Option Expr)) (values:List Expr) (trs:List (TE×TE)):Prop :=
 ∀(pins:List (Addr×Obj)) (s:y04) (σ:St) (H:Hp) (Q:List (V×V)->Hp->Prop),Inv X pins σ H s->zdb trs σ H Q ->
  y0u (model X.prog X.w) X.A (evalPairs (pairTrees keys values X.env pos)) (fun vs s'=>∃ps H',Inv X pins σ H' s'/\VV ps vs/\Q ps H') X.xe s
theorem zj5 {X:Cx} {pos:Pos}:PPs X pos [] [] []:=fun pins s σ H Q I h=>pairTrees_nil_walk ⟨[],H,I,.nil,h⟩
theorem zgh {X:Cx} {pos:Pos} {k v:Expr} {ks:List (Option Expr)} {vs:List Expr} {tk tv:TE} {trs:List (TE×TE)} (hk:PE X k tk) (hv:PE X v tv) (hr:PPs X pos ks vs trs) :
  PPs X pos (some k::ks) (v::vs) ((tk,tv)::trs):=fun pins s σ H Q I h =>
 pairTrees_cons_walk (thn (hk pins s σ H _ I h) fun u s1 ⟨x,H1,I1,rx,q1⟩=>thn (hv pins s1 σ H1 _ I1 q1) fun w2 s2 ⟨y,H2,I2,ry,q2⟩ =>
  thn (hr pins s2 σ H2 _ I2 q2) fun ws s3 ⟨ps,H3,I3,rel,q3⟩=>⟨(x,y)::ps,H3,I3,.cons ⟨rx,ry⟩ rel,q3⟩)
def z60 (kvs more:List (Key×V)):List (Key×V):=more.foldl (fun acc kv=>putK acc kv.1 kv.2) kvs
theorem KV.merge:∀{more:List (Key×V)} {rs:List (Key×Value)} {kvs:List (Key×V)} {vs:List (Key×Value)},KV more rs->KV kvs vs->KV (z60 kvs more) (merged vs rs):=by
 intro more rs kvs vs r
 unfold KV at r
 induction r generalizing kvs vs with
 | nil=>intro q;exact q
 | @cons p q ps qs h t ih =>
  intro r0
  have e:KV (putK kvs p.1 p.2) (stored vs q.1 q.2):=by
   have:=r0.put p.1 h.2
   rw[<- h.1];exact this
  exact ih e
theorem z4x:∀(more kvs:List (Key×V)),(z60 kvs more).length<=kvs.length+more.length
 | [],kvs=>by show kvs.length<=kvs.length+0;omega
 | p::r,kvs=>by
  have h1:=z4x r (putK kvs p.1 p.2)
  have h2:=z4j kvs p.1 p.2
  show (z60 (putK kvs p.1 p.2) r).length<=_
  rw[y0w];omega
theorem z7p {P:y0q} {w:World}:∀{kvs:List (Key×V)} {ws:List (Value×Value)},VV (kvs.map fun kv=>(kV kv.1,kv.2)) ws->∃rs,Carries (z0j P w) ws rs/\KV kvs rs
 | [],_,r=>by rw[y18] at r;cases r;exact⟨[],True.intro,.nil⟩
 | p::kvs,_,r=>by
  rw[y0d] at r
  cases r with
  | @cons a b as bs h t =>
   obtain⟨rs,c,q⟩:=z7p (P:=P) (w:=w) t
   obtain⟨b1,b2⟩:=b
   exact⟨(p.1,b2)::rs,⟨zh8 h.1,rfl,c⟩,.cons ⟨rfl,h.2⟩ q⟩
noncomputable def zmz (trs:List (TE×TE)):TE:=fun σ H Q=>∀p,H p=none->zdb trs σ (upd H p (.dK [])) fun ps H2=>H2 p=some (.dK [])/\∃kvs:List (Key×V),ps=kvs.map (fun kv=>(kV kv.1,kv.2))/\kvs.length<=15/\Q (.ref p) (upd H2 p (.dK (z60 [] kvs)))
theorem zj9 {X:Cx} {pos:Pos} {keys:List (Option Expr)} {values:List Expr} {trs:List (TE×TE)} (h:PPs X pos keys values trs) (hall:keys.all (·.isSome)=true) (hl:keys.length=values.length) (h0:keys≠[])
  (h15:keys.length<=15):PE X (.Dict keys values pos) (zmz trs):=by
 intro pins s σ H Q I q
 have hn:=I.hok.fresh (y0o s.heap.objs.size)
 have I1:=I.laid (a:=s.heap.objs.size) (o:=.dK []) (h':=s.heap.push { cls:=.type "dict",data:=.dict #[] }) (t':=s.toks) (fun _ _ q=>y03 _ q) (y0o _) (zhi s.heap I.big)
 refine wpAny_Dict_walk (knd:=z0j X.prog X.w) hall hl h0 h15 (thn (h pins _ σ _ _ I1 (q _ hn)) fun ws s2 ⟨ps,H2,I2,rel,e,kvs,ep,lk,q2⟩=>?_)
 subst ep
 obtain⟨rs,c,rk⟩:=z7p (P:=X.prog) (w:=X.w) rel
 obtain⟨z,hd,vs0,r0,dd⟩:=zmf I2.hok e
 cases r0
 refine⟨rs,c,dd,fun h' dd' hs=>⟨.ref s.heap.objs.size,_,?_,rfl,q2⟩⟩
 have hz:(z60 [] kvs).length<=y0j:=by
  have h1:=z4x kvs []
  rw[y29] at h1
  rw[sizeLine_eq];omega
 have he:∃q,h'.get? s.heap.objs.size=some q:=let ⟨q,_,_,hq,_⟩:=dd';⟨q,hq⟩
 exact zav I2 (by rw[e];exact True.intro) hs he (zie hz hd (rk.merge .nil) dd')
section
variable {X:Cx} {pins:List (Addr×Obj)} {σ:St} {H:Hp} {s:y04} {a:Addr} {y d:V} {u r:Value} {o:Option V} {A:Around} {E:Value->y04->Prop}
end
section
variable {X:Cx} {o e f:Expr} {apos cpos:Pos} {td ty tx:TE}
end
section
variable {X:Cx} {pins:List (Addr×Obj)} {σ:St} {H:Hp} {s:y04} {a:Addr} {kvs:List (Key×V)} {A:Around} {E:Value->y04->Prop}
end
section
variable {X:Cx} {pins:List (Addr×Obj)} {σ:St} {H:Hp} {s:y04} {a:Addr} {y:V} {u:Value} {A:Around} {E:Value->y04->Prop}
end
end L2
end
section
namespace D
open PySem PySem.Spec PyProof.Rows L2
variable [Tbl]
theorem zly {K:y00} {F:Addr->Prop} {H:Hp} {a:Addr} {o o':HO} (hn:¬F a) (ha:H a=some o) (hk:(∃xs,o=.lst xs)\/∃xs,o=.dK xs):Kp K F H F (upd H a o'):=by
 refine⟨fun b xs q=>?_,fun b xs f q=>⟨f,?_⟩⟩
 ·rcases q with q|q
  ·refine .inl ?_
   have nb:b≠a:=by
    rintro rfl
    rcases q with q|⟨_,q⟩
    ·rw[ha] at q
     cases q
     rcases hk with ⟨_,z⟩|⟨_,z⟩ <;> cases z
    ·rw[ha] at q
     cases q
     rcases hk with ⟨_,z⟩|⟨_,z⟩ <;> cases z
   rcases q with q|⟨u,q⟩
   ·exact .inl (by rw[z02 nb];exact q)
   ·exact .inr ⟨u,by rw[z02 nb];exact q⟩
  ·exact .inr q
 ·have nb:b≠a:=by
   rintro rfl
   exact hn f
  rcases q with q|⟨u,q⟩
  ·exact .inl (by rw[z02 nb];exact q)
  ·exact .inr ⟨u,by rw[z02 nb];exact q⟩
section
variable {K:y00} {F:Addr->Prop} {H:Hp}
theorem RepD.any {k:D.Key}:∀{kvs:List (D.Key×T)} {vs:List (D.Key×V)},RepD K F H kvs vs->hasD kvs k=(valV vs k).isSome
 | [],vs,h=>by
  have:vs=[]:=h
  subst this
  rfl
 | p::r,vs,h=>by
  obtain⟨v,w,rfl,q,z⟩:=h
  have ih:=RepD.any (k:=k) z
  simp only[hasD,List.any_cons,valV,y1n] at ih ⊢
  by_cases e:p.1=k
  ·simp[e]
  ·simp[e,ih]
theorem RepD.length:∀{kvs:List (D.Key×T)} {vs:List (D.Key×V)},RepD K F H kvs vs->kvs.length=vs.length
 | [],vs,h=>by
  have:vs=[]:=h
  subst this
  rfl
 | p::r,vs,h=>by
  obtain⟨v,w,rfl,q,z⟩:=h
  simp[RepD.length z]
theorem RepD.append:∀{kvs us:List (D.Key×T)} {vs ws:List (D.Key×V)},RepD K F H kvs vs->RepD K F H us ws->RepD K F H (kvs++us) (vs++ws)
 | [],us,vs,ws,h,r=>by
  have:vs=[]:=h
  subst this
  exact r
 | p::q,us,vs,ws,h,r=>by
  obtain⟨v,w,rfl,q',z⟩:=h
  exact⟨v,w++ws,rfl,q',RepD.append z r⟩
theorem RepD.mapPut {k:D.Key} {t:T} {v:V}:∀{kvs:List (D.Key×T)} {vs:List (D.Key×V)},RepD K F H kvs vs->Rep K F H t v->RepD K F H (kvs.map fun p=>if p.1=k then (k,t) else p) (vs.map fun kv=>if kv.1=k then (kv.1,v) else kv)
 | [],vs,h,q=>by
  have:vs=[]:=h
  subst this
  rfl
 | p::r,vs,h,q=>by
  obtain⟨v',w,rfl,q',z⟩:=h
  simp only[y0d]
  by_cases e:p.1=k
  ·rw[if_pos e,if_pos e]
   exact⟨v,_,by rw[e],q,RepD.mapPut z q⟩
  ·rw[if_neg e,if_neg e]
   exact⟨v',_,rfl,q',RepD.mapPut z q⟩
theorem RepD.put {k:D.Key} {t:T} {v:V} {kvs:List (D.Key×T)} {vs:List (D.Key×V)} (h:RepD K F H kvs vs) (q:Rep K F H t v):RepD K F H (putD kvs k t) (putK vs k v):=by
 have ha:(kvs.any fun p=>decide (p.1=k))=(vs.any fun kv=>decide (kv.1=k)):=by
  clear q
  induction kvs generalizing vs with
  | nil =>
   have:vs=[]:=h
   subst this
   rfl
  | cons p r ih =>
   obtain⟨v,w,rfl,q',z⟩:=h
   simp only[List.any_cons,ih z]
 unfold putD putK
 rw[ha]
 split
 ·exact RepD.mapPut h q
 ·exact h.append ⟨v,[],rfl,q,rfl⟩
theorem zap {t:T} {k:D.Key} {v:V} {O:Addr->Prop} (e:z88 t=some k) (r:RepR K O F H t v):v=kV k:=by
 unfold z88 at e
 split at e
 ·cases e
  exact r.int
 ·cases e
  exact r.str
 ·cases e
theorem zc0 {i:Nat} {ε:Ev} {kvs:List (D.Key×T)} (h:dic? i ε=some kvs):ε[i]?=some (some (.dic kvs)):=by
 unfold dic? at h
 split at h
 ·cases h
  assumption
 ·cases h
end
section
variable {X:Cx} {a b e:Expr} {f g:Fe} {pos:Pos}
theorem z8e {F₀ O F:Addr->Prop} {H₀:En} {H:Hp} {ε:Ev} {σ:L2.St} {i:Nat} {kvs:List (D.Key×T)} (r:RelE X.K F₀ H₀ O F H ε σ) (h:dic? i ε=some kvs) :
  ∃p vs,σ[i]?=some (some (.ref p))/\¬F p/\O p/\H p=some (.dK vs)/\RepD X.K F H kvs vs:=by
 obtain⟨v,h1,p,vs,rfl,n,o,hh,hr⟩:=r.val _ _ (zc0 h)
 exact⟨p,vs,h1,n,o,hh,hr⟩
theorem zk5 {neg:Bool} {i:Nat} {R:TE} (hR:∀σ H Q,(∃F₀ H₀ O F ε t k kvs,RelE X.K F₀ H₀ O F H ε σ/\f ε=some t/\z88 t=some k/\dic? i ε=some kvs/\∀F' H',Ext F H F' H'->Q (.bl (if neg then !hasD kvs k else hasD kvs k)) H')->R σ H Q) :
  ∀σ H Q,tV X.K (dIn neg f i) σ H Q->R σ H Q:=fun σ H Q ⟨F₀,H₀,O,F,ε,t,r,e,k⟩=>by
 simp only[dIn,y01,y07] at e
 obtain⟨t',et,key,ek,kvs,ed,rfl⟩:=e
 exact hR σ H Q ⟨F₀,H₀,O,F,ε,t',key,kvs,r,et,ek,ed,fun F' H' x=>k _ F' H' x (by simp[Rep])⟩
theorem zff (i:Nat):∀σ H (Q:VK),(∃F₀ H₀ O F ε t k kvs,RelE X.K F₀ H₀ O F H ε σ/\f ε=some t/\z88 t=some k/\dic? i ε=some kvs/\∀F' H',Ext F H F' H'->Q (.bl (if true then !hasD kvs k else hasD kvs k)) H')->zdd (tR X.K f) (tVar i) σ H Q :=
 fun σ H Q ⟨F₀,H₀,O,F,ε,t,k,kvs,r,et,ek,ed,kk⟩=>⟨F₀,H₀,O,F,ε,t,r,et,fun v F1 H1 x1 q1=>by
  obtain⟨p,vs,h1,n,o,hh,hr⟩:=z8e (r.ext x1) ed
  refine⟨_,h1,p,valV vs k,rfl,?_,?_⟩
  ·rw[zap ek q1]
   exact DGet.k hh
  ·rw[<- hr.any]
   exact kk F1 H1 x1⟩
variable {x:Str} {px:Pos}
theorem zmt {R:TE} {h:Fe} (k:∀σ H Q,tV X.K h σ H Q->R σ H Q):∀σ H Q,tT X.K (tstB h) σ H Q->L2.tB R σ H Q:=fun σ H Q ⟨F₀,H₀,O,F,ε,b,r,e,kk⟩=>by
 simp only[tstB,y01] at e
 obtain⟨t,et,e⟩:=e
 split at e
 ·cases e
  refine k σ H _ ⟨F₀,H₀,O,F,ε,_,r,et,fun v F' H' x q=>?_⟩
  simp only[Rep] at q
  exact⟨_,q,kk F' H' x⟩
 ·cases e
theorem zkm (i:Nat) (hu:X.A.units+1<cLine) (ha:PEr X a f) (hN:X.N[i]?=some x:=by rfl) (hv:Vis X.env.scope x:=by first|exact Or.inl rfl|exact Or.inr (Or.inl rfl)|exact Or.inr (Or.inr rfl)) (hd:(x == ("__debug__":Str))=false:=by decide)
  (hcd:(x == ("__classdict__":Str))=false:=by decide) (h1:behindInMarks .NotIn (.Name x px)=false:=by rfl):PTt X (.Compare a [.NotIn] [.Name x px] pos) (tstB (dIn true f i)):=z5g (zdw (ze6 hu ha (pv i hN hv hd hcd)) h1) (zmt (zk5 (zff i)))
theorem zkw (i:Nat) (hu:X.A.units+1<cLine) {spos:Pos} (ha:PEr X a f) (he:PEv X e g) (hN:X.N[i]?=some x:=by rfl) (hv:Vis X.env.scope x:=by first|exact Or.inl rfl|exact Or.inr (Or.inl rfl)|exact Or.inr (Or.inr rfl)) (hd:(x == ("__debug__":Str))=false:=by decide)
  (hcd:(x == ("__classdict__":Str))=false:=by decide) (hs:swapsWith e (some (.Subscript (.Name x px) a spos)) pos.line X.env=pure false:=by rfl) :
  PSt X (.Assign [.Subscript (.Name x px) a spos] e pos) (dPut i f g):=z1t (zj4 hu (pv i hN hv hd hcd) ha he hs) fun D σ H ⟨F₀,H₀,O,F,ε,o,r,e,k⟩=>by
 simp only[dPut,y01] at e
 obtain⟨v,ev,t,et,key,ek,kvs,ed,e⟩:=e
 split at e
 next hz =>
  cases e
  refine⟨F₀,H₀,O,F,ε,v,r,ev,fun vv F1 H1 x1 q1=>?_⟩
  obtain⟨p,vs,h1,n,oo,hh,hr⟩:=z8e (r.ext x1) ed
  refine⟨_,h1,F₀,H₀,O,F1,ε,t,r.ext x1,et,fun vt F2 H2 x2 q2=>?_⟩
  have r2:=(r.ext x1).ext x2
  obtain⟨p',vs',h1',n',o',hh',hr'⟩:=z8e r2 ed
  rw[h1] at h1'
  cases h1'
  obtain⟨kp,r3⟩:=r2.mut (s':=.dic (putD kvs key v)) (o':=.dK (putK vs' key vv)) (zc0 ed) rfl h1 n' o' hh' (.inr ⟨_,rfl⟩) fun kp=>⟨p,_,rfl,n',o',z03,RepD.put (RepD.kp kp hr') ((q1.ext x2).kp kp)⟩
  refine⟨p,_,rfl,?_,k σ F2 _ ((x1.trans x2).kp.trans kp) r3⟩
  rw[zap ek q2]
  exact DPut.k hh' (by rw[z5t,<- hr'.length];exact hz)
 next=>cases e
theorem zkx (i:Nat) {kx vx:Expr} {dpos:Pos} (hN:X.N.Nodup) (hk:PEv X kx f) (he:PEv X vx g) (hi:X.N[i]?=some x:=by rfl) (hx:Loc X.env.scope x:=by first|exact Or.inl rfl|exact Or.inr rfl)
  (hs:swapsWith (.Dict [some kx] [vx] dpos) (some (.Name x px)) pos.line X.env=pure false:=by rfl) (hf:X.fn x=true\/X.env.scope.names.lookup x=some .local:=by first|exact .inl rfl|exact .inr rfl) :
  PSt X (.Assign [.Name x px] (.Dict [some kx] [vx] dpos) pos) (dNew i f g):=z1t (z44 hN hi hx (zj9 (zgh hk he zj5) rfl rfl (by simp) (by simp)) hs hf) fun D σ H ⟨F₀,H₀,O,F,ε,o,r,e,k⟩=>by
 simp only[dNew,y01,y07] at e
 obtain⟨t,et,key,ek,v,ev,rfl⟩:=e
 intro p hp
 have x0:=Ext.laid (o:=.dK []) r.dom hp
 refine⟨F₀,H₀,O,F,ε,t,r.ext x0,et,fun vk F1 H1 x1 q1=>⟨F₀,H₀,O,F1,ε,v,(r.ext x0).ext x1,ev,fun vv F2 H2 x2 q2=>?_⟩⟩
 have x02:=(x0.trans x1).trans x2
 have hp2:H2 p=some (.dK []):=(x1.trans x2).same.get z03
 have nf:¬F2 p:=fun z=>by
  rcases (x1.trans x2).new p z with q|q
  ·obtain⟨o,e⟩:=r.dom p q
   rw[hp] at e
   cases e
  ·rw[z03] at q
   cases q
 refine⟨hp2,[(key,vv)],?_,by simp,?_⟩
 ·have hk:=zap (O:=O) ek (.inl q1)
  simp[hk]
 ·have kp:Kp X.K F2 H2 F2 (upd H2 p (.dK (z60 [] [(key,vv)]))):=zly nf hp2 (.inr ⟨_,rfl⟩)
  have x3:Ext F H F2 (upd H2 p (.dK (z60 [] [(key,vv)]))):=by
   refine⟨fun b o e=>?_,x02.sub,x02.new,⟨fun b z=>?_,x02.dom.tgs.upd fun u e=>.inr ⟨_,y28 (e.symm.trans hp2)⟩⟩⟩
   ·rw[z02 (z0a e hp)]
    exact x02.same b o e
   ·have nb:b≠p:=by
     rintro rfl
     exact nf z
    rw[z02 nb]
    exact x02.dom b z
  exact k _ F2 _ x3.kp (r.setNew (s:=.dic _) i x3 ⟨p,_,rfl,nf,r.fr p hp,z03,⟨vv,[],rfl,q2.kp kp,rfl⟩⟩ fun b hb=>by
   have:b=p:=by simpa [fpS,rf] using hb
   rw[this]
   exact hp)
end
end D
end
section
namespace D
open PySem
variable [Tbl]
end D
end
section
namespace D
open PySem PySem.Spec PyProof.Rows L2
section
variable [Tbl]
theorem zi2 {α β:Type} {R:α->β->Prop}:∀{l:List α} {ks:List β},Paired R l ks->l.length=ks.length
 | _,_,.nil=>rfl
 | _,_,.cons a b=>by simp[zi2 b]
section
variable {prog:y0q} {w:World} {K:Type} [DecidableEq K] (knd:PySem.KeyKind prog w K)
variable {knd} {A:Around} {E:Value->y04->Prop} {s:y04}
def IsV (knd:PySem.KeyKind prog w K) (v:Value) (k:K):Prop:=knd.is k v=true/\v.scannable=true
section
variable {R:Result->y04->Prop} {I:Addr} {fp wr:List Addr} {G:Array GenState->Array GenState->Prop} {St:Nat->y04->Prop} {items:Array Value}
end
end
end
section
variable [Tbl]
section
variable {prog:y0q} {w:World} {A:Around} {E:Value->y04->Prop} {s:y04}
end
section
variable {prog:y0q} {w:World} {A:Around} {E:Value->y04->Prop} {s:y04}
variable {a I:Addr} {es:Array (Int×Value)} {ep:Nat} {t:SetTable}
end
end
section
variable [Tbl]
section
variable {prog:y0q} {w:World} {A:Around} {E:Value->y04->Prop} {s:y04}
variable {a I:Addr} {es:Array (Int×Value)} {ep:Nat} {t:SetTable}
end
end
section
variable [Tbl]
section
variable {prog:y0q} {w:World} {K:Type} [DecidableEq K] {knd:PySem.KeyKind prog w K} {A:Around} {E:Value->y04->Prop} {s:y04} {a:Addr} {ks:List K}
theorem zaw {R:List Value->y04->Prop} {T:String} {r d:Addr} {n:Nat} {P:Nat->Value->Prop} {OK:Heap->Prop} (W:PySem.W.KdlSrc prog w T r d n P OK) (hh:A.handled=none) (hok:OK s.heap) (hn:n<=y0j)
  (h:∀(h':Heap) (tk:Nat) (acc:Array Value),(∀b o,s.heap.get? b=some o->h'.get? b=some o)->s.heap.objs.size<=h'.objs.size->ItemsOf P acc n->R acc.toList { s with heap:=h',toks:=tk }) :
  y0u (model prog w) A (collect (.ref r)) R E s:=by
 have hlt:=W.there _ hok
 unfold collect
 refine y02 (wpAny_runValue (codeAny_builtin entry_proto_collect' ?_))
 rw[y1r PySem.F.plain_proto_collect _]
 show y0u _ A.in1 (newList [] >>= fun l=>again (.builtin "list.__iadd__" ⟨[l,.ref r],[]⟩)) _ _ s
 refine y02 (wpAny_newObj_type ?_)
 refine y06 ⟨plainId_quiet PySem.F.plain_list_iadd _,codeAny_builtin entry_list_iadd' ?_⟩
 rw[y1r PySem.F.plain_list_iadd _]
 have hS₁:(s.heap.push { cls:=.type "list",data:=.seq ([]:List Value).toArray }).get? s.heap.objs.size=some { cls:=.type "list",data:=.seq #[] }:=y0l _ rfl
 show y0u _ A.in1 (Builtin.List.listExtendWith (.ref s.heap.objs.size) (.ref r) (.ref s.heap.objs.size)) _ _ _
 have key:=PySem.W.kdl_extend (A:=A) (s:={ s with heap:=s.heap.push { cls:=.type "list",data:=.seq ([]:List Value).toArray } })
  (R:=fun (q:Result) (s':y04)=>∃(h':Heap) (tk:Nat) (acc':Array Value) (c':Nat),q=.ok (.ret (.ref s.heap.objs.size))/\s'={ s with heap:=h',toks:=tk } /\
   (∀b o,s.heap.get? b=some o->h'.get? b=some o)/\h'.get? s.heap.objs.size=some { cls:=.type "list",dict:=none,data:=.seq acc' c',slots:=#[] }/\ItemsOf P acc' n)
  W hh (W.keep _ _ hok fun b _ o e=>y03 _ e) s.heap.objs.size (y15 hlt.1) (y15 hlt.2) (.ref s.heap.objs.size) 0 hS₁
  (fun h' tk acc' c' hk hS' hacc=>⟨h',tk,acc',c',rfl,rfl,fun b o e=>hk b o (y0y (y0c e)) (y03 _ e),hS',hacc⟩) hn
 refine y1c key (fun fin s' x=>?_) fun e s' x=>?_
 ·cases fin with
  | done f =>
   obtain⟨h',tk,acc',c',e,rfl,hk,hS',hacc⟩:=x
   cases e
   show y0u _ A (load s.heap.objs.size >>= _) _ _ _
   refine y02 (wpAny_load hS' ?_)
   exact y06 (h h' tk acc' hk (Nat.le_of_lt (y0c hS')) hacc)
  | again c₁ =>
   refine⟨x.1,codeAny_mono x.2 fun q s₂ y=>?_⟩
   obtain⟨h',tk,acc',c',rfl,rfl,hk,hS',hacc⟩:=y
   show y0u _ A (load s.heap.objs.size >>= _) _ _ _
   refine y02 (wpAny_load hS' ?_)
   exact y06 (h h' tk acc' hk (Nat.le_of_lt (y0c hS')) hacc)
 ·obtain⟨_,_,_,_,e',_⟩:=x
  cases e'
end
end
section
variable [Tbl]
theorem z28 {α:Type} {r:α->α->Prop} (anti:∀a b,r a b->r b a->a=b):∀{l m:List α},l.Perm m->l.Pairwise r->m.Pairwise r->l=m
 | [],m,p,_,_=>(List.Perm.nil_eq p)
 | a::l,m,p,h1,h2=>by
  cases m with
  | nil=>exact absurd p.length_eq (by simp)
  | cons b m =>
   have hab:a=b:=by
    have ha:a∈b::m:=p.mem_iff.mp (by simp)
    have hb:b∈a::l:=p.mem_iff.mpr (by simp)
    rcases y09.mp ha with q|q
    ·exact q
    ·rcases y09.mp hb with z|z
     ·exact z.symm
     ·exact anti a b ((y17.mp h1).1 b z) ((y17.mp h2).1 a q)
   subst hab
   rw[z28 anti (List.perm_cons a |>.mp p) (y17.mp h1).2 (y17.mp h2).2]
theorem z6b (x:Int):∀l:List Int,(insI x l).Perm (x::l)
 | []=>.rfl
 | y::ys=>by
  unfold insI
  split
  ·exact .rfl
  ·exact ((z6b x ys).cons y).trans (.swap _ _ _)
theorem z1v:∀l:List Int,(z1p l).Perm l
 | []=>.rfl
 | x::xs=>(z6b x _).trans ((z1v xs).cons x)
theorem zf2 (x:Int):∀{l:List Int},l.Pairwise (·<=·)->(insI x l).Pairwise (·<=·)
 | [],_=>by simp[insI]
 | y::ys,h=>by
  unfold insI
  have h':=y17.mp h
  split
  next q=>exact y17.mpr ⟨fun z hz=>by
   rcases y09.mp hz with rfl|hz
   ·exact q
   ·exact Int.le_trans q (h'.1 z hz),h⟩
  next q=>exact y17.mpr ⟨fun z hz=>by
   rcases y09.mp ((z6b x ys).mem_iff.mp hz) with rfl|hz
   ·omega
   ·exact h'.1 z hz,zf2 x h'.2⟩
theorem z4s:∀l:List Int,(z1p l).Pairwise (·<=·)
 | []=>.nil
 | x::xs=>zf2 x (z4s xs)
theorem zbd {l m:List Int} (p:l.Perm m) (h:l.Pairwise (·<=·)):l=z1p m:=z28 (fun a b h1 h2=>Int.le_antisymm h1 h2) (p.trans (z1v m).symm) h (z4s m)
theorem zaf {l m:List Int} (p:l.Perm m):z1p l=z1p m:=zbd ((z1v l).trans p) (z4s l)
abbrev sLe (x y:Str):Prop:=z54 y x=false
theorem zg4 (x y:Str):z54 x y=ltCps x.cps.toList y.cps.toList:=(ltCps_eq _ _).symm
theorem zdo {x y:Str} (h:z54 x y=true):sLe x y:=by
 unfold sLe z54 at *
 simp only[decide_eq_true_eq,decide_eq_false_iff_not] at *
 exact List.lt_asymm h
theorem z8y {x y z:Str} (h1:sLe x y) (h2:sLe y z):sLe x z:=by
 unfold sLe z54 at *
 simp only[decide_eq_false_iff_not] at *
 exact List.not_lt.mpr (List.le_trans (List.not_lt.mp h1) (List.not_lt.mp h2))
theorem zg7 {x y:Str} (h1:sLe x y) (h2:sLe y x):x=y:=by
 unfold sLe z54 at *
 simp only[decide_eq_false_iff_not] at *
 have e:x.cps.toList=y.cps.toList:=List.le_antisymm (List.not_lt.mp h1) (List.not_lt.mp h2)
 cases x
 cases y
 simp only[Array.toList_inj] at e
 exact congrArg _ e
theorem z6a (x:Str):∀l:List Str,(insS x l).Perm (x::l)
 | []=>.rfl
 | y::ys=>by
  unfold insS
  split
  ·exact .rfl
  ·exact ((z6a x ys).cons y).trans (.swap _ _ _)
theorem z3v:∀l:List Str,(z6s l).Perm l
 | []=>.rfl
 | x::xs=>(z6a x _).trans ((z3v xs).cons x)
theorem zf1 (x:Str):∀{l:List Str},l.Pairwise sLe->(insS x l).Pairwise sLe
 | [],_=>by simp[insS]
 | y::ys,h=>by
  unfold insS
  have h':=y17.mp h
  split
  next q =>
   have q':sLe x y:=by simpa [sLe] using q
   exact y17.mpr ⟨fun z hz=>by
    rcases y09.mp hz with rfl|hz
    ·exact q'
    ·exact z8y q' (h'.1 z hz),h⟩
  next q =>
   have q':z54 y x=true:=by simpa using q
   exact y17.mpr ⟨fun z hz=>by
    rcases y09.mp ((z6a x ys).mem_iff.mp hz) with rfl|hz
    ·exact zdo q'
    ·exact h'.1 z hz,zf1 x h'.2⟩
theorem z7y:∀l:List Str,(z6s l).Pairwise sLe
 | []=>.nil
 | x::xs=>zf1 x (z7y xs)
theorem zbc {l m:List Str} (p:l.Perm m) (h:l.Pairwise sLe):l=z6s m:=z28 (fun a b h1 h2=>zg7 h1 h2) (p.trans (z3v m).symm) h (z7y m)
theorem zad {l m:List Str} (p:l.Perm m):z6s l=z6s m:=zbc ((z3v l).trans p) (z7y l)
theorem z75:∀(l:List Str) (p:Str),risingS p l=true->(p::l).Pairwise sLe
 | [],p,_=>by simp
 | x::r,p,h=>by
  simp only[risingS,y1a,Bool.not_eq_true'] at h
  have ih:=z75 r x h.2
  have hpx:sLe p x:=by
   unfold sLe
   rw[zg4]
   exact h.1
  refine y17.mpr ⟨fun z hz=>?_,ih⟩
  rcases y09.mp hz with rfl|hz
  ·exact hpx
  ·exact z8y hpx ((y17.mp ih).1 z hz)
theorem zcf {l:List Str} (h:sortedS l=true):l.Pairwise sLe:=by
 cases l with
 | nil=>exact .nil
 | cons x r=>exact z75 r x h
section
variable {K:Type} [DecidableEq K]
theorem z84 {l m:List K} (h1:l.Nodup) (h2:m.Nodup) (h:∀x,x∈l <-> x∈m):l.Perm m:=(List.perm_ext_iff_of_nodup h1 h2).mpr h
end
end
section
variable [Tbl]
section
variable {prog:y0q} {w:World} {A:Around} {E:Value->y04->Prop} {s:y04}
inductive Srt:List Value->List Value->Prop where
 | ofI {vs out:List Value} {ns:List Int}:IntsAre vs ns->IntsAre out (z1p ns)->Srt vs out
 | ofS {vs out:List Value} {ss:List Str}:StrsAre vs ss->StrsAre out (z6s ss)->Srt vs out
def z8k (vs:List Value):Prop:=vs.length<64/\((∃ns,IntsAre vs ns)\/∃ss,StrsAre vs ss)
theorem z7x {h:Heap} {a:Addr} {vs:List Value} {n:Nat} {out:Array Value} (ho:h.get? a=some (seqObj "list" vs.toArray n)) :
  (∃e,(sortedHeap h a vs out).get? a=some (seqObj "list" out e))/\∀b o,b≠a->h.get? b=some o->(sortedHeap h a vs out).get? b=some o:=by
 have hlt:=y0c ho
 unfold sortedHeap
 refine⟨?_,fun b o hb e=>?_⟩
 ·have h1:=get?_update_seq ho (fun _=>(#[]:Array Value))
  have h2:=y03 (seqObj "tuple" vs.toArray 0) h1
  have h3:=y03 (seqObj "list" #[] 0) h2
  exact⟨_,get?_update_seq h3 (fun _=>out)⟩
 ·rw[Heap.get?_update_other _ _ (Ne.symm hb)]
  exact y03 _ (y03 _ ((Heap.get?_update_other _ _ (Ne.symm hb)).trans e))
theorem zdh {a:Addr} {vs:List Value} {n:Nat} {P:Fin->y04->Prop} (ho:s.heap.get? a=some (seqObj "list" vs.toArray n)) (hs:z8k vs)
  (h:∀out:Array Value,Srt vs out.toList->P (.done (.ret .none)) { s with heap:=sortedHeap s.heap a vs out }):y0u (model prog w) A (Builtin.«list.sort» ⟨[.ref a],[]⟩) P E s:=by
 obtain⟨h64,⟨ns,hI⟩|⟨ss,hS⟩⟩:=hs
 ·refine list_sort_tree ho hI h64 fun out ns' a1 a2 a3=>h out (.ofI hI ?_)
  rw[<- zbd a2 a3]
  exact a1
 ·refine list_sort_treeK strKind_oneLt ho hS.keysOf (fun v₁ v₂ rest e=>keyKind_strs (by rw[<- e];exact hS)) h64 fun st' hp hs=>?_
  obtain⟨ss',h1,h2,h3⟩:=sorted_out_str hS hp hs
  refine h _ (.ofS hS ?_)
  rw[<- zbc h2 (zcf h3)]
  exact h1
theorem z5s {r:Addr} {C:List Value->Prop} {Q:Value->y04->Prop}
  (hcol:∀(E':Value->y04->Prop) (R:List Value->y04->Prop),(∀h' tk d vs,(∀b o,s.heap.get? b=some o->h'.get? b=some o)->s.heap.objs.size<=h'.objs.size->C vs->R vs { s with heap:=h',toks:=tk,drawn:=d })->y0u (model prog w) A.in1 (collect (.ref r)) R E' s)
  (hC:∀vs,C vs->z8k vs)
  (h:∀h' tk d D e vs out,C vs->Srt vs out->(∀b o,s.heap.get? b=some o->h'.get? b=some o)->s.heap.objs.size<=D->h'.get? D=some (seqObj "list" out.toArray e)->Q (.ref D) { s with heap:=h',toks:=tk,drawn:=d }) :
  y0u (model prog w) A (call (.builtin "sorted") [.ref r]) Q E s:=by
 refine Calls.call_function_entry kind_sorted plain_sorted entry_sorted (args_sorted1 _) ?_
 unfold Builtin.«sorted»
 refine y02 (m:=checkCount "sorted" 1 1 _) (y06 ?_)
 refine y02 (hcol _ _ fun h' tk d vs kp hsz c=>?_)
 have hs:=hC vs c
 have hz:vs.length<=y0j:=by
  have:=hs.1
  rw[sizeLine_eq]
  omega
 refine y02 (wpAny_newList ?_ hz)
 have hoL:(h'.push (seqObj "list" vs.toArray 0)).get? h'.objs.size=some (seqObj "list" vs.toArray 0):=y0l _ rfl
 refine y02 (wpAny_holding (wpAny_call_entry slot_list_sort ⟨_,hoL,rfl⟩ entry_list_sort (zdh hoL hs fun out so=>⟨_,rfl,?_⟩) (args_list_sort _)))
 obtain⟨⟨e,he⟩,hk⟩:=z7x (out:=out) hoL
 refine y06 ⟨_,rfl,?_⟩
 exact h _ tk d h'.objs.size e vs out.toList c so (fun b o q=>hk b o (y0y (y0c (kp b o q))) (y03 _ (kp b o q))) hsz he
end
section
variable {X:Cx} {pins:List (Addr×Obj)} {σ:L2.St} {H:Hp} {s:y04}
theorem z9j {a:Addr} {o:HO} {t':Nat} {d':Drawn} {h':Heap} (I:Inv X pins σ H s) (k:∀b u,s.heap.get? b=some u->h'.get? b=some u) (hp:s.heap.objs.size<=a) (new:z2c X.prog X.w (upd H a o) h' a o) :
  Inv X pins σ (upd H a o) { s with heap:=h',toks:=t',drawn:=d' } :=
 I.call (ch:=[]) (g':=s.gens) (Un.laid k hp (I.hok.fresh hp)) (I.hok.laid k hp new) I.bare fun _ z=>nomatch z
theorem z66:∀{us:List Value} {ns:List Int},IntsAre us ns->Vals (ns.map V.int) us
 | _,_,.nil=>.nil
 | _,_,.cons n t r=>.cons ⟨t,rfl⟩ (z66 r)
theorem z5r:∀{us:List Value} {ss:List Str},StrsAre us ss->Vals (ss.map V.str) us
 | _,_,.nil=>.nil
 | _,_,.cons n t r=>.cons ⟨t,rfl⟩ (z5r r)
theorem z5q:∀{us:List Value} {ks:List L2.Key},Vals (ks.map kV) us->Paired (IsV (z0j X.prog X.w)) us ks
 | [],[],_=>.nil
 | _,.inl i::ks,.cons r rs=>by
  obtain⟨t,rfl⟩:=r
  exact .cons ⟨z5z _ _ i t,rfl⟩ (z5q rs)
 | _,.inr x::ks,.cons r rs=>by
  obtain⟨t,rfl⟩:=r
  exact .cons ⟨z5y _ _ x t,rfl⟩ (z5q rs)
theorem z64:∀{us:List Value} {ks:List L2.Key} {ns:List Int},Paired (IsV (z0j X.prog X.w)) us ks->ks=ns.map Sum.inl->IntsAre us ns
 | _,_,[],.nil,_=>.nil
 | _,_,n::ns,.cons a b,e=>by
  cases e
  have a1:=a.1
  rw[z7e] at a1
  rcases z0l a1 with ⟨i,t,e1,rfl⟩|⟨x,t,e1,rfl⟩
  ·cases e1
   exact .cons _ t (z64 b rfl)
  ·cases e1
theorem z63:∀{us:List Value} {ks:List L2.Key} {ss:List Str},Paired (IsV (z0j X.prog X.w)) us ks->ks=ss.map Sum.inr->StrsAre us ss
 | _,_,[],.nil,_=>.nil
 | _,_,n::ns,.cons a b,e=>by
  cases e
  have a1:=a.1
  rw[z7e] at a1
  rcases z0l a1 with ⟨i,t,e1,rfl⟩|⟨x,t,e1,rfl⟩
  ·cases e1
  ·cases e1
   exact .cons _ t (z63 b rfl)
theorem z2r {α β:Type} (f:α->β):∀{l:List α} {m:List β},m.Perm (l.map f)->∃l':List α,m=l'.map f/\l'.Perm l:=by
 intro l m p
 generalize hx:l.map f=lf at p
 induction p generalizing l with
 | nil =>
  rw[List.map_eq_nil_iff] at hx
  subst hx
  exact⟨[],rfl,.rfl⟩
 | cons x _ ih =>
  cases l with
  | nil=>cases hx
  | cons a r =>
   simp only[y0d,List.cons.injEq] at hx
   obtain⟨l',e,q⟩:=ih hx.2
   exact⟨a::l',by rw[y0d,hx.1,e],q.cons a⟩
 | swap x y r =>
  match l,hx with
  | a::b::r',hx =>
   simp only[y0d,List.cons.injEq] at hx
   exact⟨b::a::r',by rw[y0d,y0d,hx.1,hx.2.1,hx.2.2],.swap _ _ _⟩
 | trans _ _ i1 i2 =>
  obtain⟨l1,e1,q1⟩:=i2 hx
  obtain⟨l2,e2,q2⟩:=i1 e1.symm
  exact⟨l2,e2,q2.trans q1⟩
def zae (ks:List L2.Key) (ys:List V):Prop:=(∃ns:List Int,ks=ns.map Sum.inl/\ys=(z1p ns).map V.int)\/∃ss:List Str,ks=ss.map Sum.inr/\ys=(z6s ss).map V.str
theorem zbb {vs out:List Value} {ks ks':List L2.Key} {ys:List V} (hv:Paired (IsV (z0j X.prog X.w)) vs ks') (hp:ks'.Perm ks) (so:Srt vs out) (hk:zae ks ys):Vals ys out:=by
 rcases hk with ⟨ns,rfl,rfl⟩|⟨ss,rfl,rfl⟩
 ·obtain⟨ns',rfl,hp'⟩:=z2r Sum.inl hp
  have hI:=z64 hv rfl
  cases so with
  | ofI a b =>
   rename_i ms
   rw[<- zaf hp',show ns'=ms from ?_]
   ·exact z66 b
   ·rw[<- IntsAre.numsOf hI,<- IntsAre.numsOf a]
  | ofS a b =>
   cases a with
   | nil =>
    cases hI
    have:ns=[]:=List.Perm.eq_nil hp'.symm
    subst this
    exact z5r b
   | cons x t _=>cases hI
 ·obtain⟨ss',rfl,hp'⟩:=z2r Sum.inr hp
  have hS:=z63 hv rfl
  cases so with
  | ofS a b =>
   rename_i ms
   rw[<- zad hp',show ss'=ms from ?_]
   ·exact z5r b
   ·rw[<- StrsAre.strs hS,<- StrsAre.strs a]
  | ofI a b =>
   cases a with
   | nil =>
    cases hS
    have:ss=[]:=List.Perm.eq_nil hp'.symm
    subst this
    exact z66 b
   | cons x t _=>cases hS
theorem z4z {vs:List Value} {ks ks':List L2.Key} {ys:List V} (hz:ks.length<64) (hv:Paired (IsV (z0j X.prog X.w)) vs ks') (hp:ks'.Perm ks) (hk:zae ks ys):z8k vs:=by
 refine⟨by rw[zi2 hv,hp.length_eq];exact hz,?_⟩
 rcases hk with ⟨ns,rfl,_⟩|⟨ss,rfl,_⟩
 ·obtain⟨ns',rfl,_⟩:=z2r Sum.inl hp
  exact .inl ⟨_,z64 hv rfl⟩
 ·obtain⟨ss',rfl,_⟩:=z2r Sum.inr hp
  exact .inr ⟨_,z63 hv rfl⟩
theorem z8u {ks:List L2.Key} {ys:List V} (h:zae ks ys):ys.length=ks.length:=by
 rcases h with ⟨ns,rfl,rfl⟩|⟨ss,rfl,rfl⟩
 ·simp[(z1v ns).length_eq]
 ·simp[(z3v ss).length_eq]
theorem zcn {kvs:List (L2.Key×Value)} {acc:Array Value} (h:ItemsOf (fun i v=>∃k x,kvs[i]?=some (k,x)/\(z0j X.prog X.w).is k v=true) acc kvs.length):Paired (IsV (z0j X.prog X.w)) acc.toList (kvs.map (·.1)):=by
 obtain⟨h1,h2⟩:=h
 have h2':∀(j:Nat) v,acc.toList[j]?=some v->∃k x,kvs[j]?=some (k,x)/\(z0j X.prog X.w).is k v=true:=fun j v e=>h2 j v (by rw[<- Array.getElem?_toList];exact e)
 rw[<- y1v] at h1
 generalize acc.toList=l at *
 clear h2
 induction l generalizing kvs with
 | nil =>
  cases kvs with
  | nil=>exact .nil
  | cons a r=>simp at h1
 | cons v l ih =>
  cases kvs with
  | nil=>simp at h1
  | cons a r =>
   obtain⟨k,x,e1,e2⟩:=h2' 0 v rfl
   simp at e1
   subst e1
   refine .cons ⟨e2,?_⟩ (ih (kvs:=r) (by simpa using h1) fun j v e=>h2' (j+1) v (by simpa using e))
   rcases z0l e2 with ⟨i,t,_,rfl⟩|⟨x,t,_,rfl⟩ <;> rfl
theorem zer:∀{kvs:List (L2.Key×V)} {vs:List (L2.Key×Value)},KV kvs vs->kvs.map (·.1)=vs.map (·.1)
 | _,_,.nil=>rfl
 | _,_,.cons a b=>by simp[a.1,zer b]
theorem z9t (hc:X.calm=true):z3l X (.builtin "sorted") (fun xs H Q=>∃p kvs ys,xs=[.ref p]/\H p=some (.dK kvs)/\kvs.length<64/\zae (kvs.map (·.1)) ys/\∀l,H l=none->Q (.ref l) (upd H l (.lst ys))):=by
 intro pins s σ H xs us Q I r h
 obtain⟨p,kvs,ys,rfl,hq,hz,hk,q⟩:=h
 obtain⟨u,rfl,rx⟩:=z6r r
 cases rx
 obtain⟨hz',hsm,vs,hkv,hd⟩:=I.hok p _ hq
 obtain⟨ep,hat⟩:=hd.dictAt
 have hl:vs.length=kvs.length:=(Paired.length hkv).symm
 have hke:=zer hkv
 refine z5s (C:=fun us=>Paired (IsV (z0j X.prog X.w)) us (kvs.map (·.1))) (fun E' R hR=>zaw (PySem.W.kdl_dict hsm) (I.ok.hd hc) hat (by rw[hl,sizeLine_eq];omega) fun h' tk acc kp hz hacc=>hR h' tk s.drawn acc.toList kp hz (by rw[hke];exact zcn hacc))
  (fun us hu=>z4z (by rw[y13];exact hz) hu .rfl hk) fun h' tk d D e us out hu so kp hD he=>?_
 exact⟨.ref D,_,z9j I (o:=.lst ys) kp hD ⟨by rw[z8u hk,y13,sizeLine_eq];omega,out,e,zbb hu .rfl so hk,he⟩,rfl,q _ (I.hok.fresh hD)⟩
theorem z9s (hc:X.calm=true):z3l X (.builtin "sorted") (fun xs H Q=>∃p ks ys,xs=[.ref p]/\SqL X.K H p (ks.map kV)/\ks.length<64/\zae ks ys/\∀l,H l=none->Q (.ref l) (upd H l (.lst ys))):=by
 intro pins s σ H xs us Q I r h
 obtain⟨p,ks,ys,rfl,hq,hz,hk,q⟩:=h
 obtain⟨u,rfl,rx⟩:=z6r r
 cases rx
 obtain⟨its,r',pl,hz'⟩:=I.list hq
 have hlen:=r'.length
 rw[y13] at hlen
 have hit:Paired (IsV (z0j X.prog X.w)) its ks:=z5q (by simpa using r')
 refine z5s (C:=fun us=>us=its) (fun E' R hR=>collect_list pl.isList (hR _ s.toks s.drawn its (fun b o e=>?_) ?_ rfl) (by rw[sizeLine_eq];omega)) (fun us hu=>by subst hu;exact z4z hz hit .rfl hk) fun h' tk d D e us out hu so kp hD he=>?_
 ·exact (Heap.get?_update_other _ _ (y15 (y0c e))).trans (y03 _ e)
 ·rw[Heap.size_update,Heap.size_push]
  exact Nat.le_succ _
 ·subst hu
  exact⟨.ref D,_,z9j I (o:=.lst ys) kp hD ⟨by rw[z8u hk,sizeLine_eq];omega,out,e,zbb hit .rfl so hk,he⟩,rfl,q _ (I.hok.fresh hD)⟩
end
end
section
variable [Tbl]
theorem z69:∀{ts:List T} {ns:List Int},z47 ts=some ns->ts=ns.map .int
 | [],ns,e=>by
  cases e
  rfl
 | t::ts,ns,e=>by
  unfold z47 at e
  split at e
  ·rename_i h
   cases h
  ·rename_i h
   cases h
   simp only[y07] at e
   obtain⟨r,e1,rfl⟩:=e
   rw[z69 e1]
   rfl
  ·cases e
theorem z8q:∀{ts:List T} {ss:List Str},zb9 ts=some ss->ts=ss.map .str
 | [],ns,e=>by
  cases e
  rfl
 | t::ts,ns,e=>by
  unfold zb9 at e
  split at e
  ·rename_i h
   cases h
  ·rename_i h
   cases h
   simp only[y07] at e
   obtain⟨r,e1,rfl⟩:=e
   rw[z8q e1]
   rfl
  ·cases e
section
variable {K:y00} {F:Addr->Prop} {H:Hp}
theorem z3n:∀(ns:List Int),RepL K F H (ns.map .int) (ns.map V.int)
 | []=>RepL.nil
 | n::ns=>RepL.cons (by simp[Rep]) (z3n ns)
theorem z8z:∀(ns:List Str),RepL K F H (ns.map .str) (ns.map V.str)
 | []=>RepL.nil
 | n::ns=>RepL.cons (by simp[Rep]) (z8z ns)
theorem z78:∀{ns:List Int} {vs:List V},RepL K F H (ns.map .int) vs->vs=ns.map V.int
 | [],vs,h=>by simpa [RepL] using h
 | n::ns,vs,h=>by
  simp only[y0d,RepL,Rep] at h
  obtain⟨v,r,rfl,rfl,z⟩:=h
  rw[z78 z]
  rfl
theorem z77:∀{ns:List Str} {vs:List V},RepL K F H (ns.map .str) vs->vs=ns.map V.str
 | [],vs,h=>by simpa [RepL] using h
 | n::ns,vs,h=>by
  simp only[y0d,RepL,Rep] at h
  obtain⟨v,r,rfl,rfl,z⟩:=h
  rw[z77 z]
  rfl
end
section
variable {X:Cx} {a e:Expr} {es:List Expr} {f:Fe} {fs:List Fe} {p p2 pos pos2:Pos}
theorem z90 {K:y00} {F:Addr->Prop} {H:Hp}:∀{kvs:List (D.Key×T)} {vs:List (D.Key×V)},RepD K F H kvs vs->kvs.map (·.1)=vs.map (·.1)
 | [],vs,h=>by
  have:vs=[]:=h
  subst this
  rfl
 | p::r,vs,h=>by
  obtain⟨v,w,rfl,_,z⟩:=h
  simp[z90 z]
theorem z9e:∀{ks:List D.Key} {ns:List Int},ks.map keyT=ns.map .int->ks=ns.map Sum.inl
 | [],[],_=>rfl
 | [],n::ns,e=>by cases e
 | k::ks,[],e=>by cases e
 | k::ks,n::ns,e=>by
  simp only[y0d,List.cons.injEq] at e ⊢
  refine⟨?_,z9e e.2⟩
  cases k with
  | inl i =>
   have:=e.1
   simp only[keyT] at this
   cases this
   rfl
  | inr x =>
   have:=e.1
   simp only[keyT] at this
   cases this
theorem zdt (i:Nat) {x:Str} {px:Pos} (hc:X.calm=true) (hs:X.mg "sorted"=none) (hN:X.N[i]?=some x:=by rfl) (hv:Vis X.env.scope x:=by first|exact Or.inl rfl|exact Or.inr (Or.inl rfl)|exact Or.inr (Or.inr rfl))
  (hd:(x == ("__debug__":Str))=false:=by decide) (hcd:(x == ("__classdict__":Str))=false:=by decide) (hg:Gl X "sorted":=by rfl)
  (he:y0a [.Name x px] X.env=(false,eval (.Name x px) X.env)::y0a [] X.env:=by rfl) (hpl:(backTo pos (y0a [] X.env)).any (·.1)=false:=by rfl) :
  PEv X (.Call (.Name "sorted" p) [.Name x px] [] pos) (z6f i) :=
 z0u (z38 (z9t hc) hg hs (by decide +kernel) (z0f (pv i hN hv hd hcd) z17 he) (he:=he) (hpl:=hpl)) fun σ H Q ⟨F₀,H₀,O,F,ε,t,r,e,k⟩=>by
 simp only[z6f,y01] at e
 obtain⟨kvs,ed,e⟩:=e
 split at e
 next hz =>
  simp only[y07] at e
  obtain⟨ns,en,rfl⟩:=e
  obtain⟨q,vs,h1,n,o,hh,hr⟩:=z8e r ed
  refine⟨_,h1,q,vs,(z1p ns).map V.int,rfl,hh,by rw[<- hr.length];exact hz,.inl ⟨ns,?_,rfl⟩,fun l hl=>?_⟩
  ·rw[<- z90 hr]
   have:=z69 en
   refine z9e ?_
   rw[<- this,y2c]
   rfl
  ·have x1:=Ext.laidF (o:=.lst ((z1p ns).map V.int)) r.dom hl
   refine k _ _ _ x1 ?_
   simp only[Rep]
   exact⟨l,_,rfl,.inr rfl,.inl z03,z3n _⟩
 next=>cases e
theorem zbi (hc:X.calm=true) (hm:X.mg "sorted"=none) (ha:PAr X (e::es) fs) (hg:Gl X "sorted":=by rfl) (he:y0a (e::es) X.env=(false,eval e X.env)::y0a es X.env:=by rfl) (hpl:(backTo pos (y0a es X.env)).any (·.1)=false:=by rfl) :
  PEv X (.Call (.Name "sorted" p) (e::es) [] pos) (opN z2j fs):=z0u (z38 (z9s hc) hg hm (by decide +kernel) ha (he:=he) (hpl:=hpl)) (z4g (by
 intro O F H ts t vs Q d q e k
 unfold z2j at e
 split at e
 next xs =>
  split at e
  next hz =>
   cases q with
   | cons q1 q2 =>
    cases q2
    obtain⟨l0,ws,rfl,hl,hr⟩:=q1.lst
    have fin:∀(ks:List L2.Key) (ys:List V) (rs:List T),ws=ks.map kV->ks.length<64->zae ks ys->(∀F' H',RepL X.K F' H' rs ys)->t=.list rs ->
      ∃p ks ys,[V.ref l0]=[V.ref p]/\SqL X.K H p (ks.map kV)/\ks.length<64/\zae ks ys/\∀l,H l=none->Q (.ref l) (upd H l (.lst ys)):=by
     intro ks ys rs ev hk hs' hrs et
     subst ev
     subst et
     refine⟨l0,ks,ys,rfl,.inl hl,hk,hs',fun l hl1=>k _ _ _ (Ext.laidF (o:=.lst ys) d hl1) ?_⟩
     simp only[Rep]
     exact⟨l,ys,rfl,.inr rfl,.inl z03,hrs _ _⟩
    split at e
    next ns hn =>
     have hxs:=z69 hn
     subst hxs
     cases e
     exact fin (ns.map .inl) ((z1p ns).map V.int) _ (by rw[z78 hr];simp[kV,y16]) (by simpa using hz) (.inl ⟨ns,rfl,rfl⟩) (fun _ _=>z3n _) rfl
    next hn =>
     simp only[y07] at e
     obtain⟨ss,hss,e⟩:=e
     have hxs:=z8q hss
     subst hxs
     exact fin (ss.map .inr) ((z6s ss).map V.str) _ (by rw[z77 hr];simp[kV,y16]) (by simpa using hz) (.inr ⟨ss,rfl,rfl⟩) (fun _ _=>z8z _) e.symm
  next=>cases e
 next=>cases e))
end
section
variable {prog:y0q} {w:World} {A:Around} {E:Value->y04->Prop} {s:y04}
end
section
variable {X:Cx} {e st:Expr} {te:TE} {f:Fe} {pos p2:Pos}
end
end
section
variable [Tbl]
section
variable {prog:y0q} {w:World} {K:Type} [DecidableEq K] {knd:PySem.KeyKind prog w K} {A:Around} {E:Value->y04->Prop} {s:y04}
end
end
section
variable [Tbl]
section
variable {X:Cx} {a b e:Expr} {es rest:List Expr} {f g:Fe} {fs:List Fe} {p p2 pos pos2:Pos}
theorem znc (ha:PEv X a f):PEv X (.UnaryOp .Not a pos) (notV f):=z0u (zlj ha) fun σ H Q ⟨F₀,H₀,O,F,ε,t,r,e,k⟩=>by
 simp only[notV,y01] at e
 obtain⟨x,ex,e⟩:=e
 refine⟨F₀,H₀,O,F,ε,x,r,ex,fun v F1 H1 x1 rx=>?_⟩
 split at e
 ·cases e
  simp only[Rep] at rx
  exact⟨_,rx,k _ F1 H1 x1 (by simp[Rep])⟩
 ·cases e
def tOt (K:y00) (f:Ev->Option (Option Int)):TO:=fun σ H Q=>∃F₀ H₀ O F ε i,RelE K F₀ H₀ O F H ε σ/\f ε=some i/\∀F' H',Ext F H F' H'->Q i H'
theorem zik {x:Option Expr} {t t':TO} (h:PO X x t) (k:∀σ H Q,t' σ H Q->t σ H Q):PO X x t':=fun pins s σ H Q I q=>h pins s σ H Q I (k σ H Q q)
theorem zi7:PO X none (tOt X.K optN):=zik zj7 fun σ H Q ⟨F₀,H₀,O,F,ε,i,r,e,k⟩=>by
 cases e
 exact k F H (Ext.refl r.dom)
theorem zi6 (h:PEr X a f):PO X (some a) (tOt X.K (opt f)):=zik (zj6 h) fun σ H Q ⟨F₀,H₀,O,F,ε,i,r,e,k⟩=>by
 simp only[opt,y01] at e
 obtain⟨x,ex,e⟩:=e
 refine⟨F₀,H₀,O,F,ε,x,r,ex,fun v F1 H1 x1 rx=>?_⟩
 split at e
 ·cases e
  exact⟨_,rx.int,k F1 H1 x1⟩
 ·cases e
noncomputable def rSlW (K:y00):V->Option Int->Option Int->Hp->VK->Prop:=fun x lo hi H Q=>∃a xs,x=.ref a/\SqT K H a xs/\(HT.sIx xs.length 0 lo=0/\HT.sIx xs.length xs.length hi=xs.length)/\Q (.ref a) H
theorem z4l {prog:y0q} {w:World} {A:Around} {E:Value->y04->Prop} {s:y04} {t sl:Addr} {items:Array Value} {vl vu:Value} {lo hi:Option Int} {Q:Value->y04->Prop} (ht:IsTup s.heap t items) (hs:s.heap.IsSliceOf sl vl vu .none) (pl:IsPart vl lo) (pu:IsPart vu hi)
  (hw:HT.sIx items.size 0 lo=0/\HT.sIx items.size items.size hi=items.size) (h:Q (.ref t) s):y0u (model prog w) A (getItem (.ref t) (.ref sl)) Q E s:=by
 obtain⟨os,hos,hcs,hds⟩:=id hs
 have hTs:s.TypeIs (.ref sl) "slice":=⟨os,hos,hcs⟩
 unfold getItem
 try with_reducible refine wpAny_holding ?_
 first|refine y02 (y06 ?_)|skip
 refine y02 (wpAny_sequenceKey ht.typeIs (by decide) ?_)
 refine y02 (wpAny_callSpecial?_slot (name:=Str.ofString "__getitem__") ht.typeIs y1g
  (wpAny_call_entry y1g ht.typeIs entry_tuple_getitem ?_ (args_tuple_getitem _ _)))
 show y0u _ _ (Builtin.Tuple.tupleItemsOf (.ref t) >>= _) _ _ s
 refine y02 (tupleItemsOf_ ht ?_)
 refine y02 (wpAny_typeOf hTs ?_)
 rw[if_pos (by decide)]
 refine y02 (HT.sliceApplied_gen hs pl pu ?_)
 rw[hw.1,hw.2]
 show y0u _ _ (if (((0:Nat):Int) == 0 && (1:Int) == 1 && (items.size - 0) == items.size)=true then _ else _) _ _ s
 rw[if_pos (by simp)]
 unfold Builtin.Tuple.tupleIsExact
 refine y02 (y02 (wpAny_typeOf ht.typeIs (y06 ?_)))
 rw[if_pos (by decide)]
 refine y02 (wpAny_rule ?_)
 exact y06 ⟨_,rfl,y06 h⟩
theorem zg5:SlR X (rSlW X.K):=by
 intro pins s σ H x v vl vu lo hi sl Q I rx hs pl pu h
 obtain⟨a,xs,rfl,hx,hw,q⟩:=h
 cases rx
 obtain⟨its,r,ht,hz⟩:=I.tuple hx
 have hlen:its.toArray.size=xs.length:=by rw[y0h];exact r.length.symm
 refine⟨"tuple",_,PyProof.Rows.slot_tuple_getitem.lookup,ht.typeIs,?_⟩
 exact z4l ht hs pl pu (by rw[hlen];exact hw) ⟨.ref a,H,I,rfl,q⟩
theorem zl1 (n d:Nat) (o:Option Int):D.sIx n d o=HT.sIx n d o:=by
 cases o with
 | none=>rfl
 | some v =>
  unfold D.sIx HT.sIx
  dsimp only
  split <;> omega
theorem z82 {K:y00} {F:Addr->Prop} {H:Hp} {ts:List T} {vs:List V} (h:RepL K F H ts vs) (lo hi:Option Int):RepL K F H (cutZ ts lo hi) (cutV vs lo hi):=by
 unfold cutZ cutV
 simp only[zl1,h.length]
 exact (h.drop _).take _
theorem zdr {lo hi:Option Expr} {fl fh:Ev->Option (Option Int)} (ha:PEr X e f) (hl:PO X lo (tOt X.K fl)) (hu:PO X hi (tOt X.K fh)):PEv X (.Subscript e (.Slice lo hi none p2) pos) (slice f fl fh):=z0u (zgk ((zkt.or zg5).or ziu) ha hl hu) fun σ H Q ⟨F₀,H₀,O,F,ε,t,r,e,k⟩=>by
 simp only[slice,y01] at e
 obtain⟨x,ex,l,el,h,eh,e⟩:=e
 refine⟨F₀,H₀,O,F,ε,x,r,ex,fun v F1 H1 x1 rx=>⟨F₀,H₀,O,F1,ε,l,r.ext x1,el,fun F2 H2 x2=>⟨F₀,H₀,O,F2,ε,h,(r.ext x1).ext x2,eh,fun F3 H3 x3=>?_⟩⟩⟩
 have x23:=x2.trans x3
 have x13:=x1.trans x23
 unfold oSl at e
 split at e
 ·cases e
  obtain⟨a,vs,rfl,hs,hr⟩:=(rx.ext x23).tup
  by_cases hw:HT.sIx vs.length 0 l=0/\HT.sIx vs.length vs.length h=vs.length
  ·refine .inl (.inr ⟨a,vs,rfl,hs,hw,k _ F3 H3 x13 ?_⟩)
   simp only[Rep]
   refine⟨a,vs,rfl,hs,?_⟩
   have:=z82 hr l h
   unfold cutV at this
   rw[hw.1,hw.2,List.drop_zero,Nat.sub_zero,List.take_length] at this
   exact this
  ·refine .inl (.inl ⟨a,vs,rfl,hs,hw,fun q hq=>?_⟩)
   have x4:=Ext.laid (o:=.tup (cutV vs l h)) x13.dom hq
   refine k _ F3 _ (x13.trans x4) ?_
   simp only[Rep]
   exact⟨q,_,rfl,SqT.of z03,(z82 hr l h).ext x4⟩
 ·cases e
  obtain⟨a,vs,rfl,hs,hr⟩:=(rx.ext x23).lst
  refine .inr ⟨a,vs,rfl,.inl hs,fun q hq=>?_⟩
  have x4:=Ext.laidF (o:=.lst (cutV vs l h)) x13.dom hq
  refine k _ _ _ (x13.trans x4) ?_
  simp only[Rep]
  exact⟨q,_,rfl,.inr rfl,.inl z03,(z82 hr l h).ext x4⟩
 ·cases e
end
section
variable {X:Cx} {a e:Expr} {f:Fe} {p p2 pos pos2:Pos}
end
end
end D
end
section
namespace D
open PySem PySem.W PyProof.Rows
structure OrdK (n:Nat) (lt:Nat->Nat->Bool):Prop where
 asym:∀i j,lt i j=true->lt j i=false
 trans:∀i j k,lt i j=true->lt j k=true->lt i k=true
 tot:∀i j,i<n->j<n->i≠j->lt i j=true\/lt j i=true
def SP (lt:Nat->Nat->Bool) (p:Array Nat) (m:Nat):Prop:=∀i j,i<j->j<m->lt (p.getD i 0) (p.getD j 0)=true
section
variable {n:Nat} {lt:Nat->Nat->Bool} (O:OrdK n lt)
include O
end
end D
end
section
namespace D
open PySem
variable [Tbl]
def ltL:List Int->List Int->Bool
 | [],[]=>false
 | [],_::_=>true
 | _::_,[]=>false
 | a::x,b::y=>decide (a<b) || (decide (a=b) && ltL x y)
theorem zel:∀x:List Int,ltL x x=false
 | []=>rfl
 | a::x=>by simp[ltL,zel x]
end D
end
section
namespace D
open PySem PySem.Spec PyProof.Rows L2
section
variable [Tbl]
open PySem.W (kas_ask kas_sort kat_run kat_snds kat_lt kat_kind KatTups KatLex KatGo kas_item KasT)
section
variable {prog:y0q} {w:World} {A:Around} {E:Value->y04->Prop} {s:y04}
end
section
variable {X:Cx}
variable {e:Expr} {es:List Expr} {fs:List Fe} {p pos:Pos}
end
end
section
variable [Tbl]
section
variable {prog:y0q} {w:World} {K:Type} [DecidableEq K] {knd:PySem.KeyKind prog w K} {A:Around}
variable {R:Result->y04->Prop} {I:Addr} {fp wr:List Addr} {G:Array GenState->Array GenState->Prop} {St:Nat->y04->Prop} {items:Array Value}
variable {E:Value->y04->Prop} {s:y04}
end
end
section
variable [Tbl]
section
variable {X:Cx}
variable {a b e:Expr} {f g:Fe} {x y:Str} {p px py pos pos2:Pos}
end
end
section
variable [Tbl]
open AutoSeq1 (wpAny_loadPart')
noncomputable def IteL (K:y00) (a:Addr):It :=
 ⟨fun i H=>∃xs x,SqL K H a xs/\xs[i]?=some x,fun i H x H'=>∃p v,H p=none/\x=.ref p/\H'=upd H p (.tup [.int i,v])/\∀xs,SqL K H a xs->xs[i]?=some v,fun i H=>∃xs,SqL K H a xs/\xs.length<=i⟩
theorem zce {P:y0q} {w:World} {K:y00} {es:List Expr} {k:Nat} {pos:Pos} (a it e:Addr) (hne:e≠it) (hai:a≠it) (hae:a≠e):Turn P w K (.Tuple es k pos) (IteL K a) [e,it] e (fun i h=>(∃old,IsEnum h e it i old)/\h.IsListIter it a i) where
 mem:=by simp
 obj:=fun i h st b hb=>by
  obtain⟨⟨old,he⟩,o,ho,hc,hd⟩:=st
  rcases y09.mp hb with rfl|hb
  ·exact⟨_,he,fun v z=>by
    have z':Data.fields _=Data.cell v:=z
    cases z'⟩
  ·have e1:b=it:=by simpa using hb
   subst e1
   exact⟨o,ho,fun v z=>by rw[hd] at z;cases z⟩
 keep:=fun i h h' st kk=>by
  obtain⟨⟨old,he⟩,st2⟩:=st
  exact⟨⟨old,kk e (by simp) _ he⟩,st2.at fun o q=>kk it (by simp) o q⟩
 item:=by
  intro X hP hw hK hc i pins s σ H E I hf st hg
  subst hP hw hK
  obtain⟨xs,x,hq,hx⟩:=hg
  obtain⟨its,rv,p,hz⟩:=I.list hq
  obtain⟨u,hu,ru⟩:=rv.get hx
  obtain⟨⟨old,he⟩,hit⟩:=st
  obtain⟨f0,f1,f2,f3,f4,f5⟩:=hf e (by simp)
  obtain⟨g0,g1,g2,g3,g4,g5⟩:=hf it (by simp)
  have hi:i<its.toArray.size:=by
   rw[y0h]
   exact (y0k.mp hu).1
  have hnf:e∉[it,a]:=by
   intro z
   rcases y09.mp z with z|z
   ·exact hne z
   ·have z':e=a:=by simpa using z
    exact hae z'.symm
  refine wpAny_pyNext_enum_itemD (Draws.list (A:=X.A.in1) (I.ok.hd hc) it a hai its.toArray) he ⟨hit,p.isList⟩ hi hne hnf fun x' h' tk hP' ho hs' hT hsz hk=>?_
  have ex:x'=u:=by
   have:=hP'
   rw[<- Array.getElem?_toList] at this
   rw[show (its.toArray).toList=its from rfl,hu] at this
   exact (y28 this).symm
  subst ex
  refine⟨_,rfl,wpAny_letOwnedTupleGo_enum ho fun h2 he2 hs2=>?_⟩
  have helt:e<s.heap.objs.size:=y0c he
  have hilt:it<s.heap.objs.size:=by obtain⟨o,ho',_⟩:=hit;exact y0c ho'
  have k2:∀b o,b≠e->b≠it->s.heap.get? b=some o->h2.get? b=some o:=fun b o h1 h3 q=>hs2.extBut b o h1 (hk b o h1 h3 q)
  have fr:H s.heap.objs.size=none:=I.hok.fresh (y0o _)
  have hT2:h2.get? s.heap.objs.size=some { cls:=.type "tuple",data:=.seq #[.int i tk,x'] }:=hs2.extBut _ _ (y15 helt) hT
  have nH:∀b o,H b=some o->b≠e/\b≠it:=fun b o q=>⟨fun z=>(by rw[z,f0] at q;cases q),fun z=>(by rw[z,g0] at q;cases q)⟩
  have hok2:HOk X.prog X.w (upd H s.heap.objs.size (.tup [.int i,x])) h2:=by
   intro b o q
   by_cases hb:b=s.heap.objs.size
   ·subst hb
    rw[z03] at q
    cases q
    exact⟨by show 2<=y0j;decide,[.int i tk,x'],.cons ⟨tk,rfl⟩ (.cons ru .nil),⟨_,hT2,rfl,_,rfl⟩⟩
   ·rw[z02 hb] at q
    refine (I.hok b o q).stay (fun c v hc' q'=>k2 c v ?_ ?_ q') (fun c q'=>?_) fun c ys q'=>?_
    ·rcases hc' with rfl|hc'
     ·exact (nH _ _ q).1
     ·exact (nH _ _ hc').1
    ·rcases hc' with rfl|hc'
     ·exact (nH _ _ q).2
     ·exact (nH _ _ hc').2
    ·rw[z02 (z0a q' fr)]
     exact q'
    ·rw[z02 (z0a q' fr)]
     exact q'
  have I2:L2.Inv X pins σ (upd H s.heap.objs.size (.tup [.int i,x])) { s with heap:=h2,toks:=tk+1 }:=by
   refine I.step (g':=s.gens) (d':=s.drawn) (ch:=[e,it]) (fun b hb=>?_) (fun b o _ _ hc' q _=>k2 b o (fun z=>hc' (by simp[z])) (fun z=>hc' (by simp[z])) q) (fun b o _ _ hc' q _=>⟨o.slots,k2 b o (fun z=>hc' (by simp[z])) (fun z=>hc' (by simp[z])) q⟩) (fun b o _ q n=>?_)
    (fun b o hc' q=>⟨o,k2 b o (fun z=>hc' (by simp[z])) (fun z=>hc' (by simp[z])) q⟩) (fun b ys q=>by rw[z02 (z0a q fr)];exact q) (fun b o u q=>by rw[z02 (z0a q fr)];exact q) (fun b ps q=>⟨#[],by rw[z02 (z0a q fr),q];simp⟩) (fun m hm=>?_) hok2 I.bare
   ·rcases y09.mp hb with rfl|hb
    ·exact⟨f3,f1,f4,f5⟩
    ·have:b=it:=by simpa using hb
     subst this
     exact⟨g3,g1,g4,g5⟩
   ·rw[z02 (y0y (y0c q))]
    exact n
   ·obtain⟨o,es',ep,ho',r⟩:=hm
    exact⟨o,es',ep,k2 _ o (Ne.symm f1) (Ne.symm g1) ho',r⟩
  refine⟨.ref s.heap.objs.size,_,I2,rfl,⟨s.heap.objs.size,x,fr,rfl,rfl,fun ys hy=>by rw[I.list_inj hy hq];exact hx⟩,⟨⟨_,by simpa using he2⟩,hs'.1.at fun o q=>(hs2.2 it hne.symm).trans q⟩,fun b hb=>?_⟩
  rcases y09.mp hb with rfl|hb
  ·rw[z02 (y0y helt)]
   exact f0
  ·have:b=it:=by simpa using hb
   subst this
   rw[z02 (y0y hilt)]
   exact g0
 done:=by
  intro X hP hw hK hc i pins s σ H E I hf st hg
  subst hP hw hK
  obtain⟨xs,hq,hx⟩:=hg
  obtain⟨its,rv,p,hz⟩:=I.list hq
  obtain⟨⟨old,he⟩,hit⟩:=st
  obtain⟨g0,g1,g2,g3,g4,g5⟩:=hf it (by simp)
  have hT:s.TypeIs (.ref e) "enumerate":=⟨_,he,rfl⟩
  have hl:=rv.length
  unfold pyNext
  refine y02 (wpAny_attempt (wpAny_callSpecial?_slot (name:=Str.ofString "__next__") hT F.slot_enumerate_next
   (wpAny_call_entry F.slot_enumerate_next hT F.entry_enumerate_next ?_ (F.args_enumerate_next_1 _))))
  show y0u _ _ (field (.ref e) 2 >>= _) _ _ _
  refine y02 (wpAny_field he rfl (x:=.ref it) rfl ?_)
  refine y02 (wpAny_nextOf_list_end (I.ok.hd hc) hit p.isList (by simp;omega) fun h' x he' hx'=>?_)
  obtain⟨o,ho,hc'⟩:=hx'
  refine y02 (wpAny_isInstance (T:="StopIteration") (b:=true) ⟨o,ho,hc'⟩ isSubtype_stop ?_)
  exact y06 ⟨rfl,I.turned (t':=s.toks) (fun b o hb q=>he' b o hb q) g0 g1 g3 g4 g5⟩
 self:=fun _ _ _ _ _ st h=>by
  obtain⟨⟨old,he⟩,_⟩:=st
  exact wpAny_pyIter_enum he h
def iEn2 (K:y00) (ta:TA):TI:=fun σ H R=>ta σ H fun vs H1=>∃a xs,vs=[.ref a]/\((SqT K H1 a xs/\R (Ite K a) H1)\/(SqL K H1 a xs/\R (IteL K a) H1))
section
variable {X:Cx} {es:List Expr} {k:Nat} {p pos p2:Pos} {a:Expr} {f:Fe}
theorem zgj {ta:TA} (hg:Gl X "enumerate") (hm:X.mg "enumerate"=none) (ha:PA X [a] ta) (hs:y0a [a] X.env=[(false,eval a X.env)]:=by rfl):PI X (.Tuple es k p2) (.Call (.Name "enumerate" p) [a] [] pos) (iEn2 X.K ta):=by
 intro pins s σ H R I h
 refine Call_ (z4y I hg hm PyProof.Rows.boot_enumerate (y1o (thn (ha pos pins s σ H _ I h) fun us s1 ⟨vs,H1,I1,r1,q1⟩=>?_) hs rfl))
 obtain⟨a,xs,rfl,q1⟩:=q1
 cases r1 with
 | cons r rr =>
  cases rr
  cases r
  have fpo:∀b∈[s1.heap.objs.size+1,s1.heap.objs.size],s1.heap.objs.size<=b:=fun b hb=>by
   rcases y09.mp hb with rfl|hb
   ·exact Nat.le_succ _
   ·have:b=s1.heap.objs.size:=by simpa using hb
    rw[this]
    exact y0o _
  rcases q1 with ⟨hq,q⟩|⟨hq,q⟩
  ·obtain⟨its,rv,pl,hz⟩:=I1.tuple hq
   have hal:a<s1.heap.objs.size:=by obtain⟨o,ho,_⟩:=pl;exact y0c ho
   refine z26 (show s1.heap.IsTuple a its.toArray from pl) fun h' he hit hsz hk=>wpAny_pyIter_enum he ?_
   exact⟨s1.heap.objs.size+1,[s1.heap.objs.size+1,s1.heap.objs.size],_,_,H1,rfl,I1.kept (t':=s1.toks) hk,z8n a s1.heap.objs.size (s1.heap.objs.size+1) (Nat.succ_ne_self _) (y0y hal) (y0y (Nat.lt_succ_of_lt hal)),⟨⟨_,he⟩,hit⟩,fun b hb=>I1.fpOk (fpo b hb) (I1.hok.fresh (fpo b hb)),q⟩
  ·obtain⟨its,rv,pl,hz⟩:=I1.list hq
   have hal:a<s1.heap.objs.size:=by obtain⟨o,n,ho,_⟩:=pl;exact y0c ho
   refine call_enumerate_list pl.isList fun h' he hit hsz hk=>wpAny_pyIter_enum he ?_
   exact⟨s1.heap.objs.size+1,[s1.heap.objs.size+1,s1.heap.objs.size],_,_,H1,rfl,I1.kept (t':=s1.toks) hk,zce a s1.heap.objs.size (s1.heap.objs.size+1) (Nat.succ_ne_self _) (y0y hal) (y0y (Nat.lt_succ_of_lt hal)),⟨⟨_,he⟩,hit⟩,fun b hb=>I1.fpOk (fpo b hb) (I1.hok.fresh (fpo b hb)),q⟩
theorem zco {K:y00} {a:Addr} {F1:Addr->Prop} {H1:Hp} {ts:List T} {vs:List V} (hf:F1 a) (hr:Rd H1 a (.lst vs)) (q:RepL K F1 H1 ts vs):ItOk K (IteL K a) F1 H1 (enum ts) where
 go:=fun i F H t kp d e=>by
  have hi:=(y0k.mp e).1
  simp only[enum,y13,List.length_zipIdx] at hi
  obtain⟨v,h1,_⟩:=q.get (y0v hi)
  exact⟨vs,v,.inl (kp.lst _ _ hf hr).2,h1⟩
 yld:=fun i F H t x H' kp d e y=>by
  obtain⟨p,v,hp,rfl,rfl,y⟩:=y
  have hi:=(y0k.mp e).1
  simp only[enum,y13,List.length_zipIdx] at hi
  obtain⟨v',h1,h2⟩:=(q.kp kp).get (y0v hi)
  have h3:=y vs (.inl (kp.lst _ _ hf hr).2)
  rw[h1] at h3
  cases h3
  have x1:=Ext.laid (o:=.tup [.int i,v]) d hp
  refine⟨F,x1,?_⟩
  have et:t=.tuple [.int i,ts[i]]:=by
   simp only[enum,y14,List.getElem?_zipIdx,y0v hi] at e
   simpa using e.symm
  subst et
  simp only[Rep]
  exact⟨p,_,rfl,SqT.of z03,RepL.cons (by simp[Rep]) (RepL.cons (h2.ext x1) RepL.nil)⟩
 stop:=fun i F H kp hl=>⟨vs,.inl (kp.lst _ _ hf hr).2,by
  simp only[enum,y13,List.length_zipIdx] at hl
  rw[<- q.length]
  exact hl⟩
theorem zjs (hm:X.mg "enumerate"=none) (ha:PEv X a f) (hg:Gl X "enumerate":=by rfl) (hs:y0a [a] X.env=[(false,eval a X.env)]:=by rfl) (hs2:y0a [a] X.env=(false,eval a X.env)::y0a [] X.env:=by rfl) :
  PIt X (.Tuple es k p2) (.Call (.Name "enumerate" p) [a] [] pos) (z24 (z0i f)):=za6 (zgj hg hm (z0f ha z17 hs2) hs) fun σ H R ⟨F₀,H₀,O,F,ε,ts,r,e,k⟩=>by
 simp only[z24,z0i,y07,y01] at e
 obtain⟨us,⟨t,et,e⟩,rfl⟩:=e
 split at e
 ·cases e
  refine⟨F₀,H₀,O,F,ε,_,r,et,fun v F' H' x q=>?_⟩
  simp only[Rep] at q
  obtain⟨a,vs,rfl,hs,hr⟩:=q
  exact⟨a,vs,rfl,.inl ⟨hs,k _ F' H' x (z9g hs hr)⟩⟩
 ·cases e
  refine⟨F₀,H₀,O,F,ε,_,r,et,fun v F' H' x q=>?_⟩
  simp only[Rep] at q
  obtain⟨a,vs,rfl,hf,hs,hr⟩:=q
  exact⟨a,vs,rfl,.inr ⟨.inl hs,k _ F' H' x (zco hf hs hr)⟩⟩
 ·cases e
end
end
section
variable [Tbl]
open AutoSeq1 (wpAny_loadPart')
section
variable {prog:y0q} {w:World} {A:Around} {E:Value->y04->Prop} {s:y04}
theorem z8f {Q:List Value->y04->Prop} {r:Addr} {a b c:Int} {t u v:Tok} {n:Nat} (hh:A.handled=none) (hr:IsRange s.heap r a b c t u v) (hsm:Builtin.Range.small a b c=true) (hn:Builtin.Range.rangeSize a b c=n) (hl:n<=2 ^ 24)
  (hQ:∀h' tk acc',(∀b o,s.heap.get? b=some o->h'.get? b=some o)->ItemsOf (fun i v=>∃t,v=.int (a+i*c) t) acc' n->Q acc'.toList { s with heap:=h',toks:=tk }) :
  y0u (model prog w) A (collect (.ref r)) Q E s:=by
 unfold collect
 refine y02 (wpAny_runValue (codeAny_builtin F.entry_proto_collect ?_))
 rw[y1r F.plain_proto_collect _]
 show y0u _ A.in1 (newList [] >>= fun x=>again (.builtin "list.__iadd__" ⟨[x,.ref r],[]⟩)) _ _ s
 refine y02 (wpAny_newObj_type (y06 ⟨plainId_quiet F.plain_list_iadd _,codeAny_builtin F.entry_list_iadd ?_⟩))
 rw[y1r F.plain_list_iadd _]
 show y0u _ A.in1 (Builtin.List.listExtendWith (.ref s.heap.objs.size) (.ref r) (.ref s.heap.objs.size)) _ _ _
 have hS:(s.heap.push { cls:=.type "list",data:=.seq ([]:List Value).toArray }).get? s.heap.objs.size=some { cls:=.type "list",data:=.seq #[] 0 }:=y0l _ rfl
 have fin':∀h' tk acc' c',(∀b o,b≠s.heap.objs.size->(s.heap.push { cls:=.type "list",data:=.seq ([]:List Value).toArray }).get? b=some o->h'.get? b=some o)->h'.get? s.heap.objs.size=some { cls:=.type "list",dict:=none,data:=.seq acc' c',slots:=#[] }->ItemsOf (fun i v=>∃t,v=.int (a+i*c) t) acc' n ->
   y0u (model prog w) A (match Value.ref s.heap.objs.size with
    | Value.ref x=>do
     match (<- load x).data with
      | Data.seq xs _=>pure xs.toList
      | _=>unsupported "internal:collect"
    | _=>unsupported "internal:collect") Q E { s with heap:=h',toks:=tk }:=fun h' tk acc' c' hk hS' hacc=>by
  show y0u _ A (load s.heap.objs.size >>= _) _ _ _
  refine y02 (wpAny_load hS' (y06 ?_))
  exact hQ h' tk acc' (fun b o e=>hk b o (y0y (y0c e)) (y03 _ e)) hacc
 refine y1c (wpAny_extend_range (A:=A) (R:=fun x s'=>x=.ok (.ret (.ref s.heap.objs.size))/\∃h' tk acc' c',(∀b o,b≠s.heap.objs.size->(s.heap.push { cls:=.type "list",data:=.seq ([]:List Value).toArray }).get? b=some o->h'.get? b=some o)/\h'.get? s.heap.objs.size=some { cls:=.type "list",dict:=none,data:=.seq acc' c',slots:=#[] }/\ItemsOf (fun i v=>∃t,v=.int (a+i*c) t) acc' n/\s'={ s with heap:=h',toks:=tk })
  (s:={ s with heap:=s.heap.push { cls:=.type "list",data:=.seq ([]:List Value).toArray } }) hh (y03 _ hr) hsm hn hl s.heap.objs.size (.ref s.heap.objs.size) 0 hS fun h' tk acc' c' hk hS' hacc=>⟨rfl,h',tk,acc',c',hk,hS',hacc,rfl⟩) (fun f s' h=>?_) (fun e s' h=>?_)
 ·cases f with
  | done f =>
   obtain⟨e,h',tk,acc',c',k1,k2,k3,rfl⟩:=h
   cases e
   exact fin' h' tk acc' c' k1 k2 k3
  | again c'=>exact⟨h.1,codeAny_mono h.2 fun x s'' hx=>by obtain⟨rfl,h',tk,acc',c',k1,k2,k3,rfl⟩:=hx;exact fin' h' tk acc' c' k1 k2 k3⟩
 ·exact absurd h.1 (by simp)
theorem z61 (r:Addr) (a b c:Int) (t u v:Tok) (n:Nat) (hsm:Builtin.Range.small a b c=true) (hn:Builtin.Range.rangeSize a b c=n) (hl:n<=2 ^ 24) :
  Meets (Builtin.«tuple.__new__» ⟨[.type "tuple",.ref r],[]⟩)
   (fun A R s=>A.handled=none/\IsRange s.heap r a b c t u v/\∀(h':Heap) (tk:Nat) (acc:Array Value),(∀b o,s.heap.get? b=some o->h'.get? b=some o)->ItemsOf (fun i v=>∃t,v=.int (a+i*c) t) acc n->R (.ok (.ret (.ref h'.objs.size))) { s with heap:=h'.push { cls:=.type "tuple",data:=.seq acc },toks:=tk }) :=
 .of_wp fun prog w A R s h=>by
  obtain⟨hp,g,d,tk,os⟩:=s;obtain⟨hh,ht,h⟩:=h
  have hsub:=sub_tuple_self
  have hinit:=init_tuple_lookup
  have hmh:=madeHere_tuple
  have hT:Shared.TypeIs ⟨hp,g,d,tk,os⟩ (.ref r) "range":=⟨_,ht,rfl⟩
  wp_walk using wpAny_loadPart' ht,wpAny_typeOf hT,z8f (by simpa using hh) ht hsm hn hl
  intro h' tk' acc hk hacc
  show y0u _ _ (y12 acc.toList.toArray >>= fun v=>ret v) _ _ _
  unfold y12
  have hz:acc.size<=y0j:=by rw[hacc.1,sizeLine_eq];omega
  refine y02 (wpAny_newObj_type ?_ (by show acc.toList.toArray.size<=y0j;simpa using hz))
  refine y06 ⟨_,rfl,?_⟩
  have e:acc.toList.toArray=acc:=by simp
  rw[e]
  exact h h' tk' acc hk hacc
theorem z6w {r:Addr} {a b c:Int} {t u v:Tok} {n:Nat} {Q:Value->y04->Prop} (hh:A.handled=none) (hr:IsRange s.heap r a b c t u v) (hsm:Builtin.Range.small a b c=true) (hn:Builtin.Range.rangeSize a b c=n) (hl:n<=2 ^ 24)
  (h:∀(h':Heap) (tk:Nat) (acc:Array Value),(∀b o,s.heap.get? b=some o->h'.get? b=some o)->ItemsOf (fun i v=>∃t,v=.int (a+i*c) t) acc n->Q (.ref h'.objs.size) { s with heap:=h'.push { cls:=.type "tuple",data:=.seq acc },toks:=tk }) :
  y0u (model prog w) A (call (.type "tuple") [.ref r]) Q E s :=
 callType_new F.called_tuple (by decide) (F.typeCall_tuple_1 _) (F.newCall_tuple_1 _) (fun obj=>F.args_object_init_2 obj _) F.entry_tuple_new
  (z61 r a b c t u v n hsm hn hl) ⟨by simpa using hh,hr,fun h' tk acc hk hacc=>⟨⟨_,y0l _ rfl,rfl⟩,h h' tk acc hk hacc⟩⟩
end
end
section
variable [Tbl]
def z4h:List T->Option T
 | [.int j]=>if 0<=j/\j<=100000 then some (.tuple (rng 0 j)) else none
 | _=>none
def z5a:List T->Option (List Bool)
 | []=>some []
 | .bool b::ts=>(z5a ts).map fun r=>b::r
 | _::_=>none
def oAny:List T->Option T
 | [.list xs]=>(z5a xs).map fun bs=>.bool (bs.any id)
 | _=>none
theorem z7q:∀{ts:List T} {bs:List Bool},z5a ts=some bs->ts=bs.map .bool
 | [],bs,e=>by
  cases e
  rfl
 | t::ts,bs,e=>by
  unfold z5a at e
  split at e
  ·rename_i h
   cases h
  ·rename_i h
   cases h
   simp only[y07] at e
   obtain⟨r,e1,rfl⟩:=e
   rw[z7q e1]
   rfl
  ·cases e
section
variable {K:y00} {F:Addr->Prop} {H:Hp}
theorem z79:∀{bs:List Bool} {vs:List V},RepL K F H (bs.map .bool) vs->vs=bs.map V.bl
 | [],vs,h=>by simpa [RepL] using h
 | n::ns,vs,h=>by
  simp only[y0d,RepL,Rep] at h
  obtain⟨v,r,rfl,rfl,z⟩:=h
  rw[z79 z]
  rfl
end
section
variable {X:Cx} {a e:Expr} {es:List Expr} {f:Fe} {fs:List Fe} {p p2 pos pos2:Pos}
theorem zay:z3l X (.type "range") (fun xs H Q=>∃j:Int,xs=[.int j]/\∀l,H l=none->Q (.ref l) (upd H l (.rng 0 j))):=by
 intro pins s σ H xs us Q I r h
 obtain⟨j,rfl,q⟩:=h
 obtain⟨u,rfl,rx⟩:=z6r r
 obtain⟨t,rfl⟩:=rx
 exact call_range_1 ⟨.ref s.heap.objs.size,_,I.laid (o:=.rng 0 j) (fun b o e=>y03 _ e) (y0o _) ⟨_,_,_,y0l _ rfl⟩,rfl,q _ (I.hok.fresh (y0o _))⟩
theorem zcm {n:Nat} {acc:Array Value} (h:ItemsOf (fun i v=>∃t,v=.int (0+i*1) t) acc n):Vals ((List.range n).map fun (k:Nat)=>V.int (k:Int)) acc.toList:=by
 obtain⟨h1,h2⟩:=h
 have h2':∀(j:Nat) v,acc.toList[j]?=some v->∃t,v=.int (j:Int) t:=fun j v e=>by
  obtain⟨t,rfl⟩:=h2 j v (by rw[<- Array.getElem?_toList];exact e)
  exact⟨t,by congr 1;omega⟩
 rw[<- y1v] at h1
 clear h2
 generalize acc.toList=l at *
 subst h1
 have key:∀(l:List Value) (c:Nat),(∀(j:Nat) v,l[j]?=some v->∃t,v=.int ((c+j:Nat):Int) t)->Vals ((List.range' c l.length).map fun (k:Nat)=>V.int (k:Int)) l:=by
  intro l
  induction l with
  | nil=>intro c _;exact .nil
  | cons v l ih =>
   intro c h
   rw[y0w,List.range'_succ,y0d]
   obtain⟨t,rfl⟩:=h 0 v rfl
   refine .cons ⟨t,rfl⟩ (ih (c+1) fun j v e=>?_)
   obtain⟨t,rfl⟩:=h (j+1) v (by simpa using e)
   exact⟨t,by congr 1;omega⟩
 rw[List.range_eq_range']
 exact key l 0 fun j v e=>by simpa using h2' j v e
theorem zax (hc:X.calm=true):z3l X (.type "tuple") (fun xs H Q=>∃(p:Addr) (n:Nat),xs=[.ref p]/\H p=some (.rng 0 n)/\n<=100000/\∀l,H l=none->Q (.ref l) (upd H l (.tup ((List.range n).map fun (k:Nat)=>V.int (k:Int))))):=by
 intro pins s σ H xs us Q I r h
 obtain⟨p,n,rfl,hq,hn,q⟩:=h
 obtain⟨u,rfl,rx⟩:=z6r r
 cases rx
 obtain⟨t,u,v,ho⟩:=I.hok p _ hq
 refine z6w (n:=n) (I.ok.hd hc) ho (small_one (by omega) (by omega) (by omega) (by omega)) (by rw[rangeSize_one];split <;> omega) (by omega) fun h' tk acc kp hacc=>?_
 have hv:=zcm hacc
 have I1:Inv X pins σ H { s with heap:=h',toks:=tk }:=I.kept (t':=tk) kp
 have I2:Inv X pins σ (upd H h'.objs.size (.tup ((List.range n).map fun (k:Nat)=>V.int (k:Int)))) { s with heap:=h'.push { cls:=.type "tuple",data:=.seq acc },toks:=tk } :=
  I1.laid (t':=tk) (fun b o e=>y03 _ e) (y0o _) (show z2c X.prog X.w _ _ _ (.tup _) from ⟨by rw[y13,List.length_range,sizeLine_eq];omega,acc.toList,hv,by rw[show acc.toList.toArray=acc from by simp];exact IsTup.new _ _⟩)
 exact⟨.ref h'.objs.size,_,I2,rfl,q _ (I1.hok.fresh (y0o _))⟩
theorem zgb (hc:X.calm=true) (hs:X.mg "tuple"=none) (ht:X.mg "range"=none) (ha:PEr X a f) (hg:Gl X "tuple":=by rfl) (hg2:Gl X "range":=by rfl)
  (he:y0a [a] X.env=(false,eval a X.env)::y0a [] X.env:=by rfl) (he2:y0a [.Call (.Name "range" p2) [a] [] pos2] X.env=(false,eval (.Call (.Name "range" p2) [a] [] pos2) X.env)::y0a [] X.env:=by rfl)
  (hpl:(backTo pos (y0a [] X.env)).any (·.1)=false:=by rfl) (hpl2:(backTo pos2 (y0a [] X.env)).any (·.1)=false:=by rfl) :
  PEv X (.Call (.Name "tuple" p) [.Call (.Name "range" p2) [a] [] pos2] [] pos) (opN z4h [f]) :=
 z0u (z4v (zax hc) hg hs (by decide +kernel) (z0f (z4v zay hg2 ht (by decide +kernel) (z0z ha z21 he) (he:=he) (hpl:=hpl2)) z17 he2) (he:=he2) (hpl:=hpl)) fun σ H Q ⟨F₀,H₀,O,F,ε,t,r,e,k⟩=>by
 simp only[opN,args,y01,y07] at e
 obtain⟨ts,⟨t0,e0,us,eu,rfl⟩,e⟩:=e
 cases eu
 unfold z4h at e
 split at e
 next j hx =>
  cases hx
  split at e
  next hz =>
   cases e
   obtain⟨n,rfl⟩:∃n:Nat,j=n:=⟨j.toNat,by omega⟩
   refine⟨F₀,H₀,O,F,ε,[.int n],r,by simp[args,e0],fun vs F1 H1 x1 q1=>?_⟩
   cases q1 with
   | cons q1 q2 =>
    cases q2
    rw[q1.int]
    refine⟨_,rfl,fun l hl=>⟨l,n,rfl,z03,by omega,fun l2 hl2=>?_⟩⟩
    have x2:=Ext.laid (o:=.rng 0 (n:Int)) x1.dom hl
    have x3:=Ext.laid (o:=.tup ((List.range n).map fun (k:Nat)=>V.int (k:Int))) x2.dom hl2
    refine k _ _ _ ((x1.trans x2).trans x3) ?_
    simp only[Rep]
    refine⟨l2,_,rfl,SqT.of z03,?_⟩
    have:=z3n (K:=X.K) (F:=F1) (H:=upd (upd H1 l (.rng 0 (n:Int))) l2 (.tup ((List.range n).map fun (k:Nat)=>V.int (k:Int)))) ((List.range n).map fun (k:Nat)=>(k:Int))
    simp only[y2c,y16] at this
    simp only[rng,Int.sub_zero,Int.toNat_natCast,Int.zero_add]
    exact this
  next=>cases e
 next=>cases e
theorem zfo (hc:X.calm=true):z3l X (.builtin "any") (fun xs H Q=>∃(p:Addr) (bs:List Bool),xs=[.ref p]/\SqL X.K H p (bs.map V.bl)/\Q (.bl (bs.any id)) H):=by
 intro pins s σ H xs us Q I r h
 obtain⟨p,bs,rfl,hq,q⟩:=h
 obtain⟨u,rfl,rx⟩:=z6r r
 cases rx
 obtain⟨its,r',pl,hz⟩:=I.list hq
 have hlt:p<s.heap.objs.size:=by obtain⟨o,n,ho,_⟩:=pl;exact y0c ho
 have hlen:its.length=bs.length:=by have:=r'.length;simpa using this.symm
 refine PySem.call_any_walk (wpAny_pyIter_list (items:=its.toArray) pl.isList ?_)
 refine⟨_,[s.heap.objs.size,p],[s.heap.objs.size],_,_,_,(fun i=>bs.getD i false),rfl,Walks.list (A:=X.A.in1) (I.ok.hd hc) _ p (y0y hlt) its.toArray,⟨⟨_,y0l _ rfl,rfl,rfl⟩,pl.isList.push _⟩,fun i v s' Q' E' hP hQ'=>?_,fun h' tk hk=>?_⟩
 ·have hi:its[i]?=some v:=by simpa using hP
  have hlt':i<bs.length:=by rw[<- hlen];exact (y0k.mp hi).1
  obtain⟨u',e1,e2⟩:=r'.get (i:=i) (x:=V.bl bs[i]) (by simp[hlt'])
  rw[hi] at e1
  cases e1
  have e2':v=.bool bs[i]:=e2
  subst e2'
  refine wpAny_truthy_bool ?_
  have:bs.getD i false=bs[i]:=by simp[hlt']
  exact this▸hQ'
 ·have e:((List.range its.toArray.size).any fun i=>bs.getD i false)=bs.any id:=by
   rw[y0h,hlen,Bool.eq_iff_iff,List.any_eq_true,List.any_eq_true]
   constructor
   ·rintro⟨i,hi,hb⟩
    have hi':=List.mem_range.mp hi
    have:bs.getD i false=bs[i]:=by simp[hi']
    rw[this] at hb
    exact⟨bs[i],List.getElem_mem hi',hb⟩
   ·rintro⟨b,hb,e⟩
    obtain⟨i,hi,rfl⟩:=List.getElem_of_mem hb
    refine⟨i,List.mem_range.mpr hi,?_⟩
    have:bs.getD i false=bs[i]:=by simp[hi]
    rw[this]
    exact e
  rw[e]
  exact⟨.bl (bs.any id),H,I.kept (t':=tk) fun b o e=>hk b o (by simp only[y0z];exact y0y (y0c e)) (y03 _ e),rfl,q⟩
theorem znf (hc:X.calm=true) (hm:X.mg "any"=none) (ha:PAr X (e::es) fs) (hg:Gl X "any":=by rfl) (he:y0a (e::es) X.env=(false,eval e X.env)::y0a es X.env:=by rfl) (hpl:(backTo pos (y0a es X.env)).any (·.1)=false:=by rfl) :
  PEv X (.Call (.Name "any" p) (e::es) [] pos) (opN oAny fs):=z0u (z38 (zfo hc) hg hm (by decide +kernel) ha (he:=he) (hpl:=hpl)) (z4g (by
 intro O F H ts t vs Q d q e k
 unfold oAny at e
 split at e
 ·simp only[y07] at e
  obtain⟨bs,en,rfl⟩:=e
  have:=z7q en
  subst this
  cases q with
  | cons q1 q2 =>
   cases q2
   obtain⟨l0,ws,rfl,hl,hr⟩:=q1.lst
   have:=z79 hr
   subst this
   exact⟨l0,bs,rfl,.inl hl,k _ F H (Ext.refl d) (by simp[Rep])⟩
 ·cases e))
end
end
section
variable [Tbl]
mutual
noncomputable def ltD:T->T->Option Bool
 | .int a,.int b=>some (decide (a<b))
 | .tuple xs,.tuple ys=>lexD xs ys
 | _,_=>none
noncomputable def lexD:List T->List T->Option Bool
 | [],[]=>some false
 | [],_::_=>some true
 | _::_,[]=>some false
 | x::xs,y::ys=>if y1w x y then lexD xs ys else ltD x y
end
noncomputable def LtAt (A:Around) (s:y04) (y x:Value) (b:Bool):Prop :=
 ∀(prog:y0q) (w:World) (E:Value->y04->Prop) (Q:Value->y04->Prop),Q (.bool b) s->y0u (model prog w) A (richCompare .Lt y x) Q E s
inductive GoodP (A:Around) (s:y04) (fin:Bool):List (Value×Value)->Bool->Prop
 | nil:GoodP A s fin [] fin
 | eq {y x:Value} {r:List (Value×Value)} {b:Bool}:SeqAt.EqAt A s y x true->GoodP A s fin r b->GoodP A s fin ((y,x)::r) b
 | lt {y x:Value} {r:List (Value×Value)} {b:Bool}:SeqAt.EqAt A s y x false->LtAt A s y x b->GoodP A s fin ((y,x)::r) b
section
open PySem.SeqAt
open PySem.AutoSeq1 (wpAny_loadPart')
open PySem.MeetsSeq PySem.MeetsSeq2 PySem.MeetsSeq3
theorem z8o (l b:Addr) (items items2:Array Value) (n n2:Nat) (dd dd2:Option Addr) (sl sl2:Array (Option Value)) (z:Bool) :
  Meets (Builtin.«tuple.__lt__» ⟨[.ref l,.ref b],[]⟩)
   (fun A R s=>s.heap.get? l=some { cls:=.type "tuple",dict:=dd,data:=.seq items n,slots:=sl }/\s.heap.get? b=some { cls:=.type "tuple",dict:=dd2,data:=.seq items2 n2,slots:=sl2 } /\
    GoodP A.in1 s (decide (items.size<items2.size)) (items.toList.zip items2.toList) z/\R (.ok (.ret (.bool z))) s) :=
 .of_wp fun prog w A R s h=>by
  obtain⟨hp,g,d,tk,os⟩:=s;obtain⟨hl,hb,hg,h⟩:=h
  have f2:=AutoSeq1.sub_tuple_tuple
  wp_walk using wpAny_loadPart' hl,wpAny_loadPart' hb,wpAny_forIn_list _ (fun rest b s'=>b.1=none/\s'=⟨hp,g,d,tk,os⟩/\GoodP A.in1 ⟨hp,g,d,tk,os⟩ (decide (items.size<items2.size)) rest z) _
  case turn =>
   rintro⟨y,x⟩ rest b s' ⟨hb',rfl,hG⟩
   cases hG with
   | eq he hG =>
    refine y02 (he prog w _ _ ?_)
    wp_walk
    exact⟨rfl,rfl,hG⟩
   | lt he hlt =>
    refine y02 (he prog w _ _ ?_)
    have hri:=hlt prog w
    wp_walk using hri
    exact⟨_,rfl,h⟩
  case fin =>
   rintro⟨b1,b2⟩ s' ⟨hb',rfl,hG⟩
   simp only at hb'
   subst hb'
   cases hG
   wp_walk
   exact⟨_,rfl,by simpa [Builtin.Tuple.tupleCompareSizes] using h⟩
  case h =>
   exact⟨rfl,rfl,hg⟩
mutual
theorem zbm:∀(da db:T) (A:Around) (s:y04) (a b:Value) (as bs:List Addr) (r:Bool),Reads s.heap a da as->Reads s.heap b db bs->da.canLay0=true->db.canLay0=true->A.units+min da.depth db.depth<cLine->ltD da db=some r->LtAt A s a b r
 | .int i,.int j,A,s,_,_,_,_,r,.int _ t,.int _ u,_,_,_,e=>by
  unfold ltD at e
  cases e
  exact fun prog w E Q q=>(PyProof.Rows.lt_int q:y0u (model prog w) A (compareOp .Lt (.int i t) (.int j u)) Q E s)
 | .tuple xs,.tuple ys,A,s,_,_,_,_,r,.tuple (a:=l) (o:=o) (vs:=vs) (n:=n) h1 h2 h3 h4,.tuple (a:=l') (o:=o') (vs:=vs') (n:=n') k1 k2 k3 k4,ha,hb,hu,e=>by
  unfold ltD at e
  simp only[PyData.canLay0] at ha hb
  simp only[y20] at hu
  have hG:=z7l xs ys A.in1 s vs.toList vs'.toList _ _ r h4 k4 ha hb (room_in hu) e
  obtain⟨cls,dd,data,sl⟩:=o
  obtain⟨cls2,dd2,data2,sl2⟩:=o'
  simp only at h2 h3 k2 k3
  subst h2 h3 k2 k3
  rw[y1v,y1v] at hG
  exact fun prog w E Q q=>richCompare_meets_room (op:=.Lt) ⟨_,h1,rfl⟩ ⟨_,k1,rfl⟩ PySem.F.slot_tuple_lt PySem.F.entry_tuple_lt (PySem.F.args_tuple_lt_2 _ _) (z8o l l' vs vs' n n' dd dd2 sl sl2 r)
   ⟨h1,k1,hG,show Value.bool r≠Value.notImplemented/\Q (.bool r) s from ⟨(fun x=>nomatch x),q⟩⟩ (by omega)
 | .none,_,_,_,_,_,_,_,_,_,_,_,_,_,e=>by simp[ltD] at e
 | .bool _,_,_,_,_,_,_,_,_,_,_,_,_,_,e=>by simp[ltD] at e
 | .str _,_,_,_,_,_,_,_,_,_,_,_,_,_,e=>by simp[ltD] at e
 | .list _,_,_,_,_,_,_,_,_,_,_,_,_,_,e=>by simp[ltD] at e
 | .dict _,_,_,_,_,_,_,_,_,_,_,_,_,_,e=>by simp[ltD] at e
 | .int _,.none,_,_,_,_,_,_,_,_,_,_,_,_,e=>by simp[ltD] at e
 | .int _,.bool _,_,_,_,_,_,_,_,_,_,_,_,_,e=>by simp[ltD] at e
 | .int _,.str _,_,_,_,_,_,_,_,_,_,_,_,_,e=>by simp[ltD] at e
 | .int _,.list _,_,_,_,_,_,_,_,_,_,_,_,_,e=>by simp[ltD] at e
 | .int _,.dict _,_,_,_,_,_,_,_,_,_,_,_,_,e=>by simp[ltD] at e
 | .int _,.tuple _,_,_,_,_,_,_,_,_,_,_,_,_,e=>by simp[ltD] at e
 | .tuple _,.none,_,_,_,_,_,_,_,_,_,_,_,_,e=>by simp[ltD] at e
 | .tuple _,.bool _,_,_,_,_,_,_,_,_,_,_,_,_,e=>by simp[ltD] at e
 | .tuple _,.str _,_,_,_,_,_,_,_,_,_,_,_,_,e=>by simp[ltD] at e
 | .tuple _,.list _,_,_,_,_,_,_,_,_,_,_,_,_,e=>by simp[ltD] at e
 | .tuple _,.dict _,_,_,_,_,_,_,_,_,_,_,_,_,e=>by simp[ltD] at e
 | .tuple _,.int _,_,_,_,_,_,_,_,_,_,_,_,_,e=>by simp[ltD] at e
theorem z7l:∀(xs ys:List T) (A:Around) (s:y04) (vs ws:List Value) (as bs:List Addr) (r:Bool),ReadsAll s.heap vs xs as->ReadsAll s.heap ws ys bs->y1f xs=true->y1f ys=true->A.units+min (y1d xs) (y1d ys)<cLine->lexD xs ys=some r->GoodP A s (decide (vs.length<ws.length)) (vs.zip ws) r
 | [],[],A,s,_,_,_,_,r,.nil,.nil,_,_,_,e=>by
  unfold lexD at e
  cases e
  exact .nil
 | [],_::_,A,s,_,_,_,_,r,.nil,.cons _ _,_,_,_,e=>by
  unfold lexD at e
  cases e
  exact GoodP.nil
 | _::_,[],A,s,_,_,_,_,r,.cons _ _,.nil,_,_,_,e=>by
  unfold lexD at e
  cases e
  exact GoodP.nil
 | x::xs,y::ys,A,s,_,_,_,_,r,.cons r1 r2,.cons q1 q2,ha,hb,hu,e=>by
  simp only[y1f,y1a] at ha hb
  simp only[y1d] at hu
  unfold lexD at e
  have he:=eqAt_reads x y A s _ _ _ _ r1 q1 ha.1 hb.1 (room_head hu)
  split at e
  next h =>
   rw[h] at he
   have ih:=z7l xs ys A s _ _ _ _ r r2 q2 ha.2 hb.2 (room_tail hu) e
   rw[List.zip_cons_cons]
   simp only[y0w,Nat.add_lt_add_iff_right]
   exact .eq he ih
  next h =>
   rw[Bool.not_eq_true] at h
   rw[h] at he
   rw[List.zip_cons_cons]
   exact .lt he (zbm x y A s _ _ _ _ r r1 q1 ha.1 hb.1 (room_head hu) e)
end
end
section
variable {prog:y0q} {w:World} {A:Around} {R:Result->y04->Prop} {I:Addr} {fp wr:List Addr} {G:Array GenState->Array GenState->Prop} {St:Nat->y04->Prop} {items:Array Value}
variable {E:Value->y04->Prop} {s:y04}
end
section
variable {X:Cx} {e:Expr} {es:List Expr} {fs:List Fe} {p pos:Pos}
end
end
section
variable [Tbl]
end
end D
end
section
namespace D
open PySem
inductive Ag where
 | v (f:Fe)|o (i:Nat)
abbrev Fx:=Ev->Option (T×Ev)
abbrev Fo:=Ev->Option Sl
def objS (i:Nat) (ε:Ev):Option Sl:=match ε[i]? with
 | some (some (.obj m c fs))=>some (.obj m c fs)
 | _=>none
noncomputable def agsE:List Ag->Ev->Option (List Sl)
 | [],_=>some []
 | .v f::as,ε=>(f ε).bind fun t=>(agsE as ε).map fun ss=>.imm t::ss
 | .o i::as,ε=>(objS i ε).bind fun s=>(agsE as ε).map fun ss=>s::ss
def roS:Sl->Sl
 | .obj _ c fs=>.obj .ro c fs
 | s=>s
def asgX (i:Nat) (f:Fx):Fs:=fun ε=>(f ε).map fun r=>.nx (r.2.set i (some (.imm r.1)))
def zlw:Fs:=fun _=>none
def z8t (n:Nat) (ss:List Sl):Ev:=ss.map some++y0g (n - ss.length) none
end D
end
section
namespace D
open PySem PySem.Spec PyProof.Rows L2
section
variable [Tbl]
section
variable {K:y00} {F F' O:Addr->Prop} {H H':Hp} {E:En}
end
section
variable {K:y00} {F₀ F F1 O:Addr->Prop} {H H1:Hp} {E:En} {ε ε':Ev} {σ:L2.St} {c C i j:Nat} {ns:List Str}
end
end
section
variable [Tbl]
section
variable {K:y00} {F₀ F O:Addr->Prop} {H:Hp} {E:En} {ε:Ev} {σ:L2.St} {c C i j:Nat} {ns:List Str} {f:Str}
end
section
variable {X:Cx} {c C i j:Nat} {ns:List Str} {f:Str} {o e a:Expr} {g h:Fe} {pos apos:Pos}
end
end
section
variable [Tbl]
noncomputable def za5 (K:y00) (F:Addr->Prop) (H:Hp) (σ:L2.St):List Ag->List Sl->List V->Prop
 | [],[],[]=>True
 | .v _::as,s::ss,v::vs=>(∃t,s=.imm t/\Rep K F H t v)/\za5 K F H σ as ss vs
 | .o i::as,s::ss,v::vs=>σ[i]?=some (some v)/\za5 K F H σ as ss vs
 | _,_,_=>False
def tAG (K:y00) (as:List Ag):TA:=fun σ H Q=>∃F₀ E O F ε ss,RelE K F₀ E O F H ε σ/\agsE as ε=some ss/\∀vs F' H',Ext F H F' H'->za5 K F' H' σ as ss vs->Q vs H'
abbrev PAg (X:Cx) (es:List Expr) (as:List Ag):Prop:=PA X es (tAG X.K as)
theorem zmm {X:Cx} {e:List Expr} {t t':TA} (h:PA X e t) (k:∀σ H Q,t' σ H Q->t σ H Q):PA X e t':=za7 h k
section
variable {X:Cx} {e:Expr} {es:List Expr} {as:List Ag} {f:Fe} {i:Nat}
theorem zfx:PAg X [] []:=zmm z17 fun σ H Q ⟨F₀,E,O,F,ε,ss,r,e,k⟩=>by
 cases e
 exact k [] F H (Ext.refl r.dom) trivial
theorem ag_v (h1:PEv X e f) (h2:PAg X es as) (hs:y0a (e::es) X.env=(false,eval e X.env)::y0a es X.env:=by rfl):PAg X (e::es) (.v f::as):=zmm (z0f h1 h2 hs) fun σ H Q ⟨F₀,E,O,F,ε,ss,r,e,k⟩=>by
 simp only[agsE,y01,y07] at e
 obtain⟨t,et,us,eu,rfl⟩:=e
 exact⟨F₀,E,O,F,ε,t,r,et,fun v F1 H1 x1 q1=>⟨F₀,E,O,F1,ε,us,r.ext x1,eu,fun vs F2 H2 x2 q2=>k _ F2 H2 (x1.trans x2) ⟨⟨t,rfl,q1.ext x2⟩,q2⟩⟩⟩
theorem zee {ε:Ev} {s:Sl} (h:objS i ε=some s):∃m c fs,s=.obj m c fs/\ε[i]?=some (some s):=by
 unfold objS at h
 split at h
 next m c fs e =>
  cases h
  exact⟨m,c,fs,rfl,e⟩
 next=>cases h
end
def zkc (K:y00) (F:Addr->Prop) (H:Hp) (ss:List Sl) (vs:List V):Prop:=Paired (fun s v=>s.isOwn=false/\z1r K ⟨H,0⟩ (fun a=>H a=none) F H s v) ss vs
section
variable {K:y00} {F F' F₀ O:Addr->Prop} {H H':Hp} {E E':En}
theorem Paired.get {α β:Type} {R:α->β->Prop}:∀{xs:List α} {ys:List β} {i:Nat} {x:α},Paired R xs ys->xs[i]?=some x->∃y,ys[i]?=some y/\R x y
 | _,_,i,x,.nil,e=>by simp at e
 | _,_,0,x,.cons r _,e=>by
  simp at e
  subst e
  exact⟨_,rfl,r⟩
 | _,_,i+1,x,.cons _ t,e=>by
  obtain⟨y,h1,h2⟩:=Paired.get (i:=i) (x:=x) t (by simpa using e)
  exact⟨y,by simpa using h1,h2⟩
theorem z8s {ss:List Sl} {n i:Nat} {s:Sl} (h:(z8t n ss)[i]?=some (some s)):ss[i]?=some s:=by
 unfold z8t at h
 by_cases hi:i<ss.length
 ·rw[y1k (by simpa using hi),y14,y0v hi] at h
  rw[y0v hi]
  simpa using h
 ·rw[y1i (by simpa using hi),List.getElem?_replicate] at h
  split at h <;> cases h
theorem zdf {vs:List V} {n i:Nat} {v:V} (h:vs[i]?=some v):(vs.map some++y0g n none)[i]?=some (some v):=by
 have hi:=(y0k.mp h).1
 rw[y1k (by simpa using hi),y14,h]
 rfl
theorem zn7 {m:Md} {c:Nat} {fs:List Sl} {v:V} (r:z1r K E O F H (.obj m c fs) v) (E':En) (O':Addr->Prop) (he:∀b∈fpS H (.obj m c fs) v,E'.h b≠none):z1r K E' O' F H (.obj .ro c fs) v:=by
 have r':=r
 obtain⟨a,vs,rfl,ha,hf,nd,ow,la⟩:=r
 rw[z57 ha] at he
 exact⟨a,vs,rfl,ha,hf,nd,fun b hb=>⟨(ow b hb).1,he b hb⟩,fun z=>by cases z⟩
theorem zai {ss:List Sl} {vs:List V} (dom:Dom F H) (q:zkc K F H ss vs) (n:Nat):RelE K F ⟨H,0⟩ (fun a=>H a=none) F H (z8t n ss) (vs.map some++y0g (n - vs.length) none):=by
 have hl:ss.length=vs.length:=Paired.length q
 refine⟨by simp[z8t,hl],fun i s e=>?_,fun i j s u v w hij e1 e2 o1=>?_,Ext.refl dom,fun _ h=>h,fun _ h=>h⟩
 ·obtain⟨v,hv,_,rv⟩:=Paired.get q (z8s e)
  exact⟨v,zdf hv,rv⟩
 ·obtain⟨_,_,z,_⟩:=Paired.get q (z8s e1)
  rw[z] at o1
  cases o1
theorem zfw {ε:Ev} {σ:L2.St} (r:RelE K F₀ E O F H ε σ):∀{as:List Ag} {ss:List Sl} {vs:List V},agsE as ε=some ss->za5 K F H σ as ss vs->zkc K F H (ss.map roS) vs
 | [],ss,vs,e,h=>by
  cases e
  cases vs with
  | nil=>exact .nil
  | cons v vs=>exact h.elim
 | .v f::as,ss,vs,e,h=>by
  simp only[agsE,y01,y07] at e
  obtain⟨t,et,us,eu,rfl⟩:=e
  cases vs with
  | nil=>exact h.elim
  | cons v vs =>
   obtain⟨⟨t',e',rt⟩,h⟩:=h
   cases e'
   exact .cons ⟨rfl,rt⟩ (zfw r eu h)
 | .o i::as,ss,vs,e,h=>by
  simp only[agsE,y01,y07] at e
  obtain⟨s,es,us,eu,rfl⟩:=e
  cases vs with
  | nil=>exact h.elim
  | cons v vs =>
   obtain⟨hv,h⟩:=h
   obtain⟨m,c,fs,rfl,hs⟩:=zee es
   obtain⟨v',hv',rs⟩:=r.val i _ hs
   rw[hv] at hv'
   cases hv'
   refine .cons ⟨rfl,zn7 rs _ _ fun b hb=>?_⟩ (zfw r eu h)
   obtain⟨o,e,_⟩:=rs.at hb
   show H b≠none
   rw[e]
   exact fun z=>by cases z
end
section
variable {P:y0q} {w:World} {K:y00} {mg:Str->Option Value} {base:Heap}
end
theorem za5.len {K:y00} {F:Addr->Prop} {H:Hp} {σ:L2.St}:∀{as:List Ag} {ss:List Sl} {vs:List V},za5 K F H σ as ss vs->vs.length=as.length
 | [],[],[],_=>rfl
 | .v _::as,s::ss,v::vs,h=>by simp[za5.len h.2]
 | .o i::as,s::ss,v::vs,h=>by simp[za5.len h.2]
 | [],[],_::_,h=>h.elim
 | [],_::_,_,h=>h.elim
 | .v _::_,[],_,h=>h.elim
 | .v _::_,_::_,[],h=>h.elim
 | .o _::_,[],_,h=>h.elim
 | .o _::_,_::_,[],h=>h.elim
section
variable {X:Cx} {k n c C i:Nat} {ns:List Str} {d:List Sl->Option T} {x m:Str} {p pos apos:Pos} {o e:Expr} {es:List Expr} {as:List Ag} {fs:List Fe}
end
end
section
variable [Tbl]
section
variable {K:y00} {F F' F₀ O:Addr->Prop} {H H':Hp} {E:En} {P:List Addr} {a b:Addr} {o:HO} {ε:Ev} {σ:L2.St} {c i:Nat} {m:Md} {fs fs':List Sl}
end
section
variable {P:y0q} {w:World} {K:y00} {mg:Str->Option Value} {base:Heap}
end
def tX (K:y00) (f:Fx):TE:=fun σ H Q=>∃F₀ E O F ε t ε',RelE K F₀ E O F H ε σ/\f ε=some (t,ε')/\∀v F' H',Kp K F H F' H'->RelE K F₀ E O F' H' ε' σ->Rep K F' H' t v->Q v H'
abbrev PEx (X:Cx) (e:Expr) (f:Fx):Prop:=PE X e (tX X.K f)
section
variable {X:Cx} {k n c C i:Nat} {ns:List Str} {d:List Sl->Option (T×List Sl)} {x m:Str} {p pos apos:Pos} {o e:Expr} {es:List Expr} {fs gs:List Fe} {fx:Fx}
theorem zix {st:Stmt}:PSt X st zlw:=fun pins s σ H D I ⟨F₀,E,O,F,ε,o,r,e,k⟩=>by cases e
theorem zky (j:Nat) {y:Str} {pos':Pos} (hN:X.N.Nodup) (h:PEx X e fx) (hi:X.N[j]?=some y:=by rfl) (hx:Loc X.env.scope y:=by first|exact Or.inl rfl|exact Or.inr rfl)
  (hs:swapsWith e (some (.Name y pos')) pos.line X.env=pure false:=by rfl) (hf:X.fn y=true\/X.env.scope.names.lookup y=some .local:=by first|exact .inl rfl|exact .inr rfl) :
  PSt X (.Assign [.Name y pos'] e pos) (asgX j fx):=z1t (z44 hN hi hx h hs hf) fun D σ H ⟨F₀,E,O,F,ε,o,r,e,k⟩=>by
 simp only[asgX,y07] at e
 obtain⟨⟨t,ε'⟩,et,rfl⟩:=e
 exact⟨F₀,E,O,F,ε,t,ε',r,et,fun v F' H' kp r' rv=>k _ F' H' kp (r'.set j rv)⟩
end
end
section
variable [Tbl]
section
variable {P:y0q} {w:World} {K:y00} {mg:Str->Option Value} {base:Heap}
end
section
variable {X:Cx} {k n c C i j:Nat} {ns:List Str} {x m f:Str} {p pos apos:Pos} {o e:Expr} {es:List Expr} {fs:List Fe} {fo:Fo}
end
end
section
variable [Tbl]
open AutoSeq1 (wpAny_loadPart')
section
variable {X:Cx} {a e o:Expr} {f g:Fe} {p pos apos:Pos}
end
section
variable {X:Cx} {c C i j:Nat} {ns:List Str} {f:Str} {o e:Expr} {g:Fe} {pos apos:Pos}
end
end
section
variable [Tbl]
open AutoSeq1 (wpAny_loadPart')
section
variable {prog:y0q} {w:World} {A:Around} {E:Value->y04->Prop} {s:y04} {T:String} {r d:Addr} {n:Nat} {P:Nat->Value->Prop} {OK:Heap->Prop}
end
section
variable {X:Cx}
variable {c C i j:Nat} {ns:List Str} {f:Str} {o:Expr} {p pos apos bpos cpos:Pos}
end
end
section
variable [Tbl]
open AutoSeq1 (wpAny_loadPart')
section
variable {prog:y0q} {w:World} {A:Around} {E:Value->y04->Prop} {s:y04} {z TI TO i1 i2 l1 l2:Addr} {k n1 n2:Nat} {P1 P2:Nat->Value->Prop} {S1 S2:Nat->Heap->Prop} {a b f1:Value}
end
end
section
variable [Tbl]
open AutoSeq1 (wpAny_loadPart')
section
variable {prog:y0q} {w:World} {A:Around} {E:Value->y04->Prop} {s:y04}
end
end
section
variable [Tbl]
section
variable {prog:y0q} {w:World} {K:Type} [DecidableEq K] {knd:PySem.KeyKind prog w K} {A:Around} {E:Value->y04->Prop} {s:y04} {R:Result->y04->Prop} {z TI TO i1 i2 l1 l2:Addr} {b1 b2:Bool} {xs ys:Array Value}
end
end
section
variable [Tbl]
section
variable {X:Cx} {a b:Expr} {f g:Fe} {p p2 pos pos2:Pos}
variable {c C i j:Nat} {ns:List Str} {fn:Str} {o:Expr} {apos:Pos}
end
end
section
variable [Tbl]
open AutoSeq1 (wpAny_loadPart')
section
variable {X:Cx} {a b:Expr} {f g:Fe} {pos:Pos}
end
end
section
variable [Tbl]
section
variable {X:Cx} {a b c:Expr} {f g h:Fe} {pos:Pos}
end
section
variable {X:Cx} {c C i j:Nat} {ns:List Str} {f:Str} {o:Expr} {pos apos:Pos}
end
end
section
abbrev t0:Tbl:=⟨[],fun _=>[],fun _=>none⟩
def scriptT (ns:List Int):T:=.list (ns.map .int)
def noL (K:y00):Bool:=K.all fun p=>match p.2.cls with
 | .type t=>t != "list"
 | _=>true
theorem z62 {α β:Type} [BEq α] [LawfulBEq α] {a:α} {b:β}:∀{l:List (α×β)},l.lookup a=some b->(a,b)∈l
  | [],h=>by cases h
  | (x,y)::l,h=>by
    rw[y1e] at h
    split at h
    next q =>
      cases h
      have:a=x:=by simpa using q
      subst this
      simp
    next=>exact y05 _ (z62 h)
end
section
section
variable [Tbl]
variable {X:Cx} {e:Expr} {es:List Expr} {fs:List Fe} {p pos:Pos}
end
end
section
variable [Tbl]
open AutoSeq1 (wpAny_loadPart')
section
variable {X:Cx} {a b:Expr} {f g:Fe} {pos:Pos}
end
end
section
variable [Tbl]
section
variable {X:Cx} {es:List Expr} {k:Nat} {p pos p2:Pos} {a b:Expr} {f g:Fe}
end
end
section
section
variable [Tbl]
variable {X:Cx} {a b:Expr} {f g:Fe} {pos:Pos}
end
end
section
section
variable [Tbl]
variable {X:Cx} {e:Expr} {f:Fe} {pos:Pos}
end
end
section
variable [Tbl]
section
variable {X:Cx} {a b c:Expr} {f g h:Fe} {pos:Pos}
end
section
variable {X:Cx} {pos:Pos}
end
section
variable {X:Cx} {a:Expr} {f:Fe} {p px pos pos2:Pos}
end
end
section
section
variable {X:Cx} {pins:List (Addr×Obj)} {σ:L2.St} {H:Hp} {s:y04} {a:Addr} {d:V} {r:Value} {A:Around} {E:Value->y04->Prop}
end
section
variable {X:Cx} {o e f:Expr} {apos cpos:Pos} {td ty tx:TE}
end
variable [Tbl]
section
variable {X:Cx} {a b:Expr} {f g:Fe} {x:Str} {px apos cpos pos:Pos}
end
section
variable {X:Cx} {a b:Expr} {f g:Fe} {p p2 pos pos2:Pos}
variable {x:Str} {px dpos:Pos}
end
end
section
variable [Tbl]
open PySem.W (kas_ask kas_sort kat_run kat_snds kat_lt kat_kind KatTups KatLex KatGo kas_item KasT)
def hT (x:Str×List T):T:=.tuple (.str x.1::x.2)
section
variable {prog:y0q} {w:World} {A:Around} {s:y04}
end
section
variable {X:Cx}
variable {e:Expr} {es:List Expr} {fs:List Fe} {p pos:Pos}
end
section
variable {X:Cx} {o e:Expr} {f g:Fe} {apos cpos:Pos}
end
section
variable {X:Cx} {a b:Expr} {f g:Fe} {pos:Pos}
end
end
section
section
variable {prog:y0q} {w:World} {A:Around} {E:Value->y04->Prop} {s:y04} {ar:Array Keyed}
end
variable [Tbl]
section
variable {X:Cx}
variable {e:Expr} {es:List Expr} {fs:List Fe} {p pos:Pos}
end
end
section
open AutoSeq1 (wpAny_loadPart')
section
variable {prog:y0q} {w:World} {A:Around} {E:Value->y04->Prop} {s:y04}
end
end
section
variable [Tbl]
section
variable {M:Model} {A:Around} {E:Value->y04->Prop} {s:y04} {env:Env}
end
section
variable {prog:y0q} {w:World} {A:Around} {E:Value->y04->Prop} {s:y04}
end
section
variable {X:Cx} {es:List Expr} {k kc:Nat} {p pos p2 pc pk:Pos} {a:Expr} {f:Fe}
end
section
variable {X:Cx} {e:Expr} {f:Fe} {pos:Pos}
end
end
section
variable [Tbl]
section
variable {X:Cx} {e:Expr} {f:Fe} {te:TE} {pos p p2 p3:Pos}
end
section
variable {X:Cx} {e st:Expr} {te:TE} {tl:TO} {f:Fe} {pos p2:Pos} {lo:Option Expr}
end
end
section
variable [Tbl]
section
variable {X:Cx} {k n c C i:Nat} {ns:List Str} {d:List Sl->Option (T×List Sl)} {x:Str} {p pos:Pos} {o e:Expr} {es:List Expr} {fs:List Fe} {f:Fe}
end
end
section
variable [Tbl]
end
section
theorem zcz {pos:Pos} {c cv:Value} {a b:Int} (l:List Value) (h:TriplesOk l) (e:codeAmong pos (l++[rawInt a,rawInt b,c])=some cv):codeAmong pos l=some cv\/cv=c:=by
 fun_induction TriplesOk l with
 | case1 =>
  simp only[List.nil_append,codeAmong,rawInt] at e
  split at e
  ·exact .inr (y28 e).symm
  ·cases e
 | case2 a' t b' u x rest ih =>
  simp only[List.cons_append,codeAmong] at e ⊢
  split at e
  next hc=>rw[if_pos hc];exact .inl e
  next hc=>rw[if_neg hc];exact ih h e
 | case3 _ _ _=>exact h.elim
noncomputable def BM (mg:Str->Option Value) (h:Heap):Prop:=∃bm ob,mg "__builtins__"=some (.ref bm)/\bm≠builtinsNs/\h.get? bm=some ob/\ob.cls=.type "module"/\ob.dict=some builtinsNs/\ob.data=.plain
def lamO (o:Obj) (q:Addr):HO:=.ext fun h=>h.get? q=some o
def codO (c:Addr) (q:Str):HO:=.ext fun h=>h.CodeRec (.ref c) q
variable [Tbl]
theorem z87 {X:Cx} {pins:List (Addr×Obj)} {σ:L2.St} {H:Hp} {s:y04} {params:Arguments} {body:Expr} {scope:Scope} {lpos:Pos} {c P:Addr} {clos:List (Str×Addr)} {Q:Value->y04->Prop} (I:Inv X pins σ H s)
  (hcode:X.env.code=.ref c) (C:PySem.W.CodeHd X.base c P) (hbm:BM X.mg X.base) (hdef:defaultsOf params X.env=([],[])) (hcl:closureFor scope X.env=pure clos)
  (d:TbS H) (tb:(P,X.env.qual++"<lambda>")∈Tbl.tb) (un:∀p∈Tbl.tb,p.1=P->p.2=X.env.qual++"<lambda>")
  (h:∀(q c':Addr) (ctv:Value) (H':Hp) (s':y04),Inv X pins σ H' s'->z3k H H'->TbS H'->H q=none->H' q=some (lamO (PySem.W.kla_obj "<lambda>" (X.env.qual++"<lambda>") params body scope clos ((X.mg "__name__").getD .none) c' ctv) q) ->
   H' c'=some (codO c' (X.env.qual++"<lambda>"))->Q (.ref q) s') :
  y0u (model X.prog X.w) X.A (eval (.Lambda params body scope lpos) X.env) Q X.xe s:=by
 obtain⟨ps,hH,ht,hg⟩:=d _ tb
 have hP:s.heap.get? P=some (PySem.W.tabObj ps):=I.hok P _ hH
 have ns:s.heap.Ns y0n X.mg:=I.ok.mod.glob.keeps I.bk
 obtain⟨bm,ob,b1,b2,b3,b4,b5,b6⟩:=hbm
 have b3':=I.bk _ _ b3
 have hgP:y0n≠P:=fun z=>by
  obtain⟨o,es,ep,e,hd,_⟩:=ns
  rw[z,hP] at e;cases e;cases hd
 have hbP:bm≠P:=fun z=>by
  rw[z,hP] at b3';cases b3';cases b4
 have hbG:bm≠y0n:=fun z=>by
  obtain⟨o,es,ep,e,hd,_⟩:=ns
  rw[z,e] at b3';cases b3';rw[hd] at b6;cases b6
 have hb:s.heap.BuiltinsAt X.mg P:=⟨bm,ob,b1,b2,hbG,hbP,b3',b4,b5,b6⟩
 have C':=C.keeps I.bk
 refine PySem.W.kla_eval hdef ?_
 cases hf:codeAmong lpos ps.toList with
 | some cv =>
  obtain⟨c',rfl,hc'⟩:=hg lpos cv hf
  refine PySem.W.kla_makeFunctionHit hcl I.ok.glob ns hcode C' hP ht hf hb fun ctv h' tk k hsz=>?_
  have fr:H h'.objs.size=none:=I.hok.fresh hsz
  refine h h'.objs.size c' ctv (upd H h'.objs.size (lamO _ h'.objs.size)) _ (I.laid (t':=tk) (fun b u e=>y03 _ (k b u e)) hsz ⟨y0l _ rfl,⟨_,y0l _ rfl⟩,fun h1 h2 e1 e2=>e2 _ e1⟩)
   (fun b o e=>.inl (by rw[z02 (z0a e fr)];exact e)) (d.new fr) fr z03 (by rw[z02 (z0a hc' fr)];exact hc')
 | none =>
  refine PySem.W.kla_makeFunction hcl I.ok.glob ns hcode C' hP ht hf hgP hb fun c' ctv h' tk hx hge hlt hrec htb=>?_
  have frq:H h'.objs.size=none:=I.hok.fresh (y1l hge (Nat.le_of_lt hlt))
  have frc:H c'=none:=I.hok.fresh hge
  have cq:c'≠h'.objs.size:=y0y hlt
  have neC:∀b o,H b=some o->b≠c':=fun b o e=>z0a e frc
  have neQ:∀b o,H b=some o->b≠h'.objs.size:=fun b o e=>z0a e frq
  have Pc:=neC P _ hH
  have Pq:=neQ P _ hH
  let H':Hp:=upd (upd (upd H P (.tbl (ps++#[rawInt lpos.line,rawInt lpos.col,.ref c']))) c' (codO c' (X.env.qual++"<lambda>"))) h'.objs.size (lamO (PySem.W.kla_obj "<lambda>" (X.env.qual++"<lambda>") params body scope clos ((X.mg "__name__").getD .none) c' ctv) h'.objs.size)
  have eq0:H' h'.objs.size=some (lamO (PySem.W.kla_obj "<lambda>" (X.env.qual++"<lambda>") params body scope clos ((X.mg "__name__").getD .none) c' ctv) h'.objs.size):=z03
  have ec0:H' c'=some (codO c' (X.env.qual++"<lambda>")):=by show upd _ _ _ _=_;rw[z02 cq,z03]
  have eP0:H' P=some (.tbl (ps++#[rawInt lpos.line,rawInt lpos.col,.ref c'])):=by show upd _ _ _ _=_;rw[z02 Pq,z02 Pc,z03]
  have eO:∀b,b≠P->b≠c'->b≠h'.objs.size->H' b=H b:=fun b n1 n2 n3=>by show upd _ _ _ _=_;rw[z02 n3,z02 n2,z02 n1]
  have eS:∀b o,H b=some o->b≠P->H' b=some o:=fun b o e n=>by rw[eO b n (neC b o e) (neQ b o e)];exact e
  have kp:∀b o,b≠P->s.heap.get? b=some o->(h'.push (PySem.W.kla_obj "<lambda>" (X.env.qual++"<lambda>") params body scope clos ((X.mg "__name__").getD .none) c' ctv)).get? b=some o:=fun b o n e=>y03 _ (hx b o n e)
  have nP:∀b,H b=none->b≠P:=fun b e z=>by rw[z,hH] at e;cases e
  have sm:z3k H H':=fun b o e=>by
   by_cases z:b=P
   ·subst z
    rw[hH] at e;cases e
    exact .inr ⟨_,_,rfl,eP0⟩
   ·exact .inl (eS b o e z)
  refine h h'.objs.size c' ctv H' _ (I.un (t':=tk) ⟨fun b o e n _ _=>kp b o (nP b n) e,fun b o e n _ _=>⟨o.slots,kp b o (nP b n) e⟩,fun b o e n _=>?_,fun b o e _=>?_,fun b xs e=>eS b _ e fun z=>by (rw[z,hH] at e;cases e),fun b o u e=>eS b _ e fun z=>by (rw[z,hH] at e;cases e),fun b qs e=>?_⟩ fun a o e=>?_) sm (fun p hp=>?_) frq eq0 ec0
  ·have lt:=y0c e
   rw[eO b (nP b n) (y0y (y0x lt hge)) (y0y (Nat.lt_trans (y0x lt hge) hlt))]
   exact n
  ·by_cases z:b=P
   ·subst z
    exact⟨_,y03 _ htb⟩
   ·exact⟨o,kp b o z e⟩
  ·by_cases z:b=P
   ·subst z
    rw[hH] at e;cases e
    exact⟨_,eP0⟩
   ·exact⟨#[],by rw[eS b _ e z];simp⟩
  ·by_cases z1:a=h'.objs.size
   ·subst z1
    rw[eq0] at e;cases e
    exact⟨y0l _ rfl,⟨_,y0l _ rfl⟩,fun h1 h2 e1 e2=>e2 _ e1⟩
   by_cases z2:a=c'
   ·subst z2
    rw[ec0] at e;cases e
    refine⟨hrec.at fun o e=>y03 _ e,?_,fun h1 h2 e1 e2=>e1.at e2⟩
    obtain⟨c2,o,vs,t,e2,ho,_⟩:=hrec
    cases e2
    exact⟨o,y03 _ ho⟩
   by_cases z3:a=P
   ·subst z3
    rw[eP0] at e;cases e
    exact y03 _ htb
   ·rw[eO a z3 z2 z1] at e
    refine (I.hok a o e).stay (fun b u hb q=>kp b u ?_ q) (fun b q=>eS b _ q fun z=>by (rw[z,hH] at q;cases q)) fun b xs q=>eS b _ q fun z=>by (rw[z,hH] at q;cases q)
    rcases hb with rfl|hb
    ·exact z3
    ·exact fun z=>by rw[z,hH] at hb;cases hb
  ·by_cases z:p.1=P
   ·have e2:=un p hp z
    obtain⟨p1,p2⟩:=p
    simp only at z e2
    subst z e2
    refine⟨_,eP0,by rw[Array.toList_append];exact TriplesOk_snoc _ _ _ _ ht,fun pos cv e=>?_⟩
    rw[Array.toList_append] at e
    rcases zcz _ ht e with e|e
    ·obtain⟨c2,e1,e2⟩:=hg pos cv e
     exact⟨c2,e1,eS _ _ e2 fun z=>by (rw[z,hH] at e2;cases e2)⟩
    ·exact⟨c',e,ec0⟩
   ·obtain⟨qs,q1,q2,q3⟩:=d p hp
    refine⟨qs,eS _ _ q1 z,q2,fun pos cv e=>?_⟩
    obtain⟨c2,e1,e2⟩:=q3 pos cv e
    exact⟨c2,e1,eS _ _ e2 fun z=>by (rw[z,hH] at e2;cases e2)⟩
end
section
variable [Tbl]
end
section
variable [Tbl]
noncomputable def envL (qual:Str) (scope:Scope) (L q:Addr) (cd:Value) (cl:List (Str×Addr)):Env :=
 { scope:=scope,locals:=L,globals:=y0n,cells:=cl,qual:=qual++".<locals>.",func:=some q,code:=cd,frame:=some L,builtins:=builtinsNs }
noncomputable def cxL (P:y0q) (w:World) (K:y00) (mg:Str->Option Value) (base:Heap) (N:List Str) (qual:Str) (scope:Scope) (q:Addr) (cd:Value) (cl:List (Str×Addr)) (A:Around) (outer:List Env) (s:y04) (H:Hp):Cx where
 prog:=P
 w:=w
 K:=K
 mg:=mg
 base:=base
 A:=A.deeper (envL qual scope s.heap.objs.size q cd cl)
 N:=N
 s₀:=s
 H₀:=H
 env:=envL qual scope s.heap.objs.size q cd cl
 outer:=outer
 stack:=envL qual scope s.heap.objs.size q cd cl::outer
 ex:=[]
 calm:=true
 fn:=fun _=>false
 pn:=[]
 xe:=fun _ _=>False
structure Caps (N:List Str) (scope:Scope) (cl:List (Str×Addr)) (σ:L2.St) (H:Hp) (h:Heap):Prop where
 inj:∀x y c,cl.lookup x=some c->cl.lookup y=some c->x=y
 has:∀x,(scope.names.lookup x=some .cell\/scope.names.lookup x=some .free)->∃c,cl.lookup x=some c
 cel:∀x c,cl.lookup x=some c->(∃v,h.IsCell c v)/\H c=none
 len:σ.length=N.length
 val:∀(i:Nat) (x:Str) (v:V),N[i]?=some x->σ[i]?=some (some v)->Vis scope x->∃u c,RelV v u/\scope.names.lookup x=some .free/\cl.lookup x=some c/\h.IsCell c (some u)
theorem z3b {h h':Heap} {c:Addr} {v:Option Value} (x:h.IsCell c v) (k:∀b o,h.get? b=some o->h'.get? b=some o):h'.IsCell c v:=by
 obtain⟨o,ho,hd⟩:=x
 exact⟨o,k _ _ ho,hd⟩
section
variable {P:y0q} {w:World} {K:y00} {mg:Str->Option Value} {base:Heap} {k:Nat} {q c':Addr} {N:List Str} {qual:Str} {scope:Scope} {cd:Value} {cl:List (Str×Addr)} {A:Around} {outer:List Env} {s:y04} {H:Hp} {σ:L2.St}
theorem z7j {h1:Heap} {tk:Nat} {m:Str->Option Value} (hk:scope.kind=.function) (hd:A.handled=none) (e0:Env0 P w K mg base A outer s H) (C:Caps N scope cl σ H s.heap) (hns:h1.Ns s.heap.objs.size m) (kp:∀b o,s.heap.get? b=some o->h1.get? b=some o) :
  Inv (cxL P w K mg base N qual scope q cd cl A outer s H) [] σ H { s with heap:=h1,toks:=tk }:=by
 have noA:∀b:Addr,b∉(cxL P w K mg base N qual scope q cd cl A outer s H).ex:=fun b z=>absurd (show b∈([]:List Addr) from z) (by simp)
 refine⟨⟨e0.mod,hk,rfl,rfl,y0o _,C.inj,C.has,fun y c hf _=>(by cases hf),fun _=>hd,Around.frames_deeper e0.frames,.inr ⟨rfl,rfl⟩,fun b z=>absurd z (noA b),e0.bs,e0.bsz,fun b _ _=>noA b,fun b z=>absurd z (noA b),e0.funs,e0.frf⟩,
  rfl,e0.bare,Un.kept kp,⟨m,hns,fun i y v h1 h2 h3=>?_⟩,fun y c h=>?_,e0.hok.fresh (y0o _),fun y c h=>(C.cel y c h).2,fun p hp=>absurd (show p∈([]:List (Addr×Obj)) from hp) (by simp),e0.hok.kept kp,C.len⟩
 ·obtain⟨u,c,ru,hf,hc,hx⟩:=C.val i y v h1 h2 h3
  exact⟨u,ru,.inr ⟨.inr hf,c,hc,z3b hx kp⟩⟩
 ·obtain⟨⟨v,hv⟩,_⟩:=C.cel y c h
  exact⟨v,z3b hv kp⟩
theorem zeq {params:Arguments} {body:Expr} {pm ctv:Value} {f:Fx} {Q:VK} {E:XK} (hk:scope.kind=.function) (hco:scope.isCoroutine=false) (hgen:scope.isGenerator=false) (hnc:∀x∈scope.names,x.2≠.cell)
  (hb:∀(A:Around) (outer:List Env) (s:y04) (H:Hp),Room k (A.deeper (envL qual scope s.heap.objs.size q (.ref c') cl))->PEx (cxL P w K mg base N qual scope q (.ref c') cl A outer s H) body f)
  (bd:bindArgs (PySem.W.kla_fn "<lambda>" qual params body scope cl pm (.ref c') ctv) ⟨[],[]⟩=pure [])
  (hr:Room (k+1) A) (e0:Env0 P w K mg base A outer s H) (hq:H q=some (lamO (PySem.W.kla_obj "<lambda>" qual params body scope cl pm c' ctv) q)) (hc:H c'=some (codO c' qual)) (C:Caps N scope cl σ H s.heap)
  (h:tX K f σ H Q):codeAny (model P w) A (.call (.ref q) ⟨[],[]⟩) (CR CX0 outer P w H s Q E) s:=by
 have nolim:s.heap.NoLimit:=e0.mod.nolimit.keeps fun b o e=>(e0.bs b o e).1
 refine PySem.W.kla_callFunE hr.depth (e0.hok q _ hq).1 rfl hco hgen rfl (e0.hok c' _ hc).1 ?_
 rw[bd]
 refine y06 (wpAny_newFunctionEnv hnc (fun x hx=>by cases hx) (fun h₁ hns hsb=>⟨nolim.fresh _ hsb,?_⟩) hk)
 have kp:∀b o,s.heap.get? b=some o->h₁.get? b=some o:=fun b o e=>hsb.extBut b o (y0y (y0c e)) (y03 _ e)
 show codeAny _ _ (.expr body (envL qual scope s.heap.objs.size q (.ref c') cl)) _ _
 refine PySem.W.kla_codeExpr ?_
 have I:Inv (cxL P w K mg base N qual scope q (.ref c') cl A outer s H) [] σ H { s with heap:=h₁,toks:=s.toks+([]:List (Str×Value)).length }:=z7j hk hr.hd e0 C hns kp
 refine y1c (hb A outer s H (hr.deeper _) [] _ σ H (fun v H'=>Q v H') I h) (fun u s' hs=>?_) fun e s' hs=>(show False from hs).elim
 obtain⟨v,H',J,rv,qv⟩:=hs
 exact⟨v,H',J.os,J.bare,J.base,J.hok,rv,qv⟩
end
end
section
variable [Tbl]
theorem zbt {P:y0q} {w:World} {K:y00} {mg:Str->Option Value} {base:Heap} {k:Nat} {x qual:Str} {st:Stmt} {f:Addr} {fd:y0b} {N ps:List Str} {A:Around} {outer:List Env} {s:y04} {H:Hp} {us:List Value} {vs:List V} {Q:VK} {E:XK}
  (F:Fun K x qual st f fd) (S:FnScope N ps (z00 st)) (bd:z1f K fd ps []) (hr:Room (k+1) A) (e0:Env0 P w K mg base A outer s H) (r:Vals vs us) (hl:vs.length=ps.length)
  (hbody:∀cdv:Value,Room k (A.deeper (envOfC qual (z00 st) s.heap.objs.size f cdv))->∃t,PSs (cxOf CX0 P w K mg base N qual (z00 st) f cdv A outer s H E).nox (z09 st) t/\t { nx:=fun _ H'=>Q .non H',rt:=Q } (start N vs) H) :
  codeAny (model P w) A (.call (.ref f) ⟨us,[]⟩) (CR CX0 outer P w H s Q E) s:=by
 obtain⟨oc,od,kV,doc,pm,an,cdv,ct,osl,rfl,lk,hcd⟩:=F.ex
 have hul:us.length=ps.length:=by rw[<- r.length];exact hl
 have KX:K.In s.heap:=e0.mod.kin.keeps fun b o e=>(e0.bs b o e).1
 have lim:s.heap.NoLimit:=e0.mod.nolimit.keeps fun b o e=>(e0.bs b o e).1
 have hb:=bd s us KX (by rw[y1u];exact hul)
 rw[y1u] at hb
 have hkind:∀y∈ps.zip us,(z00 st).names.lookup y.1=some .local\/((z00 st).names.lookup y.1=some .cell/\((cellsFrom (s.heap.objs.size+1) (z00 st).names []).lookup y.1).isSome=true):=fun⟨n,v⟩ hy=>by
  rcases S.par n (List.of_mem_zip hy).1 with q|q
  ·exact .inl q
  ·exact .inr ⟨q,PySem.W.cellsFrom_some _ _ _ (.inl q)⟩
 refine codeAny_call_function hr.depth (KX _ _ lk) rfl S.co S.gen rfl (PySem.W.codeRec_of KX hcd) (hb _ _ _ _ ?_)
 refine wpAny_newFunctionEnv_cells S.kind hkind fun env he s1 x=>?_
 subst he
 refine⟨lim.keeps x.toInCall.keep,codeAny_func ?_⟩
 obtain⟨t,ht,hq⟩:=hbody cdv (hr.deeper _)
 have I:Inv (cxOf CX0 P w K mg base N qual (z00 st) f cdv A outer s H E) [] (start N vs) H s1:=z9i S hr.hd e0 hl r x
 refine y1c (ht.nox [] s1 (start N vs) H _ I hq) (fun fl s' hs=>?_) fun e s' hs=>hs
 have fin:∀{σ':L2.St} {H':Hp} {v:V} {u:Value},Inv (cxOf CX0 P w K mg base N qual (z00 st) f cdv A outer s H E) [] σ' H' s'->RelV v u->Q v H'->CE outer P w H s Q u s' :=
  fun {σ' H' v u} J rv q=>⟨v,H',J.os,J.bare,J.base,J.hok,rv,q⟩
 cases fl with
 | ret u =>
  obtain⟨v,σ',H',J,rv,q⟩:=hs
  exact fin J rv q
 | next =>
  obtain⟨σ',H',J,q⟩:=hs
  exact fin (v:=V.non) (u:=Value.none) J rfl q
 | brk =>
  obtain⟨_,_,_,q⟩:=hs
  exact y1t q
 | cont =>
  obtain⟨_,_,_,q⟩:=hs
  exact y1t q
noncomputable def zkr (X:Cx) (i:Nat):TE:=fun σ H Q=>∃q,σ[i]?=some (some (.ref q))/\(∃(o:Obj) (fd:y0b),H q=some (lamO o q)/\o.data=.func fd) /\
 ∀(pins:List (Addr×Obj)) (s:y04),Inv X pins σ H s->codeAny (model X.prog X.w) X.A (.call (.ref q) ⟨[],[]⟩) (CR CX0 X.stack X.prog X.w H s Q E0) s
theorem zja {X:Cx} {i:Nat} {x:Str} {p pos:Pos} (hn:PE X (.Name x p) (tVar i)):PE X (.Call (.Name x p) [] [] pos) (zkr X i):=by
 intro pins s σ H Q I ⟨q,hq,⟨o,fd,ho,hfd⟩,hc⟩
 refine wpAny_Call_Name_kw (thn (hn pins s σ H (fun v H1=>v=.ref q/\H1=H) I ⟨.ref q,hq,rfl,rfl⟩) fun v s1 ⟨y,H1,I1,ry,ey,eh⟩=>?_)
 subst ey
 subst eh
 cases ry
 have fa:PySem.W.FnAt q s1.heap:=by
  have h1:s1.heap.get? q=some o:=(I1.hok q _ ho).1
  obtain⟨c,dct,dt,sl⟩:=o
  cases hfd
  exact⟨_,_,_,_,h1⟩
 refine PySem.W.callWith_F0 fa ?_
 refine wpAny_call (codeAny_mono (hc pins s1 I1) fun r s' hq=>?_)
 cases r with
 | error e=>exact y1t hq
 | ok fl =>
  cases fl with
  | ret u=>exact I1.after hq
  | next=>exact y1t hq
  | brk=>exact y1t hq
  | cont=>exact y1t hq
end
section
variable [Tbl]
theorem zlf {X:Cx} {body:List Stmt} {h₀:ExceptHandler} {hs:List ExceptHandler} {pos:Pos} {t:TS} (hb:PSs X body t) (hx:X.xe=fun _ _=>False:=by rfl):PS X (.Try body (h₀::hs) [] [] pos) t:=by
 intro pins s σ H D I h
 refine wpAny_Try_except (y1c (hb pins s σ H D I h) (fun f s1 hs=>?_) fun e s1 he=>?_)
 ·cases f with
  | next=>exact wpAny_execs_nil hs
  | ret u=>exact hs
  | brk=>exact hs
  | cont=>exact hs
 ·rw[hx] at he
  exact he.elim
theorem z9h {fs ex:List Addr} {H H':Hp} {h h':Heap} {c:Addr} {v:Option Value} (u:Un fs ex H H' h h') (x:h.IsCell c v) (hc:H c=none) (he:c∉ex):h'.IsCell c v:=by
 obtain⟨o,ho,hd⟩:=x
 by_cases hf:c∈fs
 ·obtain⟨sl,e⟩:=u.slot c o ho hc hf he
  exact⟨_,e,hd⟩
 ·exact⟨o,u.keep c o ho hc hf he,hd⟩
theorem zfj {X:Cx} {pins:List (Addr×Obj)} {σ:L2.St} {H:Hp} {s:y04} {scope:Scope} (I:Inv X pins σ H s) (hnc:∀x∈scope.names,x.2≠.cell/\x.2≠.local) (hfr:∀x∈scope.names,x.2=.free->X.env.scope.names.lookup x.1=some .cell) :
  Caps X.N scope (clos X.env scope.names []) σ H s.heap:=by
 have hl:∀x∈scope.names,x.2=.free->∃c,X.env.cells.lookup x.1=some c:=fun x hx hf=>I.ok.has x.1 (.inl (hfr x hx hf))
 have fr:∀x c,(clos X.env scope.names []).lookup x=some c->X.env.cells.lookup x=some c:=z2y hl fun x c e=>by cases e
 refine⟨fun x y c h1 h2=>I.ok.inj x y c (fr x c h1) (fr y c h2),fun x h=>?_,fun x c h=>⟨I.cell x c (fr x c h),I.freeC x c (fr x c h)⟩,I.len,fun i x v h1 h2 h3=>?_⟩
 ·rcases h with h|h
  ·obtain⟨y,hy,e1,e2⟩:=z0s h
   exact absurd e1 (hnc y hy).1
  ·obtain⟨y,hy,e1,e2⟩:=z0s h
   exact z2t (.inl ⟨y,hy,e1,e2⟩)
 ·have hf:scope.names.lookup x=some .free:=by
   rcases h3 with h|h|h
   ·obtain⟨y,hy,e1,_⟩:=z0s h
    exact absurd e1 (hnc y hy).2
   ·obtain⟨y,hy,e1,_⟩:=z0s h
    exact absurd e1 (hnc y hy).1
   ·exact h
  obtain⟨y,hy,e1,e2⟩:=z0s hf
  have hk:X.env.scope.names.lookup x=some .cell:=by rw[<- e2];exact hfr y hy e1
  obtain⟨m,_,hv⟩:=I.loc
  obtain⟨u,ru,lk⟩:=hv i x v h1 h2 (.inr (.inl hk))
  obtain⟨c,hc⟩:=z2t (env:=X.env) (l:=scope.names) (cs:=[]) (x:=x) (.inl ⟨y,hy,e1,e2⟩)
  refine⟨u,c,ru,hf,hc,?_⟩
  rcases lk with ⟨hk2,_⟩|⟨_,c2,hc2,hx⟩
  ·have:X.env.scope.names.lookup x=some .local:=hk2
   rw[hk] at this
   cases this
  ·rw[fr x c hc] at hc2
   cases hc2
   exact hx
def zg3 (f:Fx):Fx:=fun ε=>(f ε).map fun r=>(.tuple [.str "told",r.1],r.2)
def zir (Y:Cx):TS:=tSeq (tAsg (tTup (z2n (tC (.str "told")) (z2n (zkr Y 0) tNil))) (z9m 1)) (tRet (tVar 1))
theorem zkf {X:Cx} {k:Nat} {x:Str} {st:Stmt} {fa:Addr} {fd:y0b} {y0 y1:Str} {NT:List Str} {params:Arguments} {body:Expr} {scope:Scope} {lpos p pos:Pos} {c Pt:Addr} {f:Fx}
  (F:Fun X.K x x st fa fd) (S:FnScope (y0::y1::NT) [y0] (z00 st)) (bd:z1f X.K fd [y0] []) (hm:X.mg x=some (.ref fa))
  (ht:∀(cdv:Value) (A:Around) (outer:List Env) (s:y04) (H:Hp),PSs (cxOf CX0 X.prog X.w X.K X.mg X.base (y0::y1::NT) x (z00 st) fa cdv A outer s H E0).nox (z09 st) (zir (cxOf CX0 X.prog X.w X.K X.mg X.base (y0::y1::NT) x (z00 st) fa cdv A outer s H E0).nox))
  (hcode:X.env.code=.ref c) (C:PySem.W.CodeHd X.base c Pt) (hbm:BM X.mg X.base) (tb:(Pt,X.env.qual++"<lambda>")∈Tbl.tb) (un:∀p∈Tbl.tb,p.1=Pt->p.2=X.env.qual++"<lambda>")
  (hk:scope.kind=.function) (hco:scope.isCoroutine=false) (hgen:scope.isGenerator=false) (hnc:∀x∈scope.names,x.2≠.cell/\x.2≠.local) (hfr:∀x∈scope.names,x.2=.free->X.env.scope.names.lookup x.1=some .cell)
  (bdl:∀(cl:List (Str×Addr)) (pm:Value) (c':Addr) (ctv:Value),bindArgs (PySem.W.kla_fn "<lambda>" (X.env.qual++"<lambda>") params body scope cl pm (.ref c') ctv) ⟨[],[]⟩=pure [])
  (hr:Room (k+2) X.A)
  (hb:∀(q c':Addr) (cl:List (Str×Addr)) (A:Around) (outer:List Env) (s:y04) (H:Hp),Room k (A.deeper (envL (X.env.qual++"<lambda>") scope s.heap.objs.size q (.ref c') cl))->PEx (cxL X.prog X.w X.K X.mg X.base X.N (X.env.qual++"<lambda>") scope q (.ref c') cl A outer s H) body f)
  (hg:Gl X x:=by rfl) (hdb:(x == ("__debug__":Str))=false:=by decide) (hdef:defaultsOf params X.env=([],[]):=by rfl)
  (he:y0a [.Lambda params body scope lpos] X.env=(false,eval (.Lambda params body scope lpos) X.env)::y0a [] X.env:=by rfl) :
  PEx X (.Call (.Name x p) [.Lambda params body scope lpos] [] pos) (zg3 f):=by
 intro pins s σ H Q I ⟨F₀,E,O,F',ε,t,ε',r,e,kk⟩
 simp only[zg3,y07] at e
 obtain⟨⟨t0,ε1⟩,ef,e⟩:=e
 cases e
 refine wpAny_Call_Name_kw (z56 I hg hm ?_ hdb)
 refine PySem.W.callWith_K (h₀:=X.base) I.ok.mod.kin F.kp ?_ he rfl
 rw[he]
 show y0u _ _ (spliced ((false,eval (.Lambda params body scope lpos) X.env)::[])) _ _ s
 have hl:∀x∈scope.names,x.2=.free->∃c,X.env.cells.lookup x.1=some c:=fun x hx hf=>I.ok.has x.1 (.inl (hfr x hx hf))
 refine Calls.spliced_cons (z87 I hcode C hbm hdef (z29 hl) r.dom.tgs tb un fun q c' ctv H1 s1 I1 sm tb1 hqn hq hc=>Calls.spliced_nil ⟨I1.kIn,?_⟩)
 have x1:Ext F' H F' H1:=⟨sm,fun _ h=>h,fun _ h=>.inl h,⟨fun a ha=>by
  obtain⟨o,ho⟩:=r.dom.dm a ha
  exact sm.ne ho,tb1⟩⟩
 have fin:codeAny (model X.prog X.w) X.A (.call (.ref fa) ⟨[.ref q],[]⟩) (CR CX0 X.stack X.prog X.w H1 s1 Q E0) s1:=by
  refine zbt (k:=k+1) (vs:=[.ref q]) F S bd hr I1.env0 (.cons rfl .nil) rfl fun cdv hr2=>⟨_,ht cdv X.A X.stack s1 H1,?_⟩
  refine⟨q,rfl,⟨_,_,hq,rfl⟩,fun pins2 s2 I2=>?_⟩
  have caps:Caps X.N scope (clos X.env scope.names []) σ H1 s2.heap:=by
   have c1:=zfj I1 hnc hfr
   have kp:∀{a:Addr} {v:Option Value},s1.heap.IsCell a v->H1 a=none->s2.heap.IsCell a v:=fun {a v} z n=>z9h I2.base z n (by intro z;exact absurd (show a∈([]:List Addr) from z) (by simp))
   refine⟨c1.inj,c1.has,fun x c h=>?_,c1.len,fun i x v h1 h2 h3=>?_⟩
   ·obtain⟨⟨v,hv⟩,hn⟩:=c1.cel x c h
    exact⟨⟨v,kp hv hn⟩,hn⟩
   ·obtain⟨u,c,ru,hf,hc2,hx⟩:=c1.val i x v h1 h2 h3
    exact⟨u,c,ru,hf,hc2,kp hx (c1.cel x c hc2).2⟩
  refine zeq hk hco hgen (fun x hx=>(hnc x hx).1) (hb q c' _) (bdl _ _ _ _) hr2 I2.env0 hq hc caps ?_
  refine⟨F₀,E,O,F',ε,t0,ε1,r.ext x1,ef,fun v F2 H2 kp2 r2 rv=>?_⟩
  refine⟨by show 2<=y0j;decide,fun pp hp=>⟨.ref pp,rfl,?_⟩⟩
  have x3:=Ext.laid (o:=.tup [.str "told",v]) r2.dom hp
  refine kk _ F2 _ ((x1.kp.trans kp2).trans x3.kp) (r2.ext x3) ?_
  simp only[Rep]
  exact⟨pp,_,rfl,SqT.of z03,RepL.cons (by simp[Rep]) (RepL.cons (rv.ext x3) RepL.nil)⟩
 refine wpAny_call (codeAny_mono fin fun r s' hq=>?_)
 cases r with
 | error e=>exact y1t hq
 | ok fl =>
  cases fl with
  | ret u=>exact I1.after hq
  | next=>exact y1t hq
  | brk=>exact y1t hq
  | cont=>exact y1t hq
end
section
def zhq (ts:List Addr) (H:Hp):Prop:=(∀b,H b=none\/(∃o xs,H b=some (.frz o (.lst xs)))\/(b∈ts/\H b=some (.tbl #[])))/\∀b∈ts,H b=some (.tbl #[])
theorem zem {P:y0q} {w:World} {K:y00} {mg mb:Str->Option Value} {CX:CXT} {k:Nat} {fa a:Addr} {fd:y0b} {x:Str} {sp:Sp} {s₁:y04} {vs:List Value} {ns:List Int} {ts:List Addr}
  (KX:K.In s₁.heap) (hts:∀b∈ts,s₁.heap.get? b=some (PySem.W.tabObj #[])) (hK0:∀b∈ts,K.lookup b=none) (hcd:∀b∈ts,∃c,PySem.W.codeHdIn K c b=true)
  (hns:s₁.heap.Ns y0n mg) (hb:s₁.heap.Ns builtinsNs mb) (hbb:∀x:Str,x≠"__name__"->mb x=bootBuiltins x) (hlim:s₁.heap.NoLimit) (hg:s₁.gens=#[])
  (ha:s₁.heap.get? a=some { cls:=.type "list",data:=.seq vs.toArray }) (hi:IntsAre vs ns) (hl:ns.length<=y0j) (hr:Room k callerA)
  (hbm:BM mg s₁.heap) (F:∀base:Heap,K.In base->base.Ns y0n mg->BM mg base->FnOk P w K mg base CX k fa fd [x] sp) (hbind:∀(s:y04) (u:Value),BindsTo s fd ⟨[u],[]⟩ [(x,u)])
  (hsp:∀H:Hp,zhq ts H->SqL K H a (ns.map V.int)->sp [.ref a] H (fun v _=>v=.bl true) fun _ _ _=>False)
  (hCX:∀H e s',CX [] H s₁ (fun _ _ _=>False) e s'->False) :
  codeAny (model P w) callerA (.call (.ref fa) ⟨[.ref a],[]⟩) (fun r s'=>r=.ok (.ret (.bool true))/\OldK s₁.heap s'.heap/\s'.os=s₁.os/\AllBare s'.gens) s₁:=by
 have rv:=z8m hi
 have lenV:=hi.length
 have nat:a∉ts:=fun z=>by
  have:=hts a z
  rw[ha] at this
  cases this
 have core:∀H:Hp,zhq ts H->SqL K H a (ns.map V.int)->HOk P w H s₁.heap->(∀b,H b≠none->b=a\/b∈ts)->(H a≠none->K.lookup a=none) ->
   codeAny (model P w) callerA (.call (.ref fa) ⟨[.ref a],[]⟩) (fun r s'=>r=.ok (.ret (.bool true))/\OldK s₁.heap s'.heap/\s'.os=s₁.os/\AllBare s'.gens) s₁:=by
  intro H hO hS hok hA hK
  have base_of:∀{b:Addr} {o:Obj},s₁.heap.get? b=some o->H b=none->(hidT s₁.heap H).get? b=some o:=fun e n=>zhd e n
  have noA:∀{b:Addr} {o:Obj} {es:Array DictEntry} {ep:Nat},s₁.heap.get? b=some o->o.data=.dict es ep->H b=none:=fun {b o es ep} e d=>by
   cases q:H b with
   | none=>rfl
   | some u =>
    rcases hA b (by rw[q];simp) with e'|e'
    ·subst e'
     rw[ha] at e;cases e
     have d':Data.seq vs.toArray _=Data.dict es ep:=d
     cases d'
    ·rw[hts b e'] at e;cases e
     have d':Data.fields _=Data.dict es ep:=d
     cases d'
  have nsK:∀{b:Addr} {m:Str->Option Value},s₁.heap.Ns b m->(hidT s₁.heap H).Ns b m:=fun {b m} ⟨o,es,ep,e,d,r⟩=>⟨o,es,ep,base_of e (noA e d),d,r⟩
  have hKb:K.In (hidT s₁.heap H):=fun b o e=>base_of (KX b o e) (by
   cases q:H b with
   | none=>rfl
   | some u =>
    rcases hA b (by rw[q];simp) with e'|e'
    ·subst e'
     rw[hK (by rw[q];simp)] at e;cases e
    ·rw[hK0 b e'] at e;cases e)
  have hbm':BM mg (hidT s₁.heap H):=by
   obtain⟨bm,ob,b1,b2,b3,b4,b5,b6⟩:=hbm
   refine⟨bm,ob,b1,b2,base_of b3 ?_,b4,b5,b6⟩
   cases q:H bm with
   | none=>rfl
   | some u =>
    rcases hA bm (by rw[q];simp) with e'|e'
    ·subst e'
     rw[ha] at b3
     cases b3
     cases b6
    ·rw[hts bm e'] at b3
     cases b3
     cases b6
  have hM:Mod K mg (hidT s₁.heap H):=⟨hKb,nsK hns,⟨mb,nsK hb,hbb⟩,let ⟨mc,h1,h2⟩:=hlim;⟨mc,nsK h1,h2⟩⟩
  have e0:Env0 P w K mg (hidT s₁.heap H) callerA [] s₁ H:=⟨rfl,hM,fun b o e=>zjl e,Nat.le_of_eq (zf3 _ _),trivial,fun b hb=>absurd (show b∈([]:List Addr) from hb) (by simp),hok,.of_eq hg⟩
  refine codeAny_mono ((F _ hKb (nsK hns) hbm').run callerA [] s₁ H ⟨[.ref a],[]⟩ [.ref a] [.ref a] _ _ hr e0 (hbind s₁ (.ref a)) (.cons rfl .nil) (hsp H hO hS)) fun r s' h=>?_
  cases r with
  | error e=>exact (hCX H e s' h).elim
  | ok fl =>
   cases fl with
   | next=>exact y1t h
   | brk=>exact y1t h
   | cont=>exact y1t h
   | ret u =>
    obtain⟨v,H',os,bare,un,hok',r',q⟩:=h
    have q':v=.bl true:=q
    subst q'
    obtain rfl:u=Value.bool true:=r'
    refine⟨rfl,⟨fun b o e=>?_,fun b o e=>un.there b o e (by simp)⟩,os,bare⟩
    cases q:H b with
    | none=>exact .inl (un.keep b o e q (by intro z;exact absurd (show b∈([]:List Addr) from z) (by simp)) (by simp))
    | some u =>
     rcases hO.1 b with z|⟨ob,xs,z⟩|⟨hbt,z⟩
     ·rw[q] at z;cases z
     ·have z2:=un.frzs b ob _ z
      obtain⟨e1,_⟩:=hok b _ z
      obtain⟨e2,_⟩:=hok' b _ z2
      rw[e] at e1;cases e1
      exact .inl e2
     ·obtain⟨more,z2⟩:=un.tbls b _ z
      have e2:s'.heap.get? b=some (PySem.W.tabObj (#[]++more)):=hok' b _ z2
      have e1:=hts b hbt
      rw[e] at e1
      cases e1
      obtain⟨c,hc⟩:=hcd b hbt
      exact .inr (.inl ⟨((PySem.W.codeHd_of_K KX hc).tab e).isCodeTable,rfl,#[],more,rfl,e2⟩)
 cases hk:K.lookup a with
 | some o =>
  have e:=KX a o hk
  rw[ha] at e
  cases e
  refine core (fun b=>if b∈ts then some (.tbl #[]) else none) ⟨fun b=>?_,fun b hb=>if_pos hb⟩ (.inr ⟨_,vs.toArray,_,hk,rfl,rfl,rfl,by rw[y0h,lenV];exact hl,by simpa using rv⟩) (fun b u z=>?_) (fun b z=>?_) fun z=>?_
  ·by_cases hb:b∈ts
   ·exact .inr (.inr ⟨hb,if_pos hb⟩)
   ·exact .inl (if_neg hb)
  ·by_cases hb:b∈ts
   ·have z':=(if_pos hb).symm.trans z
    cases z'
    exact hts b hb
   ·have z':=(if_neg hb).symm.trans z
    cases z'
  ·by_cases hb:b∈ts
   ·exact .inr hb
   ·exact absurd (if_neg hb) z
  ·exact absurd (if_neg nat) z
 | none =>
  refine core (fun b=>if b=a then some (.frz { cls:=.type "list",data:=.seq vs.toArray } (.lst (ns.map V.int))) else if b∈ts then some (.tbl #[]) else none) ⟨fun b=>?_,fun b hb=>?_⟩ (.inl (.inr ⟨{ cls:=.type "list",data:=.seq vs.toArray },if_pos rfl⟩)) (fun b u z=>?_) (fun b z=>?_) fun _=>hk
  ·by_cases hb:b=a
   ·exact .inr (.inl ⟨_,_,if_pos hb⟩)
   ·by_cases hb2:b∈ts
    ·exact .inr (.inr ⟨hb2,(if_neg hb).trans (if_pos hb2)⟩)
    ·exact .inl ((if_neg hb).trans (if_neg hb2))
  ·have ne:b≠a:=fun z=>nat (z▸hb)
   exact (if_neg ne).trans (if_pos hb)
  ·by_cases hb:b=a
   ·have z':=(if_pos hb).symm.trans z
    cases z'
    subst hb
    exact⟨ha,by rw[y13];exact hl,vs,_,rv,ha⟩
   ·by_cases hb2:b∈ts
    ·have z':=((if_neg hb).trans (if_pos hb2)).symm.trans z
     cases z'
     exact hts b hb2
    ·have z':=((if_neg hb).trans (if_neg hb2)).symm.trans z
     cases z'
  ·by_cases hb:b=a
   ·exact .inl hb
   ·by_cases hb2:b∈ts
    ·exact .inr hb2
    ·exact absurd ((if_neg hb).trans (if_neg hb2)) z
theorem zg0 {l:PySem.W.OpenLaw} {n k:Nat} {q:y0q} {loose:List Str} {XP:(Str->Option Value)->Heap->Prop} {YP:World->Heap->Prop} {d:DefRec} {K:Params->y00} {CX:World->CXT} {sp:World->Sp} {x:Str} {ts:List Addr}
  (hn:l.most=some n) (hn2:n<=y0j) (hdf:d.params.defaults=[]) (hr:Room k callerA)
  (hY:∀(w:World) (h:Heap),YP w h->(K w.params).In h) (hT:∀(w:World) (h:Heap),YP w h->∀b∈ts,h.get? b=some (PySem.W.tabObj #[]))
  (hK0:∀(w:World),∀b∈ts,(K w.params).lookup b=none) (hcd:∀(w:World),∀b∈ts,∃c,PySem.W.codeHdIn (K w.params) c b=true)
  (F:∀(w:World) (mg:Str->Option Value) (fa:Addr) (h:Heap),(K w.params).In h->h.Ns y0n mg->mg d.name=some (.ref fa) ->
   ∃fd:y0b,(∀(s:y04) (u:Value),BindsTo s fd ⟨[u],[]⟩ [(x,u)]) /\
    ∀base:Heap,(K w.params).In base->base.Ns y0n mg->BM mg base->FnOk l.prog w (K w.params) mg base (CX w) k fa fd [x] (sp w))
  (hsp:∀(w:World) (H:Hp) (a:Addr) (ns:List Int),ns.length<=n->zhq ts H->SqL (K w.params) H a (ns.map V.int)->sp w [.ref a] H (fun v _=>v=.bl true) fun _ _ _=>False)
  (hCX:∀(w:World) (H:Hp) (s:y04) (e:Value) (s':y04),CX w [] H s (fun _ _ _=>False) e s'->False) :
  PySem.W.WalkO q loose XP YP l.row.toRowW d [] (fun f vs=>PySem.call f vs):=by
 refine Att.attach_call hn hdf fun w s₀ s₁ mg mb fa o pm cd doc a vs ns G Y ho hd hcd' hmg hobj hints hlen hg=>?_
 have KX:=hY w _ Y
 obtain⟨fd,hb,hF⟩:=F w mg fa _ KX G.T.g hmg
 exact zem KX (hT w _ Y) (hK0 w) (hcd w) G.T.g G.T.b G.T.builtins G.T.nolimit hg hobj hints (y1l hlen hn2) hr G.T.bmain hF hb (fun H hO hS=>hsp w H a ns hlen hO hS) fun H e s'=>hCX w H s₁ e s'
theorem zdg {t:Tbl} {K:y00} {H:Hp} {a:Addr} {ns:List Int} {d:List T->Option T} {ts:List Addr} (hts:∀p∈t.tb,p.1∈ts) (hO:zhq ts H) (hL:noL K=true) (hd:d [scriptT ns]=some (.bool true)) (hS:SqL K H a (ns.map V.int)):spT K 1 d [.ref a] H (fun v _=>v=.bl true) fun _ _ _=>False:=by
 rcases hS with hS|⟨o,its,n,hk,hc,_⟩
 ·refine⟨rfl,fun b=>b=a,[scriptT ns],.bool true,⟨?_,fun p hp=>⟨#[],hO.2 p.1 (hts p hp),trivial,fun pos cv e=>by cases e⟩⟩,RepL.cons ?_ RepL.nil,hd,fun v F' H' x r=>by simpa [Rep] using r⟩
  ·rintro b rfl
   rcases hS with q|⟨u,q⟩
   ·exact⟨_,q⟩
   ·exact⟨_,q⟩
  ·simp only[scriptT,Rep]
   exact⟨a,_,rfl,rfl,hS,z3n ns⟩
 ·have:=List.all_eq_true.mp hL _ (z62 hk)
  simp[hc] at this
end
section
variable [Tbl]
def z5h (f:Fe):Fx:=fun ε=>(f ε).map fun t=>(t,ε)
def op2X (o:T->T->Option T) (f g:Fx):Fx:=fun ε=>(f ε).bind fun r=>(g r.2).bind fun s=>(o r.1 s.1).map fun z=>(z,s.2)
abbrev Ftx:=Ev->Option (Bool×Ev)
def tstX (f:Fx):Ftx:=fun ε=>(f ε).bind fun r=>match r.1 with
 | .bool b=>some (b,r.2)
 | _=>none
def iffX (c:Ftx) (a b:Fs):Fs:=fun ε=>(c ε).bind fun r=>if r.1 then a r.2 else b r.2
def tTX (K:y00) (f:Ftx):TT:=fun σ H Q=>∃F₀ E O F ε b ε',RelE K F₀ E O F H ε σ/\f ε=some (b,ε')/\∀F' H',Kp K F H F' H'->RelE K F₀ E O F' H' ε' σ->Q b H'
abbrev PTx (X:Cx) (e:Expr) (f:Ftx):Prop:=PT X e (tTX X.K f)
section
variable {X:Cx} {a b e:Expr} {es:List Expr} {f g:Fx} {fe:Fe} {ft:Ft} {c d:Ftx} {pos:Pos}
theorem zd4 (h:PEv X e fe):PEx X e (z5h fe):=z0u h fun σ H Q ⟨F₀,E,O,F,ε,t,ε',r,e,k⟩=>by
 simp only[z5h,y07] at e
 obtain⟨t',et,e⟩:=e
 cases e
 exact⟨F₀,E,O,F,ε,t,r,et,fun v F' H' x rv=>k v F' H' x.kp (r.ext x) rv⟩
theorem zgp {o:T->T->Option T} {R:R2} (h:Op2 X.K o R):∀σ H Q,tX X.K (op2X o f g) σ H Q->tOp R (tX X.K f) (tX X.K g) σ H Q:=by
 rintro σ H Q ⟨F₀,E,O,F,ε,t,ε',r,e,k⟩
 simp only[op2X,y01,y07] at e
 obtain⟨⟨x,ε1⟩,ex,⟨y,ε2⟩,ey,z,eo,e⟩:=e
 cases e
 refine⟨F₀,E,O,F,ε,x,ε1,r,ex,fun vx F1 H1 kp1 r1 rx=>⟨F₀,E,O,F1,ε1,y,ε2,r1,ey,fun vy F2 H2 kp2 r2 ry=>?_⟩⟩
 exact h O F2 H2 x y t vx vy Q r2.dom (.inl (rx.kp kp2)) (.inl ry) eo fun v F' H' x3 q3=>k v F' H' ((kp1.trans kp2).trans x3.kp) (r2.ext x3) q3
theorem zmq {op:CmpOp} {R:R2} {o:T->T->Option T} (ho:OpR X (compareOp op) R) (h2:Op2 X.K o R) (ha:PEx X a f) (hb:PEx X b g) (hm:behindInMarks op b=false:=by first|exact zbl _|rfl):PTx X (.Compare a [op] [b] pos) (tstX (op2X o f g)) :=
 z5g (zam ho ha hb hm) fun σ H Q ⟨F₀,E,O,F,ε,b,ε',r,e,k⟩=>by
 simp only[tstX,y01] at e
 obtain⟨⟨t,ε1⟩,et,e⟩:=e
 split at e
 next z hz =>
  cases e
  subst hz
  refine zgp h2 σ H _ ⟨F₀,E,O,F,ε,_,_,r,et,fun v F' H' kp r' q=>?_⟩
  simp only[Rep] at q
  exact⟨_,q,k F' H' kp r'⟩
 next=>cases e
theorem zn3 {g1 g2:Fs} {rest els:List Stmt} (hc:PTx X e c) (ha:PBt X rest g1) (hb:PBt X els g2):PSt X (.If e rest els pos) (iffX c g1 g2):=z1t (zgg hc ha hb) fun D σ H ⟨F₀,E,O,F,ε,o,r,e,k⟩=>by
 simp only[iffX,y01] at e
 obtain⟨⟨z,ε1⟩,ec,e⟩:=e
 refine⟨F₀,E,O,F,ε,z,ε1,r,ec,fun F1 H1 kp1 r1=>?_⟩
 cases z with
 | true=>exact iteT ⟨F₀,E,O,F1,ε1,o,r1,by simpa using e,k.kp kp1⟩
 | false=>exact iteF ⟨F₀,E,O,F1,ε1,o,r1,by simpa using e,k.kp kp1⟩
end
end
section
variable [Tbl]
section
variable {X:Cx} {a b:Expr} {f g:Fo} {pos:Pos}
end
end
section
variable [Tbl]
theorem zf6 {P:y0q} {w:World} {K:y00} {mg:Str->Option Value} {base:Heap} {x qual:Str} {st:Stmt} {f:Addr} {oc:Value} {od an:Option Addr} {osl:Array (Option Value)} {kV doc pm cdv ct:Value} {N ps:List Str} {k:Nat} {b:Fs}
  (l:K.lookup f=some ⟨oc,od,.func (y0i x qual (z0h st) (z09 st) (z00 st) .none kV doc pm an cdv ct),osl⟩) (hcd:y0f K cdv qual=true) (S:FnScope N ps (z00 st))
  (hb:∀(A:Around) (outer:List Env) (s:y04) (H:Hp) (E:XK),Room k (A.deeper (envOfC qual (z00 st) s.heap.objs.size f cdv)) ->
   PBt (cxOf CX0 P w K mg base N qual (z00 st) f cdv A outer s H E).nox (z09 st) b) :
  FnOk P w K mg base CX0 (k+1) f (y0i x qual (z0h st) (z09 st) (z00 st) .none kV doc pm an cdv ct) ps (spT K ps.length (runF b N.length)):=by
 refine zjx l hcd S (fun vs H Q E h=>h.1) fun A outer s H vs Q E hr h=>⟨_,(hb A outer s H E hr).nox,?_⟩
 obtain⟨hl,F,ts,t,dom,q,e,kq⟩:=h
 simp only[runF,y01] at e
 obtain⟨o,eo,e⟩:=e
 refine⟨F,⟨H,0⟩,fun a=>H a=none,F,_,o,?_,eo,?_⟩
 ·have:=z7a (N:=N) dom q (N.length - ts.length)
  unfold L2.start
  rw[q.length] at this ⊢
  exact this
 ·cases o with
  | rt t' =>
   cases e
   exact fun v F' H' x q=>kq v F' H' x q
  | nx ε' =>
   cases e
   exact fun σ' F' H' _ r=>kq _ F' H' r.ent (by simp[Rep])
  | bk _=>cases e
  | ct _=>cases e
  | rtm _ _=>cases e
  | rto _=>cases e
end
section
abbrev tOf (tb:List (Addr×Str)):Tbl:=⟨tb,fun _=>[],fun _=>none⟩
theorem zjy {t:Tbl} {tb:List (Addr×Str)} (ht:t.tb=tb) {P:y0q} {w:World} {K:y00} {mg:Str->Option Value} {base:Heap} {k n:Nat} {f:Addr} {fd:y0b} {ps:List Str} {d:List T->Option T} (F:FnOk P w K mg base CX0 k f fd ps (@spT t K n d)):FnOk P w K mg base CX0 k f fd ps (@spT (tOf tb) K n d):=by
 subst ht
 have d1:∀{F:Addr->Prop} {H:Hp},@Dom (tOf t.tb) F H->@Dom t F H:=fun {F H} h=>@Dom.mk t F H (@Dom.dm (tOf t.tb) F H h) (@Dom.tgs (tOf t.tb) F H h)
 have d2:∀{F:Addr->Prop} {H:Hp},@Dom t F H->@Dom (tOf t.tb) F H:=fun {F H} h=>@Dom.mk (tOf t.tb) F H (@Dom.dm t F H h) (@Dom.tgs t F H h)
 refine F.imp fun vs H Q E h=>?_
 obtain⟨hl,F,ts,r,dom,q,e,kq⟩:=h
 exact⟨hl,F,ts,r,d1 dom,q,e,fun v F' H' x rv=>kq v F' H' (@Ext.mk (tOf t.tb) F H F' H' (@Ext.same t F H F' H' x) (@Ext.sub t F H F' H' x) (@Ext.new t F H F' H' x) (d2 (@Ext.dom t F H F' H' x))) rv⟩
end
end D
end
section
namespace D
open PySem PySem.Spec PySem.Calls PySem.W PyProof.Rows PySem.Builtin PySem.Builtin.ObjectAttr PySem.Builtin.Getset_descriptor
def z3e (x C:Addr) (h:Heap):Prop:=∃o vs,h.get? x=some o/\o.cls=.ref C/\o.data=.fields vs
structure ExcOk (K:Frag) (C:Addr):Prop where
 cl:(clsIn K C).isSome=true
 ga:findIn K (.ref C) "__getattribute__"=some (some (.builtin "BaseException.__getattribute__"))
 gn:findIn K (.ref C) "__getattr__"=some none
 at_:findIn K (.ref C) "__class__"=some (some (.builtin "object.__class__"))
 sp:specialIn K (.builtin "object.__class__") "__get__"=some (some (.builtin "getset_descriptor.__get__"))
 tk:takesIn K (.builtin "object.__class__")=some true
 mo:mroIn K C (.type "object")=some true
 mb:mroIn K C (.type "BaseException")=some true
section
variable {prog:y0q} {w:World} {A:Around} {E:Value->y04->Prop} {s:y04} {K:Frag} {x C:Addr} {R:Result->y04->Prop}
theorem z3e.type {M:Model} {h:Heap} (I:z3e x C h):Looks M h (typeOf (.ref x)) (.ref C):=by
 obtain⟨o,vs,h1,h2,h3⟩:=I
 exact h2▸(Looks.ld h1).andThen .now
theorem zjz {tp:Value} (X:K.In s.heap) (I:z3e x C s.heap) (hm:mroIn K C (.type "object")=some true)
  (h:R (.ok (.ret (.ref C))) s):codeAny (model prog w) A (.call (.builtin "getset_descriptor.__get__") ⟨[.builtin "object.__class__",.ref x,tp],[]⟩) R s:=by
 obtain⟨hh,g,dr,t,os⟩:=s
 have L0:=I.type (M:=model prog w)
 have L1:=looks_mroIn (M:=model prog w) X hm
 refine codeAny_call_builtin KF.slot_gs.plain KF.entry_gs (KF.slot_gs.check _ _ _ _ _ _ _ _ KF.type_class (KF.args_gs _ _ _) ?_)
 unfold Builtin.«getset_descriptor.__get__» descrGet
 rw[dga_obj]
 refine y02 (y06 ?_)
 unfold descrGetter descrCheckInstance descrNameAndClass isInstance
 simp only[KF.owner_class]
 obtain⟨o,vs,h1,h2,h3⟩:=I
 repeat lk
 refine⟨Code.quiet_builtin _ (by decide +kernel),codeAny_builtin KF.entry_class ?_⟩
 unfold Builtin.«object.__class__» shownTypeOf
 repeat lk
 exact h
theorem zhf {M:Model} {h:Heap} (X:K.In h) (O:ExcOk K C):Looks M h (find (.ref x) (.ref C) "__class__") (.bind (.builtin "getset_descriptor.__get__") (.builtin "object.__class__")):=by
 have L1:=looks_findIn (M:=M) X O.at_
 have L2:Looks M h (getOf (some (.builtin "object.__class__"))) (some (.builtin "getset_descriptor.__get__")):=looks_specialIn X O.sp
 have L3:=looks_takesIn (M:=M) X O.tk
 refine L1.andThen (L2.andThen ?_)
 exact (show Looks M h (dataDescriptor? (some (.builtin "object.__class__")) (some (.builtin "getset_descriptor.__get__"))) (some (.builtin "getset_descriptor.__get__",.builtin "object.__class__")) from L3.andThen .now).andThen (Looks.tag .now)
theorem zf8 {tk:Tok} {Q:Fin->y04->Prop} (X:K.In s.heap) (I:z3e x C s.heap) (O:ExcOk K C) (hq:Q (.done (.ret (.ref C))) s) :
  y0u (model prog w) A (Builtin.«object.__getattribute__» ⟨[.ref x,.str "__class__" tk],[]⟩) Q E s:=by
 obtain⟨hh,g,dr,t,os⟩:=s
 have L0:=I.type (M:=model prog w)
 have L1:=zhf (x:=x) (M:=model prog w) X O
 unfold Builtin.«object.__getattribute__»
 refine y02 (y06 (a:=(Value.ref x,[Value.str "__class__" tk])) (y02 (y06 (a:=("__class__":Str)) ?_)))
 refine y02 (L0.at (y02 (L1.at ?_)))
 show y0u _ _ (holding [Value.builtin "object.__class__"] (call (Value.builtin "getset_descriptor.__get__") [Value.builtin "object.__class__",Value.ref x,Value.ref C]) >>= ret) _ _ _
 exact y02 (wpAny_holding (wpAny_call (zjz X I O.mo (y06 hq))))
theorem zfa {M:Model} {tk:Tok} {Q:Unit->y04->Prop} (X:K.In s.heap) (I:z3e x C s.heap) (O:ExcOk K C) (hq:Q () s) :
  y0u M A (checkBuiltinCall "BaseException.__getattribute__" ⟨[.ref x,.str "__class__" tk],[]⟩) Q E s:=by
 obtain⟨hh,g,dr,t,os⟩:=s
 have L0:=I.type (M:=M)
 have L1:=looks_mroIn (M:=M) X O.mb
 have LI:Looks M hh (isInstance (.ref x) (.type "BaseException")) true:=L0.andThen L1
 have hsplit:splitId "BaseException.__getattribute__"=some ("BaseException","__getattribute__"):=by decide +kernel
 have hk:builtinKind "BaseException.__getattribute__"=some .slot:=by decide +kernel
 have ha:=PySem.F.args_bexc_ga (.ref x) (.str "__class__" tk)
 simp only[checkBuiltinCall,hk,hsplit]
 refine y02 (LI.at ?_)
 simp only[Bool.not_true,y1p,if_false]
 cases hsig:Manifest.signature? "BaseException.__getattribute__" with
 | none=>exact y06 hq
 | some sig =>
  simp only[argsOk,hsig] at ha
  have h2:Bind.checkArgs "BaseException.__getattribute__" sig ⟨[.ref x,.str "__class__" tk],[]⟩=pure ():=ha
  show y0u M A (Bind.checkArgs "BaseException.__getattribute__" sig ⟨[.ref x,.str "__class__" tk],[]⟩) Q E _
  rw[h2]
  exact y06 hq
theorem zf9 {Q:Option Value->y04->Prop} (X:K.In s.heap) (I:z3e x C s.heap) (O:ExcOk K C) (hq:Q (some (.ref C)) { s with toks:=s.toks+1 }) :
  y0u (model prog w) A (getAttr? (.ref x) "__class__") Q E s:=by
 obtain⟨hh,g,dr,t,os⟩:=s
 have L0:=I.type (M:=model prog w)
 have L1:=looks_findIn (M:=model prog w) X O.ga
 have L2:=looks_findIn (M:=model prog w) X O.gn
 unfold getAttr? getAttrBy? getAttrBy
 refine y02 (wpAny_mkText (y02 (wpAny_attempt (wpAny_holding (y02 (L0.at (y02 (L1.at ?_))))))))
 show y0u _ _ (getAttrByItsOwn _ _ _ _ _ _) _ _ _
 unfold getAttrByItsOwn
 refine y02 (L2.at ?_)
 refine y02 (wpAny_attempt (wpAny_holding ?_))
 show y0u _ _ (boundAndCalled _ _ _) _ _ _
 unfold boundAndCalled
 rw[PySem.F.excAttr_ValueError.ga.bind]
 refine y02 (y06 ?_)
 refine wpAny_call (codeAny_call_builtin PySem.F.excAttr_ValueError.ga.plain PySem.F.entry_bexc_ga (zfa X I O (zf8 X I O ?_)))
 exact y06 (y06 hq)
theorem zh7 (O:ExcOk K C):KitX K (.ref x) (.ref C) (z3e x C) where
 ty:=fun _ _ _ I=>I.type
 it:=fun _ _ X _=>by
  have hcD:=O.cl
  unfold clsIn at hcD
  split at hcD
  ·rename_i c' d' cd' sl' ho
   intro A' Q' E' s' k q
   unfold isType loadHead
   exact y02 (wpAny_loadPart (k _ _ (X _ _ ho)) (y06 q))
  ·cases hcD
 ne:=fun h tp dd its n sl X htp=>by
  have hcD:=O.cl
  refine Bool.eq_false_iff.mpr fun q=>?_
  have e:C=tp:=Value.ref.inj (beq_iff_eq.mp q)
  subst e
  unfold clsIn at hcD
  split at hcD
  ·rename_i c' d' cd' sl' ho
   have z:=(X _ _ ho).symm.trans htp
   cases z
  ·cases hcD
 ca:=fun X I k=>zf9 X I O k
end
end D
end
section
namespace D
open PySem PySem.Spec PyProof.Rows L2
section
structure FlownAt (P:y0q) (w:World) (outer:List Env) (H:Hp) (s:y04) (C:Addr) (H':Hp) (ea:Addr) (a0:Value) (B:Heap) (s':y04):Prop where
 os:s'.os=s.os
 bare:AllBare s'.gens
 fly:Heap.FlyingW B outer ea (.ref C) a0 s'.heap
 hok:HOk P w H' B
 un:Un (frs outer) [] H H' s.heap s'.heap
 cov:∀b o,s.heap.get? b=some o->H b=none->b∉frs outer->B.get? b=some o
 thr:∀b o,s.heap.get? b=some o->b∉frs outer->∃o',B.get? b=some o'
def zhr (P:y0q) (w:World) (outer:List Env) (H:Hp) (s:y04) (C:Addr) (H':Hp) (e:Value) (s':y04):Prop:=∃ea a0 B,e=.ref ea/\FlownAt P w outer H s C H' ea a0 B s'
def CXR (P:y0q) (w:World):CXT:=fun outer H s E e s'=>∃C H',zhr P w outer H s C H' e s'/\E (.ref C) none H'
noncomputable def zii (X:Cx) (H:Hp) (s:y04) (C:Addr) (H':Hp) (e:Value) (s':y04):Prop :=
 (H'=H/\∃ea args h2,e=.ref ea/\s'={ s with heap:=h2 }/\Heap.MadeExcOf s.heap h2 ea (.ref C) args)\/zhr X.prog X.w X.stack H s C H' e s'
def XeOk (X:Cx) (C:Addr) (H':Hp):Prop:=∀(pins:List (Addr×Obj)) (σ:L2.St) (H:Hp) (s:y04) (e:Value) (s':y04),Inv X pins σ H s->zii X H s C H' e s'->X.xe e s'
theorem z7m {h h' base:Heap} {l:List Env} {b:Addr} {o:Obj} (F:h.FunFrames base l) (hb:b∈frs l) (e:h.get? b=some o) (k:h.UpToSlots h'):∃sl,h'.get? b=some { o with slots:=sl }:=by
 obtain⟨_,o',e',hd⟩:=F.mem hb
 rw[e] at e'
 cases e'
 exact k b o e hd
theorem FlownAt.on {P:y0q} {w:World} {outer:List Env} {H H':Hp} {s s':y04} {C ea:Addr} {a0:Value} {B h6:Heap} (x:FlownAt P w outer H s C H' ea a0 B s') (st:B.StaysIn h6) (k:s'.heap.UpToSlots h6) :
  Un (frs outer) [] H H' s.heap h6/\HOk P w H' h6:=by
 refine⟨⟨fun b o e n f _=>st _ _ (x.cov b o e n f),fun b o e n f hx=>?_,fun b o e n hx=>x.un.free b o e n hx,fun b o e hx=>?_,x.un.tups,x.un.frzs,x.un.tbls⟩,x.hok.kept st⟩
 ·obtain⟨sl,e1⟩:=x.un.slot b o e n f hx
  obtain⟨sl2,e2⟩:=z7m x.fly.2.2.1 f e1 k
  exact⟨sl2,e2⟩
 ·by_cases f:b∈frs outer
  ·obtain⟨o',e1⟩:=x.un.there b o e hx
   obtain⟨sl2,e2⟩:=z7m x.fly.2.2.1 f e1 k
   exact⟨_,e2⟩
  ·obtain⟨o',e1⟩:=x.thr b o e f
   exact⟨o',st _ _ e1⟩
theorem zjt {P:y0q} {w:World} {H:Hp} {h:Heap} {as:List Addr} (x:HOk P w H h) (n:∀b∈as,H b=none):HOk P w H (PySem.W.hideAll h as):=fun a o e =>
 z2c.stay (x a o e) (fun b u hb q=>PySem.W.hideAll_get _ q fun m=>by
  have z:=n b m
  rcases hb with rfl|hb
  ·rw[e] at z;cases z
  ·rw[hb] at z;cases z) (fun b hb=>hb) fun b xs hb=>hb
section
variable {X:Cx} {pins:List (Addr×Obj)} {σ:L2.St} {H1 H':Hp} {s1 s2:y04} {C:Addr} {e:Value} {env:Env} {outer:List Env} {E:XK}
theorem zb1 (I:Inv X pins σ H1 s1) (t:zii X H1 s1 C H' e s2) (hE:E (.ref C) none H') {Z:Value->y04->Prop} (hst:X.stack=env::outer:=by rfl) (hou:X.outer=outer:=by rfl) (hex:X.ex=[]:=by rfl) (hf:env.frame=some X.env.locals:=by rfl) :
  y0u (model X.prog X.w) X.A (leaving env e) (fun _ s''=>CXR X.prog X.w outer X.H₀ X.s₀ E e s'') Z s2:=by
 have hfs:X.fs=frs outer:=by unfold Cx.fs;rw[hou]
 have hfr:=I.ok.frames
 rw[hst] at hfr
 have un0:=I.base
 rw[hfs,hex] at un0
 have nx:∀b:Addr,b∉([]:List Addr):=fun b z=>absurd z (by simp)
 have notL:∀b o,X.s₀.heap.get? b=some o->b∉frs outer->b∉frs (env::outer):=fun b o e0 n m=>by
  obtain⟨en,he,hf'⟩:=List.mem_filterMap.mp m
  rcases y09.mp he with rfl|he
  ·rw[hf] at hf'
   cases hf'
   exact absurd (y0c e0) (Nat.not_lt.mpr I.ok.above)
  ·exact n (List.mem_filterMap.mpr ⟨en,he,hf'⟩)
 have stk:=I.stack
 rw[hst] at stk
 rcases t with ⟨eH,ea,args,h2,ee,es,mk⟩|⟨ea,a0,B,ee,fl⟩
 ·subst eH ee es
  have hin:∀en∈(env::outer),∀b,en.frame=some b->b∈frs (env::outer):=fun en he b hb=>List.mem_filterMap.mpr ⟨en,he,hb⟩
  refine wpAny_leaves_madeW (base:=PySem.W.hideAll s1.heap (frs (env::outer))) hfr hf (fun b o q=>PySem.W.of_hideAll _ q) (PySem.W.funFrames_hide stk hin) mk fun h' t x1 x2 x3 x4=>?_
  have fr0:=I.stkFree
  rw[hst] at fr0
  have cov:∀b o,X.s₀.heap.get? b=some o->X.H₀ b=none->b∉frs outer->(PySem.W.hideAll s1.heap (frs (env::outer))).get? b=some o:=fun b o e0 n f=>PySem.W.hideAll_get _ (un0.keep b o e0 n f (nx b)) (notL b o e0 f)
  have thr:∀b o,X.s₀.heap.get? b=some o->b∉frs outer->∃o',(PySem.W.hideAll s1.heap (frs (env::outer))).get? b=some o':=fun b o e0 f=>by
   obtain⟨o',e1⟩:=un0.there b o e0 (nx b)
   exact⟨o',PySem.W.hideAll_get _ e1 (notL b o e0 f)⟩
  have sl:∀b o,s1.heap.get? b=some o->b∈frs outer->∃sl,h'.get? b=some { o with slots:=sl }:=fun b o e1 f=>by
   have F2:s1.heap.FunFrames X.base (env::outer):=stk
   obtain⟨_,o',e',hd⟩:=F2.mem (b:=b) (by
    obtain⟨en,he,hf'⟩:=List.mem_filterMap.mp f
    exact List.mem_filterMap.mpr ⟨en,y05 _ he,hf'⟩)
   rw[e1] at e'
   cases e'
   exact x4 b o (mk.keeps b o e1) hd
  refine⟨C,_,⟨ea,_,_,rfl,⟨I.os,I.bare,x1,zjt I.hok fr0,⟨fun b o e0 n f _=>x1.1 _ _ (cov b o e0 n f),fun b o e0 n f _=>?_,fun b o e0 n _=>un0.free b o e0 n (nx b),fun b o e0 _=>?_,un0.tups,un0.frzs,un0.tbls⟩,cov,thr⟩⟩,hE⟩
  ·obtain⟨sl1,e1⟩:=un0.slot b o e0 n f (nx b)
   obtain⟨sl2,e2⟩:=sl b _ e1 f
   exact⟨sl2,e2⟩
  ·by_cases f:b∈frs outer
   ·obtain⟨o',e1⟩:=un0.there b o e0 (nx b)
    obtain⟨sl2,e2⟩:=sl b _ e1 f
    exact⟨_,e2⟩
   ·obtain⟨o',e1⟩:=thr b o e0 f
    exact⟨o',x1.1 _ _ e1⟩
 ·subst ee
  rw[hst] at fl
  refine wpAny_leaves_onW hfr hf fl.fly fun h' x1 x2=>?_
  have on:=fl.on x1.1 x2
  have cov:∀b o,X.s₀.heap.get? b=some o->X.H₀ b=none->b∉frs outer->B.get? b=some o:=fun b o e0 n f=>fl.cov b o (un0.keep b o e0 n f (nx b)) (un0.free b o e0 n (nx b)) (notL b o e0 f)
  have thr:∀b o,X.s₀.heap.get? b=some o->b∉frs outer->∃o',B.get? b=some o':=fun b o e0 f=>by
   obtain⟨o',e1⟩:=un0.there b o e0 (nx b)
   exact fl.thr b o' e1 (notL b o e0 f)
  have up:∀b,b∈frs outer->b∈frs (env::outer):=fun b f=>by
   obtain⟨en,he,hf'⟩:=List.mem_filterMap.mp f
   exact List.mem_filterMap.mpr ⟨en,y05 _ he,hf'⟩
  refine⟨C,_,⟨ea,_,B,rfl,⟨fl.os.trans I.os,fl.bare,x1,fl.hok,⟨fun b o e0 n f _=>x1.1 _ _ (cov b o e0 n f),fun b o e0 n f _=>?_,fun b o e0 n _=>?_,fun b o e0 _=>?_,fun b xs q=>on.1.tups _ _ (un0.tups _ _ q),fun b o u q=>on.1.frzs _ _ _ (un0.frzs _ _ _ q),fun b ps q=>?_⟩,cov,thr⟩⟩,hE⟩
  ·obtain⟨sl1,e1⟩:=un0.slot b o e0 n f (nx b)
   obtain⟨sl2,e2⟩:=on.1.slot b _ e1 (un0.free b o e0 n (nx b)) (up b f) (nx b)
   exact⟨sl2,e2⟩
  ·obtain⟨sl1,e1⟩:=un0.any e0 n (nx b)
   exact on.1.free b _ e1 (un0.free b o e0 n (nx b)) (nx b)
  ·obtain⟨o',e1⟩:=un0.there b o e0 (nx b)
   exact on.1.there b o' e1 (nx b)
  ·obtain⟨m1,q1⟩:=un0.tbls b ps q
   obtain⟨m2,q2⟩:=on.1.tbls b _ q1
   exact⟨m1++m2,by rw[q2,Array.append_assoc]⟩
theorem zgn (h:∀C H',E (.ref C) none H'->XeOk X C H'):zca (CXR X.prog X.w) X E:=fun pins σ H s e s' I ⟨C,H',fl,hE⟩=>h C H' hE pins σ H s e s' I (.inr fl)
end
end
section
variable [Tbl]
abbrev Fz:=Ev->Bool
def tEZ (X:Cx) (C:Addr) (r:Fz):TE:=fun σ H _=>∃F₀ E O F ε,RelE X.K F₀ E O F H ε σ/\r ε=true/\∀F' H',Ext F H F' H'->XeOk X C H'
def tSZ (X:Cx) (C:Addr) (r:Fz):TS:=fun _ σ H=>∃F₀ E O F ε,RelE X.K F₀ E O F H ε σ/\r ε=true/\∀F' H',Ext F₀ E.h F' H'->XeOk X C H'
abbrev PEz (X:Cx) (C:Addr) (e:Expr) (r:Fz):Prop:=PE X e (tEZ X C r)
abbrev PSz (X:Cx) (C:Addr) (s:Stmt) (r:Fz):Prop:=PS X s (tSZ X C r)
abbrev PBz (X:Cx) (C:Addr) (s:List Stmt) (r:Fz):Prop:=PSs X s (tSZ X C r)
def noZ:Fz:=fun _=>false
def seqZ (b:Fs) (r:Fz):Fz:=fun ε=>match b ε with
 | some (.nx ε')=>r ε'
 | _=>false
def iffZ (c:Ft) (a b:Fz):Fz:=fun ε=>match c ε with
 | some true=>a ε
 | some false=>b ε
 | none=>false
def okZ (f:Fe):Fz:=fun ε=>(f ε).isSome
theorem PS.nox {X:Cx} {st:Stmt} {t:TS} (h:PS X.nox st t):PS X st t:=fun pins s σ H D I hw =>
 y1c (h pins s σ H D (I.wish _) hw) (fun _ _ q=>q.unwish) fun _ _ z=>y1t z
theorem PA.nox {X:Cx} {es:List Expr} {t:TA} (h:PA X.nox es t):PA X es t:=fun pos pins s σ H Q I hw =>
 y1c (h pos pins s σ H Q (I.wish _) hw) (fun _ _ ⟨v,H',I',r,q⟩=>⟨v,H',I'.unwish,r,q⟩) fun _ _ z=>y1t z
section
variable {X:Cx} {C:Addr} {e c:Expr} {st:Stmt} {rest els:List Stmt} {r r':Fz} {b:Fs} {ft:Ft} {pos:Pos}
theorem z_no {l:List Stmt}:PBz X C l noZ:=fun pins s σ H D I h=>by
 obtain⟨_,_,_,_,_,_,e,_⟩:=h
 cases e
theorem z_1 (h:PSz X C st r):PBz X C (st::rest) r:=z6q (z37 (u:=fun _ _ _=>False) h fun _ _ _ _ _ _ z=>z.elim) fun D σ H q=>q
theorem z_n (h1:PSt X.nox st b) (h2:PBz X C rest r):PBz X C (st::rest) (seqZ b r):=z6q (z37 (PS.nox h1) h2) fun D σ H ⟨F₀,E,O,F,ε,rl,e,k⟩=>by
 unfold seqZ at e
 split at e
 next ε' hb=>exact⟨F₀,E,O,F,ε,_,rl,hb,fun σ' F' H' kp r2=>⟨F₀,E,O,F',ε',r2,e,k⟩⟩
 next=>cases e
theorem z_if (hc:PTt X.nox c ft) (ha:PBz X C rest r) (hb:PBz X C els r'):PSz X C (.If c rest els pos) (iffZ ft r r'):=z1t (zgg hc.nox ha hb) fun D σ H ⟨F₀,E,O,F,ε,rl,e,k⟩=>by
 unfold iffZ at e
 split at e
 next hx=>exact⟨F₀,E,O,F,ε,true,rl,hx,fun F' H' x=>iteT ⟨F₀,E,O,F',ε,rl.ext x,e,k⟩⟩
 next hx=>exact⟨F₀,E,O,F,ε,false,rl,hx,fun F' H' x=>iteF ⟨F₀,E,O,F',ε,rl.ext x,e,k⟩⟩
 next=>cases e
theorem zmu {σ:L2.St} {H:Hp} {D:Ends} {Q:VK} (h:tSZ X C r D σ H):tEZ X C r σ H Q:=by
 obtain⟨F₀,E,O,F,ε,rl,e,k⟩:=h
 exact⟨F₀,E,O,F,ε,rl,e,fun F' H' x=>k F' H' (rl.ent.trans x)⟩
theorem zmo (h:PEz X C e r):PSz X C (.Return (some e) pos) r:=z1t (z94 h) fun D σ H q=>zmu q
end
abbrev bmV:List Value:=[.type "ValueError",.type "Exception",.type "BaseException",.type "object"]
theorem zjf {K:y00} {h:Heap} {C:Addr} {bmB:List Value} {newId:String} (X:K.In h) (q:PySem.W.excIn K C bmB newId=true) :
  ∃bm N nm q bs hdct sn sub ab col dd k0 k1 k2 k3 k5 mN,h.get? C=some (excClassObj nm q C N bs bm hdct sn sub ab col dd k0 k1 k2 k3 k5 newId)/\h.Ns N mN/\mN "__init__"=none/\OwnTail h bmB bm:=by
 unfold PySem.W.excIn at q
 split at q
 ·rename_i dd cd sl ho
  split at q
  ·rename_i C' bm k0 k1 k2 k3 n k5 hm hs
   simp only[y1a,beq_iff_eq,Bool.not_eq_true'] at q
   obtain⟨⟨⟨⟨⟨rfl,rfl⟩,hdel⟩,ht⟩,hok⟩,hni⟩:=q
   obtain⟨nm,bs,mro,ns,qn,hd,sn,sub,ab,col,del⟩:=cd
   dsimp only at hm hdel hok hni
   subst hm hdel
   have hsl:sl=#[k0,k1,k2,k3,some (.builtin n),k5]:=by
    obtain⟨l⟩:=sl
    simp only at hs
    rw[hs]
   subst hsl
   exact⟨bm,ns,nm,qn,bs,hd,sn,sub,ab,col,dd,k0,k1,k2,k3,k5,_,X _ _ ho,.of_isNs (PySem.W.isNs_of_in X hok),PySem.W.nsMap_none_of_in X hok hni,PySem.W.tail_of_in X ht⟩
  ·cases q
 ·cases q
theorem zin {X:Cx} {C:Addr} {x:Str} {e:Expr} {f:Fe} {np cpos pos:Pos} (hm:X.mg x=some (.ref C)) (hx:PySem.W.excIn X.K C bmV "ValueError.__new__"=true) (he:PEv X.nox e f) (hh:X.A.handled=none)
  (hg:Gl X x:=by rfl) (hs:y0a [e] X.env=(false,eval e X.env)::y0a [] X.env:=by rfl) (hd:(x == ("__debug__":Str))=false:=by decide) :
  PSz X C (.Raise (some (.Call (.Name x np) [e] [] cpos)) none pos) (okZ f):=by
 intro pins s σ H D I ⟨F₀,E,O,F,ε,rl,ef,k⟩
 obtain⟨t,et⟩:=Option.isSome_iff_exists.mp ef
 obtain⟨bm,N,nm,q,bs,hdct,sn,sub,ab,col,dd,k0,k1,k2,k3,k5,mN,hC,hN,hni,TL⟩:=zjf I.ok.mod.kin hx
 refine wpAny_Raise_call_subT (C:=C) (nm:=nm) (q:=q) (N:=N) (bs:=bs) (bm:=bm) (hdct:=hdct) (sn:=sn) (sub:=sub) (ab:=ab) (col:=col) (dd:=dd) (k0:=k0) (k1:=k1) (k2:=k2) (k3:=k3) (k5:=k5) (mN:=mN)
  PySem.F.excBase_ValueError (TL.hasType PySem.F.excBase_ValueError.hasBase) hh (by rw[hs];rfl) hni (z56 I hg hm ⟨rfl,?_⟩ hd)
 have ha:PA X [e] (z2n (tV X.K f) tNil):=z0f (PE.nox he) z17 hs
 have h0:=ha cpos pins s σ H (fun vs H1=>∃v,vs=[v]/\XeOk X C H1) I ⟨F₀,E,O,F,ε,t,rl,et,fun v F' H' x _=>⟨v,rfl,k F' H' (rl.ent.trans x)⟩⟩
 rw[hs] at h0 ⊢
 refine Calls.evalArgs_plain (y1c h0 (fun us s₂ ⟨vs,H1,I1,r1,v,ev,kx⟩=>⟨rfl,?_,?_,?_,?_,fun h' ea mk=>?_⟩) fun _ _ y=>y)
 ·have:=r1.length
  rw[ev] at this
  show us.length<=y0j
  rw[<- this]
  show 1<=y0j
  decide
 ·exact I1.bk _ _ hC
 ·exact hN.keeps I1.bk
 ·exact TL.keeps I1.bk
 ·exact kx pins σ H1 s₂ (.ref ea) _ I1 (.inl ⟨rfl,ea,_,h',rfl,rfl,mk⟩)
noncomputable def spZ (K:y00) (n:Nat) (C:Addr) (r:List Sl->Bool):Sp:=fun vs H _ E=>vs.length=n/\∃F ss,Dom F H/\zkc K F H ss vs/\r ss=true/\∀F' H',Ext F H F' H'->E (.ref C) none H'
def runZ (r:Fz) (n:Nat):List Sl->Bool:=fun ss=>r (z8t n ss)
structure ClZ (P:y0q) (w:World) (K:y00) (mg:Str->Option Value) (base:Heap) (x:Str) (C:Addr) (k n:Nat) (r:List Sl->Bool):Prop where
 ex:∃fa fd ps,FnOk P w K mg base (CXR P w) k fa fd ps (spZ K n C r)/\mg x=some (.ref fa)/\y08 K (.ref fa)=true/\z1f K fd ps []
section
variable {P:y0q} {w:World} {K:y00} {mg:Str->Option Value} {base:Heap}
theorem ClZ.mono {x:Str} {C:Addr} {k n j:Nat} {r:List Sl->Bool} (c:ClZ P w K mg base x C j n r) (h:j<=k):ClZ P w K mg base x C k n r:=by
 obtain⟨fa,fd,ps,F,q⟩:=c.ex
 exact⟨fa,fd,ps,F.mono h,q⟩
theorem zjw {x qual:Str} {st:Stmt} {f C:Addr} {fd:y0b} {N ps:List Str} {k:Nat} {r:Fz} (F:Fun K x qual st f fd) (S:FnScope N ps (z00 st))
  (hb:∀(cdv:Value) (A:Around) (outer:List Env) (s:y04) (H:Hp) (E:XK),Room k (A.deeper (envOfC qual (z00 st) s.heap.objs.size f cdv)) ->
   PBz (cxOf (CXR P w) P w K mg base N qual (z00 st) f cdv A outer s H E) C (z09 st) r) :
  FnOk P w K mg base (CXR P w) (k+1) f fd ps (spZ K ps.length C (runZ r N.length)):=by
 obtain⟨oc,od,kV,doc,pm,an,cdv,ct,osl,rfl,lk,hcd⟩:=F.ex
 refine zjx lk hcd S (fun vs H Q E h=>h.1) fun A outer s H vs Q E hr h=>⟨_,hb cdv A outer s H E hr,?_⟩
 obtain⟨hl,F,ss,dom,q,e,kq⟩:=h
 refine⟨F,⟨H,0⟩,fun a=>H a=none,F,_,?_,e,fun F' H' x=>?_⟩
 ·unfold L2.start
  exact zai dom q N.length
 ·intro pins σ H1 s1 e1 s2 I t
  refine y1c (zb1 (X:=cxOf (CXR P w) P w K mg base N qual (z00 st) f cdv A outer s H E) (E:=E) (Z:=fun _ _=>False) I t (kq F' H' x)) (fun _ _ z=>z) fun _ _ z=>z.elim
theorem zif {x:Str} {C:Addr} {st:Stmt} {f:Addr} {fd:y0b} {N ps:List Str} {k:Nat} {r:Fz} (F:Fun K x x st f fd) (S:FnScope N ps (z00 st)) (bd:z1f K fd ps []) (m:mg x=some (.ref f))
  (hb:∀(cdv:Value) (A:Around) (outer:List Env) (s:y04) (H:Hp) (E:XK),Room k (A.deeper (envOfC x (z00 st) s.heap.objs.size f cdv)) ->
   PBz (cxOf (CXR P w) P w K mg base N x (z00 st) f cdv A outer s H E) C (z09 st) r):ClZ P w K mg base x C (k+1) ps.length (runZ r N.length):=⟨f,fd,ps,zjw F S hb,m,F.kp,bd⟩
end
def z5i (r:List Sl->Bool) (as:List Ag):Fz:=fun ε=>match agsE as ε with
 | some ss=>r (ss.map roS)
 | none=>false
section
variable {X:Cx} {k n c C CO i:Nat} {ns:List Str} {r:List Sl->Bool} {x m:Str} {p pos apos:Pos} {o e:Expr} {es:List Expr} {as:List Ag} {fs:List Fe}
theorem zd2 (Dc:ClZ X.prog X.w X.K X.mg X.base x C k n r) (hr:Room k X.A) (ha:PAg X.nox (e::es) as) (hg:Gl X x:=by rfl) (hn:as.length=n:=by rfl) (hdb:(x == ("__debug__":Str))=false:=by decide)
  (he:y0a (e::es) X.env=(false,eval e X.env)::y0a es X.env:=by rfl) (hpl:(backTo pos (y0a es X.env)).any (·.1)=false:=by rfl):PEz X C (.Call (.Name x p) (e::es) [] pos) (z5i r as):=by
 obtain⟨fa,fd,ps,F,hm,kp,b⟩:=Dc.ex
 refine z0u (ze5 F hr hg hm kp b .nil (zgn (E:=fun cl _ H'=>∃C',cl=.ref C'/\XeOk X C' H') fun C' H' ⟨C2,e2,q⟩=>by cases e2;exact q) (PA.nox ha) hdb he hpl) fun σ H Q ⟨F₀,E,O,F,ε,rl,e,k⟩=>?_
 unfold z5i at e
 split at e
 next ss es =>
  refine⟨F₀,E,O,F,ε,ss,rl,es,fun vs F1 H1 x1 q=>⟨?_,F1,ss.map roS,x1.dom,?_,e,fun F' H' x2=>⟨C,rfl,k F' H' (x1.trans x2)⟩⟩⟩
  ·rw[y1u,q.len,hn]
  ·rw[y1u]
   exact zfw (rl.ext x1) es q
 next=>cases e
end
end
section
abbrev Cx.inX (X:Cx) (ea:Addr):Cx:={ X with A:=X.A.mark (some (.ref ea)),calm:=false,xe:=fun _ _=>False }
section
variable {X:Cx} {pins:List (Addr×Obj)} {σ:L2.St} {H:Hp} {s:y04} {ea:Addr}
theorem zlt (ok:X.Ok) (ea:Addr):(Cx.inX X ea).Ok :=
 ⟨ok.mod,ok.kind,ok.glob,ok.blt,ok.above,ok.inj,ok.has,ok.cab,(fun (z:false=true)=>absurd z (by decide)),ok.frames,ok.stk,ok.exf,ok.bs,ok.bsz,ok.noex,ok.exfs,ok.funs,ok.frf⟩
theorem zey (I:Inv X pins σ H s) (ea:Addr):Inv (Cx.inX X ea) pins σ H s:=⟨zlt I.ok ea,I.os,I.bare,I.base,I.loc,I.cell,I.free,I.freeC,I.pin,I.hok,I.len⟩
theorem zha (ok:X.Ok) (I:Inv (Cx.inX X ea) pins σ H s):Inv X pins σ H s:=⟨ok,I.os,I.bare,I.base,I.loc,I.cell,I.free,I.freeC,I.pin,I.hok,I.len⟩
theorem zhb {i:Nat} {n:Str} {h':Heap} {m:Str->Option Value} {v:Option Value} {tk:Nat} (I:Inv X pins σ H s) (hi:X.N[i]?=some n) (hl:∀(i:Nat) (x:Str) (v:V),X.N[i]?=some x->σ[i]?=some (some v)->Vis X.env.scope x->∃u,RelV v u/\Look X.env s.heap m x u) (hN:X.N.Nodup)
  (hn:h'.Ns X.env.locals (fun x=>if x=n then v else m x)) (hs:Heap.SameBut X.env.locals s.heap h') (hoL:∃o,s.heap.get? X.env.locals=some o):Inv X pins (σ.set i none) H { s with heap:=h',toks:=tk }:=by
 have hiσ:i<σ.length:=by rw[I.len];exact (y0k.mp hi).1
 have cne:=I.cne
 have lt:∀{b:Addr} {o:Obj},X.s₀.heap.get? b=some o->b≠X.env.locals:=fun e=>y0y (y0x (y0c e) I.ok.above)
 refine⟨I.ok,I.os,I.bare,⟨fun b o e n hb hx=>(hs.2 b (lt e)).trans (I.base.keep b o e n hb hx),fun b o e n hb hx=>?_,I.base.free,fun b o e hx=>?_,I.base.tups,I.base.frzs,I.base.tbls⟩,⟨_,hn,fun j y v' e1 e2 e3=>?_⟩,fun y c e=>?_,I.free,I.freeC,fun p hp=>?_,fun b ob e=>?_,by simpa using I.len⟩
 ·obtain⟨sl,e1⟩:=I.base.slot b o e n hb hx
  exact⟨sl,(hs.2 b (lt e)).trans e1⟩
 ·obtain⟨o',e1⟩:=I.base.there b o e hx
  exact⟨o',(hs.2 b (lt e)).trans e1⟩
 ·by_cases hj:j=i
  ·subst hj
   rw[List.getElem?_set_self hiσ] at e2
   cases e2
  ·rw[List.getElem?_set_ne (Ne.symm hj)] at e2
   obtain⟨u',r',q⟩:=hl j y v' e1 e2 e3
   refine⟨u',r',?_⟩
   rcases q with ⟨k,e⟩|⟨k,c,e,z⟩
   ·refine .inl ⟨k,?_⟩
    have:y≠n:=fun e=>hj (z86 hN e1 (e▸hi))
    simp[this,e]
   ·exact .inr ⟨k,c,e,z.sameBut hs (cne y c e)⟩
 ·obtain⟨w',z⟩:=I.cell y c e
  exact⟨w',z.sameBut hs (cne y c e)⟩
 ·obtain⟨e,n,ne,nf,d⟩:=I.pin p hp
  exact⟨(hs.2 p.1 ne).trans e,n,ne,nf,d⟩
 ·refine (I.hok b ob e).stay (fun c w' hc q=>(hs.2 c ?_).trans q) (fun _ q=>q) fun _ _ q=>q
  rintro rfl
  have fr:=I.free
  rcases hc with rfl|hc
  ·rw[fr] at e;cases e
  ·rw[fr] at hc;cases hc
end
theorem zat {M:Model} {A:Around} {E:Value->y04->Prop} {K:y00} {s:y04} {x C CD:Addr} {Q:Bool->y04->Prop} (X:K.In s.heap) (I:z3e x C s.heap)
  (h1:PySem.W.typeIn K (.ref CD)=some (.type "type")) (h2:PySem.W.mroIn K CD (.type "BaseException")=some true) (h3:PySem.W.mroIn K C (.ref CD)=some true) (hc:(PySem.W.clsIn K CD).isSome=true) (hq:Q true s) :
  y0u M A (excMatches (.ref x) (.ref CD)) Q E s:=by
 obtain⟨hh,g,dr,t,os⟩:=s
 have L0:=I.type (M:=M)
 have L1:=PySem.W.looks_typeIn (M:=M) X h1
 have L2:=PySem.W.looks_mroIn (M:=M) X h2
 have L3:=PySem.W.looks_mroIn (M:=M) X h3
 have LI:PySem.W.Looks M hh (isInstance (.ref CD) (.type "tuple")) false:=L1.andThen (PySem.W.Looks.of_pure tc_notTuple)
 have LT:PySem.W.Looks M hh (isType (.ref CD)) true:=by
  unfold PySem.W.clsIn at hc
  split at hc
  ·rename_i c' d' cd' sl' ho
   intro A' Q' E' s' k q
   unfold isType loadHead
   exact y02 (wpAny_loadPart (k _ _ (X _ _ ho)) (y06 q))
  ·cases hc
 have LE:PySem.W.Looks M hh (isExcClass (.ref CD)) true:=LT.andThen L2
 unfold excMatches
 refine y02 (LI.at ?_)
 rw[if_neg (by decide)]
 refine y02 (y06 ?_)
 dsimp only
 refine y02 ?_
 simp only[List.forIn_cons,List.forIn_nil]
 refine y02 (y02 (LE.at ?_))
 rw[if_neg (by decide)]
 refine y06 (y06 ?_)
 refine y02 (L0.at (y02 ?_))
 refine y02 (y02 (L3.at ?_))
 rw[if_pos rfl]
 exact y06 (y06 (y06 hq))
theorem zhk {X:Cx} {pins:List (Addr×Obj)} {σ:L2.St} {H H':Hp} {s s':y04} {C CD:Addr} {e:Value} {dn n:Str} {i:Nat} {np pos:Pos} {b₀:Stmt} {suite:List Stmt} {ts:TS} {D:Ends}
  (I:Inv X pins σ H s) (fl:zhr X.prog X.w X.stack H s C H' e s') (hm:X.mg dn=some (.ref CD))
  (h1:PySem.W.typeIn X.K (.ref CD)=some (.type "type")) (h2:PySem.W.mroIn X.K CD (.type "BaseException")=some true) (h3:PySem.W.mroIn X.K C (.ref CD)=some true) (hc:(PySem.W.clsIn X.K CD).isSome=true)
  (hs:∀ea,PSs (Cx.inX X ea) (b₀::suite) ts) (k:∀ea,H' ea=none->ts { nx:=fun σ2 H2=>D.nx (σ2.set i none) H2,rt:=fun _ _=>False } (σ.set i (some (.ref ea))) (upd H' ea (.ext (z3e ea C))))
  (hN:X.N.Nodup) (hi:X.N[i]?=some n) (hlo:X.env.kindOf n=some .local) (hst:X.stack=X.env::X.outer) (hf:X.env.frame=some X.env.locals) (hg:Gl X dn) (hdb:(dn == ("__debug__":Str))=false) :
  y0u (model X.prog X.w) X.A (noteFrame e X.env) (fun _ s₂=>y0u (model X.prog X.w) X.A (setFlight e none) (fun _ s₃=>y0u (model X.prog X.w) X.A (handleBy e X.env [.ExceptHandler (some (.Name dn np)) (some n) (b₀::suite) pos]) (L2.SP X pins D) X.xe s₃) X.xe s₂) X.xe s':=by
 obtain⟨ea,a0,B,rfl,fl⟩:=fl
 have hfl:=fl.fly
 have hfr:=I.ok.frames
 rw[hst] at hfl hfr
 refine wpAny_looks_onW hfr hf hfl fun h₄ held₄ sm₄=>?_
 refine wpAny_landsW held₄ fun h₅ fl₅ sm₅=>?_
 have U5:s'.heap.UpToSlots h₅:=sm₄.trans sm₅
 obtain⟨un5,hok5⟩:=fl.on fl₅.1 U5
 have nx:∀b:Addr,b∉([]:List Addr):=fun b z=>absurd z (by simp)
 have J5:Inv X pins σ H' { s' with heap:=h₅ }:=I.call' fl.os un5 hok5 fl.bare fun b hb=>absurd hb (nx b)
 have at5:z3e ea C h₅:=by
  obtain⟨oe,vs,q1,q2,q3,_⟩:=fl₅.first
  exact⟨oe,vs,q1,q2,q3⟩
 have hne:H' ea=none:=by
  cases q:H' ea with
  | none=>rfl
  | some u =>
   obtain⟨o,ho⟩:∃o,B.get? ea=some o:=by
    have z:=fl.hok ea u q
    have lt:=z.lt
    have:∀(u:HO),z2c X.prog X.w H' B ea u->∃o,B.get? ea=some o:=by
     intro u
     induction u with
     | lst xs=>rintro⟨_,_,_,_,e⟩;exact⟨_,e⟩
     | tup xs=>rintro⟨_,_,_,o,e,_⟩;exact⟨_,e⟩
     | dK kvs=>rintro⟨_,_,_,_,o,_,_,e,_⟩;exact⟨_,e⟩
     | dT kvs=>rintro⟨_,_,_,_,o,_,_,e,_⟩;exact⟨_,e⟩
     | set S n=>rintro⟨o,_,_,_,e,_⟩;exact⟨_,e⟩
     | ins C dx fs=>rintro⟨_,_,_,e,_⟩;exact⟨_,e⟩
     | own x=>rintro⟨o,e⟩;exact⟨_,e⟩
     | xd fs=>rintro⟨_,e,_⟩;obtain⟨o,_,_,e,_⟩:=e;exact⟨_,e⟩
     | met f x=>intro e;exact⟨_,e⟩
     | rng lo hi=>rintro⟨_,_,_,e⟩;exact⟨_,e⟩
     | frz o u ih=>rintro⟨e,_⟩;exact⟨_,e⟩
     | tbl ps=>intro e;exact⟨_,e⟩
     | ext φ=>rintro⟨_,⟨o,e⟩,_⟩;exact⟨_,e⟩
    exact this u z
   rw[fl.fly.2.1] at ho
   cases ho
 refine wpAny_handleBy_cons (codeAny_handlers_test (z56 (X:=Cx.inX X ea) (zey J5 ea) hg hm ?_ hdb)) (by intro q;cases q)
 refine zat J5.kIn at5 h1 h2 h3 hc ?_
 refine codeAny_handlers_suite_as ?_
 refine lands_againW fl₅ fun h₆ fl₆ sm₆=>?_
 have U6:s'.heap.UpToSlots h₆:=U5.trans sm₆
 obtain⟨un6,hok6⟩:=fl.on fl₆.1 U6
 have at6:z3e ea C h₆:=by
  obtain⟨oe,vs,q1,q2,q3,_⟩:=fl₆.first
  exact⟨oe,vs,q1,q2,q3⟩
 have keepT:∀{b:Addr} {u:HO},H' b=some u->upd H' ea (.ext (z3e ea C)) b=some u:=fun {b u} q=>by rw[z02 (by rintro rfl;rw[hne] at q;cases q)];exact q
 have notE:∀{b:Addr} {o:Obj},s.heap.get? b=some o->H b=none->b≠ea:=fun {b o} q n=>by
  rintro rfl
  by_cases f:b∈frs X.stack
  ·obtain⟨_,o',e',hd⟩:=fl₆.2.2.1.mem (b:=b) (by rw[<- hst];exact f)
   obtain⟨oe,vs,e1,_,e2⟩:=at6
   rw[e1] at e'
   cases e'
   exact hd vs e2
  ·have z:=fl.cov b o q n f
   rw[fl.fly.2.1] at z
   cases z
 have un7:Un (frs X.stack) [] H (upd H' ea (.ext (z3e ea C))) s.heap h₆:=⟨un6.keep,un6.slot,fun b o q n hx=>by rw[z02 (notE q n)];exact un6.free b o q n hx,un6.there,fun b xs q=>keepT (un6.tups b xs q),fun b o u q=>keepT (un6.frzs b o u q),fun b ps q=>by
  obtain⟨m,z⟩:=un6.tbls b ps q
  exact⟨m,keepT z⟩⟩
 have hok7:HOk X.prog X.w (upd H' ea (.ext (z3e ea C))) h₆:=fun b u q=>by
  by_cases hb:b=ea
  ·subst hb
   rw[z03] at q
   cases q
   obtain⟨oe,vs,e1,e2,e3⟩:=at6
   exact⟨⟨oe,vs,e1,e2,e3⟩,⟨oe,e1⟩,fun k1 k2 ⟨o,vs,z1,z2,z3⟩ kk=>⟨o,vs,kk o z1,z2,z3⟩⟩
  ·rw[z02 hb] at q
   exact (hok6 b u q).stay (fun _ _ _ z=>z) (fun c z=>keepT z) fun c xs z=>keepT z
 have J6:Inv X pins σ (upd H' ea (.ext (z3e ea C))) { s' with heap:=h₆ }:=I.call' fl.os un7 hok7 fl.bare fun b hb=>absurd hb (nx b)
 refine z7w (X:=Cx.inX X ea) (v:=.ref ea) (zey J6 ea) hN hi (.inl hlo) rfl (fun s7 I7=>?_) (.inr hlo)
 refine y1c (hs ea pins s7 _ _ _ I7 (k ea hne)) (fun f s8 h8=>?_) fun _ _ z=>z.elim
 cases f with
 | next =>
  obtain⟨σ2,H2,I8,q8⟩:=h8
  have I8':=zha I.ok I8
  obtain⟨m,hn8,hl8⟩:=id I8'.loc
  refine wpAny_nameGoes_keeps hlo hn8 (by rw[I.ok.kind];rfl) fun h9 v hn9 hs9=>?_
  have hoL:∃o,s8.heap.get? X.env.locals=some o:=by
   obtain⟨o,_,_,q,_⟩:=hn8
   exact⟨o,q⟩
  exact⟨_,H2,zhb I8' hi hl8 hN hn9 hs9 hoL,q8⟩
 | brk=>obtain⟨_,_,_,q8⟩:=h8;exact y1t q8
 | cont=>obtain⟨_,_,_,q8⟩:=h8;exact y1t q8
 | ret u=>obtain⟨_,_,_,_,_,q8⟩:=h8;exact y1t q8
end
section
noncomputable def rIsi (K:y00) (C:Addr):List V->Hp->VK->Prop:=fun xs H Q=>∃ea c cv b,xs=[.ref ea,c]/\H ea=some (.ext (z3e ea C))/\(∀u,RelV c u->u=cv)/\PySem.W.kitOne K (.ref C) cv=some b/\Q (.bl b) H
theorem zmh {X:Cx} {C:Addr} (O:ExcOk X.K C):z3l X (.builtin "isinstance") (rIsi X.K C):=by
 intro pins s σ H xs us Q I r ⟨ea,c,cv,b,e1,e2,e3,e4,q⟩
 subst e1
 cases r with
 | cons r1 r =>
  cases r with
  | cons r2 r =>
   cases r
   cases r1
   have ec:=e3 _ r2
   subst ec
   exact PySem.W.kia_one (zh7 O) I.kIn (I.hok ea _ e2).1 e4 (by intro z;cases z) fun tk=>⟨.bl b,H,I.tok _,rfl,q⟩
theorem z8i:∀{bs:List Bool} {us:List Value},Vals (bs.map V.bl) us->us=bs.map Value.bool
 | [],us,h=>by cases h;rfl
 | b::bs,us,h=>by
  cases h with
  | cons r t =>
   cases r
   rw[z8i t]
   rfl
def z3p:Value->Bool
 | .bool true=>true
 | _=>false
theorem zgz {X:Cx}:MtR X "list.count" (fun x vs H Q=>∃(l:Addr) (bs:List Bool),x=.ref l/\vs=[.bl true]/\SqL X.K H l (bs.map V.bl)/\Q (.int (bs.countP id:Nat)) H):=by
 intro pins s σ H x vs v us Q I rx rv h
 obtain⟨l,bs,rfl,rfl,hq,q⟩:=h
 cases rx
 obtain⟨u,rfl,ru⟩:=rv.one
 cases ru
 obtain⟨its,r,⟨⟨cls,dd,data,sl⟩,n,ho,hc,hd,hs⟩,hz⟩:=I.list hq
 simp only at hc hd hs
 subst hc hd hs
 have hits:=z8i r
 subst hits
 refine call_meets PySem.F.slot_list_count ⟨_,ho,rfl⟩ PySem.F.entry_list_count (PySem.F.args_list_count_2 _ _)
  (SeqAt.list_countAt l _ n _ _ (.bool true) z3p) ⟨ho,fun z hz'=>?_,?_⟩
 ·obtain⟨b,_,rfl⟩:=y0m.mp (show z∈bs.map Value.bool by simpa using hz')
  have e:=SeqAt.EqAt.bool_bool (A:=X.A.in1) (s:=s) b true
  have e2:(b == true)=z3p (.bool b):=by cases b <;> rfl
  rw[e2] at e
  exact e
 ·refine⟨V.int (bs.countP id:Nat),H,I.tok _,⟨s.toks,?_⟩,q⟩
  have:((bs.map Value.bool).toArray.toList.countP z3p)=bs.countP id:=by
   show (bs.map Value.bool).countP z3p=_
   rw[List.countP_map]
   congr 1
   funext b
   cases b <;> rfl
  rw[this]
theorem zei {X:Cx}:MtR X "list.index" (fun x vs H Q=>∃(l:Addr) (bs:List Bool) (j:Nat),x=.ref l/\vs=[.bl true]/\SqL X.K H l (bs.map V.bl)/\bs[j]?=some true/\(∀m,m<j->bs[m]?=some false)/\Q (.int (j:Nat)) H):=by
 intro pins s σ H x vs v us Q I rx rv h
 obtain⟨l,bs,j,rfl,rfl,hq,hj,hb,q⟩:=h
 cases rx
 obtain⟨u,rfl,ru⟩:=rv.one
 cases ru
 obtain⟨its,r,⟨⟨cls,dd,data,sl⟩,n,ho,hc,hd,hs⟩,hz⟩:=I.list hq
 simp only at hc hd hs
 subst hc hd hs
 have hits:=z8i r
 subst hits
 have hjl:=(y0k.mp hj).1
 rw[y13] at hz
 rw[sizeLine_eq] at hz
 refine call_meets PySem.F.slot_list_index ⟨_,ho,rfl⟩ PySem.F.entry_list_index (PySem.F.args_list_index_2 _ _)
  (SeqAt.list_indexAt l _ n _ _ (.bool true) z3p j (by simpa using hjl) (by omega) ?_ ?_) ⟨ho,fun z hz'=>?_,⟨V.int (j:Nat),H,I.tok _,⟨_,rfl⟩,q⟩⟩
 ·have:=(y0k.mp hj).2
  simp[z3p,this]
 ·intro m hm hlt
  have:=(y0k.mp (hb m hlt)).2
  simp[z3p,this]
 ·obtain⟨b,_,rfl⟩:=y0m.mp (show z∈bs.map Value.bool by simpa using hz')
  have e:=SeqAt.EqAt.bool_bool (A:=X.A.in1) (s:=s) b true
  have e2:(b == true)=z3p (.bool b):=by cases b <;> rfl
  rw[e2] at e
  exact e
def Grow [Tbl] (H H':Hp):Prop:=∀F:Addr->Prop,Dom F H->Ext F H F H'
theorem Grow.laid [Tbl] {H:Hp} {p:Addr} {o:HO} (hp:H p=none):Grow H (upd H p o):=fun F d=>Ext.laid d hp
theorem Grow.trans [Tbl] {H H1 H2:Hp} (a:Grow H H1) (b:Grow H1 H2):Grow H H2:=fun F d=>(a F d).trans (b F (a F d).dom)
abbrev tIsi (K:y00) (C:Addr) (c:V):TE:=tCB (rIsi K C) (z2n (tVar 2) (z2n (tC c) tNil))
abbrev rCnt (K:y00):V->List V->Hp->VK->Prop:=fun x vs H Q=>∃(l:Addr) (bs:List Bool),x=.ref l/\vs=[.bl true]/\SqL K H l (bs.map V.bl)/\Q (.int (bs.countP id:Nat)) H
abbrev rIdx (K:y00):V->List V->Hp->VK->Prop:=fun x vs H Q=>∃(l:Addr) (bs:List Bool) (j:Nat),x=.ref l/\vs=[.bl true]/\SqL K H l (bs.map V.bl)/\bs[j]?=some true/\(∀m,m<j->bs[m]?=some false)/\Q (.int (j:Nat)) H
abbrev zda (K:y00) (C cz cw cd ct:Addr):TS :=
 tSeq (tAsg (tLst (z2n (tIsi K C (.ref cz)) (z2n (tIsi K C (.ref cw)) (z2n (tIsi K C (.ref cd)) (z2n (tIsi K C (.ref ct)) tNil))))) (z9m 3))
 (tSeq (tAsg (tTup (z2n (tC (.str "refused")) (z2n (tUn (rU fun i=>.int (-i)) (tC (.int 1))) tNil))) (z9m 1))
 (tIfS (tAnd (tB (tIsi K C (.ty "ValueError"))) (zkp (tOp rEq (tBM K "list" (rCnt K) (tVar 3) (z2n (tC (.bl true)) tNil)) (tC (.int 1)))))
  (tAsg (tTup (z2n (tC (.str "refused")) (z2n (tBM K "list" (rIdx K) (tVar 3) (z2n (tC (.bl true)) tNil)) tNil))) (z9m 1)) zkq))
structure Kinds (K:y00) (C cz cw cd ct:Addr) (bs:List Bool) (j:Nat):Prop where
 b0:∃b0 b1 b2 b3,bs=[b0,b1,b2,b3]/\PySem.W.kitOne K (.ref C) (.ref cz)=some b0/\PySem.W.kitOne K (.ref C) (.ref cw)=some b1/\PySem.W.kitOne K (.ref C) (.ref cd)=some b2/\PySem.W.kitOne K (.ref C) (.ref ct)=some b3
 ve:PySem.W.kitOne K (.ref C) (.type "ValueError")=some true
 one:bs.countP id=1
 hit:bs[j]?=some true
 no:∀m,m<j->bs[m]?=some false
theorem zac [Tbl] {K:y00} {C cz cw cd ct ea:Addr} {bs:List Bool} {j:Nat} (kk:Kinds K C cz cw cd ct bs j) {D:Ends} {σ:L2.St} {H:Hp} (hl:σ.length=4) (he:σ[2]?=some (some (.ref ea))) (hx:H ea=some (.ext (z3e ea C)))
  (k:∀H' p σ',Grow H H'->H' p=some (.tup [.str "refused",.int j])->σ'.length=4->σ'[1]?=some (some (.ref p))->D.nx σ' H'):zda K C cz cw cd ct D σ H:=by
 obtain⟨⟨b0,b1,b2,b3,rfl,k0,k1,k2,k3⟩,ve,one,hit,no⟩:=kk
 have isi:∀{c:V} {cv:Value} {b:Bool} {σ:L2.St} {H:Hp} {Q:VK},σ[2]?=some (some (.ref ea))->H ea=some (.ext (z3e ea C))->(∀u,RelV c u->u=cv)->PySem.W.kitOne K (.ref C) cv=some b->Q (.bl b) H->tIsi K C c σ H Q :=
  fun {c cv b σ H Q} e1 e2 e3 e4 q=>⟨_,e1,ea,c,cv,b,rfl,e2,e3,e4,q⟩
 refine isi he hx (cv:=.ref cz) (fun u r=>r) k0 (isi he hx (cv:=.ref cw) (fun u r=>r) k1 (isi he hx (cv:=.ref cd) (fun u r=>r) k2 (isi he hx (cv:=.ref ct) (fun u r=>r) k3 ?_)))
 refine⟨by show 4<=y0j;decide,fun p hp=>?_⟩
 refine⟨1,rfl,?_⟩
 refine⟨by show 2<=y0j;decide,fun p2 hp2=>?_⟩
 have g1:Grow H (upd H p (.lst [.bl b0,.bl b1,.bl b2,.bl b3])):=Grow.laid hp
 have g2:=g1.trans (Grow.laid (o:=.tup [.str "refused",.int (-1)]) hp2)
 have ne1:ea≠p:=by rintro rfl;rw[hx] at hp;cases hp
 have hx1:upd H p (.lst [.bl b0,.bl b1,.bl b2,.bl b3]) ea=some (.ext (z3e ea C)):=by rw[z02 ne1];exact hx
 have ne2:ea≠p2:=by rintro rfl;rw[hx1] at hp2;cases hp2
 have ne3:p≠p2:=by rintro rfl;rw[z03] at hp2;cases hp2
 have e2:((σ.set 3 (some (V.ref p))).set 1 (some (V.ref p2)))[2]?=some (some (.ref ea)):=by rw[List.getElem?_set_ne (by decide),List.getElem?_set_ne (by decide)];exact he
 have e3:((σ.set 3 (some (V.ref p))).set 1 (some (V.ref p2)))[3]?=some (some (.ref p)):=by rw[List.getElem?_set_ne (by decide),List.getElem?_set_self (by omega)]
 have hL:upd (upd H p (.lst [.bl b0,.bl b1,.bl b2,.bl b3])) p2 (.tup [.str "refused",.int (-1)]) p=some (.lst [.bl b0,.bl b1,.bl b2,.bl b3]):=by rw[z02 ne3,z03]
 have sq:SqL K (upd (upd H p (.lst [.bl b0,.bl b1,.bl b2,.bl b3])) p2 (.tup [.str "refused",.int (-1)])) p ([b0,b1,b2,b3].map V.bl):=.inl (.inl hL)
 refine isi e2 (by rw[z02 ne2];exact hx1) (cv:=.type "ValueError") (fun u r=>r) ve ⟨true,rfl,?_⟩
 refine iteT ?_
 refine⟨_,e3,.inl ⟨rfl,_,sq⟩,p,[b0,b1,b2,b3],rfl,rfl,sq,rfl,⟨true,?_,?_⟩⟩
 ·rw[one]
  rfl
 ·refine iteT ?_
  refine⟨_,e3,.inl ⟨rfl,_,sq⟩,p,[b0,b1,b2,b3],j,rfl,rfl,sq,hit,no,?_⟩
  refine⟨by show 2<=y0j;decide,fun p3 hp3=>?_⟩
  refine k _ p3 _ (g2.trans (Grow.laid hp3)) z03 ?_ ?_
  ·simp[hl]
  ·rw[List.getElem?_set_self (by simp[hl])]
end
section
variable [Tbl]
abbrev cxLZ (P:y0q) (w:World) (K:y00) (mg:Str->Option Value) (base:Heap) (N:List Str) (qual:Str) (scope:Scope) (q:Addr) (cd:Value) (cl:List (Str×Addr)) (A:Around) (outer:List Env) (s:y04) (H:Hp) (E:XK):Cx :=
 (cxL P w K mg base N qual scope q cd cl A outer s H).wish fun e s'=>y0u (model P w) (A.deeper (envL qual scope s.heap.objs.size q cd cl)) (leaving (envL qual scope s.heap.objs.size q cd cl) e) (fun _ s''=>CXR P w outer H s E e s'') (fun e' s''=>CXR P w outer H s E e' s'') s'
section
variable {P:y0q} {w:World} {K:y00} {mg:Str->Option Value} {base:Heap} {k:Nat} {q c':Addr} {N:List Str} {qual:Str} {scope:Scope} {cl:List (Str×Addr)} {A:Around} {outer:List Env} {s:y04} {H:Hp} {σ:L2.St} {C:Addr}
theorem zeo {params:Arguments} {body:Expr} {pm ctv:Value} {r:Fz} {E:XK} (hk:scope.kind=.function) (hco:scope.isCoroutine=false) (hgen:scope.isGenerator=false) (hnc:∀x∈scope.names,x.2≠.cell)
  (hb:∀(A:Around) (outer:List Env) (s:y04) (H:Hp) (E:XK),Room k (A.deeper (envL qual scope s.heap.objs.size q (.ref c') cl))->PEz (cxLZ P w K mg base N qual scope q (.ref c') cl A outer s H E) C body r)
  (bd:bindArgs (PySem.W.kla_fn "<lambda>" qual params body scope cl pm (.ref c') ctv) ⟨[],[]⟩=pure [])
  (hr:Room (k+1) A) (e0:Env0 P w K mg base A outer s H) (hq:H q=some (lamO (PySem.W.kla_obj "<lambda>" qual params body scope cl pm c' ctv) q)) (hc:H c'=some (codO c' qual)) (Cp:Caps N scope cl σ H s.heap)
  (h:∃F₀ En O F ε,RelE K F₀ En O F H ε σ/\r ε=true/\∀F' H',Ext F H F' H'->E (.ref C) none H'):codeAny (model P w) A (.call (.ref q) ⟨[],[]⟩) (CR (CXR P w) outer P w H s (fun _ _=>False) E) s:=by
 have nolim:s.heap.NoLimit:=e0.mod.nolimit.keeps fun b o e=>(e0.bs b o e).1
 refine PySem.W.kla_callFunE hr.depth (e0.hok q _ hq).1 rfl hco hgen rfl (e0.hok c' _ hc).1 ?_
 rw[bd]
 refine y06 (wpAny_newFunctionEnv hnc (fun x hx=>by cases hx) (fun h₁ hns hsb=>⟨nolim.fresh _ hsb,?_⟩) hk)
 have kp:∀b o,s.heap.get? b=some o->h₁.get? b=some o:=fun b o e=>hsb.extBut b o (y0y (y0c e)) (y03 _ e)
 show codeAny _ _ (.expr body (envL qual scope s.heap.objs.size q (.ref c') cl)) _ _
 refine PySem.W.kla_codeExpr ?_
 have I0:Inv (cxL P w K mg base N qual scope q (.ref c') cl A outer s H) [] σ H { s with heap:=h₁,toks:=s.toks+([]:List (Str×Value)).length }:=z7j hk hr.hd e0 Cp hns kp
 have I:Inv (cxLZ P w K mg base N qual scope q (.ref c') cl A outer s H E) [] σ H { s with heap:=h₁,toks:=s.toks+([]:List (Str×Value)).length }:=I0.wish _
 obtain⟨F₀,En,O,F,ε,rl,er,kq⟩:=h
 refine y1c (hb A outer s H E (hr.deeper _) [] _ σ H (fun _ _=>False) I ⟨F₀,En,O,F,ε,rl,er,fun F' H' x pins σ1 H1 s1 e1 s2 I1 t=>?_⟩) (fun u s' hs=>?_) fun e s' hs=>hs
 ·exact y1c (zb1 (X:=cxLZ P w K mg base N qual scope q (.ref c') cl A outer s H E) (E:=E) (Z:=fun _ _=>False) I1 t (kq F' H' x)) (fun _ _ z=>z) fun _ _ z=>z.elim
 ·obtain⟨_,_,_,_,z⟩:=hs
  exact z.elim
end
noncomputable def znr (X:Cx) (C:Addr) (H':Hp):Prop:=∀(pins:List (Addr×Obj)) (σ:L2.St) (H:Hp) (s:y04) (e:Value) (s':y04),Inv X pins σ H s->zhr X.prog X.w X.stack H s C H' e s'->X.xe e s'
noncomputable def zdc (X:Cx) (C:Addr) (i:Nat):TE:=fun σ H _=>∃q,σ[i]?=some (some (.ref q))/\(∃(o:Obj) (fd:y0b),H q=some (lamO o q)/\o.data=.func fd) /\
 ∀(pins:List (Addr×Obj)) (s:y04),Inv X pins σ H s->codeAny (model X.prog X.w) X.A (.call (.ref q) ⟨[],[]⟩) (CR (CXR X.prog X.w) X.stack X.prog X.w H s (fun _ _=>False) fun cl _ H'=>∃C',cl=.ref C'/\znr X C' H') s
theorem zgl {X:Cx} {C:Addr} {i:Nat} {x:Str} {p pos:Pos} (hn:PE X (.Name x p) (tVar i)):PE X (.Call (.Name x p) [] [] pos) (zdc X C i):=by
 intro pins s σ H Q I ⟨q,hq,⟨o,fd,ho,hfd⟩,hc⟩
 refine wpAny_Call_Name_kw (thn (hn pins s σ H (fun v H1=>v=.ref q/\H1=H) I ⟨.ref q,hq,rfl,rfl⟩) fun v s1 ⟨y,H1,I1,ry,ey,eh⟩=>?_)
 subst ey
 subst eh
 cases ry
 have fa:PySem.W.FnAt q s1.heap:=by
  have h1:s1.heap.get? q=some o:=(I1.hok q _ ho).1
  obtain⟨c,dct,dt,sl⟩:=o
  cases hfd
  exact⟨_,_,_,_,h1⟩
 refine PySem.W.callWith_F0 fa ?_
 refine wpAny_call (codeAny_mono (hc pins s1 I1) fun r s' hq=>?_)
 cases r with
 | error e =>
  obtain⟨C1,H',fl,C2,e2,ok⟩:=hq
  cases e2
  exact ok pins σ H1 s1 e s' I1 fl
 | ok fl =>
  cases fl with
  | ret u =>
   obtain⟨_,_,_,_,_,_,_,z⟩:=hq
   exact z.elim
  | next=>exact y1t hq
  | brk=>exact y1t hq
  | cont=>exact y1t hq
noncomputable def zb8 (X:Cx) (C:Addr) (j:Nat):TS:=fun D σ H=>∃q,σ.length=4/\σ[0]?=some (some (.ref q))/\(∃(o:Obj) (fd:y0b),H q=some (lamO o q)/\o.data=.func fd)/\∃Φ:Hp->Prop,
 (∀(pins:List (Addr×Obj)) (s:y04),Inv X pins σ H s->codeAny (model X.prog X.w) X.A (.call (.ref q) ⟨[],[]⟩) (CR (CXR X.prog X.w) X.stack X.prog X.w H s (fun _ _=>False) fun cl _ H'=>cl=.ref C/\Φ H') s) /\
 ∀H',Φ H'->∀H'' p,Grow H' H''->H'' p=some (.tup [.str "refused",.int j])->D.rt (.ref p) H''
abbrev Cx.bears (X:Cx) (pn:List (Addr×Obj)) (E:Value->y04->Prop):Cx:={ X with pn:=pn,xe:=E }
theorem zez {X:Cx} {pins:List (Addr×Obj)} {σ:L2.St} {H:Hp} {s:y04} (I:Inv X pins σ H s) (E:Value->y04->Prop):Inv (Cx.bears X (X.pn++pins) E) [] σ H s :=
 ⟨⟨I.ok.mod,I.ok.kind,I.ok.glob,I.ok.blt,I.ok.above,I.ok.inj,I.ok.has,I.ok.cab,I.ok.hd,I.ok.frames,I.ok.stk,I.ok.exf,I.ok.bs,I.ok.bsz,I.ok.noex,I.ok.exfs,I.ok.funs,I.ok.frf⟩,I.os,I.bare,I.base,I.loc,I.cell,I.free,I.freeC,fun p hp=>I.pin p (by simpa using hp),I.hok,I.len⟩
theorem z65 {X:Cx} {pins pins2:List (Addr×Obj)} {σ:L2.St} {H:Hp} {s:y04} {E:Value->y04->Prop} (ok:X.Ok) (I:Inv (Cx.bears X (X.pn++pins) E) pins2 σ H s):Inv X pins σ H s :=
 ⟨ok,I.os,I.bare,I.base,I.loc,I.cell,I.free,I.freeC,fun p hp=>I.pin p (List.mem_append_left _ hp),I.hok,I.len⟩
theorem zgf {X:Cx} {C CD cz cw cd ct:Addr} {bs:List Bool} {j:Nat} {body suite:List Stmt} {b₀:Stmt} {np pos hpos rpos npos:Pos}
  (hbody:∀(pn:List (Addr×Obj)) (E:Value->y04->Prop),PSs (Cx.bears X pn E) body (tAsg (tTup (z2n (tC (.str "told")) (z2n (zdc (Cx.bears X pn E) C 0) tNil))) (z9m 1)))
  (hsuite:∀ea,PSs (Cx.inX X ea) (b₀::suite) (zda X.K C cz cw cd ct)) (kk:Kinds X.K C cz cw cd ct bs j)
  (hm:X.mg "DoorError"=some (.ref CD)) (h1:PySem.W.typeIn X.K (.ref CD)=some (.type "type")) (h2:PySem.W.mroIn X.K CD (.type "BaseException")=some true) (h3:PySem.W.mroIn X.K C (.ref CD)=some true) (hc:(PySem.W.clsIn X.K CD).isSome=true)
  (hret:PE X (.Name "_law_found" npos) (tVar 1))
  (hN:X.N.Nodup) (hi:X.N[2]?=some ("e":Str)) (hlen:X.N.length=4) (hlo:X.env.kindOf "e"=some .local) (hst:X.stack=X.env::X.outer) (hf:X.env.frame=some X.env.locals) (hg:Gl X "DoorError") :
  PSs X [.Try body [.ExceptHandler (some (.Name "DoorError" np)) (some "e") (b₀::suite) hpos] [] [] pos,.Return (some (.Name "_law_found" npos)) rpos] (zb8 X C j):=by
 have htry:PS X (.Try body [.ExceptHandler (some (.Name "DoorError" np)) (some "e") (b₀::suite) hpos] [] [] pos) (fun D σ H=>∃q,σ.length=4/\σ[0]?=some (some (.ref q))/\(∃(o:Obj) (fd:y0b),H q=some (lamO o q)/\o.data=.func fd)/\∃Φ:Hp->Prop,
   (∀(pins:List (Addr×Obj)) (s:y04),Inv X pins σ H s->codeAny (model X.prog X.w) X.A (.call (.ref q) ⟨[],[]⟩) (CR (CXR X.prog X.w) X.stack X.prog X.w H s (fun _ _=>False) fun cl _ H'=>cl=.ref C/\Φ H') s) /\
   ∀H',Φ H'->∀H'' p σ'',Grow H' H''->H'' p=some (.tup [.str "refused",.int j])->σ''[1]?=some (some (.ref p))->D.nx σ'' H''):=by
  intro pins s σ H D I ⟨q,hl,hq,hlam,Φ,hcall,hk⟩
  refine wpAny_Try_except ?_
  let E':Value->y04->Prop:=fun e s₁=>y0u (model X.prog X.w) X.A (noteFrame e X.env) (fun _ s₂=>y0u (model X.prog X.w) X.A (setFlight e none) (fun _ s₃=>y0u (model X.prog X.w) X.A (handleBy e X.env [.ExceptHandler (some (.Name "DoorError" np)) (some "e") (b₀::suite) hpos]) (L2.SP X pins D) X.xe s₃) X.xe s₂) X.xe s₁
  refine y1c (hbody (X.pn++pins) E' [] s σ H { nx:=fun _ _=>False,rt:=fun _ _=>False } (zez I E') ⟨q,hq,hlam,fun pins2 s2 I2=>?_⟩) (fun f s1 hs=>?_) fun e s1 he=>he
  ·refine codeAny_mono (hcall (pins) s2 (z65 I.ok I2)) fun r s' hr=>?_
   cases r with
   | ok fl =>
    cases fl with
    | ret u=>exact hr
    | next=>exact hr
    | brk=>exact hr
    | cont=>exact hr
   | error e =>
    obtain⟨C1,H',fl,e1,ph⟩:=hr
    cases e1
    refine⟨C,H',fl,C,rfl,fun pins3 σ3 H3 s3 e3 s4 I3 fl3=>?_⟩
    have J:=z65 I.ok I3
    have l3:σ3.length=4:=by rw[J.len,hlen]
    refine zhk (i:=2) J fl3 hm h1 h2 h3 hc hsuite (fun ea hea=>zac kk (ea:=ea) (by simp[l3]) (List.getElem?_set_self (by omega)) z03 fun H'' p σ' g hp hl' h1'=>?_) hN hi hlo hst hf hg (by decide)
    refine hk H' ph H'' p _ ((Grow.laid hea).trans g) hp ?_
    rw[List.getElem?_set_ne (by decide)]
    exact h1'
  ·cases f with
   | next=>obtain⟨_,_,_,z⟩:=hs;exact y1t z
   | brk=>obtain⟨_,_,_,z⟩:=hs;exact y1t z
   | cont=>obtain⟨_,_,_,z⟩:=hs;exact y1t z
   | ret u=>obtain⟨_,_,_,_,_,z⟩:=hs;exact y1t z
 refine z6q (z37 htry (z4f (z94 hret))) fun D σ H ⟨q,hl,hq,hlam,Φ,hcall,hk⟩=>?_
 exact⟨q,hl,hq,hlam,Φ,hcall,fun H' ph H'' p σ'' g hp h1'=>⟨_,h1',hk H' ph H'' p g hp⟩⟩
def z7v (f:Fx) (r:Fz) (j:Nat):Fx:=fun ε=>if r ε=true then some (.tuple [.str "refused",.int j],ε) else zg3 f ε
theorem zd3 {X:Cx} {k:Nat} {x:Str} {st:Stmt} {fa:Addr} {fd:y0b} {y0 y1 y2 y3:Str} {params:Arguments} {body:Expr} {scope:Scope} {lpos p pos:Pos} {c Pt C:Addr} {f:Fx} {r:Fz} {j:Nat}
  (F:Fun X.K x x st fa fd) (S:FnScope [y0,y1,y2,y3] [y0] (z00 st)) (bd:z1f X.K fd [y0] []) (hm:X.mg x=some (.ref fa))
  (ht:∀(cdv:Value) (A:Around) (outer:List Env) (s:y04) (H:Hp),PSs (cxOf CX0 X.prog X.w X.K X.mg X.base [y0,y1,y2,y3] x (z00 st) fa cdv A outer s H E0).nox (z09 st) (zir (cxOf CX0 X.prog X.w X.K X.mg X.base [y0,y1,y2,y3] x (z00 st) fa cdv A outer s H E0).nox))
  (hz:∀(cdv:Value) (A:Around) (outer:List Env) (s:y04) (H:Hp),PSs (cxOf CX0 X.prog X.w X.K X.mg X.base [y0,y1,y2,y3] x (z00 st) fa cdv A outer s H E0).nox (z09 st) (zb8 (cxOf CX0 X.prog X.w X.K X.mg X.base [y0,y1,y2,y3] x (z00 st) fa cdv A outer s H E0).nox C j))
  (hcode:X.env.code=.ref c) (hcd:PySem.W.codeHdIn X.K c Pt=true) (hbm:BM X.mg X.base) {qn:Str} (htb:(Pt,qn)∈Tbl.tb) (hun:∀p∈Tbl.tb,p.1=Pt->p.2=qn)
  (hr:Room (k+2) X.A)
  (hb:∀(q c':Addr) (cl:List (Str×Addr)) (A:Around) (outer:List Env) (s:y04) (H:Hp),Room k (A.deeper (envL (X.env.qual++"<lambda>") scope s.heap.objs.size q (.ref c') cl))->PEx (cxL X.prog X.w X.K X.mg X.base X.N (X.env.qual++"<lambda>") scope q (.ref c') cl A outer s H) body f)
  (hbz:∀(q c':Addr) (cl:List (Str×Addr)) (A:Around) (outer:List Env) (s:y04) (H:Hp) (E:XK),Room k (A.deeper (envL (X.env.qual++"<lambda>") scope s.heap.objs.size q (.ref c') cl))->PEz (cxLZ X.prog X.w X.K X.mg X.base X.N (X.env.qual++"<lambda>") scope q (.ref c') cl A outer s H E) C body r)
  (hsc:(decide (scope.kind=.function) && !scope.isCoroutine && !scope.isGenerator && scope.names.all fun y=>decide (y.2≠.cell) && decide (y.2≠.local))=true:=by rfl)
  (hfr:(scope.names.all fun y=>decide (y.2≠.free) || decide (X.env.scope.names.lookup y.1=some .cell))=true:=by rfl)
  (bdl:∀(cl:List (Str×Addr)) (pm:Value) (c':Addr) (ctv:Value),bindArgs (PySem.W.kla_fn "<lambda>" (X.env.qual++"<lambda>") params body scope cl pm (.ref c') ctv) ⟨[],[]⟩=pure []:=by intros;rfl)
  (hg:Gl X x:=by rfl) (hdb:(x == ("__debug__":Str))=false:=by decide) (hdef:defaultsOf params X.env=([],[]):=by rfl)
  (he:y0a [.Lambda params body scope lpos] X.env=(false,eval (.Lambda params body scope lpos) X.env)::y0a [] X.env:=by rfl) (hqn:X.env.qual++"<lambda>"=qn:=by rfl) :
  PEx X (.Call (.Name x p) [.Lambda params body scope lpos] [] pos) (z7v f r j):=by
 subst hqn
 simp only[y1a,Bool.not_eq_true',decide_eq_true_eq,List.all_eq_true] at hsc
 obtain⟨⟨⟨hk,hco⟩,hgen⟩,hnc⟩:=hsc
 simp only[List.all_eq_true,Bool.or_eq_true,decide_eq_true_eq] at hfr
 have hfr':∀y∈scope.names,y.2=.free->X.env.scope.names.lookup y.1=some .cell:=fun y hy hf=>by
  rcases hfr y hy with z|z
  ·exact absurd hf z
  ·exact z
 intro pins s σ H Q I ⟨F₀,E,O,F',ε,t,ε',rl,e,kk⟩
 have Chd:=PySem.W.codeHd_of_K I.ok.mod.kin hcd
 unfold z7v at e
 by_cases er:r ε=true
 case neg =>
  rw[if_neg er] at e
  exact zkf F S bd hm ht hcode Chd hbm htb hun hk hco hgen (fun y hy=>hnc y hy) hfr' bdl hr hb hg hdb hdef he pins s σ H Q I ⟨F₀,E,O,F',ε,t,ε',rl,e,kk⟩
 rw[if_pos er] at e
 cases e
 refine wpAny_Call_Name_kw (z56 I hg hm ?_ hdb)
 refine PySem.W.callWith_K (h₀:=X.base) I.ok.mod.kin F.kp ?_ he rfl
 rw[he]
 show y0u _ _ (spliced ((false,eval (.Lambda params body scope lpos) X.env)::[])) _ _ s
 have hl:∀x∈scope.names,x.2=.free->∃c,X.env.cells.lookup x.1=some c:=fun x hx hf=>I.ok.has x.1 (.inl (hfr' x hx hf))
 refine Calls.spliced_cons (z87 I hcode Chd hbm hdef (z29 hl) rl.dom.tgs htb hun fun q c' ctv H1 s1 I1 sm tb1 hqn hq hc=>Calls.spliced_nil ⟨I1.kIn,?_⟩)
 have x1:Ext F' H F' H1:=⟨sm,fun _ h=>h,fun _ h=>.inl h,⟨fun a ha=>by
  obtain⟨o,ho⟩:=rl.dom.dm a ha
  exact sm.ne ho,tb1⟩⟩
 have fin:codeAny (model X.prog X.w) X.A (.call (.ref fa) ⟨[.ref q],[]⟩) (CR CX0 X.stack X.prog X.w H1 s1 Q E0) s1:=by
  refine zbt (k:=k+1) (vs:=[.ref q]) F S bd hr I1.env0 (.cons rfl .nil) rfl fun cdv hr2=>⟨_,hz cdv X.A X.stack s1 H1,?_⟩
  refine⟨q,rfl,rfl,⟨_,_,hq,rfl⟩,fun H'=>∃F2,Ext F' H1 F2 H',fun pins2 s2 I2=>?_,?_⟩
  ·have caps:Caps X.N scope (clos X.env scope.names []) σ H1 s2.heap:=by
    have c1:=zfj I1 hnc hfr'
    have kp:∀{a:Addr} {v:Option Value},s1.heap.IsCell a v->H1 a=none->s2.heap.IsCell a v:=fun {a v} z n=>z9h I2.base z n (by intro z;exact absurd (show a∈([]:List Addr) from z) (by simp))
    refine⟨c1.inj,c1.has,fun x c h=>?_,c1.len,fun i x v h1 h2 h3=>?_⟩
    ·obtain⟨⟨v,hv⟩,hn⟩:=c1.cel x c h
     exact⟨⟨v,kp hv hn⟩,hn⟩
    ·obtain⟨u,c,ru,hf,hc2,hx⟩:=c1.val i x v h1 h2 h3
     exact⟨u,c,ru,hf,hc2,kp hx (c1.cel x c hc2).2⟩
   exact zeo hk hco hgen (fun x hx=>(hnc x hx).1) (hbz q c' _) (bdl _ _ _ _) hr2 I2.env0 hq hc caps ⟨F₀,E,O,F',ε,rl.ext x1,er,fun F2 H2 x2=>⟨rfl,F2,x2⟩⟩
  ·rintro H' ⟨F2,x2⟩ H'' p g hp
   have x3:=g F2 x2.dom
   refine kk _ F2 _ ((x1.trans x2).trans x3).kp (rl.ext ((x1.trans x2).trans x3)) ?_
   simp only[Rep]
   exact⟨p,_,rfl,SqT.of hp,RepL.cons (by simp[Rep]) (RepL.cons (by simp[Rep]) RepL.nil)⟩
 refine wpAny_call (codeAny_mono fin fun r s' hq=>?_)
 cases r with
 | error e=>exact y1t hq
 | ok fl =>
  cases fl with
  | ret u=>exact I1.after hq
  | next=>exact y1t hq
  | brk=>exact y1t hq
  | cont=>exact y1t hq
end
section
variable [Tbl]
noncomputable def zck (a:Str):T->Option T
 | .str x=>if (reprText x).length<=10000/\a.length<=1000 then some (.str (Str.empty++a++reprText x)) else none
 | .int i=>if i.natAbs<1000/\a.length<=1000 then some (.str (Str.empty++a++Str.ofString (toString i))) else none
 | _=>none
theorem zl9 {X:Cx} {e:Expr} {f:Fe} {a:Str} {j:Nat} {p1 p2 p3:Pos} (he:PEr X e f):PEv X (.JoinedStr [.Constant (.str a) j p1,.FormattedValue e 114 none p2] p3) (op1 (zck a) f):=by
 intro pins s σ H Q I ⟨F₀,E,O,F,ε,t,r,e1,k⟩
 simp only[op1,y01] at e1
 obtain⟨x,ex,e1⟩:=e1
 have emp:∀y:Str,(Str.empty++y).length=y.length:=fun y=>by rw[strLen_append];simp[Str.empty,Str.length]
 have app:∀y z:Str,(Str.empty++y++z).length=y.length+z.length:=fun y z=>by rw[strLen_append,emp]
 refine wpAny_JoinedStr ?_
 refine Calls.Constant_str ⟨a,_,rfl,?_,?_⟩
 ·rw[emp,sizeLine_eq]
  unfold zck at e1
  split at e1
  ·split at e1
   next h=>have:=h.2;omega
   next=>cases e1
  ·split at e1
   next h=>have:=h.2;omega
   next=>cases e1
  ·cases e1
 show y0u _ _ (eval (.FormattedValue e 114 none p2) X.env) _ _ _
 refine wpAny_FormattedValue_repr ?_
 refine thn (he pins _ σ H (fun v H1=>∃F1,Ext F H F1 H1/\RepR X.K O F1 H1 x v) (I.tok _) ⟨F₀,E,O,F,ε,x,r,ex,fun v F' H' x' rv=>⟨F',x',rv⟩⟩) fun u s1 ⟨v,H1,I1,rv,F1,x1,rx⟩=>?_
 cases x with
 | str y =>
  simp only[zck] at e1
  split at e1
  next h =>
   cases e1
   have ev:=rx.str
   subst ev
   obtain⟨tk,rfl⟩:=rv
   have h1:=h.1
   have h2:=h.2
   refine wpAny_pyReprObj_str ?_ (by rw[sizeLine_eq];omega)
   have fin:∀(tt:Tok) (ss:y04),Inv X pins σ H1 ss->∃y_1 t,Value.str (reprText y) tt=Value.str y_1 t/\(Str.empty++a++y_1).length<=y0j/\Joins (model X.prog X.w) X.A X.xe [] (Str.empty++a++y_1) (fun out s₁=>out.length<=y0j/\EP X pins σ Q (.str out s₁.toks) { s₁ with toks:=s₁.toks+1 }) ss:=fun tt ss Is=>by
    have hz:(Str.empty++a++reprText y).length<=y0j:=by rw[app,sizeLine_eq];omega
    exact⟨_,_,rfl,hz,hz,⟨.str _,H1,Is.tok _,⟨_,rfl⟩,k _ F1 H1 x1 (by simp[Rep])⟩⟩
   exact wpAny_formatField_str (fin _ _ (I1.tok _)) (fin _ _ ((I1.tok _).tok _)) (by rw[sizeLine_eq];omega)
  next=>cases e1
 | int i =>
  simp only[zck] at e1
  split at e1
  next h =>
   cases e1
   have ev:=rx.int
   subst ev
   obtain⟨tk,rfl⟩:=rv
   have h1:=h.1
   have h2:=h.2
   have hd:i.natAbs.log2<1920:=by
    by_cases h0:i.natAbs=0
    ·rw[h0];decide
    ·exact y0x ((Nat.log2_lt h0).mpr (show i.natAbs<2 ^ 10 by omega)) (by decide)
   have hln:(Str.ofString (toString i)).length<=4300:=by
    have e:=int_text_length_le10 (k:=3) (by decide) (show i.natAbs<10 ^ 3 from h1)
    rw[PySem.ofString_length]
    omega
   refine wpAny_pyReprObj_gives (typeIs_int _ i tk) PySem.F.slot_int_repr PySem.F.entry_int_repr (PySem.F.args_int_repr_1 _) (gives_int_repr i tk hd) ?_ rfl (by rw[sizeLine_eq];exact y1l hln (by omega))
   have fin:∀(tt:Tok) (ss:y04),Inv X pins σ H1 ss->∃y_1 t,Value.str (Str.ofString (toString i)) tt=Value.str y_1 t/\(Str.empty++a++y_1).length<=y0j/\Joins (model X.prog X.w) X.A X.xe [] (Str.empty++a++y_1) (fun out s₁=>out.length<=y0j/\EP X pins σ Q (.str out s₁.toks) { s₁ with toks:=s₁.toks+1 }) ss:=fun tt ss Is=>by
    have hz:(Str.empty++a++Str.ofString (toString i)).length<=y0j:=by rw[app,sizeLine_eq];omega
    exact⟨_,_,rfl,hz,hz,⟨.str _,H1,Is.tok _,⟨_,rfl⟩,k _ F1 H1 x1 (by simp[Rep])⟩⟩
   exact wpAny_formatField_str (fin _ _ (I1.tok _)) (fin _ _ ((I1.tok _).tok _)) (by rw[sizeLine_eq];omega)
  next=>cases e1
 | none=>cases e1
 | bool b=>cases e1
 | tuple b=>cases e1
 | list b=>cases e1
 | dict b=>cases e1
end
section
noncomputable def zgq (K:y00) (CD cz cw cd ct C:Addr) (b0 b1 b2 b3:Bool):Bool :=
 (PySem.W.clsIn K C).isSome && (PySem.W.findIn K (.ref C) "__getattribute__" == some (some (.builtin "BaseException.__getattribute__"))) && (PySem.W.findIn K (.ref C) "__getattr__" == some none)
 && (PySem.W.findIn K (.ref C) "__class__" == some (some (.builtin "object.__class__"))) && (PySem.W.specialIn K (.builtin "object.__class__") "__get__" == some (some (.builtin "getset_descriptor.__get__")))
 && (PySem.W.takesIn K (.builtin "object.__class__") == some true) && (PySem.W.mroIn K C (.type "object") == some true) && (PySem.W.mroIn K C (.type "BaseException") == some true)
 && (PySem.W.mroIn K C (.ref CD) == some true) && PySem.W.excIn K C bmV "ValueError.__new__"
 && (PySem.W.kitOne K (.ref C) (.ref cz) == some b0) && (PySem.W.kitOne K (.ref C) (.ref cw) == some b1) && (PySem.W.kitOne K (.ref C) (.ref cd) == some b2) && (PySem.W.kitOne K (.ref C) (.ref ct) == some b3)
 && (PySem.W.kitOne K (.ref C) (.type "ValueError") == some true)
def zfd (K:y00) (CD:Addr):Bool:=(PySem.W.typeIn K (.ref CD) == some (.type "type")) && (PySem.W.mroIn K CD (.type "BaseException") == some true) && (PySem.W.clsIn K CD).isSome
structure Ref1 (K:y00) (CD cz cw cd ct C:Addr) (j:Nat):Prop where
 ok:ExcOk K C
 mro:PySem.W.mroIn K C (.ref CD)=some true
 new:PySem.W.excIn K C bmV "ValueError.__new__"=true
 kinds:∃bs,Kinds K C cz cw cd ct bs j
theorem ziy {K:y00} {CD cz cw cd ct C:Addr} {b0 b1 b2 b3:Bool} {j:Nat} (h:zgq K CD cz cw cd ct C b0 b1 b2 b3=true) (one:[b0,b1,b2,b3].countP id=1) (hit:[b0,b1,b2,b3][j]?=some true) (no:∀m,m<j->[b0,b1,b2,b3][m]?=some false) :
  Ref1 K CD cz cw cd ct C j:=by
 unfold zgq at h
 simp only[y1a,beq_iff_eq] at h
 obtain⟨⟨⟨⟨⟨⟨⟨⟨⟨⟨⟨⟨⟨⟨h1,h2⟩,h3⟩,h4⟩,h5⟩,h6⟩,h7⟩,h8⟩,h9⟩,h10⟩,h11⟩,h12⟩,h13⟩,h14⟩,h15⟩:=h
 exact⟨⟨h1,h2,h3,h4,h5,h6,h7,h8⟩,h9,h10,_,⟨b0,b1,b2,b3,rfl,h11,h12,h13,h14⟩,h15,one,hit,no⟩
theorem zn8 {K:y00} {CD cz cw cd ct:Addr} (h:zgq K CD cz cw cd ct cw false true false false=true):Ref1 K CD cz cw cd ct cw 1:=ziy h rfl rfl fun m hm=>by
 obtain rfl:m=0:=by omega
 rfl
structure Names (K:y00) (mg:Str->Option Value) (CD cz cw cd ct:Addr):Prop where
 door:mg "DoorError"=some (.ref CD)
 nz:mg "NoZone"=some (.ref cz)
 nw:mg "NoWay"=some (.ref cw)
 nd:mg "NoDeed"=some (.ref cd)
 nt:mg "NoText"=some (.ref ct)
 isi:mg "isinstance"=none
 val:mg "ValueError"=none
 ok:zfd K CD=true
section
variable [Tbl] {X:Cx} {C CD cz cw cd ct:Addr} {j:Nat} {pos p p1:Pos}
theorem z97 {ec:Expr} {c:V} (O:ExcOk X.K C) (z:X.mg "isinstance"=none) (he:PE X (.Name "e" p1) (tVar 2)) (hc:PE X ec (tC c)) (hg:Gl X "isinstance":=by rfl)
  (hs:y0a [.Name "e" p1,ec] X.env=(false,eval (.Name "e" p1) X.env)::y0a [ec] X.env:=by rfl) (hs2:y0a [ec] X.env=(false,eval ec X.env)::y0a [] X.env:=by rfl)
  (hpl:(backTo pos (y0a [ec] X.env)).any (·.1)=false:=by rfl) :
  PE X (.Call (.Name "isinstance" p) [.Name "e" p1,ec] [] pos) (tIsi X.K C c):=z38 (zmh O) hg z PyProof.Rows.Boot.«isinstance» (z0f he (z0f hc z17 hs2) hs) (he:=hs) (hpl:=hpl)
theorem zkl {body suite:List Stmt} {b₀:Stmt} {np pos hpos rpos npos:Pos} (N:Names X.K X.mg CD cz cw cd ct) (R:Ref1 X.K CD cz cw cd ct C j)
  (hbody:∀(pn:List (Addr×Obj)) (E:Value->y04->Prop),PSs (Cx.bears X pn E) body (tAsg (tTup (z2n (tC (.str "told")) (z2n (zdc (Cx.bears X pn E) C 0) tNil))) (z9m 1)))
  (hsuite:∀ea,PSs (Cx.inX X ea) (b₀::suite) (zda X.K C cz cw cd ct)) (hret:PE X (.Name "_law_found" npos) (tVar 1))
  (hN:X.N.Nodup) (hi:X.N[2]?=some ("e":Str):=by rfl) (hlen:X.N.length=4:=by rfl) (hlo:X.env.kindOf "e"=some .local:=by rfl) (hst:X.stack=X.env::X.outer:=by rfl) (hf:X.env.frame=some X.env.locals:=by rfl) (hg:Gl X "DoorError":=by rfl) :
  PSs X [.Try body [.ExceptHandler (some (.Name "DoorError" np)) (some "e") (b₀::suite) hpos] [] [] pos,.Return (some (.Name "_law_found" npos)) rpos] (zb8 X C j):=by
 have ok:=N.ok
 unfold zfd at ok
 simp only[y1a,beq_iff_eq] at ok
 obtain⟨⟨h1,h2⟩,h3⟩:=ok
 obtain⟨bs,kk⟩:=R.kinds
 exact zgf hbody hsuite kk N.door h1 h2 R.mro h3 hret hN hi hlen hlo hst hf hg
end
end
section
def z3a (kf:T->Option T) (b kb:T):List T->Option T
 | []=>some b
 | d::ds=>(kf d).bind fun kd=>(ltD kd kb).bind fun z=>if z then z3a kf d kd ds else z3a kf b kb ds
def minK (kf:T->Option T):List T->Option T
 | []=>none
 | d::ds=>(kf d).bind fun kd=>z3a kf d kd ds
variable [Tbl]
theorem FpOk.at {X:Cx} {pins:List (Addr×Obj)} {H H':Hp} {b:Addr} (h:FpOk X pins H b) (e:H' b=none):FpOk X pins H' b:=⟨e,h.2⟩
theorem zh1 {X:Cx} {kf:T->Option T} (hc:X.calm=true) (hu:X.A.units+70<cLine) {l q I S:Addr} {xs:List V} {ds:List T} {pins:List (Addr×Obj)} {σ:L2.St} {tc:(Addr->Prop)->Hp->Prop} {R:Result->y04->Prop} {dr:T} (hIS:I≠S)
  (tk:∀F H F' H',Ext F H F' H'->tc F H->tc F' H') (hok:∀d kd,kf d=some kd->okT kd=true)
  (hcall:∀(pins':List (Addr×Obj)) (H:Hp) (s:y04) (F:Addr->Prop) (d kd:T) (v:V) (u:Value),Inv X pins' σ H s->Dom F H->tc F H->Rep X.K F H d v->RelV v u->kf d=some kd ->
   y0u (model X.prog X.w) X.A.in1 (call (.ref q) [u]) (EP X pins' σ fun kv H'=>∃F',Ext F H F' H'/\Rep X.K F' H' kd kv) (fun _ _=>False) s) :
  ∀(r j:Nat) (s:y04) (H:Hp) (F:Addr->Prop) (db dk:T) (xb xk:V) (vb vk:Value) (c:Nat),ds.length - (j+1)=r->j+1<=ds.length->Inv X pins σ H s->Dom F H->tc F H->SqT X.K H l xs->RepL X.K F H ds xs->s.heap.IsTupleIter I l (j+1) ->
   s.heap.get? S=some (seqObj "list" #[vb,vk] c)->FpOk X pins H I->FpOk X pins H S->RelV xb vb->Rep X.K F H db xb->RelV xk vk->Rep X.K F H dk xk->okT dk=true->z3a kf db dk (ds.drop (j+1))=some dr ->
   (∀s' H' F' v x,Inv X pins σ H' s'->Ext F H F' H'->RelV x v->Rep X.K F' H' dr x->R (.ok (.ret v)) s') ->
   codeAny (model X.prog X.w) X.A (.builtin "min.loop" ⟨[.ref I,.ref q,.ref S],[]⟩) R s:=by
 have nm:(toString "min"++toString ".loop":String)="min.loop":=by decide
 intro r
 induction r with
 | zero =>
  intro j s H F db dk xb xk vb vk c hr hj J dom htc hq hrep hit hS fI fS rb pb rk pk okk hmin hR
  obtain⟨its,rv,p,hz⟩:=J.tuple hq
  have hlen:its.length=ds.length:=by rw[hrep.length,rv.length]
  refine codeAny_builtin (id:="min.loop") PySem.F.entry_min_loop ?_
  rw[y1r (PySem.F.plain_min_loop) _]
  show y0u _ X.A.in1 (seqItems? (.ref S) >>= _) _ _ _
  refine y02 (wpAny_seqItems (a:=S) hS rfl ?_)
  show y0u _ X.A.in1 (tryCatch (pyNext (.ref I)) _ >>= _) _ _ _
  refine y02 (wpAny_tryCatch (wpAny_pyNext_tuple_end (J.ok.hd hc) hit (show s.heap.IsTuple l its.toArray from p) (by simp;omega) fun h' eb=>?_))
  have J1:Inv X pins σ H { s with heap:=h' }:=J.turned (t':=s.toks) (fun b o hb e=>eb b o hb e) fI.1 fI.2.1 fI.2.2.2.1 fI.2.2.2.2.1 fI.2.2.2.2.2
  have hS':=eb S _ (Ne.symm hIS) hS
  show y0u _ X.A.in1 (updateSeq S (fun _=>#[]) >>= _) _ _ _
  refine y02 (wpAny_updateSeq hS' rfl (y02 (wpAny_letGo (y06 ?_))))
  rw[List.drop_of_length_le (by omega)] at hmin
  cases hmin
  exact hR _ H F vb xb (J1.turned (t':=s.toks) (fun b o hb e=>(Heap.get?_update_other _ _ (Ne.symm hb)).trans e) fS.1 fS.2.1 fS.2.2.2.1 fS.2.2.2.2.1 fS.2.2.2.2.2) (Ext.refl dom) rb pb
 | succ r ih =>
  intro j s H F db dk xb xk vb vk c hr hj J dom htc hq hrep hit hS fI fS rb pb rk pk okk hmin hR
  have hlt:j+1<ds.length:=by omega
  obtain⟨its,rv,p,hz⟩:=J.tuple hq
  have hd:ds[j+1]?=some ds[j+1]:=y0v hlt
  obtain⟨x,hx,px⟩:=hrep.get hd
  obtain⟨u,hu',ru⟩:=rv.get hx
  rw[List.drop_eq_getElem_cons hlt,z3a] at hmin
  obtain⟨kd,ekd,hmin⟩:=y01.mp hmin
  obtain⟨z,ez,hmin⟩:=y01.mp hmin
  refine codeAny_builtin (id:="min.loop") PySem.F.entry_min_loop ?_
  rw[y1r (PySem.F.plain_min_loop) _]
  show y0u _ X.A.in1 (seqItems? (.ref S) >>= _) _ _ _
  refine y02 (wpAny_seqItems (a:=S) hS rfl ?_)
  show y0u _ X.A.in1 (tryCatch (pyNext (.ref I)) _ >>= _) _ _ _
  refine y02 (wpAny_tryCatch (wpAny_pyNext_tuple_item hit (show s.heap.IsTuple l its.toArray from p) (x:=u) (by simpa using hu') fun h' hit' sb=>?_))
  have J1:Inv X pins σ H { s with heap:=h' }:=J.turned (t':=s.toks) (fun b o hb e=>(sb.2 b hb).trans e) fI.1 fI.2.1 fI.2.2.2.1 fI.2.2.2.2.1 fI.2.2.2.2.2
  have hS':h'.get? S=some (seqObj "list" #[vb,vk] c):=(sb.2 S (Ne.symm hIS)).trans hS
  obtain⟨oI,hoI,cI,dI⟩:=id hit'
  have J2:Inv X ((S,seqObj "list" #[vb,vk] c)::(I,oI)::pins) σ H { s with heap:=h' }:=J1.pins_of fun p hp=>by
   rcases y09.mp hp with rfl|hp
   ·exact⟨hS',fS.1,fS.2.1,fS.2.2.1,fun v z=>by cases z⟩
   ·rcases y09.mp hp with rfl|hp
    ·exact⟨hoI,fI.1,fI.2.1,fI.2.2.1,fun v z=>by rw[dI] at z;cases z⟩
    ·exact J1.pin p (y19 _ hp)
  show y0u _ X.A.in1 (tryCatch (holding [u] (call (.ref q) [u])) _ >>= _) _ _ _
  refine y02 (wpAny_tryCatch (wpAny_holding (y1c (hcall _ H _ F _ kd x u J2 dom htc px ru ekd) (fun ku s2 he=>?_) fun _ _ hF=>hF.elim)))
  obtain⟨kv,H2,J3,rkv,F2,x2,pkv⟩:=he
  have pS:=J3.pin (S,seqObj "list" #[vb,vk] c) (y19 _ (.head _))
  have pI:=J3.pin (I,oI) (y19 _ (.tail _ (.head _)))
  have J4:Inv X pins σ H2 s2:=J3.pins_of fun p hp=>J3.pin p (y19 _ (.tail _ (.tail _ hp)))
  have fI2:=FpOk.at fI pI.2.1
  have fS2:=FpOk.at fS pS.2.1
  have hit2:s2.heap.IsTupleIter I l (j+1+1):=⟨oI,pI.1,cI,dI⟩
  obtain⟨as,ra⟩:=z10 (O:=fun _=>False) J4 (.inl pkv) rkv
  obtain⟨bs,rbb⟩:=z10 (O:=fun _=>False) J4 (.inl (pk.ext x2)) rk
  have okd:=hok _ _ ekd
  obtain⟨c1,l1⟩:=z5d okd
  obtain⟨c2,l2⟩:=z5d okk
  have hcmp:=zbm _ _ X.A.in1 s2 ku vk as bs z ra rbb c1 c2 (by have:=Nat.min_le_left kd.depth dk.depth;show X.A.units+1+_<_;omega) ez
  show y0u _ X.A.in1 (tryCatch (holding [u,ku] (richCompare .Lt ku vk >>= _)) _ >>= _) _ _ _
  refine y02 (wpAny_tryCatch (wpAny_holding (y02 (hcmp X.prog X.w _ _ ?_))))
  refine y02 (wpAny_holding (wpAny_truthy_bool (y02 (wpAny_letGo (y06 ?_)))))
  cases z with
  | true =>
   simp only[if_true] at hmin ⊢
   refine y02 (wpAny_updateSeq pS.1 rfl (y02 (wpAny_letGo ?_)))
   rw[nm]
   refine y06 ⟨plainId_quiet PySem.F.plain_min_loop _,ih (j+1) _ H2 F2 ds[j+1] kd x kv u ku _ (by omega) hlt (J4.turned (t':=s2.toks) (fun b o hb e=>(Heap.get?_update_other _ _ (Ne.symm hb)).trans e) fS2.1 fS2.2.1 fS2.2.2.2.1 fS2.2.2.2.2.1 fS2.2.2.2.2.2) x2.dom (tk _ _ _ _ x2 htc) (SqT.same x2.same hq) (hrep.ext x2)
    ⟨oI,(Heap.get?_update_other _ _ (Ne.symm hIS)).trans pI.1,cI,dI⟩ (get?_update_seq pS.1 fun _=>#[u,ku]) fI2 fS2 ru (px.ext x2) rkv pkv okd hmin fun s' H' F' v y a1 a2 a3 a4=>hR s' H' F' v y a1 (x2.trans a2) a3 a4⟩
  | false =>
   simp only[y1p,if_false] at hmin ⊢
   refine y02 (wpAny_letGo ?_)
   rw[nm]
   exact y06 ⟨plainId_quiet PySem.F.plain_min_loop _,ih (j+1) _ H2 F2 db dk xb xk vb vk c (by omega) hlt J4 x2.dom (tk _ _ _ _ x2 htc) (SqT.same x2.same hq) (hrep.ext x2) hit2 pS.1 fI2 fS2 rb (pb.ext x2) rk (pk.ext x2) okk hmin fun s' H' F' v y a1 a2 a3 a4=>hR s' H' F' v y a1 (x2.trans a2) a3 a4⟩
end
section
variable [Tbl]
theorem zfk {X:Cx} {kf:T->Option T} (hc:X.calm=true) (hu:X.A.units+70<cLine) {l q:Addr} {xs:List V} {ds:List T} {pins:List (Addr×Obj)} {σ:L2.St} {tc:(Addr->Prop)->Hp->Prop} {dr:T}
  (tk:∀F H F' H',Ext F H F' H'->tc F H->tc F' H') (hok:∀d kd,kf d=some kd->okT kd=true)
  (hcall:∀(pins':List (Addr×Obj)) (H:Hp) (s:y04) (F:Addr->Prop) (d kd:T) (v:V) (u:Value),Inv X pins' σ H s->Dom F H->tc F H->Rep X.K F H d v->RelV v u->kf d=some kd ->
   y0u (model X.prog X.w) X.A.in1 (call (.ref q) [u]) (EP X pins' σ fun kv H'=>∃F',Ext F H F' H'/\Rep X.K F' H' kd kv) (fun _ _=>False) s)
  {s:y04} {H:Hp} {F:Addr->Prop} {Q:VK} (J:Inv X pins σ H s) (dom:Dom F H) (htc:tc F H) (hq:SqT X.K H l xs) (hrep:RepL X.K F H ds xs) (hm:minK kf ds=some dr)
  (hQ:∀v F' H',Ext F H F' H'->Rep X.K F' H' dr v->Q v H') :
  y0u (model X.prog X.w) X.A (call (.builtin "min") [.ref l] [(Str.ofString "key",.ref q)]) (EP X pins σ Q) X.xe s:=by
 have hname:(toString "min"++toString ".loop":String)="min.loop":=by decide
 cases ds with
 | nil=>cases hm
 | cons d ds =>
  obtain⟨kd,ekd,hmin⟩:=y01.mp hm
  obtain⟨its,rv,p,hz⟩:=J.tuple hq
  refine PyProof.Rows.kmk_tree PySem.F.kind_min PySem.F.plain_min PySem.F.entry_min (PyProof.Rows.kmk_min_key _ _) ?_
  show y0u _ X.A.in1 (Builtin.Builtins.bindParams "min" ["key","default"] 0 ⟨[],[(Str.ofString "key",.ref q)]⟩ >>= _) _ _ s
  refine y02 (wpAny_of_eq (show Builtin.Builtins.bindParams "min" ["key","default"] 0 ⟨[],[(Str.ofString "key",.ref q)]⟩=pure [some (.ref q),none] from rfl) ?_)
  refine y02 (y06 ?_)
  refine y02 (wpAny_pyIter_tuple (show s.heap.IsTuple l its.toArray from p) ?_)
  refine y02 (wpAny_newList ?_ (y1z _))
  rw[hname]
  refine y06 ⟨plainId_quiet PySem.F.plain_min_loop _,?_⟩
  generalize eI:s.heap.objs.size=I
  generalize eS:(s.heap.push { cls:=.type "tuple_iterator",data:=.fields #[.ref l,.int 0 0] }).objs.size=S
  have hS1:S=I+1:=by rw[<- eS,<- eI];exact size_push' ..
  have hIS:I≠S:=by omega
  have gI:((s.heap.push { cls:=.type "tuple_iterator",data:=.fields #[.ref l,.int 0 0] }).push (seqObj "list" #[] 0)).get? I=some { cls:=.type "tuple_iterator",data:=.fields #[.ref l,.int 0 0] }:=by
   rw[<- eI]
   exact y03 _ (y0l _ rfl)
  have gS:((s.heap.push { cls:=.type "tuple_iterator",data:=.fields #[.ref l,.int 0 0] }).push (seqObj "list" #[] 0)).get? S=some (seqObj "list" #[] 0):=by
   rw[<- eS]
   exact y0l _ rfl
  have J0:Inv X pins σ H { s with heap:=(s.heap.push { cls:=.type "tuple_iterator",data:=.fields #[.ref l,.int 0 0] }).push (seqObj "list" #[] 0) }:=J.kept (t':=s.toks) fun b u e=>y03 _ (y03 _ e)
  have fI:FpOk X pins H I:=J.fpOk (by omega) (J.hok.fresh (by omega))
  have fS:FpOk X pins H S:=J.fpOk (by omega) (J.hok.fresh (by omega))
  obtain⟨x0,hx0,px0⟩:=hrep.get (i:=0) (t:=d) rfl
  obtain⟨u0,hu0,ru0⟩:=rv.get hx0
  have it0:((s.heap.push { cls:=.type "tuple_iterator",data:=.fields #[.ref l,.int 0 0] }).push (seqObj "list" #[] 0)).IsTupleIter I l 0:=⟨_,gI,rfl,rfl⟩
  have hT0:((s.heap.push { cls:=.type "tuple_iterator",data:=.fields #[.ref l,.int 0 0] }).push (seqObj "list" #[] 0)).IsTuple l its.toArray:=by
   obtain⟨o,ho,hr⟩:=(show s.heap.IsTuple l its.toArray from p)
   exact⟨o,y03 _ (y03 _ ho),hr⟩
  refine codeAny_builtin (id:="min.loop") PySem.F.entry_min_loop ?_
  rw[y1r PySem.F.plain_min_loop _]
  show y0u _ X.A.in1 (seqItems? (.ref S) >>= _) _ _ _
  refine y02 (wpAny_seqItems (a:=S) gS rfl ?_)
  show y0u _ X.A.in1 (tryCatch (pyNext (.ref I)) _ >>= _) _ _ _
  refine y02 (wpAny_tryCatch (wpAny_pyNext_tuple_item it0 hT0 (x:=u0) (by simpa using hu0) fun h' hit' sb=>?_))
  have J1:=J0.turned (h':=h') (t':=s.toks) (fun b o hb e=>(sb.2 b hb).trans e) fI.1 fI.2.1 fI.2.2.2.1 fI.2.2.2.2.1 fI.2.2.2.2.2
  have hS':h'.get? S=some (seqObj "list" #[] 0):=(sb.2 S (Ne.symm hIS)).trans gS
  obtain⟨oI,hoI,cI,dI⟩:=id hit'
  have J2:Inv X ((S,seqObj "list" #[] 0)::(I,oI)::pins) σ H { s with heap:=h' }:=J1.pins_of fun p hp=>by
   rcases y09.mp hp with rfl|hp
   ·exact⟨hS',fS.1,fS.2.1,fS.2.2.1,fun v z=>by cases z⟩
   ·rcases y09.mp hp with rfl|hp
    ·exact⟨hoI,fI.1,fI.2.1,fI.2.2.1,fun v z=>by rw[dI] at z;cases z⟩
    ·exact J1.pin p (y19 _ hp)
  show y0u _ X.A.in1 (tryCatch (holding [u0] (call (.ref q) [u0])) _ >>= _) _ _ _
  refine y02 (wpAny_tryCatch (wpAny_holding (y1c (hcall _ H _ F _ kd x0 u0 J2 dom htc px0 ru0 ekd) (fun ku s2 he=>?_) fun _ _ hF=>hF.elim)))
  obtain⟨kv,H2,J3,rkv,F2,x2,pkv⟩:=he
  have pS:=J3.pin (S,seqObj "list" #[] 0) (y19 _ (.head _))
  have pI:=J3.pin (I,oI) (y19 _ (.tail _ (.head _)))
  have J4:Inv X pins σ H2 s2:=J3.pins_of fun p hp=>J3.pin p (y19 _ (.tail _ (.tail _ hp)))
  have fI2:=FpOk.at fI pI.2.1
  have fS2:=FpOk.at fS pS.2.1
  have okd:=hok _ _ ekd
  show y0u _ X.A.in1 (updateSeq S (fun _=>#[u0,ku]) >>= _) _ _ _
  refine y02 ?_
  refine wpAny_updateSeq pS.1 rfl ?_
  rw[hname]
  refine y06 ⟨plainId_quiet PySem.F.plain_min_loop _,zh1 (ds:=d::ds) hc hu hIS tk hok hcall _ 0 _ H2 F2 d kd x0 kv u0 ku _ rfl (by simp) (J4.turned (t':=s2.toks) (fun b o hb e=>(Heap.get?_update_other _ _ (Ne.symm hb)).trans e) fS2.1 fS2.2.1 fS2.2.2.2.1 fS2.2.2.2.2.1 fS2.2.2.2.2.2) x2.dom (tk _ _ _ _ x2 htc) (SqT.same x2.same hq) (hrep.ext x2)
   ⟨oI,(Heap.get?_update_other _ _ (Ne.symm hIS)).trans pI.1,cI,dI⟩ (get?_update_seq pS.1 fun _=>#[u0,ku]) fI2 fS2 ru0 (px0.ext x2) rkv pkv okd (by simpa using hmin) fun s' H' F' v y a1 a2 a3 a4=>⟨y,H',a1,a3,hQ y F' H' (x2.trans a2) a4⟩⟩
end
section
variable [Tbl]
theorem zhl {X:Cx} {pins:List (Addr×Obj)} {σ:L2.St} {H:Hp} {s:y04} {scope:Scope} {y:Str} (I:Inv X pins σ H s) (hnc:∀x∈scope.names,x.2≠.cell) (hlo:∀x∈scope.names,x.2=.local->x.1=y) (hy:y∉X.N) (hfr:∀x∈scope.names,x.2=.free->X.env.scope.names.lookup x.1=some .cell) :
  Caps X.N scope (clos X.env scope.names []) σ H s.heap:=by
 have hl:∀x∈scope.names,x.2=.free->∃c,X.env.cells.lookup x.1=some c:=fun x hx hf=>I.ok.has x.1 (.inl (hfr x hx hf))
 have fr:∀x c,(clos X.env scope.names []).lookup x=some c->X.env.cells.lookup x=some c:=z2y hl fun x c e=>by cases e
 refine⟨fun x y c h1 h2=>I.ok.inj x y c (fr x c h1) (fr y c h2),fun x h=>?_,fun x c h=>⟨I.cell x c (fr x c h),I.freeC x c (fr x c h)⟩,I.len,fun i x v h1 h2 h3=>?_⟩
 ·rcases h with h|h
  ·obtain⟨y,hy,e1,e2⟩:=z0s h
   exact absurd e1 (hnc y hy)
  ·obtain⟨y,hy,e1,e2⟩:=z0s h
   exact z2t (.inl ⟨y,hy,e1,e2⟩)
 ·have hf:scope.names.lookup x=some .free:=by
   rcases h3 with h|h|h
   ·obtain⟨z,hz,e1,e2⟩:=z0s h
    have:=hlo z hz e1
    rw[e2] at this
    exact absurd (this▸y1q h1) hy
   ·obtain⟨y,hy,e1,_⟩:=z0s h
    exact absurd e1 (hnc y hy)
   ·exact h
  obtain⟨y,hy,e1,e2⟩:=z0s hf
  have hk:X.env.scope.names.lookup x=some .cell:=by rw[<- e2];exact hfr y hy e1
  obtain⟨m,_,hv⟩:=I.loc
  obtain⟨u,ru,lk⟩:=hv i x v h1 h2 (.inr (.inl hk))
  obtain⟨c,hc⟩:=z2t (env:=X.env) (l:=scope.names) (cs:=[]) (x:=x) (.inl ⟨y,hy,e1,e2⟩)
  refine⟨u,c,ru,hf,hc,?_⟩
  rcases lk with ⟨hk2,_⟩|⟨_,c2,hc2,hx⟩
  ·have:X.env.scope.names.lookup x=some .local:=hk2
   rw[hk] at this
   cases this
  ·rw[fr x c hc] at hc2
   cases hc2
   exact hx
theorem RelE.consI {K:y00} {F₀ O F:Addr->Prop} {E:En} {H:Hp} {ε:Ev} {σ:L2.St} {d:T} {v:V} (r:RelE K F₀ E O F H ε σ) (rd:Rep K F H d v):RelE K F₀ E O F H (some (.imm d)::ε) (some v::σ):=by
 refine⟨by simp[r.len],fun i s e=>?_,fun i j s u v1 w1 hij e1 e2 o1 o2 h1 h2=>?_,r.ent,r.o0,r.fr⟩
 ·cases i with
  | zero =>
   simp at e
   subst e
   exact⟨v,rfl,rd⟩
  | succ i=>exact r.val i s (by simpa using e)
 ·cases i with
  | zero =>
   simp at e1
   subst e1
   cases o1
  | succ i =>
   cases j with
   | zero =>
    simp at e2
    subst e2
    cases o2
   | succ j=>exact r.ne i j s u v1 w1 (by omega) (by simpa using e1) (by simpa using e2) o1 o2 (by simpa using h1) (by simpa using h2)
section
variable {P:y0q} {w:World} {K:y00} {mg:Str->Option Value} {base:Heap} {k:Nat} {q c':Addr} {N:List Str} {qual:Str} {scope:Scope} {cd:Value} {cl:List (Str×Addr)} {A:Around} {outer:List Env} {s:y04} {H:Hp} {σ:L2.St} {y:Str}
theorem zcq {h1:Heap} {tk:Nat} {m:Str->Option Value} {v:V} {u:Value} (hk:scope.kind=.function) (hd:A.handled=none) (e0:Env0 P w K mg base A outer s H) (C:Caps N scope cl σ H s.heap) (hns:h1.Ns s.heap.objs.size m) (hy:scope.names.lookup y=some .local) (hm:m y=some u) (rv:RelV v u) (kp:∀b o,s.heap.get? b=some o->h1.get? b=some o) :
  Inv (cxL P w K mg base (y::N) qual scope q cd cl A outer s H) [] (some v::σ) H { s with heap:=h1,toks:=tk }:=by
 have noA:∀b:Addr,b∉(cxL P w K mg base (y::N) qual scope q cd cl A outer s H).ex:=fun b z=>absurd (show b∈([]:List Addr) from z) (by simp)
 refine⟨⟨e0.mod,hk,rfl,rfl,y0o _,C.inj,C.has,fun y c hf _=>(by cases hf),fun _=>hd,Around.frames_deeper e0.frames,.inr ⟨rfl,rfl⟩,fun b z=>absurd z (noA b),e0.bs,e0.bsz,fun b _ _=>noA b,fun b z=>absurd z (noA b),e0.funs,e0.frf⟩,
  rfl,e0.bare,Un.kept kp,⟨m,hns,fun i x v1 h1' h2 h3=>?_⟩,fun y c h=>?_,e0.hok.fresh (y0o _),fun y c h=>(C.cel y c h).2,fun p hp=>absurd (show p∈([]:List (Addr×Obj)) from hp) (by simp),e0.hok.kept kp,by
  show (some v::σ).length=(y::N).length
  simp[C.len]⟩
 ·replace h1':(y::N)[i]?=some x:=h1'
  cases i with
  | zero =>
   have e1:y=x:=by simpa using h1'
   have e2:v=v1:=by simpa using h2
   subst e1 e2
   exact⟨u,rv,.inl ⟨hy,hm⟩⟩
  | succ i =>
   obtain⟨u,c,ru,hf,hc,hx⟩:=C.val i x v1 (by simpa using h1') (by simpa using h2) h3
   exact⟨u,ru,.inr ⟨.inr hf,c,hc,z3b hx kp⟩⟩
 ·obtain⟨⟨v,hv⟩,_⟩:=C.cel y c h
  exact⟨v,z3b hv kp⟩
theorem zep {params:Arguments} {body:Expr} {pm ctv:Value} {g:Fe} {Q:VK} {Ex:XK} (hk:scope.kind=.function) (hco:scope.isCoroutine=false) (hgen:scope.isGenerator=false) (hnc:∀x∈scope.names,x.2≠.cell) (hy:scope.names.lookup y=some .local)
  (hb:∀(A:Around) (outer:List Env) (s:y04) (H:Hp),Room k (A.deeper (envL qual scope s.heap.objs.size q (.ref c') cl))->PEv (cxL P w K mg base (y::N) qual scope q (.ref c') cl A outer s H) body g)
  {u:Value} {v:V} (bd:bindArgs (PySem.W.kla_fn "<lambda>" qual params body scope cl pm (.ref c') ctv) ⟨[u],[]⟩=pure [(y,u)])
  (hr:Room (k+1) A) (e0:Env0 P w K mg base A outer s H) (hq:H q=some (lamO (PySem.W.kla_obj "<lambda>" qual params body scope cl pm c' ctv) q)) (hc:H c'=some (codO c' qual)) (C:Caps N scope cl σ H s.heap) (rv:RelV v u)
  {F₀ O F:Addr->Prop} {E:En} {ε:Ev} {d t:T} (r:RelE K F₀ E O F H ε σ) (rd:Rep K F H d v) (e:g (some (.imm d)::ε)=some t) (kq:∀v F' H',Ext F H F' H'->Rep K F' H' t v->Q v H') :
  codeAny (model P w) A (.call (.ref q) ⟨[u],[]⟩) (CR CX0 outer P w H s Q Ex) s:=by
 have nolim:s.heap.NoLimit:=e0.mod.nolimit.keeps fun b o e=>(e0.bs b o e).1
 refine PySem.W.kla_callFunE hr.depth (e0.hok q _ hq).1 rfl hco hgen rfl (e0.hok c' _ hc).1 ?_
 rw[bd]
 refine y06 (wpAny_newFunctionEnv hnc (fun x hx=>by rw[y0z.mp hx];exact hy) (fun h₁ hns hsb=>⟨nolim.fresh _ hsb,?_⟩) hk)
 have kp:∀b o,s.heap.get? b=some o->h₁.get? b=some o:=fun b o e=>hsb.extBut b o (y0y (y0c e)) (y03 _ e)
 show codeAny _ _ (.expr body (envL qual scope s.heap.objs.size q (.ref c') cl)) _ _
 refine PySem.W.kla_codeExpr ?_
 have I:Inv (cxL P w K mg base (y::N) qual scope q (.ref c') cl A outer s H) [] (some v::σ) H { s with heap:=h₁,toks:=s.toks+([(y,u)]:List (Str×Value)).length }:=zcq hk hr.hd e0 C hns hy (by simp) rv kp
 refine y1c (hb A outer s H (hr.deeper _) [] _ _ H (fun v H'=>Q v H') I ⟨F₀,E,O,F,_,t,r.consI rd,e,fun v F' H' x q=>kq v F' H' x q⟩) (fun u s' hs=>?_) fun e s' hs=>(show False from hs).elim
 obtain⟨v,H',J,rv,qv⟩:=hs
 exact⟨v,H',J.os,J.bare,J.base,J.hok,rv,qv⟩
end
section
variable {M:Model} {A:Around} {E:Value->y04->Prop} {s:y04} {env:Env}
theorem zmk {pos:Pos} {id:String} {e:Expr} {rest:List Expr} {kws:List Keyword} {Q:Value->y04->Prop}
  (h:y0u M A (spliced (backTo pos (y0a (e::rest) env))) (fun vs s1=>y0u M A (evalAll ((backToKw pos (keywordEach kws env)).map (·.2))) (fun ks s2=>y0u M A (call (.builtin id) vs (((backToKw pos (keywordEach kws env)).filterMap (·.1)).zip ks)) Q E s2) E s1) E s)
  (he:backTo pos (y0a (e::rest) env)=(false,eval e env)::backTo pos (y0a rest env)) (hp:(backTo pos (y0a (e::rest) env)).any (·.1)=false)
  (ha:(backToKw pos (keywordEach kws env)).all (·.1.isSome)=true) (hk:(backToKw pos (keywordEach kws env)).any (·.1.isNone)=false) :
  y0u M A (callWith pos (.builtin id) [] (backTo pos (y0a (e::rest) env)) (backToKw pos (keywordEach kws env))) Q E s:=by
 have hev:y0u M A (evalArgs (.builtin id) true (backTo pos (y0a (e::rest) env)) (backToKw pos (keywordEach kws env))) (fun a s1=>y0u M A (call (.builtin id) ([]++a.pos) a.kw) Q E s1) E s:=by
  rw[he] at h ⊢
  exact evalArgs_kwB ha h
 unfold callWith
 refine y02 (wpAny_holding (y1c hev (fun a s1 g1=>y02 (wpAny_standAt ?_)) fun _ _ x=>x))
 simp only[hp,hk,Bool.or_false]
 refine y02 (y06 (y02 (y1c g1 (fun r s2 hr=>?_) fun _ _ x=>x)))
 exact y02 (wpAny_holding (wpAny_point (y06 hr)))
end
def keyE (g:Fe) (ε:Ev):T->Option T:=fun d=>(g (some (.imm d)::ε)).bind fun kd=>if okT kd=true then some kd else none
def zh2 (f g:Fe):Fe:=fun ε=>(f ε).bind fun t=>match t with
 | .tuple ds=>minK (keyE g ε) ds
 | _=>none
theorem zl7 {X:Cx} {k:Nat} {e:Expr} {f g:Fe} {params:Arguments} {body:Expr} {scope:Scope} {lpos kpos p pos:Pos} {c Pt:Addr} {qn y:Str}
  (he:PEv X e f) (hm:X.mg "min"=none) (hcode:X.env.code=.ref c) (hcd:PySem.W.codeHdIn X.K c Pt=true) (hbm:BM X.mg X.base) (htb:(Pt,qn)∈Tbl.tb) (hun:∀p∈Tbl.tb,p.1=Pt->p.2=qn) (hr:Room (k+2) X.A)
  (hb:∀(q c':Addr) (cl:List (Str×Addr)) (A:Around) (outer:List Env) (s:y04) (H:Hp),Room k (A.deeper (envL (X.env.qual++"<lambda>") scope s.heap.objs.size q (.ref c') cl))->PEv (cxL X.prog X.w X.K X.mg X.base (y::X.N) (X.env.qual++"<lambda>") scope q (.ref c') cl A outer s H) body g)
  (hc:X.calm=true:=by rfl)
  (hsc:(decide (scope.kind=.function) && !scope.isCoroutine && !scope.isGenerator && decide (scope.names.lookup y=some .local) && decide (y∉X.N) && scope.names.all fun z=>decide (z.2≠.cell) && (decide (z.2≠.local) || decide (z.1=y)))=true:=by rfl)
  (hfr:(scope.names.all fun y=>decide (y.2≠.free) || decide (X.env.scope.names.lookup y.1=some .cell))=true:=by rfl)
  (bdl:∀(cl:List (Str×Addr)) (pm:Value) (c':Addr) (ctv u:Value),bindArgs (PySem.W.kla_fn "<lambda>" (X.env.qual++"<lambda>") params body scope cl pm (.ref c') ctv) ⟨[u],[]⟩=pure [(y,u)]:=by intros;rfl)
  (hg:Gl X "min":=by rfl) (hdef:defaultsOf params X.env=([],[]):=by rfl)
  (h1:backTo pos (y0a [e] X.env)=(false,eval e X.env)::backTo pos (y0a [] X.env):=by rfl) (h2:(backTo pos (y0a [e] X.env)).any (·.1)=false:=by rfl)
  (h3:(backToKw pos (keywordEach [⟨some "key",.Lambda params body scope lpos,kpos⟩] X.env)).all (·.1.isSome)=true:=by rfl) (h4:(backToKw pos (keywordEach [⟨some "key",.Lambda params body scope lpos,kpos⟩] X.env)).any (·.1.isNone)=false:=by rfl)
  (h5:y0a [e] X.env=(false,eval e X.env)::y0a [] X.env:=by rfl)
  (h6:(backToKw pos (keywordEach [⟨some "key",.Lambda params body scope lpos,kpos⟩] X.env)).map (·.2)=[(do let v <- eval (.Lambda params body scope lpos) X.env;standAt pos;pure v)]:=by rfl)
  (h7:(backToKw pos (keywordEach [⟨some "key",.Lambda params body scope lpos,kpos⟩] X.env)).filterMap (·.1)=[Str.ofString "key"]:=by rfl)
  (hqn:X.env.qual++"<lambda>"=qn:=by rfl) :
  PEv X (.Call (.Name "min" p) [e] [⟨some "key",.Lambda params body scope lpos,kpos⟩] pos) (zh2 f g):=by
 subst hqn
 simp only[y1a,Bool.or_eq_true,Bool.not_eq_true',decide_eq_true_eq,List.all_eq_true] at hsc
 obtain⟨⟨⟨⟨⟨hk,hco⟩,hgen⟩,hyl⟩,hyN⟩,hnl⟩:=hsc
 have hnc:∀x∈scope.names,x.2≠.cell:=fun x hx=>(hnl x hx).1
 have hlo:∀x∈scope.names,x.2=.local->x.1=y:=fun x hx hl=>by
  rcases (hnl x hx).2 with z|z
  ·exact absurd hl z
  ·exact z
 simp only[List.all_eq_true,Bool.or_eq_true,decide_eq_true_eq] at hfr
 have hfr':∀y∈scope.names,y.2=.free->X.env.scope.names.lookup y.1=some .cell:=fun y hy hf=>by
  rcases hfr y hy with z|z
  ·exact absurd hf z
  ·exact z
 intro pins s σ H Q I ⟨F₀,E,O,F,ε,t,rl,e1,kk⟩
 simp only[zh2,y01] at e1
 obtain⟨t0,ef,e1⟩:=e1
 have Chd:=PySem.W.codeHd_of_K I.ok.mod.kin hcd
 refine wpAny_Call_Name_kw (z4y I hg hm (u:=.builtin "min") (by decide +kernel) ?_)
 refine zmk ?_ h1 h2 h3 h4
 have ha:PA X [e] (z2n (tV X.K f) tNil):=z0f he z17 h5
 refine thn (ha pos pins s σ H (fun vs H1=>∃v F1,vs=[v]/\Ext F H F1 H1/\Rep X.K F1 H1 t0 v) I ⟨F₀,E,O,F,ε,t0,rl,ef,fun v F' H' x q=>⟨v,F',rfl,x,q⟩⟩) fun us s1 ⟨vs,H1,I1,r1,v,F1,ev,x1,rv⟩=>?_
 subst ev
 cases r1 with
 | cons ru rr =>
 cases rr
 rw[h6]
 refine wpAny_evalAll_cons (y02 ?_)
 have hl:∀x∈scope.names,x.2=.free->∃c,X.env.cells.lookup x.1=some c:=fun x hx hf=>I1.ok.has x.1 (.inl (hfr' x hx hf))
 have rl1:=rl.ext x1
 refine z87 I1 hcode Chd hbm hdef (z29 hl) rl1.dom.tgs htb hun fun q c' ctv H2 s2 I2 sm tb1 hqn hq hc'=>?_
 refine y02 (wpAny_standAt (y06 (wpAny_evalAll_nil ?_)))
 rw[h7]
 have x2:Ext F1 H1 F1 H2:=⟨sm,fun _ h=>h,fun _ h=>.inl h,⟨fun a ha=>by
  obtain⟨o,ho⟩:=rl1.dom.dm a ha
  exact sm.ne ho,tb1⟩⟩
 have rl2:=rl1.ext x2
 have rv2:=rv.ext x2
 split at e1
 next ds =>
  simp only[Rep] at rv2
  obtain⟨l,xs,ev,hsq,hrep⟩:=rv2
  subst ev
  cases ru
  have hu:=hr.un
  refine zfk (tc:=fun F H=>RelE X.K F₀ E O F H ε σ/\H q=some (lamO (PySem.W.kla_obj "<lambda>" (X.env.qual++"<lambda>") params body scope (clos X.env scope.names []) ((X.mg "__name__").getD .none) c' ctv) q)/\H c'=some (codO c' (X.env.qual++"<lambda>"))) (kf:=keyE g ε) hc (by omega)
   (fun F H F' H' x ⟨a1,a2,a3⟩=>⟨a1.ext x,x.same.get a2,x.same.get a3⟩) (fun d kd ek=>?_) (fun pins' H3 s3 F3 d kd v3 u3 I3 dom3 ht3 rd3 ru3 ek=>?_) I2 x2.dom ⟨rl2,hq,hc'⟩ hsq hrep e1 fun v F' H' x q=>kk v F' H' ((x1.trans x2).trans x) q
  ·obtain⟨k0,_,e2⟩:=y01.mp ek
   split at e2
   next hh=>cases e2;exact hh
   next=>cases e2
  ·obtain⟨k0,eg,e2⟩:=y01.mp ek
   split at e2
   next hh =>
    cases e2
    refine wpAny_call (codeAny_mono (zep (Q:=fun kv H'=>∃F',Ext F3 H3 F' H'/\Rep X.K F' H' kd kv) (Ex:=E0) hk hco hgen hnc hyl (hb q c' _) (bdl _ _ _ _ _) hr.in1 I3.env0.in1 ht3.2.1 ht3.2.2 (zhl I3 hnc hlo hyN hfr') ru3 ht3.1 rd3 eg fun v F' H' x q=>⟨F',x,q⟩) fun r s' hq=>?_)
    cases r with
    | error e=>exact y1t hq
    | ok fl =>
     cases fl with
     | ret u=>exact I3.after hq
     | next=>exact y1t hq
     | brk=>exact y1t hq
     | cont=>exact y1t hq
   next=>cases e2
 next=>cases e1
theorem zmp {X:Cx} {C:Addr} {e:Expr} {r:Fz} {kws:List Keyword} {p pos:Pos} {x:Str} {id:String} (hm:X.mg x=none) (hv:bootBuiltins x=some (.builtin id)) (he:PEz X C e r) (hg:Gl X x:=by rfl) (hn:x≠"__name__":=by decide) (hdb:(x == ("__debug__":Str))=false:=by decide)
  (h1:backTo pos (y0a [e] X.env)=(false,eval e X.env)::backTo pos (y0a [] X.env):=by rfl) (h2:(backTo pos (y0a [e] X.env)).any (·.1)=false:=by rfl)
  (h3:(backToKw pos (keywordEach kws X.env)).all (·.1.isSome)=true:=by rfl) (h4:(backToKw pos (keywordEach kws X.env)).any (·.1.isNone)=false:=by rfl)
  (h5:y0a [e] X.env=(false,eval e X.env)::y0a [] X.env:=by rfl):PEz X C (.Call (.Name x p) [e] kws pos) r:=by
 intro pins s σ H Q I h
 refine wpAny_Call_Name_kw (z4y I hg hm hv ?_ hn hdb)
 refine zmk ?_ h1 h2 h3 h4
 have ha:PA X [e] (z2n (tEZ X C r) tNil):=z0f he z17 h5
 refine thn (ha pos pins s σ H (fun _ _=>False) I h) fun us s1 ⟨vs,H1,I1,r1,z⟩=>z.elim
theorem zke {X:Cx} {C:Addr} {e:Expr} {r:Fz} {kws:List Keyword} {p pos:Pos} (hm:X.mg "min"=none) (he:PEz X C e r) (hg:Gl X "min":=by rfl)
  (h1:backTo pos (y0a [e] X.env)=(false,eval e X.env)::backTo pos (y0a [] X.env):=by rfl) (h2:(backTo pos (y0a [e] X.env)).any (·.1)=false:=by rfl)
  (h3:(backToKw pos (keywordEach kws X.env)).all (·.1.isSome)=true:=by rfl) (h4:(backToKw pos (keywordEach kws X.env)).any (·.1.isNone)=false:=by rfl)
  (h5:y0a [e] X.env=(false,eval e X.env)::y0a [] X.env:=by rfl):PEz X C (.Call (.Name "min" p) [e] kws pos) r:=zmp hm (id:="min") (by decide +kernel) he hg (by decide) (by decide) h1 h2 h3 h4 h5
theorem zmj {P:y0q} {w:World} {K:y00} {mg:Str->Option Value} {base:Heap} {x:Str} {st:Stmt} {f:Addr} {oc:Value} {od an:Option Addr} {osl:Array (Option Value)} {kV doc pm cdv ct:Value} {N ps:List Str} {k:Nat} {b:Fs}
  (l:K.lookup f=some ⟨oc,od,.func (y0i x x (z0h st) (z09 st) (z00 st) .none kV doc pm an cdv ct),osl⟩) (hcd:y0f K cdv x=true) (S:FnScope N ps (z00 st))
  (bd:∀fd,Fun K x x st f fd->z1f K fd ps []) (m:mg x=some (.ref f)) (kp:y08 K (.ref f)=true)
  (hb:∀(A:Around) (outer:List Env) (s:y04) (H:Hp) (E:XK),Room k (A.deeper (envOfC x (z00 st) s.heap.objs.size f cdv)) ->
   PBt (cxOf CX0 P w K mg base N x (z00 st) f cdv A outer s H E).nox (z09 st) b):Cl P w K mg base x (k+1) ps.length (runF b N.length) :=
 .mk' (zf6 l hcd S hb) m kp (bd _ (z1m (st:=st) l hcd kp))
theorem zkv {X:Cx} {a b:Expr} {f g:Fe} {pos:Pos} {x y:Str} {px py:Pos} (i j:Nat) {kt k2:Nat} {pt pt2:Pos} (hN:X.N.Nodup) (ha:PEv X a f) (hb:PEv X b g) (hc:X.calm=true:=by rfl) (hi:X.N[i]?=some x:=by rfl) (hj:X.N[j]?=some y:=by rfl)
  (hx:Loc X.env.scope x:=by first|exact Or.inl rfl|exact Or.inr rfl) (hy:Loc X.env.scope y:=by first|exact Or.inl rfl|exact Or.inr rfl)
  (fx:X.fn x=true\/X.env.scope.names.lookup x=some .local:=by first|exact .inl rfl|exact .inr rfl) (fy:X.fn y=true\/X.env.scope.names.lookup y=some .local:=by first|exact .inl rfl|exact .inr rfl)
  (he1:y0a [a,b] X.env=(false,eval a X.env)::y0a [b] X.env:=by rfl) (he2:y0a [b] X.env=(false,eval b X.env)::y0a [] X.env:=by rfl)
  (hs:swapsWithSole [.Tuple [.Name x px,.Name y py] kt pt] (.Tuple [a,b] k2 pt2) pos.line X.env=pure false:=by rfl)
  (hw:swappedStores [.Tuple [.Name x px,.Name y py] kt pt] (.Tuple [a,b] k2 pt2) X.env=pure none:=by rfl)
  (h1:(assignEach [.Tuple [.Name x px,.Name y py] kt pt] X.env).map (·.2)=[assign (.Tuple [.Name x px,.Name y py] kt pt) X.env]:=by rfl) :
  PSt X (.Assign [.Tuple [.Name x px,.Name y py] kt pt] (.Tuple [a,b] k2 pt2) pos) (par i j false f g) :=
 z1t (zhz (z7b (z0f ha (z0f hb z17 he2) he1)) (zi0 hc (z83 (zan hN hi hx fx) (z83 (zan hN hj hy fy) ze2))) hs hw h1) fun D σ H ⟨F₀,E,O,F,ε,o,r,e,k⟩=>by
 simp only[par,y01,y1p,if_false] at e
 obtain⟨t,et,u,eu,e⟩:=e
 cases e
 refine⟨F₀,E,O,F,ε,t,r,et,fun v F1 H1 x1 q1=>?_⟩
 refine⟨F₀,E,O,F1,ε,u,r.ext x1,eu,fun w F2 H2 x2 q2=>?_⟩
 refine⟨by show 2<=y0j;decide,fun p hp=>?_⟩
 have x3:=Ext.laid (o:=.tup [v,w]) x2.dom hp
 have x12:=(x1.trans x2).trans x3
 refine⟨p,_,rfl,SqT.of z03,rfl,_,_,rfl,_,_,rfl,rfl,?_⟩
 exact k _ F2 _ x12.kp (((r.ext x12).set i (q1.ext (x2.trans x3))).set j (q2.ext x3))
end
end D
end
section
namespace Ho
open D
noncomputable def z5p:Fs :=
  (seq (iff (tstB (op2 oEq (op2 oIx (nm 0) (cst (.int 0))) (nm 1))) (rtn (op2 oIx (nm 0) (cst (.int 1)))) skip)
  (seq (iff (tstB (op2 oEq (op2 oIx (nm 0) (cst (.int 1))) (nm 1))) (rtn (op2 oIx (nm 0) (cst (.int 0)))) skip)
  (rtn (cst .none))))
def z0x:List T->Option T:=runF z5p 2
noncomputable def z8j:Fs :=
  (seq (asg 2 (comp 1 [1] (z0i (op2 oIx (nm 0) (cst (.int 1)))) (gNm 0) (orT (tstB (op1 oIsN (op2 oIx (nm 0) (cst (.int 2))))) (tstB (op2 (oIn false) (op2 oIx (nm 0) (cst (.int 2))) (nm 1)))) (nmV 0)))
  (seq (dNew 3 (cst (.int 0)) (cst (.bool true)))
  (seq (asgN 4 (z1d [(cst (.int 0))]))
  (seq (whl (tstL (nm 4)) (seq (pop 5 4)
  (for_ (z0i (nmV 2)) (gNm 6)
  (seq (asg 7 (opN z0x [(nmV 6),(nmV 5)]))
  (iff (andT (tstB (op1 z1a (nm 7))) (tstB (dIn true (nm 7) 3))) (seq (dPut 3 (nm 7) (cst (.bool true)))
  (app 4 (nmV 7))) skip)))) 1000)
  (rtn (opN z3f [(z6f 3)]))))))
def z15:List T->Option T:=runF z8j 8
noncomputable def z51 (rec:List T->Option T):Fs :=
  (seq (iff (tstB (op2 oEq (op2 oIx (nm 2) (op1 oNeg (cst (.int 1)))) (nm 1))) (rtn (z1d [(z07 [])])) skip)
  (seq (asgN 3 (z1d []))
  (seq (for_ (z24 (z6v (op2 oIx (nm 0) (cst (.int 1))))) (gTu [(gNm 4),(gNm 5)])
  (seq (asg 6 (opN z0x [(nmV 5),(op2 oIx (nm 2) (op1 oNeg (cst (.int 1))))]))
  (iff (andT (tstB (op1 z1a (nm 6))) (tstB (op2 (oIn true) (nm 6) (nm 2)))) (ext 3 (comp 1 [4] (z0i (opN rec [(nmV 0),(nmV 1),(op2 oAdd (nm 2) (z07 [(nmV 6)]))])) (gNm 0) (cstT true) (op2 oAdd (z07 [(nmV 1)]) (nm 0)))) skip)))
  (rtn (nm 3)))))
def z1e:Nat->List T->Option T
 | 0=>fun _=>none
 | n+1=>runF (z51 (z1e n)) 7
def zfv:Fs :=
  (rtn (opN z3f [(opN (z1e 20) [(nmV 0),(nmV 1),(z07 [(cst (.int 0))])])]))
def z0n:List T->Option T:=runF zfv 2
def z4o:Fs :=
  (seq (iff (tstB (op2 oLt (nm 1) (opN oLen [(nm 0)]))) (rtn (op2 oIx (nm 0) (nm 1))) skip)
  (rtn (cst (.int 0))))
def z1i:List T->Option T:=runF z4o 2
noncomputable def z6m:Fs :=
  (seq (asg 2 (op2 oMod (op2 oMul (op2 oAdd (op2 oAdd (opN z1i [(nmV 0),(nmV 1)]) (op2 oMul (cst (.int 7919)) (nm 1))) (cst (.int 1))) (cst (.int 48271))) (cst (.int 2147483647))))
  (rtn (op2 oMod (op2 oAdd (op2 oAdd (op2 oMul (nm 2) (nm 2)) (op2 oMul (cst (.int 7)) (nm 2))) (nm 1)) (cst (.int 2147483629)))))
def z20:List T->Option T:=runF z6m 3
noncomputable def z6o:Fs :=
  (seq (asg 2 (op2 oMod (op2 oMul (op2 oAdd (op2 oAdd (nm 0) (op2 oMul (cst (.int 104729)) (nm 1))) (cst (.int 17))) (cst (.int 69621))) (cst (.int 2147483647))))
  (rtn (op2 oMod (op2 oAdd (op2 oAdd (op2 oMul (nm 2) (nm 2)) (op2 oMul (cst (.int 3)) (nm 2))) (nm 1)) (cst (.int 2147483629)))))
def z2m:List T->Option T:=runF z6o 3
noncomputable def z6n:Fs :=
  (seq (asg 1 (op2 oAdd (cst (.int 1)) (op2 oMod (nm 0) (cst (.int 7)))))
  (seq (asg 2 (z07 []))
  (seq (for_ (z3h (op2 oMod (op2 oDiv (nm 0) (cst (.int 8))) (cst (.int 11)))) (gNm 3)
  (seq (asg 4 (op2 oDiv (opN z2m [(nmV 0),(op2 oAdd (cst (.int 50)) (nm 3))]) (cst (.int 4))))
  (seq (asg 5 (op2 oMod (nm 4) (op2 oAdd (nm 1) (cst (.int 1)))))
  (seq (asg 6 (op2 oMod (op2 oAdd (op2 oAdd (nm 5) (cst (.int 1))) (op2 oMod (op2 oDiv (nm 4) (cst (.int 8))) (nm 1))) (op2 oAdd (nm 1) (cst (.int 1)))))
  (seq (asg 7 (op2 oIx (z07 [(cst .none),(cst .none),(cst (.str "a")),(cst (.str "b")),(cst (.str "back")),(cst (.str "hall")),(cst (.str "win"))]) (op2 oMod (op2 oDiv (nm 4) (cst (.int 64))) (cst (.int 7)))))
  (asg 2 (op2 oAdd (nm 2) (z07 [(z07 [(opN oMin [(nm 5),(nm 6)]),(opN oMax [(nm 5),(nm 6)]),(nmV 7)])]))))))))
  (rtn (z07 [(nmV 1),(nmV 2)])))))
def z2l:List T->Option T:=runF z6n 8
end Ho
end
section
namespace Wo
open D Ho
noncomputable def z3d (rec:List T->Option T):Fs :=
  (seq (iff (notT (tstL (nm 0))) (rtn (z07 [])) skip)
  (seq (iff (tstB (op2 oEq (nm 2) (cst (.int 0)))) (rtn (cst .none)) skip)
  (seq (for_ (z24 (z6v (nmV 1))) (gTu [(gNm 3),(gNm 4)])
  (seq (asg 5 (comp 1 [4] (z0i (nmV 0)) (gNm 0) (tstB (op2 (oIn true) (nm 1) (nm 0))) (nmV 0)))
  (iff (tstB (op2 oLt (opN oLen [(nm 5)]) (opN oLen [(nm 0)]))) (seq (asg 6 (opN rec [(nmV 5),(slice (nm 1) (opt (op2 oAdd (nm 3) (cst (.int 1)))) optN),(op2 oSub (nm 2) (cst (.int 1)))]))
  (iff (tstB (op1 z1a (nm 6))) (rtn (op2 oAdd (z07 [(nmV 4)]) (nm 6))) skip)) skip)))
  (rtn (cst .none)))))
def z1n:Nat->List T->Option T
 | 0=>fun _=>none
 | n+1=>runF (z3d (z1n n)) 7
noncomputable def z5o:Fs :=
  (seq (asg 2 (opN z0n [(nmV 0),(nmV 1)]))
  (seq (asg 3 (opN z4h [(opN oLen [(op2 oIx (nm 0) (cst (.int 1)))])]))
  (seq (for_ (z3h (op2 oAdd (opN oLen [(nm 3)]) (cst (.int 1)))) (gNm 4)
  (seq (asg 5 (opN (z1n 20) [(nmV 2),(nmV 3),(nmV 4)]))
  (iff (tstB (op1 z1a (nm 5))) (rtn (nm 5)) skip)))
  (rtn (z07 [])))))
def z0w:List T->Option T:=runF z5o 6
def z4p:Fs :=
  (rtn (notV (opN oAny [(comp 1 [1] (z0i (nmV 0)) (gNm 0) (cstT true) (op2 (oIn false) (nm 0) (nm 1)))])))
def z0q:List T->Option T:=runF z4p 2
noncomputable def z0y (rec:List T->Option T):Fs :=
  (seq (iff (tstB (op2 oEq (nm 1) (cst (.int 0)))) (rtn (z07 [])) skip)
  (seq (for_ (z24 (z0i (nmV 0))) (gTu [(gNm 2),(gNm 3)])
  (seq (asg 4 (comp 1 [3] (z0i (slice (nm 0) (opt (op2 oAdd (nm 2) (cst (.int 1)))) optN)) (gNm 0) (tstB (opN z0q [(nmV 1),(nmV 0)])) (nmV 0)))
  (seq (asg 5 (opN rec [(nmV 4),(op2 oSub (nm 1) (cst (.int 1)))]))
  (iff (tstB (op1 z1a (nm 5))) (rtn (op2 oAdd (z07 [(nmV 3)]) (nm 5))) skip))))
  (rtn (cst .none))))
def z0g:Nat->List T->Option T
 | 0=>fun _=>none
 | n+1=>runF (z0y (z0g n)) 6
def zaz:Fs :=
  (rtn (opN (z0g 20) [(opN z0n [(nmV 0),(nmV 1)]),(opN oLen [(opN z0w [(nmV 0),(nmV 1)])])]))
def z23:List T->Option T:=runF zaz 2
end Wo
end
section
namespace Qo
open D Ho Wo
def z2b:Fs :=
  (seq (asg 2 (opN z0n [(nmV 0),(nmV 1)]))
  (seq (iff (notT (tstL (nm 2))) zlw skip)
  (rtn (nm 2))))
def z0v:List T->Option T:=runF z2b 3
def z2w:Fz :=
  (seqZ (asg 2 (opN z0n [(nmV 0),(nmV 1)])) (iffZ (notT (tstL (nm 2))) (okZ (op1 (zck "no way leads to room ") (nm 1))) noZ))
def z1l:List Sl->Bool:=runZ z2w 3
def z42:Fs :=
  (rtn (zh2 (opN z0v [(nmV 0),(nmV 1)]) (z07 [(opN oLen [(nm 0)]),(nmV 0)])))
def z13:List T->Option T:=runF z42 2
def z4e:Fz :=
  (z5i z1l [.v (nmV 0),.v (nmV 1)])
def z12:List Sl->Bool:=runZ z4e 2
end Qo
end
section
namespace K26
open D Ho Wo Qo
def z5n:Fs :=
  (rtn (op2 oIx (z1d [(op2 oSub (op2 oAdd (nm 0) (cst (.int 1))) (nm 1)),(cst (.int 0))]) (opN oInt [(op2 oEq (nm 1) (cst (.int 0)))])))
def z0p:List T->Option T:=runF z5n 2
noncomputable def zk8:Fs :=
  (seq (asgT (gTu [(gNm 1),(gNm 2)]) (opN z2l [(opN z20 [(nmV 0),(cst (.int 0))])]))
  (seq (asg 3 (z07 []))
  (seq (for_ (z0i (nmV 2)) (gTu [(gNm 4),(gNm 5),(gNm 6)])
  (seq (asg 7 (opN z2j [(z1d [(opN z0p [(nmV 1),(nmV 4)]),(opN z0p [(nmV 1),(nmV 5)])])]))
  (asg 3 (op2 oAdd (nm 3) (z07 [(z07 [(op2 oIx (nm 7) (cst (.int 0))),(op2 oIx (nm 7) (cst (.int 1))),(nmV 6)])])))))
  (seq (par 8 9 false (z07 [(nmV 1),(nmV 2)]) (z07 [(nmV 1),(nmV 3)]))
  (seq (for_ (z0i (z07 [(z07 []),(z07 [(cst (.str "a")),(cst (.str "win"))]),(z07 [(cst (.str "b")),(cst (.str "back")),(cst (.str "hall"))])])) (gNm 10)
  (seq (asg 11 (opN z2j [(comp 1 [1] (z0i (opN z15 [(nmV 8),(nmV 10)])) (gNm 0) (cstT true) (opN z0p [(nmV 1),(nmV 0)]))]))
  (iff (tstB (op2 oNe (opN z15 [(nmV 9),(nmV 10)]) (opN z3f [(nm 11)]))) (rtn (cst (.bool false))) skip)))
  (seq (for_ (z7h (cst (.int 1)) (op2 oAdd (nm 1) (cst (.int 1)))) (gNm 12)
  (seq (asg 13 (opN z0p [(nmV 1),(nmV 12)]))
  (seq (iff (orT (tstB (op2 oNe (opN z0n [(nmV 9),(nmV 13)]) (opN z0n [(nmV 8),(nmV 12)]))) (tstB (op2 oNe (opN z23 [(nmV 9),(nmV 13)]) (opN z23 [(nmV 8),(nmV 12)])))) (rtn (cst (.bool false))) skip)
  (seq (iff (tstB (op2 oNe (opN z0w [(nmV 9),(nmV 13)]) (opN z0w [(nmV 8),(nmV 12)]))) (rtn (cst (.bool false))) skip)
  (seq (asgX 14 (z7v (z5h (opN z13 [(nmV 9),(nmV 13)])) (z5i z12 [.v (nmV 9),.v (nmV 13)]) 1))
  (iffX (tstX (op2X oNe (z7v (z5h (opN z13 [(nmV 8),(nmV 12)])) (z5i z12 [.v (nmV 8),.v (nmV 12)]) 1) (z5h (nmV 14)))) (rtn (cst (.bool false))) skip))))))
  (rtn (cst (.bool true)))))))))
def zct:List T->Option T:=runF zk8 15
end K26
end
section
namespace K26
open PySem PySem.Spec PyProof.Rows L2 D Ho Wo Qo
variable [Tbl]
def top (i:Nat):Stmt:=PySem.Challenge.pw_doorwatch_k26_whole_rooms_by_other_numbe.main.body.getD i (.Pass ⟨0,0,0,0⟩)
section
variable {P:y0q} {w:World} {K:y00} {mg:Str->Option Value} {base:Heap}
abbrev z2h:Stmt:=top 23
theorem z74:FnScope ["_law_number","_law_k","_law_drawn_here"] ["_law_number","_law_k"] (z00 z2h):=⟨rfl,rfl,rfl,by decide +kernel,rfl,by decide +kernel,by decide +kernel⟩
theorem zcy {K:y00} {f:Addr} {fd:y0b} (F:Fun K "_law_drawn" "_law_drawn" z2h f fd):z1f K fd ["_law_number","_law_k"] []:=F.binds (ps:=["_law_number","_law_k"]) fun _ _ _ _ _ _ us hl=>match us,hl with|[_,_],_=>rfl
theorem z6k {k:Nat} {f:Addr} {fd:y0b} (F:Fun K "_law_drawn" "_law_drawn" z2h f fd) (m:mg "_law_drawn"=some (.ref f)) :Cl P w K mg base "_law_drawn" (k+1) 2 z2m :=
 z4m F z74 (zcy F) m fun cdv A outer s H E hr =>
  (z0b (z2i 2 z74.nd (z6u (v2r (z93 (v2r (z22 (v2r (z22 (q_nm 0) (v2r (z93 (v2r z0k) (q_nm 1))))) (v2r z0k))) (v2r z0k))) (v2r z0k)))
  (z0r (z1q (z6u (v2r (z22 (v2r (z22 (v2r (z93 (q_nm 2) (q_nm 2))) (v2r (z93 (v2r z0k) (q_nm 2))))) (q_nm 1))) (v2r z0k)))))
abbrev z2g:Stmt:=top 25
theorem z18:FnScope ["_law_number","_law_rooms","_law_openings","_law_k","_law_drawn_here","_law_one","_law_other","_law_zone"] ["_law_number"] (z00 z2g):=⟨rfl,rfl,rfl,by decide +kernel,rfl,by decide +kernel,by decide +kernel⟩
theorem zcx {K:y00} {f:Addr} {fd:y0b} (F:Fun K "_law_house" "_law_house" z2g f fd):z1f K fd ["_law_number"] []:=F.binds (ps:=["_law_number"]) fun _ _ _ _ _ _ us hl=>match us,hl with|[_],_=>rfl
theorem z6j {k:Nat} {f:Addr} {fd:y0b} (F:Fun K "_law_house" "_law_house" z2g f fd) (m:mg "_law_house"=some (.ref f)) (z_range:mg "range"=none) (z6k:Cl P w K mg base "_law_drawn" k 2 z2m) (z_min:mg "min"=none) (z_max:mg "max"=none):Cl P w K mg base "_law_house" (k+1) 1 z2l :=
 z4m F z18 (zcx F) m fun cdv A outer s H E hr =>
  (z0b (z2i 1 z18.nd (z22 (v2r z0k) (v2r (z6u (q_nm 0) (v2r z0k)))))
  (z0b (z2i 2 z18.nd (z27 z06))
  (z0b (z80 y21 (zia z_range (v2r (z6u (v2r (zgc (q_nm 0) (v2r z0k))) (v2r z0k)))) (g_nm 3 z18.nd)
  (z0b (z2i 4 z18.nd (zgc (v2r (z0e z6k hr (z01 (z08 0) (z01 (z22 (v2r z0k) (q_nm 3)) z06)))) (v2r z0k)))
  (z0b (z2i 5 z18.nd (z6u (q_nm 4) (v2r (z22 (q_nm 1) (v2r z0k)))))
  (z0b (z2i 6 z18.nd (z6u (v2r (z22 (v2r (z22 (q_nm 5) (v2r z0k))) (v2r (z6u (v2r (zgc (q_nm 4) (v2r z0k))) (q_nm 1))))) (v2r (z22 (q_nm 1) (v2r z0k)))))
  (z0b (z2i 7 z18.nd (q_ix (v2r (z27 (z01 zch (z01 zch (z01 z6t (z01 z6t (z01 z6t (z01 z6t (z01 z6t z06))))))))) (v2r (z6u (v2r (zgc (q_nm 4) (v2r z0k))) (v2r z0k)))))
  (z0r (z2i 2 z18.nd (z22 (q_nm 2) (v2r (z27 (z01 (z27 (z01 (znd z_min (z0z (q_nm 5) (z0z (q_nm 6) z21))) (z01 (zne z_max (z0z (q_nm 5) (z0z (q_nm 6) z21))) (z01 (z08 7) z06)))) z06)))))))))))
  (z0r (z1q (z27 (z01 (z08 1) (z01 (z08 2) z06))))))))
abbrev z1h:Stmt:=top 21
theorem z8w:FnScope ["_law_script","_law_k"] ["_law_script","_law_k"] (z00 z1h):=⟨rfl,rfl,rfl,by decide +kernel,rfl,by decide +kernel,by decide +kernel⟩
theorem za2 {K:y00} {f:Addr} {fd:y0b} (F:Fun K "_law_cell_at" "_law_cell_at" z1h f fd):z1f K fd ["_law_script","_law_k"] []:=F.binds (ps:=["_law_script","_law_k"]) fun _ _ _ _ _ _ us hl=>match us,hl with|[_,_],_=>rfl
theorem z4n {k:Nat} {f:Addr} {fd:y0b} (F:Fun K "_law_cell_at" "_law_cell_at" z1h f fd) (m:mg "_law_cell_at"=some (.ref f)) (z_len:mg "len"=none):Cl P w K mg base "_law_cell_at" (k+1) 2 z1i :=
 z4m F z8w (za2 F) m fun cdv A outer s H E hr =>
  (z0b (s_if (z4r (zlq.or z9a) zi4 (q_nm 1) (v2r (zak z_len (z0z (q_nm 0) z21)))) (z0r (z1q (q_ix (q_nm 0) (q_nm 1)))) z3j)
  (z0r (z1q z0k)))
abbrev z2f:Stmt:=top 22
theorem z73:FnScope ["_law_script","_law_k","_law_drawn_here"] ["_law_script","_law_k"] (z00 z2f):=⟨rfl,rfl,rfl,by decide +kernel,rfl,by decide +kernel,by decide +kernel⟩
theorem zcw {K:y00} {f:Addr} {fd:y0b} (F:Fun K "_law_mixed" "_law_mixed" z2f f fd):z1f K fd ["_law_script","_law_k"] []:=F.binds (ps:=["_law_script","_law_k"]) fun _ _ _ _ _ _ us hl=>match us,hl with|[_,_],_=>rfl
theorem z6i {k:Nat} {f:Addr} {fd:y0b} (F:Fun K "_law_mixed" "_law_mixed" z2f f fd) (m:mg "_law_mixed"=some (.ref f)) (z4n:Cl P w K mg base "_law_cell_at" k 2 z1i):Cl P w K mg base "_law_mixed" (k+1) 2 z20 :=
 z4m F z73 (zcw F) m fun cdv A outer s H E hr =>
  (z0b (z2i 2 z73.nd (z6u (v2r (z93 (v2r (z22 (v2r (z22 (v2r (z0e z4n hr (z01 (z08 0) (z01 (z08 1) z06)))) (v2r (z93 (v2r z0k) (q_nm 1))))) (v2r z0k))) (v2r z0k))) (v2r z0k)))
  (z0r (z1q (z6u (v2r (z22 (v2r (z22 (v2r (z93 (q_nm 2) (q_nm 2))) (v2r (z93 (v2r z0k) (q_nm 2))))) (q_nm 1))) (v2r z0k)))))
abbrev z34:Stmt:=top 26
theorem zdj:FnScope ["_law_rooms","_law_room_here"] ["_law_rooms","_law_room_here"] (z00 z34):=⟨rfl,rfl,rfl,by decide +kernel,rfl,by decide +kernel,by decide +kernel⟩
theorem zfs {K:y00} {f:Addr} {fd:y0b} (F:Fun K "_law_room" "_law_room" z34 f fd):z1f K fd ["_law_rooms","_law_room_here"] []:=F.binds (ps:=["_law_rooms","_law_room_here"]) fun _ _ _ _ _ _ us hl=>match us,hl with|[_,_],_=>rfl
theorem z40 {k:Nat} {f:Addr} {fd:y0b} (F:Fun K "_law_room" "_law_room" z34 f fd) (m:mg "_law_room"=some (.ref f)) (z_int:mg "int"=none):Cl P w K mg base "_law_room" (k+1) 2 z0p :=
 z4m F zdj (zfs F) m fun cdv A outer s H E hr =>
  (z0r (z1q (q_ix (v2r (zds (z01 (zj1 (v2r (z22 (q_nm 0) (v2r z0k))) (q_nm 1)) (z01 z0k z06)))) (v2r (zl8 z_int (z0z (v2r (zlb (z7c (by exact hr.units)) z7d (q_nm 1) (v2r z0k))) z21))))))
abbrev z19:Stmt:=top 24
theorem z1z:FnScope ["_law_deed","_law_found","e","_law_kinds"] ["_law_deed"] (z00 z19):=⟨rfl,rfl,rfl,by decide +kernel,rfl,by decide +kernel,by decide +kernel⟩
theorem za1 {K:y00} {f:Addr} {fd:y0b} (F:Fun K "_law_told" "_law_told" z19 f fd):z1f K fd ["_law_deed"] []:=F.binds (ps:=["_law_deed"]) fun _ _ _ _ _ _ us hl=>match us,hl with|[_],_=>rfl
theorem z9l {f:Addr} (cdv:Value) (A:Around) (outer:List Env) (s:y04) (H:Hp):PSs (cxOf CX0 P w K mg base ["_law_deed","_law_found","e","_law_kinds"] "_law_told" (z00 z19) f cdv A outer s H E0).nox (z09 z19) (zir (cxOf CX0 P w K mg base ["_law_deed","_law_found","e","_law_kinds"] "_law_told" (z00 z19) f cdv A outer s H E0).nox) :=
 z37 (zlf (z4f (z44 z1z.nd rfl (Or.inl rfl) (z7b (z0f z96 (z0f (zja (pv 0)) z17)))))) (z4f (z94 (pv 1)))
theorem z9k {f C XD xz xw xd xt:Addr} {j:Nat} (Nm:Names K mg XD xz xw xd xt) (R:Ref1 K XD xz xw xd xt C j) (cdv:Value) (A:Around) (outer:List Env) (s:y04) (H:Hp):PSs (cxOf CX0 P w K mg base ["_law_deed","_law_found","e","_law_kinds"] "_law_told" (z00 z19) f cdv A outer s H E0).nox (z09 z19) (zb8 (cxOf CX0 P w K mg base ["_law_deed","_law_found","e","_law_kinds"] "_law_told" (z00 z19) f cdv A outer s H E0).nox C j) :=
 zkl Nm R (fun pn E=>z4f (z44 z1z.nd rfl (Or.inl rfl) (z7b (z0f z96 (z0f (zgl (pv 0)) z17)))))
  (fun ea=>z37 (z44 z1z.nd rfl (Or.inl rfl) (zi1 (z0f (z97 R.ok Nm.isi (pv 2) (z5w (by rfl) Nm.nz (by rfl))) (z0f (z97 R.ok Nm.isi (pv 2) (z5w (by rfl) Nm.nw (by rfl))) (z0f (z97 R.ok Nm.isi (pv 2) (z5w (by rfl) Nm.nd (by rfl))) (z0f (z97 R.ok Nm.isi (pv 2) (z5w (by rfl) Nm.nt (by rfl))) z17))))))
   (z37 (z44 z1z.nd rfl (Or.inl rfl) (z7b (z0f z96 (z0f (zli zht ze4) z17))))
   (z4f (zgg (zhx (zhy (z97 R.ok Nm.isi (pv 2) (zjc (by rfl) Nm.val PyProof.Rows.Boot.«ValueError» (by rfl)))) (zdv (zam znk (zgm PySem.F.plainAttrs_list PySem.F.slot_list_count PySem.F.type_list_count zgz (pv 3) (z0f zjd z17)) ze4 (zbl _)))).pt (z4f (z44 z1z.nd rfl (Or.inl rfl) (z7b (z0f z96 (z0f (zgm PySem.F.plainAttrs_list PySem.F.slot_list_index PySem.F.type_list_index zei (pv 3) (z0f zjd z17)) z17))))) zdx)))) (pv 1) z1z.nd
abbrev z36:Stmt:=top 2
theorem zdk:FnScope ["opening","here"] ["opening","here"] (z00 z36):=⟨rfl,rfl,rfl,by decide +kernel,rfl,by decide +kernel,by decide +kernel⟩
theorem zfu {K:y00} {f:Addr} {fd:y0b} (F:Fun K "beyond" "beyond" z36 f fd):z1f K fd ["opening","here"] []:=F.binds (ps:=["opening","here"]) fun _ _ _ _ _ _ us hl=>match us,hl with|[_,_],_=>rfl
theorem z2u {k:Nat} {f:Addr} {fd:y0b} (F:Fun K "beyond" "beyond" z36 f fd) (m:mg "beyond"=some (.ref f)) :Cl P w K mg base "beyond" (k+1) 2 z0x :=
 z4m F zdk (zfu F) m fun cdv A outer s H E hr =>
  (z0b (s_if (z4r (z7c (by exact hr.units)) z7d (v2r (q_ix (q_nm 0) (v2r z0k))) (q_nm 1)) (z0r (z1q (q_ix (q_nm 0) (v2r z0k)))) z3j)
  (z0b (s_if (z4r (z7c (by exact hr.units)) z7d (v2r (q_ix (q_nm 0) (v2r z0k))) (q_nm 1)) (z0r (z1q (q_ix (q_nm 0) (v2r z0k)))) z3j)
  (z0r (z1q zch))))
abbrev z2q:Stmt:=top 3
theorem z2d:FnScope ["house","names","unwatched","reached","waiting","here","opening","there"] ["house","names"] (z00 z2q):=⟨rfl,rfl,rfl,by decide +kernel,rfl,by decide +kernel,by decide +kernel⟩
theorem zfr {K:y00} {f:Addr} {fd:y0b} (F:Fun K "unseen" "unseen" z2q f fd):z1f K fd ["house","names"] []:=F.binds (ps:=["house","names"]) fun _ _ _ _ _ _ us hl=>match us,hl with|[_,_],_=>rfl
theorem z5m {k:Nat} {f:Addr} {fd:y0b} (F:Fun K "unseen" "unseen" z2q f fd) (m:mg "unseen"=some (.ref f)) (z_tuple:mg "tuple"=none) (z_sorted:mg "sorted"=none) (z2u:Cl P w K mg base "beyond" k 2 z0x) {t_OUTSIDE:Tok} (g_OUTSIDE:mg "OUTSIDE"=some (.int 0 t_OUTSIDE)):Cl P w K mg base "unseen" (k+1) 2 z15 :=
 z4m F z2d (zfr F) m fun cdv A outer s H E hr =>
  (z0b (zdn 2 z2d.nd (own:=["opening"]) (caps:=[(1,"names")]) (z7o (sc:=z00 z2q) ["house","names","unwatched","reached","waiting","here","opening","there"] rfl rfl rfl (by decide +kernel)) (z89 (q_ix (q_nm 0) (v2r z0k))) (fun _ _ _ _ _ _=>(g_nm 0 (show List.Nodup (["opening","names"]:List Str) by decide +kernel))) (fun _ _ _ _ _ _=>(zd8 (w_t (w_or (zms (v2r (q_ix (q_nm 0) (v2r z0k)))) (zkh (z4r (zi3 (by exact hr.units)) zbj (v2r (q_ix (q_nm 0) (v2r z0k))) (q_nm 1))))))) (fun _ _ _ _ _ _=>(z08 0)))
  (z0b (zkx 3 z2d.nd (q_gI g_OUTSIDE) q_bl)
  (z0b (zhv 4 z2d.nd (zj2 (z01 (q_gI g_OUTSIDE) z06)))
  (z0b (ziw 1000 y21 (zb7 (q_nm 4)) (z0b (zn2 5 4 z2d.nd)
  (z0r (z80 y21 (z89 (z08 2)) (g_nm 6 z2d.nd)
  (z0b (z2i 7 z2d.nd (z0e z2u hr (z01 (z08 6) (z01 (z08 5) z06))))
  (z0r (s_if (w_t (zki (z8p (q_nm 7)) (zhs (zkm 3 (zm8 hr) (q_nm 7))))) (z0b (zkw 3 (zm8 hr) (q_nm 7) q_bl)
  (z0r (zn5 4 (z08 7)))) z3j)))))))
  (z0r (z1q (zaj z_tuple (z0z (v2r (zdt 3 rfl z_sorted)) z21))))))))
abbrev z1k:Stmt:=top 4
theorem z2x:FnScope ["house","room","places","found","number","opening","there"] ["house","room","places"] (z00 z1k):=⟨rfl,rfl,rfl,by decide +kernel,rfl,by decide +kernel,by decide +kernel⟩
theorem z7r {K:y00} {f:Addr} {fd:y0b} (F:Fun K "ways_on" "ways_on" z1k f fd):z1f K fd ["house","room","places"] []:=F.binds (ps:=["house","room","places"]) fun _ _ _ _ _ _ us hl=>match us,hl with|[_,_,_],_=>rfl
theorem zcv {d:List T->Option T} {k:Nat} {f:Addr} {fd:y0b} (F:Fun K "ways_on" "ways_on" z1k f fd) (m:mg "ways_on"=some (.ref f)) (z2z:Cl P w K mg base "ways_on" k 3 d) (z_enumerate:mg "enumerate"=none) (z2u:Cl P w K mg base "beyond" k 2 z0x):Cl P w K mg base "ways_on" (k+1) 3 (runF (z51 d) 7) :=
 z4m F z2x (z7r F) m fun cdv A outer s H E hr =>
  (z0b (s_if (z4r (z7c (by exact hr.units)) z7d (v2r (q_ix (q_nm 2) (v2r (zl6 (v2r z0k))))) (q_nm 1)) (z0r (z1q (zds (z01 (z27 z06) z06)))) z3j)
  (z0b (zhv 3 z2x.nd (zj2 z06))
  (z0b (z80 y21 (zib z_enumerate (q_ix (q_nm 0) (v2r z0k))) (zf4 (z3s (g_nm 4 z2x.nd) (z3s (g_nm 5 z2x.nd) zf5)))
  (z0b (z2i 6 z2x.nd (z0e z2u hr (z01 (z08 5) (z01 (q_ix (q_nm 2) (v2r (zl6 (v2r z0k)))) z06))))
  (z0r (s_if (w_t (zki (z8p (q_nm 6)) (zhs (z4r (z98 (by exact hr.units)) zbj (q_nm 6) (q_nm 2))))) (z0r (zn4 3 (v2r (zal (own:=["rest"]) (caps:=[(4,"number")]) (z7o (sc:=z00 z1k) ["house","room","places","found","number","opening","there"] rfl rfl rfl (by decide +kernel)) (z89 (z0e z2z hr (z01 (z08 0) (z01 (z08 1) (z01 (z22 (q_nm 2) (v2r (z27 (z01 (z08 6) z06)))) z06))))) (fun _ _ _ _ _ _=>(g_nm 0 (show List.Nodup (["rest","number"]:List Str) by decide +kernel))) (fun _ _ _ _ _ _=>zd9) (fun _ _ _ _ _ _=>(z22 (v2r (z27 (z01 (z08 1) z06))) (q_nm 0))))))) z3j))))
  (z0r (zdl 3)))))
theorem z2z {k:Nat} {f:Addr} {fd:y0b} (F:Fun K "ways_on" "ways_on" z1k f fd) (m:mg "ways_on"=some (.ref f)) (z_enumerate:mg "enumerate"=none) (z2u:Cl P w K mg base "beyond" k 2 z0x):∀n,Cl P w K mg base "ways_on" (k+n) 3 (z1e n)
 | 0=>.mk' z6c m F.kp (z7r F)
 | n+1=>zcv F m (z2z F m z_enumerate z2u  n) z_enumerate (z2u.mono (Nat.le_add_right _ _))
abbrev z5v:Stmt:=top 5
theorem ziv:FnScope ["house","room"] ["house","room"] (z00 z5v):=⟨rfl,rfl,rfl,by decide +kernel,rfl,by decide +kernel,by decide +kernel⟩
theorem zk7 {K:y00} {f:Addr} {fd:y0b} (F:Fun K "ways" "ways" z5v f fd):z1f K fd ["house","room"] []:=F.binds (ps:=["house","room"]) fun _ _ _ _ _ _ us hl=>match us,hl with|[_,_],_=>rfl
theorem z3i {k:Nat} {f:Addr} {fd:y0b} (F:Fun K "ways" "ways" z5v f fd) (m:mg "ways"=some (.ref f)) (z_tuple:mg "tuple"=none) (z2z:Cl P w K mg base "ways_on" k 3 (z1e 20)) {t_OUTSIDE:Tok} (g_OUTSIDE:mg "OUTSIDE"=some (.int 0 t_OUTSIDE)):Cl P w K mg base "ways" (k+1) 2 z0n :=
 z4m F ziv (zk7 F) m fun cdv A outer s H E hr =>
  (z0r (z1q (zaj z_tuple (z0z (v2r (z0e z2z hr (z01 (z08 0) (z01 (z08 1) (z01 (z27 (z01 (q_gI g_OUTSIDE) z06)) z06))))) z21))))
abbrev z33:Stmt:=top 13
theorem z4t:FnScope ["through","numbers","many","place","number","others","behind"] ["through","numbers","many"] (z00 z33):=⟨rfl,rfl,rfl,by decide +kernel,rfl,by decide +kernel,by decide +kernel⟩
theorem zc8 {K:y00} {f:Addr} {fd:y0b} (F:Fun K "stops" "stops" z33 f fd):z1f K fd ["through","numbers","many"] []:=F.binds (ps:=["through","numbers","many"]) fun _ _ _ _ _ _ us hl=>match us,hl with|[_,_,_],_=>rfl
theorem zhn {d:List T->Option T} {k:Nat} {f:Addr} {fd:y0b} (F:Fun K "stops" "stops" z33 f fd) (m:mg "stops"=some (.ref f)) (z59:Cl P w K mg base "stops" k 3 d) (z_enumerate:mg "enumerate"=none) (z_len:mg "len"=none):Cl P w K mg base "stops" (k+1) 3 (runF (z3d d) 7) :=
 z4m F z4t (zc8 F) m fun cdv A outer s H E hr =>
  (z0b (s_if (ziq (zb7 (q_nm 0))) (z0r (z1q (z27 z06))) z3j)
  (z0b (s_if (z4r (z7c (by exact hr.units)) z7d (q_nm 2) (v2r z0k)) (z0r (z1q zch)) z3j)
  (z0b (z80 y21 (zib z_enumerate (z08 1)) (zf4 (z3s (g_nm 3 z4t.nd) (z3s (g_nm 4 z4t.nd) zf5)))
  (z0b (zdn 5 z4t.nd (own:=["way"]) (caps:=[(4,"number")]) (z7o (sc:=z00 z33) ["through","numbers","many","place","number","others","behind"] rfl rfl rfl (by decide +kernel)) (z89 (z08 0)) (fun _ _ _ _ _ _=>(g_nm 0 (show List.Nodup (["way","number"]:List Str) by decide +kernel))) (fun _ _ _ _ _ _=>(zd8 (z4r (z98 (by exact hr.units)) zbj (q_nm 1) (q_nm 0)))) (fun _ _ _ _ _ _=>(z08 0)))
  (z0r (s_if (z4r (zlq.or z9a) zi4 (v2r (zak z_len (z0z (q_nm 5) z21))) (v2r (zak z_len (z0z (q_nm 0) z21)))) (z0b (z2i 6 z4t.nd (z0e z59 hr (z01 (z08 5) (z01 (zdr (q_nm 1) (zi6 (v2r (z22 (q_nm 3) (v2r z0k)))) zi7) (z01 (zj1 (q_nm 2) (v2r z0k)) z06)))))
  (z0r (s_if (z8p (q_nm 6)) (z0r (z1q (z22 (v2r (z27 (z01 (z08 4) z06))) (q_nm 6)))) z3j))) z3j))))
  (z0r (z1q zch)))))
theorem z59 {k:Nat} {f:Addr} {fd:y0b} (F:Fun K "stops" "stops" z33 f fd) (m:mg "stops"=some (.ref f)) (z_enumerate:mg "enumerate"=none) (z_len:mg "len"=none):∀n,Cl P w K mg base "stops" (k+n) 3 (z1n n)
 | 0=>.mk' z6c m F.kp (zc8 F)
 | n+1=>zhn F m (z59 F m z_enumerate z_len  n) z_enumerate z_len
abbrev z35:Stmt:=top 14
theorem z3m:FnScope ["house","room","through","numbers","many","found"] ["house","room"] (z00 z35):=⟨rfl,rfl,rfl,by decide +kernel,rfl,by decide +kernel,by decide +kernel⟩
theorem zft {K:y00} {f:Addr} {fd:y0b} (F:Fun K "fewest" "fewest" z35 f fd):z1f K fd ["house","room"] []:=F.binds (ps:=["house","room"]) fun _ _ _ _ _ _ us hl=>match us,hl with|[_,_],_=>rfl
theorem z41 {k:Nat} {f:Addr} {fd:y0b} (F:Fun K "fewest" "fewest" z35 f fd) (m:mg "fewest"=some (.ref f)) (z3i:Cl P w K mg base "ways" k 2 z0n) (z_tuple:mg "tuple"=none) (z_range:mg "range"=none) (z59:Cl P w K mg base "stops" k 3 (z1n 20)) (z_len:mg "len"=none):Cl P w K mg base "fewest" (k+1) 2 z0w :=
 z4m F z3m (zft F) m fun cdv A outer s H E hr =>
  (z0b (z2i 2 z3m.nd (z0e z3i hr (z01 (z08 0) (z01 (z08 1) z06))))
  (z0b (z2i 3 z3m.nd (zgb rfl z_tuple z_range (v2r (zak z_len (z0z (v2r (q_ix (q_nm 0) (v2r z0k))) z21)))))
  (z0b (z80 y21 (zia z_range (v2r (z22 (v2r (zak z_len (z0z (q_nm 3) z21))) (v2r z0k)))) (g_nm 4 z3m.nd)
  (z0b (z2i 5 z3m.nd (z0e z59 hr (z01 (z08 2) (z01 (z08 3) (z01 (z08 4) z06)))))
  (z0r (s_if (z8p (q_nm 5)) (z0r (zdl 5)) z3j))))
  (z0r (z1q (z27 z06))))))
abbrev z16:Stmt:=top 15
theorem z8x:FnScope ["way","other"] ["way","other"] (z00 z16):=⟨rfl,rfl,rfl,by decide +kernel,rfl,by decide +kernel,by decide +kernel⟩
theorem za3 {K:y00} {f:Addr} {fd:y0b} (F:Fun K "are_apart" "are_apart" z16 f fd):z1f K fd ["way","other"] []:=F.binds (ps:=["way","other"]) fun _ _ _ _ _ _ us hl=>match us,hl with|[_,_],_=>rfl
theorem z1w {k:Nat} {f:Addr} {fd:y0b} (F:Fun K "are_apart" "are_apart" z16 f fd) (m:mg "are_apart"=some (.ref f)) (z_any:mg "any"=none):Cl P w K mg base "are_apart" (k+1) 2 z0q :=
 z4m F z8x (za3 F) m fun cdv A outer s H E hr =>
  (z0r (z1q (znc (znf rfl z_any (z0z (v2r (zal (own:=["number"]) (caps:=[(1,"other")]) (z7o (sc:=z00 z16) ["way","other"] rfl rfl rfl (by decide +kernel)) (z89 (z08 0)) (fun _ _ _ _ _ _=>(g_nm 0 (show List.Nodup (["number","other"]:List Str) by decide +kernel))) (fun _ _ _ _ _ _=>zd9) (fun _ _ _ _ _ _=>(zlb (zi3 (by exact hr.units)) zbj (q_nm 0) (q_nm 1))))) z21)))))
abbrev z0o:Stmt:=top 16
theorem z1c:FnScope ["through","many","place","way","others","behind"] ["through","many"] (z00 z0o):=⟨rfl,rfl,rfl,by decide +kernel,rfl,by decide +kernel,by decide +kernel⟩
theorem z4a {K:y00} {f:Addr} {fd:y0b} (F:Fun K "first_apart" "first_apart" z0o f fd):z1f K fd ["through","many"] []:=F.binds (ps:=["through","many"]) fun _ _ _ _ _ _ us hl=>match us,hl with|[_,_],_=>rfl
theorem z6x {d:List T->Option T} {k:Nat} {f:Addr} {fd:y0b} (F:Fun K "first_apart" "first_apart" z0o f fd) (m:mg "first_apart"=some (.ref f)) (z1b:Cl P w K mg base "first_apart" k 2 d) (z_enumerate:mg "enumerate"=none) (z1w:Cl P w K mg base "are_apart" k 2 z0q):Cl P w K mg base "first_apart" (k+1) 2 (runF (z0y d) 6) :=
 z4m F z1c (z4a F) m fun cdv A outer s H E hr =>
  (z0b (s_if (z4r (z7c (by exact hr.units)) z7d (q_nm 1) (v2r z0k)) (z0r (z1q (z27 z06))) z3j)
  (z0b (z80 y21 (zjs z_enumerate (z08 0)) (zf4 (z3s (g_nm 2 z1c.nd) (z3s (g_nm 3 z1c.nd) zf5)))
  (z0b (zdn 4 z1c.nd (own:=["other"]) (caps:=[(3,"way")]) (z7o (sc:=z00 z0o) ["through","many","place","way","others","behind"] rfl rfl rfl (by decide +kernel)) (z89 (zdr (q_nm 0) (zi6 (v2r (z22 (q_nm 2) (v2r z0k)))) zi7)) (fun _ _ _ _ _ _=>(g_nm 0 (show List.Nodup (["other","way"]:List Str) by decide +kernel))) (fun _ _ _ _ _ _=>(zd8 (zkn (v2r (z0e (by exact z1w) (by exact hr) (z01 (z08 1) (z01 (z08 0) z06))))))) (fun _ _ _ _ _ _=>(z08 0)))
  (z0b (z2i 5 z1c.nd (z0e z1b hr (z01 (z08 4) (z01 (zj1 (q_nm 1) (v2r z0k)) z06))))
  (z0r (s_if (z8p (q_nm 5)) (z0r (z1q (z22 (v2r (z27 (z01 (z08 3) z06))) (q_nm 5)))) z3j)))))
  (z0r (z1q zch))))
theorem z1b {k:Nat} {f:Addr} {fd:y0b} (F:Fun K "first_apart" "first_apart" z0o f fd) (m:mg "first_apart"=some (.ref f)) (z_enumerate:mg "enumerate"=none) (z1w:Cl P w K mg base "are_apart" k 2 z0q):∀n,Cl P w K mg base "first_apart" (k+n) 2 (z0g n)
 | 0=>.mk' z6c m F.kp (z4a F)
 | n+1=>z6x F m (z1b F m z_enumerate z1w  n) z_enumerate (z1w.mono (Nat.le_add_right _ _))
abbrev z4d:Stmt:=top 17
theorem zg6:FnScope ["house","room"] ["house","room"] (z00 z4d):=⟨rfl,rfl,rfl,by decide +kernel,rfl,by decide +kernel,by decide +kernel⟩
theorem zho {K:y00} {f:Addr} {fd:y0b} (F:Fun K "apart" "apart" z4d f fd):z1f K fd ["house","room"] []:=F.binds (ps:=["house","room"]) fun _ _ _ _ _ _ us hl=>match us,hl with|[_,_],_=>rfl
theorem z8h {k:Nat} {f:Addr} {fd:y0b} (F:Fun K "apart" "apart" z4d f fd) (m:mg "apart"=some (.ref f)) (z1b:Cl P w K mg base "first_apart" k 2 (z0g 20)) (z3i:Cl P w K mg base "ways" k 2 z0n) (z_len:mg "len"=none) (z41:Cl P w K mg base "fewest" k 2 z0w):Cl P w K mg base "apart" (k+1) 2 z23 :=
 z4m F zg6 (zho F) m fun cdv A outer s H E hr =>
  (z0r (z1q (z0e z1b hr (z01 (z0e z3i hr (z01 (z08 0) (z01 (z08 1) z06))) (z01 (zak z_len (z0z (v2r (z0e z41 hr (z01 (z08 0) (z01 (z08 1) z06)))) z21)) z06)))))
abbrev z0t:Stmt:=top 18
theorem z1y:FnScope ["house","room","through"] ["house","room"] (z00 z0t):=⟨rfl,rfl,rfl,by decide +kernel,rfl,by decide +kernel,by decide +kernel⟩
theorem z49 {K:y00} {f:Addr} {fd:y0b} (F:Fun K "ways_at_all" "ways_at_all" z0t f fd):z1f K fd ["house","room"] []:=F.binds (ps:=["house","room"]) fun _ _ _ _ _ _ us hl=>match us,hl with|[_,_],_=>rfl
theorem z2a {k:Nat} {f:Addr} {fd:y0b} (F:Fun K "ways_at_all" "ways_at_all" z0t f fd) (m:mg "ways_at_all"=some (.ref f)) (z3i:Cl P w K mg base "ways" k 2 z0n):Cl P w K mg base "ways_at_all" (k+1) 2 z0v :=
 z4m F z1y (z49 F) m fun cdv A outer s H E hr =>
  (z0b (z2i 2 z1y.nd (z0e z3i hr (z01 (z08 0) (z01 (z08 1) z06))))
  (z0b (s_if (ziq (zb7 (q_nm 2))) (z0r zix) z3j)
  (z0r (zdl 2))))
theorem z1x {k:Nat} {f:Addr} {fd:y0b} (F:Fun K "ways_at_all" "ways_at_all" z0t f fd) (m:mg "ways_at_all"=some (.ref f)) {XD xz xw xd xt:Addr} (Nm:Names K mg XD xz xw xd xt) (Rw:Ref1 K XD xz xw xd xt xw 1) (z3i:Cl P w K mg base "ways" k 2 z0n) :ClZ P w K mg base "ways_at_all" xw (k+1) 2 z1l :=
 zif F z1y (z49 F) m fun cdv A outer s H E hr =>
  (z_n (z2i 2 z1y.nd (z0e z3i hr (z01 (z08 0) (z01 (z08 1) z06)))) (z_1 (z_if (ziq (zb7 (q_nm 2))) (z_1 (zin Nm.nw Rw.new (zl9 (q_nm 1)) hr.hd)) z_no)))
abbrev z11:Stmt:=top 19
theorem z5u:FnScope ["house","room"] ["house","room"] (z00 z11):=⟨rfl,rfl,rfl,by decide +kernel,rfl,by decide +kernel,by decide +kernel⟩
theorem z6l {K:y00} {f:Addr} {fd:y0b} (F:Fun K "quickest" "quickest" z11 f fd):z1f K fd ["house","room"] []:=F.binds (ps:=["house","room"]) fun _ _ _ _ _ _ us hl=>match us,hl with|[_,_],_=>rfl
theorem z3z {k:Nat} {f cL Pt:Addr} {oc:Value} {od an:Option Addr} {osl:Array (Option Value)} {kV doc pm ct:Value} (l:K.lookup f=some ⟨oc,od,.func (y0i "quickest" "quickest" (z0h z11) (z09 z11) (z00 z11) .none kV doc pm an (.ref cL) ct),osl⟩) (hcd:y0f K (.ref cL) "quickest"=true) (kp:y08 K (.ref f)=true) (m:mg "quickest"=some (.ref f)) (hCH:PySem.W.codeHdIn K cL Pt=true) (hbm:BM mg base) (htb:(Pt,(("quickest":Str)++".<locals>.")++"<lambda>")∈Tbl.tb) (hun:∀p∈Tbl.tb,p.1=Pt->p.2=(("quickest":Str)++".<locals>.")++"<lambda>") (z_min:mg "min"=none) (z2a:Cl P w K mg base "ways_at_all" k 2 z0v) (z_len:mg "len"=none):Cl P w K mg base "quickest" (k+3) 2 z13 :=
 zmj l hcd z5u (fun _ F=>z6l F) m kp fun A outer s H E hr =>
  (z0r (z1q (zl7 (y:="way") (z0e z2a (hr.mono (Nat.le_add_right _ 2)) (z01 (z08 0) (z01 (z08 1) z06))) z_min rfl hCH hbm htb hun hr (fun q c2 cl A2 o2 s2 H2 hrL=>by exact (z27 (z01 (zak z_len (z0z (q_nm 0) z21)) (z01 (z08 0) z06)))))))
theorem z30 {k:Nat} {f:Addr} {fd:y0b} (F:Fun K "quickest" "quickest" z11 f fd) (m:mg "quickest"=some (.ref f)) {XD xz xw xd xt:Addr} (Nm:Names K mg XD xz xw xd xt) (Rw:Ref1 K XD xz xw xd xt xw 1) (z_min:mg "min"=none) (z2a:Cl P w K mg base "ways_at_all" k 2 z0v) (z_len:mg "len"=none) (z1x:ClZ P w K mg base "ways_at_all" xw k 2 z1l):ClZ P w K mg base "quickest" xw (k+1) 2 z12 :=
 zif F z5u (z6l F) m fun cdv A outer s H E hr =>
  (z_1 (zmo (zke z_min (zd2 z1x hr (ag_v (z08 0) (ag_v (z08 1) zfx))))))
abbrev z4c:Stmt:=top 27
theorem z2e:FnScope ["_law_script","_law_rooms","_law_openings","_law_some","_law_one","_law_other","_law_zone","_law_pair","_law_house_here","_law_turned","_law_names","_law_due","_law_room_here","_law_there","_law_found"] ["_law_script"] (z00 z4c):=⟨rfl,rfl,rfl,by decide +kernel,rfl,by decide +kernel,by decide +kernel⟩
theorem znp {k:Nat} {f cL Pt:Addr} {oc:Value} {od an:Option Addr} {osl:Array (Option Value)} {kV doc pm ct:Value} (l:K.lookup f=some ⟨oc,od,.func (y0i "law" "law" (z0h z4c) (z09 z4c) (z00 z4c) .none kV doc pm an (.ref cL) ct),osl⟩) (hcd:y0f K (.ref cL) "law"=true) (hCH:PySem.W.codeHdIn K cL Pt=true) (hbm:BM mg base) (htb:(Pt,(("law":Str)++".<locals>.")++"<lambda>")∈Tbl.tb) (hun:∀p∈Tbl.tb,p.1=Pt->p.2=(("law":Str)++".<locals>.")++"<lambda>") {XD xz xw xd xt:Addr} (Nm:Names K mg XD xz xw xd xt) (Rw:Ref1 K XD xz xw xd xt xw 1) (z30:ClZ P w K mg base "quickest" xw k 2 z12) (z1x:ClZ P w K mg base "ways_at_all" xw k 2 z1l) (z6j:Cl P w K mg base "_law_house" k 1 z2l) (z_range:mg "range"=none) (z6i:Cl P w K mg base "_law_mixed" k 2 z20) (z_sorted:mg "sorted"=none) (z40:Cl P w K mg base "_law_room" k 2 z0p) {f_l_told:Addr} {fd_l_told:y0b} (F_l_told:Fun K "_law_told" "_law_told" z19 f_l_told fd_l_told) (m_l_told:mg "_law_told"=some (.ref f_l_told)) (z5m:Cl P w K mg base "unseen" k 2 z15) (z_tuple:mg "tuple"=none) (z41:Cl P w K mg base "fewest" k 2 z0w) (z3i:Cl P w K mg base "ways" k 2 z0n) (z8h:Cl P w K mg base "apart" k 2 z23) (z3z:Cl P w K mg base "quickest" k 2 z13):FnOk P w K mg base CX0 (k+3) f (y0i "law" "law" (z0h z4c) (z09 z4c) (z00 z4c) .none kV doc pm an (.ref cL) ct) ["_law_script"] (spT K 1 zct) :=
 zf6 l hcd z2e fun A outer s H E hr =>
  (z0b (zkz (z0e z6j (hr.mono (Nat.le_add_right _ 2)) (z01 (z0e z6i (hr.mono (Nat.le_add_right _ 2)) (z01 (z08 0) (z01 z0k z06))) z06)) (zf4 (z3s (g_nm 1 z2e.nd) (z3s (g_nm 2 z2e.nd) zf5))))
  (z0b (z2i 3 z2e.nd (z27 z06))
  (z0b (z80 y21 (z89 (z08 2)) (zf4 (z3s (g_nm 4 z2e.nd) (z3s (g_nm 5 z2e.nd) (z3s (g_nm 6 z2e.nd) zf5))))
  (z0b (z2i 7 z2e.nd (zbi rfl z_sorted (z0z (v2r (zds (z01 (z0e z40 (hr.mono (Nat.le_add_right _ 2)) (z01 (z08 1) (z01 (z08 4) z06))) (z01 (z0e z40 (hr.mono (Nat.le_add_right _ 2)) (z01 (z08 1) (z01 (z08 5) z06))) z06)))) z21)))
  (z0r (z2i 3 z2e.nd (z22 (q_nm 3) (v2r (z27 (z01 (z27 (z01 (q_ix (q_nm 7) (v2r z0k)) (z01 (q_ix (q_nm 7) (v2r z0k)) (z01 (z08 6) z06)))) z06))))))))
  (z0b (zkv 8 9 z2e.nd (z27 (z01 (z08 1) (z01 (z08 2) z06))) (z27 (z01 (z08 1) (z01 (z08 3) z06))))
  (z0b (z80 y21 (z89 (z27 (z01 (z27 z06) (z01 (z27 (z01 z6t (z01 z6t z06))) (z01 (z27 (z01 z6t (z01 z6t (z01 z6t z06)))) z06))))) (g_nm 10 z2e.nd)
  (z0b (z2i 11 z2e.nd (zbi rfl z_sorted (z0z (v2r (zal (own:=["_law_room_here"]) (caps:=[(1,"_law_rooms")]) (z7o (sc:=z00 z4c) ["_law_script","_law_rooms","_law_openings","_law_some","_law_one","_law_other","_law_zone","_law_pair","_law_house_here","_law_turned","_law_names","_law_due","_law_room_here","_law_there","_law_found"] rfl rfl rfl (by decide +kernel)) (z89 (z0e z5m (hr.mono (Nat.le_add_right _ 2)) (z01 (z08 8) (z01 (z08 10) z06)))) (fun _ _ _ _ _ _=>(g_nm 0 (show List.Nodup (["_law_room_here","_law_rooms"]:List Str) by decide +kernel))) (fun _ _ _ _ _ _=>zd9) (fun _ _ _ _ _ _=>(z0e (by exact z40) (by exact (hr.mono (Nat.le_add_right _ 2))) (z01 (z08 1) (z01 (z08 0) z06)))))) z21)))
  (z0r (s_if (z4r (z99 (by exact hr.units)) z9b (v2r (z0e z5m (hr.mono (Nat.le_add_right _ 2)) (z01 (z08 9) (z01 (z08 10) z06)))) (v2r (zaj z_tuple (z0z (q_nm 11) z21)))) (z0r (z1q q_bl)) z3j))))
  (z0b (z80 y21 (zm7 z_range (v2r z0k) (v2r (z22 (q_nm 1) (v2r z0k)))) (g_nm 12 z2e.nd)
  (z0b (z2i 13 z2e.nd (z0e z40 (hr.mono (Nat.le_add_right _ 2)) (z01 (z08 1) (z01 (z08 12) z06))))
  (z0b (s_if (w_t (w_or (z4r (z99 (by exact hr.units)) z9b (v2r (z0e z3i (hr.mono (Nat.le_add_right _ 2)) (z01 (z08 9) (z01 (z08 13) z06)))) (v2r (z0e z3i (hr.mono (Nat.le_add_right _ 2)) (z01 (z08 8) (z01 (z08 12) z06))))) (zkh (z4r (z99 (by exact hr.units)) z9b (v2r (z0e z8h (hr.mono (Nat.le_add_right _ 2)) (z01 (z08 9) (z01 (z08 13) z06)))) (v2r (z0e z8h (hr.mono (Nat.le_add_right _ 2)) (z01 (z08 8) (z01 (z08 12) z06)))))))) (z0r (z1q q_bl)) z3j)
  (z0b (s_if (z4r (z99 (by exact hr.units)) z9b (v2r (z0e z41 (hr.mono (Nat.le_add_right _ 2)) (z01 (z08 9) (z01 (z08 13) z06)))) (v2r (z0e z41 (hr.mono (Nat.le_add_right _ 2)) (z01 (z08 8) (z01 (z08 12) z06))))) (z0r (z1q q_bl)) z3j)
  (z0b (zky 14 z2e.nd (zd3 F_l_told z1z (za1 F_l_told) m_l_told (fun cdv A outer s H=>z9l cdv A outer s H) (fun cdv A outer s H=>z9k Nm Rw cdv A outer s H) rfl hCH hbm htb hun hr (fun q c2 cl A2 o2 s2 H2 hrL=>by exact (zd4 (z0e z3z hrL (z01 (z08 9) (z01 (z08 13) z06))))) (fun q c2 cl A2 o2 s2 H2 E2 hrL=>by exact (zd2 z30 hrL (ag_v (z08 9) (ag_v (z08 13) zfx))))))
  (z0r (zn3 (zmq (z99 (by exact hr.units)) z9b (zd3 F_l_told z1z (za1 F_l_told) m_l_told (fun cdv A outer s H=>z9l cdv A outer s H) (fun cdv A outer s H=>z9k Nm Rw cdv A outer s H) rfl hCH hbm htb hun hr (fun q c2 cl A2 o2 s2 H2 hrL=>by exact (zd4 (z0e z3z hrL (z01 (z08 8) (z01 (z08 12) z06))))) (fun q c2 cl A2 o2 s2 H2 E2 hrL=>by exact (zd2 z30 hrL (ag_v (z08 8) (ag_v (z08 12) zfx))))) (zd4 (z08 14))) (z0r (z1q q_bl)) z3j)))))))
  (z0r (z1q q_bl))))))))
end
end K26
end
section
namespace D
open PySem
theorem z85 (ns:List Int):y1f (ns.map .int)=true/\y1d (ns.map .int)<=1:=by
 induction ns with
 | nil=>simp[y1f,y1d]
 | cons n ns ih=>simp[y1f,PyData.canLay0,y1d,y20,ih]
theorem zgv (ss:List Str) (h:∀x∈ss,(y1s x).canLay0=true):y1f (ss.map .str)=true/\y1d (ss.map .str)<=1:=by
 induction ss with
 | nil=>simp[y1f,y1d]
 | cons n ns ih =>
  have h1:=h n (by simp)
  have h2:=ih fun x hx=>h x (by simp[hx])
  simp[y1f,y1d,y20,h1,h2]
theorem zgu (ns:List Int):okT (.tuple (ns.map .int))=true:=by
 have:=z85 ns
 simp[okT,PyData.canLay0,y20,this.1]
 omega
theorem z6d:∀(ns ms:List Int),PyData.eqvAll (ns.map .int) (ms.map .int)=decide (ns=ms)
 | [],[]=>by simp[PyData.eqvAll]
 | [],_::_=>by simp[PyData.eqvAll]
 | _::_,[]=>by simp[PyData.eqvAll]
 | n::ns,m::ms=>by simp[PyData.eqvAll,y1w,z6d ns ms,Bool.beq_eq_decide_eq]
theorem zhg (ns ms:List Int):y1w (.tuple (ns.map .int)) (.tuple (ms.map .int))=decide (ns=ms):=by rw[y1w,z6d]
theorem zbr (n:Int):∀ns:List Int,hasT (.int n) (ns.map .int)=decide (n∈ns)
 | []=>by simp[hasT]
 | m::ns=>by
  have ih:=zbr n ns
  unfold hasT at ih ⊢
  rw[y0d,List.any_cons,ih]
  simp[y1w,Bool.beq_eq_decide_eq,eq_comm]
theorem zbq (n:Str):∀ns:List Str,hasT (.str n) (ns.map .str)=decide (n∈ns)
 | []=>by simp[hasT]
 | m::ns=>by
  have ih:=zbq n ns
  unfold hasT at ih ⊢
  rw[y0d,List.any_cons,ih]
  simp[y1w,Bool.beq_eq_decide_eq,eq_comm]
theorem zea (n:Int):okT (.int n)=true:=by simp[okT,PyData.canLay0,y20]
theorem zjj {x:Str} (h:(y1s x).canLay0=true):okT (.str x)=true:=by simp[okT,y20,h]
theorem zec (ns:List Int):okL (ns.map .int)=true:=by
 have:=z85 ns
 simp[okL,this.1]
 omega
theorem zeb (ss:List Str) (h:∀x∈ss,(y1s x).canLay0=true):okL (ss.map .str)=true:=by
 have:=zgv ss h
 simp[okL,this.1]
 omega
theorem zao (neg:Bool) (n:Int) (ns:List Int):oIn neg (.int n) (.tuple (ns.map .int))=some (.bool (if neg then !decide (n∈ns) else decide (n∈ns))):=by
 simp only[oIn,zea,zec,zbr,Bool.and_self,if_true]
theorem zeg (neg:Bool) (n:Str) (ns:List Str) (h0:(y1s n).canLay0=true) (h:∀x∈ns,(y1s x).canLay0=true):oIn neg (.str n) (.tuple (ns.map .str))=some (.bool (if neg then !decide (n∈ns) else decide (n∈ns))):=by
 simp only[oIn,zjj h0,zeb ns h,zbq,Bool.and_self,if_true]
end D
end
section
namespace Hg
def adj (e:Int×Int) (x:Int):Option Int:=if e.1=x then some e.2 else if e.2=x then some e.1 else none
def Adj (E:List (Int×Int)) (x y:Int):Prop:=∃e∈E,adj e x=some y
inductive Reach (E:List (Int×Int)):Int->Prop
 | zero:Reach E 0
 | step {x y:Int}:Reach E x->Adj E x y->Reach E y
def Within (R:Int) (E:List (Int×Int)):Prop:=∀e∈E,0<=e.1/\e.1<=R/\0<=e.2/\e.2<=R
theorem adj_within {R:Int} {E:List (Int×Int)} (h:Within R E) {x y:Int} (a:Adj E x y):0<=y/\y<=R:=by
 obtain⟨e,he,ha⟩:=a
 obtain⟨h1,h2,h3,h4⟩:=h e he
 unfold adj at ha
 split at ha
 ·cases ha;exact⟨h3,h4⟩
 ·split at ha
  ·cases ha;exact⟨h1,h2⟩
  ·cases ha
theorem nodup_len:∀(n:Nat) (l:List Int),l.Nodup->(∀x∈l,0<=x/\x<n)->l.length<=n
 | 0,l,_,hb=>by
  cases l with
  | nil=>simp
  | cons x r=>have:=hb x (by simp);omega
 | n+1,l,nd,hb=>by
  have h1:=nodup_len n (l.filter fun x=>decide (x≠(n:Int))) (nd.filter _) (fun x hx=>by
   have:=List.mem_filter.mp hx
   have hx':=hb x this.1
   have:x≠(n:Int):=by simpa using this.2
   omega)
  have h2:l.length<=(l.filter fun x=>decide (x≠(n:Int))).length+1:=by
   clear h1 hb
   induction l with
   | nil=>simp
   | cons y r ih =>
    have nd':=y0r.mp nd
    by_cases e:y=(n:Int)
    ·subst e
     have:r.filter (fun x=>decide (x≠(n:Int)))=r:=List.filter_eq_self.mpr fun x hx=>by
      have:x≠(n:Int):=fun z=>nd'.1 (z▸hx)
      simpa using this
     rw[List.filter_cons_of_neg (by simp),this]
     simp
    ·rw[List.filter_cons_of_pos (by simpa using e)]
     have:=ih nd'.2
     simp only[y0w]
     omega
  omega
noncomputable def inner (h:Int):List (Int×Int)->List Int->List Int->List Int×List Int
 | [],r,w=>(r,w)
 | e::es,r,w=>match adj e h with
  | some t=>if t∈r then inner h es r w else inner h es (r++[t]) (w++[t])
  | none=>inner h es r w
noncomputable def bfs (E:List (Int×Int)):Nat->List Int->List Int->Option (List Int)
 | 0,_,_=>none
 | n+1,r,w=>match w.getLast? with
  | none=>some r
  | some h=>bfs E n (inner h E r w.dropLast).1 (inner h E r w.dropLast).2
theorem z5k (h:Int):∀(E:List (Int×Int)) (r w:List Int),∃new:List Int,inner h E r w=(r++new,w++new)/\(r.Nodup->(r++new).Nodup)/\(∀y∈new,Adj E h y)/\∀y,Adj E h y->y∈r++new
 | [],r,w=>⟨[],by simp[inner],by simp,by simp,fun y ⟨e,he,_⟩=>by simp at he⟩
 | e::es,r,w=>by
  unfold inner
  have up:∀{y:Int},Adj es h y->Adj (e::es) h y:=fun⟨e',h1,h2⟩=>⟨e',y05 _ h1,h2⟩
  split
  next t ht =>
   split
   next hm =>
    obtain⟨new,h1,h2,h3,h4⟩:=z5k h es r w
    refine⟨new,h1,h2,fun y hy=>up (h3 y hy),fun y ⟨e',he',ha⟩=>?_⟩
    rcases y09.mp he' with rfl|he'
    ·rw[ht] at ha
     cases ha
     exact List.mem_append_left _ hm
    ·exact h4 y ⟨e',he',ha⟩
   next hm =>
    obtain⟨new,h1,h2,h3,h4⟩:=z5k h es (r++[t]) (w++[t])
    refine⟨t::new,by rw[h1];simp,fun nd=>?_,fun y hy=>?_,fun y ⟨e',he',ha⟩=>?_⟩
    ·have:(r++[t]).Nodup:=by
      rw[y1j]
      refine⟨nd,by simp,fun a ha b hb=>?_⟩
      have:b=t:=by simpa using hb
      subst this
      exact fun z=>hm (z▸ha)
     simpa using h2 this
    ·rcases y09.mp hy with rfl|hy
     ·exact⟨e,y0e,ht⟩
     ·exact up (h3 y hy)
    ·rcases y09.mp he' with rfl|he'
     ·rw[ht] at ha
      cases ha
      simp
     ·have:=h4 y ⟨e',he',ha⟩
      simpa using this
  next hn =>
   obtain⟨new,h1,h2,h3,h4⟩:=z5k h es r w
   refine⟨new,h1,h2,fun y hy=>up (h3 y hy),fun y ⟨e',he',ha⟩=>?_⟩
   rcases y09.mp he' with rfl|he'
   ·rw[hn] at ha
    cases ha
   ·exact h4 y ⟨e',he',ha⟩
structure Mid (R:Int) (E:List (Int×Int)) (r w:List Int):Prop where
 nd:r.Nodup
 z:(0:Int)∈r
 wr:∀x∈w,x∈r
 bd:∀x∈r,0<=x/\x<=R
 re:∀x∈r,Reach E x
 cl:∀x∈r,x∉w->∀y,Adj E x y->y∈r
theorem zfp {R:Int} {E:List (Int×Int)} (hE:Within R E) (hR:R<=7):∀(n:Nat) (r w:List Int),Mid R E r w->2*(8 - r.length)+w.length<n->∃r',bfs E n r w=some r'/\Mid R E r' []
 | 0,r,w,m,h=>by omega
 | n+1,r,w,m,h=>by
  unfold bfs
  split
  next e=>exact⟨r,rfl,by have:w=[]:=(by simpa using e);subst this;exact m⟩
  next x e =>
   have hw:w=w.dropLast++[x]:=by
    have hne:w≠[]:=by rintro rfl;simp at e
    have:=List.dropLast_concat_getLast hne
    have e2:w.getLast hne=x:=by
     rw[List.getLast?_eq_getLast hne] at e
     exact y28 e
    rw[e2] at this
    exact this.symm
   obtain⟨new,h1,h2,h3,h4⟩:=z5k x E r w.dropLast
   rw[h1]
   have hx:x∈w:=by rw[hw];simp
   have nd:=h2 m.nd
   have m':Mid R E (r++new) (w.dropLast++new):=by
    refine⟨nd,List.mem_append_left _ m.z,fun y hy=>?_,fun y hy=>?_,fun y hy=>?_,fun y hy hn z az=>?_⟩
    ·rcases y10.mp hy with hy|hy
     ·exact List.mem_append_left _ (m.wr y (List.dropLast_subset _ hy))
     ·exact y19 _ hy
    ·rcases y10.mp hy with hy|hy
     ·exact m.bd y hy
     ·exact adj_within hE (h3 y hy)
    ·rcases y10.mp hy with hy|hy
     ·exact m.re y hy
     ·exact .step (m.re x (m.wr x hx)) (h3 y hy)
    ·by_cases exy:y=x
     ·subst exy
      exact h4 z az
     ·rcases y10.mp hy with hy|hy
      ·refine List.mem_append_left _ (m.cl y hy (fun hyw=>hn (List.mem_append_left _ ?_)) z az)
       rw[hw] at hyw
       rcases y10.mp hyw with q|q
       ·exact q
       ·exact absurd (by simpa using q) exy
      ·exact absurd (y19 _ hy) hn
   have lr:(r++new).length<=8:=nodup_len 8 _ nd fun y hy=>by have:=m'.bd y hy;omega
   have lw:w.length=w.dropLast.length+1:=by
    conv=>lhs;rw[hw]
    simp
   refine zfp hE hR n _ _ m' ?_
   simp only[y1x] at lr ⊢
   omega
theorem bfs_ok {R:Int} {E:List (Int×Int)} (hE:Within R E) (h0:0<=R) (hR:R<=7) {n:Nat} (hn:15<n):∃r,bfs E n [0] [0]=some r/\r.Nodup/\(∀x,x∈r <-> Reach E x)/\∀x∈r,0<=x/\x<=R:=by
 obtain⟨r,h1,m⟩:=zfp (n:=n) hE hR [0] [0] ⟨by simp,by simp,by simp,by simpa using h0,fun x hx=>(show x=0 by simpa using hx)▸Reach.zero,by simp⟩ (by simp;omega)
 refine⟨r,h1,m.nd,fun x=>⟨m.re x,fun hx=>?_⟩,m.bd⟩
 induction hx with
 | zero=>exact m.z
 | step _ a ih=>exact m.cl _ ih (by simp) _ a
noncomputable def exts (rec:List Int->Option (List (List Nat))) (pl:List Int) (h:Int):Nat->List (Int×Int)->Option (List (List Nat))
 | _,[]=>some []
 | k,e::es=>match adj e h with
  | some t=>if t∈pl then exts rec pl h (k+1) es else (rec (pl++[t])).bind fun ws=>(exts rec pl h (k+1) es).map fun vs=>ws.map (fun w=>k::w)++vs
  | none=>exts rec pl h (k+1) es
noncomputable def waysP (E:List (Int×Int)) (room:Int):Nat->List Int->Option (List (List Nat))
 | 0,_=>none
 | n+1,pl=>match pl.getLast? with
  | none=>none
  | some h=>if h=room then some [[]] else exts (waysP E room n) pl h 0 E
theorem z8c {rec:List Int->Option (List (List Nat))} {pl:List Int} {h:Int} {B:Nat} (E₀:List (Int×Int)) (hr:∀t,Adj E₀ h t->t∉pl->∃ws,rec (pl++[t])=some ws/\ws.length<=B) :
  ∀(k:Nat) (E:List (Int×Int)),(∀e∈E,e∈E₀)->∃ws,exts rec pl h k E=some ws/\ws.length<=E.length*B
 | k,[],_=>⟨[],rfl,by simp⟩
 | k,e::es,hs=>by
  obtain⟨vs,h1,h2⟩:=z8c E₀ hr (k+1) es fun e he=>hs e (y05 _ he)
  have h3:es.length*B<=(e::es).length*B:=Nat.mul_le_mul_right _ (by simp)
  unfold exts
  split
  next t ht =>
   split
   next=>exact⟨vs,h1,by omega⟩
   next hm =>
    obtain⟨ws,h4,h5⟩:=hr t ⟨e,hs e y0e,ht⟩ hm
    refine⟨_,by rw[h4,h1];rfl,?_⟩
    simp only[y1x,y13,y0w,Nat.succ_mul]
    omega
  next=>exact⟨vs,h1,by omega⟩
theorem ways_tot {R:Int} {E:List (Int×Int)} (hE:Within R E) (hR:R<=7) (hl:E.length<=10) (room:Int) :
  ∀(n:Nat) (pl:List Int),pl≠[]->pl.Nodup->(∀x∈pl,0<=x/\x<=R)->9<=n+pl.length->∃ws,waysP E room n pl=some ws/\ws.length<=10 ^ (8 - pl.length)
 | 0,pl,hne,nd,hb,hn=>by
  have:=nodup_len 8 pl nd fun y hy=>by have:=hb y hy;omega
  omega
 | n+1,pl,hne,nd,hb,hn=>by
  unfold waysP
  rw[List.getLast?_eq_getLast hne]
  simp only
  split
  next=>exact⟨_,rfl,by simpa using Nat.one_le_pow _ 10 (by decide)⟩
  next =>
   have l8:=nodup_len 8 pl nd fun y hy=>by have:=hb y hy;omega
   by_cases full:pl.length=8
   ·
    have none_new:∀t,Adj E (pl.getLast hne) t->t∉pl->False:=fun t a hm=>by
     have hw:=adj_within hE a
     have nd':(pl++[t]).Nodup:=by
      rw[y1j]
      refine⟨nd,by simp,fun x hx y hy=>?_⟩
      have:y=t:=by simpa using hy
      subst this
      exact fun z=>hm (z▸hx)
     have:=nodup_len 8 (pl++[t]) nd' fun y hy=>by
      rcases y10.mp hy with hy|hy
      ·have:=hb y hy;omega
      ·have:y=t:=by simpa using hy
       subst this
       omega
     simp at this
     omega
    obtain⟨ws,h1,h2⟩:=z8c (B:=0) (pl:=pl) (h:=pl.getLast hne) (rec:=waysP E room n) E (fun t a hm=>(none_new t a hm).elim) 0 E fun _ h=>h
    exact⟨ws,h1,by have:ws.length=0:=(by omega);rw[this];exact y1z _⟩
   ·obtain⟨ws,h1,h2⟩:=z8c (B:=10 ^ (8 - (pl.length+1))) (pl:=pl) (h:=pl.getLast hne) (rec:=waysP E room n) E (fun t a hm=>by
     have hw:=adj_within hE a
     have:=ways_tot hE hR hl room n (pl++[t]) (by simp) (by
      rw[y1j]
      refine⟨nd,by simp,fun x hx y hy=>?_⟩
      have:y=t:=by simpa using hy
      subst this
      exact fun z=>hm (z▸hx)) (fun y hy=>by
      rcases y10.mp hy with hy|hy
      ·exact hb y hy
      ·have:y=t:=by simpa using hy
       subst this
       exact hw) (by simp;omega)
     simpa using this) 0 E fun _ h=>h
    refine⟨ws,h1,?_⟩
    have e:8 - pl.length=(8 - (pl.length+1))+1:=by omega
    rw[e,Nat.pow_succ]
    have:=Nat.mul_le_mul_right (10 ^ (8 - (pl.length+1))) hl
    omega
inductive Walk (E:List (Int×Int)):Int->List Int->Int->Prop
 | nil (x:Int):Walk E x [] x
 | cons {x y z:Int} {p:List Int}:Adj E x y->Walk E y p z->Walk E x (y::p) z
theorem z3t {rec:List Int->Option (List (List Nat))} {pl:List Int} {h:Int}:∀{k:Nat} {E:List (Int×Int)} {ws:List (List Nat)},exts rec pl h k E=some ws->∀t,Adj E h t->t∉pl->∃vs,rec (pl++[t])=some vs/\(vs≠[]->ws≠[])
 | k,[],ws,e,t,⟨e',he',_⟩,_=>by simp at he'
 | k,e::es,ws,h1,t,⟨e',he',ha⟩,hm=>by
  unfold exts at h1
  split at h1
  next t' ht' =>
   split at h1
   next hm' =>
    rcases y09.mp he' with rfl|he'
    ·rw[ht'] at ha
     cases ha
     exact absurd hm' hm
    ·exact z3t h1 t ⟨e',he',ha⟩ hm
   next hm' =>
    simp only[y01,y07] at h1
    obtain⟨us,h2,vs,h3,rfl⟩:=h1
    rcases y09.mp he' with rfl|he'
    ·rw[ht'] at ha
     cases ha
     exact⟨us,h2,fun q z=>q (by have:=(List.append_eq_nil_iff.mp z).1;simpa using this)⟩
    ·obtain⟨xs,q1,q2⟩:=z3t h3 t ⟨e',he',ha⟩ hm
     exact⟨xs,q1,fun q z=>q2 q (List.append_eq_nil_iff.mp z).2⟩
  next hn =>
   rcases y09.mp he' with rfl|he'
   ·rw[hn] at ha
    cases ha
   ·exact z3t h1 t ⟨e',he',ha⟩ hm
theorem z8d {rec:List Int->Option (List (List Nat))} {pl:List Int} {h:Int}:∀{k:Nat} {E:List (Int×Int)} {ws:List (List Nat)},exts rec pl h k E=some ws->ws≠[]->∃t vs,Adj E h t/\t∉pl/\rec (pl++[t])=some vs/\vs≠[]
 | k,[],ws,e,hn=>by
  cases e
  exact absurd rfl hn
 | k,e::es,ws,h1,hne=>by
  have up:∀{y:Int},Adj es h y->Adj (e::es) h y:=fun⟨e',h1,h2⟩=>⟨e',y05 _ h1,h2⟩
  unfold exts at h1
  split at h1
  next t ht =>
   split at h1
   next =>
    obtain⟨t',vs,a,b,c,d⟩:=z8d h1 hne
    exact⟨t',vs,up a,b,c,d⟩
   next hm =>
    simp only[y01,y07] at h1
    obtain⟨us,h2,vs,h3,rfl⟩:=h1
    by_cases hu:us=[]
    ·subst hu
     obtain⟨t',vs',a,b,c,d⟩:=z8d h3 (by simpa using hne)
     exact⟨t',vs',up a,b,c,d⟩
    ·exact⟨t,us,⟨e,y0e,ht⟩,hm,h2,hu⟩
  next =>
   obtain⟨t',vs,a,b,c,d⟩:=z8d h1 hne
   exact⟨t',vs,up a,b,c,d⟩
theorem z5b {E:List (Int×Int)} {room:Int}:∀{p:List Int} {n:Nat} {pl:List Int} {cur:Int} {ws:List (List Nat)},Walk E cur p room->(cur::p).Nodup->(∀y∈p,y∉pl)->pl.getLast?=some cur->waysP E room n pl=some ws->ws≠[]
 | p,0,pl,cur,ws,_,_,_,_,h=>by cases h
 | [],n+1,pl,cur,ws,hw,_,_,hl,h=>by
  cases hw
  unfold waysP at h
  rw[hl] at h
  simp only[if_true] at h
  cases h
  simp
 | y::p,n+1,pl,cur,ws,hw,nd,hp,hl,h=>by
  cases hw with
  | cons a w =>
   unfold waysP at h
   rw[hl] at h
   simp only at h
   split at h
   next=>cases h;simp
   next =>
    obtain⟨vs,h1,h2⟩:=z3t h y a (hp y (by simp))
    have nd':=(y0r.mp nd).2
    refine h2 (z5b w nd' (fun z hz hm=>?_) (by simp) h1)
    rcases y10.mp hm with hm|hm
    ·exact hp z (y05 _ hz) hm
    ·have:z=y:=by simpa using hm
     subst this
     exact (y0r.mp nd').1 hz
theorem z5c {E:List (Int×Int)} {room:Int}:∀{n:Nat} {pl:List Int} {cur:Int} {ws:List (List Nat)},pl.getLast?=some cur->waysP E room n pl=some ws->ws≠[]->∃p,Walk E cur p room
 | 0,pl,cur,ws,_,h,_=>by cases h
 | n+1,pl,cur,ws,hl,h,hne=>by
  unfold waysP at h
  rw[hl] at h
  simp only at h
  split at h
  next e =>
   subst e
   exact⟨[],.nil _⟩
  next =>
   obtain⟨t,vs,a,b,c,d⟩:=z8d h hne
   obtain⟨p,w⟩:=z5c (pl:=pl++[t]) (cur:=t) (by simp) c d
   exact⟨t::p,.cons a w⟩
theorem zd5 {E:List (Int×Int)} {x y z:Int} {p:List Int} (w:Walk E x p y) (a:Adj E y z):Walk E x (p++[z]) z:=by
 induction w with
 | nil x=>exact .cons a (.nil z)
 | cons b _ ih=>exact .cons b (ih a)
theorem zcb {E:List (Int×Int)} {x y:Int} {p:List Int} (w:Walk E x p y) (r:Reach E x):Reach E y:=by
 induction w with
 | nil x=>exact r
 | cons a _ ih=>exact ih (.step r a)
theorem zg1 {E:List (Int×Int)} {x z y:Int} {p:List Int} (w:Walk E x p z) (nd:(x::p).Nodup) (hy:y∈x::p):∃q,Walk E x q y/\(x::q).Nodup:=by
 induction w with
 | nil x =>
  have:y=x:=by simpa using hy
  subst this
  exact⟨[],.nil _,by simp⟩
 | @cons x u z p a w ih =>
  by_cases e:y=x
  ·subst e
   exact⟨[],.nil _,by simp⟩
  ·have nd':=y0r.mp nd
   have sub:∀{q:List Int},Walk E u q y->True:=fun _=>trivial
   obtain⟨q,w',ndq,hs⟩:∃q,Walk E u q y/\(u::q).Nodup/\∀t∈u::q,t∈u::p:=by
    have hy':y∈u::p:=by
     rcases y09.mp hy with h|h
     ·exact absurd h e
     ·exact h
    clear ih sub a nd hy e
    have nd2:=nd'.2
    clear nd'
    induction w with
    | nil u =>
     have:y=u:=by simpa using hy'
     subst this
     exact⟨[],.nil _,by simp,by simp⟩
    | @cons u v z p b w ih =>
     by_cases e:y=u
     ·subst e
      exact⟨[],.nil _,by simp,by simp⟩
     ·have n3:=y0r.mp nd2
      obtain⟨q,w',ndq,hs⟩:=ih (by
       rcases y09.mp hy' with h|h
       ·exact absurd h e
       ·exact h) n3.2
      refine⟨v::q,.cons b w',y0r.mpr ⟨fun h=>n3.1 (hs u h),ndq⟩,fun t ht=>?_⟩
      rcases y09.mp ht with rfl|ht
      ·simp
      ·exact y05 _ (hs t ht)
   exact⟨u::q,.cons a w',y0r.mpr ⟨fun h=>nd'.1 (hs x h),ndq⟩⟩
theorem zcg {E:List (Int×Int)} {x:Int} (r:Reach E x):∃p,Walk E 0 p x/\((0:Int)::p).Nodup:=by
 induction r with
 | zero=>exact⟨[],.nil _,by simp⟩
 | @step x y _ a ih =>
  obtain⟨p,w,nd⟩:=ih
  by_cases h:y∈(0:Int)::p
  ·exact zg1 w nd h
  ·refine⟨p++[y],zd5 w a,?_⟩
   rw[<- List.cons_append,y1j]
   refine⟨nd,by simp,fun s hs t ht=>?_⟩
   have:t=y:=by simpa using ht
   subst this
   exact fun e=>h (e▸hs)
theorem ways_iff {E:List (Int×Int)} {room:Int} {n:Nat} {ws:List (List Nat)} (h:waysP E room n [0]=some ws):ws≠[] <-> Reach E room:=by
 constructor
 ·intro hne
  obtain⟨p,w⟩:=z5c (cur:=0) (by simp) h hne
  exact zcb w .zero
 ·intro r
  obtain⟨p,w,nd⟩:=zcg r
  refine z5b w nd (fun y hy hm=>?_) (by simp) h
  have:y=0:=by simpa using hm
  subst this
  exact (y0r.mp nd).1 hy
end Hg
end
section
namespace Ho
open PySem D
abbrev Op:=Int×Int×Option Str
def zT:Option Str->T
 | none=>.none
 | some x=>.str x
def opT (o:Op):T:=.tuple [.int o.1,.int o.2.1,zT o.2.2]
def z04 (R:Int) (os:List Op):T:=.tuple [.int R,.tuple (os.map opT)]
def z0c (ns:List Str):T:=.tuple (ns.map .str)
def free (ns:List Str) (o:Op):Bool:=match o.2.2 with
 | none=>true
 | some x=>decide (x∈ns)
def edge (o:Op):Int×Int:=(o.1,o.2.1)
def oT:Option Int->T
 | some t=>.int t
 | none=>.none
theorem oEq_int (a b:Int):oEq (.int a) (.int b)=some (.bool (decide (a=b))):=by
 simp[oEq,zea,y1w,Bool.beq_eq_decide_eq]
theorem z0d {a b:Fs} {ε ε':Ev} (h:a ε=some (.nx ε')):seq a b ε=b ε':=by
 simp only[seq,h,y0p]
theorem za0 (o:Op) (h:Int):z0x [opT o,.int h]=some (oT (Hg.adj (edge o) h)):=by
 obtain⟨a,b,z⟩:=o
 by_cases h1:a=h
 ·simp[z0x,z5p,opT,runF,seq,iff,tstB,tstL,andT,orT,notT,cstT,ofT,op1,op2,opN,args,cst,nm,nmV,rtn,skip,asg,asgN,asgT,par,z07,z1d,oIsN,z1a,oIx,atZ,ixOf,gNm,gTu,gAll,z0i,comp,z1j,oEq_int,Hg.adj,edge,oT,h1]
 ·by_cases h2:b=h
  ·simp[z0x,z5p,opT,runF,seq,iff,tstB,tstL,andT,orT,notT,cstT,ofT,op1,op2,opN,args,cst,nm,nmV,rtn,skip,asg,asgN,asgT,par,z07,z1d,oIsN,z1a,oIx,atZ,ixOf,gNm,gTu,gAll,z0i,comp,z1j,oEq_int,Hg.adj,edge,oT,h1,h2]
  ·simp[z0x,z5p,opT,runF,seq,iff,tstB,tstL,andT,orT,notT,cstT,ofT,op1,op2,opN,args,cst,nm,nmV,rtn,skip,asg,asgN,asgT,par,z07,z1d,oIsN,z1a,oIx,atZ,ixOf,gNm,gTu,gAll,z0i,comp,z1j,oEq_int,Hg.adj,edge,oT,h1,h2]
def z6p (ns:List Str):Prop:=∀x∈ns,(y1s x).canLay0=true
def zkd (os:List Op):Prop:=∀o∈os,∀x,o.2.2=some x->(y1s x).canLay0=true
theorem z9q {ns:List Str} (hn:z6p ns):∀(os:List Op),zkd os->∀j,z2o (gNm 0) (orT (tstB (op1 oIsN (op2 oIx (nm 0) (cst (.int 2))))) (tstB (op2 (oIn false) (op2 oIx (nm 0) (cst (.int 2))) (nm 1)))) (nmV 0) (os.map opT) [j,some (.imm (z0c ns))]=some ((os.filter (free ns)).map opT)
 | [],_,j=>rfl
 | o::os,ho,j=>by
  obtain⟨a,b,z⟩:=o
  have ih:=z9q hn os (fun o h=>ho o (by simp[h])) (some (.imm (opT (a,b,z))))
  cases z with
  | none =>
   simp[z2o,runF,seq,iff,tstB,tstL,andT,orT,notT,cstT,ofT,op1,op2,opN,args,cst,nm,nmV,rtn,skip,asg,asgN,asgT,par,z07,z1d,oIsN,z1a,oIx,atZ,ixOf,gNm,gTu,gAll,z0i,comp,z1j,opT,zT,free] at ih ⊢
   exact⟨_,ih,rfl⟩
  | some x =>
   have hx:=ho (a,b,some x) (by simp) x rfl
   by_cases hm:x∈ns
   ·simp[z2o,runF,seq,iff,tstB,tstL,andT,orT,notT,cstT,ofT,op1,op2,opN,args,cst,nm,nmV,rtn,skip,asg,asgN,asgT,par,z07,z1d,oIsN,z1a,oIx,atZ,ixOf,gNm,gTu,gAll,z0i,comp,z1j,opT,zT,free,z0c,zeg _ _ _ hx hn,hm] at ih ⊢
    exact ih
   ·simp[z2o,runF,seq,iff,tstB,tstL,andT,orT,notT,cstT,ofT,op1,op2,opN,args,cst,nm,nmV,rtn,skip,asg,asgN,asgT,par,z07,z1d,oIsN,z1a,oIx,atZ,ixOf,gNm,gTu,gAll,z0i,comp,z1j,opT,zT,free,z0c,zeg _ _ _ hx hn,hm] at ih ⊢
    exact ih
def kv (r:List Int):List (Key×T):=r.map fun x=>(Sum.inl x,.bool true)
theorem zas (r:List Int) (t:Int):hasD (kv r) (.inl t)=decide (t∈r):=by
 induction r with
 | nil=>rfl
 | cons a r ih =>
  unfold hasD kv at ih ⊢
  rw[y0d,List.any_cons,ih]
  by_cases e:a=t
  ·simp[e]
  ·have e':¬t=a:=fun z=>e z.symm
   simp[e,e']
theorem zj3 {r:List Int} {t:Int} (h:t∉r):putD (kv r) (.inl t) (.bool true)=kv (r++[t]):=by
 have:=zas r t
 unfold hasD at this
 unfold putD
 rw[this]
 simp[h,kv]
def bIn:Fs:=seq (asg 7 (opN z0x [(nmV 6),(nmV 5)]))
  (iff (andT (tstB (op1 z1a (nm 7))) (tstB (dIn true (nm 7) 3))) (seq (dPut 3 (nm 7) (cst (.bool true)))
  (app 4 (nmV 7))) skip)
def envU (h n u:T) (r w:List Int) (here:Option Sl) (j6 j7:Option Sl):Ev:=[some (.imm h),some (.imm n),some (.imm u),some (.dic (kv r)),some (.own (w.map .int)),here,j6,j7]
theorem zjr (h n u:T) (r w:List Int) (here:Int) (o:Op) (j7:Option Sl) (hr:r.length<16777216) (hw:w.length<16777216) :
  bIn (envU h n u r w (some (.imm (.int here))) (some (.imm (opT o))) j7)=some (.nx (match Hg.adj (edge o) here with
   | some t=>if t∈r then envU h n u r w (some (.imm (.int here))) (some (.imm (opT o))) (some (.imm (.int t))) else envU h n u (r++[t]) (w++[t]) (some (.imm (.int here))) (some (.imm (opT o))) (some (.imm (.int t)))
   | none=>envU h n u r w (some (.imm (.int here))) (some (.imm (opT o))) (some (.imm .none)))):=by
 have hb:=za0 o here
 cases ha:Hg.adj (edge o) here with
 | none =>
  rw[ha] at hb
  simp[bIn,envU,runF,seq,iff,tstB,tstL,andT,orT,notT,cstT,ofT,op1,op2,opN,args,cst,nm,nmV,rtn,skip,asg,asgN,asgT,par,z07,z1d,oIsN,z1a,oIx,atZ,ixOf,gNm,gTu,gAll,z0i,comp,z1j,hb,oT]
 | some t =>
  rw[ha] at hb
  by_cases hm:t∈r
  ·simp[bIn,envU,runF,seq,iff,tstB,tstL,andT,orT,notT,cstT,ofT,op1,op2,opN,args,cst,nm,nmV,rtn,skip,asg,asgN,asgT,par,z07,z1d,oIsN,z1a,oIx,atZ,ixOf,gNm,gTu,gAll,z0i,comp,z1j,hb,oT,dIn,z88,dic?,zas,hm]
  ·have hk:(kv r).length=r.length:=by simp[kv]
   simp[bIn,envU,runF,seq,iff,tstB,tstL,andT,orT,notT,cstT,ofT,op1,op2,opN,args,cst,nm,nmV,rtn,skip,asg,asgN,asgT,par,z07,z1d,oIsN,z1a,oIx,atZ,ixOf,gNm,gTu,gAll,z0i,comp,z1j,hb,oT,dIn,dPut,app,z88,dic?,zas,zj3 hm,hm,hk,hr,hw,big]
theorem zbo (h n u:T) (here:Int):∀(os:List Op) (r w:List Int) (j6 j7:Option Sl),r.length+os.length<16777216->w.length+os.length<16777216 ->
  ∃j6' j7',forL (gNm 6) bIn (os.map opT) (envU h n u r w (some (.imm (.int here))) j6 j7)=some (.nx (envU h n u (Hg.inner here (os.map edge) r w).1 (Hg.inner here (os.map edge) r w).2 (some (.imm (.int here))) j6' j7'))
 | [],r,w,j6,j7,_,_=>⟨j6,j7,rfl⟩
 | o::os,r,w,j6,j7,hr,hw=>by
  simp only[y0w] at hr hw
  have st:=zjr h n u r w here o j7 (by omega) (by omega)
  have e0:gNm 6 (opT o) (envU h n u r w (some (.imm (.int here))) j6 j7)=some (envU h n u r w (some (.imm (.int here))) (some (.imm (opT o))) j7):=rfl
  simp only[y0d,forL,e0,y0p,st,Hg.inner]
  cases ha:Hg.adj (edge o) here with
  | none=>exact zbo h n u here os r w _ _ (by omega) (by omega)
  | some t =>
   by_cases hm:t∈r
   ·simp only[hm,if_true]
    exact zbo h n u here os r w _ _ (by omega) (by omega)
   ·simp only[hm,if_false]
    exact zbo h n u here os (r++[t]) (w++[t]) _ _ (by simp;omega) (by simp;omega)
def bOut:Fs:=seq (pop 5 4)
  (for_ (z0i (nmV 2)) (gNm 6)
  bIn)
theorem z3q (h:Int):∀(E:List (Int×Int)) (r w:List Int),r.length<=(Hg.inner h E r w).1.length/\(Hg.inner h E r w).2.length+r.length=(Hg.inner h E r w).1.length+w.length
 | [],r,w=>⟨y0o _,by simp[Hg.inner];omega⟩
 | e::E,r,w=>by
  unfold Hg.inner
  split
  next t _ =>
   split
   ·exact z3q h E r w
   ·have:=z3q h E (r++[t]) (w++[t])
    simp only[y1x,y0w,y29] at this
    omega
  next=>exact z3q h E r w
theorem zfq {E:List (Int×Int)}:∀(n:Nat) (r w:List Int) (r':List Int),Hg.bfs E n r w=some r'->r.length<=r'.length
 | 0,r,w,r',e=>by cases e
 | n+1,r,w,r',e=>by
  unfold Hg.bfs at e
  split at e
  ·cases e
   exact y0o _
  ·exact y1l (z3q _ E r _).1 (zfq n _ _ r' e)
theorem ze7 (h n:T) (os:List Op) (hl:os.length<=10) (r':List Int) (h8:r'.length<=8):∀(k:Nat) (r w:List Int) (j5 j6 j7:Option Sl),Hg.bfs (os.map edge) k r w=some r'->w.length<=r.length ->
  ∃j5' j6' j7',whl (tstL (nm 4)) bOut k (envU h n (.list (os.map opT)) r w j5 j6 j7)=some (.nx (envU h n (.list (os.map opT)) r' [] j5' j6' j7'))
 | 0,r,w,j5,j6,j7,e,_=>by cases e
 | k+1,r,w,j5,j6,j7,e,hw=>by
  have hr:=zfq _ r w r' e
  unfold Hg.bfs at e
  unfold whl
  cases hw':w.getLast? with
  | none =>
   rw[hw'] at e
   cases e
   have:w=[]:=List.getLast?_eq_none_iff.mp hw'
   subst this
   refine⟨j5,j6,j7,?_⟩
   simp[envU,tstL,nm]
  | some here =>
   rw[hw'] at e
   dsimp only at e
   have hne:w≠[]:=fun z=>by subst z;cases hw'
   have ht:tstL (nm 4) (envU h n (.list (os.map opT)) r w j5 j6 j7)=some true:=by
    simp[envU,tstL,nm,hne]
   have hp:pop 5 4 (envU h n (.list (os.map opT)) r w j5 j6 j7)=some (.nx (envU h n (.list (os.map opT)) r w.dropLast (some (.imm (.int here))) j6 j7)):=by
    have:(w.map PyData.int).getLast?=some (.int here):=by rw[List.getLast?_map,hw'];rfl
    simp[pop,envU,this,List.map_dropLast]
   have hd:w.dropLast.length+1=w.length:=by
    rw[List.length_dropLast]
    have:=List.length_pos_iff.mpr hne
    omega
   obtain⟨j6',j7',hs⟩:=zbo h n (.list (os.map opT)) here os r w.dropLast j6 j7 (by omega) (by omega)
   have hit:z0i (nmV 2) (envU h n (.list (os.map opT)) r w.dropLast (some (.imm (.int here))) j6 j7)=some (os.map opT):=by
    simp[z0i,nmV,envU]
   have hb:bOut (envU h n (.list (os.map opT)) r w j5 j6 j7)=some (.nx (envU h n (.list (os.map opT)) (Hg.inner here (os.map edge) r w.dropLast).1 (Hg.inner here (os.map edge) r w.dropLast).2 (some (.imm (.int here))) j6' j7')):=by
    simp only[bOut,seq,hp,y0p,for_,hit,hs]
   have hln:=z3q here (os.map edge) r w.dropLast
   obtain⟨a,b,c,z⟩:=ze7 h n os hl r' h8 k _ _ (some (.imm (.int here))) j6' j7' e (by omega)
   exact⟨a,b,c,by simp only[ht,y0p,if_true,hb,z]⟩
def z05 (ns:List Str) (os:List Op):List (Int×Int):=(os.filter (free ns)).map edge
theorem zf0 (r:List Int):z47 ((kv r).map fun p=>keyT p.1)=some r:=by
 induction r with
 | nil=>rfl
 | cons a r ih =>
  simp only[kv,y0d,keyT,z47] at ih ⊢
  rw[ih]
  rfl
theorem zd6 {ns:List Str} (hn:z6p ns) {R:Int} {os:List Op} (ho:zkd os) (hl:os.length<=10) {r:List Int} (hb:Hg.bfs (z05 ns os) 1000 [0] [0]=some r) (h8:r.length<=8) :
  z15 [z04 R os,z0c ns]=some (.tuple ((z1p r).map .int)):=by
 have hf:(os.filter (free ns)).length<=10:=y1l (y22 _ _) hl
 obtain⟨j5,j6,j7,hs⟩:=ze7 (z04 R os) (z0c ns) (os.filter (free ns)) hf r h8 1000 [0] [0] none none none hb (by simp)
 have hc:=z9q hn os ho none
 have hcomp:asg 2 (comp 1 [1] (z0i (op2 oIx (nm 0) (cst (.int 1)))) (gNm 0) (orT (tstB (op1 oIsN (op2 oIx (nm 0) (cst (.int 2))))) (tstB (op2 (oIn false) (op2 oIx (nm 0) (cst (.int 2))) (nm 1)))) (nmV 0))
   [some (.imm (z04 R os)),some (.imm (z0c ns)),none,none,none,none,none,none]=some (.nx [some (.imm (z04 R os)),some (.imm (z0c ns)),some (.imm (.list ((os.filter (free ns)).map opT))),none,none,none,none,none]):=by
  have hit:z0i (op2 oIx (nm 0) (cst (.int 1))) [some (.imm (z04 R os)),some (.imm (z0c ns)),none,none,none,none,none,none]=some (os.map opT):=by
   simp[z0i,op2,nm,z04,oIx,cst,atZ,ixOf]
  have hcap:z1j 1 [1] [some (.imm (z04 R os)),some (.imm (z0c ns)),none,none,none,none,none,none]=[none,some (.imm (z0c ns))]:=rfl
  simp only[asg,comp,hit,y0p,hcap,hc,y13]
  rw[if_pos (by unfold big;omega)]
  rfl
 have h2:dNew 3 (cst (.int 0)) (cst (.bool true)) [some (.imm (z04 R os)),some (.imm (z0c ns)),some (.imm (.list ((os.filter (free ns)).map opT))),none,none,none,none,none]=some (.nx [some (.imm (z04 R os)),some (.imm (z0c ns)),some (.imm (.list ((os.filter (free ns)).map opT))),some (.dic (kv [0])),none,none,none,none]):=rfl
 have h3:asgN 4 (z1d [(cst (.int 0))]) [some (.imm (z04 R os)),some (.imm (z0c ns)),some (.imm (.list ((os.filter (free ns)).map opT))),some (.dic (kv [0])),none,none,none,none]=some (.nx (envU (z04 R os) (z0c ns) (.list ((os.filter (free ns)).map opT)) [0] [0] none none none)):=by
  simp[asgN,z1d,args,cst,big,envU]
 have h4:rtn (opN z3f [(z6f 3)]) (envU (z04 R os) (z0c ns) (.list ((os.filter (free ns)).map opT)) r [] j5 j6 j7)=some (.rt (.tuple ((z1p r).map .int))):=by
  have hk:(kv r).length=r.length:=by simp[kv]
  have hdc:dic? 3 (envU (z04 R os) (z0c ns) (.list ((os.filter (free ns)).map opT)) r [] j5 j6 j7)=some (kv r):=rfl
  simp only[rtn,opN,args,z6f,hdc,y0p,hk]
  rw[if_pos (by omega),zf0]
  simp[z3f]
 have e0:z15 [z04 R os,z0c ns]=(z8j [some (.imm (z04 R os)),some (.imm (z0c ns)),none,none,none,none,none,none]).bind fun o=>match o with|.rt t=>some t|.nx _=>some .none|_=>none:=rfl
 rw[e0]
 have hs2:whl (tstL (nm 4)) (seq (pop 5 4)
  (for_ (z0i (nmV 2)) (gNm 6)
  (seq (asg 7 (opN z0x [(nmV 6),(nmV 5)]))
  (iff (andT (tstB (op1 z1a (nm 7))) (tstB (dIn true (nm 7) 3))) (seq (dPut 3 (nm 7) (cst (.bool true)))
  (app 4 (nmV 7))) skip)))) 1000 (envU (z04 R os) (z0c ns) (.list ((os.filter (free ns)).map opT)) [0] [0] none none none)=some (.nx (envU (z04 R os) (z0c ns) (.list ((os.filter (free ns)).map opT)) r [] j5 j6 j7)):=hs
 unfold z8j
 rw[z0d hcomp,z0d h2,z0d h3,z0d hs2,h4]
 rfl
end Ho
end
section
namespace Ho
open PySem D
def wT (w:List Nat):T:=.tuple (w.map fun (k:Nat)=>PyData.int (k:Int))
noncomputable def bW (rec:List T->Option T):Fs:=(seq (asg 6 (opN z0x [(nmV 5),(op2 oIx (nm 2) (op1 oNeg (cst (.int 1))))]))
  (iff (andT (tstB (op1 z1a (nm 6))) (tstB (op2 (oIn true) (nm 6) (nm 2)))) (ext 3 (comp 1 [4] (z0i (opN rec [(nmV 0),(nmV 1),(op2 oAdd (nm 2) (z07 [(nmV 6)]))])) (gNm 0) (cstT true) (op2 oAdd (z07 [(nmV 1)]) (nm 0)))) skip))
noncomputable def envW (h:T) (room:Int) (pl:List Int) (acc:List (List Nat)) (j4 j5 j6:Option Sl):Ev:=[some (.imm h),some (.imm (.int room)),some (.imm (.tuple (pl.map .int))),some (.own (acc.map wT)),j4,j5,j6]
theorem zc4 (k:Nat):∀(ws:List (List Nat)) (j:Option Sl),(∀w∈ws,w.length<=100)->z2o (gNm 0) (cstT true) (op2 oAdd (z07 [(nmV 1)]) (nm 0)) (ws.map wT) [j,some (.imm (.int k))]=some ((ws.map fun w=>k::w).map wT)
 | [],j,_=>rfl
 | w::ws,j,h=>by
  have ih:=zc4 k ws (some (.imm (wT w))) fun w hw=>h w (by simp[hw])
  have hw:=h w (by simp)
  have e1:op2 oAdd (z07 [(nmV 1)]) (nm 0) [some (.imm (wT w)),some (.imm (.int k))]=some (wT (k::w)):=by
   have:1+w.length<=16777216:=by omega
   simp[op2,z07,args,nmV,nm,big,wT,oAdd,this]
  have e0:gNm 0 (wT w) [j,some (.imm (.int k))]=some [some (.imm (wT w)),some (.imm (.int k))]:=rfl
  simp only[y0d,z2o,e0,y0p,cstT,if_true,e1,ih,y1m]
theorem zen {pl:List Int} {h:Int} (hp:pl.getLast?=some h):atZ (pl.map PyData.int) (-1)=some (.int h):=by
 have hne:pl≠[]:=fun z=>by subst z;cases hp
 have hl:=List.length_pos_iff.mpr hne
 have hx:ixOf (pl.map PyData.int).length (-1)=some (pl.length - 1):=by
  unfold ixOf
  rw[if_neg (by decide),y13,if_pos (by omega)]
  congr 1
  omega
 unfold atZ
 rw[hx]
 simp only[y0p,y14]
 rw[<- List.getLast?_eq_getElem?,hp]
 rfl
theorem zkg {rec:List T->Option T} {recP:List Int->Option (List (List Nat))} (hT:T) (room:Int) (pl:List Int) (h:Int) (hp:pl.getLast?=some h) (hpl:pl.length<=100)
  (o:Op) (k:Nat) (acc:List (List Nat)) (j6:Option Sl) (vs:List (List Nat))
  (hv:(match Hg.adj (edge o) h with|some t=>if t∈pl then some [] else (recP (pl++[t])).map fun ws=>ws.map fun w=>k::w|none=>some [])=some vs)
  (hr:∀t ws,t∉pl->recP (pl++[t])=some ws->ws.length<=vs.length->rec [hT,.int room,.tuple ((pl++[t]).map .int)]=some (.list (ws.map wT))/\∀w∈ws,w.length<=100) (hz:acc.length+vs.length<=16777216) :
  ∃j6',bW rec (envW hT room pl acc (some (.imm (.int k))) (some (.imm (opT o))) j6)=some (.nx (envW hT room pl (acc++vs) (some (.imm (.int k))) (some (.imm (opT o))) j6')):=by
 have hb:=za0 o h
 have hi:=zen hp
 have e1:opN z0x [(nmV 5),(op2 oIx (nm 2) (op1 oNeg (cst (.int 1))))] (envW hT room pl acc (some (.imm (.int k))) (some (.imm (opT o))) j6)=some (oT (Hg.adj (edge o) h)):=by
  have:op2 oIx (nm 2) (op1 oNeg (cst (.int 1))) (envW hT room pl acc (some (.imm (.int k))) (some (.imm (opT o))) j6)=some (.int h):=by
   simp only[op2,nm,envW,y27,y26,y0p,op1,cst,oNeg,oIx]
   exact hi
  have n5:nmV 5 (envW hT room pl acc (some (.imm (.int k))) (some (.imm (opT o))) j6)=some (opT o):=rfl
  simp only[opN,args,this,n5,y0p,y1m]
  exact hb
 have e2:asg 6 (opN z0x [(nmV 5),(op2 oIx (nm 2) (op1 oNeg (cst (.int 1))))]) (envW hT room pl acc (some (.imm (.int k))) (some (.imm (opT o))) j6)=some (.nx (envW hT room pl acc (some (.imm (.int k))) (some (.imm (opT o))) (some (.imm (oT (Hg.adj (edge o) h)))))):=by
  simp only[asg,e1,y1m]
  rfl
 refine⟨some (.imm (oT (Hg.adj (edge o) h))),?_⟩
 unfold bW
 rw[z0d e2]
 cases ha:Hg.adj (edge o) h with
 | none =>
  rw[ha] at hv
  cases hv
  simp[iff,andT,tstB,op1,z1a,nm,envW,oT,skip]
 | some t =>
  rw[ha] at hv
  by_cases hm:t∈pl
  ·simp only[hm,if_true] at hv
   cases hv
   simp[iff,andT,tstB,op1,op2,z1a,nm,envW,oT,skip,zao,hm]
  ·simp only[hm,if_false,y07] at hv
   obtain⟨ws,hws,rfl⟩:=hv
   simp only[y13] at hz hr
   obtain⟨h1,h2⟩:=hr t ws hm hws (y0o _)
   have c1:andT (tstB (op1 z1a (nm 6))) (tstB (op2 (oIn true) (nm 6) (nm 2))) (envW hT room pl acc (some (.imm (.int k))) (some (.imm (opT o))) (some (.imm (oT (some t)))))=some true:=by
    simp[andT,tstB,op1,op2,z1a,nm,envW,oT,zao,hm]
   have a1:op2 oAdd (nm 2) (z07 [(nmV 6)]) (envW hT room pl acc (some (.imm (.int k))) (some (.imm (opT o))) (some (.imm (oT (some t)))))=some (.tuple ((pl++[t]).map .int)):=by
    have:pl.length+1<=16777216:=by omega
    simp[op2,nm,nmV,envW,z07,args,big,oT,oAdd,this]
   have it1:z0i (opN rec [(nmV 0),(nmV 1),(op2 oAdd (nm 2) (z07 [(nmV 6)]))]) (envW hT room pl acc (some (.imm (.int k))) (some (.imm (opT o))) (some (.imm (oT (some t)))))=some (ws.map wT):=by
    have n0:nmV 0 (envW hT room pl acc (some (.imm (.int k))) (some (.imm (opT o))) (some (.imm (oT (some t)))))=some hT:=rfl
    have n1:nmV 1 (envW hT room pl acc (some (.imm (.int k))) (some (.imm (opT o))) (some (.imm (oT (some t)))))=some (.int room):=rfl
    simp only[z0i,opN,args,a1,n0,n1,y0p,y1m,h1]
   have cp:comp 1 [4] (z0i (opN rec [(nmV 0),(nmV 1),(op2 oAdd (nm 2) (z07 [(nmV 6)]))])) (gNm 0) (cstT true) (op2 oAdd (z07 [(nmV 1)]) (nm 0)) (envW hT room pl acc (some (.imm (.int k))) (some (.imm (opT o))) (some (.imm (oT (some t)))))=some (.list ((ws.map fun w=>k::w).map wT)):=by
    simp only[comp,it1,y0p,y13]
    rw[if_pos (by unfold big;omega)]
    have:z1j 1 [4] (envW hT room pl acc (some (.imm (.int k))) (some (.imm (opT o))) (some (.imm (oT (some t)))))=[none,some (.imm (.int k))]:=rfl
    rw[this,zc4 k ws none h2]
    rfl
   simp only[iff,c1,y0p,if_true,ext,cp]
   simp only[envW,y27,y26,y13]
   rw[if_pos (by unfold big;omega)]
   simp
theorem zf7 {rec:List T->Option T} {recP:List Int->Option (List (List Nat))} (hT:T) (room:Int) (pl:List Int) (h:Int) (hp:pl.getLast?=some h) (hpl:pl.length<=100) (N:Nat) (hN:N<=16777216)
  (hr:∀t ws,t∉pl->recP (pl++[t])=some ws->ws.length<=N->rec [hT,.int room,.tuple ((pl++[t]).map .int)]=some (.list (ws.map wT))/\∀w∈ws,w.length<=100) :
  ∀(os:List Op) (k:Nat) (acc vs:List (List Nat)) (j4 j5 j6:Option Sl),Hg.exts recP pl h k (os.map edge)=some vs->acc.length+vs.length<=N ->
   ∃j4' j5' j6',forL (gTu [(gNm 4),(gNm 5)]) (bW rec) (((os.map opT).zipIdx k).map fun p=>.tuple [.int p.2,p.1]) (envW hT room pl acc j4 j5 j6)=some (.nx (envW hT room pl (acc++vs) j4' j5' j6'))
 | [],k,acc,vs,j4,j5,j6,e,_=>by
  cases e
  exact⟨j4,j5,j6,by simp[forL]⟩
 | o::os,k,acc,vs,j4,j5,j6,e,hz=>by
  have key:∃v1 v2,(match Hg.adj (edge o) h with|some t=>if t∈pl then some [] else (recP (pl++[t])).map fun ws=>ws.map fun w=>k::w|none=>some [])=some v1/\Hg.exts recP pl h (k+1) (os.map edge)=some v2/\vs=v1++v2:=by
   rw[y0d] at e
   unfold Hg.exts at e
   cases ha:Hg.adj (edge o) h with
   | none =>
    rw[ha] at e
    exact⟨[],vs,rfl,e,rfl⟩
   | some t =>
    rw[ha] at e
    by_cases hm:t∈pl
    ·simp only[hm,if_true] at e ⊢
     exact⟨[],vs,rfl,e,rfl⟩
    ·simp only[hm,if_false,y01,y07] at e ⊢
     obtain⟨ws,h1,v2,h2,rfl⟩:=e
     exact⟨_,v2,⟨ws,h1,rfl⟩,h2,rfl⟩
  obtain⟨v1,v2,h1,h2,rfl⟩:=key
  rw[y1x] at hz
  obtain⟨j6',hs⟩:=zkg (rec:=rec) (recP:=recP) hT room pl h hp hpl o k acc j6 v1 h1 (fun t ws a b c=>hr t ws a b (by omega)) (by omega)
  obtain⟨a,b,c,ih⟩:=zf7 (rec:=rec) (recP:=recP) hT room pl h hp hpl N hN hr os (k+1) (acc++v1) v2 (some (.imm (.int k))) (some (.imm (opT o))) j6' h2 (by rw[y1x];omega)
  refine⟨a,b,c,?_⟩
  have e0:gTu [(gNm 4),(gNm 5)] (.tuple [.int k,opT o]) (envW hT room pl acc j4 j5 j6)=some (envW hT room pl acc (some (.imm (.int k))) (some (.imm (opT o))) j6):=rfl
  rw[y0d,List.zipIdx_cons,y0d]
  simp only[forL,e0,y0p,hs]
  rw[ih,List.append_assoc]
theorem z8l {E:List (Int×Int)} {room:Int}:∀(n:Nat) (pl:List Int) (ws:List (List Nat)),Hg.waysP E room n pl=some ws->∀w∈ws,w.length<=n:=by
 have ex:∀(n:Nat) (rec:List Int->Option (List (List Nat))) (pl:List Int) (h:Int),(∀q ws,rec q=some ws->∀w∈ws,w.length<=n)->∀(E:List (Int×Int)) (k:Nat) (ws:List (List Nat)),Hg.exts rec pl h k E=some ws->∀w∈ws,w.length<=n+1:=by
  intro n rec pl h hr E
  induction E with
  | nil =>
   intro k ws e w hw
   cases e
   cases hw
  | cons e0 E ih =>
   intro k ws e w hw
   unfold Hg.exts at e
   split at e
   ·split at e
    ·exact ih _ _ e w hw
    ·simp only[y01,y07] at e
     obtain⟨us,h1,v2,h2,rfl⟩:=e
     rcases y10.mp hw with q|q
     ·obtain⟨u,hu,rfl⟩:=y0m.mp q
      have:=hr _ _ h1 u hu
      simp
      omega
     ·exact ih _ _ h2 w q
   ·exact ih _ _ e w hw
 intro n
 induction n with
 | zero =>
  intro pl ws e
  cases e
 | succ n ih =>
  intro pl ws e w hw
  unfold Hg.waysP at e
  split at e
  ·cases e
  ·split at e
   ·cases e
    simp at hw
    subst hw
    simp
   ·exact ex n _ _ _ (fun q ws e=>ih q ws e) _ _ _ e w hw
theorem z6z {R:Int} {os:List Op} {room:Int}:∀(n:Nat) (pl:List Int) (ws:List (List Nat)),n+pl.length<=90->Hg.waysP (os.map edge) room n pl=some ws->ws.length<=16777216 ->
  z1e n [z04 R os,.int room,.tuple (pl.map .int)]=some (.list (ws.map wT))
 | 0,pl,ws,hn,e,_=>by cases e
 | n+1,pl,ws,hn,e,hz=>by
  have e0:z1e (n+1) [z04 R os,.int room,.tuple (pl.map .int)]=(z51 (z1e n) [some (.imm (z04 R os)),some (.imm (.int room)),some (.imm (.tuple (pl.map .int))),none,none,none,none]).bind fun o=>match o with|.rt t=>some t|.nx _=>some .none|_=>none:=rfl
  rw[e0]
  unfold Hg.waysP at e
  cases hp:pl.getLast? with
  | none =>
   rw[hp] at e
   cases e
  | some h =>
   rw[hp] at e
   dsimp only at e
   have hi:=zen hp
   have c0:tstB (op2 oEq (op2 oIx (nm 2) (op1 oNeg (cst (.int 1)))) (nm 1)) [some (.imm (z04 R os)),some (.imm (.int room)),some (.imm (.tuple (pl.map .int))),none,none,none,none]=some (decide (h=room)):=by
    simp only[tstB,op2,nm,y27,y26,y0p,op1,cst,oNeg,oIx,hi,oEq_int]
   unfold z51
   by_cases hr:h=room
   ·rw[if_pos hr] at e
    cases e
    simp only[seq,iff,c0,hr,y0p,decide_true,if_true,rtn,z1d,z07,args,y1m]
    simp[big,wT]
   ·rw[if_neg hr] at e
    have s1:iff (tstB (op2 oEq (op2 oIx (nm 2) (op1 oNeg (cst (.int 1)))) (nm 1))) (rtn (z1d [(z07 [])])) skip [some (.imm (z04 R os)),some (.imm (.int room)),some (.imm (.tuple (pl.map .int))),none,none,none,none]=some (.nx [some (.imm (z04 R os)),some (.imm (.int room)),some (.imm (.tuple (pl.map .int))),none,none,none,none]):=by
     simp only[iff,c0,hr,y0p,decide_false,y1p,if_false,skip]
    have s2:asgN 3 (z1d []) [some (.imm (z04 R os)),some (.imm (.int room)),some (.imm (.tuple (pl.map .int))),none,none,none,none]=some (.nx (envW (z04 R os) room pl [] none none none)):=by
     simp[asgN,z1d,args,big,envW]
    obtain⟨a,b,c,hs⟩:=zf7 (rec:=z1e n) (recP:=Hg.waysP (os.map edge) room n) (z04 R os) room pl h hp (by omega) ws.length hz
     (fun t ws' _ h2 h3=>⟨z6z n (pl++[t]) ws' (by simp;omega) h2 (by omega),fun w hw=>y1l (z8l n _ _ h2 w hw) (by omega)⟩) os 0 [] ws none none none e (by simp)
    have it:z24 (z6v (op2 oIx (nm 0) (cst (.int 1)))) (envW (z04 R os) room pl [] none none none)=some (((os.map opT).zipIdx 0).map fun p=>.tuple [.int p.2,p.1]):=by
     simp[z24,z6v,op2,nm,envW,z04,cst,oIx,atZ,ixOf,enum]
    have s3:for_ (z24 (z6v (op2 oIx (nm 0) (cst (.int 1))))) (gTu [(gNm 4),(gNm 5)]) (bW (z1e n)) (envW (z04 R os) room pl [] none none none)=some (.nx (envW (z04 R os) room pl ws a b c)):=by
     simp only[for_,it,y0p]
     exact hs
    rw[z0d s1,z0d s2]
    have s4:seq (for_ (z24 (z6v (op2 oIx (nm 0) (cst (.int 1))))) (gTu [(gNm 4),(gNm 5)]) (bW (z1e n))) (rtn (nm 3)) (envW (z04 R os) room pl [] none none none)=some (.rt (.list (ws.map wT))):=by
     rw[z0d s3]
     simp[rtn,nm,envW]
    have s5:=congrArg (fun x:Option Out=>x.bind fun o=>match o with|.rt t=>some t|.nx _=>some .none|_=>none) s4
    exact s5
theorem zio {R:Int} {os:List Op} {room:Int} {ws:List (List Nat)} (h:Hg.waysP (os.map edge) room 20 [0]=some ws) (hz:ws.length<=16777216):z0n [z04 R os,.int room]=some (.tuple (ws.map wT)):=by
 have h1:=z6z (R:=R) 20 [0] ws (by decide) h hz
 have e0:z0n [z04 R os,.int room]=(zfv [some (.imm (z04 R os)),some (.imm (.int room))]).bind fun o=>match o with|.rt t=>some t|.nx _=>some .none|_=>none:=rfl
 rw[e0]
 have a1:args [(nmV 0),(nmV 1),(z07 [(cst (.int 0))])] [some (.imm (z04 R os)),some (.imm (.int room))]=some [z04 R os,.int room,.tuple ([0].map .int)]:=by
  simp[args,nmV,z07,cst,big]
 simp only[zfv,rtn,opN,args] at a1 ⊢
 rw[a1]
 simp only[y0p,h1,y1m,z3f]
end Ho
end
section
namespace Ho
open PySem D
def scriptT (ns:List Int):T:=.list (ns.map .int)
theorem zk6 (ns:List Int) (k:Nat):z1i [scriptT ns,.int k]=some (.int (ns.getD k 0)):=by
 by_cases h:k<ns.length
 ·have h':(k:Int)<(ns.length:Int):=by omega
  simp[z1i,z4o,scriptT,runF,seq,iff,tstB,tstL,andT,orT,notT,cstT,ofT,op1,op2,opN,args,cst,nm,nmV,rtn,skip,asg,asgN,asgT,par,z07,z1d,oIsN,z1a,oIx,atZ,ixOf,gNm,gTu,gAll,z0i,comp,z1j,oAdd,oSub,oMul,oDiv,oMod,oNeg,oLen,oMin,oMax,z3f,zlv,oInt,oLt,oLe,oGt,oGe,big,h,h',List.getD]
 ·have h':¬(k:Int)<(ns.length:Int):=by omega
  simp[z1i,z4o,scriptT,runF,seq,iff,tstB,tstL,andT,orT,notT,cstT,ofT,op1,op2,opN,args,cst,nm,nmV,rtn,skip,asg,asgN,asgT,par,z07,z1d,oIsN,z1a,oIx,atZ,ixOf,gNm,gTu,gAll,z0i,comp,z1j,oAdd,oSub,oMul,oDiv,oMod,oNeg,oLen,oMin,oMax,z3f,zlv,oInt,oLt,oLe,oGt,oGe,big,h,h',List.getD]
theorem z5x {i j:Int} (h:-(2 ^ 64)<j/\j<2 ^ 64):oMul (.int i) (.int j)=some (.int (i*j)):=by
 unfold oMul zgy
 simp only[decide_eq_true h.1,decide_eq_true h.2,Bool.and_self,Bool.or_true,if_true]
theorem z45 {i j:Int} (h:0<j):oMod (.int i) (.int j)=some (.int (i % j)):=if_pos h
theorem zbz {i j:Int} (h:0<j/\j<1073741824):oDiv (.int i) (.int j)=some (.int (i / j)):=if_pos h
theorem z5f {i j:Int}:oAdd (.int i) (.int j)=some (.int (i+j)):=rfl
theorem zh0 (ns:List Int) (k:Nat):∃m:Int,0<=m/\z20 [scriptT ns,.int k]=some (.int m):=by
 have hc:=zk6 ns k
 have hd:0<=(ns.getD k 0+7919*(k:Int)+1)*48271 % 2147483647/\(ns.getD k 0+7919*(k:Int)+1)*48271 % 2147483647<2147483647:=⟨y2a _ (by decide),y2b _ (by decide)⟩
 generalize hx:(ns.getD k 0+7919*(k:Int)+1)*48271 % 2147483647=d at hd
 refine⟨(d*d+7*d+k) % 2147483629,y2a _ (by decide),?_⟩
 have e0:z20 [scriptT ns,.int k]=(z6m [some (.imm (scriptT ns)),some (.imm (.int k)),none]).bind fun o=>match o with|.rt t=>some t|.nx _=>some .none|_=>none:=rfl
 have m1:oMul (.int 7919) (.int k)=some (.int (7919*k)):=by
  unfold oMul zgy
  simp
 have n0:nmV 0 [some (.imm (scriptT ns)),some (.imm (.int k)),none]=some (scriptT ns):=rfl
 have n1:nmV 1 [some (.imm (scriptT ns)),some (.imm (.int k)),none]=some (.int k):=rfl
 have n1':nm 1 [some (.imm (scriptT ns)),some (.imm (.int k)),none]=some (.int k):=rfl
 have s1:asg 2 (op2 oMod (op2 oMul (op2 oAdd (op2 oAdd (opN z1i [(nmV 0),(nmV 1)]) (op2 oMul (cst (.int 7919)) (nm 1))) (cst (.int 1))) (cst (.int 48271))) (cst (.int 2147483647))) [some (.imm (scriptT ns)),some (.imm (.int k)),none]=some (.nx [some (.imm (scriptT ns)),some (.imm (.int k)),some (.imm (.int d))]):=by
  simp only[asg,op2,opN,args,n0,n1,n1',y0p,y1m,hc,cst,m1,z5f,z5x (i:=ns.getD k 0+7919*(k:Int)+1) (j:=48271) (by decide),z45 (j:=2147483647) (by decide),hx]
  rfl
 have m2:oMul (.int d) (.int d)=some (.int (d*d)):=z5x (by omega)
 have m3:oMul (.int 7) (.int d)=some (.int (7*d)):=z5x (by omega)
 rw[e0]
 unfold z6m
 rw[z0d s1]
 have q2:nm 2 [some (.imm (scriptT ns)),some (.imm (.int k)),some (.imm (.int d))]=some (.int d):=rfl
 have q1:nm 1 [some (.imm (scriptT ns)),some (.imm (.int k)),some (.imm (.int d))]=some (.int k):=rfl
 simp only[rtn,op2,q2,q1,y0p,y1m,cst,m2,m3,z5f,z45 (j:=2147483629) (by decide)]
theorem zhh (n k:Int) (hk:-(2 ^ 64)<k/\k<2 ^ 64):∃m:Int,0<=m/\z2m [.int n,.int k]=some (.int m):=by
 have hd:0<=(n+104729*k+17)*69621 % 2147483647/\(n+104729*k+17)*69621 % 2147483647<2147483647:=⟨y2a _ (by decide),y2b _ (by decide)⟩
 generalize hx:(n+104729*k+17)*69621 % 2147483647=d at hd
 refine⟨(d*d+3*d+k) % 2147483629,y2a _ (by decide),?_⟩
 have e0:z2m [.int n,.int k]=(z6o [some (.imm (.int n)),some (.imm (.int k)),none]).bind fun o=>match o with|.rt t=>some t|.nx _=>some .none|_=>none:=rfl
 have m1:oMul (.int 104729) (.int k)=some (.int (104729*k)):=z5x hk
 have n0:nm 0 [some (.imm (.int n)),some (.imm (.int k)),none]=some (.int n):=rfl
 have n1:nm 1 [some (.imm (.int n)),some (.imm (.int k)),none]=some (.int k):=rfl
 have s1:asg 2 (op2 oMod (op2 oMul (op2 oAdd (op2 oAdd (nm 0) (op2 oMul (cst (.int 104729)) (nm 1))) (cst (.int 17))) (cst (.int 69621))) (cst (.int 2147483647))) [some (.imm (.int n)),some (.imm (.int k)),none]=some (.nx [some (.imm (.int n)),some (.imm (.int k)),some (.imm (.int d))]):=by
  simp only[asg,op2,n0,n1,y0p,y1m,cst,m1,z5f,z5x (i:=n+104729*k+17) (j:=69621) (by decide),z45 (j:=2147483647) (by decide),hx]
  rfl
 have m2:oMul (.int d) (.int d)=some (.int (d*d)):=z5x (by omega)
 have m3:oMul (.int 3) (.int d)=some (.int (3*d)):=z5x (by omega)
 rw[e0]
 unfold z6o
 rw[z0d s1]
 have q2:nm 2 [some (.imm (.int n)),some (.imm (.int k)),some (.imm (.int d))]=some (.int d):=rfl
 have q1:nm 1 [some (.imm (.int n)),some (.imm (.int k)),some (.imm (.int d))]=some (.int k):=rfl
 simp only[rtn,op2,q2,q1,y0p,y1m,cst,m2,m3,z5f,z45 (j:=2147483629) (by decide)]
def z5e:List Str:=["a","b","back","hall","win"]
def OpOk (R:Int) (o:Op):Prop:=0<=o.1/\o.1<o.2.1/\o.2.1<=R/\∀x,o.2.2=some x->x∈z5e
structure Drawn (R:Int) (os:List Op):Prop where
 r1:1<=R
 r7:R<=7
 len:os.length<=10
 ok:∀o∈os,OpOk R o
noncomputable def bH:Fs:=(seq (asg 4 (op2 oDiv (opN z2m [(nmV 0),(op2 oAdd (cst (.int 50)) (nm 3))]) (cst (.int 4))))
  (seq (asg 5 (op2 oMod (nm 4) (op2 oAdd (nm 1) (cst (.int 1)))))
  (seq (asg 6 (op2 oMod (op2 oAdd (op2 oAdd (nm 5) (cst (.int 1))) (op2 oMod (op2 oDiv (nm 4) (cst (.int 8))) (nm 1))) (op2 oAdd (nm 1) (cst (.int 1)))))
  (seq (asg 7 (op2 oIx (z07 [(cst .none),(cst .none),(cst (.str "a")),(cst (.str "b")),(cst (.str "back")),(cst (.str "hall")),(cst (.str "win"))]) (op2 oMod (op2 oDiv (nm 4) (cst (.int 64))) (cst (.int 7)))))
  (asg 2 (op2 oAdd (nm 2) (z07 [(z07 [(opN oMin [(nm 5),(nm 6)]),(opN oMax [(nm 5),(nm 6)]),(nmV 7)])])))))))
def envH (n R:Int) (os:List Op) (j3 j4 j5 j6 j7:Option Sl):Ev:=[some (.imm (.int n)),some (.imm (.int R)),some (.imm (.tuple (os.map opT))),j3,j4,j5,j6,j7]
theorem zim (i:Int) (h0:0<=i) (h7:i<7) (ε:Ev):∃z:Option Str,(z07 [(cst .none),(cst .none),(cst (.str "a")),(cst (.str "b")),(cst (.str "back")),(cst (.str "hall")),(cst (.str "win"))] ε).bind (fun t=>oIx t (.int i))=some (zT z)/\∀x,z=some x->x∈z5e:=by
 have hc:i=0\/i=1\/i=2\/i=3\/i=4\/i=5\/i=6:=by omega
 have e:z07 [(cst .none),(cst .none),(cst (.str "a")),(cst (.str "b")),(cst (.str "back")),(cst (.str "hall")),(cst (.str "win"))] ε=some (.tuple [.none,.none,.str "a",.str "b",.str "back",.str "hall",.str "win"]):=by
  simp[z07,args,cst,big]
 rw[e]
 rcases hc with rfl|rfl|rfl|rfl|rfl|rfl|rfl
 ·exact⟨none,rfl,fun x h=>by cases h⟩
 ·exact⟨none,rfl,fun x h=>by cases h⟩
 ·exact⟨some "a",rfl,fun x h=>by cases h;simp[z5e]⟩
 ·exact⟨some "b",rfl,fun x h=>by cases h;simp[z5e]⟩
 ·exact⟨some "back",rfl,fun x h=>by cases h;simp[z5e]⟩
 ·exact⟨some "hall",rfl,fun x h=>by cases h;simp[z5e]⟩
 ·exact⟨some "win",rfl,fun x h=>by cases h;simp[z5e]⟩
theorem zcr (n R:Int) (h1:1<=R) (h7:R<=7) (os:List Op) (hl:os.length<1000) (k:Int) (hk:0<=k/\k<1000) (j4 j5 j6 j7:Option Sl) :
  ∃o j4' j5' j6' j7',OpOk R o/\bH (envH n R os (some (.imm (.int k))) j4 j5 j6 j7)=some (.nx (envH n R (os++[o]) (some (.imm (.int k))) j4' j5' j6' j7')):=by
 obtain⟨m,hm,hd⟩:=zhh n (50+k) (by omega)
 have q0:0<=m / 4:=Int.ediv_nonneg hm (by decide)
 generalize hq:m / 4=q at q0
 have s1:asg 4 (op2 oDiv (opN z2m [(nmV 0),(op2 oAdd (cst (.int 50)) (nm 3))]) (cst (.int 4))) (envH n R os (some (.imm (.int k))) j4 j5 j6 j7)=some (.nx (envH n R os (some (.imm (.int k))) (some (.imm (.int q))) j5 j6 j7)):=by
  have n0:nmV 0 (envH n R os (some (.imm (.int k))) j4 j5 j6 j7)=some (.int n):=rfl
  have n3:nm 3 (envH n R os (some (.imm (.int k))) j4 j5 j6 j7)=some (.int k):=rfl
  simp only[asg,op2,opN,args,n0,n3,cst,z5f,y0p,y1m,hd,zbz (j:=4) (by decide),hq]
  rfl
 have hone:0<=q % (R+1)/\q % (R+1)<R+1:=⟨y2a _ (by omega),y2b _ (by omega)⟩
 have hother:0<=q / 8 % R/\q / 8 % R<R:=⟨y2a _ (by omega),y2b _ (by omega)⟩
 have hneq:(q % (R+1)+1+q / 8 % R) % (R+1)≠q % (R+1):=by
  generalize q % (R+1)=a at *
  generalize q / 8 % R=b at *
  intro e
  by_cases c:a+1+b<R+1
  ·rw[Int.emod_eq_of_lt (by omega) c] at e
   omega
  ·have:(a+1+b) % (R+1)=a+1+b - (R+1):=by
    rw[<- Int.sub_emod_right,Int.emod_eq_of_lt (by omega) (by omega)]
   omega
 have hoth:0<=(q % (R+1)+1+q / 8 % R) % (R+1)/\(q % (R+1)+1+q / 8 % R) % (R+1)<R+1:=⟨y2a _ (by omega),y2b _ (by omega)⟩
 have s2:asg 5 (op2 oMod (nm 4) (op2 oAdd (nm 1) (cst (.int 1)))) (envH n R os (some (.imm (.int k))) (some (.imm (.int q))) j5 j6 j7)=some (.nx (envH n R os (some (.imm (.int k))) (some (.imm (.int q))) (some (.imm (.int (q % (R+1))))) j6 j7)):=by
  have n4:nm 4 (envH n R os (some (.imm (.int k))) (some (.imm (.int q))) j5 j6 j7)=some (.int q):=rfl
  have n1:nm 1 (envH n R os (some (.imm (.int k))) (some (.imm (.int q))) j5 j6 j7)=some (.int R):=rfl
  simp only[asg,op2,n4,n1,cst,z5f,y0p,y1m,z45 (j:=R+1) (by omega)]
  rfl
 generalize q % (R+1)=one at *
 have s3:asg 6 (op2 oMod (op2 oAdd (op2 oAdd (nm 5) (cst (.int 1))) (op2 oMod (op2 oDiv (nm 4) (cst (.int 8))) (nm 1))) (op2 oAdd (nm 1) (cst (.int 1)))) (envH n R os (some (.imm (.int k))) (some (.imm (.int q))) (some (.imm (.int one))) j6 j7)=some (.nx (envH n R os (some (.imm (.int k))) (some (.imm (.int q))) (some (.imm (.int one))) (some (.imm (.int ((one+1+q / 8 % R) % (R+1))))) j7)):=by
  have n5:nm 5 (envH n R os (some (.imm (.int k))) (some (.imm (.int q))) (some (.imm (.int one))) j6 j7)=some (.int one):=rfl
  have n4:nm 4 (envH n R os (some (.imm (.int k))) (some (.imm (.int q))) (some (.imm (.int one))) j6 j7)=some (.int q):=rfl
  have n1:nm 1 (envH n R os (some (.imm (.int k))) (some (.imm (.int q))) (some (.imm (.int one))) j6 j7)=some (.int R):=rfl
  simp only[asg,op2,n5,n4,n1,cst,z5f,y0p,y1m,zbz (j:=8) (by decide),z45 (j:=R) (by omega),z45 (j:=R+1) (by omega)]
  rfl
 generalize (one+1+q / 8 % R) % (R+1)=oth at *
 obtain⟨z,hz,hzn⟩:=zim (q / 64 % 7) (y2a _ (by decide)) (y2b _ (by decide)) (envH n R os (some (.imm (.int k))) (some (.imm (.int q))) (some (.imm (.int one))) (some (.imm (.int oth))) j7)
 have s4:asg 7 (op2 oIx (z07 [(cst .none),(cst .none),(cst (.str "a")),(cst (.str "b")),(cst (.str "back")),(cst (.str "hall")),(cst (.str "win"))]) (op2 oMod (op2 oDiv (nm 4) (cst (.int 64))) (cst (.int 7)))) (envH n R os (some (.imm (.int k))) (some (.imm (.int q))) (some (.imm (.int one))) (some (.imm (.int oth))) j7)=some (.nx (envH n R os (some (.imm (.int k))) (some (.imm (.int q))) (some (.imm (.int one))) (some (.imm (.int oth))) (some (.imm (zT z))))):=by
  have n4:nm 4 (envH n R os (some (.imm (.int k))) (some (.imm (.int q))) (some (.imm (.int one))) (some (.imm (.int oth))) j7)=some (.int q):=rfl
  have hi:op2 oMod (op2 oDiv (nm 4) (cst (.int 64))) (cst (.int 7)) (envH n R os (some (.imm (.int k))) (some (.imm (.int q))) (some (.imm (.int one))) (some (.imm (.int oth))) j7)=some (.int (q / 64 % 7)):=by
   simp only[op2,n4,cst,y0p,zbz (j:=64) (by decide),z45 (j:=7) (by decide)]
  have hh:op2 oIx (z07 [(cst .none),(cst .none),(cst (.str "a")),(cst (.str "b")),(cst (.str "back")),(cst (.str "hall")),(cst (.str "win"))]) (op2 oMod (op2 oDiv (nm 4) (cst (.int 64))) (cst (.int 7))) (envH n R os (some (.imm (.int k))) (some (.imm (.int q))) (some (.imm (.int one))) (some (.imm (.int oth))) j7)=some (zT z):=by
   rw[<- hz]
   unfold op2 at hi ⊢
   simp only[hi,y0p]
  simp only[asg,hh,y1m]
  rfl
 refine⟨((if oth<one then oth else one),(if oth > one then oth else one),z),some (.imm (.int q)),some (.imm (.int one)),some (.imm (.int oth)),some (.imm (zT z)),⟨?_,?_,?_,hzn⟩,?_⟩
 ·dsimp only
  split <;> omega
 ·dsimp only
  split <;> split <;> omega
 ·dsimp only
  split <;> omega
 ·have s5:asg 2 (op2 oAdd (nm 2) (z07 [(z07 [(opN oMin [(nm 5),(nm 6)]),(opN oMax [(nm 5),(nm 6)]),(nmV 7)])])) (envH n R os (some (.imm (.int k))) (some (.imm (.int q))) (some (.imm (.int one))) (some (.imm (.int oth))) (some (.imm (zT z))))=some (.nx (envH n R (os++[((if oth<one then oth else one),(if oth > one then oth else one),z)]) (some (.imm (.int k))) (some (.imm (.int q))) (some (.imm (.int one))) (some (.imm (.int oth))) (some (.imm (zT z))))):=by
   have n5:nm 5 (envH n R os (some (.imm (.int k))) (some (.imm (.int q))) (some (.imm (.int one))) (some (.imm (.int oth))) (some (.imm (zT z))))=some (.int one):=rfl
   have n6:nm 6 (envH n R os (some (.imm (.int k))) (some (.imm (.int q))) (some (.imm (.int one))) (some (.imm (.int oth))) (some (.imm (zT z))))=some (.int oth):=rfl
   have n7:nmV 7 (envH n R os (some (.imm (.int k))) (some (.imm (.int q))) (some (.imm (.int one))) (some (.imm (.int oth))) (some (.imm (zT z))))=some (zT z):=rfl
   have n2:nm 2 (envH n R os (some (.imm (.int k))) (some (.imm (.int q))) (some (.imm (.int one))) (some (.imm (.int oth))) (some (.imm (zT z))))=some (.tuple (os.map opT)):=rfl
   have hb:(os.map opT).length+1<=16777216:=by simp;omega
   simp only[asg,op2,opN,z07,args,n5,n6,n7,n2,y0p,y1m,oMin,oMax,oAdd,y0w,y29,big]
   simp[hb,envH,opT]
   omega
  unfold bH
  rw[z0d s1,z0d s2,z0d s3,z0d s4,s5]
theorem z7k (n R:Int) (h1:1<=R) (h7:R<=7):∀(ks:List Int) (os:List Op) (j3 j4 j5 j6 j7:Option Sl),(∀k∈ks,0<=k/\k<1000)->os.length+ks.length<1000->(∀o∈os,OpOk R o) ->
  ∃os' j3' j4' j5' j6' j7',os'.length=os.length+ks.length/\(∀o∈os',OpOk R o)/\forL (gNm 3) bH (ks.map .int) (envH n R os j3 j4 j5 j6 j7)=some (.nx (envH n R os' j3' j4' j5' j6' j7'))
 | [],os,j3,j4,j5,j6,j7,_,_,ho=>⟨os,j3,j4,j5,j6,j7,rfl,ho,rfl⟩
 | k::ks,os,j3,j4,j5,j6,j7,hk,hl,ho=>by
  simp only[y0w] at hl
  obtain⟨o,a4,a5,a6,a7,oo,hs⟩:=zcr n R h1 h7 os (by omega) k (hk k (by simp)) j4 j5 j6 j7
  obtain⟨os',b3,b4,b5,b6,b7,e1,e2,e3⟩:=z7k n R h1 h7 ks (os++[o]) (some (.imm (.int k))) a4 a5 a6 a7 (fun k' h=>hk k' (by simp[h])) (by simp;omega) fun o' h=>by
   rcases y10.mp h with q|q
   ·exact ho o' q
   ·simp at q
    subst q
    exact oo
  refine⟨os',b3,b4,b5,b6,b7,by rw[e1];simp;omega,e2,?_⟩
  have e0:gNm 3 (.int k) (envH n R os j3 j4 j5 j6 j7)=some (envH n R os (some (.imm (.int k))) j4 j5 j6 j7):=rfl
  simp only[y0d,forL,e0,y0p,hs,e3]
theorem zhc (n:Int) (hn:0<=n):∃R os,Drawn R os/\z2l [.int n]=some (z04 R os):=by
 have hR:0<=n % 7/\n % 7<7:=⟨y2a _ (by decide),y2b _ (by decide)⟩
 have hN:0<=n / 8 % 11/\n / 8 % 11<11:=⟨y2a _ (by decide),y2b _ (by decide)⟩
 have s1:asg 1 (op2 oAdd (cst (.int 1)) (op2 oMod (nm 0) (cst (.int 7)))) [some (.imm (.int n)),none,none,none,none,none,none,none]=some (.nx [some (.imm (.int n)),some (.imm (.int (1+n % 7))),none,none,none,none,none,none]):=by
  have n0:nm 0 [some (.imm (.int n)),none,none,none,none,none,none,none]=some (.int n):=rfl
  simp only[asg,op2,n0,cst,y0p,y1m,z45 (j:=7) (by decide),z5f]
  rfl
 have s2:asg 2 (z07 []) [some (.imm (.int n)),some (.imm (.int (1+n % 7))),none,none,none,none,none,none]=some (.nx (envH n (1+n % 7) [] none none none none none)):=by
  simp[asg,z07,args,big,envH]
 have hit:z3h (op2 oMod (op2 oDiv (nm 0) (cst (.int 8))) (cst (.int 11))) (envH n (1+n % 7) [] none none none none none)=some (((List.range (n / 8 % 11).toNat).map fun (k:Nat)=>(k:Int)).map .int):=by
  have n0:nm 0 (envH n (1+n % 7) [] none none none none none)=some (.int n):=rfl
  have hs:z2v (n / 8 % 11)=true:=by
   unfold z2v
   simp
   omega
  simp only[z3h,op2,n0,cst,y0p,zbz (j:=8) (by decide),z45 (j:=11) (by decide),hs,if_true,rng,Int.sub_zero,Int.zero_add,y2c,y16]
 obtain⟨os,b3,b4,b5,b6,b7,e1,e2,e3⟩:=z7k n (1+n % 7) (by omega) (by omega) ((List.range (n / 8 % 11).toNat).map fun (k:Nat)=>(k:Int)) [] none none none none none (fun k hk=>by
  obtain⟨j,hj,rfl⟩:=y0m.mp hk
  have:=List.mem_range.mp hj
  omega) (by simp;omega) (by simp)
 simp only[y29,y13,List.length_range] at e1
 refine⟨1+n % 7,os,⟨by omega,by omega,by omega,e2⟩,?_⟩
 have s3:for_ (z3h (op2 oMod (op2 oDiv (nm 0) (cst (.int 8))) (cst (.int 11)))) (gNm 3) bH (envH n (1+n % 7) [] none none none none none)=some (.nx (envH n (1+n % 7) os b3 b4 b5 b6 b7)):=by
  simp only[for_,hit,y0p]
  exact e3
 have s4:seq (for_ (z3h (op2 oMod (op2 oDiv (nm 0) (cst (.int 8))) (cst (.int 11)))) (gNm 3) bH) (rtn (z07 [(nmV 1),(nmV 2)])) (envH n (1+n % 7) [] none none none none none)=some (.rt (z04 (1+n % 7) os)):=by
  rw[z0d s3]
  simp[rtn,z07,args,nmV,envH,big,z04]
 have e0:z2l [.int n]=(z6n [some (.imm (.int n)),none,none,none,none,none,none,none]).bind fun o=>match o with|.rt t=>some t|.nx _=>some .none|_=>none:=rfl
 rw[e0]
 unfold z6n
 rw[z0d s1,z0d s2]
 exact congrArg (fun x:Option Out=>x.bind fun o=>match o with|.rt t=>some t|.nx _=>some .none|_=>none) s4
end Ho
end
section
namespace Ho
open PySem D
local instance:Tbl:=⟨[],fun _=>[],fun _=>none⟩
theorem zfc {R:Int} {os:List Op} (d:Drawn R os):zkd os:=fun o ho x hx=>by
 have:=(d.ok o ho).2.2.2 x hx
 simp only[z5e,y09,y24,or_false] at this
 rcases this with rfl|rfl|rfl|rfl|rfl <;> decide +kernel
theorem z52 {R:Int} {os:List Op} (d:Drawn R os):Hg.Within R (os.map edge):=fun e he=>by
 obtain⟨o,ho,rfl⟩:=y0m.mp he
 have:=d.ok o ho
 unfold OpOk at this
 unfold edge
 dsimp only
 omega
theorem z1u {R:Int} {os:List Op} (d:Drawn R os) (ns:List Str):Hg.Within R (z05 ns os):=fun e he=>by
 obtain⟨o,ho,rfl⟩:=y0m.mp he
 exact z52 d (edge o) (y0m.mpr ⟨o,(List.mem_filter.mp ho).1,rfl⟩)
def z14 (F:List (Int×Int)):List Int:=z1p ((Hg.bfs F 1000 [0] [0]).getD [])
theorem z5j {R:Int} {F:List (Int×Int)} (hE:Hg.Within R F) (h0:0<=R) (h7:R<=7) :
  (∃r,Hg.bfs F 1000 [0] [0]=some r/\r.length<=8/\z14 F=z1p r)/\(∀x,x∈z14 F <-> Hg.Reach F x)/\(z14 F).Pairwise (·<·)/\∀x∈z14 F,0<=x/\x<=R:=by
 obtain⟨r,h1,h2,h3,h4⟩:=Hg.bfs_ok hE h0 h7 (n:=1000) (by decide)
 have e:z14 F=z1p r:=by rw[z14,h1];rfl
 have hp:=z1v r
 refine⟨⟨r,h1,Hg.nodup_len 8 r h2 fun x hx=>by have:=h4 x hx;omega,e⟩,fun x=>by rw[e,hp.mem_iff];exact h3 x,?_,fun x hx=>h4 x (hp.mem_iff.mp (e▸hx))⟩
 rw[e]
 have nd:(z1p r).Nodup:=hp.nodup_iff.mpr h2
 have pw:=z4s r
 exact (pw.and nd).imp fun h=>by have h1:=h.1;have h2:=h.2;omega
theorem z70 {R:Int} {os:List Op} (d:Drawn R os) {ns:List Str} (hn:z6p ns):z15 [z04 R os,.tuple (ns.map .str)]=some (.tuple ((z14 (z05 ns os)).map .int)):=by
 obtain⟨⟨r,h1,h2,h3⟩,_⟩:=z5j (z1u d ns) (by have:=d.r1;omega) d.r7
 rw[h3]
 exact zd6 hn (zfc d) d.len h1 h2
theorem zb2 {R:Int} {os:List Op} (d:Drawn R os) (room:Int):∃ws,Hg.waysP (os.map edge) room 20 [0]=some ws/\z0n [z04 R os,.int room]=some (.tuple (ws.map wT))/\(ws≠[] <-> Hg.Reach (os.map edge) room):=by
 obtain⟨ws,h1,h2⟩:=Hg.ways_tot (z52 d) d.r7 (by simpa using d.len) room 20 [0] (by simp) (by simp) (by have:=d.r1;simp;omega) (by simp)
 exact⟨ws,h1,zio h1 (y1l h2 (by simp)),Hg.ways_iff h1⟩
theorem zek {l m:List Int} (h1:l.Pairwise (·<·)) (h2:m.Pairwise (·<·)) (h:∀x,x∈l <-> x∈m):l=m :=
 z28 (fun a b p q=>by omega) (z84 (h1.imp fun h=>Int.ne_of_lt h) (h2.imp fun h=>Int.ne_of_lt h) h) h1 h2
def bare (ns:List Str) (o:Op):Op:=(o.1,o.2.1,match o.2.2 with
 | none=>none
 | some x=>if x∈ns then none else some x)
theorem z4q {f:Fe} {ε:Ev} {x:T} (hf:f ε=some x):args [f] ε=some [x]:=by simp only[args,hf,y0p,y1m]
theorem z2p {f g:Fe} {ε:Ev} {x y:T} (hf:f ε=some x) (hg:g ε=some y):args [f,g] ε=some [x,y]:=by simp only[args,hf,hg,y0p,y1m]
theorem zk9 {f g h:Fe} {ε:Ev} {x y z:T} (hf:f ε=some x) (hg:g ε=some y) (hh:h ε=some z):args [f,g,h] ε=some [x,y,z]:=by simp only[args,hf,hg,hh,y0p,y1m]
theorem z3x {fs:List Fe} {ε:Ev} {xs:List T} (h:args fs ε=some xs) (hl:xs.length<=16777216):z07 fs ε=some (.tuple xs):=by
 simp only[z07,h,y0p]
 exact if_pos hl
theorem z0m {fs:List Fe} {ε:Ev} {xs:List T} {o:List T->Option T} {t:T} (h:args fs ε=some xs) (ho:o xs=some t):opN o fs ε=some t:=by
 simp only[opN,h,y0p,ho]
theorem z1s {f g:Fe} {ε:Ev} {o:T->T->Option T} {x y t:T} (hf:f ε=some x) (hg:g ε=some y) (ho:o x y=some t):op2 o f g ε=some t:=by
 simp only[op2,hf,hg,y0p,ho]
theorem z31 {f:Fe} {ε:Ev} {b:Bool} (h:f ε=some (.bool b)):tstB f ε=some b:=by
 simp only[tstB,h,y0p]
theorem z3u {i:Nat} {f:Fe} {ε:Ev} {t:T} (h:f ε=some t):asg i f ε=some (.nx (ε.set i (some (.imm t)))):=by
 simp only[asg,h,y1m]
theorem zbp {c:Ft} {a b:Fs} {ε:Ev} (h:c ε=some false):iff c a b ε=b ε:=by
 simp only[iff,h,y0p,y1p,if_false]
theorem z4k {c:Ft} {a b:Fs} {ε:Ev} (h:c ε=some true):iff c a b ε=a ε:=by
 simp only[iff,h,y0p,if_true]
theorem za9 {xs ys:List T} (h:xs.length+ys.length<=16777216):oAdd (.tuple xs) (.tuple ys)=some (.tuple (xs++ys)):=if_pos h
theorem z3c {g:Fg} {b:Fs} {t:T} {ts:List T} {ε ε1 ε2:Ev} (h1:g t ε=some ε1) (h2:b ε1=some (.nx ε2)):forL g b (t::ts) ε=forL g b ts ε2:=by
 simp only[forL,h1,h2,y0p]
end Ho
end
section
namespace Hg
def Fol (E:List (Int×Int)):Int->List Nat->List Int->Prop
 | _,[],p=>p=[]
 | cur,k::w,p=>∃e t q,E[k]?=some e/\adj e cur=some t/\p=t::q/\Fol E t w q
theorem zbx {rec:List Int->Option (List (List Nat))} {pl:List Int} {h:Int}:∀{E:List (Int×Int)} {k:Nat} {ws:List (List Nat)},exts rec pl h k E=some ws->∀w,w∈ws <-> ∃j e t us w',E[j]?=some e/\adj e h=some t/\t∉pl/\rec (pl++[t])=some us/\w'∈us/\w=(k+j)::w'
 | [],k,ws,e,w=>by
  cases e
  simp
 | e::es,k,ws,h1,w=>by
  have sh:∀{vs:List (List Nat)},exts rec pl h (k+1) es=some vs->(w∈vs <-> ∃j e' t us w',(e::es)[j+1]?=some e'/\adj e' h=some t/\t∉pl/\rec (pl++[t])=some us/\w'∈us/\w=(k+(j+1))::w'):=fun hv=>by
   rw[zbx hv w]
   constructor
   ·rintro⟨j,e',t,us,w',a1,a2,a3,a4,a5,a6⟩
    exact⟨j,e',t,us,w',by simpa using a1,a2,a3,a4,a5,by rw[a6];congr 1;omega⟩
   ·rintro⟨j,e',t,us,w',a1,a2,a3,a4,a5,a6⟩
    exact⟨j,e',t,us,w',by simpa using a1,a2,a3,a4,a5,by rw[a6];congr 1;omega⟩
  unfold exts at h1
  split at h1
  next t ht =>
   split at h1
   next hm =>
    rw[sh h1]
    constructor
    ·rintro⟨j,r⟩
     exact⟨j+1,r⟩
    ·rintro⟨j,e',t',us,w',a1,a2,a3,r⟩
     cases j with
     | zero =>
      cases a1
      rw[ht] at a2
      cases a2
      exact absurd hm a3
     | succ j=>exact⟨j,e',t',us,w',a1,a2,a3,r⟩
   next hm =>
    simp only[y01,y07] at h1
    obtain⟨us,h2,vs,h3,rfl⟩:=h1
    rw[y10,sh h3,y0m]
    constructor
    ·rintro (⟨w',q1,q2⟩|⟨j,r⟩)
     ·exact⟨0,e,t,us,w',rfl,ht,hm,h2,q1,by rw[<- q2];rfl⟩
     ·exact⟨j+1,r⟩
    ·rintro⟨j,e',t',us',w',a1,a2,a3,a4,a5,a6⟩
     cases j with
     | zero =>
      cases a1
      rw[ht] at a2
      cases a2
      rw[h2] at a4
      cases a4
      exact .inl ⟨w',a5,a6.symm⟩
     | succ j=>exact .inr ⟨j,e',t',us',w',a1,a2,a3,a4,a5,a6⟩
  next hn =>
   rw[sh h1]
   constructor
   ·rintro⟨j,r⟩
    exact⟨j+1,r⟩
   ·rintro⟨j,e',t',us,w',a1,a2,a3,r⟩
    cases j with
    | zero =>
     cases a1
     rw[hn] at a2
     cases a2
    | succ j=>exact⟨j,e',t',us,w',a1,a2,a3,r⟩
theorem zhe {rec:List Int->Option (List (List Nat))} {pl:List Int} {h:Int} {E:List (Int×Int)} {k:Nat} {ws:List (List Nat)} (e:exts rec pl h k E=some ws) {j:Nat} {e':Int×Int} {t:Int} (h1:E[j]?=some e') (h2:adj e' h=some t) (h3:t∉pl):∃vs,rec (pl++[t])=some vs:=by
 obtain⟨vs,hv,_⟩:=z3t e t ⟨e',y1q h1,h2⟩ h3
 exact⟨vs,hv⟩
theorem z7s {E:List (Int×Int)} {room:Int}:∀{n:Nat} {pl:List Int} {cur:Int} {ws:List (List Nat)},pl.getLast?=some cur->waysP E room n pl=some ws->∀w,w∈ws <-> ∃p,Fol E cur w p/\p.Nodup/\(∀y∈p,y∉pl)/\(cur::p).getLast?=some room
 | 0,pl,cur,ws,_,h,_=>by cases h
 | n+1,pl,cur,ws,hl,h,w=>by
  have hcur:cur∈pl:=List.mem_of_getLast? hl
  unfold waysP at h
  rw[hl] at h
  simp only at h
  split at h
  next e =>
   subst e
   cases h
   constructor
   ·intro hw
    have:w=[]:=by simpa using hw
    subst this
    exact⟨[],rfl,by simp,by simp,rfl⟩
   ·rintro⟨p,h1,h2,h3,h4⟩
    cases w with
    | nil=>simp
    | cons k w =>
     obtain⟨e',t,q,_,_,rfl,_⟩:=h1
     have hm:cur∈t::q:=by
      rw[List.getLast?_cons_cons] at h4
      exact List.mem_of_getLast? h4
     exact absurd hcur (h3 cur hm)
  next hne =>
   rw[zbx h w]
   constructor
   ·rintro⟨j,e',t,us,w',a1,a2,a3,a4,a5,a6⟩
    obtain⟨p,p1,p2,p3,p4⟩:=(z7s (pl:=pl++[t]) (cur:=t) (by simp) a4 w').mp a5
    refine⟨t::p,?_,?_,?_,by rw[List.getLast?_cons_cons];exact p4⟩
    ·rw[a6]
     exact⟨e',t,p,by simpa using a1,a2,rfl,p1⟩
    ·exact y0r.mpr ⟨fun z=>p3 t z (by simp),p2⟩
    ·intro y hy
     rcases y09.mp hy with rfl|hy
     ·exact a3
     ·exact fun z=>p3 y hy (by simp[z])
   ·rintro⟨p,h1,h2,h3,h4⟩
    cases w with
    | nil =>
     have:p=[]:=h1
     subst this
     simp at h4
     exact absurd h4 hne
    | cons k w =>
     obtain⟨e',t,q,b1,b2,rfl,b3⟩:=h1
     have ht:t∉pl:=h3 t (by simp)
     obtain⟨us,hu⟩:=zhe h b1 b2 ht
     have nd:=y0r.mp h2
     refine⟨k,e',t,us,w,b1,b2,ht,hu,?_,by simp⟩
     refine (z7s (pl:=pl++[t]) (cur:=t) (by simp) hu w).mpr ⟨q,b3,nd.2,fun y hy z=>?_,by rw[List.getLast?_cons_cons] at h4;exact h4⟩
     rcases y10.mp z with z|z
     ·exact h3 y (by simp[hy]) z
     ·have:y=t:=by simpa using z
      subst this
      exact nd.1 hy
theorem ways_char {E:List (Int×Int)} {room:Int} {n:Nat} {ws:List (List Nat)} (h:waysP E room n [0]=some ws) (w:List Nat):w∈ws <-> ∃p,Fol E 0 w p/\((0:Int)::p).Nodup/\((0:Int)::p).getLast?=some room:=by
 rw[z7s (cur:=0) rfl h w]
 constructor
 ·rintro⟨p,h1,h2,h3,h4⟩
  exact⟨p,h1,y0r.mpr ⟨fun z=>h3 0 z (by simp),h2⟩,h4⟩
 ·rintro⟨p,h1,h2,h4⟩
  have nd:=y0r.mp h2
  exact⟨p,h1,nd.2,fun y hy z=>nd.1 (by have:y=0:=(by simpa using z);exact this▸hy),h4⟩
end Hg
end
section
namespace Hg
theorem z7n {α:Type} {p q r:α->Bool}:∀{l:List α},(∀x∈l,p x=true->r x=true)->(∀x∈l,q x=true->r x=true)->(∀x∈l,p x=true->q x=true->False)->l.countP p+l.countP q<=l.countP r
 | [],_,_,_=>by simp
 | x::l,h1,h2,h3=>by
  have ih:=z7n (l:=l) (fun x h=>h1 x (by simp[h])) (fun x h=>h2 x (by simp[h])) (fun x h=>h3 x (by simp[h]))
  have a1:=h1 x (by simp)
  have a2:=h2 x (by simp)
  have a3:=h3 x (by simp)
  simp only[List.countP_cons]
  cases hp:p x <;> cases hq:q x <;> cases hr:r x <;> simp_all <;> omega
def outE (pl:List Int) (h:Int) (e:Int×Int):Bool:=match adj e h with
 | some t=>decide (t∉pl)
 | none=>false
def offE (pl:List Int) (e:Int×Int):Bool:=decide (e.1∉pl) && decide (e.2∉pl)
theorem z5l {rec:List Int->Option (List (List Nat))} {pl:List Int} {h:Int} {B:Nat} (hr:∀t us,t∉pl->rec (pl++[t])=some us->us.length<=B):∀{E:List (Int×Int)} {k:Nat} {ws:List (List Nat)},exts rec pl h k E=some ws->ws.length<=E.countP (outE pl h)*B
 | [],k,ws,e=>by
  cases e
  simp
 | e::es,k,ws,h1=>by
  unfold exts at h1
  rw[List.countP_cons]
  have up:es.countP (outE pl h)*B<=(es.countP (outE pl h)+if outE pl h e=true then 1 else 0)*B:=Nat.mul_le_mul_right _ (by omega)
  split at h1
  next t ht =>
   split at h1
   next hm=>exact y1l (z5l hr h1) up
   next hm =>
    simp only[y01,y07] at h1
    obtain⟨us,h2,vs,h3,rfl⟩:=h1
    have a:=z5l hr h3
    have b:=hr t us hm h2
    have c:outE pl h e=true:=by simp[outE,ht,hm]
    rw[if_pos c,Nat.succ_mul,y1x,y13]
    omega
  next=>exact y1l (z5l hr h1) up
def G (m:Nat):Nat:=[1,1,2,3,4,6,9,12,18,27,36].getD m 0
theorem zmn:∀m,m<=10->∀d,d<=10->∀m',m'<=10->d+m'<=m->d*G m'<=G m:=by decide
theorem znt:∀m,m<=10->1<=G m:=by decide
theorem zns:∀m,m<=10->G m<=36:=by decide
theorem zb4 {E:List (Int×Int)} {room:Int} (hE:∀e∈E,e.1≠e.2) (hl:E.length<=10):∀{n:Nat} {pl:List Int} {ws:List (List Nat)},pl.Nodup->waysP E room n pl=some ws->ws.length<=G (E.countP (offE pl.dropLast))
 | 0,pl,ws,_,h=>by cases h
 | n+1,pl,ws,nd,h=>by
  have hc:∀p:Int×Int->Bool,E.countP p<=10:=fun p=>y1l List.countP_le_length hl
  unfold waysP at h
  split at h
  ·cases h
  next x hx =>
   split at h
   ·cases h
    exact znt _ (hc _)
   ·have hp:pl=pl.dropLast++[x]:=by
     have hne:pl≠[]:=by rintro rfl;cases hx
     have e1:=List.dropLast_concat_getLast hne
     rw[List.getLast?_eq_getLast hne] at hx
     rw[y28 hx] at e1
     exact e1.symm
    have hxd:x∉pl.dropLast:=fun z=>by
     rw[hp,y1j] at nd
     exact nd.2.2 x z x (by simp) rfl
    have hB:=z5l (B:=G (E.countP (offE pl))) (fun t us ht hu=>by
     have nd':(pl++[t]).Nodup:=by
      rw[y1j]
      exact⟨nd,by simp,fun a ha b hb=>by
       have:b=t:=by simpa using hb
       subst this
       exact fun z=>ht (z▸ha)⟩
     have:=zb4 hE hl nd' hu
     simpa using this) h
    refine y1l hB (zmn _ (hc _) _ (hc _) _ (hc _) (z7n (fun e he q=>?_) (fun e he q=>?_) (fun e he q1 q2=>?_)))
    ·unfold outE at q
     split at q
     next t ht =>
      have ht':t∉pl:=by simpa using q
      have htd:t∉pl.dropLast:=fun z=>ht' (List.dropLast_subset _ z)
      unfold adj at ht
      unfold offE
      split at ht
      next e1=>cases ht;simp[e1,hxd,htd]
      next =>
       split at ht
       next e2=>cases ht;simp[e2,hxd,htd]
       next=>cases ht
     next=>cases q
    ·unfold offE at q ⊢
     simp only[y1a,decide_eq_true_eq] at q ⊢
     exact⟨fun z=>q.1 (List.dropLast_subset _ z),fun z=>q.2 (List.dropLast_subset _ z)⟩
    ·have hxp:x∈pl:=by rw[hp];simp
     unfold offE at q2
     simp only[y1a,decide_eq_true_eq] at q2
     unfold outE adj at q1
     split at q1
     next t ht =>
      split at ht
      next e1=>exact q2.1 (e1▸hxp)
      next =>
       split at ht
       next e2=>exact q2.2 (e2▸hxp)
       next=>cases ht
     next=>cases q1
theorem ways_few {E:List (Int×Int)} {room:Int} (hE:∀e∈E,e.1≠e.2) (hl:E.length<=10) {n:Nat} {ws:List (List Nat)} (h:waysP E room n [0]=some ws):ws.length<=36 :=
 y1l (zb4 hE hl (by simp) h) (zns _ (y1l List.countP_le_length hl))
end Hg
end
section
namespace Hg
abbrev Arc:=Int×Int×Int
def ind (b:Bool):Int:=if b then 1 else 0
def net (x:Int):List Arc->Int
 | []=>0
 | a::L=>a.2.2*(ind (decide (a.1=x)) - ind (decide (a.2.1=x)))+net x L
def ends (L:List Arc):List (Int×Int):=L.map fun a=>(a.1,a.2.1)
structure Flow (E:List (Int×Int)) (s t:Int) (v:Int) (L:List Arc):Prop where
 en:ends L=E
 un:∀a∈L,-1<=a.2.2/\a.2.2<=1
 cons:∀x,x≠s->x≠t->net x L=0
 val:net s L=v
end Hg
end
section
namespace Hg
def Hits (C:List Nat) (ths:List (List Nat)):Prop:=∀w∈ths,∃k∈w,k∈C
inductive Lx {α:Type} (r:α->α->Prop):List α->List α->Prop
 | nil {b:α} {y:List α}:Lx r [] (b::y)
 | head {a b:α} {x y:List α}:r a b->Lx r (a::x) (b::y)
 | tail {a:α} {x y:List α}:Lx r x y->Lx r (a::x) (a::y)
def missed (n:Nat) (ths:List (List Nat)):List (List Nat):=ths.filter fun w=>!decide (n∈w)
noncomputable def stopsR:List (List Nat)->List Nat->Nat->Option (List Nat)
 | ths,[],_=>if ths.isEmpty then some [] else none
 | ths,n::ns,many=>if ths.isEmpty then some [] else if many=0 then none else
  if (missed n ths).length<ths.length then
   match stopsR (missed n ths) ns (many - 1) with
   | some b=>some (n::b)
   | none=>stopsR ths ns many
  else stopsR ths ns many
theorem stopsR_nil (nums:List Nat) (many:Nat):stopsR [] nums many=some []:=by cases nums <;> rfl
theorem z2k {n:Nat} {b:List Nat} {ths:List (List Nat)}:Hits b (missed n ths) <-> Hits (n::b) ths:=by
 constructor
 ·intro h w hw
  by_cases q:n∈w
  ·exact⟨n,q,by simp⟩
  ·obtain⟨k,h1,h2⟩:=h w (List.mem_filter.mpr ⟨hw,by simpa using q⟩)
   exact⟨k,h1,by simp[h2]⟩
 ·intro h w hw
  obtain⟨h1,h2⟩:=List.mem_filter.mp hw
  obtain⟨k,h3,h4⟩:=h w h1
  rcases y09.mp h4 with rfl|h4
  ·simp[h3] at h2
  ·exact⟨k,h3,h4⟩
theorem z7f {n:Nat} {ths:List (List Nat)} (h:¬(missed n ths).length<ths.length):∀w∈ths,n∉w:=by
 have:=List.length_filter_eq_length_iff.mp (Nat.le_antisymm (y22 (fun w=>!decide (n∈w)) ths) (Nat.le_of_not_lt h))
 intro w hw
 simpa using this w hw
theorem stops_sound:∀{nums:List Nat} {ths:List (List Nat)} {many:Nat} {C:List Nat},stopsR ths nums many=some C->C.Sublist nums/\C.length<=many/\Hits C ths
 | [],ths,many,C,h=>by
  unfold stopsR at h
  split at h
  next e =>
   cases h
   have:ths=[]:=by simpa using e
   subst this
   exact⟨.slnil,by simp,by simp[Hits]⟩
  next=>cases h
 | n::ns,ths,many,C,h=>by
  unfold stopsR at h
  split at h
  next e =>
   cases h
   have:ths=[]:=by simpa using e
   subst this
   exact⟨List.nil_sublist _,by simp,by simp[Hits]⟩
  next =>
   split at h
   next=>cases h
   next hm =>
    split at h
    next =>
     split at h
     next b hb =>
      cases h
      obtain⟨h1,h2,h3⟩:=stops_sound hb
      exact⟨h1.cons₂ n,by simp;omega,z2k.mp h3⟩
     next =>
      obtain⟨h1,h2,h3⟩:=stops_sound h
      exact⟨h1.cons n,h2,h3⟩
    next =>
     obtain⟨h1,h2,h3⟩:=stops_sound h
     exact⟨h1.cons n,h2,h3⟩
theorem z8a {ths:List (List Nat)} (h:Hits [] ths):ths=[]:=by
 cases ths with
 | nil=>rfl
 | cons w ws =>
  obtain⟨k,_,hk⟩:=h w (by simp)
  cases hk
theorem z1g:∀{nums:List Nat} {ths:List (List Nat)} {many:Nat} {D:List Nat},D.Sublist nums->D.length<=many->Hits D ths->stopsR ths nums many≠none
 | [],ths,many,D,hs,hl,hh=>by
  have:D=[]:=List.sublist_nil.mp hs
  subst this
  have:=z8a hh
  subst this
  simp[stopsR]
 | n::ns,ths,many,D,hs,hl,hh=>by
  unfold stopsR
  split
  next=>simp
  next he =>
   split
   next hm =>
    have:D=[]:=by
     cases D with
     | nil=>rfl
     | cons a D=>simp at hl;omega
    subst this
    exact absurd (z8a hh) (by simpa using he)
   next hm =>
    split
    next =>
     split
     next=>simp
     next hn =>
      cases hs with
      | cons _ hs=>exact z1g hs hl hh
      | cons_cons _ hs=>exact absurd hn (z1g hs (by simp at hl;omega) (z2k.mpr hh))
    next hlt =>
     cases hs with
     | cons _ hs=>exact z1g hs hl hh
     | @cons_cons D' _ _ hs =>
      refine z1g hs (by simp at hl;omega) fun w hw=>?_
      obtain⟨k,h1,h2⟩:=hh w hw
      rcases y09.mp h2 with rfl|h2
      ·exact absurd h1 (z7f hlt w hw)
      ·exact⟨k,h1,h2⟩
theorem z32:∀{nums:List Nat} {ths:List (List Nat)} {many:Nat} {C:List Nat},nums.Pairwise (·<·)->stopsR ths nums many=some C->(∀D,D.Sublist nums->Hits D ths->many<=D.length)->∀D,D.Sublist nums->Hits D ths->D.length<=many->D=C\/Lx (·<·) C D
 | [],ths,many,C,_,h,hmin,D,hs,hh,hl=>by
  have:D=[]:=List.sublist_nil.mp hs
  subst this
  have:=(stops_sound h).1
  exact .inl (List.sublist_nil.mp this).symm
 | n::ns,ths,many,C,pw,h,hmin,D,hs,hh,hl=>by
  have p:=y17.mp pw
  unfold stopsR at h
  split at h
  next e =>
   cases h
   cases D with
   | nil=>exact .inl rfl
   | cons a D=>exact .inr .nil
  next he =>
   split at h
   next=>cases h
   next hm =>
    have hup:∀D,D.Sublist ns->Hits D ths->many<=D.length:=fun D hs hh=>hmin D (hs.cons n) hh
    split at h
    next =>
     split at h
     next b hb =>
      cases h
      cases hs with
      | cons _ hs =>
       cases D with
       | nil=>exact absurd (z8a hh) (by simpa using he)
       | cons a D=>exact .inr (.head (p.1 a (hs.subset (by simp))))
      | @cons_cons D' _ _ hs =>
       rcases z32 p.2 hb (fun X h1 h2=>by
        have:=hmin (n::X) (h1.cons₂ n) (z2k.mp h2)
        simp at this
        omega) D' hs (z2k.mpr hh) (by simp at hl;omega) with q|q
       ·exact .inl (by rw[q])
       ·exact .inr (.tail q)
     next hn =>
      cases hs with
      | cons _ hs=>exact z32 p.2 h hup D hs hh hl
      | cons_cons _ hs=>exact absurd hn (z1g hs (by simp at hl;omega) (z2k.mpr hh))
    next hlt =>
     cases hs with
     | cons _ hs=>exact z32 p.2 h hup D hs hh hl
     | @cons_cons D' _ _ hs =>
      have:=hup D' hs fun w hw=>by
       obtain⟨k,h1,h2⟩:=hh w hw
       rcases y09.mp h2 with rfl|h2
       ·exact absurd h1 (z7f hlt w hw)
       ·exact⟨k,h1,h2⟩
      simp at hl
      omega
def fewL (ths:List (List Nat)) (nums:List Nat):List Nat->Option (List Nat)
 | []=>none
 | m::ms=>match stopsR ths nums m with
  | some C=>some C
  | none=>fewL ths nums ms
theorem z9o {ths:List (List Nat)} {nums:List Nat}:∀{k n:Nat} {C:List Nat},fewL ths nums (List.range' k n)=some C->∃m,k<=m/\m<k+n/\stopsR ths nums m=some C/\∀j,k<=j->j<m->stopsR ths nums j=none
 | k,0,C,h=>by cases h
 | k,n+1,C,h=>by
  rw[List.range'_succ,fewL] at h
  split at h
  next C' hC =>
   cases h
   exact⟨k,y0o _,by omega,hC,fun j h1 h2=>by omega⟩
  next hn =>
   obtain⟨m,h1,h2,h3,h4⟩:=z9o h
   refine⟨m,by omega,by omega,h3,fun j g1 g2=>?_⟩
   rcases Nat.lt_or_ge k j with q|q
   ·exact h4 j (by omega) g2
   ·have:j=k:=by omega
    subst this
    exact hn
theorem zbv {ths:List (List Nat)} {nums:List Nat}:∀{k n m:Nat},k<=m->m<k+n->stopsR ths nums m≠none->∃C,fewL ths nums (List.range' k n)=some C
 | k,0,m,h1,h2,_=>by omega
 | k,n+1,m,h1,h2,h3=>by
  rw[List.range'_succ,fewL]
  split
  next C _=>exact⟨C,rfl⟩
  next hn =>
   refine zbv (m:=m) ?_ (by omega) h3
   rcases Nat.lt_or_ge k m with q|q
   ·exact q
   ·have:m=k:=by omega
    subst this
    exact absurd hn h3
theorem few_spec {ths:List (List Nat)} {M:Nat} (hne:∀w∈ths,w≠[]/\∀k∈w,k<M):∃C,fewL ths (List.range M) (List.range (M+1))=some C/\C.Sublist (List.range M)/\Hits C ths/\(∀D,D.Sublist (List.range M)->Hits D ths->C.length<=D.length)/\∀D,D.Sublist (List.range M)->Hits D ths->D.length=C.length->D=C\/Lx (·<·) C D:=by
 have full:Hits (List.range M) ths:=fun w hw=>by
  obtain⟨h1,h2⟩:=hne w hw
  cases w with
  | nil=>exact absurd rfl h1
  | cons k w=>exact⟨k,by simp,List.mem_range.mpr (h2 k (by simp))⟩
 have hs:=z1g (many:=M) (List.Sublist.refl (List.range M)) (by simp) full
 rw[List.range_eq_range' (n:=M+1)]
 obtain⟨C,hC⟩:=zbv (ths:=ths) (nums:=List.range M) (k:=0) (n:=M+1) (m:=M) (by omega) (by omega) hs
 obtain⟨m,h1,h2,h3,h4⟩:=z9o hC
 obtain⟨s1,s2,s3⟩:=stops_sound h3
 have hmin:∀D,D.Sublist (List.range M)->Hits D ths->m<=D.length:=fun D d1 d2=>by
  rcases Nat.lt_or_ge D.length m with q|q
  ·exact absurd (h4 D.length (by omega) q) (z1g d1 (y0o _) d2)
  ·exact q
 have hCm:C.length=m:=Nat.le_antisymm s2 (hmin C s1 s3)
 exact⟨C,hC,s1,s3,fun D d1 d2=>by rw[hCm];exact hmin D d1 d2,fun D d1 d2 d3=>z32 List.pairwise_lt_range h3 hmin D d1 d2 (by omega)⟩
def Apt (w v:List Nat):Prop:=∀k∈w,k∉v
def aptB (w v:List Nat):Bool:=!w.any fun k=>decide (k∈v)
theorem zhp {w v:List Nat}:aptB w v=true <-> Apt w v:=by
 simp[aptB,Apt]
noncomputable def faL (rec:List (List Nat)->Option (List (List Nat))):List (List Nat)->Option (List (List Nat))
 | []=>none
 | w::ws=>match rec (ws.filter (aptB w)) with
  | some b=>some (w::b)
  | none=>faL rec ws
def faR:Nat->List (List Nat)->Option (List (List Nat))
 | 0,_=>some []
 | m+1,ths=>faL (faR m) ths
theorem fa_sound:∀{m:Nat} {ths B:List (List Nat)},faR m ths=some B->B.Sublist ths/\B.length=m/\B.Pairwise Apt
 | 0,ths,B,h=>by
  cases h
  exact⟨List.nil_sublist _,rfl,.nil⟩
 | m+1,ths,B,h=>by
  have key:∀{l B:List (List Nat)},faL (faR m) l=some B->B.Sublist l/\B.length=m+1/\B.Pairwise Apt:=by
   intro l
   induction l with
   | nil=>intro B h;cases h
   | cons w ws ih =>
    intro B h
    unfold faL at h
    split at h
    next b hb =>
     cases h
     obtain⟨h1,h2,h3⟩:=fa_sound hb
     refine⟨(h1.trans List.filter_sublist).cons₂ w,by simp[h2],y17.mpr ⟨fun v hv=>?_,h3⟩⟩
     exact zhp.mp (List.mem_filter.mp (h1.subset hv)).2
    next =>
     obtain⟨h1,h2,h3⟩:=ih h
     exact⟨h1.cons w,h2,h3⟩
  exact key h
end Hg
end
section
namespace Wo
open PySem D Ho
theorem z2s {c:Ft} {a:Fs} {ε:Ev} (h:c ε=some false):iff c a skip ε=some (.nx ε):=(zbp h).trans rfl
def cstN (w:List Nat):List Int:=w.map fun (k:Nat)=>(k:Int)
theorem z53 (w:List Nat):wT w=.tuple ((cstN w).map .int):=by simp[wT,cstN]
theorem zh3 {k:Nat} {w:List Nat}:((k:Int)∈cstN w) <-> k∈w:=by
 unfold cstN
 rw[y0m]
 constructor
 ·rintro⟨j,hj,e⟩
  have:j=k:=by omega
  exact this▸hj
 ·intro h
  exact⟨k,h,rfl⟩
theorem zef (neg:Bool) (k:Nat) (w:List Nat):oIn neg (.int k) (wT w)=some (.bool (if neg then !decide (k∈w) else decide (k∈w))):=by
 rw[z53,zao]
 have:decide ((k:Int)∈cstN w)=decide (k∈w):=decide_eq_decide.mpr zh3
 rw[this]
def seqT (b:Bool) (ws:List (List Nat)):T:=if b then .tuple (ws.map wT) else .list (ws.map wT)
theorem zar {f:Fe} {ε:Ev} {b:Bool} {ws:List (List Nat)} (h:f ε=some (seqT b ws)):z0i f ε=some (ws.map wT):=by
 unfold z0i
 rw[h]
 cases b <;> rfl
theorem zh5 (b:Bool) (ws:List (List Nat)):oLen [seqT b ws]=some (.int ws.length):=by
 cases b <;> simp[seqT,oLen]
theorem zg2 {f:Fe} {ε:Ev} {b:Bool} {ws:List (List Nat)} (h:f ε=some (seqT b ws)):tstL f ε=some (!ws.isEmpty):=by
 unfold tstL
 rw[h]
 cases b <;> cases ws <;> rfl
theorem zbe (n k:Nat) (h:k<=n):D.sIx n 0 (some (k:Int))=k:=by
 unfold D.sIx
 simp only
 rw[if_neg (by omega)]
 omega
theorem zit (b:Bool) (ws:List (List Nat)) (k:Nat) (h:k<=ws.length):oSl (seqT b ws) (some (k:Int)) none=some (seqT b (ws.drop k)):=by
 have e:cutZ (ws.map wT) (some (k:Int)) none=(ws.drop k).map wT:=by
  unfold cutZ
  have h1:D.sIx (ws.map wT).length (ws.map wT).length none=(ws.map wT).length:=rfl
  rw[zbe _ _ (by simpa using h),h1,List.map_drop]
  refine List.take_of_length_le ?_
  rw[List.length_drop]
  exact y0o _
 cases b
 ·show some (PyData.list _)=_
  rw[e]
  rfl
 ·show some (PyData.tuple _)=_
  rw[e]
  rfl
theorem zks (w:List Nat) (k:Nat) (h:k<=w.length):oSl (wT w) (some (k:Int)) none=some (wT (w.drop k)):=by
 unfold wT oSl cutZ
 have h1:D.sIx (w.map fun (k:Nat)=>PyData.int (k:Int)).length (w.map fun (k:Nat)=>PyData.int (k:Int)).length none=(w.map fun (k:Nat)=>PyData.int (k:Int)).length:=rfl
 simp only
 rw[zbe _ _ (by simpa using h),h1,List.map_drop,List.take_of_length_le (by rw[List.length_drop];exact y0o _)]
theorem zkb (n:Nat) (w:List Nat) (h:w.length<=1000):oAdd (.tuple [.int n]) (wT w)=some (wT (n::w)):=by
 have:=za9 (xs:=[PyData.int (n:Int)]) (ys:=w.map fun (k:Nat)=>PyData.int (k:Int)) (by simp;omega)
 exact this
def opW:Option (List Nat)->T
 | some C=>wT C
 | none=>.none
def opR:Option (List (List Nat))->T
 | some B=>.tuple (B.map wT)
 | none=>.none
theorem z6h (n:Nat):∀(ths:List (List Nat)) (j:Option Sl),z2o (gNm 0) (tstB (op2 (oIn true) (nm 1) (nm 0))) (nmV 0) (ths.map wT) [j,some (.imm (.int n))]=some ((Hg.missed n ths).map wT)
 | [],j=>rfl
 | w::ths,j=>by
  have ih:=z6h n ths (some (.imm (wT w)))
  have e0:gNm 0 (wT w) [j,some (.imm (.int n))]=some [some (.imm (wT w)),some (.imm (.int n))]:=rfl
  have c:tstB (op2 (oIn true) (nm 1) (nm 0)) [some (.imm (wT w)),some (.imm (.int n))]=some (!decide (n∈w)):=z31 (z1s rfl rfl (zef true n w))
  have v:nmV 0 [some (.imm (wT w)),some (.imm (.int n))]=some (wT w):=rfl
  unfold Hg.missed at ih ⊢
  by_cases h:n∈w
  ·simp only[y0d,z2o,e0,c,y0p,h,decide_true,Bool.not_true,y1p,if_false,ih,List.filter_cons]
  ·simp only[y0d,z2o,e0,c,y0p,h,decide_false,Bool.not_false,if_true,v,ih,List.filter_cons,y1m]
def endW (ε:Ev):Option (List Nat)->Out
 | some C=>.rt (wT C)
 | none=>.nx ε
def endN (n:Nat) (ε:Ev):Option (List Nat)->Out
 | some C=>.rt (wT (n::C))
 | none=>.nx ε
noncomputable def bS (rec:List T->Option T):Fs:=(seq (asg 5 (comp 1 [4] (z0i (nmV 0)) (gNm 0) (tstB (op2 (oIn true) (nm 1) (nm 0))) (nmV 0)))
  (iff (tstB (op2 oLt (opN oLen [(nm 5)]) (opN oLen [(nm 0)]))) (seq (asg 6 (opN rec [(nmV 5),(slice (nm 1) (opt (op2 oAdd (nm 3) (cst (.int 1)))) optN),(op2 oSub (nm 2) (cst (.int 1)))]))
  (iff (tstB (op1 z1a (nm 6))) (rtn (op2 oAdd (z07 [(nmV 4)]) (nm 6))) skip)) skip))
def envS (b:Bool) (ths:List (List Nat)) (nums:List Nat) (many:Nat) (j3 j4 j5 j6:Option Sl):Ev:=[some (.imm (seqT b ths)),some (.imm (wT nums)),some (.imm (.int many)),j3,j4,j5,j6]
theorem zku {rec:List T->Option T} (b:Bool) (ths:List (List Nat)) (nums:List Nat) (many:Nat) (hm:many≠0) (hl:ths.length<=1000) (k n:Nat) (hk:k<nums.length) (r:Option (List Nat)) (hr:∀C,r=some C->C.length<=900)
  (hrec:(Hg.missed n ths).length<ths.length->rec [.list ((Hg.missed n ths).map wT),wT (nums.drop (k+1)),.int ((many:Int) - 1)]=some (opW r)) (j5 j6:Option Sl) :
  bS rec (envS b ths nums many (some (.imm (.int k))) (some (.imm (.int n))) j5 j6) =
   some (if (Hg.missed n ths).length<ths.length then (endN n (envS b ths nums many (some (.imm (.int k))) (some (.imm (.int n))) (some (.imm (.list ((Hg.missed n ths).map wT)))) (some (.imm .none))) r) else .nx (envS b ths nums many (some (.imm (.int k))) (some (.imm (.int n))) (some (.imm (.list ((Hg.missed n ths).map wT)))) j6)):=by
 have v5:comp 1 [4] (z0i (nmV 0)) (gNm 0) (tstB (op2 (oIn true) (nm 1) (nm 0))) (nmV 0) (envS b ths nums many (some (.imm (.int k))) (some (.imm (.int n))) j5 j6)=some (.list ((Hg.missed n ths).map wT)):=by
  have it:z0i (nmV 0) (envS b ths nums many (some (.imm (.int k))) (some (.imm (.int n))) j5 j6)=some (ths.map wT):=zar rfl
  have hcap:z1j 1 [4] (envS b ths nums many (some (.imm (.int k))) (some (.imm (.int n))) j5 j6)=[none,some (.imm (.int n))]:=rfl
  simp only[comp,it,y0p,hcap,z6h,y13]
  rw[if_pos (by unfold big;omega)]
  rfl
 have s5:asg 5 (comp 1 [4] (z0i (nmV 0)) (gNm 0) (tstB (op2 (oIn true) (nm 1) (nm 0))) (nmV 0)) (envS b ths nums many (some (.imm (.int k))) (some (.imm (.int n))) j5 j6)=some (.nx (envS b ths nums many (some (.imm (.int k))) (some (.imm (.int n))) (some (.imm (.list ((Hg.missed n ths).map wT)))) j6)):=z3u v5
 have c:tstB (op2 oLt (opN oLen [(nm 5)]) (opN oLen [(nm 0)])) (envS b ths nums many (some (.imm (.int k))) (some (.imm (.int n))) (some (.imm (.list ((Hg.missed n ths).map wT)))) j6)=some (decide (((Hg.missed n ths).length:Int)<(ths.length:Int))):=by
  refine z31 (z1s (z0m (z4q (f:=nm 5) rfl) (t:=.int (Hg.missed n ths).length) (by simp[oLen])) (z0m (z4q (f:=nm 0) rfl) (zh5 b ths)) rfl)
 unfold bS
 rw[z0d s5]
 by_cases hlt:(Hg.missed n ths).length<ths.length
 ·rw[if_pos hlt]
  rw[decide_eq_true (by omega)] at c
  rw[z4k c]
  have sl:slice (nm 1) (opt (op2 oAdd (nm 3) (cst (.int 1)))) optN (envS b ths nums many (some (.imm (.int k))) (some (.imm (.int n))) (some (.imm (.list ((Hg.missed n ths).map wT)))) j6)=some (wT (nums.drop (k+1))):=by
   have h1:nm 1 (envS b ths nums many (some (.imm (.int k))) (some (.imm (.int n))) (some (.imm (.list ((Hg.missed n ths).map wT)))) j6)=some (wT nums):=rfl
   have h2:opt (op2 oAdd (nm 3) (cst (.int 1))) (envS b ths nums many (some (.imm (.int k))) (some (.imm (.int n))) (some (.imm (.list ((Hg.missed n ths).map wT)))) j6)=some (some ((k+1:Nat):Int)):=rfl
   simp only[slice,h1,h2,y0p,optN]
   exact zks nums (k+1) hk
  have sb:op2 oSub (nm 2) (cst (.int 1)) (envS b ths nums many (some (.imm (.int k))) (some (.imm (.int n))) (some (.imm (.list ((Hg.missed n ths).map wT)))) j6)=some (.int ((many:Int) - 1)):=z1s rfl rfl rfl
  have s6:asg 6 (opN rec [(nmV 5),(slice (nm 1) (opt (op2 oAdd (nm 3) (cst (.int 1)))) optN),(op2 oSub (nm 2) (cst (.int 1)))]) (envS b ths nums many (some (.imm (.int k))) (some (.imm (.int n))) (some (.imm (.list ((Hg.missed n ths).map wT)))) j6)=some (.nx (envS b ths nums many (some (.imm (.int k))) (some (.imm (.int n))) (some (.imm (.list ((Hg.missed n ths).map wT)))) (some (.imm (opW r))))) :=
   z3u (z0m (zk9 rfl sl sb) (hrec hlt))
  rw[z0d s6]
  cases r with
  | none =>
   have c6:tstB (op1 z1a (nm 6)) (envS b ths nums many (some (.imm (.int k))) (some (.imm (.int n))) (some (.imm (.list ((Hg.missed n ths).map wT)))) (some (.imm (opW none))))=some false:=rfl
   rw[z2s c6]
   rfl
  | some C =>
   have c6:tstB (op1 z1a (nm 6)) (envS b ths nums many (some (.imm (.int k))) (some (.imm (.int n))) (some (.imm (.list ((Hg.missed n ths).map wT)))) (some (.imm (opW (some C)))))=some true:=rfl
   rw[z4k c6]
   have ha:op2 oAdd (z07 [(nmV 4)]) (nm 6) (envS b ths nums many (some (.imm (.int k))) (some (.imm (.int n))) (some (.imm (.list ((Hg.missed n ths).map wT)))) (some (.imm (opW (some C)))))=some (wT (n::C)) :=
    z1s (z3x (z4q rfl) (by simp)) rfl (zkb n C (by have:=hr C rfl;omega))
   simp only[rtn,ha,y1m,endN]
 ·rw[if_neg hlt]
  rw[decide_eq_false (by omega)] at c
  rw[z2s c]
theorem zde {ths:List (List Nat)} {nums:List Nat} {many:Nat} {C:List Nat} (h:Hg.stopsR ths nums many=some C):C.length<=nums.length:=(Hg.stops_sound h).1.length_le
theorem zdm {rec:List T->Option T} (b:Bool) (ths:List (List Nat)) (nums:List Nat) (many:Nat) (hm:many≠0) (hne:ths≠[]) (hl:ths.length<=1000) (hnum:nums.length<=800)
  (hrec:∀os ns,ns.length<nums.length->os.length<=1000->rec [.list (os.map wT),wT ns,.int ((many:Int) - 1)]=some (opW (Hg.stopsR os ns (many - 1)))) :
  ∀(ns:List Nat) (k:Nat) (j3 j4 j5 j6:Option Sl),nums.drop k=ns->∃ε,forL (gTu [(gNm 3),(gNm 4)]) (bS rec) (((ns.map fun (k:Nat)=>PyData.int (k:Int)).zipIdx k).map fun p=>.tuple [.int p.2,p.1]) (envS b ths nums many j3 j4 j5 j6)=some (endW ε (Hg.stopsR ths ns many))
 | [],k,j3,j4,j5,j6,_=>by
  refine⟨envS b ths nums many j3 j4 j5 j6,?_⟩
  have:Hg.stopsR ths [] many=none:=by
   unfold Hg.stopsR
   rw[if_neg (by simpa using hne)]
  rw[this]
  rfl
 | n::ns,k,j3,j4,j5,j6,hd=>by
  have hk:k<nums.length:=by
   rcases Nat.lt_or_ge k nums.length with q|q
   ·exact q
   ·rw[List.drop_of_length_le q] at hd
    cases hd
  have hd':nums.drop (k+1)=ns:=by
   rw[List.drop_eq_getElem_cons hk] at hd
   exact (List.cons.inj hd).2
  have hnl:ns.length<nums.length:=by
   rw[<- hd',List.length_drop]
   omega
  have hml:(Hg.missed n ths).length<=1000:=y1l (y22 _ _) hl
  have st:=zku (rec:=rec) b ths nums many hm hl k n hk (Hg.stopsR (Hg.missed n ths) ns (many - 1)) (fun C h=>by have:=zde h;omega) (fun _=>by rw[hd'];exact hrec _ ns hnl hml) j5 j6
  have e0:gTu [(gNm 3),(gNm 4)] (.tuple [.int k,.int n]) (envS b ths nums many j3 j4 j5 j6)=some (envS b ths nums many (some (.imm (.int k))) (some (.imm (.int n))) j5 j6):=rfl
  have he:ths.isEmpty=false:=by simpa using hne
  rw[y0d,List.zipIdx_cons,y0d]
  by_cases hlt:(Hg.missed n ths).length<ths.length
  ·rw[if_pos hlt] at st
   cases hs:Hg.stopsR (Hg.missed n ths) ns (many - 1) with
   | some C =>
    rw[hs] at st
    have unf:Hg.stopsR ths (n::ns) many=some (n::C):=by
     simp only[Hg.stopsR,he,y1p,if_false,hm,hlt,if_true,hs]
    rw[unf]
    refine⟨envS b ths nums many j3 j4 j5 j6,?_⟩
    simp only[forL,e0,y0p,st,endN]
    rfl
   | none =>
    rw[hs] at st
    have unf:Hg.stopsR ths (n::ns) many=Hg.stopsR ths ns many:=by
     conv=>lhs;simp only[Hg.stopsR,he,y1p,if_false,hm,hlt,if_true,hs]
    rw[unf]
    obtain⟨ε,ih⟩:=zdm b ths nums many hm hne hl hnum hrec ns (k+1) (some (.imm (.int k))) (some (.imm (.int n))) (some (.imm (.list ((Hg.missed n ths).map wT)))) (some (.imm .none)) hd'
    exact⟨ε,by rw[z3c e0 st];exact ih⟩
  ·rw[if_neg hlt] at st
   have unf:Hg.stopsR ths (n::ns) many=Hg.stopsR ths ns many:=by
    conv=>lhs;simp only[Hg.stopsR,he,y1p,if_false,hm,hlt]
   rw[unf]
   obtain⟨ε,ih⟩:=zdm b ths nums many hm hne hl hnum hrec ns (k+1) (some (.imm (.int k))) (some (.imm (.int n))) (some (.imm (.list ((Hg.missed n ths).map wT)))) j6 hd'
   exact⟨ε,by rw[z3c e0 st];exact ih⟩
theorem zba:∀(n:Nat) (b:Bool) (ths:List (List Nat)) (nums:List Nat) (many:Nat),nums.length<n->ths.length<=1000->nums.length<=800->z1n n [seqT b ths,wT nums,.int many]=some (opW (Hg.stopsR ths nums many))
 | 0,b,ths,nums,many,h,_,_=>by omega
 | n+1,b,ths,nums,many,h,hl,hnum=>by
  have e0:z1n (n+1) [seqT b ths,wT nums,.int many]=(z3d (z1n n) (envS b ths nums many none none none none)).bind fun o=>match o with|.rt t=>some t|.nx _=>some .none|_=>none:=rfl
  rw[e0]
  have c1:notT (tstL (nm 0)) (envS b ths nums many none none none none)=some (!(!ths.isEmpty)):=by
   have:tstL (nm 0) (envS b ths nums many none none none none)=some (!ths.isEmpty):=zg2 rfl
   simp only[notT,this,y1m]
  by_cases hne:ths=[]
  ·subst hne
   have r:z3d (z1n n) (envS b [] nums many none none none none)=some (.rt (.tuple [])):=by
    unfold z3d
    simp only[seq,z4k (show notT (tstL (nm 0)) (envS b [] nums many none none none none)=some true from c1),rtn]
    rfl
   rw[r,Hg.stopsR_nil]
   rfl
  ·have he:ths.isEmpty=false:=by cases ths with
    | nil=>exact absurd rfl hne
    | cons a b=>rfl
   rw[he] at c1
   have c2:tstB (op2 oEq (nm 2) (cst (.int 0))) (envS b ths nums many none none none none)=some (decide ((many:Int)=0)):=z31 (z1s rfl rfl (oEq_int _ _))
   by_cases hm:many=0
   ·subst hm
    have hs:Hg.stopsR ths nums 0=none:=by
     cases nums with
     | nil=>unfold Hg.stopsR;rw[if_neg (by simpa using hne)]
     | cons a r=>unfold Hg.stopsR;rw[if_neg (by simpa using hne),if_pos rfl]
    have r:z3d (z1n n) (envS b ths nums 0 none none none none)=some (.rt .none):=by
     unfold z3d
     rw[z0d (z2s c1)]
     simp only[seq,z4k (show tstB (op2 oEq (nm 2) (cst (.int 0))) (envS b ths nums 0 none none none none)=some true from c2),rtn]
     rfl
    rw[r,hs]
    rfl
   ·rw[decide_eq_false (by omega)] at c2
    have hmi:(many:Int) - 1=((many - 1:Nat):Int):=by omega
    obtain⟨ε,hlp⟩:=zdm (rec:=z1n n) b ths nums many hm hne hl hnum (fun os ns h1 h2=>by
     rw[hmi]
     exact zba n false os ns (many - 1) (by omega) h2 (by omega)) nums 0 none none none none rfl
    have it:z24 (z6v (nmV 1)) (envS b ths nums many none none none none)=some (((nums.map fun (k:Nat)=>PyData.int (k:Int)).zipIdx 0).map fun p=>.tuple [.int p.2,p.1]):=rfl
    have hf:for_ (z24 (z6v (nmV 1))) (gTu [(gNm 3),(gNm 4)]) (bS (z1n n)) (envS b ths nums many none none none none)=some (endW ε (Hg.stopsR ths nums many)):=by
     simp only[for_,it,y0p]
     exact hlp
    have r:z3d (z1n n) (envS b ths nums many none none none none)=some (.rt (opW (Hg.stopsR ths nums many))):=by
     unfold bS at hf
     unfold z3d
     rw[z0d (z2s c1),z0d (z2s c2)]
     cases hs:Hg.stopsR ths nums many with
     | some C =>
      rw[hs] at hf
      simp only[seq,hf,y0p,endW]
      rfl
     | none =>
      rw[hs] at hf
      rw[z0d hf]
      rfl
    rw[r]
    rfl
def bF:Fs:=(seq (asg 5 (opN (z1n 20) [(nmV 2),(nmV 3),(nmV 4)]))
  (iff (tstB (op1 z1a (nm 5))) (rtn (nm 5)) skip))
def envF (h:T) (room:Int) (ths:List (List Nat)) (nums:List Nat) (j4 j5:Option Sl):Ev:=[some (.imm h),some (.imm (.int room)),some (.imm (seqT true ths)),some (.imm (wT nums)),j4,j5]
theorem zid (h:T) (room:Int) (ths:List (List Nat)) (nums:List Nat) (hl:ths.length<=1000) (hnum:nums.length<20):∀(ms:List Nat) (j4 j5:Option Sl) (C:List Nat),Hg.fewL ths nums ms=some C->forL (gNm 4) bF (ms.map fun (k:Nat)=>PyData.int (k:Int)) (envF h room ths nums j4 j5)=some (.rt (wT C))
 | [],j4,j5,C,e=>by cases e
 | m::ms,j4,j5,C,e=>by
  have hs:=zba 20 true ths nums m hnum hl (by omega)
  have e0:gNm 4 (.int m) (envF h room ths nums j4 j5)=some (envF h room ths nums (some (.imm (.int m))) j5):=rfl
  have s5:asg 5 (opN (z1n 20) [(nmV 2),(nmV 3),(nmV 4)]) (envF h room ths nums (some (.imm (.int m))) j5)=some (.nx (envF h room ths nums (some (.imm (.int m))) (some (.imm (opW (Hg.stopsR ths nums m)))))):=z3u (z0m (zk9 rfl rfl rfl) hs)
  unfold Hg.fewL at e
  cases hr:Hg.stopsR ths nums m with
  | some C' =>
   rw[hr] at e s5
   cases e
   have st:bF (envF h room ths nums (some (.imm (.int m))) j5)=some (.rt (wT C)):=by
    unfold bF
    rw[z0d s5,z4k (show tstB (op1 z1a (nm 5)) _=some true from rfl)]
    rfl
   rw[y0d]
   simp only[forL,e0,y0p,st]
  | none =>
   rw[hr] at e s5
   have st:bF (envF h room ths nums (some (.imm (.int m))) j5)=some (.nx (envF h room ths nums (some (.imm (.int m))) (some (.imm .none)))):=by
    unfold bF
    rw[z0d s5,z2s (show tstB (op1 z1a (nm 5)) _=some false from rfl)]
    rfl
   rw[y0d,z3c e0 st]
   exact zid h room ths nums hl hnum ms _ _ C e
theorem zdp (n:Nat):rng 0 (n:Int)=(List.range n).map fun (k:Nat)=>PyData.int (k:Int):=by
 unfold rng
 simp
theorem zma (R:Int) (os:List Op) (room:Int) (ths:List (List Nat)) (hos:os.length<20):asg 3 (opN z4h [(opN oLen [(op2 oIx (nm 0) (cst (.int 1)))])]) [some (.imm (z04 R os)),some (.imm (.int room)),some (.imm (seqT true ths)),none,none,none]=some (.nx (envF (z04 R os) room ths (List.range os.length) none none)):=by
 have h1:opN oLen [(op2 oIx (nm 0) (cst (.int 1)))] [some (.imm (z04 R os)),some (.imm (.int room)),some (.imm (seqT true ths)),none,none,none]=some (.int os.length):=z0m (z4q (z1s (x:=z04 R os) rfl rfl (t:=.tuple (os.map opT)) rfl)) (by simp[oLen])
 have h2:z4h [.int os.length]=some (wT (List.range os.length)):=by
  have hb:(0:Int)<=(os.length:Int)/\(os.length:Int)<=100000:=⟨by omega,by omega⟩
  have e:z4h [.int os.length]=if (0:Int)<=(os.length:Int)/\(os.length:Int)<=100000 then some (.tuple (rng 0 (os.length:Int))) else none:=by unfold z4h;rfl
  rw[e,if_pos hb,zdp,wT]
 exact z3u (z0m (z4q h1) h2)
theorem small_of {j:Int} (h0:0<=j) (h1:j<=100):z2v j=true:=by
 unfold z2v
 simp
 omega
theorem zm6 {f:Fe} {ε:Ev} {j:Int} (h:f ε=some (.int j)) (h0:0<=j) (h1:j<=100):z3h f ε=some (rng 0 j):=by
 unfold z3h
 rw[h]
 simp only[y0p]
 rw[if_pos (small_of h0 h1)]
theorem zmb (R:Int) (os:List Op) (room:Int) (ths:List (List Nat)) (hos:os.length<20):z3h (op2 oAdd (opN oLen [(nm 3)]) (cst (.int 1))) (envF (z04 R os) room ths (List.range os.length) none none)=some ((List.range (os.length+1)).map fun (k:Nat)=>PyData.int (k:Int)):=by
 have h0:opN oLen [(nm 3)] (envF (z04 R os) room ths (List.range os.length) none none)=some (.int os.length):=z0m (z4q (x:=wT (List.range os.length)) rfl) (by simp[oLen,wT])
 have h1:op2 oAdd (opN oLen [(nm 3)]) (cst (.int 1)) (envF (z04 R os) room ths (List.range os.length) none none)=some (.int ((os.length:Int)+1)):=z1s h0 rfl rfl
 have e:(os.length:Int)+1=((os.length+1:Nat):Int):=by omega
 rw[zm6 h1 (by omega) (by omega),e,zdp]
theorem z9n {R:Int} {os:List Op} {room:Int} {ths:List (List Nat)} {C:List Nat} (hw:z0n [z04 R os,.int room]=some (.tuple (ths.map wT))) (hl:ths.length<=1000) (hos:os.length<20)
  (hC:Hg.fewL ths (List.range os.length) (List.range (os.length+1))=some C):z0w [z04 R os,.int room]=some (wT C):=by
 have e0:z0w [z04 R os,.int room]=(z5o [some (.imm (z04 R os)),some (.imm (.int room)),none,none,none,none]).bind fun o=>match o with|.rt t=>some t|.nx _=>some .none|_=>none:=rfl
 rw[e0]
 have s2:asg 2 (opN z0n [(nmV 0),(nmV 1)]) [some (.imm (z04 R os)),some (.imm (.int room)),none,none,none,none]=some (.nx [some (.imm (z04 R os)),some (.imm (.int room)),some (.imm (seqT true ths)),none,none,none]):=z3u (z0m (z2p rfl rfl) hw)
 have s3:=zma R os room ths hos
 have it:=zmb R os room ths hos
 have hf:for_ (z3h (op2 oAdd (opN oLen [(nm 3)]) (cst (.int 1)))) (gNm 4) bF (envF (z04 R os) room ths (List.range os.length) none none)=some (.rt (wT C)):=by
  simp only[for_,it,y0p]
  exact zid (z04 R os) room ths (List.range os.length) hl (by simpa using hos) _ none none C hC
 have r:z5o [some (.imm (z04 R os)),some (.imm (.int room)),none,none,none,none]=some (.rt (wT C)):=by
  unfold bF at hf
  unfold z5o
  rw[z0d s2,z0d s3]
  simp only[seq,hf,y0p]
 rw[r]
 rfl
theorem zc3 (v:List Nat):∀(w:List Nat) (j:Option Sl),z2o (gNm 0) (cstT true) (op2 (oIn false) (nm 0) (nm 1)) (w.map fun (k:Nat)=>PyData.int (k:Int)) [j,some (.imm (wT v))]=some ((w.map fun k=>decide (k∈v)).map .bool)
 | [],j=>rfl
 | k::w,j=>by
  have ih:=zc3 v w (some (.imm (.int k)))
  have e0:gNm 0 (.int k) [j,some (.imm (wT v))]=some [some (.imm (.int k)),some (.imm (wT v))]:=rfl
  have x:op2 (oIn false) (nm 0) (nm 1) [some (.imm (.int k)),some (.imm (wT v))]=some (.bool (decide (k∈v))):=z1s rfl rfl (zef false k v)
  simp only[y0d,z2o,e0,y0p,cstT,if_true,x,ih,y1m]
theorem z50:∀bs:List Bool,z5a (bs.map .bool)=some bs
 | []=>rfl
 | b::bs=>by
  simp only[y0d,z5a,z50 bs]
  rfl
theorem za4 (w v:List Nat) (hl:w.length<=1000):z0q [wT w,wT v]=some (.bool (Hg.aptB w v)):=by
 have e0:z0q [wT w,wT v]=(z4p [some (.imm (wT w)),some (.imm (wT v))]).bind fun o=>match o with|.rt t=>some t|.nx _=>some .none|_=>none:=rfl
 rw[e0]
 have hc:comp 1 [1] (z0i (nmV 0)) (gNm 0) (cstT true) (op2 (oIn false) (nm 0) (nm 1)) [some (.imm (wT w)),some (.imm (wT v))]=some (.list ((w.map fun k=>decide (k∈v)).map .bool)):=by
  have it:z0i (nmV 0) [some (.imm (wT w)),some (.imm (wT v))]=some (w.map fun (k:Nat)=>PyData.int (k:Int)):=rfl
  have hcap:z1j 1 [1] [some (.imm (wT w)),some (.imm (wT v))]=[none,some (.imm (wT v))]:=rfl
  simp only[comp,it,y0p,hcap,zc3,y13]
  rw[if_pos (by unfold big;omega)]
  rfl
 have ha:opN oAny [(comp 1 [1] (z0i (nmV 0)) (gNm 0) (cstT true) (op2 (oIn false) (nm 0) (nm 1)))] [some (.imm (wT w)),some (.imm (wT v))]=some (.bool ((w.map fun k=>decide (k∈v)).any id)):=by
  refine z0m (z4q hc) ?_
  simp only[oAny,z50,y1m]
 simp only[z4p,rtn,notV,ha,y0p,y1m,Hg.aptB,List.any_map,y16,id]
theorem zc5 (w:List Nat) (hl:w.length<=1000):∀(vs:List (List Nat)) (j:Option Sl),z2o (gNm 0) (tstB (opN z0q [(nmV 1),(nmV 0)])) (nmV 0) (vs.map wT) [j,some (.imm (wT w))]=some ((vs.filter (Hg.aptB w)).map wT)
 | [],j=>rfl
 | v::vs,j=>by
  have ih:=zc5 w hl vs (some (.imm (wT v)))
  have e0:gNm 0 (wT v) [j,some (.imm (wT w))]=some [some (.imm (wT v)),some (.imm (wT w))]:=rfl
  have c:tstB (opN z0q [(nmV 1),(nmV 0)]) [some (.imm (wT v)),some (.imm (wT w))]=some (Hg.aptB w v):=z31 (z0m (z2p rfl rfl) (za4 w v hl))
  have x:nmV 0 [some (.imm (wT v)),some (.imm (wT w))]=some (wT v):=rfl
  cases h:Hg.aptB w v with
  | true=>rw[h] at c;simp only[y0d,z2o,e0,c,y0p,if_true,x,ih,List.filter_cons,h,y1m]
  | false=>rw[h] at c;simp only[y0d,z2o,e0,c,y0p,y1p,if_false,ih,List.filter_cons,h]
noncomputable def bA (rec:List T->Option T):Fs:=(seq (asg 4 (comp 1 [3] (z0i (slice (nm 0) (opt (op2 oAdd (nm 2) (cst (.int 1)))) optN)) (gNm 0) (tstB (opN z0q [(nmV 1),(nmV 0)])) (nmV 0)))
  (seq (asg 5 (opN rec [(nmV 4),(op2 oSub (nm 1) (cst (.int 1)))]))
  (iff (tstB (op1 z1a (nm 5))) (rtn (op2 oAdd (z07 [(nmV 3)]) (nm 5))) skip)))
def envA (b:Bool) (ths:List (List Nat)) (many:Nat) (j2 j3 j4 j5:Option Sl):Ev:=[some (.imm (seqT b ths)),some (.imm (.int many)),j2,j3,j4,j5]
theorem zmc {m:Nat} {ths B:List (List Nat)} (h:Hg.faR m ths=some B):B.length=m:=(Hg.fa_sound h).2.1
theorem zih {rec:List T->Option T} (b:Bool) (ths:List (List Nat)) (m:Nat) (hm:m<=1000) (hl:ths.length<=1000) (hw:∀w∈ths,w.length<=1000)
  (hrec:∀vs,vs.length<=1000->(∀w∈vs,w.length<=1000)->rec [.list (vs.map wT),.int (((m+1:Nat):Int) - 1)]=some (opR (Hg.faR m vs))) :
  ∀(ws:List (List Nat)) (k:Nat) (j2 j3 j4 j5:Option Sl),ths.drop k=ws->∃ε,forL (gTu [(gNm 2),(gNm 3)]) (bA rec) (((ws.map wT).zipIdx k).map fun p=>.tuple [.int p.2,p.1]) (envA b ths (m+1) j2 j3 j4 j5)=some (match Hg.faL (Hg.faR m) ws with|some B=>.rt (.tuple (B.map wT))|none=>.nx ε)
 | [],k,j2,j3,j4,j5,_=>⟨envA b ths (m+1) j2 j3 j4 j5,rfl⟩
 | w::ws,k,j2,j3,j4,j5,hd=>by
  have hk:k<ths.length:=by
   rcases Nat.lt_or_ge k ths.length with q|q
   ·exact q
   ·rw[List.drop_of_length_le q] at hd
    cases hd
  have hd':ths.drop (k+1)=ws:=by
   rw[List.drop_eq_getElem_cons hk] at hd
   exact (List.cons.inj hd).2
  have hmem:∀v∈w::ws,v∈ths:=fun v hv=>List.mem_of_mem_drop (by rw[hd];exact hv)
  have hwl:=hw w (hmem w (by simp))
  have hwsl:ws.length<=1000:=by rw[<- hd',List.length_drop];omega
  have e0:gTu [(gNm 2),(gNm 3)] (.tuple [.int k,wT w]) (envA b ths (m+1) j2 j3 j4 j5)=some (envA b ths (m+1) (some (.imm (.int k))) (some (.imm (wT w))) j4 j5):=rfl
  have sl:slice (nm 0) (opt (op2 oAdd (nm 2) (cst (.int 1)))) optN (envA b ths (m+1) (some (.imm (.int k))) (some (.imm (wT w))) j4 j5)=some (seqT b ws):=by
   have h1:nm 0 (envA b ths (m+1) (some (.imm (.int k))) (some (.imm (wT w))) j4 j5)=some (seqT b ths):=rfl
   have h2:opt (op2 oAdd (nm 2) (cst (.int 1))) (envA b ths (m+1) (some (.imm (.int k))) (some (.imm (wT w))) j4 j5)=some (some ((k+1:Nat):Int)):=rfl
   simp only[slice,h1,h2,y0p,optN]
   rw[zit b ths (k+1) hk,hd']
  have v4:comp 1 [3] (z0i (slice (nm 0) (opt (op2 oAdd (nm 2) (cst (.int 1)))) optN)) (gNm 0) (tstB (opN z0q [(nmV 1),(nmV 0)])) (nmV 0) (envA b ths (m+1) (some (.imm (.int k))) (some (.imm (wT w))) j4 j5)=some (.list ((ws.filter (Hg.aptB w)).map wT)):=by
   have it:=zar sl
   have hcap:z1j 1 [3] (envA b ths (m+1) (some (.imm (.int k))) (some (.imm (wT w))) j4 j5)=[none,some (.imm (wT w))]:=rfl
   simp only[comp,it,y0p,hcap,zc5 w hwl,y13]
   rw[if_pos (by unfold big;omega)]
   rfl
  have s4:asg 4 (comp 1 [3] (z0i (slice (nm 0) (opt (op2 oAdd (nm 2) (cst (.int 1)))) optN)) (gNm 0) (tstB (opN z0q [(nmV 1),(nmV 0)])) (nmV 0)) (envA b ths (m+1) (some (.imm (.int k))) (some (.imm (wT w))) j4 j5)=some (.nx (envA b ths (m+1) (some (.imm (.int k))) (some (.imm (wT w))) (some (.imm (.list ((ws.filter (Hg.aptB w)).map wT)))) j5)):=z3u v4
  have hr:=hrec (ws.filter (Hg.aptB w)) (y1l (y22 _ _) hwsl) fun v hv=>hw v (hmem v (y05 _ (List.mem_filter.mp hv).1))
  have s5:asg 5 (opN rec [(nmV 4),(op2 oSub (nm 1) (cst (.int 1)))]) (envA b ths (m+1) (some (.imm (.int k))) (some (.imm (wT w))) (some (.imm (.list ((ws.filter (Hg.aptB w)).map wT)))) j5)=some (.nx (envA b ths (m+1) (some (.imm (.int k))) (some (.imm (wT w))) (some (.imm (.list ((ws.filter (Hg.aptB w)).map wT)))) (some (.imm (opR (Hg.faR m (ws.filter (Hg.aptB w)))))))) :=
   z3u (z0m (z2p rfl (z1s rfl rfl rfl)) hr)
  rw[y0d,List.zipIdx_cons,y0d,Hg.faL]
  cases hs:Hg.faR m (ws.filter (Hg.aptB w)) with
  | some B =>
   rw[hs] at s5
   have hB:=zmc hs
   refine⟨envA b ths (m+1) j2 j3 j4 j5,?_⟩
   have st:bA rec (envA b ths (m+1) (some (.imm (.int k))) (some (.imm (wT w))) j4 j5)=some (.rt (.tuple ((w::B).map wT))):=by
    unfold bA
    rw[z0d s4,z0d s5,z4k (show tstB (op1 z1a (nm 5)) _=some true from rfl)]
    have ha:op2 oAdd (z07 [(nmV 3)]) (nm 5) (envA b ths (m+1) (some (.imm (.int k))) (some (.imm (wT w))) (some (.imm (.list ((ws.filter (Hg.aptB w)).map wT)))) (some (.imm (opR (some B)))))=some (.tuple ((w::B).map wT)) :=
     z1s (z3x (z4q rfl) (by simp)) rfl (za9 (by simp;omega))
    simp only[rtn,ha,y1m]
   simp only[forL,e0,y0p,st]
  | none =>
   rw[hs] at s5
   have st:bA rec (envA b ths (m+1) (some (.imm (.int k))) (some (.imm (wT w))) j4 j5)=some (.nx (envA b ths (m+1) (some (.imm (.int k))) (some (.imm (wT w))) (some (.imm (.list ((ws.filter (Hg.aptB w)).map wT)))) (some (.imm .none)))):=by
    unfold bA
    rw[z0d s4,z0d s5,z2s (show tstB (op1 z1a (nm 5)) _=some false from rfl)]
    rfl
   obtain⟨ε,ih⟩:=zih b ths m hm hl hw hrec ws (k+1) (some (.imm (.int k))) (some (.imm (wT w))) (some (.imm (.list ((ws.filter (Hg.aptB w)).map wT)))) (some (.imm .none)) hd'
   exact⟨ε,by rw[z3c e0 st];exact ih⟩
theorem z48:∀(n:Nat) (b:Bool) (ths:List (List Nat)) (many:Nat),many<n->many<=1000->ths.length<=1000->(∀w∈ths,w.length<=1000)->z0g n [seqT b ths,.int many]=some (opR (Hg.faR many ths))
 | 0,b,ths,many,h,_,_,_=>by omega
 | n+1,b,ths,many,h,hm,hl,hw=>by
  have e0:z0g (n+1) [seqT b ths,.int many]=(z0y (z0g n) (envA b ths many none none none none)).bind fun o=>match o with|.rt t=>some t|.nx _=>some .none|_=>none:=rfl
  rw[e0]
  have c2:tstB (op2 oEq (nm 1) (cst (.int 0))) (envA b ths many none none none none)=some (decide ((many:Int)=0)):=z31 (z1s rfl rfl (oEq_int _ _))
  cases many with
  | zero =>
   have r:z0y (z0g n) (envA b ths 0 none none none none)=some (.rt (.tuple [])):=by
    unfold z0y
    simp only[seq,z4k (show tstB (op2 oEq (nm 1) (cst (.int 0))) (envA b ths 0 none none none none)=some true from c2),rtn]
    rfl
   rw[r]
   rfl
  | succ m =>
   rw[decide_eq_false (by omega)] at c2
   have hmi:((m+1:Nat):Int) - 1=(m:Int):=by omega
   obtain⟨ε,hlp⟩:=zih (rec:=z0g n) b ths m (by omega) hl hw (fun vs h1 h2=>by
    rw[hmi]
    exact z48 n false vs m (by omega) (by omega) h1 h2) ths 0 none none none none rfl
   have it:z24 (z0i (nmV 0)) (envA b ths (m+1) none none none none)=some (((ths.map wT).zipIdx 0).map fun p=>.tuple [.int p.2,p.1]):=by
    have:=zar (f:=nmV 0) (ε:=envA b ths (m+1) none none none none) (b:=b) (ws:=ths) rfl
    simp only[z24,this,y1m]
    rfl
   have hf:for_ (z24 (z0i (nmV 0))) (gTu [(gNm 2),(gNm 3)]) (bA (z0g n)) (envA b ths (m+1) none none none none)=some (match Hg.faL (Hg.faR m) ths with|some B=>.rt (.tuple (B.map wT))|none=>.nx ε):=by
    simp only[for_,it,y0p]
    exact hlp
   have r:z0y (z0g n) (envA b ths (m+1) none none none none)=some (.rt (opR (Hg.faR (m+1) ths))):=by
    unfold bA at hf
    unfold z0y
    rw[z0d (z2s c2)]
    show seq _ _ _=some (.rt (opR (Hg.faL (Hg.faR m) ths)))
    cases hs:Hg.faL (Hg.faR m) ths with
    | some C =>
     rw[hs] at hf
     simp only[seq,hf,y0p]
     rfl
    | none =>
     rw[hs] at hf
     rw[z0d hf]
     rfl
   rw[r]
   rfl
theorem zc9 {R:Int} {os:List Op} {room:Int} {ths:List (List Nat)} {C:List Nat} (hw:z0n [z04 R os,.int room]=some (.tuple (ths.map wT))) (hl:ths.length<=1000) (hwl:∀w∈ths,w.length<=1000) (hf:z0w [z04 R os,.int room]=some (wT C)) (hC:C.length<20):z23 [z04 R os,.int room]=some (opR (Hg.faR C.length ths)):=by
 have e0:z23 [z04 R os,.int room]=(zaz [some (.imm (z04 R os)),some (.imm (.int room))]).bind fun o=>match o with|.rt t=>some t|.nx _=>some .none|_=>none:=rfl
 rw[e0]
 have h1:opN z0n [(nmV 0),(nmV 1)] [some (.imm (z04 R os)),some (.imm (.int room))]=some (seqT true ths):=z0m (z2p rfl rfl) hw
 have h2:opN oLen [(opN z0w [(nmV 0),(nmV 1)])] [some (.imm (z04 R os)),some (.imm (.int room))]=some (.int C.length):=z0m (z4q (z0m (z2p rfl rfl) hf)) (by simp[oLen,wT])
 have h3:opN (z0g 20) [(opN z0n [(nmV 0),(nmV 1)]),(opN oLen [(opN z0w [(nmV 0),(nmV 1)])])] [some (.imm (z04 R os)),some (.imm (.int room))]=some (opR (Hg.faR C.length ths)):=z0m (z2p h1 h2) (z48 20 true ths C.length hC (by omega) hl hwl)
 simp only[zaz,rtn,h3,y1m,y0p]
end Wo
end
section
namespace Qo
open PySem D Ho Wo
local instance:Tbl:=⟨[],fun _=>[],fun _=>none⟩
theorem zbk (w:List Nat):(wT w).canLay0=true/\(wT w).depth<=2:=by
 have hi:=z85 (cstN w)
 rw[z53]
 simp only[PyData.canLay0,y20,hi.1,true_and]
 have:=hi.2
 omega
theorem ze8:∀ws:List (List Nat),y1f (ws.map wT)=true/\y1d (ws.map wT)<=2
 | []=>by simp[y1f,y1d]
 | w::ws=>by
  have h1:=zbk w
  have h2:=ze8 ws
  simp only[y0d,y1f,y1d,h1.1,h2.1,Bool.and_self,true_and]
  have:=h1.2
  have:=h2.2
  omega
theorem zgr (w:List Nat):okT (wT w)=true:=by
 have:=zbk w
 simp[okT,this.1]
 omega
theorem zc7:∀{x y:List Nat},cstN x=cstN y->x=y
 | [],[],_=>rfl
 | [],_::_,h=>by simp[cstN] at h
 | _::_,[],h=>by simp[cstN] at h
 | a::x,b::y,h=>by
  simp only[cstN,y0d,List.cons.injEq] at h
  have h1:a=b:=by omega
  rw[h1,zc7 (show cstN x=cstN y from h.2)]
theorem zk0 (x y:List Nat):y1w (wT x) (wT y)=decide (x=y):=by
 rw[z53,z53,zhg]
 exact decide_eq_decide.mpr ⟨zc7,fun h=>by rw[h]⟩
theorem z9d:∀xs ys:List Int,lexD (xs.map .int) (ys.map .int)=some (ltL xs ys)
 | [],[]=>by simp[lexD,ltL]
 | [],_::_=>by simp[lexD,ltL]
 | _::_,[]=>by simp[lexD,ltL]
 | a::x,b::y=>by
  have ih:=z9d x y
  simp only[y0d,lexD,ltL,y1w]
  by_cases h:a=b
  ·subst h
   simp[ih]
  ·have:(a == b)=false:=by simpa using h
   simp[this,h,ltD]
def ltN (x y:List Nat):Bool:=ltL (cstN x) (cstN y)
theorem zjo (x y:List Nat):ltD (wT x) (wT y)=some (ltN x y):=by
 rw[z53,z53]
 simp only[ltD,z9d,ltN]
def ltK (x y:List Nat):Bool:=decide (x.length<y.length) || (decide (x.length=y.length) && ltN x y)
def pT (x:List Nat):T:=.tuple [.int x.length,wT x]
theorem zjn (x:List Nat):ltN x x=false:=zel _
theorem zh4 (x y:List Nat):ltD (pT x) (pT y)=some (ltK x y):=by
 simp only[pT,ltD,lexD,y1w,zk0,zjo,ltK]
 by_cases h:x.length=y.length
 ·have e:((x.length:Int) == (y.length:Int))=true:=by simp[h]
  simp only[e,if_true,h,Nat.lt_irrefl,decide_false,Bool.false_or,decide_true,Bool.true_and]
  by_cases q:x=y
  ·subst q
   simp[zjn]
  ·simp[q]
 ·have e:((x.length:Int) == (y.length:Int))=false:=by simp;omega
  simp only[e,y1p,if_false,h,decide_false,Bool.false_and,Bool.or_false]
  congr 1
  exact decide_eq_decide.mpr (by omega)
theorem zgt (x:List Nat):okT (pT x)=true:=by
 have:=zbk x
 simp[okT,pT,PyData.canLay0,y20,y1f,y1d,this.1]
 omega
def rwT (B:List (List Nat)):T:=.tuple (B.map wT)
theorem zls (B:List (List Nat)):(rwT B).canLay0=true/\(rwT B).depth<=3:=by
 have h:=ze8 B
 simp only[rwT,PyData.canLay0,y20,h.1,true_and]
 have:=h.2
 omega
theorem ze9 (B:List (List Nat)):okT (rwT B)=true:=by
 have:=zls B
 simp[okT,this.1]
 omega
def zej (b:List Nat):List (List Nat)->List Nat
 | []=>b
 | d::ds=>if ltK d b then zej d ds else zej b ds
def minW:List (List Nat)->List Nat
 | []=>[]
 | d::ds=>zej d ds
theorem zi9 (ε:Ev) (w:List Nat):keyE (z07 [(opN oLen [(nm 0)]),(nmV 0)]) ε (wT w)=some (pT w):=by
 have b2:(2:Nat)<=big:=by unfold big;omega
 have hl:(w.map fun (k:Nat)=>PyData.int (k:Int)).length=w.length:=by simp
 have e1:z07 [(opN oLen [(nm 0)]),(nmV 0)] (some (.imm (wT w))::ε)=some (pT w):=by
  simp only[z07,args,opN,nm,nmV,y26,y0p,y1m,wT,oLen,hl,y0w,y29,if_pos b2]
  rfl
 unfold keyE
 rw[e1]
 simp only[y0p,zgt,if_true]
theorem z4i (ε:Ev):∀(ds:List (List Nat)) (b:List Nat),z3a (keyE (z07 [(opN oLen [(nm 0)]),(nmV 0)]) ε) (wT b) (pT b) (ds.map wT)=some (wT (zej b ds))
 | [],b=>rfl
 | d::ds,b=>by
  rw[y0d,z3a,zi9]
  simp only[y0p,zh4]
  unfold zej
  by_cases h:ltK d b=true
  ·rw[if_pos h,if_pos h,z4i ε ds d]
  ·rw[if_neg h,if_neg h,z4i ε ds b]
theorem zml {h:T} {room:Int} {ws:List (List Nat)} (hw:z0n [h,.int room]=some (.tuple (ws.map wT))) (hne:ws≠[]):z0v [h,.int room]=some (.tuple (ws.map wT)):=by
 have e1:opN z0n [(nmV 0),(nmV 1)] [some (.imm h),some (.imm (.int room)),none]=some (.tuple (ws.map wT)):=by
  simp only[opN,args,nmV,y27,y26,y0p,y1m,hw]
 have e2:notT (tstL (nm 2)) [some (.imm h),some (.imm (.int room)),some (.imm (.tuple (ws.map wT)))]=some false:=by
  cases ws with
  | nil=>exact absurd rfl hne
  | cons w ws=>rfl
 have hs:z2b [some (.imm h),some (.imm (.int room)),none]=some (.rt (.tuple (ws.map wT))):=by
  unfold z2b seq asg
  rw[e1]
  simp only[y1m,y0p,List.set_cons_succ,List.set_cons_zero]
  unfold iff
  rw[e2]
  rfl
 unfold z0v runF
 show Option.bind (z2b [some (.imm h),some (.imm (.int room)),none]) _=_
 rw[hs]
 rfl
theorem zga {h:T} {room:Int} {ws:List (List Nat)} (hw:z0n [h,.int room]=some (.tuple (ws.map wT))) (hne:ws≠[]):z13 [h,.int room]=some (wT (minW ws)):=by
 have e1:opN z0v [(nmV 0),(nmV 1)] [some (.imm h),some (.imm (.int room))]=some (.tuple (ws.map wT)):=by
  simp only[opN,args,nmV,y27,y26,y0p,y1m,zml hw hne]
 have hs:z42 [some (.imm h),some (.imm (.int room))]=some (.rt (wT (minW ws))):=by
  unfold z42 rtn zh2
  rw[e1]
  simp only[y0p]
  cases ws with
  | nil=>exact absurd rfl hne
  | cons d ds =>
   rw[y0d,minK,zi9]
   simp only[y0p,z4i,y1m]
   rfl
 unfold z13 runF
 show Option.bind (z42 [some (.imm h),some (.imm (.int room))]) _=_
 rw[hs]
 rfl
theorem zn9 {h:T} {room:Int} {ws:List (List Nat)} (hw:z0n [h,.int room]=some (.tuple (ws.map wT))) (h0:0<=room) (h9:room<1000):z1l [.imm h,.imm (.int room)]=ws.isEmpty:=by
 have e1:opN z0n [(nmV 0),(nmV 1)] [some (.imm h),some (.imm (.int room)),none]=some (.tuple (ws.map wT)):=by
  simp only[opN,args,nmV,y27,y26,y0p,y1m,hw]
 have e2:notT (tstL (nm 2)) [some (.imm h),some (.imm (.int room)),some (.imm (.tuple (ws.map wT)))]=some ws.isEmpty:=by
  cases ws with
  | nil=>rfl
  | cons w ws=>rfl
 have l1:(("no way leads to room ":Str)).length<=1000:=by decide
 have n1:room.natAbs<1000:=by omega
 show z2w [some (.imm h),some (.imm (.int room)),none]=ws.isEmpty
 unfold z2w seqZ asg
 rw[e1]
 simp only[y1m,List.set_cons_succ,List.set_cons_zero]
 unfold iffZ
 rw[e2]
 cases ws with
 | nil =>
  show D.okZ _ _=true
  unfold D.okZ op1
  have e3:nm 1 [some (.imm h),some (.imm (.int room)),some (.imm (.tuple (([]:List (List Nat)).map wT)))]=some (.int room):=rfl
  rw[e3]
  simp only[y0p,zck,if_pos (And.intro n1 l1),Option.isSome_some]
 | cons w ws=>rfl
theorem ziz {h:T} {room:Int} {ws:List (List Nat)} (hw:z0n [h,.int room]=some (.tuple (ws.map wT))) (h0:0<=room) (h9:room<1000):z12 [.imm h,.imm (.int room)]=ws.isEmpty:=by
 show z4e [some (.imm h),some (.imm (.int room))]=ws.isEmpty
 unfold z4e z5i
 have a:agsE [.v (nmV 0),.v (nmV 1)] [some (.imm h),some (.imm (.int room))]=some [.imm h,.imm (.int room)]:=rfl
 rw[a]
 exact zn9 hw h0 h9
def qT (ws:List (List Nat)):T:=if ws.isEmpty then .tuple [.str "refused",.int 1] else .tuple [.str "told",wT (minW ws)]
theorem z71 {h:T} {room:Int} {ws:List (List Nat)} (hw:z0n [h,.int room]=some (.tuple (ws.map wT))) (h0:0<=room) (h9:room<1000) {ε:Ev} {f g:Fe} (hf:f ε=some h) (hg:g ε=some (.int room)) :
  z7v (z5h (opN z13 [f,g])) (z5i z12 [.v f,.v g]) 1 ε=some (qT ws,ε):=by
 have a:agsE [.v f,.v g] ε=some [.imm h,.imm (.int room)]:=by simp only[agsE,hf,hg,y0p,y1m]
 have m:z5i z12 [.v f,.v g] ε=ws.isEmpty:=by
  unfold z5i
  rw[a]
  exact ziz hw h0 h9
 unfold z7v qT
 rw[m]
 cases ws with
 | nil=>rfl
 | cons w ws =>
  have q:=zga hw (by simp)
  simp only[List.isEmpty_cons,y1p,if_false,zg3,z5h,opN,args,hf,hg,y0p,y1m,q]
end Qo
end
section
namespace K26
open PySem D Ho Wo Qo
local instance:Tbl:=⟨[],fun _=>[],fun _=>none⟩
def tau (R x:Int):Int:=if x=0 then 0 else R+1 - x
theorem zab {R x:Int} (h0:0<=x) (h1:x<=R):0<=tau R x/\tau R x<=R:=by unfold tau;split <;> omega
theorem z4b {R x y:Int} (h0:0<=x) (h1:x<=R) (k0:0<=y) (k1:y<=R):tau R x=tau R y <-> x=y:=by unfold tau;split <;> split <;> omega
theorem zaa {R x:Int} (h0:0<=x) (h1:x<=R):tau R (tau R x)=x:=by unfold tau;split <;> split <;> omega
theorem tau0 (R:Int):tau R 0=0:=rfl
def te (R:Int) (e:Int×Int):Int×Int:=(min (tau R e.1) (tau R e.2),max (tau R e.1) (tau R e.2))
theorem zig {R:Int} {e:Int×Int} (he:0<=e.1/\e.1<=R/\0<=e.2/\e.2<=R) (hne:e.1≠e.2) {x:Int} (h0:0<=x) (h1:x<=R):Hg.adj (te R e) (tau R x)=(Hg.adj e x).map (tau R):=by
 obtain⟨a1,a2,b1,b2⟩:=he
 have t1:=z4b a1 a2 h0 h1
 have t2:=z4b b1 b2 h0 h1
 have t3:=z4b a1 a2 b1 b2
 unfold Hg.adj te
 by_cases q1:e.1=x
 ·have q2:¬e.2=x:=fun z=>hne (q1.trans z.symm)
  rw[if_pos q1]
  have u1:=t1.mpr q1
  have u2:¬tau R e.2=tau R x:=fun z=>q2 (t2.mp z)
  simp only[y1m]
  by_cases c:tau R e.1<=tau R e.2
  ·rw[if_pos (by rw[Int.min_eq_left c];exact u1),Int.max_eq_right c]
  ·rw[if_neg (by rw[Int.min_eq_right (by omega)];exact u2),if_pos (by rw[Int.max_eq_left (by omega)];exact u1),Int.min_eq_right (by omega)]
 ·rw[if_neg q1]
  have u1:¬tau R e.1=tau R x:=fun z=>q1 (t1.mp z)
  by_cases q2:e.2=x
  ·rw[if_pos q2]
   have u2:=t2.mpr q2
   simp only[y1m]
   by_cases c:tau R e.1<=tau R e.2
   ·rw[if_neg (by rw[Int.min_eq_left c];exact u1),if_pos (by rw[Int.max_eq_right c];exact u2),Int.min_eq_left c]
   ·rw[if_pos (by rw[Int.min_eq_right (by omega)];exact u2),Int.max_eq_left (by omega)]
  ·rw[if_neg q2]
   have u2:¬tau R e.2=tau R x:=fun z=>q2 (t2.mp z)
   rw[if_neg (by show ¬min (tau R e.1) (tau R e.2)=tau R x;omega),if_neg (by show ¬max (tau R e.1) (tau R e.2)=tau R x;omega)]
   rfl
theorem zjm {R:Int} {t:Int} {pl:List Int} (ht:0<=t/\t<=R) (hp:∀x∈pl,0<=x/\x<=R):tau R t∈pl.map (tau R) <-> t∈pl:=by
 constructor
 ·intro h
  obtain⟨y,hy,e⟩:=y0m.mp h
  have:=(z4b (hp y hy).1 (hp y hy).2 ht.1 ht.2).mp e
  exact this▸hy
 ·exact fun h=>y0m.mpr ⟨t,h,rfl⟩
section
variable {R:Int} {E:List (Int×Int)} (hW:Hg.Within R E) (hne:∀e∈E,e.1≠e.2)
include hW hne
theorem zbw {rec rec':List Int->Option (List (List Nat))} {pl:List Int} (hp:∀x∈pl,0<=x/\x<=R) (hr:∀t,0<=t->t<=R->rec' ((pl++[t]).map (tau R))=rec (pl++[t])) {h:Int} (h0:0<=h) (h1:h<=R) :
  ∀(F:List (Int×Int)) (k:Nat),(∀e∈F,e∈E)->Hg.exts rec' (pl.map (tau R)) (tau R h) k (F.map (te R))=Hg.exts rec pl h k F
 | [],k,_=>rfl
 | e::F,k,hF=>by
  have he:=hF e (by simp)
  have ih:=zbw hp hr h0 h1 F (k+1) fun y hy=>hF y (y05 _ hy)
  have a:=zig (hW e he) (hne e he) h0 h1
  rw[y0d,Hg.exts,Hg.exts,a]
  cases q:Hg.adj e h with
  | none=>exact ih
  | some t =>
   have ht:=Hg.adj_within hW ⟨e,he,q⟩
   have m:=zjm ht hp
   simp only[y1m]
   by_cases c:t∈pl
   ·rw[if_pos c,if_pos (m.mpr c)]
    exact ih
   ·rw[if_neg c,if_neg (fun z=>c (m.mp z)),ih]
    have:=hr t ht.1 ht.2
    rw[List.map_append,y0d,y18] at this
    rw[this]
theorem zb3 {room:Int} (r0:0<=room) (r1:room<=R):∀(n:Nat) (pl:List Int),(∀x∈pl,0<=x/\x<=R)->Hg.waysP (E.map (te R)) (tau R room) n (pl.map (tau R))=Hg.waysP E room n pl
 | 0,pl,_=>rfl
 | n+1,pl,hp=>by
  rw[Hg.waysP,Hg.waysP,List.getLast?_map]
  cases q:pl.getLast? with
  | none=>rfl
  | some h =>
   have hh:=hp h (List.mem_of_getLast? q)
   have ti:=z4b hh.1 hh.2 r0 r1
   simp only[y1m]
   by_cases c:h=room
   ·rw[if_pos c,if_pos (ti.mpr c)]
   ·rw[if_neg c,if_neg (fun z=>c (ti.mp z))]
    exact zbw hW hne hp (fun t t0 t1=>zb3 r0 r1 n (pl++[t]) fun x hx=>by
     rcases y10.mp hx with z|z
     ·exact hp x z
     ·rw[y0z.mp z]
      exact⟨t0,t1⟩) hh.1 hh.2 E 0 fun e he=>he
theorem z92 {x:Int} (h:Hg.Reach E x):(0<=x/\x<=R)\/x=0:=by
 cases h with
 | zero=>exact .inr rfl
 | step r a=>exact .inl (Hg.adj_within hW a)
theorem zbg (hR:0<=R) {x:Int} (h:Hg.Reach E x):Hg.Reach (E.map (te R)) (tau R x):=by
 induction h with
 | zero=>exact .zero
 | step r a ih =>
  rename_i y z
  have hy:0<=y/\y<=R:=by
   rcases z92 hW hne r with q|q
   ·exact q
   ·subst q;exact⟨Int.le_refl _,hR⟩
  obtain⟨e,he,ea⟩:=a
  refine .step ih ⟨te R e,y0m.mpr ⟨e,he,rfl⟩,?_⟩
  rw[zig (hW e he) (hne e he) hy.1 hy.2,ea]
  rfl
end
theorem zmr {R:Int} {e:Int×Int} (he:0<=e.1/\e.1<=R/\0<=e.2/\e.2<=R) (hlt:e.1<e.2):te R (te R e)=e:=by
 have t1:=zaa he.1 he.2.1
 have t2:=zaa he.2.2.1 he.2.2.2
 unfold te
 dsimp only
 by_cases c:tau R e.1<=tau R e.2
 ·have m1:min (tau R e.1) (tau R e.2)=tau R e.1:=by omega
  have m2:max (tau R e.1) (tau R e.2)=tau R e.2:=by omega
  rw[m1,m2,t1,t2,Int.min_eq_left (by omega),Int.max_eq_right (by omega)]
 ·have m1:min (tau R e.1) (tau R e.2)=tau R e.2:=by omega
  have m2:max (tau R e.1) (tau R e.2)=tau R e.1:=by omega
  rw[m1,m2,t1,t2,Int.min_eq_right (by omega),Int.max_eq_left (by omega)]
def trn (R:Int) (o:Op):Op:=((te R (edge o)).1,(te R (edge o)).2,o.2.2)
theorem zfb (R:Int) (os:List Op):(os.map (trn R)).map edge=(os.map edge).map (te R):=by rw[y2c,y2c];rfl
theorem zbu (R:Int) (ns:List Str) (os:List Op):z05 ns (os.map (trn R))=(z05 ns os).map (te R):=by
 unfold z05
 have f:∀o,free ns (trn R o)=free ns o:=fun o=>rfl
 rw[List.filter_map,y2c,y2c]
 have e:(free ns ∘ trn R)=free ns:=funext f
 rw[e]
 rfl
theorem z6e {R:Int} {os:List Op} (d:Drawn R os):Drawn R (os.map (trn R)):=by
 refine⟨d.r1,d.r7,by simpa using d.len,fun o' ho'=>?_⟩
 obtain⟨o,ho,rfl⟩:=y0m.mp ho'
 obtain⟨h1,h2,h3,h4⟩:=d.ok o ho
 have t1:=zab (R:=R) h1 (by omega)
 have t2:=zab (R:=R) (x:=o.2.1) (by omega) h3
 have ti:=z4b (R:=R) (x:=o.1) (y:=o.2.1) h1 (by omega) (by omega) h3
 have ne:tau R o.1≠tau R o.2.1:=fun z=>by have:=ti.mp z;omega
 refine⟨?_,?_,?_,h4⟩
 ·show 0<=min (tau R o.1) (tau R o.2.1)
  omega
 ·show min (tau R o.1) (tau R o.2.1)<max (tau R o.1) (tau R o.2.1)
  omega
 ·show max (tau R o.1) (tau R o.2.1)<=R
  omega
theorem z39 {R:Int} {os:List Op} (d:Drawn R os):∀e∈os.map edge,e.1≠e.2:=fun e he=>by
 obtain⟨o,ho,rfl⟩:=y0m.mp he
 obtain⟨h1,h2,h3,h4⟩:=d.ok o ho
 show o.1≠o.2.1
 omega
theorem z8b (ns:List Str) (os:List Op):∀e∈z05 ns os,e∈os.map edge:=fun e he=>by
 unfold z05 at he
 obtain⟨o,ho,rfl⟩:=y0m.mp he
 exact y0m.mpr ⟨o,(List.mem_filter.mp ho).1,rfl⟩
theorem zdq {R:Int} {os:List Op} (d:Drawn R os) (ns:List Str):z14 (z05 ns (os.map (trn R)))=z1p ((z14 (z05 ns os)).map (tau R)):=by
 have hR:0<=R:=by have:=d.r1;omega
 have d':=z6e d
 obtain⟨_,m1,p1,b1⟩:=z5j (z1u d ns) hR d.r7
 obtain⟨_,m2,p2,b2⟩:=z5j (z1u d' ns) hR d.r7
 have hW:=z1u d ns
 have hW':=z1u d' ns
 have hne:∀e∈z05 ns os,e.1≠e.2:=fun e he=>z39 d e (z8b ns os e he)
 have hne':∀e∈z05 ns (os.map (trn R)),e.1≠e.2:=fun e he=>z39 d' e (z8b ns _ e he)
 have back:(z05 ns (os.map (trn R))).map (te R)=z05 ns os:=by
  rw[zbu,y2c]
  have:(z05 ns os).map (te R ∘ te R)=(z05 ns os).map id:=List.map_congr_left fun e he=>zmr (hW e he) (by
   obtain⟨o,ho,rfl⟩:=y0m.mp (z8b ns os e he)
   exact (d.ok o ho).2.1)
  rw[this,List.map_id]
 have nd:((z14 (z05 ns os)).map (tau R)).Nodup:=by
  refine List.pairwise_map.mpr (p1.imp_of_mem fun {x y} hx hy h z=>?_)
  have:=(z4b (b1 x hx).1 (b1 x hx).2 (b1 y hy).1 (b1 y hy).2).mp z
  omega
 have hp:=z1v ((z14 (z05 ns os)).map (tau R))
 refine zek p2 ?_ fun x=>?_
 ·have nd2:(z1p ((z14 (z05 ns os)).map (tau R))).Nodup:=hp.nodup_iff.mpr nd
  exact ((z4s _).and nd2).imp fun h=>by have h1:=h.1;have h2:=h.2;omega
 ·rw[hp.mem_iff,m2]
  constructor
  ·intro h
   have h1:=zbg hW' hne' hR h
   rw[back] at h1
   have bx:0<=x/\x<=R:=by
    rcases z92 hW' hne' h with q|q
    ·exact q
    ·subst q;exact⟨Int.le_refl _,hR⟩
   exact y0m.mpr ⟨tau R x,(m1 _).mpr h1,zaa bx.1 bx.2⟩
  ·intro h
   obtain⟨y,hy,rfl⟩:=y0m.mp h
   have:=zbg hW hne hR ((m1 y).mp hy)
   rw[<- zbu] at this
   exact this
theorem z81 (R x:Int):z0p [.int R,.int x]=some (.int (tau R x)):=by
 have tb2:(2:Nat)<=16777216:=by omega
 have e1:z1d [(op2 oSub (op2 oAdd (nm 0) (cst (.int 1))) (nm 1)),(cst (.int 0))] [some (.imm (.int R)),some (.imm (.int x))]=some (.list [.int (R+1 - x),.int 0]):=by
  simp[z1d,args,op2,nm,cst,oAdd,oSub,big]
 have e2:opN oInt [(op2 oEq (nm 1) (cst (.int 0)))] [some (.imm (.int R)),some (.imm (.int x))]=some (.int (if x=0 then 1 else 0)):=by
  refine z0m (z4q (z1s rfl rfl (Ho.oEq_int x 0))) ?_
  by_cases h:x=0 <;> simp[oInt,h]
 have hs:z5n [some (.imm (.int R)),some (.imm (.int x))]=some (.rt (.int (tau R x))):=by
  unfold z5n rtn
  have:op2 oIx (z1d [(op2 oSub (op2 oAdd (nm 0) (cst (.int 1))) (nm 1)),(cst (.int 0))]) (opN oInt [(op2 oEq (nm 1) (cst (.int 0)))]) [some (.imm (.int R)),some (.imm (.int x))]=some (.int (tau R x)):=by
   refine z1s e1 e2 ?_
   unfold tau
   by_cases h:x=0
   ·rw[if_pos h,if_pos h];rfl
   ·rw[if_neg h,if_neg h];rfl
  rw[this]
  rfl
 unfold z0p runF
 show Option.bind (z5n [some (.imm (.int R)),some (.imm (.int x))]) _=_
 rw[hs]
 rfl
theorem zn1 (a b:Int):z2j [.list [.int a,.int b]]=some (.list [.int (min a b),.int (max a b)]):=by
 have h:z1p [a,b]=[min a b,max a b]:=by
  by_cases c:a<=b
  ·have m1:min a b=a:=by omega
   have m2:max a b=b:=by omega
   simp[z1p,insI,c,m1,m2]
  ·have m1:min a b=b:=by omega
   have m2:max a b=a:=by omega
   simp[z1p,insI,c,m1,m2]
 simp[z2j,z47,h]
noncomputable def bO:Fs:=(seq (asg 7 (opN z2j [(z1d [(opN z0p [(nmV 1),(nmV 4)]),(opN z0p [(nmV 1),(nmV 5)])])]))
  (asg 3 (op2 oAdd (nm 3) (z07 [(z07 [(op2 oIx (nm 7) (cst (.int 0))),(op2 oIx (nm 7) (cst (.int 1))),(nmV 6)])]))))
noncomputable def W (ns:List Int) (R:Int) (os acc:List Op) (s4 s5 s6 s7 s8 s9 s10 s11 s12 s13 s14:Option Sl):Ev :=
 [some (.imm (D.scriptT ns)),some (.imm (.int R)),some (.imm (.tuple (os.map opT))),some (.imm (.tuple (acc.map opT))),s4,s5,s6,s7,s8,s9,s10,s11,s12,s13,s14]
theorem zi8 (ns:List Int) (R:Int) (os0:List Op):∀(os acc:List Op) (s4 s5 s6 s7:Option Sl),acc.length+os.length<=1000->∃t4 t5 t6 t7,forL (gTu [(gNm 4),(gNm 5),(gNm 6)]) bO (os.map opT) (W ns R os0 acc s4 s5 s6 s7 none none none none none none none)=some (.nx (W ns R os0 (acc++os.map (trn R)) t4 t5 t6 t7 none none none none none none none))
 | [],acc,s4,s5,s6,s7,_=>⟨s4,s5,s6,s7,by simp[forL]⟩
 | o::os,acc,s4,s5,s6,s7,hl=>by
  simp only[y0w] at hl
  obtain⟨t4,t5,t6,t7,ih⟩:=zi8 ns R os0 os (acc++[trn R o]) (some (.imm (.int o.1))) (some (.imm (.int o.2.1))) (some (.imm (zT o.2.2))) (some (.imm (.list [.int (min (tau R o.1) (tau R o.2.1)),.int (max (tau R o.1) (tau R o.2.1))]))) (by simp;omega)
  refine⟨t4,t5,t6,t7,?_⟩
  have g:gTu [(gNm 4),(gNm 5),(gNm 6)] (opT o) (W ns R os0 acc s4 s5 s6 s7 none none none none none none none)=some (W ns R os0 acc (some (.imm (.int o.1))) (some (.imm (.int o.2.1))) (some (.imm (zT o.2.2))) s7 none none none none none none none):=rfl
  have st:bO (W ns R os0 acc (some (.imm (.int o.1))) (some (.imm (.int o.2.1))) (some (.imm (zT o.2.2))) s7 none none none none none none none)=some (.nx (W ns R os0 (acc++[trn R o]) (some (.imm (.int o.1))) (some (.imm (.int o.2.1))) (some (.imm (zT o.2.2))) (some (.imm (.list [.int (min (tau R o.1) (tau R o.2.1)),.int (max (tau R o.1) (tau R o.2.1))]))) none none none none none none none)):=by
   unfold bO
   have e1:opN z2j [(z1d [(opN z0p [(nmV 1),(nmV 4)]),(opN z0p [(nmV 1),(nmV 5)])])] (W ns R os0 acc (some (.imm (.int o.1))) (some (.imm (.int o.2.1))) (some (.imm (zT o.2.2))) s7 none none none none none none none)=some (.list [.int (min (tau R o.1) (tau R o.2.1)),.int (max (tau R o.1) (tau R o.2.1))]):=by
    refine z0m (z4q (x:=.list [.int (tau R o.1),.int (tau R o.2.1)]) ?_) (zn1 _ _)
    have a1:opN z0p [(nmV 1),(nmV 4)] (W ns R os0 acc (some (.imm (.int o.1))) (some (.imm (.int o.2.1))) (some (.imm (zT o.2.2))) s7 none none none none none none none)=some (.int (tau R o.1)):=z0m (z2p rfl rfl) (z81 R o.1)
    have a2:opN z0p [(nmV 1),(nmV 5)] (W ns R os0 acc (some (.imm (.int o.1))) (some (.imm (.int o.2.1))) (some (.imm (zT o.2.2))) s7 none none none none none none none)=some (.int (tau R o.2.1)):=z0m (z2p rfl rfl) (z81 R o.2.1)
    unfold z1d
    rw[z2p a1 a2]
    rfl
   rw[z0d (z3u e1)]
   have e2:op2 oAdd (nm 3) (z07 [(z07 [(op2 oIx (nm 7) (cst (.int 0))),(op2 oIx (nm 7) (cst (.int 1))),(nmV 6)])]) (W ns R os0 acc (some (.imm (.int o.1))) (some (.imm (.int o.2.1))) (some (.imm (zT o.2.2))) (some (.imm (.list [.int (min (tau R o.1) (tau R o.2.1)),.int (max (tau R o.1) (tau R o.2.1))]))) none none none none none none none)=some (.tuple ((acc++[trn R o]).map opT)):=by
    have a1:z07 [(op2 oIx (nm 7) (cst (.int 0))),(op2 oIx (nm 7) (cst (.int 1))),(nmV 6)] (W ns R os0 acc (some (.imm (.int o.1))) (some (.imm (.int o.2.1))) (some (.imm (zT o.2.2))) (some (.imm (.list [.int (min (tau R o.1) (tau R o.2.1)),.int (max (tau R o.1) (tau R o.2.1))]))) none none none none none none none)=some (opT (trn R o)):=z3x (zk9 rfl rfl rfl) (by simp)
    refine z1s (x:=.tuple (acc.map opT)) rfl (z3x (z4q a1) (by simp)) ?_
    rw[za9 (by simp;omega),List.map_append]
    rfl
   exact z3u e2
  rw[y0d,z3c g st,ih,List.append_assoc]
  rfl
theorem z4w {t:T} (h:okT t=true):oNe t t=some (.bool false):=by
 have hc:t.canLay0=true:=by
  unfold okT at h
  simp only[y1a] at h
  exact h.1
 unfold oNe
 rw[h,PySem.SeqAt.eqv_refl t hc]
 rfl
theorem z68:∀(ns:List Int),z47 (ns.map .int)=some ns
 | []=>rfl
 | n::ns=>by
  rw[y0d,z47,z68 ns]
  rfl
theorem zc1 (R:Int):∀(xs:List Int) (j:Option Sl),z2o (gNm 0) (cstT true) (opN z0p [(nmV 1),(nmV 0)]) (xs.map .int) [j,some (.imm (.int R))]=some ((xs.map (tau R)).map .int)
 | [],j=>rfl
 | x::xs,j=>by
  have ih:=zc1 R xs (some (.imm (.int x)))
  have g:gNm 0 (.int x) [j,some (.imm (.int R))]=some [some (.imm (.int x)),some (.imm (.int R))]:=rfl
  have e:opN z0p [(nmV 1),(nmV 0)] [some (.imm (.int x)),some (.imm (.int R))]=some (.int (tau R x)):=z0m (z2p rfl rfl) (z81 R x)
  rw[y0d,z2o,g]
  simp only[y0p,cstT,if_true,e]
  rw[ih]
  rfl
noncomputable def V (ns:List Int) (R:Int) (os:List Op) (s4 s5 s6 s7 s10 s11 s12 s13 s14:Option Sl):Ev:=W ns R os (os.map (trn R)) s4 s5 s6 s7 (some (.imm (z04 R os))) (some (.imm (z04 R (os.map (trn R))))) s10 s11 s12 s13 s14
noncomputable def bN:Fs:=(seq (asg 11 (opN z2j [(comp 1 [1] (z0i (opN z15 [(nmV 8),(nmV 10)])) (gNm 0) (cstT true) (opN z0p [(nmV 1),(nmV 0)]))]))
  (iff (tstB (op2 oNe (opN z15 [(nmV 9),(nmV 10)]) (opN z3f [(nm 11)]))) (rtn (cst (.bool false))) skip))
theorem zeh {ns:List Int} {R:Int} {os:List Op} (d:Drawn R os) {xs:List Str} (hx:z6p xs) (s4 s5 s6 s7 s11:Option Sl):∃t11,bN (V ns R os s4 s5 s6 s7 (some (.imm (z0c xs))) s11 none none none)=some (.nx (V ns R os s4 s5 s6 s7 (some (.imm (z0c xs))) t11 none none none)):=by
 have hR:0<=R:=by have:=d.r1;omega
 have d':=z6e d
 obtain⟨⟨r,h1,h2,h3⟩,_⟩:=z5j (z1u d xs) hR d.r7
 have hlen:(z14 (z05 xs os)).length<=8:=by rw[h3,(z1v r).length_eq];exact h2
 have u1:opN z15 [(nmV 8),(nmV 10)] (V ns R os s4 s5 s6 s7 (some (.imm (z0c xs))) s11 none none none)=some (.tuple ((z14 (z05 xs os)).map .int)):=z0m (z2p rfl rfl) (z70 d hx)
 have c1:comp 1 [1] (z0i (opN z15 [(nmV 8),(nmV 10)])) (gNm 0) (cstT true) (opN z0p [(nmV 1),(nmV 0)]) (V ns R os s4 s5 s6 s7 (some (.imm (z0c xs))) s11 none none none)=some (.list (((z14 (z05 xs os)).map (tau R)).map .int)):=by
  have it:z0i (opN z15 [(nmV 8),(nmV 10)]) (V ns R os s4 s5 s6 s7 (some (.imm (z0c xs))) s11 none none none)=some ((z14 (z05 xs os)).map .int):=by
   unfold z0i
   rw[u1]
   rfl
  have b:((z14 (z05 xs os)).map PyData.int).length<=big:=by rw[y13];unfold big;omega
  unfold comp
  rw[it]
  simp only[y0p,if_pos b]
  have cp:z1j 1 [1] (V ns R os s4 s5 s6 s7 (some (.imm (z0c xs))) s11 none none none)=[none,some (.imm (.int R))]:=rfl
  rw[cp,zc1]
  rfl
 have so:z2j [.list (((z14 (z05 xs os)).map (tau R)).map .int)]=some (.list ((z1p ((z14 (z05 xs os)).map (tau R))).map .int)):=by
  have b:(((z14 (z05 xs os)).map (tau R)).map PyData.int).length<64:=by simp only[y13];omega
  simp only[z2j,if_pos b,z68]
 refine⟨some (.imm (.list ((z1p ((z14 (z05 xs os)).map (tau R))).map .int))),?_⟩
 unfold bN
 rw[z0d (z3u (z0m (z4q c1) so))]
 have t1:op2 oNe (opN z15 [(nmV 9),(nmV 10)]) (opN z3f [(nm 11)]) (V ns R os s4 s5 s6 s7 (some (.imm (z0c xs))) (some (.imm (.list ((z1p ((z14 (z05 xs os)).map (tau R))).map .int)))) none none none)=some (.bool false):=by
  have u2:opN z15 [(nmV 9),(nmV 10)] (V ns R os s4 s5 s6 s7 (some (.imm (z0c xs))) (some (.imm (.list ((z1p ((z14 (z05 xs os)).map (tau R))).map .int)))) none none none)=some (.tuple ((z14 (z05 xs (os.map (trn R)))).map .int)):=z0m (z2p rfl rfl) (z70 d' hx)
  refine z1s u2 (z0m (z4q rfl) rfl) ?_
  rw[zdq d]
  exact z4w (zgu _)
 exact (zbp (z31 t1)).trans rfl
theorem zic {E:List (Int×Int)}:∀{w:List Nat} {x:Int} {q:List Int},Hg.Fol E x w q->∀k∈w,k<E.length
 | [],_,_,_,k,hk=>by cases hk
 | j::w,x,q,h,k,hk=>by
  obtain⟨e,t,r,h1,_,_,h4⟩:=h
  rcases y09.mp hk with rfl|hk
  ·exact (y0k.mp h1).1
  ·exact zic h4 k hk
noncomputable def bR:Fs:=(seq (asg 13 (opN z0p [(nmV 1),(nmV 12)]))
  (seq (iff (orT (tstB (op2 oNe (opN z0n [(nmV 9),(nmV 13)]) (opN z0n [(nmV 8),(nmV 12)]))) (tstB (op2 oNe (opN z23 [(nmV 9),(nmV 13)]) (opN z23 [(nmV 8),(nmV 12)])))) (rtn (cst (.bool false))) skip)
  (seq (iff (tstB (op2 oNe (opN z0w [(nmV 9),(nmV 13)]) (opN z0w [(nmV 8),(nmV 12)]))) (rtn (cst (.bool false))) skip)
  (seq (asgX 14 (z7v (z5h (opN z13 [(nmV 9),(nmV 13)])) (z5i z12 [.v (nmV 9),.v (nmV 13)]) 1))
  (iffX (tstX (op2X oNe (z7v (z5h (opN z13 [(nmV 8),(nmV 12)])) (z5i z12 [.v (nmV 8),.v (nmV 12)]) 1) (z5h (nmV 14)))) (rtn (cst (.bool false))) skip)))))
theorem zlu (ws:List (List Nat)):okT (qT ws)=true:=by
 unfold qT
 split
 ·decide +kernel
 ·have h:=zbk (minW ws)
  have c:(y1s "told").canLay0=true:=by decide +kernel
  simp[okT,PyData.canLay0,y1f,y20,y1d,h.1]
  refine⟨?_,?_⟩
  ·first|exact c|decide|simpa [PyData.canLay0] using c
  ·have:=h.2;omega
theorem zjk (o:Option (List (List Nat))):okT (opR o)=true:=by
 cases o with
 | none=>rfl
 | some B=>exact ze9 B
theorem zgs (ws:List (List Nat)):okT (.tuple (ws.map wT))=true:=ze9 ws
theorem zl4 {ns:List Int} {R:Int} {os:List Op} (d:Drawn R os) {x:Int} (x1:1<=x) (x2:x<=R) (s4 s5 s6 s7 s10 s11 s13 s14:Option Sl):∃t13 t14,bR (V ns R os s4 s5 s6 s7 s10 s11 (some (.imm (.int x))) s13 s14)=some (.nx (V ns R os s4 s5 s6 s7 s10 s11 (some (.imm (.int x))) t13 t14)):=by
 have d':=z6e d
 have hr7:=d.r7
 have tr:=zab (R:=R) (x:=x) (by omega) x2
 obtain⟨ws,w1,w2,w3⟩:=zb2 d x
 obtain⟨ws',v1,v2,v3⟩:=zb2 d' (tau R x)
 have ew:ws'=ws:=by
  have:=zb3 (z52 d) (z39 d) (room:=x) (by omega) x2 20 [0] (fun y hy=>by
   rw[y0z.mp hy]
   exact⟨Int.le_refl _,by omega⟩)
  rw[zfb] at v1
  rw[y0d,y18,tau0,w1,v1] at this
  exact y28 this
 subst ew
 have wf:ws'.length<=36:=Hg.ways_few (z39 d) (by simpa using d.len) w1
 have wl:∀w∈ws',w.length<=1000:=fun w hw=>by have:=z8l 20 [0] ws' w1 w hw;omega
 have hne:∀w∈ws',w≠[]/\∀k∈w,k<os.length:=fun w hw=>by
  obtain⟨p,f1,f2,f3⟩:=(Hg.ways_char w1 w).mp hw
  refine⟨?_,fun k hk=>?_⟩
  ·rintro rfl
   cases p with
   | nil =>
    simp at f3
    omega
   | cons _ _=>cases f1
  ·have:=zic f1 k hk
   simpa using this
 obtain⟨C,c1,c2,c3,c4,c5⟩:=Hg.few_spec hne
 have len':(os.map (trn R)).length=os.length:=by simp
 have f1:=z9n (C:=C) w2 (by omega) (by have:=d.len;omega) c1
 have f2:=z9n (os:=os.map (trn R)) (C:=C) v2 (by omega) (by have:=d'.len;omega) (by rw[len'];exact c1)
 have hC:C.length<20:=by have:=c2.length_le;simp at this;have:=d.len;omega
 have a1:=zc9 w2 (by omega) wl f1 hC
 have a2:=zc9 v2 (by omega) wl f2 hC
 refine⟨some (.imm (.int (tau R x))),some (.imm (qT ws')),?_⟩
 unfold bR
 rw[z0d (z3u (z0m (z2p rfl rfl) (z81 R x)))]
 have env:(V ns R os s4 s5 s6 s7 s10 s11 (some (.imm (.int x))) s13 s14).set 13 (some (.imm (.int (tau R x))))=V ns R os s4 s5 s6 s7 s10 s11 (some (.imm (.int x))) (some (.imm (.int (tau R x)))) s14:=rfl
 rw[env]
 have o1:op2 oNe (opN z0n [(nmV 9),(nmV 13)]) (opN z0n [(nmV 8),(nmV 12)]) (V ns R os s4 s5 s6 s7 s10 s11 (some (.imm (.int x))) (some (.imm (.int (tau R x)))) s14)=some (.bool false):=z1s (z0m (z2p rfl rfl) v2) (z0m (z2p rfl rfl) w2) (z4w (zgs _))
 have o2:op2 oNe (opN z23 [(nmV 9),(nmV 13)]) (opN z23 [(nmV 8),(nmV 12)]) (V ns R os s4 s5 s6 s7 s10 s11 (some (.imm (.int x))) (some (.imm (.int (tau R x)))) s14)=some (.bool false):=z1s (z0m (z2p rfl rfl) a2) (z0m (z2p rfl rfl) a1) (z4w (zjk _))
 have o3:op2 oNe (opN z0w [(nmV 9),(nmV 13)]) (opN z0w [(nmV 8),(nmV 12)]) (V ns R os s4 s5 s6 s7 s10 s11 (some (.imm (.int x))) (some (.imm (.int (tau R x)))) s14)=some (.bool false):=z1s (z0m (z2p rfl rfl) f2) (z0m (z2p rfl rfl) f1) (z4w (zgr _))
 have t1:orT (tstB (op2 oNe (opN z0n [(nmV 9),(nmV 13)]) (opN z0n [(nmV 8),(nmV 12)]))) (tstB (op2 oNe (opN z23 [(nmV 9),(nmV 13)]) (opN z23 [(nmV 8),(nmV 12)]))) (V ns R os s4 s5 s6 s7 s10 s11 (some (.imm (.int x))) (some (.imm (.int (tau R x)))) s14)=some false:=by
  unfold orT
  rw[z31 o1]
  simp only[y0p,y1p,if_false]
  exact z31 o2
 rw[z0d ((zbp t1).trans rfl),z0d ((zbp (z31 o3)).trans rfl)]
 have q1:=z71 v2 tr.1 (by omega) (ε:=V ns R os s4 s5 s6 s7 s10 s11 (some (.imm (.int x))) (some (.imm (.int (tau R x)))) s14) (f:=nmV 9) (g:=nmV 13) rfl rfl
 have s1:asgX 14 (z7v (z5h (opN z13 [(nmV 9),(nmV 13)])) (z5i z12 [.v (nmV 9),.v (nmV 13)]) 1) (V ns R os s4 s5 s6 s7 s10 s11 (some (.imm (.int x))) (some (.imm (.int (tau R x)))) s14)=some (.nx (V ns R os s4 s5 s6 s7 s10 s11 (some (.imm (.int x))) (some (.imm (.int (tau R x)))) (some (.imm (qT ws'))))):=by
  unfold asgX
  rw[q1]
  rfl
 rw[z0d s1]
 have q2:=z71 w2 (by omega) (by omega) (ε:=V ns R os s4 s5 s6 s7 s10 s11 (some (.imm (.int x))) (some (.imm (.int (tau R x)))) (some (.imm (qT ws')))) (f:=nmV 8) (g:=nmV 12) rfl rfl
 unfold iffX tstX op2X
 rw[q2]
 have p1:z5h (nmV 14) (V ns R os s4 s5 s6 s7 s10 s11 (some (.imm (.int x))) (some (.imm (.int (tau R x)))) (some (.imm (qT ws'))))=some (qT ws',V ns R os s4 s5 s6 s7 s10 s11 (some (.imm (.int x))) (some (.imm (.int (tau R x)))) (some (.imm (qT ws')))):=rfl
 simp only[y0p]
 rw[p1]
 simp only[y0p,z4w (zlu ws')]
 rfl
theorem zhw {ns:List Int} {R:Int} {os:List Op} (d:Drawn R os) (s4 s5 s6 s7 s10 s11:Option Sl):∀(xs:List Int) (s12 s13 s14:Option Sl),(∀x∈xs,1<=x/\x<=R)->∃t12 t13 t14,forL (gNm 12) bR (xs.map .int) (V ns R os s4 s5 s6 s7 s10 s11 s12 s13 s14)=some (.nx (V ns R os s4 s5 s6 s7 s10 s11 t12 t13 t14))
 | [],s12,s13,s14,_=>⟨s12,s13,s14,rfl⟩
 | x::xs,s12,s13,s14,h=>by
  have hx:=h x (by simp)
  obtain⟨t13,t14,st⟩:=zl4 (ns:=ns) d hx.1 hx.2 s4 s5 s6 s7 s10 s11 s13 s14
  obtain⟨u12,u13,u14,ih⟩:=zhw (ns:=ns) d s4 s5 s6 s7 s10 s11 xs (some (.imm (.int x))) t13 t14 fun y hy=>h y (y05 _ hy)
  refine⟨u12,u13,u14,?_⟩
  have g:gNm 12 (.int x) (V ns R os s4 s5 s6 s7 s10 s11 s12 s13 s14)=some (V ns R os s4 s5 s6 s7 s10 s11 (some (.imm (.int x))) s13 s14):=rfl
  rw[y0d,z3c g st]
  exact ih
theorem zh6 (ns:List Int) (h:ns.length<=63):zct [D.scriptT ns]=some (.bool true):=by
 obtain⟨m0,hm0,x0⟩:=zh0 ns 0
 obtain⟨R,os,d,xh⟩:=zhc m0 hm0
 have hR:=d.r1
 have hR7:=d.r7
 have x0':z20 [D.scriptT ns,.int 0]=some (.int m0):=x0
 suffices hs:zk8 [some (.imm (D.scriptT ns)),none,none,none,none,none,none,none,none,none,none,none,none,none,none]=some (.rt (.bool true)) by
  unfold zct runF
  simp only[y0d,y18,y0w,y29,List.cons_append,List.nil_append]
  exact congrArg (fun o=>Option.bind o _) hs
 obtain⟨t4,t5,t6,t7,xO⟩:=zi8 ns R os os [] none none none none (by simp;have:=d.len;omega)
 rw[List.nil_append] at xO
 unfold zk8
 have e1:opN z2l [(opN z20 [(nmV 0),(cst (.int 0))])] [some (.imm (D.scriptT ns)),none,none,none,none,none,none,none,none,none,none,none,none,none,none]=some (z04 R os):=z0m (z4q (z0m (z2p rfl rfl) x0')) xh
 have s1:asgT (gTu [(gNm 1),(gNm 2)]) (opN z2l [(opN z20 [(nmV 0),(cst (.int 0))])]) [some (.imm (D.scriptT ns)),none,none,none,none,none,none,none,none,none,none,none,none,none,none]=some (.nx [some (.imm (D.scriptT ns)),some (.imm (.int R)),some (.imm (.tuple (os.map opT))),none,none,none,none,none,none,none,none,none,none,none,none]):=by
  unfold asgT
  rw[e1]
  rfl
 rw[z0d s1]
 have s2:asg 3 (z07 []) [some (.imm (D.scriptT ns)),some (.imm (.int R)),some (.imm (.tuple (os.map opT))),none,none,none,none,none,none,none,none,none,none,none,none]=some (.nx (W ns R os [] none none none none none none none none none none none)):=rfl
 rw[z0d s2]
 have s3:for_ (z0i (nmV 2)) (gTu [(gNm 4),(gNm 5),(gNm 6)]) bO (W ns R os [] none none none none none none none none none none none)=some (.nx (W ns R os (os.map (trn R)) t4 t5 t6 t7 none none none none none none none)):=xO
 refine (z0d s3).trans ?_
 have s4:par 8 9 false (z07 [(nmV 1),(nmV 2)]) (z07 [(nmV 1),(nmV 3)]) (W ns R os (os.map (trn R)) t4 t5 t6 t7 none none none none none none none)=some (.nx (V ns R os t4 t5 t6 t7 none none none none none)):=by
  unfold par
  rw[z3x (z2p (x:=.int R) (y:=.tuple (os.map opT)) rfl rfl) (by simp),z3x (z2p (x:=.int R) (y:=.tuple ((os.map (trn R)).map opT)) rfl rfl) (by simp)]
  rfl
 refine (z0d s4).trans ?_
 have k0:z6p []:=fun x hx=>by cases hx
 have k1:z6p ["a","win"]:=by
  intro x hx
  simp only[y09,y24,or_false] at hx
  rcases hx with rfl|rfl <;> decide +kernel
 have k2:z6p ["b","back","hall"]:=by
  intro x hx
  simp only[y09,y24,or_false] at hx
  rcases hx with rfl|rfl|rfl <;> decide +kernel
 obtain⟨a11,n1⟩:=zeh (ns:=ns) d k0 t4 t5 t6 t7 none
 obtain⟨b11,n2⟩:=zeh (ns:=ns) d k1 t4 t5 t6 t7 a11
 obtain⟨c11,n3⟩:=zeh (ns:=ns) d k2 t4 t5 t6 t7 b11
 have s5:for_ (z0i (z07 [(z07 []),(z07 [(cst (.str "a")),(cst (.str "win"))]),(z07 [(cst (.str "b")),(cst (.str "back")),(cst (.str "hall"))])])) (gNm 10) bN (V ns R os t4 t5 t6 t7 none none none none none)=some (.nx (V ns R os t4 t5 t6 t7 (some (.imm (z0c ["b","back","hall"]))) c11 none none none)):=by
  have it:z0i (z07 [(z07 []),(z07 [(cst (.str "a")),(cst (.str "win"))]),(z07 [(cst (.str "b")),(cst (.str "back")),(cst (.str "hall"))])]) (V ns R os t4 t5 t6 t7 none none none none none)=some [z0c [],z0c ["a","win"],z0c ["b","back","hall"]]:=rfl
  unfold for_
  rw[it]
  simp only[y0p]
  have g1:gNm 10 (z0c []) (V ns R os t4 t5 t6 t7 none none none none none)=some (V ns R os t4 t5 t6 t7 (some (.imm (z0c []))) none none none none):=rfl
  have g2:gNm 10 (z0c ["a","win"]) (V ns R os t4 t5 t6 t7 (some (.imm (z0c []))) a11 none none none)=some (V ns R os t4 t5 t6 t7 (some (.imm (z0c ["a","win"]))) a11 none none none):=rfl
  have g3:gNm 10 (z0c ["b","back","hall"]) (V ns R os t4 t5 t6 t7 (some (.imm (z0c ["a","win"]))) b11 none none none)=some (V ns R os t4 t5 t6 t7 (some (.imm (z0c ["b","back","hall"]))) b11 none none none):=rfl
  rw[z3c g1 n1,z3c g2 n2,z3c g3 n3]
  rfl
 refine (z0d s5).trans ?_
 have xr:rng 1 (R+1)=(((List.range R.toNat).map fun (k:Nat)=>(1+(k:Int)))).map PyData.int:=by
  unfold rng
  have:(R+1 - 1).toNat=R.toNat:=by congr 1;omega
  rw[this,y2c]
  rfl
 obtain⟨u12,u13,u14,xR⟩:=zhw (ns:=ns) d t4 t5 t6 t7 (some (.imm (z0c ["b","back","hall"]))) c11 ((List.range R.toNat).map fun (k:Nat)=>(1+(k:Int))) none none none (fun x hx=>by
  obtain⟨k,hk,rfl⟩:=y0m.mp hx
  have:=List.mem_range.mp hk
  omega)
 have s6:for_ (z7h (cst (.int 1)) (op2 oAdd (nm 1) (cst (.int 1)))) (gNm 12) bR (V ns R os t4 t5 t6 t7 (some (.imm (z0c ["b","back","hall"]))) c11 none none none)=some (.nx (V ns R os t4 t5 t6 t7 (some (.imm (z0c ["b","back","hall"]))) c11 u12 u13 u14)):=by
  have it:z7h (cst (.int 1)) (op2 oAdd (nm 1) (cst (.int 1))) (V ns R os t4 t5 t6 t7 (some (.imm (z0c ["b","back","hall"]))) c11 none none none)=some (rng 1 (R+1)):=by
   have e2:op2 oAdd (nm 1) (cst (.int 1)) (V ns R os t4 t5 t6 t7 (some (.imm (z0c ["b","back","hall"]))) c11 none none none)=some (.int (R+1)):=rfl
   have c1:cst (.int 1) (V ns R os t4 t5 t6 t7 (some (.imm (z0c ["b","back","hall"]))) c11 none none none)=some (.int 1):=rfl
   unfold z7h
   rw[c1,e2]
   simp only[y0p]
   rw[Wo.small_of (by omega) (by omega),Wo.small_of (j:=R+1) (by omega) (by omega)]
   rfl
  unfold for_
  rw[it,xr]
  exact xR
 refine (z0d s6).trans ?_
 rfl
end K26
end
section
namespace K26
open PySem PySem.Spec PyProof.Rows L2 D Ho Wo Qo
theorem all_mk {l:PySem.W.OpenLaw} {w:World} {K:y00} {h:Heap} {mg:Str->Option Value} {fa f1 f2 f3 f4 f5 f6 f7 f8 f9 f10 f11 f12 f13 f14 f15 f16 f17 f18 cL17 cL XD xz xw xd xt:Addr} {od1 an1 od2 an2 od3 an3 od4 an4 od5 an5 od6 an6 od7 an7 od8 an8 od9 an9 od10 an10 od11 an11 od12 an12 od13 an13 od14 an14 od15 an15 od16 an16 od17 an17 od18 an18:Option Addr} {sl1 sl2 sl3 sl4 sl5 sl6 sl7 sl8 sl9 sl10 sl11 sl12 sl13 sl14 sl15 sl16 sl17 sl18:Array (Option Value)} {oc1 kV1 dc1 pm1 cd1 ct1 oc2 kV2 dc2 pm2 cd2 ct2 oc3 kV3 dc3 pm3 cd3 ct3 oc4 kV4 dc4 pm4 cd4 ct4 oc5 kV5 dc5 pm5 cd5 ct5 oc6 kV6 dc6 pm6 cd6 ct6 oc7 kV7 dc7 pm7 cd7 ct7 oc8 kV8 dc8 pm8 cd8 ct8 oc9 kV9 dc9 pm9 cd9 ct9 oc10 kV10 dc10 pm10 cd10 ct10 oc11 kV11 dc11 pm11 cd11 ct11 oc12 kV12 dc12 pm12 cd12 ct12 oc13 kV13 dc13 pm13 cd13 ct13 oc14 kV14 dc14 pm14 cd14 ct14 oc15 kV15 dc15 pm15 cd15 ct15 oc16 kV16 dc16 pm16 cd16 ct16 oc17 kV17 dc17 pm17 ct17 oc18 kV18 dc18 pm18 ct18:Value} {t_OUTSIDE:Tok} (X:K.In h) (G:h.Ns y0n mg) (hfa:mg "law"=some (.ref fa))
  (a1:y0s K y0n "_law_drawn"=some (some (.ref f1)))
  (l1:K.lookup f1=some ⟨oc1,od1,.func (y0i "_law_drawn" "_law_drawn" (z0h z2h) (z09 z2h) (z00 z2h) .none kV1 dc1 pm1 an1 cd1 ct1),sl1⟩)
  (c1:y0f K cd1 "_law_drawn"=true)
  (k1:y08 K (.ref f1)=true)
  (a2:y0s K y0n "_law_house"=some (some (.ref f2)))
  (l2:K.lookup f2=some ⟨oc2,od2,.func (y0i "_law_house" "_law_house" (z0h z2g) (z09 z2g) (z00 z2g) .none kV2 dc2 pm2 an2 cd2 ct2),sl2⟩)
  (c2:y0f K cd2 "_law_house"=true)
  (k2:y08 K (.ref f2)=true)
  (a3:y0s K y0n "_law_cell_at"=some (some (.ref f3)))
  (l3:K.lookup f3=some ⟨oc3,od3,.func (y0i "_law_cell_at" "_law_cell_at" (z0h z1h) (z09 z1h) (z00 z1h) .none kV3 dc3 pm3 an3 cd3 ct3),sl3⟩)
  (c3:y0f K cd3 "_law_cell_at"=true)
  (k3:y08 K (.ref f3)=true)
  (a4:y0s K y0n "_law_mixed"=some (some (.ref f4)))
  (l4:K.lookup f4=some ⟨oc4,od4,.func (y0i "_law_mixed" "_law_mixed" (z0h z2f) (z09 z2f) (z00 z2f) .none kV4 dc4 pm4 an4 cd4 ct4),sl4⟩)
  (c4:y0f K cd4 "_law_mixed"=true)
  (k4:y08 K (.ref f4)=true)
  (a5:y0s K y0n "_law_room"=some (some (.ref f5)))
  (l5:K.lookup f5=some ⟨oc5,od5,.func (y0i "_law_room" "_law_room" (z0h z34) (z09 z34) (z00 z34) .none kV5 dc5 pm5 an5 cd5 ct5),sl5⟩)
  (c5:y0f K cd5 "_law_room"=true)
  (k5:y08 K (.ref f5)=true)
  (a6:y0s K y0n "_law_told"=some (some (.ref f6)))
  (l6:K.lookup f6=some ⟨oc6,od6,.func (y0i "_law_told" "_law_told" (z0h z19) (z09 z19) (z00 z19) .none kV6 dc6 pm6 an6 cd6 ct6),sl6⟩)
  (c6:y0f K cd6 "_law_told"=true)
  (k6:y08 K (.ref f6)=true)
  (a7:y0s K y0n "beyond"=some (some (.ref f7)))
  (l7:K.lookup f7=some ⟨oc7,od7,.func (y0i "beyond" "beyond" (z0h z36) (z09 z36) (z00 z36) .none kV7 dc7 pm7 an7 cd7 ct7),sl7⟩)
  (c7:y0f K cd7 "beyond"=true)
  (k7:y08 K (.ref f7)=true)
  (a8:y0s K y0n "unseen"=some (some (.ref f8)))
  (l8:K.lookup f8=some ⟨oc8,od8,.func (y0i "unseen" "unseen" (z0h z2q) (z09 z2q) (z00 z2q) .none kV8 dc8 pm8 an8 cd8 ct8),sl8⟩)
  (c8:y0f K cd8 "unseen"=true)
  (k8:y08 K (.ref f8)=true)
  (a9:y0s K y0n "ways_on"=some (some (.ref f9)))
  (l9:K.lookup f9=some ⟨oc9,od9,.func (y0i "ways_on" "ways_on" (z0h z1k) (z09 z1k) (z00 z1k) .none kV9 dc9 pm9 an9 cd9 ct9),sl9⟩)
  (c9:y0f K cd9 "ways_on"=true)
  (k9:y08 K (.ref f9)=true)
  (a10:y0s K y0n "ways"=some (some (.ref f10)))
  (l10:K.lookup f10=some ⟨oc10,od10,.func (y0i "ways" "ways" (z0h z5v) (z09 z5v) (z00 z5v) .none kV10 dc10 pm10 an10 cd10 ct10),sl10⟩)
  (c10:y0f K cd10 "ways"=true)
  (k10:y08 K (.ref f10)=true)
  (a11:y0s K y0n "stops"=some (some (.ref f11)))
  (l11:K.lookup f11=some ⟨oc11,od11,.func (y0i "stops" "stops" (z0h z33) (z09 z33) (z00 z33) .none kV11 dc11 pm11 an11 cd11 ct11),sl11⟩)
  (c11:y0f K cd11 "stops"=true)
  (k11:y08 K (.ref f11)=true)
  (a12:y0s K y0n "fewest"=some (some (.ref f12)))
  (l12:K.lookup f12=some ⟨oc12,od12,.func (y0i "fewest" "fewest" (z0h z35) (z09 z35) (z00 z35) .none kV12 dc12 pm12 an12 cd12 ct12),sl12⟩)
  (c12:y0f K cd12 "fewest"=true)
  (k12:y08 K (.ref f12)=true)
  (a13:y0s K y0n "are_apart"=some (some (.ref f13)))
  (l13:K.lookup f13=some ⟨oc13,od13,.func (y0i "are_apart" "are_apart" (z0h z16) (z09 z16) (z00 z16) .none kV13 dc13 pm13 an13 cd13 ct13),sl13⟩)
  (c13:y0f K cd13 "are_apart"=true)
  (k13:y08 K (.ref f13)=true)
  (a14:y0s K y0n "first_apart"=some (some (.ref f14)))
  (l14:K.lookup f14=some ⟨oc14,od14,.func (y0i "first_apart" "first_apart" (z0h z0o) (z09 z0o) (z00 z0o) .none kV14 dc14 pm14 an14 cd14 ct14),sl14⟩)
  (c14:y0f K cd14 "first_apart"=true)
  (k14:y08 K (.ref f14)=true)
  (a15:y0s K y0n "apart"=some (some (.ref f15)))
  (l15:K.lookup f15=some ⟨oc15,od15,.func (y0i "apart" "apart" (z0h z4d) (z09 z4d) (z00 z4d) .none kV15 dc15 pm15 an15 cd15 ct15),sl15⟩)
  (c15:y0f K cd15 "apart"=true)
  (k15:y08 K (.ref f15)=true)
  (a16:y0s K y0n "ways_at_all"=some (some (.ref f16)))
  (l16:K.lookup f16=some ⟨oc16,od16,.func (y0i "ways_at_all" "ways_at_all" (z0h z0t) (z09 z0t) (z00 z0t) .none kV16 dc16 pm16 an16 cd16 ct16),sl16⟩)
  (c16:y0f K cd16 "ways_at_all"=true)
  (k16:y08 K (.ref f16)=true)
  (a17:y0s K y0n "quickest"=some (some (.ref f17)))
  (l17:K.lookup f17=some ⟨oc17,od17,.func (y0i "quickest" "quickest" (z0h z11) (z09 z11) (z00 z11) .none kV17 dc17 pm17 an17 (.ref cL17) ct17),sl17⟩)
  (c17:y0f K (.ref cL17) "quickest"=true)
  (k17:y08 K (.ref f17)=true)
  (a18:y0s K y0n "law"=some (some (.ref f18)))
  (l18:K.lookup f18=some ⟨oc18,od18,.func (y0i "law" "law" (z0h z4c) (z09 z4c) (z00 z4c) .none kV18 dc18 pm18 an18 (.ref cL) ct18),sl18⟩)
  (c18:y0f K (.ref cL) "law"=true)
  (k18:y08 K (.ref f18)=true)
  (z_range:y0s K y0n "range"=some none)
  (z_min:y0s K y0n "min"=some none)
  (z_max:y0s K y0n "max"=some none)
  (z_len:y0s K y0n "len"=some none)
  (z_int:y0s K y0n "int"=some none)
  (z_tuple:y0s K y0n "tuple"=some none)
  (z_sorted:y0s K y0n "sorted"=some none)
  (z_enumerate:y0s K y0n "enumerate"=some none)
  (z_any:y0s K y0n "any"=some none)
  (g_OUTSIDE:y0s K y0n "OUTSIDE"=some (some (.int 0 t_OUTSIDE)))
  (hCH17:PySem.W.codeHdIn K cL17 137=true)
  (hCH:PySem.W.codeHdIn K cL 186=true)
  (nDoorError:y0s K y0n "DoorError"=some (some (.ref XD)))
  (nNoZone:y0s K y0n "NoZone"=some (some (.ref xz)))
  (nNoWay:y0s K y0n "NoWay"=some (some (.ref xw)))
  (nNoDeed:y0s K y0n "NoDeed"=some (some (.ref xd)))
  (nNoText:y0s K y0n "NoText"=some (some (.ref xt)))
  (z_isinstance:y0s K y0n "isinstance"=some none)
  (z_ValueError:y0s K y0n "ValueError"=some none)
  (hDo:zfd K XD=true)
  (hXw:zgq K XD xz xw xd xt xw false true false false=true) :
  ∃fd:y0b,(∀(s:y04) (v:Value),BindsTo s fd ⟨[v],[]⟩ [("_law_script",v)])/\∀base:Heap,K.In base->base.Ns y0n mg->BM mg base->FnOk l.prog w K mg base CX0 29 fa fd ["_law_script"] (@spT (tOf [(186,(("law":Str)++".<locals>.")++"<lambda>"),(137,(("quickest":Str)++".<locals>.")++"<lambda>")]) K 1 zct):=by
 have e:=hfa.symm.trans (y11 X G a18)
 cases e
 refine⟨y0i "law" "law" (z0h z4c) (z09 z4c) (z00 z4c) .none kV18 dc18 pm18 an18 (.ref cL) ct18,fun s v=>.of_eq rfl,fun base _ _ hbm=>?_⟩
 letI tt:Tbl:=⟨[(186,(("law":Str)++".<locals>.")++"<lambda>"),(137,(("quickest":Str)++".<locals>.")++"<lambda>")],fun c=>match c with  | _=>[],fun c=>match c with  | _=>none⟩
 replace z_range:=y1b X G z_range
 replace z_min:=y1b X G z_min
 replace z_max:=y1b X G z_max
 replace z_len:=y1b X G z_len
 replace z_int:=y1b X G z_int
 replace z_tuple:=y1b X G z_tuple
 replace z_sorted:=y1b X G z_sorted
 replace z_enumerate:=y1b X G z_enumerate
 replace z_any:=y1b X G z_any
 replace z_isinstance:=y1b X G z_isinstance
 replace z_ValueError:=y1b X G z_ValueError
 have Nm:Names K mg XD xz xw xd xt:=⟨y11 X G nDoorError,y11 X G nNoZone,y11 X G nNoWay,y11 X G nNoDeed,y11 X G nNoText,z_isinstance,z_ValueError,hDo⟩
 have Rw:=zn8 hXw
 replace g_OUTSIDE:=y11 X G g_OUTSIDE
 have F1:=z1m (st:=z2h) l1 c1 k1
 have C_l_drawn:=z6k (P:=l.prog) (w:=w) (base:=base) (k:=0) F1 (y11 X G a1)
 have F2:=z1m (st:=z2g) l2 c2 k2
 have C_l_house:=z6j (P:=l.prog) (w:=w) (base:=base) (k:=1) F2 (y11 X G a2) z_range (C_l_drawn.mono (by decide)) z_min z_max
 have F3:=z1m (st:=z1h) l3 c3 k3
 have C_l_cell_at:=z4n (P:=l.prog) (w:=w) (base:=base) (k:=0) F3 (y11 X G a3) z_len
 have F4:=z1m (st:=z2f) l4 c4 k4
 have C_l_mixed:=z6i (P:=l.prog) (w:=w) (base:=base) (k:=1) F4 (y11 X G a4) (C_l_cell_at.mono (by decide))
 have F5:=z1m (st:=z34) l5 c5 k5
 have C_l_room:=z40 (P:=l.prog) (w:=w) (base:=base) (k:=0) F5 (y11 X G a5) z_int
 have F6:=z1m (st:=z19) l6 c6 k6
 have F7:=z1m (st:=z36) l7 c7 k7
 have C_beyond:=z2u (P:=l.prog) (w:=w) (base:=base) (k:=0) F7 (y11 X G a7)
 have F8:=z1m (st:=z2q) l8 c8 k8
 have C_unseen:=z5m (P:=l.prog) (w:=w) (base:=base) (k:=1) F8 (y11 X G a8) z_tuple z_sorted (C_beyond.mono (by decide)) g_OUTSIDE
 have F9:=z1m (st:=z1k) l9 c9 k9
 have C_ways_on:=z2z (P:=l.prog) (w:=w) (base:=base) (k:=1) F9 (y11 X G a9) z_enumerate (C_beyond.mono (by decide)) 20
 have F10:=z1m (st:=z5v) l10 c10 k10
 have C_ways:=z3i (P:=l.prog) (w:=w) (base:=base) (k:=21) F10 (y11 X G a10) z_tuple (C_ways_on.mono (by decide)) g_OUTSIDE
 have F11:=z1m (st:=z33) l11 c11 k11
 have C_stops:=z59 (P:=l.prog) (w:=w) (base:=base) (k:=0) F11 (y11 X G a11) z_enumerate z_len 20
 have F12:=z1m (st:=z35) l12 c12 k12
 have C_fewest:=z41 (P:=l.prog) (w:=w) (base:=base) (k:=22) F12 (y11 X G a12) (C_ways.mono (by decide)) z_tuple z_range (C_stops.mono (by decide)) z_len
 have F13:=z1m (st:=z16) l13 c13 k13
 have C_are_apart:=z1w (P:=l.prog) (w:=w) (base:=base) (k:=0) F13 (y11 X G a13) z_any
 have F14:=z1m (st:=z0o) l14 c14 k14
 have C_first_apart:=z1b (P:=l.prog) (w:=w) (base:=base) (k:=1) F14 (y11 X G a14) z_enumerate (C_are_apart.mono (by decide)) 20
 have F15:=z1m (st:=z4d) l15 c15 k15
 have C_apart:=z8h (P:=l.prog) (w:=w) (base:=base) (k:=23) F15 (y11 X G a15) (C_first_apart.mono (by decide)) (C_ways.mono (by decide)) z_len (C_fewest.mono (by decide))
 have F16:=z1m (st:=z0t) l16 c16 k16
 have C_ways_at_all:=z2a (P:=l.prog) (w:=w) (base:=base) (k:=22) F16 (y11 X G a16) (C_ways.mono (by decide))
 have Z_ways_at_all:=z1x (P:=l.prog) (w:=w) (base:=base) (k:=22) F16 (y11 X G a16) Nm Rw (C_ways.mono (by decide))
 have F17:=z1m (st:=z11) l17 c17 k17
 have C_quickest:=z3z (P:=l.prog) (w:=w) (base:=base) (k:=23) l17 c17 k17 (y11 X G a17) hCH17 hbm (by show _∈[(186,(("law":Str)++".<locals>.")++"<lambda>"),(137,(("quickest":Str)++".<locals>.")++"<lambda>")];simp) (fun p hp=>by
  have hp:p∈[(186,(("law":Str)++".<locals>.")++"<lambda>"),(137,(("quickest":Str)++".<locals>.")++"<lambda>")]:=hp
  simp only[y09,y24,or_false] at hp
  rcases hp with rfl|rfl <;> first|(intro z;exact absurd z (by decide))|(intro _;rfl)) z_min (C_ways_at_all.mono (by decide)) z_len
 have Z_quickest:=z30 (P:=l.prog) (w:=w) (base:=base) (k:=25) F17 (y11 X G a17) Nm Rw z_min (C_ways_at_all.mono (by decide)) z_len (Z_ways_at_all.mono (by decide))
 have F18:=z1m (st:=z4c) l18 c18 k18
 exact zjy rfl (znp (k:=26) l18 c18 hCH hbm (by show _∈[(186,(("law":Str)++".<locals>.")++"<lambda>"),(137,(("quickest":Str)++".<locals>.")++"<lambda>")];simp) (fun p hp=>by
  have hp:p∈[(186,(("law":Str)++".<locals>.")++"<lambda>"),(137,(("quickest":Str)++".<locals>.")++"<lambda>")]:=hp
  simp only[y09,y24,or_false] at hp
  rcases hp with rfl|rfl <;> first|(intro z;exact absurd z (by decide))|(intro _;rfl)) Nm Rw (Z_quickest.mono (by decide)) (Z_ways_at_all.mono (by decide)) (C_l_house.mono (by decide)) z_range (C_l_mixed.mono (by decide)) z_sorted (C_l_room.mono (by decide)) F6 (y11 X G a6) (C_unseen.mono (by decide)) z_tuple (C_fewest.mono (by decide)) (C_ways.mono (by decide)) (C_apart.mono (by decide)) (C_quickest.mono (by decide)))
theorem walk {l:PySem.W.OpenLaw} {q:y0q} {loose:List Str} {XP:(Str->Option Value)->Heap->Prop} {YP:World->Heap->Prop} {d:DefRec} {K:Params->y00} (hn:l.most=some 63) (hdf:d.params.defaults=[])
  (hL:∀w:World,noL (K w.params)=true) (hY:∀(w:World) (h:Heap),YP w h->(K w.params).In h) (hT:∀(w:World) (h:Heap),YP w h->∀b∈[137,186],h.get? b=some (PySem.W.tabObj #[]))
  (hK0:∀w:World,(([137,186]:List Nat).all fun b=>((K w.params).lookup b).isNone)=true) (hcd:∀w:World,(([137,186]:List Nat).all fun b=>(K w.params).any fun p=>PySem.W.codeHdIn (K w.params) p.1 b)=true)
  (F:∀(w:World) (mg:Str->Option Value) (fa:Addr) (h:Heap),(K w.params).In h->h.Ns y0n mg->mg d.name=some (.ref fa) ->
   ∃fd:y0b,(∀(s:y04) (u:Value),BindsTo s fd ⟨[u],[]⟩ [("_law_script",u)])/\∀base:Heap,(K w.params).In base->base.Ns y0n mg->BM mg base->FnOk l.prog w (K w.params) mg base CX0 29 fa fd ["_law_script"] (@spT (tOf [(186,(("law":Str)++".<locals>.")++"<lambda>"),(137,(("quickest":Str)++".<locals>.")++"<lambda>")]) (K w.params) 1 zct)) :
  PySem.W.WalkO q loose XP YP l.row.toRowW d [] (fun f vs=>PySem.call f vs) :=
 zg0 (n:=63) (k:=29) (x:="_law_script") (ts:=[137,186]) (CX:=fun _=>CX0) (sp:=fun w=>@spT (tOf [(186,(("law":Str)++".<locals>.")++"<lambda>"),(137,(("quickest":Str)++".<locals>.")++"<lambda>")]) (K w.params) 1 zct) hn (by decide) hdf ⟨rfl,by decide,by decide⟩ hY hT (fun w b hb=>Option.isNone_iff_eq_none.mp (List.all_eq_true.mp (hK0 w) b hb)) (fun w b hb=>by
  obtain⟨p,_,hp⟩:=List.any_eq_true.mp (List.all_eq_true.mp (hcd w) b hb)
  exact⟨p.1,hp⟩) F (fun w H a ns hl hO hS=>zdg (t:=tOf [(186,(("law":Str)++".<locals>.")++"<lambda>"),(137,(("quickest":Str)++".<locals>.")++"<lambda>")]) (fun p hp=>by
  have hp:p∈[(186,(("law":Str)++".<locals>.")++"<lambda>"),(137,(("quickest":Str)++".<locals>.")++"<lambda>")]:=hp
  simp only[y09,y24,or_false] at hp
  rcases hp with rfl|rfl <;> simp) hO (hL w) (zh6 ns hl) hS) fun _ _ _ _ _ z=>z
end K26
open PySem PySem.W PyProof.Rows
set_option maxRecDepth 100000 in
set_option maxHeartbeats 0 in
theorem PySem.Challenge.cw_doorwatch_k26_whole_rooms_by_other_numbe_holds : PySem.Challenge.rw_doorwatch_k26_whole_rooms_by_other_numbe.Holds := by
 w_on;o_law;k_head;(case hw=>w_witness2)
 k_fill
 refine K26.walk (l:=PySem.Challenge.rw_doorwatch_k26_whole_rooms_by_other_numbe) rfl rfl ?L (fun w h Y=>PySem.W.km_in_of Y) (fun w h Y=>PySem.W.km_tabs_of Y) ?K0 ?CD ?F
 case L =>
  intro w
  first|rfl|(with_unfolding_all rfl)|kernel_rfl
 case K0 =>
  intro w
  first|rfl|(with_unfolding_all rfl)|kernel_rfl
 case CD =>
  intro w
  first|rfl|(with_unfolding_all rfl)|kernel_rfl
 case F =>
  intro w mg fa h KX G hmg
  refine' K26.all_mk KX G hmg ?a1 ?l1 ?c1 ?k1 ?a2 ?l2 ?c2 ?k2 ?a3 ?l3 ?c3 ?k3 ?a4 ?l4 ?c4 ?k4 ?a5 ?l5 ?c5 ?k5 ?a6 ?l6 ?c6 ?k6 ?a7 ?l7 ?c7 ?k7 ?a8 ?l8 ?c8 ?k8 ?a9 ?l9 ?c9 ?k9 ?a10 ?l10 ?c10 ?k10 ?a11 ?l11 ?c11 ?k11 ?a12 ?l12 ?c12 ?k12 ?a13 ?l13 ?c13 ?k13 ?a14 ?l14 ?c14 ?k14 ?a15 ?l15 ?c15 ?k15 ?a16 ?l16 ?c16 ?k16 ?a17 ?l17 ?c17 ?k17 ?a18 ?l18 ?c18 ?k18 ?z_range ?z_min ?z_max ?z_len ?z_int ?z_tuple ?z_sorted ?z_enumerate ?z_any ?g_OUTSIDE ?hCH17 ?hCH ?nDoorError ?nNoZone ?nNoWay ?nNoDeed ?nNoText ?z_isinstance ?z_ValueError ?hDo ?hXw
  (case a1=>k_is)
  (case l1=>k_is)
  (case c1=>k_is)
  (case k1=>k_is)
  (case a2=>k_is)
  (case l2=>k_is)
  (case c2=>k_is)
  (case k2=>k_is)
  (case a3=>k_is)
  (case l3=>k_is)
  (case c3=>k_is)
  (case k3=>k_is)
  (case a4=>k_is)
  (case l4=>k_is)
  (case c4=>k_is)
  (case k4=>k_is)
  (case a5=>k_is)
  (case l5=>k_is)
  (case c5=>k_is)
  (case k5=>k_is)
  (case a6=>k_is)
  (case l6=>k_is)
  (case c6=>k_is)
  (case k6=>k_is)
  (case a7=>k_is)
  (case l7=>k_is)
  (case c7=>k_is)
  (case k7=>k_is)
  (case a8=>k_is)
  (case l8=>k_is)
  (case c8=>k_is)
  (case k8=>k_is)
  (case a9=>k_is)
  (case l9=>k_is)
  (case c9=>k_is)
  (case k9=>k_is)
  (case a10=>k_is)
  (case l10=>k_is)
  (case c10=>k_is)
  (case k10=>k_is)
  (case a11=>k_is)
  (case l11=>k_is)
  (case c11=>k_is)
  (case k11=>k_is)
  (case a12=>k_is)
  (case l12=>k_is)
  (case c12=>k_is)
  (case k12=>k_is)
  (case a13=>k_is)
  (case l13=>k_is)
  (case c13=>k_is)
  (case k13=>k_is)
  (case a14=>k_is)
  (case l14=>k_is)
  (case c14=>k_is)
  (case k14=>k_is)
  (case a15=>k_is)
  (case l15=>k_is)
  (case c15=>k_is)
  (case k15=>k_is)
  (case a16=>k_is)
  (case l16=>k_is)
  (case c16=>k_is)
  (case k16=>k_is)
  (case a17=>k_is)
  (case l17=>k_is)
  (case c17=>k_is)
  (case k17=>k_is)
  (case a18=>k_is)
  (case l18=>k_is)
  (case c18=>k_is)
  (case k18=>k_is)
  (case z_range=>k_is)
  (case z_min=>k_is)
  (case z_max=>k_is)
  (case z_len=>k_is)
  (case z_int=>k_is)
  (case z_tuple=>k_is)
  (case z_sorted=>k_is)
  (case z_enumerate=>k_is)
  (case z_any=>k_is)
  (case g_OUTSIDE=>k_is)
  (case hCH17=>first|kernel_rfl|rfl|(with_unfolding_all rfl))
  (case hCH=>first|kernel_rfl|rfl|(with_unfolding_all rfl))
  (case nDoorError=>k_is)
  (case nNoZone=>k_is)
  (case nNoWay=>k_is)
  (case nNoDeed=>k_is)
  (case nNoText=>k_is)
  (case z_isinstance=>k_is)
  (case z_ValueError=>k_is)
  (case hDo=>first|kernel_rfl|rfl|(with_unfolding_all rfl))
  (case hXw=>first|kernel_rfl|rfl|(with_unfolding_all rfl))
end
end
