import PyProof.Rows.All
import Wide.All
import OpenK.AllK
import Wide.FinOn
import Lean
import PyProof.EqAt
import PyProof.EqKinds
import PyProof.TupleCall
import PyProof.P3Statements
import KE.KSortTup
import PyProof.AttrMissHeap
import PyProof.ZipIter
import PyProof.Draws
import PyProof.ListMulRoad
import Wide.Seal
import PySem.Challenge.RW_doorwatch_k32_whole_walks_put_together
set_option Elab.async false
set_option linter.all false
set_option maxRecDepth 100000
set_option maxHeartbeats 0
open PySem.W renaming Frag → y00, keepIn → y08, codeIn → y0f, fnOf → y0i, nsIn → y0s, mg_of → y10, mg_none_of → y17
open Option renaming bind_eq_some_iff → y01, map_eq_some_iff → y07, bind_some → y0p, map_some → y1j
open PySem renaming wpAny_bind → y02, Shared → y04, wpAny_pure → y06, starEach → y0a, FuncData → y0b, sizeLine → y0j, mainGlobals → y0n, Program → y0q, wpAny → y0u, wpAny_mono → y18, mem_of_lookup → y1z
open PySem.Heap renaming get?_push_of_some → y03, lt_size → y0c, get?_push_size → y0l
open List renaming mem_cons_of_mem → y05, mem_cons → y09, map_cons → y0d, mem_cons_self → y0e, replicate → y0g, size_toArray → y0h, getElem?_eq_some_iff → y0k, mem_map → y0m, nodup_cons → y0r, getElem?_eq_getElem → y0v, length_cons → y0w, mem_append → y0z, length_map → y12, getElem?_map → y13, map_nil → y14, mem_append_right → y15, lookup_cons → y1a, set_cons_zero → y1d, set_cons_succ → y1f, getElem?_append_right → y1g, getElem?_append_left → y1h, replicate_succ → y1k, mem_of_getElem? → y1m, append_nil → y1p, length_append → y1s, flatten_cons → y1w, not_mem_nil → y1y
open Nat renaming le_refl → y0o, lt_of_lt_of_le → y0x, ne_of_lt → y0y, le_trans → y1i, zero_le → y1u
open PySem.Builtin.SmallTypes renaming nextOf → y0t
open PySem.Builtin.Tuple renaming tupleExact → y11
open Bool renaming and_eq_true → y16, false_ne_true → y1t
open PySem.PyData renaming depthAll → y19, canLayAll0 → y1b, str → y1n, eqv → y1r, depth → y1v
open PyProof.Rows renaming slot_tuple_getitem → y1c, callWith_type1 → y1l
open PySem.Builtin.Slice renaming slicePlaces → y1e
open False renaming elim → y1o
open Array renaming length_toList → y1q
open PySem.F renaming slot_tuple_iterator_next → y1x
def PySem.W.Fast.tw11840918837997416998 : Nat := 0
def PySem.W.Fast.tw15306226391685184909 : Nat := 0
def PySem.W.Fast.tw14222665161378603852 : Nat := 0
def PySem.W.Fast.tw9700173880830106417 : Nat := 0
def PySem.W.Fast.tw14263176876351253715 : Nat := 0
def PySem.W.Fast.tw16188219164925800211 : Nat := 0
def PySem.W.Fast.tw7799109103964489800 : Nat := 0
def PySem.W.Fast.tw10108564124883724659 : Nat := 0
def PySem.W.Fast.tw10588069999725906754 : Nat := 0
def PySem.W.Fast.tw7888376148846945774 : Nat := 0
section
namespace L2
open PySem PySem.Spec PyProof.Rows
abbrev Key:=Sum Int Str
def zgu:Key -> Value -> Bool
 | .inl k,v=>Value.isInt k v
 | .inr x,v=>Value.isStrOf x v
def keyH (w:World):Key -> Int
 | .inl k=>hashInt k
 | .inr x=>hashStr w x
theorem z0i:∀ {k:Key} {v:Value},zgu k v = true -> (∃ i t,k = Sum.inl i /\ v = Value.int i t) \/ (∃ x t,k = Sum.inr x /\ v = Value.str x t)
 | .inl i,v,h=>by
  obtain ⟨t,e⟩:=Value.isInt_shape (k:=i) (v:=v) h
  exact .inl ⟨i,t,rfl,e⟩
 | .inr x,v,h=>by
  obtain ⟨t,e⟩:=Value.isStrOf_shape (x:=x) (v:=v) h
  exact .inr ⟨x,t,rfl,e⟩
theorem zgt (a b:Int):decide ((Sum.inl a:Key) = Sum.inl b) = (a == b):=by
 by_cases e:a = b
 ·subst e; simp
 ·have h:¬ (Sum.inl a:Key) = Sum.inl b:=fun q=>e (Sum.inl.inj q)
  rw [decide_eq_false h]
  exact (beq_eq_false_iff_ne.mpr e).symm
theorem zgq (a b:Str):decide ((Sum.inr a:Key) = Sum.inr b) = decide (a = b):=by
 by_cases e:a = b
 ·subst e; simp
 ·have h:¬ (Sum.inr a:Key) = Sum.inr b:=fun q=>e (Sum.inr.inj q)
  rw [decide_eq_false h,decide_eq_false e]
theorem zgs (a:Int) (b:Str):decide ((Sum.inl a:Key) = Sum.inr b) = false:=decide_eq_false (fun q=>nomatch q)
theorem zgr (a:Str) (b:Int):decide ((Sum.inr a:Key) = Sum.inl b) = false:=decide_eq_false (fun q=>nomatch q)
def zb5 (prog:y0q) (w:World):PySem.KeyKind prog w Key where
 is:=zgu
 hash:=keyH w
 inj:=fun v a b ha hb=>by
  rcases z0i ha with ⟨i,t,rfl,rfl⟩ | ⟨x,t,rfl,rfl⟩
  ·rcases z0i hb with ⟨j,u,rfl,e⟩ | ⟨y,u,rfl,e⟩
   ·injection e with e1 _; rw [e1]
   ·exact nomatch e
  ·rcases z0i hb with ⟨j,u,rfl,e⟩ | ⟨y,u,rfl,e⟩
   ·exact nomatch e
   ·injection e with e1 _; rw [e1]
 byValue:=fun k v h=>by
  rcases z0i h with ⟨i,t,rfl,rfl⟩ | ⟨x,t,rfl,rfl⟩ <;> rfl
 pyHash:=fun hv h=>by
  rcases z0i hv with ⟨i,t,rfl,rfl⟩ | ⟨x,t,rfl,rfl⟩
  ·exact wpAny_pyHash_int h
  ·exact wpAny_pyHash_str h
 eqBool:=fun hu hv h=>by
  rcases z0i hu with ⟨i,t,rfl,rfl⟩ | ⟨x,t,rfl,rfl⟩
  ·rcases z0i hv with ⟨j,u,rfl,rfl⟩ | ⟨y,u,rfl,rfl⟩
   ·rw [zgt] at h; exact wpAny_eqBool_int h
   ·rw [zgs] at h; exact SeqAt.EqAt.int_str i t y u _ _ _ _ h
  ·rcases z0i hv with ⟨j,u,rfl,rfl⟩ | ⟨y,u,rfl,rfl⟩
   ·rw [zgr] at h; exact SeqAt.EqAt.str_int x t j u _ _ _ _ h
   ·rw [zgq] at h; exact wpAny_eqBool_str h
 «strs»:=fun k x t v h=>by
  rcases z0i h with ⟨i,u,rfl,e⟩ | ⟨y,u,rfl,e⟩
  ·exact nomatch e
  ·injection e with e1 _
   subst e1
   cases v <;> rfl
end L2
namespace L2
open PySem PySem.Spec PyProof.Rows
inductive V where
 | non | bl (b:Bool) | int (i:Int) | str (x:Str) | byt (b:Array UInt8) | flt (b:UInt64) | ref (a:Addr) | ty (n:String)
 deriving DecidableEq
def RelV:V -> Value -> Prop
 | .non,u=>u = Value.none
 | .bl b,u=>u = Value.bool b
 | .int i,u=>∃ t,u = Value.int i t
 | .str x,u=>∃ t,u = Value.str x t
 | .byt b,u=>∃ t,u = Value.bytes b t
 | .flt b,u=>∃ t,u = Value.float b t
 | .ref a,u=>u = Value.ref a
 | .ty n,u=>u = Value.type n
abbrev Vals:List V -> List Value -> Prop:=Paired RelV
theorem Vals.length {xs:List V} {us:List Value} (r:Vals xs us):xs.length = us.length:=Paired.length r
theorem Vals.get:∀ {xs:List V} {us:List Value} {i:Nat} {x:V},Vals xs us -> xs[i]? = some x -> ∃ u,us[i]? = some u /\ RelV x u
 | _,_,_,_,.nil,e=>by simp at e
 | _,_,0,_,.cons r _,e=>by simp at e; subst e; exact ⟨_,rfl,r⟩
 | _,_,i + 1,x,.cons _ t,e=>by
  obtain ⟨u,h1,h2⟩:=Vals.get (i:=i) (x:=x) t (by simpa using e)
  exact ⟨u,by simpa using h1,h2⟩
theorem Vals.append:∀ {xs ys:List V} {us ws:List Value},Vals xs us -> Vals ys ws -> Vals (xs ++ ys) (us ++ ws)
 | _,_,_,_,.nil,s=>s
 | _,_,_,_,.cons r t,s=>.cons r (Vals.append t s)
theorem Vals.take:∀ {xs:List V} {us:List Value} (n:Nat),Vals xs us -> Vals (xs.take n) (us.take n)
 | _,_,0,_=>.nil
 | _,_,_ + 1,.nil=>.nil
 | _,_,n + 1,.cons r t=>.cons r (Vals.take n t)
theorem Vals.drop:∀ {xs:List V} {us:List Value} (n:Nat),Vals xs us -> Vals (xs.drop n) (us.drop n)
 | _,_,0,r=>r
 | _,_,_ + 1,.nil=>.nil
 | _,_,n + 1,.cons _ t=>Vals.drop n t
def RelO:Option V -> Option Value -> Prop
 | some v,some u=>RelV v u
 | none,none=>True
 | _,_=>False
def KV {κ:Type}:List (κ × V) -> List (κ × Value) -> Prop:=Paired fun (p:κ × V) (q:κ × Value)=>p.1 = q.1 /\ RelV p.2 q.2
def kV:Key -> V
 | .inl i=>.int i
 | .inr x=>.str x
inductive HO where
 | lst (xs:List V)
 | tup (xs:List V)
 | dK (kvs:List (Key × V)) | dT (kvs:List (List Key × V))
 | set (S:Int -> Bool) (n:Nat)
 | ins (C dx:Addr) (fs:List (Str × V))
 | own (x:Addr)
 | xd (fs:List (Str × V))
 | met (f x:Addr)
 | rng (lo hi:Int)
 | frz (o:Obj) (u:HO)
 | tbl (ps:Array Value)
 | ext (φ:Heap -> Prop)
abbrev Hp:=Addr -> Option HO
def upd (H:Hp) (a:Addr) (o:HO):Hp:=fun b=>if b = a then some o else H b
theorem z08 {H:Hp} {a:Addr} {o:HO}:upd H a o a = some o:=by unfold upd; rw [if_pos rfl]
theorem z05 {H:Hp} {a b:Addr} {o:HO} (h:b ≠ a):upd H a o b = H b:=by unfold upd; rw [if_neg h]
theorem z0g {H:Hp} {a b:Addr} {o:HO} (h:H a = some o) (h':H b = none):a ≠ b:=by
 intro e; subst e; rw [h] at h'; cases h'
section
variable (P:y0q) (w:World)
def z3i (H:Hp) (h:Heap) (a:Addr):HO -> Prop
 | .lst xs=>xs.length <= y0j /\ ∃ (its:List Value) (n:Nat),Vals xs its /\ h.get? a = some { cls:=.type "list",data:=.seq its.toArray n }
 | .tup xs=>xs.length <= y0j /\ ∃ its:List Value,Vals xs its /\ IsTup h a its.toArray
 | .dK kvs=>kvs.length <= y0j /\ (a == sysModules) = false /\ ∃ vs,KV kvs vs /\ h.DictOf (zb5 P w) a vs
 | .dT kvs=>kvs.length <= y0j /\ (a == sysModules) = false /\ ∃ xs:List (List Key × Addr × Value),
   Paired (fun (p:List Key × V) (q:List Key × Addr × Value)=>p.1 = q.1 /\ H q.2.1 = some (.tup (p.1.map kV)) /\ RelV p.2 q.2.2) kvs xs /\
   ∃ o es ep,h.get? a = some o /\ o.ExactDict /\ o.data = .dict es ep /\ es.toList = xs.map (entryOfKey (tupleKind (zb5 P w))) /\ (xs.map (·.1)).Nodup
 | .set S n=>h.SetOf (intKind P w) a S n
 | .ins C dx fs=>H dx = some (.own a) /\ fs.length <= 1000 /\ dx ≠ a /\ h.get? a = some (PySem.W.instObj C dx) /\
   ∃ mA,h.Ns1 dx mA /\ (∀ f,RelO (fs.lookup f) (mA f)) /\ PySem.Within mA (fs.map (·.1))
 | .own _=>∃ o,h.get? a = some o
 | .xd fs=>∃ mA,h.Ns1 a mA /\ ∀ f,RelO (fs.lookup f) (mA f)
 | .rng lo hi=>∃ t u v,h.get? a = some { cls:=.type "range",data:=.fields #[.int lo t,.int hi u,.int 1 v] }
 | .frz o u=>h.get? a = some o /\ z3i H h a u
 | .tbl ps=>h.get? a = some { cls:=.none,data:=.fields ps }
 | .met f x=>h.get? a = some (PySem.W.methodObj (.ref f) (.ref x))
 | .ext φ=>φ h /\ (∃ o,h.get? a = some o) /\ ∀ h1 h2:Heap,φ h1 -> (∀ o,h1.get? a = some o -> h2.get? a = some o) -> φ h2
def HOk (H:Hp) (h:Heap):Prop:=∀ a o,H a = some o -> z3i P w H h a o
end
section
variable {P:y0q} {w:World} {H H':Hp} {h h':Heap} {a:Addr} {o:HO}
theorem z3i.lt (x:z3i P w H h a o):a < h.objs.size:=by
 cases o with
 | lst xs=>obtain ⟨_,_,_,_,e⟩:=x; exact y0c e
 | tup xs=>obtain ⟨_,_,_,p⟩:=x; exact p.lt
 | dK kvs=>obtain ⟨_,_,_,_,o,_,_,e,_⟩:=x; exact y0c e
 | dT kvs=>obtain ⟨_,_,_,_,o,_,_,e,_⟩:=x; exact y0c e
 | set S n=>obtain ⟨o,_,_,_,e,_⟩:=x; exact y0c e
 | ins C dx fs=>obtain ⟨_,_,_,e,_⟩:=x; exact y0c e
 | own y=>obtain ⟨_,e⟩:=x; exact y0c e
 | xd fs=>obtain ⟨_,⟨_,_,_,e,_⟩,_⟩:=x; exact y0c e
 | rng lo hi=>obtain ⟨_,_,_,e⟩:=x; exact y0c e
 | frz ob u=>obtain ⟨e,_⟩:=x; exact y0c e
 | tbl ps=>exact y0c (show h.get? a = some _ from x)
 | met f y=>exact y0c (show h.get? a = some _ from x)
 | ext φ=>obtain ⟨_,⟨_,e⟩,_⟩:=x; exact y0c e
theorem Paired.mapP {α β:Type} {F G:α -> β -> Prop}:∀ {l₁:List α} {l₂:List β},Paired F l₁ l₂ -> (∀ a b,F a b -> G a b) -> Paired G l₁ l₂
 | _,_,.nil,_=>.nil
 | _,_,.cons r t,f=>.cons (f _ _ r) (Paired.mapP t f)
theorem z3i.stay (x:z3i P w H h a o) (k:∀ b u,(b = a \/ H b = some (.own a)) -> h.get? b = some u -> h'.get? b = some u)
  (ho:∀ b,H b = some (.own a) -> H' b = some (.own a)) (ht:∀ b xs,H b = some (.tup xs) -> H' b = some (.tup xs)):z3i P w H' h' a o:=by
 induction o with
 | lst xs=>obtain ⟨z,its,n,r,e⟩:=x; exact ⟨z,its,n,r,k _ _ (.inl rfl) e⟩
 | tup xs=>obtain ⟨z,its,r,ob,e,c⟩:=x; exact ⟨z,its,r,ob,k _ _ (.inl rfl) e,c⟩
 | dK kvs=>obtain ⟨z,y,vs,r,ob,es,ep,e,c⟩:=x; exact ⟨z,y,vs,r,ob,es,ep,k _ _ (.inl rfl) e,c⟩
 | dT kvs =>
  obtain ⟨z,y,xs,r,ob,es,ep,e,c⟩:=x
  exact ⟨z,y,xs,Paired.mapP r fun p q z=>⟨z.1,ht _ _ z.2.1,z.2.2⟩,ob,es,ep,k _ _ (.inl rfl) e,c⟩
 | set S n=>obtain ⟨ob,es,ep,t,e,c⟩:=x; exact ⟨ob,es,ep,t,k _ _ (.inl rfl) e,c⟩
 | ins C dx fs =>
  obtain ⟨d,z,ne,e,mA,⟨od,es,ep,e2,c⟩,r⟩:=x
  exact ⟨ho _ d,z,ne,k _ _ (.inl rfl) e,mA,⟨od,es,ep,k _ _ (.inr d) e2,c⟩,r⟩
 | own y=>obtain ⟨ob,e⟩:=x; exact ⟨ob,k _ _ (.inl rfl) e⟩
 | xd fs=>obtain ⟨mA,⟨od,es,ep,e,c⟩,r⟩:=x; exact ⟨mA,⟨od,es,ep,k _ _ (.inl rfl) e,c⟩,r⟩
 | rng lo hi=>obtain ⟨t,u,v,e⟩:=x; exact ⟨t,u,v,k _ _ (.inl rfl) e⟩
 | frz ob u ih=>obtain ⟨e,q⟩:=x; exact ⟨k _ _ (.inl rfl) e,ih q⟩
 | tbl ps =>
  have e:h.get? a = some { cls:=.none,data:=.fields ps }:=x
  show h'.get? a = some { cls:=.none,data:=.fields ps }
  exact k a _ (.inl rfl) e
 | met f y =>
  have e:h.get? a = some (PySem.W.methodObj (.ref f) (.ref y)):=x
  show h'.get? a = some (PySem.W.methodObj (.ref f) (.ref y))
  exact k a _ (.inl rfl) e
 | ext φ=>obtain ⟨p,⟨o,e⟩,st⟩:=x; exact ⟨st _ _ p fun o q=>k _ _ (.inl rfl) q,⟨o,k _ _ (.inl rfl) e⟩,st⟩
theorem HOk.lt (x:HOk P w H h) (e:H a = some o):a < h.objs.size:=(x a o e).lt
theorem HOk.fresh (x:HOk P w H h) (e:h.objs.size <= a):H a = none:=by
 cases q:H a with
 | none=>rfl
 | some u=>exact absurd (y0x (x.lt q) e) (Nat.lt_irrefl _)
theorem HOk.kept (x:HOk P w H h) (k:∀ b u,h.get? b = some u -> h'.get? b = some u):HOk P w H h':=fun a o e =>
 (x a o e).stay (fun b u _ q=>k b u q) (fun _ q=>q) fun _ _ q=>q
theorem HOk.laid (x:HOk P w H h) (k:∀ b u,h.get? b = some u -> h'.get? b = some u) (hp:h.objs.size <= a) (new:z3i P w (upd H a o) h' a o):HOk P w (upd H a o) h':=fun b u e=>by
 have hn:=x.fresh hp
 by_cases hb:b = a
 ·subst hb; rw [z08] at e; cases e; exact new
 ·rw [z05 hb] at e
  exact (x b u e).stay (fun c v _ q=>k c v q) (fun c q=>by rw [z05 (z0g q hn)]; exact q) fun c xs q=>by rw [z05 (z0g q hn)]; exact q
end
def Rd (H:Hp) (a:Addr) (u:HO):Prop:=H a = some u \/ ∃ o,H a = some (.frz o u)
theorem Rd.ok {P:y0q} {w:World} {H:Hp} {h:Heap} {a:Addr} {u:HO} (r:Rd H a u) (x:HOk P w H h):z3i P w H h a u:=by
 rcases r with r | ⟨o,r⟩
 ·exact x a u r
 ·obtain ⟨_,q⟩:=x a _ r
  exact q
def Mut:Option HO -> Prop
 | some (.lst _)=>True
 | some (.dK _)=>True
 | some (.dT _)=>True
 | some (.set _ _)=>True
 | some (.ins _ _ _)=>True
 | some (.ext _)=>True
 | _=>False
section
variable {P:y0q} {w:World} {H:Hp} {h h':Heap} {x e:Addr} {o':HO}
theorem HOk.write (ok:HOk P w H h) (mu:Mut (H x)) (he:e = x \/ H e = some (.own x)) (k:∀ b u,b ≠ e -> h.get? b = some u -> h'.get? b = some u) (heo:∃ u,h'.get? e = some u)
  (new:z3i P w (upd H x o') h' x o'):HOk P w (upd H x o') h':=fun b u q=>by
 have nown:∀ c y,H c = some (.own y) -> c ≠ x:=fun c y r z=>by subst z; rw [r] at mu; exact mu
 have ntup:∀ c xs,H c = some (.tup xs) -> c ≠ x:=fun c xs r z=>by subst z; rw [r] at mu; exact mu
 by_cases hb:b = x
 ·subst hb; rw [z08] at q; cases q; exact new
 ·rw [z05 hb] at q
  by_cases hbe:b = e
  ·have q':H b = some (.own x):=by
    rcases he with z | z
    ·exact absurd (hbe.trans z) hb
    ·rw [hbe]; exact z
   rw [q] at q'; cases q'
   obtain ⟨v,hv⟩:=heo
   exact ⟨v,by rw [hbe]; exact hv⟩
  ·refine (ok b u q).stay (fun c v hc r=>k c v ?_ r) (fun c r=>by rw [z05 (nown c b r)]; exact r) fun c xs r=>by rw [z05 (ntup c xs r)]; exact r
   rcases hc with rfl | hc
   ·exact hbe
   ·rintro rfl
    rcases he with z | z
    ·exact nown c b hc z
    ·rw [hc] at z; cases z; exact hb rfl
end
structure Un (fs ex:List Addr) (H H':Hp) (h h':Heap):Prop where
 keep:∀ b o,h.get? b = some o -> H b = none -> b ∉ fs -> b ∉ ex -> h'.get? b = some o
 slot:∀ b o,h.get? b = some o -> H b = none -> b ∈ fs -> b ∉ ex -> ∃ sl,h'.get? b = some { o with slots:=sl }
 free:∀ b o,h.get? b = some o -> H b = none -> b ∉ ex -> H' b = none
 there:∀ b o,h.get? b = some o -> b ∉ ex -> ∃ o',h'.get? b = some o'
 tups:∀ b xs,H b = some (.tup xs) -> H' b = some (.tup xs)
 frzs:∀ b o u,H b = some (.frz o u) -> H' b = some (.frz o u)
 tbls:∀ b ps,H b = some (.tbl ps) -> ∃ more,H' b = some (.tbl (ps ++ more))
section
variable {fs fs' ex ex':List Addr} {H H1 H2:Hp} {h h1 h2 h':Heap} {a x e:Addr} {o:HO}
theorem Un.any (u:Un fs ex H H1 h h1) {b:Addr} {ob:Obj} (q:h.get? b = some ob) (n:H b = none) (hx:b ∉ ex):∃ sl,h1.get? b = some { ob with slots:=sl }:=by
 by_cases hb:b ∈ fs
 ·exact u.slot b ob q n hb hx
 ·exact ⟨ob.slots,u.keep b ob q n hb hx⟩
theorem Un.kept (k:∀ b u,h.get? b = some u -> h'.get? b = some u):Un fs ex H H h h' :=
 ⟨fun b ob q _ _ _=>k b ob q,fun b ob q _ _ _=>⟨ob.slots,k b ob q⟩,fun _ _ _ n _=>n,fun b ob q _=>⟨ob,k b ob q⟩,fun _ _ q=>q,fun _ _ _ q=>q,fun _ ps q=>⟨#[],by rw [q]; simp⟩⟩
theorem Un.refl:Un fs ex H H h h:=Un.kept fun _ _ q=>q
theorem Un.laid (k:∀ b u,h.get? b = some u -> h'.get? b = some u) (hp:h.objs.size <= a) (hn:H a = none):Un fs ex H (upd H a o) h h' where
 keep:=fun b u q _ _ _=>k b u q
 slot:=fun b u q _ _ _=>⟨u.slots,k b u q⟩
 free:=fun b u q n _=>by rw [z05 (y0y (y0x (y0c q) hp))]; exact n
 there:=fun b u q _=>⟨u,k b u q⟩
 tups:=fun b xs q=>by rw [z05 (z0g q hn)]; exact q
 frzs:=fun b u xs q=>by rw [z05 (z0g q hn)]; exact q
 tbls:=fun b ps q=>⟨#[],by rw [z05 (z0g q hn),q]; simp⟩
theorem Un.write (mu:Mut (H x)) (he:e = x \/ H e = some (.own x)) (k:∀ b u,b ≠ e -> h.get? b = some u -> h'.get? b = some u) (heo:∃ u,h'.get? e = some u):Un fs ex H (upd H x o) h h':=by
 have hx:∀ b,H b = none -> b ≠ x:=fun b n z=>by subst z; rw [n] at mu; exact mu
 have hb:∀ b,H b = none -> b ≠ e:=fun b n z=>by
  subst z
  rcases he with r | r
  ·exact hx b n r
  ·rw [n] at r; cases r
 have hm:∀ b u,H b = some u -> ¬ Mut (some u) -> b ≠ x:=fun b u q nm z=>by subst z; rw [q] at mu; exact nm mu
 refine ⟨fun b u q n _ _=>k b u (hb b n) q,fun b u q n _ _=>⟨u.slots,k b u (hb b n) q⟩,fun b u q n _=>by rw [z05 (hx b n)]; exact n,fun b u q _=>?_,
  fun b xs q=>by rw [z05 (hm b _ q fun z=>z)]; exact q,fun b u xs q=>by rw [z05 (hm b _ q fun z=>z)]; exact q,fun b ps q=>⟨#[],by rw [z05 (hm b _ q fun z=>z),q]; simp⟩⟩
 by_cases hbe:b = e
 ·subst hbe; exact heo
 ·exact ⟨u,k b u hbe q⟩
end
def trk (h:Heap) (H:Hp):List Addr:=(List.range h.objs.size).filter fun a=>(H a).isSome
def hidT (h:Heap) (H:Hp):Heap:=PySem.W.hideAll h (trk h H)
theorem zbe (h:Heap) (H:Hp):(hidT h H).objs.size = h.objs.size:=PySem.W.hideAll_size _ _
theorem zd1 {h:Heap} {H:Hp} {b:Addr} {o:Obj} (e:h.get? b = some o) (n:H b = none):(hidT h H).get? b = some o :=
 PySem.W.hideAll_get _ e fun hm=>by
  have q:(H b).isSome = true:=(List.mem_filter.mp hm).2
  rw [n] at q; simp at q
theorem zer {h:Heap} {H:Hp} {b:Addr} {o:Obj} (e:(hidT h H).get? b = some o):h.get? b = some o /\ H b = none:=by
 have e':h.get? b = some o:=PySem.W.of_hideAll (trk h H) e
 refine ⟨e',?_⟩
 cases q:H b with
 | none=>rfl
 | some x =>
  have hm:b ∈ trk h H:=List.mem_filter.mpr ⟨List.mem_range.mpr (y0c e'),by simp [q]⟩
  have z:(hidT h H).get? b = none:=PySem.W.hideAll_none (trk h H) hm
  rw [z] at e; cases e
def zfe (g h:Heap) (L:Addr):List (Addr × Obj):=(List.range h.objs.size).filterMap fun a=>if a = L \/ (g.get? a).isSome = true then none else (h.get? a).map fun o=>(a,o)
def rest (g h:Heap) (L d:Addr):List (Addr × Obj):=(zfe g h L).filter fun p=>decide (p.1 ≠ d)
end L2
namespace L2
open PySem PySem.Spec PyProof.Rows
structure Mod (K:y00) (mg:Str -> Option Value) (base:Heap):Prop where
 kin:K.In base
 glob:base.Ns y0n mg
 blt:∃ mb,base.Ns builtinsNs mb /\ ∀ x:Str,x ≠ "__name__" -> mb x = bootBuiltins x
 nolimit:base.NoLimit
structure Cx where
 prog:y0q
 w:World
 K:y00
 mg:Str -> Option Value
 base:Heap
 A:Around
 N:List Str
 s₀:y04
 H₀:Hp
 env:Env
 outer:List Env
 stack:List Env
 ex:List Addr
 fn:Str -> Bool
 calm:Bool
 pn:List (Addr × Obj)
 xe:Value -> y04 -> Prop
def frs (l:List Env):List Addr:=l.filterMap (·.frame)
abbrev Cx.fs (X:Cx):List Addr:=frs X.outer
def Vis (sc:Scope) (x:Str):Prop:=sc.names.lookup x = some .local \/ sc.names.lookup x = some .cell \/ sc.names.lookup x = some .free
def Loc (sc:Scope) (x:Str):Prop:=sc.names.lookup x = some .local \/ sc.names.lookup x = some .cell
def Look (env:Env) (h:Heap) (m:Str -> Option Value) (x:Str) (u:Value):Prop :=
 (env.kindOf x = some .local /\ m x = some u) \/ ((env.kindOf x = some .cell \/ env.kindOf x = some .free) /\ ∃ c,env.cells.lookup x = some c /\ h.IsCell c (some u))
structure Cx.Ok (X:Cx):Prop where
 mod:Mod X.K X.mg X.base
 kind:X.env.scope.kind = .function
 glob:X.env.globals = y0n
 blt:X.env.builtins = builtinsNs
 above:X.s₀.heap.objs.size <= X.env.locals
 inj:∀ x y c,X.env.cells.lookup x = some c -> X.env.cells.lookup y = some c -> x = y
 has:∀ x,(X.env.kindOf x = some .cell \/ X.env.kindOf x = some .free) -> ∃ c,X.env.cells.lookup x = some c
 cab:∀ x c,X.fn x = true -> X.env.cells.lookup x = some c -> X.s₀.heap.objs.size <= c
 hd:X.calm = true -> X.A.handled = none
 frames:X.A.frames = some X.stack
 stk:X.stack = X.outer \/ (X.stack = X.env :: X.outer /\ X.env.frame = some X.env.locals)
 exf:∀ b ∈ X.ex,b ≠ X.env.locals /\ ∀ x c,X.env.cells.lookup x = some c -> c ≠ b
 bs:∀ b o,X.base.get? b = some o -> X.s₀.heap.get? b = some o /\ X.H₀ b = none
 bsz:X.base.objs.size <= X.s₀.heap.objs.size
 noex:∀ b o,X.base.get? b = some o -> b ∉ X.ex
 exfs:∀ b ∈ X.ex,b ∉ X.fs
 funs:X.s₀.heap.FunFrames X.base X.outer
 frf:∀ b ∈ X.fs,X.H₀ b = none
structure Inv (X:Cx) (pins:List (Addr × Obj)) (σ:List (Option V)) (H:Hp) (s:y04):Prop where
 ok:X.Ok
 os:s.os = X.s₀.os
 bare:AllBare s.gens
 base:Un X.fs X.ex X.H₀ H X.s₀.heap s.heap
 loc:∃ m,s.heap.Ns X.env.locals m /\ ∀ (i:Nat) (x:Str) (v:V),X.N[i]? = some x -> σ[i]? = some (some v) -> Vis X.env.scope x -> ∃ u,RelV v u /\ Look X.env s.heap m x u
 cell:∀ x c,X.env.cells.lookup x = some c -> ∃ v,s.heap.IsCell c v
 free:H X.env.locals = none
 freeC:∀ x c,X.env.cells.lookup x = some c -> H c = none
 pin:∀ p ∈ X.pn ++ pins,s.heap.get? p.1 = some p.2 /\ H p.1 = none /\ p.1 ≠ X.env.locals /\ p.1 ∉ X.fs /\ ∀ v,p.2.data ≠ .cell v
 hok:HOk X.prog X.w H s.heap
 len:σ.length = X.N.length
section
variable {X:Cx} {pins:List (Addr × Obj)} {σ:List (Option V)} {H H':Hp} {s:y04} {h':Heap}
theorem Cx.Ok.nofr (ok:X.Ok) {b:Addr} {o:Obj} (e:X.base.get? b = some o):b ∉ X.fs:=fun hb=>by
 have:=(ok.funs.mem hb).1
 rw [e] at this; cases this
theorem Inv.bs (I:Inv X pins σ H s):∀ b o,X.base.get? b = some o -> s.heap.get? b = some o /\ H b = none:=fun b o e =>
 ⟨I.base.keep b o (I.ok.bs b o e).1 (I.ok.bs b o e).2 (I.ok.nofr e) (I.ok.noex b o e),I.base.free b o (I.ok.bs b o e).1 (I.ok.bs b o e).2 (I.ok.noex b o e)⟩
theorem Inv.bk (I:Inv X pins σ H s):∀ b o,X.base.get? b = some o -> s.heap.get? b = some o:=fun b o e=>(I.bs b o e).1
theorem Inv.mod (I:Inv X pins σ H s):Mod X.K X.mg X.base:=I.ok.mod
theorem Inv.kIn (I:Inv X pins σ H s):X.K.In s.heap:=I.ok.mod.kin.keeps I.bk
theorem Inv.lt (I:Inv X pins σ H s):X.env.locals < s.heap.objs.size:=let ⟨_,hn,_⟩:=I.loc; hn.lt
theorem Inv.sz (I:Inv X pins σ H s):X.s₀.heap.objs.size <= s.heap.objs.size:=y1i I.ok.above (Nat.le_of_lt I.lt)
theorem Inv.nofs (I:Inv X pins σ H s) {a:Addr} (h:s.heap.objs.size <= a):a ∉ X.fs:=fun hb=>by
 obtain ⟨_,o,ho,_⟩:=I.ok.funs.mem hb
 exact absurd (y0x (y0c ho) (y1i I.sz h)) (Nat.lt_irrefl _)
theorem Inv.cne (I:Inv X pins σ H s):∀ x c,X.env.cells.lookup x = some c -> c ≠ X.env.locals:=fun x c e z=>by
 obtain ⟨v,o,ho,hd⟩:=I.cell x c e
 obtain ⟨m,⟨o',es,ep,ho',hd',_⟩,_⟩:=I.loc
 rw [z,ho'] at ho; cases ho; rw [hd'] at hd; cases hd
theorem Inv.funs (I:Inv X pins σ H s):s.heap.FunFrames X.base X.outer:=by
 have all:∀ (l:List Env),(∀ b ∈ frs l,b ∈ X.fs) -> X.s₀.heap.FunFrames X.base l -> s.heap.FunFrames X.base l:=by
  intro l
  induction l with
  | nil=>intro _ _; trivial
  | cons env r ih =>
   intro hs hl
   obtain ⟨hk,⟨L,o,hf,hn,ho,hd⟩,hr⟩:=hl
   have hL:L ∈ X.fs:=hs L (by unfold frs; rw [List.filterMap_cons,hf]; exact y0e)
   obtain ⟨sl,e⟩:=I.base.slot L o ho (I.ok.frf L hL) hL fun z=>I.ok.exfs L z hL
   exact ⟨hk,⟨L,_,hf,hn,e,hd⟩,ih (fun b hb=>hs b (by unfold frs; rw [List.filterMap_cons,hf]; exact y05 _ hb)) hr⟩
 exact all X.outer (fun _ hb=>hb) I.ok.funs
theorem Inv.stack (I:Inv X pins σ H s):s.heap.FunFrames X.base X.stack:=by
 rcases I.ok.stk with e | ⟨e,hf⟩
 ·rw [e]; exact I.funs
 ·rw [e]
  obtain ⟨m,hn,_⟩:=I.loc
  refine .cons (by rw [I.ok.kind]; decide) hf hn ?_ I.funs
  exact Heap.get?_none_of_le (y1i I.ok.bsz I.ok.above)
theorem Inv.stkSub (I:Inv X pins σ H s):∀ b ∈ frs X.stack,b ∈ X.env.locals :: X.fs:=fun b hb=>by
 rcases I.ok.stk with e | ⟨e,hf⟩
 ·rw [e] at hb; exact y05 _ hb
 ·rw [e] at hb
  unfold frs at hb
  rw [List.filterMap_cons,hf] at hb
  exact hb
theorem Inv.stkFree (I:Inv X pins σ H s):∀ b ∈ frs X.stack,H b = none:=fun b hb=>by
 rcases y09.mp (I.stkSub b hb) with e | hb
 ·rw [e]; exact I.free
 ·obtain ⟨_,o,ho,_⟩:=I.ok.funs.mem hb
  exact I.base.free b o ho (I.ok.frf b hb) fun z=>I.ok.exfs b z hb
theorem Inv.step {g':Array GenState} {t':Nat} {d':Drawn} {ch:List Addr} (I:Inv X pins σ H s)
  (hch:∀ b ∈ ch,(b ∈ X.ex \/ X.s₀.heap.objs.size <= b) /\ b ≠ X.env.locals /\ (∀ x c,X.env.cells.lookup x = some c -> c ≠ b) /\ ∀ p ∈ X.pn ++ pins,p.1 ≠ b)
  (keep:∀ b o,b ≠ X.env.locals -> b ∉ X.fs -> b ∉ ch -> s.heap.get? b = some o -> H b = none -> h'.get? b = some o)
  (slot:∀ b o,b ≠ X.env.locals -> b ∈ X.fs -> b ∉ ch -> s.heap.get? b = some o -> H b = none -> ∃ sl,h'.get? b = some { o with slots:=sl }) (free:∀ b o,b ∉ ch -> s.heap.get? b = some o -> H b = none -> H' b = none)
  (there:∀ b o,b ∉ ch -> s.heap.get? b = some o -> ∃ o',h'.get? b = some o')
  (tups:∀ b xs,H b = some (.tup xs) -> H' b = some (.tup xs)) (frzs:∀ b o u,H b = some (.frz o u) -> H' b = some (.frz o u)) (tbls:∀ b ps,H b = some (.tbl ps) -> ∃ more,H' b = some (.tbl (ps ++ more)))
  (ns:∀ m,s.heap.Ns X.env.locals m -> h'.Ns X.env.locals m) (hok:HOk X.prog X.w H' h') (hg:AllBare g') :
  Inv X pins σ H' { s with heap:=h',gens:=g',drawn:=d',toks:=t' }:=by
 have neL:∀ b o,X.s₀.heap.get? b = some o -> b ≠ X.env.locals:=fun b o e=>y0y (y0x (y0c e) I.ok.above)
 have neC:∀ b o,X.s₀.heap.get? b = some o -> b ∉ X.ex -> b ∉ ch:=fun b o e hx hb=>by
  rcases (hch b hb).1 with z | z
  ·exact hx z
  ·exact absurd (y0x (y0c e) z) (Nat.lt_irrefl _)
 have cellK:∀ x c,X.env.cells.lookup x = some c -> ∀ v,s.heap.IsCell c v -> h'.IsCell c v:=fun x c e v ⟨o,ho,hd⟩=>by
  have nch:c ∉ ch:=fun z=>(hch c z).2.2.1 x c e rfl
  by_cases hc:c ∈ X.fs
  ·obtain ⟨sl,q⟩:=slot c o (I.cne x c e) hc nch ho (I.freeC x c e)
   exact ⟨_,q,hd⟩
  ·exact ⟨o,keep c o (I.cne x c e) hc nch ho (I.freeC x c e),hd⟩
 refine ⟨I.ok,I.os,hg,⟨fun b o e n hb hx=>?_,fun b o e n hb hx=>?_,fun b o e n hx=>?_,fun b o e hx=>?_,fun b xs e=>tups b xs (I.base.tups b xs e),fun b o xs e=>frzs b o xs (I.base.frzs b o xs e),fun b ps e=>?_⟩,?_,fun x c e=>?_,?_,fun x c e=>?_,fun p hp=>?_,hok,I.len⟩
 ·exact keep b o (neL b o e) hb (neC b o e hx) (I.base.keep b o e n hb hx) (I.base.free b o e n hx)
 ·obtain ⟨sl,e1⟩:=I.base.slot b o e n hb hx
  obtain ⟨sl',e2⟩:=slot b _ (neL b o e) hb (neC b o e hx) e1 (I.base.free b o e n hx)
  exact ⟨sl',e2⟩
 ·obtain ⟨o',e1⟩:=I.base.there b o e hx
  exact free b o' (neC b o e hx) e1 (I.base.free b o e n hx)
 ·obtain ⟨o',e1⟩:=I.base.there b o e hx
  exact there b o' (neC b o e hx) e1
 ·obtain ⟨m1,e1⟩:=I.base.tbls b ps e
  obtain ⟨m2,e2⟩:=tbls b _ e1
  exact ⟨m1 ++ m2,by rw [e2,Array.append_assoc]⟩
 ·obtain ⟨m,hn,hl⟩:=I.loc
  refine ⟨m,ns m hn,fun i x v e1 e2 e3=>?_⟩
  obtain ⟨u,r,l⟩:=hl i x v e1 e2 e3
  refine ⟨u,r,?_⟩
  rcases l with l | ⟨k,c,e,z⟩
  ·exact .inl l
  ·exact .inr ⟨k,c,e,cellK x c e _ z⟩
 ·obtain ⟨v,z⟩:=I.cell x c e
  exact ⟨v,cellK x c e v z⟩
 ·obtain ⟨m,⟨o,_,_,ho,_⟩,_⟩:=I.loc
  exact free _ o (fun z=>(hch _ z).2.1 rfl) ho I.free
 ·obtain ⟨v,o,ho,hd⟩:=I.cell x c e
  exact free c o (fun z=>(hch c z).2.2.1 x c e rfl) ho (I.freeC x c e)
 ·obtain ⟨e,n,ne,nf,d⟩:=I.pin p hp
  have nch:p.1 ∉ ch:=fun z=>(hch p.1 z).2.2.2 p hp rfl
  exact ⟨keep p.1 p.2 ne nf nch e n,free p.1 p.2 nch e n,ne,nf,d⟩
theorem Inv.un {t':Nat} (I:Inv X pins σ H s) (u:Un X.fs [] H H' s.heap h') (hok:HOk X.prog X.w H' h'):Inv X pins σ H' { s with heap:=h',toks:=t' }:=by
 obtain ⟨m,⟨o,es,ep,ho,r⟩,_⟩:=id I.loc
 obtain ⟨sl,hL⟩:=u.any ho I.free (by simp)
 exact I.step (g':=s.gens) (d':=s.drawn) (ch:=[]) (fun _ z=>nomatch z) (fun b o _ hb _ e n=>u.keep b o e n hb (by simp)) (fun b o _ hb _ e n=>u.slot b o e n hb (by simp)) (fun b o _ e n=>u.free b o e n (by simp)) (fun b o _ e=>u.there b o e (by simp)) u.tups u.frzs u.tbls (fun m' hm=>by
  obtain ⟨o',es',ep',ho',r'⟩:=hm
  rw [ho] at ho'; cases ho'
  exact ⟨_,es',ep',hL,r'⟩) hok I.bare
theorem Inv.call {g':Array GenState} {t':Nat} {d':Drawn} {ch:List Addr} (I:Inv X pins σ H s) (u:Un (frs X.stack) ch H H' s.heap h') (hok:HOk X.prog X.w H' h') (hg:AllBare g')
  (hch:∀ b ∈ ch,(b ∈ X.ex \/ X.s₀.heap.objs.size <= b) /\ b ≠ X.env.locals /\ (∀ x c,X.env.cells.lookup x = some c -> c ≠ b) /\ ∀ p ∈ X.pn ++ pins,p.1 ≠ b) :
  Inv X pins σ H' { s with heap:=h',gens:=g',drawn:=d',toks:=t' }:=by
 obtain ⟨m,⟨o,es,ep,ho,r⟩,_⟩:=id I.loc
 obtain ⟨sl,hL⟩:=u.any ho I.free fun z=>(hch _ z).2.1 rfl
 exact I.step (ch:=ch) hch (fun b o hL hb hc e n=>u.keep b o e n (fun z=>(y09.mp (I.stkSub b z)).elim hL hb) hc) (fun b o _ _ hc e n=>u.any e n hc) (fun b o hc e n=>u.free b o e n hc) (fun b o hc e=>u.there b o e hc) u.tups u.frzs u.tbls (fun m' hm=>by
  obtain ⟨o',es',ep',ho',r'⟩:=hm
  rw [ho] at ho'; cases ho'
  exact ⟨_,es',ep',hL,r'⟩) hok hg
theorem Inv.turned {t':Nat} {it:Addr} (I:Inv X pins σ H s) (k:∀ b o,b ≠ it -> s.heap.get? b = some o -> h'.get? b = some o) (hn:H it = none) (hL:it ≠ X.env.locals)
  (h1:it ∈ X.ex \/ X.s₀.heap.objs.size <= it) (h2:∀ x c,X.env.cells.lookup x = some c -> c ≠ it) (h3:∀ p ∈ X.pn ++ pins,p.1 ≠ it):Inv X pins σ H { s with heap:=h',toks:=t' }:=by
 have nit:∀ b u,H b = some u -> b ≠ it:=fun b u e z=>by rw [z,hn] at e; cases e
 refine I.step (g':=s.gens) (d':=s.drawn) (ch:=[it]) (fun b hb=>?_) (fun b o _ _ hc e _=>k b o (fun z=>hc (by simp [z])) e) (fun b o _ _ hc e _=>⟨o.slots,k b o (fun z=>hc (by simp [z])) e⟩) (fun _ _ _ _ n=>n)
  (fun b o hc e=>⟨o,k b o (fun z=>hc (by simp [z])) e⟩) (fun _ _ e=>e) (fun _ _ _ e=>e) (fun b ps e=>⟨#[],by rw [e]; simp⟩) (fun m hm=>?_) (fun b u e=>?_) I.bare
 ·have e:b = it:=by simpa using hb
  subst e
  exact ⟨h1,hL,h2,h3⟩
 ·obtain ⟨o,es,ep,ho,r⟩:=hm
  exact ⟨o,es,ep,k _ o (Ne.symm hL) ho,r⟩
 ·refine (I.hok b u e).stay (fun c v hc q=>k c v ?_ q) (fun _ q=>q) fun _ _ q=>q
  rcases hc with z | z
  ·rw [z]; exact nit b u e
  ·exact nit c _ z
theorem Inv.tok (I:Inv X pins σ H s) (t:Nat):Inv X pins σ H { s with toks:=t }:=I.un (h':=s.heap) (t':=t) Un.refl I.hok
theorem Inv.kept {t':Nat} (I:Inv X pins σ H s) (k:∀ b u,s.heap.get? b = some u -> h'.get? b = some u):Inv X pins σ H { s with heap:=h',toks:=t' }:=I.un (Un.kept k) (I.hok.kept k)
theorem Inv.laid {a:Addr} {o:HO} {t':Nat} (I:Inv X pins σ H s) (k:∀ b u,s.heap.get? b = some u -> h'.get? b = some u) (hp:s.heap.objs.size <= a) (new:z3i X.prog X.w (upd H a o) h' a o) :
  Inv X pins σ (upd H a o) { s with heap:=h',toks:=t' }:=I.un (Un.laid k hp (I.hok.fresh hp)) (I.hok.laid k hp new)
theorem Inv.write {x e:Addr} {o:HO} {t':Nat} (I:Inv X pins σ H s) (mu:Mut (H x)) (he:e = x \/ H e = some (.own x)) (k:∀ b u,b ≠ e -> s.heap.get? b = some u -> h'.get? b = some u) (heo:∃ u,h'.get? e = some u)
  (new:z3i X.prog X.w (upd H x o) h' x o):Inv X pins σ (upd H x o) { s with heap:=h',toks:=t' }:=I.un (Un.write mu he k heo) (I.hok.write mu he k heo new)
theorem Inv.pins_of {pins':List (Addr × Obj)} (I:Inv X pins σ H s) (h:∀ p ∈ pins',s.heap.get? p.1 = some p.2 /\ H p.1 = none /\ p.1 ≠ X.env.locals /\ p.1 ∉ X.fs /\ ∀ v,p.2.data ≠ .cell v):Inv X pins' σ H s :=
 ⟨I.ok,I.os,I.bare,I.base,I.loc,I.cell,I.free,I.freeC,fun p hp=>(y0z.mp hp).elim (fun z=>I.pin p (List.mem_append_left _ z)) (h p),I.hok,I.len⟩
theorem z8w {N:List Str} (hN:N.Nodup) {i j:Nat} {x:Str} (a:N[i]? = some x) (b:N[j]? = some x):i = j:=by
 obtain ⟨h1,e1⟩:=y0k.mp a
 obtain ⟨h2,e2⟩:=y0k.mp b
 exact (List.getElem_inj hN).mp (e1.trans e2.symm)
theorem z6o {M:Model} {A:Around} {E:Value -> y04 -> Prop} {i:Nat} {x:Str} {v:V} {u:Value} {Q:Unit -> y04 -> Prop} (I:Inv X pins σ H s) (hN:X.N.Nodup) (hi:X.N[i]? = some x) (hx:Loc X.env.scope x) (r:RelV v u)
  (h:∀ s',Inv X pins (σ.set i (some v)) H s' -> (∃ a,Heap.SameBut a s.heap s'.heap /\ (a = X.env.locals \/ X.env.cells.lookup x = some a)) -> Q () s') (hf:X.fn x = true \/ X.env.scope.names.lookup x = some .local:=by first | exact .inl rfl | exact .inr rfl | assumption):y0u M A (storeName X.env x u) Q E s:=by
 obtain ⟨m,hn,hl⟩:=id I.loc
 have hcls:(X.env.scope.kind == .class || (X.env.scope.kind == .module && X.env.locals != X.env.globals)) = false:=by rw [I.ok.kind]; rfl
 have hiσ:i < σ.length:=by rw [I.len]; exact (y0k.mp hi).1
 have cne:=I.cne
 have tracked:∀ {a:Addr} {h':Heap},(∃ o,s.heap.get? a = some o /\ H a = none) -> Heap.SameBut a s.heap h' -> HOk X.prog X.w H h':=fun {a h'} ha hs b ob e=>by
  obtain ⟨_,_,hfree⟩:=ha
  refine (I.hok b ob e).stay (fun c w' hc q=>(hs.2 c ?_).trans q) (fun _ q=>q) fun _ _ q=>q
  rintro rfl
  rcases hc with rfl | hc
  ·rw [hfree] at e; cases e
  ·rw [hfree] at hc; cases hc
 rcases hx with hk | hk
 ·refine wpAny_storeName_local hk hn (fun h' hn' hs=>?_) hcls
  obtain ⟨oL,_,_,hoL,_⟩:=id hn
  refine h _ ⟨I.ok,I.os,I.bare,⟨fun b o e n hb hx=>?_,fun b o e n hb hx=>?_,I.base.free,fun b o e hx=>?_,I.base.tups,I.base.frzs,I.base.tbls⟩,⟨_,hn',fun j y v' e1 e2 e3=>?_⟩,fun y c e=>?_,I.free,I.freeC,fun p hp=>?_,tracked ⟨oL,hoL,I.free⟩ hs,by simpa using I.len⟩ ⟨_,hs,.inl rfl⟩
  ·exact (hs.2 b (y0y (y0x (y0c e) I.ok.above))).trans (I.base.keep b o e n hb hx)
  ·obtain ⟨sl,e1⟩:=I.base.slot b o e n hb hx
   exact ⟨sl,(hs.2 b (y0y (y0x (y0c e) I.ok.above))).trans e1⟩
  ·obtain ⟨o',e1⟩:=I.base.there b o e hx
   exact ⟨o',(hs.2 b (y0y (y0x (y0c e) I.ok.above))).trans e1⟩
  ·by_cases hj:j = i
   ·subst hj
    rw [hi] at e1; cases e1
    rw [List.getElem?_set_self hiσ] at e2
    cases e2
    exact ⟨u,r,.inl ⟨hk,by simp⟩⟩
   ·rw [List.getElem?_set_ne (Ne.symm hj)] at e2
    obtain ⟨u',r',q⟩:=hl j y v' e1 e2 e3
    refine ⟨u',r',?_⟩
    rcases q with ⟨k,e⟩ | ⟨k,c,e,z⟩
    ·refine .inl ⟨k,?_⟩
     have:y ≠ x:=fun e=>hj (z8w hN e1 (e ▸ hi))
     simp [this,e]
    ·exact .inr ⟨k,c,e,z.sameBut hs (cne y c e)⟩
  ·obtain ⟨w',z⟩:=I.cell y c e
   exact ⟨w',z.sameBut hs (cne y c e)⟩
  ·obtain ⟨e,n,ne,nf,d⟩:=I.pin p hp
   exact ⟨(hs.2 p.1 ne).trans e,n,ne,nf,d⟩
 ·have hfn:X.fn x = true:=by
   rcases hf with z | z
   ·exact z
   ·rw [z] at hk; cases hk
  obtain ⟨c,hc⟩:=I.ok.has x (.inl hk)
  obtain ⟨w',z⟩:=I.cell x c hc
  refine wpAny_storeName_cell I.ok.kind hk hc z (fun h' hc' hs=>?_)
  obtain ⟨oc,hoc,hocd⟩:=id z
  refine h { s with heap:=h' } ⟨I.ok,I.os,I.bare,⟨fun b o e n hb hx=>?_,fun b o e n hb hx=>?_,I.base.free,fun b o e hx=>?_,I.base.tups,I.base.frzs,I.base.tbls⟩,⟨m,hn.sameBut hs (Ne.symm (cne x c hc)),fun j y v' e1 e2 e3=>?_⟩,fun y c' e=>?_,I.free,I.freeC,fun p hp=>?_,tracked ⟨oc,hoc,I.freeC x c hc⟩ hs,by simpa using I.len⟩ ⟨c,hs,.inr hc⟩
  ·exact (hs.2 b (y0y (y0x (y0c e) (I.ok.cab x c hfn hc)))).trans (I.base.keep b o e n hb hx)
  ·obtain ⟨sl,e1⟩:=I.base.slot b o e n hb hx
   exact ⟨sl,(hs.2 b (y0y (y0x (y0c e) (I.ok.cab x c hfn hc)))).trans e1⟩
  ·obtain ⟨o',e1⟩:=I.base.there b o e hx
   exact ⟨o',(hs.2 b (y0y (y0x (y0c e) (I.ok.cab x c hfn hc)))).trans e1⟩
  ·by_cases hj:j = i
   ·subst hj
    rw [hi] at e1; cases e1
    rw [List.getElem?_set_self hiσ] at e2
    cases e2
    exact ⟨u,r,.inr ⟨.inl hk,c,hc,hc'⟩⟩
   ·rw [List.getElem?_set_ne (Ne.symm hj)] at e2
    obtain ⟨u',r',q⟩:=hl j y v' e1 e2 e3
    refine ⟨u',r',?_⟩
    rcases q with q | ⟨k,c',e,z'⟩
    ·exact .inl q
    ·refine .inr ⟨k,c',e,z'.sameBut hs ?_⟩
     rintro rfl
     exact hj (z8w hN e1 (I.ok.inj _ _ _ e hc ▸ hi))
  ·by_cases hcc:c' = c
   ·subst hcc; exact ⟨_,hc'⟩
   ·obtain ⟨w2,z2⟩:=I.cell y c' e
    exact ⟨w2,z2.sameBut hs hcc⟩
  ·obtain ⟨e,n,ne,nf,d⟩:=I.pin p hp
   refine ⟨(hs.2 p.1 ?_).trans e,n,ne,nf,d⟩
   intro q
   rw [q,hoc] at e
   have q':oc = p.2:=Option.some.inj e
   exact d w' (by rw [<- q']; exact hocd)
theorem z8t {M:Model} {A:Around} {E:Value -> y04 -> Prop} {i:Nat} {x:Str} {v:V} {u:Value} {Q:Unit -> y04 -> Prop} (I:Inv X pins σ H s) (hN:X.N.Nodup) (hi:X.N[i]? = some x) (hx:Loc X.env.scope x) (r:RelV v u)
  (h:∀ s',Inv X pins (σ.set i (some v)) H s' -> Q () s') (hf:X.fn x = true \/ X.env.scope.names.lookup x = some .local:=by first | exact .inl rfl | exact .inr rfl | assumption):y0u M A (storeName X.env x u) Q E s :=
 z6o I hN hi hx r (fun s' I' _=>h s' I') hf
end
abbrev XK:=Value -> Option Addr -> Hp -> Prop
abbrev St:=List (Option V)
abbrev VK:=V -> Hp -> Prop
abbrev TE:=St -> Hp -> VK -> Prop
abbrev TT:=St -> Hp -> (Bool -> Hp -> Prop) -> Prop
abbrev TA:=St -> Hp -> (List V -> Hp -> Prop) -> Prop
structure Ends where
 nx:St -> Hp -> Prop
 rt:VK
 bk:St -> Hp -> Prop:=fun _ _=>False
 ct:St -> Hp -> Prop:=fun _ _=>False
abbrev TS:=Ends -> St -> Hp -> Prop
def EP (X:Cx) (pins:List (Addr × Obj)) (σ:St) (Q:VK) (u:Value) (s':y04):Prop:=∃ v H',Inv X pins σ H' s' /\ RelV v u /\ Q v H'
def TP (X:Cx) (pins:List (Addr × Obj)) (σ:St) (Q:Bool -> Hp -> Prop) (b:Bool) (s':y04):Prop:=∃ H',Inv X pins σ H' s' /\ Q b H'
def AP (X:Cx) (pins:List (Addr × Obj)) (σ:St) (Q:List V -> Hp -> Prop) (us:List Value) (s':y04):Prop:=∃ vs H',Inv X pins σ H' s' /\ Vals vs us /\ Q vs H'
def SP (X:Cx) (pins:List (Addr × Obj)) (D:Ends) (f:Flow) (s':y04):Prop :=
 match f with
 | .next=>∃ σ' H',Inv X pins σ' H' s' /\ D.nx σ' H'
 | .brk=>∃ σ' H',Inv X pins σ' H' s' /\ D.bk σ' H'
 | .cont=>∃ σ' H',Inv X pins σ' H' s' /\ D.ct σ' H'
 | .ret u=>∃ v σ' H',Inv X pins σ' H' s' /\ RelV v u /\ D.rt v H'
def PE (X:Cx) (e:Expr) (t:TE):Prop :=
 ∀ (pins:List (Addr × Obj)) (s:y04) (σ:St) (H:Hp) (Q:VK),Inv X pins σ H s -> t σ H Q -> y0u (model X.prog X.w) X.A (eval e X.env) (EP X pins σ Q) X.xe s
def PT (X:Cx) (e:Expr) (t:TT):Prop :=
 ∀ (pins:List (Addr × Obj)) (s:y04) (σ:St) (H:Hp) (Q:Bool -> Hp -> Prop),Inv X pins σ H s -> t σ H Q -> y0u (model X.prog X.w) X.A (isTrue e X.env (eval e X.env)) (TP X pins σ Q) X.xe s
def PW (X:Cx) (e:Expr) (t:TT):Prop :=
 ∀ (whole:Sem Value) (pins:List (Addr × Obj)) (s:y04) (σ:St) (H:Hp) (Q:Bool -> Hp -> Prop),Inv X pins σ H s -> t σ H Q -> y0u (model X.prog X.w) X.A (isTrue e X.env whole) (TP X pins σ Q) X.xe s
theorem PW.pt {X:Cx} {e:Expr} {t:TT} (h:PW X e t):PT X e t:=h _
def PA (X:Cx) (es:List Expr) (t:TA):Prop :=
 ∀ (pos:Pos) (pins:List (Addr × Obj)) (s:y04) (σ:St) (H:Hp) (Q:List V -> Hp -> Prop),Inv X pins σ H s -> t σ H Q -> y0u (model X.prog X.w) X.A (spliced (backTo pos (y0a es X.env))) (AP X pins σ Q) X.xe s
def PS (X:Cx) (st:Stmt) (t:TS):Prop :=
 ∀ (pins:List (Addr × Obj)) (s:y04) (σ:St) (H:Hp) (D:Ends),Inv X pins σ H s -> t D σ H -> y0u (model X.prog X.w) X.A (exec st X.env) (SP X pins D) X.xe s
def PSs (X:Cx) (st:List Stmt) (t:TS):Prop :=
 ∀ (pins:List (Addr × Obj)) (s:y04) (σ:St) (H:Hp) (D:Ends),Inv X pins σ H s -> t D σ H -> y0u (model X.prog X.w) X.A (execs st X.env) (SP X pins D) X.xe s
theorem thn {α:Type} {t:Sem α} {Q Q':α -> y04 -> Prop} {M:Model} {A:Around} {E:Value -> y04 -> Prop} {s:y04} (h:y0u M A t Q E s) (hQ:∀ a s,Q a s -> Q' a s):y0u M A t Q' E s:=y18 h hQ fun _ _ x=>x
end L2
namespace L2
open PySem PySem.Spec PyProof.Rows
section
variable {X:Cx}
def tVar (i:Nat):TE:=fun σ H Q=>∃ v,σ[i]? = some (some v) /\ Q v H
def tC (v:V):TE:=fun _ H Q=>Q v H
theorem zg8 {i:Nat} {x:Str} {pos:Pos} (hN:X.N[i]? = some x) (hv:Vis X.env.scope x) (hd:(x == ("__debug__":Str)) = false:=by decide) (hcd:(x == ("__classdict__":Str)) = false:=by decide):PE X (.Name x pos) (tVar i):=by
 intro pins s σ H Q I h
 obtain ⟨v,e,h⟩:=h
 obtain ⟨m,hn,hl⟩:=I.loc
 obtain ⟨u,r,l⟩:=hl i x v hN e hv
 have fin:EP X pins σ Q u s:=⟨v,H,I,r,h⟩
 rcases l with ⟨hk,hm⟩ | ⟨hk,c,hc,hcell⟩
 ·exact wpAny_Name (wpAny_loadName_local I.ok.kind hk hn hm fin) hd
 ·rcases hk with hk | hk
  ·exact wpAny_Name (wpAny_loadName_cell I.ok.kind hk hc hcell fin) hd
  ·exact wpAny_Name (wpAny_loadName_free I.ok.kind hk hc hcell fin hcd) hd
theorem zdk {i j pos}:PE X (.Constant (.int i) j pos) (tC (.int i)):=fun _ _ _ H _ I h=>wpAny_Constant_int ⟨.int i,H,I.tok _,⟨_,rfl⟩,h⟩
theorem zi0 {b j pos}:PE X (.Constant (.bool b) j pos) (tC (.bl b)):=fun _ _ _ H _ I h=>Constant_bool ⟨.bl b,H,I,rfl,h⟩
theorem zgc {j pos}:PE X (.Constant .none j pos) (tC .non):=fun _ _ _ H _ I h=>Constant_none ⟨.non,H,I,rfl,h⟩
theorem zga {x j pos}:PE X (.Constant (.str x) j pos) (tC (.str x)):=fun _ _ _ H _ I h=>Calls.Constant_str ⟨.str x,H,I.tok _,⟨_,rfl⟩,h⟩
def Gl (X:Cx) (x:Str):Prop:=X.env.kindOf x = some .globalImplicit
theorem zb7 {E:Value -> y04 -> Prop} {pins:List (Addr × Obj)} {s:y04} {σ:St} {H:Hp} {x:Str} {u:Value} {pos:Pos} {Q:Value -> y04 -> Prop} (I:Inv X pins σ H s) (hg:Gl X x) (hm:X.mg x = some u) (h:Q u s)
  (hd:(x == ("__debug__":Str)) = false:=by decide):y0u (model X.prog X.w) X.A (eval (.Name x pos) X.env) Q E s :=
 Calls.Name_function_global I.ok.kind hg (Calls.loadGlobal_global (by rw [I.ok.glob]; exact I.mod.glob.keeps I.bk) hm h) hd
theorem z5j {E:Value -> y04 -> Prop} {pins:List (Addr × Obj)} {s:y04} {σ:St} {H:Hp} {x:Str} {u:Value} {pos:Pos} {Q:Value -> y04 -> Prop} (I:Inv X pins σ H s) (hg:Gl X x) (hm:X.mg x = none) (hv:bootBuiltins x = some u) (h:Q u s)
  (hn:x ≠ "__name__":=by decide) (hd:(x == ("__debug__":Str)) = false:=by decide):y0u (model X.prog X.w) X.A (eval (.Name x pos) X.env) Q E s:=by
 obtain ⟨mb,h1,h2⟩:=I.mod.blt
 exact Calls.Name_function_global I.ok.kind hg (Calls.loadGlobal_builtin (by rw [I.ok.glob]; exact I.mod.glob.keeps I.bk) hm (by rw [I.ok.blt]; exact h1.keeps I.bk) ((h2 x hn).trans hv) h) hd
theorem zei {x:Str} {v:V} {u:Value} {pos:Pos} (hg:Gl X x) (hm:X.mg x = some u) (r:RelV v u) (hd:(x == ("__debug__":Str)) = false:=by decide):PE X (.Name x pos) (tC v) :=
 fun _ _ _ H _ I h=>zb7 I hg hm ⟨v,H,I,r,h⟩ hd
variable {a b:Expr} {ta tb:TE} {pos:Pos}
def PC (X:Cx) (op:CmpOp) (a b:Expr) (t:TE):Prop :=
 ∀ (pins:List (Addr × Obj)) (s:y04) (σ:St) (H:Hp) (Q:VK),Inv X pins σ H s -> t σ H Q ->
  y0u (model X.prog X.w) X.A (eval a X.env) (fun v s₁=>y0u (model X.prog X.w) X.A (eval b X.env) (fun u s₂=>y0u (model X.prog X.w) X.A (compareOp op v u) (EP X pins σ Q) X.xe s₂) X.xe s₁) X.xe s
theorem zct (b:Expr) {op:CmpOp} (h:op ≠ .In) (h2:op ≠ .NotIn):behindInMarks op b = false:=by
 have e1:(op == CmpOp.In) = false:=by cases op <;> first | rfl | exact absurd rfl h
 have e2:(op == CmpOp.NotIn) = false:=by cases op <;> first | rfl | exact absurd rfl h2
 cases b <;> simp [behindInMarks,e1,e2]
def tIsN (ta:TE):TE:=fun σ H Q=>ta σ H fun x H1=>Q (.bl (decide (x = .non))) H1
def zhi (ta:TE):TE:=fun σ H Q=>ta σ H fun x H1=>Q (.bl (!decide (x = .non))) H1
theorem RelV.none_iff {x:V} {v:Value} (r:RelV x v):(v == Value.none) = decide (x = .non):=by
 cases x with
 | non=>cases r; rfl
 | bl _=>cases r; rfl
 | int _=>obtain ⟨t,rfl⟩:=r; rfl
 | str _=>obtain ⟨t,rfl⟩:=r; rfl
 | byt _=>obtain ⟨t,rfl⟩:=r; rfl
 | flt _=>obtain ⟨t,rfl⟩:=r; rfl
 | ref _=>cases r; rfl
 | ty _=>cases r; rfl
theorem zgg {j pos'} (ha:PE X a ta):PC X .Is a (.Constant .none j pos') (tIsN ta):=by
 intro pins s σ H Q I h
 refine thn (ha pins s σ H _ I h) fun v s1 ⟨x,H1,I1,r1,q1⟩=>?_
 exact Constant_none (is_none_gen ⟨.bl _,H1,I1,by rw [r1.none_iff]; rfl,q1⟩)
theorem zel {j pos'} (ha:PE X a ta):PC X .IsNot a (.Constant .none j pos') (zhi ta):=by
 intro pins s σ H Q I h
 refine thn (ha pins s σ H _ I h) fun v s1 ⟨x,H1,I1,r1,q1⟩=>?_
 exact Constant_none (isnot_none_gen ⟨.bl _,H1,I1,by rw [r1.none_iff]; rfl,q1⟩)
def tB (t:TE):TT:=fun σ H Q=>t σ H fun x H1=>∃ c,x = .bl c /\ Q c H1
theorem zdh {op:CmpOp} {t:TE} (h:PC X op a b t) (h1:behindInMarks op b = false:=by first | exact zct _ (by decide) (by decide) | rfl):PT X (.Compare a [op] [b] pos) (tB t):=by
 intro pins s σ H Q I hw
 refine wpAny_isTrue_Compare1 (thn (h pins s σ H _ I hw) fun v s1 h1=>thn h1 fun u s2 h2=>thn h2 fun c s3 ⟨x,H1,I1,r1,q1⟩=>?_) h1
 obtain ⟨d,rfl,q⟩:=q1
 cases r1
 exact wpAny_truthy_bool ⟨H1,I1,q⟩
theorem zg3 {e:Expr} {t:TE} (h:PE X e t) (he:∀ whole,isTrue e X.env whole = (do let v <- whole; standAt e.pos; holding [v] (truthy v)):=by intro _; rfl):PT X e (tB t):=by
 intro pins s σ H Q I hw
 refine isTrue_plain (thn (h pins s σ H _ I hw) fun v s1 ⟨x,H1,I1,r1,q1⟩=>?_) (he _)
 obtain ⟨d,rfl,q⟩:=q1
 cases r1
 exact wpAny_truthy_bool ⟨H1,I1,q⟩
variable {tA tB':TT} {rest:List Expr}
def tAnd (t u:TT):TT:=fun σ H Q=>t σ H fun c H1=>if c = true then u σ H1 Q else Q false H1
def tOr (t u:TT):TT:=fun σ H Q=>t σ H fun c H1=>if c = true then Q true H1 else u σ H1 Q
def tNot (t:TT):TT:=fun σ H Q=>t σ H fun c H1=>Q (!c) H1
theorem ze9 (ha:PT X a tA):PW X (.BoolOp .And [a] pos) tA:=by
 intro wh pins s σ H Q I h
 refine isTrue_and (thn (ha pins s σ H Q I h) fun c s1 e=>?_)
 cases c with
 | true=>exact isTrue_and_nil e
 | false=>exact e
theorem zg1 (ha:PT X a tA):PW X (.BoolOp .Or [a] pos) tA:=by
 intro wh pins s σ H Q I h
 refine isTrue_or (thn (ha pins s σ H Q I h) fun c s1 e=>?_)
 cases c with
 | false=>exact isTrue_or_nil e
 | true=>exact e
theorem zg2 (ha:PT X a tA) (hb:PW X (.BoolOp .And (b :: rest) pos) tB'):PW X (.BoolOp .And (a :: b :: rest) pos) (tAnd tA tB'):=by
 intro wh pins s σ H Q I h
 refine isTrue_and (thn (ha pins s σ H _ I h) fun c s1 ⟨H1,I1,q1⟩=>?_)
 cases c with
 | true=>exact hb wh pins s1 σ H1 Q I1 q1
 | false=>exact ⟨H1,I1,q1⟩
theorem zhv (ha:PT X a tA) (hb:PW X (.BoolOp .Or (b :: rest) pos) tB'):PW X (.BoolOp .Or (a :: b :: rest) pos) (tOr tA tB'):=by
 intro wh pins s σ H Q I h
 refine isTrue_or (thn (ha pins s σ H _ I h) fun c s1 ⟨H1,I1,q1⟩=>?_)
 cases c with
 | true=>exact ⟨H1,I1,q1⟩
 | false=>exact hb wh pins s1 σ H1 Q I1 q1
theorem zg4 (ha:PT X a tA):PT X (.UnaryOp .Not a pos) (tNot tA):=by
 intro pins s σ H Q I h
 exact isTrue_not (ha pins s σ H (fun c H1=>Q (!c) H1) I h)
end
end L2
namespace L2
open PySem PySem.Spec PyProof.Rows
def SqL (K:y00) (H:Hp) (a:Addr) (xs:List V):Prop :=
 Rd H a (.lst xs) \/
  ∃ (o:Obj) (its:Array Value) (n:Nat),K.lookup a = some o /\ o.cls = .type "list" /\ o.dict = none /\ o.data = .seq its n /\ its.size <= y0j /\ Vals xs its.toList
def SqT (K:y00) (H:Hp) (a:Addr) (xs:List V):Prop :=
 Rd H a (.tup xs) \/
  ∃ (o:Obj) (its:Array Value) (n:Nat),K.lookup a = some o /\ o.cls = .type "tuple" /\ o.data = .seq its n /\ its.size <= y0j /\ Vals xs its.toList
def absV:Value -> Option V
 | .none=>some .non
 | .bool b=>some (.bl b)
 | .int i _=>some (.int i)
 | .str x _=>some (.str x)
 | .bytes b _=>some (.byt b)
 | .float b _=>some (.flt b)
 | .ref a=>some (.ref a)
 | .type n=>some (.ty n)
 | _=>none
theorem RelV.abs {x:V} {u:Value} (r:RelV x u):absV u = some x:=by
 cases x with
 | non=>cases r; rfl
 | bl _=>cases r; rfl
 | int _=>obtain ⟨t,rfl⟩:=r; rfl
 | str _=>obtain ⟨t,rfl⟩:=r; rfl
 | byt _=>obtain ⟨t,rfl⟩:=r; rfl
 | flt _=>obtain ⟨t,rfl⟩:=r; rfl
 | ref _=>cases r; rfl
 | ty _=>cases r; rfl
theorem RelV.inj {x y:V} {u:Value} (r:RelV x u) (q:RelV y u):x = y:=Option.some.inj (r.abs.symm.trans q.abs)
theorem Vals.inj:∀ {xs ys:List V} {us:List Value},Vals xs us -> Vals ys us -> xs = ys
 | _,_,_,.nil,.nil=>rfl
 | _,_,_,.cons r t,.cons r' t'=>by rw [r.inj r',Vals.inj t t']
section
variable {X:Cx} {pins:List (Addr × Obj)} {σ:St} {H:Hp} {s:y04} {a:Addr} {xs ys:List V}
theorem SqL.of {K:y00} (h:H a = some (.lst xs)):SqL K H a xs:=.inl (.inl h)
theorem SqT.of {K:y00} (h:H a = some (.tup xs)):SqT K H a xs:=.inl (.inl h)
theorem Inv.list (I:Inv X pins σ H s) (h:SqL X.K H a xs):∃ its:List Value,Vals xs its /\ PlainL s.heap a its.toArray /\ xs.length <= y0j:=by
 rcases h with h | ⟨o,its,n,hk,hc,hd,hs,hz,r⟩
 ·obtain ⟨z,its,n,r,e⟩:=h.ok I.hok
  exact ⟨its,r,⟨_,n,e,rfl,rfl,rfl⟩,z⟩
 ·refine ⟨its.toList,r,⟨o,n,I.kIn a o hk,hc,hd,by simpa using hs⟩,?_⟩
  have e:=r.length
  simp only [y1q] at e
  omega
theorem Inv.tuple (I:Inv X pins σ H s) (h:SqT X.K H a xs):∃ its:List Value,Vals xs its /\ IsTup s.heap a its.toArray /\ xs.length <= y0j:=by
 rcases h with h | ⟨o,its,n,hk,hc,hs,hz,r⟩
 ·obtain ⟨z,its,r,p⟩:=h.ok I.hok
  exact ⟨its,r,p,z⟩
 ·refine ⟨its.toList,r,⟨o,I.kIn a o hk,hc,n,by simpa using hs⟩,?_⟩
  have e:=r.length
  simp only [y1q] at e
  omega
theorem Inv.list_inj (I:Inv X pins σ H s) (h:SqL X.K H a xs) (h':SqL X.K H a ys):xs = ys:=by
 obtain ⟨its,r,⟨o,n,e,_,_,d⟩,_⟩:=I.list h
 obtain ⟨its',r',⟨o',n',e',_,_,d'⟩,_⟩:=I.list h'
 rw [e] at e'; cases e'
 rw [d] at d'
 injection d' with d1 _
 have:its = its':=by simpa using congrArg Array.toList d1
 subst this
 exact r.inj r'
theorem Inv.tuple_inj (I:Inv X pins σ H s) (h:SqT X.K H a xs) (h':SqT X.K H a ys):xs = ys:=by
 obtain ⟨its,r,⟨o,e,_,n,d⟩,_⟩:=I.tuple h
 obtain ⟨its',r',⟨o',e',_,n',d'⟩,_⟩:=I.tuple h'
 rw [e] at e'; cases e'
 rw [d] at d'
 injection d' with d1 _
 have:its = its':=by simpa using congrArg Array.toList d1
 subst this
 exact r.inj r'
end
abbrev Cx.wish (X:Cx) (E:Value -> y04 -> Prop):Cx:={ X with xe:=E }
abbrev Cx.nox (X:Cx):Cx:=X.wish fun _ _=>False
theorem Cx.Ok.wish {X:Cx} (ok:X.Ok) (E:Value -> y04 -> Prop):(X.wish E).Ok :=
 ⟨ok.mod,ok.kind,ok.glob,ok.blt,ok.above,ok.inj,ok.has,ok.cab,ok.hd,ok.frames,ok.stk,ok.exf,ok.bs,ok.bsz,ok.noex,ok.exfs,ok.funs,ok.frf⟩
theorem Cx.Ok.unwish {X:Cx} {E:Value -> y04 -> Prop} (ok:(X.wish E).Ok):X.Ok :=
 ⟨ok.mod,ok.kind,ok.glob,ok.blt,ok.above,ok.inj,ok.has,ok.cab,ok.hd,ok.frames,ok.stk,ok.exf,ok.bs,ok.bsz,ok.noex,ok.exfs,ok.funs,ok.frf⟩
section
variable {X:Cx} {pins:List (Addr × Obj)} {σ:St} {H:Hp} {s:y04} {E:Value -> y04 -> Prop}
theorem Inv.wish (I:Inv X pins σ H s) (E:Value -> y04 -> Prop):Inv (X.wish E) pins σ H s:=⟨I.ok.wish E,I.os,I.bare,I.base,I.loc,I.cell,I.free,I.freeC,I.pin,I.hok,I.len⟩
theorem Inv.unwish (I:Inv (X.wish E) pins σ H s):Inv X pins σ H s:=⟨I.ok.unwish,I.os,I.bare,I.base,I.loc,I.cell,I.free,I.freeC,I.pin,I.hok,I.len⟩
theorem SP.unwish {D:Ends} {f:Flow} {s':y04} (h:SP (X.wish E) pins D f s'):SP X pins D f s':=by
 cases f with
 | next=>obtain ⟨σ',H',I,q⟩:=h; exact ⟨σ',H',I.unwish,q⟩
 | brk=>obtain ⟨σ',H',I,q⟩:=h; exact ⟨σ',H',I.unwish,q⟩
 | cont=>obtain ⟨σ',H',I,q⟩:=h; exact ⟨σ',H',I.unwish,q⟩
 | ret u=>obtain ⟨v,σ',H',I,r,q⟩:=h; exact ⟨v,σ',H',I.unwish,r,q⟩
theorem PSs.nox {st:List Stmt} {t:TS} (h:PSs X.nox st t):PSs X st t:=fun pins s σ H D I hw =>
 y18 (h pins s σ H D (I.wish _) hw) (fun _ _ q=>q.unwish) fun _ _ z=>y1o z
end
section
variable {X:Cx} {st:Stmt} {rest:List Stmt} {t u:TS} {e:Expr} {te:TE} {pos:Pos}
def zhj:TS:=fun D σ H=>D.nx σ H
def tSeq (t u:TS):TS:=fun D σ H=>t { D with nx:=u D } σ H
theorem zec:PSs X [] zhj:=fun _ _ σ H _ I h=>wpAny_execs_nil ⟨σ,H,I,h⟩
theorem zcj (h1:PS X st t) (h2:PSs X rest u):PSs X (st :: rest) (tSeq t u):=by
 intro pins s σ H D I h
 refine wpAny_execs_cons (thn (h1 pins s σ H { D with nx:=u D } I h) fun f s1 q=>?_)
 cases f with
 | next =>
  obtain ⟨σ',H',I',q⟩:=q
  exact h2 pins s1 σ' H' D I' q
 | ret v=>exact q
 | brk=>exact q
 | cont=>exact q
theorem zeb (h1:PS X st t):PSs X [st] t:=by
 intro pins s σ H D I h
 refine wpAny_execs_cons (thn (h1 pins s σ H D I h) fun f s1 q=>?_)
 cases f with
 | next=>exact wpAny_execs_nil q
 | ret v=>exact q
 | brk=>exact q
 | cont=>exact q
theorem Inv.quiet {pins:List (Addr × Obj)} {σ:St} {H:Hp} {s:y04} (I:Inv X pins σ H s):interactive X.env = false:=by simp [interactive,I.ok.kind]
def zhk (te:TE):TS:=fun D σ H=>te σ H fun _ H1=>D.nx σ H1
theorem zan (he:PE X e te) (hs:swapsWith e none pos.line X.env = pure false:=by rfl):PS X (.Expr e pos) (zhk te):=by
 intro pins s σ H D I h
 exact wpAny_Expr_any (thn (he pins s σ H _ I h) fun v s1 ⟨x,H1,I1,r1,q1⟩=>⟨σ,H1,I1,q1⟩) I.quiet hs
def tRet (te:TE):TS:=fun D σ H=>te σ H D.rt
theorem zdj (he:PE X e te):PS X (.Return (some e) pos) (tRet te):=by
 intro pins s σ H D I h
 exact wpAny_Return_some (thn (he pins s σ H _ I h) fun v s1 ⟨x,H1,I1,r1,q1⟩=>⟨x,σ,H1,I1,r1,q1⟩)
def tIfS (c:TT) (t u:TS):TS:=fun D σ H=>c σ H fun b H1=>if b = true then t D σ H1 else u D σ H1
theorem zhw {c:Expr} {a b:List Stmt} {tc:TT} (hc:PT X c tc) (ha:PSs X a t) (hb:PSs X b u):PS X (.If c a b pos) (tIfS tc t u):=by
 intro pins s σ H D I h
 refine wpAny_If (thn (hc pins s σ H _ I h) fun d s1 ⟨H1,I1,q1⟩=>?_)
 cases d with
 | true=>exact ha pins s1 σ H1 D I1 q1
 | false=>exact hb pins s1 σ H1 D I1 q1
end
abbrev TG:=V -> St -> Hp -> (St -> Hp -> Prop) -> Prop
abbrev TGs:=List V -> St -> Hp -> (St -> Hp -> Prop) -> Prop
def PG (X:Cx) (target:Expr) (t:TG):Prop :=
 ∀ (pins:List (Addr × Obj)) (s:y04) (σ:St) (H:Hp) (v:V) (u:Value) (Q:St -> Hp -> Prop),Inv X pins σ H s -> RelV v u -> t v σ H Q ->
  y0u (model X.prog X.w) X.A (assign target X.env u) (fun _ s'=>∃ σ' H',Inv X pins σ' H' s' /\ Q σ' H') X.xe s
def PGs (X:Cx) (ts:List Expr) (t:TGs):Prop :=
 ∀ (pins:List (Addr × Obj)) (s:y04) (σ:St) (H:Hp) (vs:List V) (us:List Value) (Q:St -> Hp -> Prop),Inv X pins σ H s -> Vals vs us -> t vs σ H Q ->
  y0u (model X.prog X.w) X.A (assignInOrder ((assignEach ts X.env).map (·.2)) us) (fun _ s'=>∃ σ' H',Inv X pins σ' H' s' /\ Q σ' H') X.xe s
section
variable {X:Cx} {pos:Pos}
def zh2 (i:Nat):TG:=fun v σ H Q=>Q (σ.set i (some v)) H
theorem zeh {i:Nat} {x:Str} (hN:X.N.Nodup) (hi:X.N[i]? = some x) (hx:Loc X.env.scope x) (hf:X.fn x = true \/ X.env.scope.names.lookup x = some .local:=by first | exact .inl rfl | exact .inr rfl | assumption):PG X (.Name x pos) (zh2 i):=by
 intro pins s σ H v u Q I r h
 exact wpAny_assign_Name (z8t I hN hi hx r (fun s' I'=>⟨_,H,I',h⟩) hf)
def gNil:TGs:=fun vs σ H Q=>vs = [] /\ Q σ H
def zi7 (t:TG) (u:TGs):TGs:=fun vs σ H Q=>∃ v r,vs = v :: r /\ t v σ H fun σ' H'=>u r σ' H' Q
theorem zeg:PGs X [] gNil:=by
 intro pins s σ H vs us Q I r h
 obtain ⟨e,h⟩:=h
 subst e
 cases r
 exact assignInOrder_nil ⟨σ,H,I,h⟩
theorem zcl {e:Expr} {es:List Expr} {t:TG} {u:TGs} (h1:PG X e t) (h2:PGs X es u)
  (hs:(assignEach (e :: es) X.env).map (·.2) = assign e X.env :: (assignEach es X.env).map (·.2):=by rfl):PGs X (e :: es) (zi7 t u):=by
 intro pins s σ H vs us Q I r h
 obtain ⟨v,vr,e1,h⟩:=h
 subst e1
 cases r with
 | cons r rr =>
  rw [hs]
  refine assignInOrder_cons (thn (h1 pins s σ H _ _ _ I r h) fun _ s1 ⟨σ1,H1,I1,q1⟩=>?_)
  exact h2 pins s1 σ1 H1 _ _ Q I1 rr q1
def gTup (K:y00) (n:Nat) (t:TGs):TG:=fun v σ H Q=>∃ a xs,v = .ref a /\ SqT K H a xs /\ xs.length = n /\ t xs σ H Q
theorem zg7 {es:List Expr} {k:Nat} {t:TGs} {n:Nat} (hc:X.calm = true) (h:PGs X es t)
  (hn:(assignEach es X.env).length = n:=by rfl) (hst:(assignEach es X.env).findIdx? (·.1) = none:=by rfl):PG X (.Tuple es k pos) (gTup X.K n t):=by
 intro pins s σ H v u Q I r hw
 obtain ⟨a,xs,e1,hq,hl,hw⟩:=hw
 subst e1
 cases r
 obtain ⟨its,rv,ht,hz⟩:=I.tuple hq
 refine assign_Tuple_tuple (I.ok.hd hc) ht (by simp [hn,<- hl,rv.length]) hst fun h' hx=>?_
 have I1:Inv X pins σ H { s with heap:=h' }:=I.kept (t':=s.toks) fun b o e=>hx b o (y0y (y0c e)) e
 exact h pins _ σ H xs _ Q I1 (by simpa using rv) hw
def tAsg (te:TE) (g:TG):TS:=fun D σ H=>te σ H fun x H1=>g x σ H1 D.nx
theorem zdi {i:Nat} {x:Str} {e:Expr} {te:TE} {pos':Pos} (hN:X.N.Nodup) (hi:X.N[i]? = some x) (hx:Loc X.env.scope x) (he:PE X e te) (hs:swapsWith e (some (.Name x pos')) pos.line X.env = pure false:=by rfl) (hf:X.fn x = true \/ X.env.scope.names.lookup x = some .local:=by first | exact .inl rfl | exact .inr rfl | assumption) :
  PS X (.Assign [.Name x pos'] e pos) (tAsg te (zh2 i)):=by
 intro pins s σ H D I h
 refine wpAny_Assign_Name (thn (he pins s σ H _ I h) fun v s1 ⟨y,H1,I1,r1,q1⟩=>?_) hs
 exact z8t I1 hN hi hx r1 (fun s2 I2=>⟨_,H1,I2,q1⟩) hf
end
section
variable {X:Cx} {pos:Pos}
end
structure It where
 go:Nat -> Hp -> Prop
 yld:Nat -> Hp -> V -> Hp -> Prop
 stop:Nat -> Hp -> Prop
def FpOk (X:Cx) (pins:List (Addr × Obj)) (H:Hp) (b:Addr):Prop :=
 H b = none /\ b ≠ X.env.locals /\ b ∉ X.fs /\ (b ∈ X.ex \/ X.s₀.heap.objs.size <= b) /\ (∀ x c,X.env.cells.lookup x = some c -> c ≠ b) /\ ∀ p ∈ X.pn ++ pins,p.1 ≠ b
theorem Inv.fpOk {X:Cx} {pins:List (Addr × Obj)} {σ:St} {H H':Hp} {s:y04} {b:Addr} (I:Inv X pins σ H s) (hb:s.heap.objs.size <= b) (hn:H' b = none):FpOk X pins H' b:=by
 refine ⟨hn,Nat.ne_of_gt (y0x I.lt hb),I.nofs hb,.inr (y1i I.sz hb),fun x c e z=>?_,fun p hp z=>?_⟩
 ·obtain ⟨v,q⟩:=I.cell x c e
  exact absurd (y0x q.lt (by rw [z]; exact hb)) (Nat.lt_irrefl _)
 ·exact absurd (y0x (y0c (I.pin p hp).1) (by rw [z]; exact hb)) (Nat.lt_irrefl _)
structure Turn (P:y0q) (w:World) (K:y00) (tg:Expr) (J:It) (fp:List Addr) (it:Addr) (tn:Nat -> Heap -> Prop):Prop where
 mem:it ∈ fp
 obj:∀ i h,tn i h -> ∀ b ∈ fp,∃ o,h.get? b = some o /\ ∀ v,o.data ≠ .cell v
 keep:∀ i h h',tn i h -> (∀ b ∈ fp,∀ o,h.get? b = some o -> h'.get? b = some o) -> tn i h'
 item:∀ (X:Cx),X.prog = P -> X.w = w -> X.K = K -> X.calm = true -> ∀ (i:Nat) (pins:List (Addr × Obj)) (s:y04) (σ:St) (H:Hp) (E:Value -> y04 -> Prop),Inv X pins σ H s -> (∀ b ∈ fp,FpOk X pins H b) -> tn i s.heap -> J.go i H ->
  y0u (model P w) X.A (pyNext (.ref it)) (fun r s1=>∃ u,r = some u /\
   y0u (model P w) X.A (letOwnedTupleGo tg (.ref it) u) (fun _ s2=>∃ x H',Inv X pins σ H' s2 /\ RelV x u /\ J.yld i H x H' /\ tn (i + 1) s2.heap /\ ∀ b ∈ fp,H' b = none) E s1) E s
 done:∀ (X:Cx),X.prog = P -> X.w = w -> X.K = K -> X.calm = true -> ∀ (i:Nat) (pins:List (Addr × Obj)) (s:y04) (σ:St) (H:Hp) (E:Value -> y04 -> Prop),Inv X pins σ H s -> (∀ b ∈ fp,FpOk X pins H b) -> tn i s.heap -> J.stop i H ->
  y0u (model P w) X.A (pyNext (.ref it)) (fun r s1=>r = none /\ Inv X pins σ H s1) E s
 self:∀ (A:Around) (i:Nat) (s:y04) (Q:Value -> y04 -> Prop) (E:Value -> y04 -> Prop),tn i s.heap -> Q (.ref it) s -> y0u (model P w) A (pyIter (.ref it)) Q E s
abbrev TI:=St -> Hp -> (It -> Hp -> Prop) -> Prop
def PIE (X:Cx) (pins:List (Addr × Obj)) (σ:St) (tg:Expr) (R:It -> Hp -> Prop) (itv:Value) (s2:y04):Prop :=
 ∃ (it:Addr) (fp:List Addr) (tn:Nat -> Heap -> Prop) (J:It) (H':Hp),itv = .ref it /\ Inv X pins σ H' s2 /\ Turn X.prog X.w X.K tg J fp it tn /\ tn 0 s2.heap /\ (∀ b ∈ fp,FpOk X pins H' b) /\ R J H'
def PI (X:Cx) (tg iter:Expr) (wi:TI):Prop :=
 ∀ (pins:List (Addr × Obj)) (s:y04) (σ:St) (H:Hp) (R:It -> Hp -> Prop),Inv X pins σ H s -> wi σ H R ->
  y0u (model X.prog X.w) X.A (eval iter X.env) (fun v s1=>y0u (model X.prog X.w) X.A (pyIter v) (PIE X pins σ tg R) X.xe s1) X.xe s
theorem zew {M:Model} {A:Around} {E:Value -> y04 -> Prop} {s:y04} {tg:Expr} {it:Addr} {u:Value} {o:Obj} {n:String} {vs:Array Value} {Q:Unit -> y04 -> Prop} (ho:s.heap.get? it = some o) (hc:o.cls = .type n) (hd:o.data = .fields vs)
    (hn:["enumerate","zip","dict_itemiterator","dict_reverseitemiterator","odict_iterator","itertools.zip_longest","itertools.pairwise"].contains n = false) (hQ:Q () s):y0u M A (letOwnedTupleGo tg (.ref it) u) Q E s:=by
  unfold letOwnedTupleGo
  cases tg <;> first
    | exact y06 hQ
    | (cases u <;> first
        | exact y06 hQ
        | (refine y02 (wpAny_load ho ?_)
           rw [hc,hd]
           show y0u M A (if (["enumerate","zip","dict_itemiterator","dict_reverseitemiterator","odict_iterator","itertools.zip_longest","itertools.pairwise"].contains n && vs[0]? == some (rawInt _)) = true then _ else _) Q E s
           rw [if_neg (by intro h; rw [hn,Bool.false_and] at h; cases h)]
           exact y06 hQ))
def Itl (K:y00) (a:Addr):It :=
 ⟨fun i H=>∃ xs x,SqL K H a xs /\ xs[i]? = some x,fun i H x H'=>H' = H /\ ∀ xs,SqL K H a xs -> xs[i]? = some x,fun i H=>∃ xs,SqL K H a xs /\ xs.length <= i⟩
def Itt (K:y00) (a:Addr):It :=
 ⟨fun i H=>∃ xs x,SqT K H a xs /\ xs[i]? = some x,fun i H x H'=>H' = H /\ ∀ xs,SqT K H a xs -> xs[i]? = some x,fun i H=>∃ xs,SqT K H a xs /\ xs.length <= i⟩
def Itr (lo:Int) (n:Nat):It:=⟨fun i _=>i < n,fun i H x H'=>H' = H /\ x = .int (lo + i),fun i _=>n <= i⟩
theorem zaa {P:y0q} {w:World} {K:y00} {tg:Expr} (a it:Addr):Turn P w K tg (Itl K a) [it] it (fun i h=>h.IsListIter it a i) where
 mem:=by simp
 obj:=fun i h st b hb=>by
  have e:b = it:=by simpa using hb
  subst e
  obtain ⟨o,e,c,d⟩:=st
  exact ⟨o,e,fun v z=>by rw [d] at z; cases z⟩
 keep:=fun i h h' st k=>st.at fun o e=>k it (by simp) o e
 item:=by
  intro X hP hw hK hc i pins s σ H E I hf st hg
  subst hP hw hK
  obtain ⟨xs,x,hq,hx⟩:=hg
  obtain ⟨its,rv,p,hz⟩:=I.list hq
  obtain ⟨u,hu,ru⟩:=rv.get hx
  obtain ⟨f0,f1,f2,f3,f4,f5⟩:=hf it (by simp)
  refine wpAny_pyNext_list_item st p.isList (x:=u) (by simpa using hu) fun h' st' sb=>?_
  have I1:Inv X pins σ H { s with heap:=h' }:=I.turned (t':=s.toks) (fun b o hb e=>(sb.2 b hb).trans e) f0 f1 f3 f4 f5
  obtain ⟨o,e,c,d⟩:=id st'
  exact ⟨u,rfl,zew (s:={ s with heap:=h' }) e c d (by decide) ⟨x,H,I1,ru,⟨rfl,fun ys hy=>by rw [I.list_inj hy hq]; exact hx⟩,st',fun b hb=>(hf b hb).1⟩⟩
 done:=by
  intro X hP hw hK hc i pins s σ H E I hf st hg
  subst hP hw hK
  obtain ⟨xs,hq,hx⟩:=hg
  obtain ⟨its,rv,p,hz⟩:=I.list hq
  obtain ⟨f0,f1,f2,f3,f4,f5⟩:=hf it (by simp)
  have hl:=rv.length
  exact wpAny_pyNext_list_end (I.ok.hd hc) st p.isList (by simp; omega) fun h' eb=>⟨rfl,I.turned (t':=s.toks) (fun b o hb e=>eb b o hb e) f0 f1 f3 f4 f5⟩
 self:=fun _ _ _ _ _ st h=>wpAny_pyIter_listiter st h
theorem z99 {P:y0q} {w:World} {K:y00} {tg:Expr} (a it:Addr):Turn P w K tg (Itt K a) [it] it (fun i h=>h.IsTupleIter it a i) where
 mem:=by simp
 obj:=fun i h st b hb=>by
  have e:b = it:=by simpa using hb
  subst e
  obtain ⟨o,e,c,d⟩:=st
  exact ⟨o,e,fun v z=>by rw [d] at z; cases z⟩
 keep:=fun i h h' st k=>st.at fun o e=>k it (by simp) o e
 item:=by
  intro X hP hw hK hc i pins s σ H E I hf st hg
  subst hP hw hK
  obtain ⟨xs,x,hq,hx⟩:=hg
  obtain ⟨its,rv,p,hz⟩:=I.tuple hq
  obtain ⟨u,hu,ru⟩:=rv.get hx
  obtain ⟨f0,f1,f2,f3,f4,f5⟩:=hf it (by simp)
  refine wpAny_pyNext_tuple_item st (show s.heap.IsTuple a its.toArray from p) (x:=u) (by simpa using hu) fun h' st' sb=>?_
  have I1:Inv X pins σ H { s with heap:=h' }:=I.turned (t':=s.toks) (fun b o hb e=>(sb.2 b hb).trans e) f0 f1 f3 f4 f5
  obtain ⟨o,e,c,d⟩:=id st'
  exact ⟨u,rfl,zew (s:={ s with heap:=h' }) e c d (by decide) ⟨x,H,I1,ru,⟨rfl,fun ys hy=>by rw [I.tuple_inj hy hq]; exact hx⟩,st',fun b hb=>(hf b hb).1⟩⟩
 done:=by
  intro X hP hw hK hc i pins s σ H E I hf st hg
  subst hP hw hK
  obtain ⟨xs,hq,hx⟩:=hg
  obtain ⟨its,rv,p,hz⟩:=I.tuple hq
  obtain ⟨f0,f1,f2,f3,f4,f5⟩:=hf it (by simp)
  have hl:=rv.length
  exact wpAny_pyNext_tuple_end (I.ok.hd hc) st (show s.heap.IsTuple a its.toArray from p) (by simp; omega) fun h' eb=>⟨rfl,I.turned (t':=s.toks) (fun b o hb e=>eb b o hb e) f0 f1 f3 f4 f5⟩
 self:=fun _ _ _ _ _ st h=>wpAny_pyIter_tupleiter st h
theorem z9a {P:y0q} {w:World} {K:y00} {tg:Expr} (it:Addr) (lo:Int) (n:Nat):Turn P w K tg (Itr lo n) [it] it (fun i h=>IsRangeIter h it (lo + (i:Nat) * 1) ((n:Int) - (i:Nat)) 1) where
 mem:=by simp
 obj:=fun i h st b hb=>by
  have e:b = it:=by simpa using hb
  subst e
  exact ⟨_,st,fun v z=>by
   have z':Data.fields _ = Data.cell v:=z
   cases z'⟩
 keep:=fun i h h' st k=>k it (by simp) _ st
 item:=by
  intro X hP hw hK hc i pins s σ H E I hf st hg
  subst hP hw hK
  obtain ⟨f0,f1,f2,f3,f4,f5⟩:=hf it (by simp)
  have W:=Walks.range (prog:=X.prog) (w:=X.w) (I.ok.hd hc) it lo 1 n
  refine W.item i s _ _ hg st fun v h' tk hv st' kk=>?_
  obtain ⟨t,rfl⟩:=hv
  have I1:Inv X pins σ H { s with heap:=h',toks:=tk }:=I.turned (fun b o hb e=>kk b o (by simpa using hb) e) f0 f1 f3 f4 f5
  refine ⟨_,rfl,zew (s:={ s with heap:=h',toks:=tk }) (n:="range_iterator") st' rfl rfl (by decide) ⟨.int (lo + i),H,I1,⟨t,?_⟩,⟨rfl,rfl⟩,st',fun b hb=>(hf b hb).1⟩⟩
  rw [Int.mul_one]
 done:=by
  intro X hP hw hK hc i pins s σ H E I hf st hg
  subst hP hw hK
  obtain ⟨f0,f1,f2,f3,f4,f5⟩:=hf it (by simp)
  exact wpAny_pyNext_range_end (I.ok.hd hc) st (by have:n <= i:=hg; omega) fun h' eb=>⟨rfl,I.turned (t':=s.toks) (fun b o hb e=>eb b o hb e) f0 f1 f3 f4 f5⟩
 self:=fun _ _ _ _ _ st h=>wpAny_pyIter_rangeiter st h
end L2
namespace L2
open PySem PySem.Spec PyProof.Rows
section
variable {X:Cx} {tg:Expr}
theorem zcf {pins:List (Addr × Obj)} {σ:St} {H:Hp} {s:y04} {R:It -> Hp -> Prop} {E:Value -> y04 -> Prop} {lo hi:Int} {t u v:Tok} {tk:Nat} (I:Inv X pins σ H s) (h1:-(2 ^ 62) <= lo) (h2:lo < 2 ^ 62) (h3:-(2 ^ 62) <= hi) (h4:hi < 2 ^ 62)
  (q:R (Itr lo (hi - lo).toNat) H):y0u (model X.prog X.w) X.A (pyIter (.ref s.heap.objs.size)) (PIE X pins σ tg R) E { s with heap:=s.heap.push { cls:=.type "range",data:=.fields #[.int lo t,.int hi u,.int 1 v] },toks:=tk }:=by
 refine wpAny_pyIter_range (IsRange.new ..) (small_one h1 h2 h3 h4) ?_
 have I1:Inv X pins σ H { s with heap:=s.heap.push { cls:=.type "range",data:=.fields #[.int lo t,.int hi u,.int 1 v] },toks:=tk }:=I.kept fun b o e=>y03 _ e
 refine ⟨(s.heap.push { cls:=.type "range",data:=.fields #[.int lo t,.int hi u,.int 1 v] }).objs.size,[(s.heap.push { cls:=.type "range",data:=.fields #[.int lo t,.int hi u,.int 1 v] }).objs.size],_,_,H,rfl,
  I1.kept (t':=tk) fun b o e=>y03 _ e,z9a _ lo (hi - lo).toNat,?_,fun b hb=>?_,q⟩
 ·have e1:lo + ((0:Nat):Int) * 1 = lo:=by simp
  have e2:(((hi - lo).toNat:Nat):Int) - ((0:Nat):Int) = Builtin.Range.rangeSize lo hi 1:=by rw [rangeSize_one]; split <;> omega
  show IsRangeIter _ _ (lo + ((0:Nat):Int) * 1) ((((hi - lo).toNat:Nat):Int) - ((0:Nat):Int)) 1
  rw [e1,e2]
  exact y0l _ rfl
 ·have e:b = (s.heap.push { cls:=.type "range",data:=.fields #[.int lo t,.int hi u,.int 1 v] }).objs.size:=by simpa using hb
  subst e
  exact I1.fpOk (y0o _) (I1.hok.fresh (y0o _))
def zi3 (ta:TA):TI:=fun σ H R=>ta σ H fun vs H1=>∃ j:Int,vs = [.int j] /\ -(2 ^ 62) <= j /\ j < 2 ^ 62 /\ R (Itr 0 j.toNat) H1
theorem zap {a:Expr} {ta:TA} {p pos:Pos} (hg:Gl X "range") (hm:X.mg "range" = none) (ha:PA X [a] ta) (hs:y0a [a] X.env = [(false,eval a X.env)]:=by rfl):PI X tg (.Call (.Name "range" p) [a] [] pos) (zi3 ta):=by
 intro pins s σ H R I h
 refine Call_ (z5j I hg hm boot_range (y1l (thn (ha pos pins s σ H _ I h) fun us s1 ⟨vs,H1,I1,r1,q1⟩=>?_) hs rfl))
 obtain ⟨j,e,q1,q2,q⟩:=q1
 subst e
 cases r1 with
 | cons r rr =>
  cases rr
  obtain ⟨t,rfl⟩:=r
  exact call_range_1 (zcf I1 (by omega) (by omega) q1 q2 (by simpa using q))
def tFor (wi:TI) (g:TG) (tb:TS):TS:=fun D σ H=>wi σ H fun J H1=>∃ W:Nat -> Nat -> St -> Hp -> Prop,(∃ m,W 0 m σ H1) /\ ∀ i m σ H,W i m σ H ->
 (J.stop i H /\ D.nx σ H) \/ (J.go i H /\ ∃ N:St -> Hp -> Prop,(∀ σ' H',N σ' H' -> ∃ m',m' < m /\ W (i + 1) m' σ' H') /\ ∀ x H',J.yld i H x H' -> g x σ H' fun σ2 H2=>tb { D with nx:=N,ct:=N,bk:=D.nx } σ2 H2)
def z6v (fp:List Addr) (h:Heap):List (Addr × Obj):=fp.filterMap fun b=>(h.get? b).map fun o=>(b,o)
theorem z28 {fp:List Addr} {h:Heap} {b:Addr} {o:Obj} (hb:b ∈ fp) (e:h.get? b = some o):(b,o) ∈ z6v fp h:=List.mem_filterMap.mpr ⟨b,hb,by rw [e]; rfl⟩
theorem zaz {fp:List Addr} {h:Heap} {p:Addr × Obj} (hp:p ∈ z6v fp h):p.1 ∈ fp /\ h.get? p.1 = some p.2:=by
 obtain ⟨b,hb,e⟩:=List.mem_filterMap.mp hp
 cases q:h.get? b with
 | none=>rw [q] at e; cases e
 | some o =>
  rw [q] at e
  have e':(b,o) = p:=Option.some.inj e
  subst e'
  exact ⟨hb,q⟩
theorem Inv.pinned {pins:List (Addr × Obj)} {σ:St} {H:Hp} {s:y04} {fp:List Addr} (I:Inv X pins σ H s) (hf:∀ b ∈ fp,FpOk X pins H b) (ho:∀ b ∈ fp,∃ o,s.heap.get? b = some o /\ ∀ v,o.data ≠ .cell v):Inv X (pins ++ z6v fp s.heap) σ H s :=
 I.pins_of fun p hp=>(y0z.mp hp).elim (fun z=>I.pin p (y15 _ z)) fun z=>by
  obtain ⟨hb,e⟩:=zaz z
  obtain ⟨f0,f1,f2,_⟩:=hf p.1 hb
  obtain ⟨o,e',d⟩:=ho p.1 hb
  rw [e] at e'; cases e'
  exact ⟨e,f0,f1,f2,d⟩
theorem Inv.unpinned {pins pl:List (Addr × Obj)} {σ:St} {H:Hp} {s:y04} (I:Inv X (pins ++ pl) σ H s):Inv X pins σ H s:=I.pins_of fun p hp=>I.pin p (y15 _ (List.mem_append_left _ hp))
theorem zg5 {iter:Expr} {body:List Stmt} {wi:TI} {g:TG} {tb:TS} {pos:Pos} (hp:PassesOwn (model X.prog X.w) X.A X.env X.xe) (hc:X.calm = true) (hi:PI X tg iter wi) (hg:PG X tg g) (hb:PSs X body tb)
  (hs:∀ x,foldedSetIterable iter X.env x = pure x:=by intro _; rfl):PS X (.For tg iter body [] pos) (tFor wi g tb):=by
 intro pins s σ H D I h
 refine wpAny_For (thn (hi pins s σ H _ I h) fun v s1 h1=>thn h1 fun itv s2 h2=>?_) hs
 obtain ⟨it,fp,tn,J,H2,e,I2,T,st2,f2,W,⟨m0,w0⟩,turn⟩:=h2
 subst e
 have stat:∀ {H':Hp},(∀ b ∈ fp,H' b = none) -> ∀ b ∈ fp,FpOk X pins H' b:=fun hn b hb=>⟨hn b hb,(f2 b hb).2⟩
 refine codeAny_forLoop_any (fun n s'=>∃ i σ' H',Inv X pins σ' H' s' /\ tn i s'.heap /\ (∀ b ∈ fp,H' b = none) /\ W i n σ' H') ?_ m0 ⟨0,σ,H2,I2,st2,fun b hb=>(f2 b hb).1,w0⟩
 rintro n s3 ⟨i,σ3,H3,I3,st3,fr3,w3⟩
 rcases turn i n σ3 H3 w3 with ⟨stop,qn⟩ | ⟨go,N,hN,step⟩
 ·refine wpAny_passesOwn hp (thn (T.done X rfl rfl rfl hc i pins s3 σ3 H3 X.xe I3 (stat fr3) st3 stop) fun r s4 ⟨hr,I4⟩=>?_)
  subst hr
  exact wpAny_execs_nil ⟨σ3,H3,I4,qn⟩
 ·refine wpAny_passesOwn hp (thn (T.item X rfl rfl rfl hc i pins s3 σ3 H3 X.xe I3 (stat fr3) st3 go) fun r s4 ⟨u,hr,h4⟩=>?_)
  subst hr
  refine wpAny_passesOwn hp (thn h4 fun _ s5 ⟨x,H5,I5,r5,y5,st5,fr5⟩=>?_)
  have I5':=I5.pinned (stat fr5) (T.obj _ _ st5)
  refine wpAny_passesOwn hp (thn (hg _ s5 σ3 H5 x u _ I5' r5 (step x H5 y5)) fun _ s6 ⟨σ6,H6,I6,q6⟩=>?_)
  refine wpAny_passesOwn hp (thn (hb _ s6 σ6 H6 _ I6 q6) fun f s7 q7=>?_)
  have again:∀ {σ7:St} {H7:Hp},Inv X (pins ++ z6v fp s5.heap) σ7 H7 s7 -> N σ7 H7 -> ∃ m,m < n /\ ∃ i σ' H',Inv X pins σ' H' s7 /\ tn i s7.heap /\ (∀ b ∈ fp,H' b = none) /\ W i m σ' H':=fun {σ7 H7} I7 n7=>by
   obtain ⟨m',hm,w7⟩:=hN σ7 H7 n7
   refine ⟨m',hm,i + 1,σ7,H7,I7.unpinned,T.keep _ _ _ st5 fun b hb o e=>(I7.pin (b,o) (y15 _ (y15 _ (z28 hb e)))).1,fun b hb=>?_,w7⟩
   obtain ⟨o,e,d⟩:=T.obj _ _ st5 b hb
   exact (I7.pin (b,o) (y15 _ (y15 _ (z28 hb e)))).2.1
  cases f with
  | next=>obtain ⟨σ7,H7,I7,n7⟩:=q7; exact again I7 n7
  | cont=>obtain ⟨σ7,H7,I7,n7⟩:=q7; exact again I7 n7
  | brk=>obtain ⟨σ7,H7,I7,q7⟩:=q7; exact ⟨σ7,H7,I7.unpinned,q7⟩
  | ret v=>obtain ⟨x7,σ7,H7,I7,r7,q7⟩:=q7; exact ⟨x7,σ7,H7,I7.unpinned,r7,q7⟩
end
end L2
namespace L2
open PySem PySem.Spec PyProof.Rows
abbrev R2:=V -> V -> Hp -> VK -> Prop
def OpR (X:Cx) (f:Value -> Value -> Sem Value) (r:R2):Prop :=
 ∀ (pins:List (Addr × Obj)) (s:y04) (σ:St) (H:Hp) (x y:V) (v u:Value) (Q:VK),Inv X pins σ H s -> RelV x v -> RelV y u -> r x y H Q ->
  y0u (model X.prog X.w) X.A (f v u) (EP X pins σ Q) X.xe s
def UnR (X:Cx) (f:Value -> Sem Value) (r:V -> Hp -> VK -> Prop):Prop :=
 ∀ (pins:List (Addr × Obj)) (s:y04) (σ:St) (H:Hp) (x:V) (v:Value) (Q:VK),Inv X pins σ H s -> RelV x v -> r x H Q ->
  y0u (model X.prog X.w) X.A (f v) (EP X pins σ Q) X.xe s
def z41 (X:Cx) (f:Value) (r:List V -> Hp -> VK -> Prop):Prop :=
 ∀ (pins:List (Addr × Obj)) (s:y04) (σ:St) (H:Hp) (xs:List V) (us:List Value) (Q:VK),Inv X pins σ H s -> Vals xs us -> r xs H Q ->
  y0u (model X.prog X.w) X.A (call f us) (EP X pins σ Q) X.xe s
def tOp (r:R2) (ta tb:TE):TE:=fun σ H Q=>ta σ H fun x H1=>tb σ H1 fun y H2=>r x y H2 Q
def tUn (r:V -> Hp -> VK -> Prop) (ta:TE):TE:=fun σ H Q=>ta σ H fun x H1=>r x H1 Q
def rI (C:Int -> Int -> Prop) (g:Int -> Int -> V):R2:=fun x y H Q=>∃ i j,x = .int i /\ y = .int j /\ C i j /\ Q (g i j) H
def rI0 (g:Int -> Int -> V):R2:=fun x y H Q=>∃ i j,x = .int i /\ y = .int j /\ Q (g i j) H
def rU (g:Int -> V):V -> Hp -> VK -> Prop:=fun x H Q=>∃ i,x = .int i /\ Q (g i) H
section
variable {X:Cx} {a b c:Expr} {ta tb tc:TE} {pos:Pos}
theorem binT (ha:PE X a ta) (hb:PE X b tb) {pins:List (Addr × Obj)} {s:y04} {σ:St} {H:Hp} {R:V -> V -> Hp -> Prop} (I:Inv X pins σ H s)
  (h:ta σ H fun x H1=>tb σ H1 fun y H2=>R x y H2) {Q:Value -> y04 -> Prop} {f:Value -> Value -> Sem Value}
  (hf:∀ v u s2 x y H2,Inv X pins σ H2 s2 -> RelV x v -> RelV y u -> R x y H2 -> y0u (model X.prog X.w) X.A (f v u) Q X.xe s2) :
  y0u (model X.prog X.w) X.A (eval a X.env) (fun v s₁=>y0u (model X.prog X.w) X.A (eval b X.env) (fun u s₂=>y0u (model X.prog X.w) X.A (f v u) Q X.xe s₂) X.xe s₁) X.xe s:=by
 refine thn (ha pins s σ H _ I h) fun v s1 ⟨x,H1,I1,r1,q1⟩=>?_
 refine thn (hb pins s1 σ H1 _ I1 q1) fun u s2 ⟨y,H2,I2,r2,q2⟩=>?_
 exact hf v u s2 x y H2 I2 r1 r2 q2
theorem zaq {op:Operator} {r:R2} (ho:OpR X (binaryOp op) r) (ha:PE X a ta) (hb:PE X b tb):PE X (.BinOp a op b pos) (tOp r ta tb):=by
 intro pins s σ H Q I h
 exact wpAny_BinOp (binT ha hb I h fun v u s2 x y H2 I2 rx ry q=>ho pins s2 σ H2 x y v u Q I2 rx ry q)
theorem zhy {op:UnaryOp} {r:V -> Hp -> VK -> Prop} (ho:UnR X (unaryOp op) r) (ha:PE X a ta):PE X (.UnaryOp op a pos) (tUn r ta):=by
 intro pins s σ H Q I h
 exact UnaryOp_ (thn (ha pins s σ H _ I h) fun v s1 ⟨x,H1,I1,r1,q1⟩=>ho pins s1 σ H1 x v Q I1 r1 q1)
theorem opI {f:Value -> Value -> Sem Value} {C:Int -> Int -> Prop} {g:Int -> Int -> Int}
  (rule:∀ (i j:Int) (t u:Tok) (s:y04) (Q:Value -> y04 -> Prop) (E:Value -> y04 -> Prop),C i j -> Q (.int (g i j) s.toks) { s with toks:=s.toks + 1 } -> y0u (model X.prog X.w) X.A (f (.int i t) (.int j u)) Q E s) :
  OpR X f (rI C fun i j=>.int (g i j)):=by
 intro pins s σ H x y v u Q I rx ry h
 obtain ⟨i,j,rfl,rfl,hc,q⟩:=h
 obtain ⟨t,rfl⟩:=rx
 obtain ⟨t',rfl⟩:=ry
 exact rule i j t t' s _ _ hc ⟨.int (g i j),H,I.tok _,⟨_,rfl⟩,q⟩
theorem opI0 {f:Value -> Value -> Sem Value} {g:Int -> Int -> Int}
  (rule:∀ (i j:Int) (t u:Tok) (s:y04) (Q:Value -> y04 -> Prop) (E:Value -> y04 -> Prop),Q (.int (g i j) s.toks) { s with toks:=s.toks + 1 } -> y0u (model X.prog X.w) X.A (f (.int i t) (.int j u)) Q E s) :
  OpR X f (rI0 fun i j=>.int (g i j)):=by
 intro pins s σ H x y v u Q I rx ry h
 obtain ⟨i,j,rfl,rfl,q⟩:=h
 obtain ⟨t,rfl⟩:=rx
 obtain ⟨t',rfl⟩:=ry
 exact rule i j t t' s _ _ ⟨.int (g i j),H,I.tok _,⟨_,rfl⟩,q⟩
theorem opB0 {f:Value -> Value -> Sem Value} {g:Int -> Int -> Bool}
  (rule:∀ (i j:Int) (t u:Tok) (s:y04) (Q:Value -> y04 -> Prop) (E:Value -> y04 -> Prop),Q (.bool (g i j)) s -> y0u (model X.prog X.w) X.A (f (.int i t) (.int j u)) Q E s) :
  OpR X f (rI0 fun i j=>.bl (g i j)):=by
 intro pins s σ H x y v u Q I rx ry h
 obtain ⟨i,j,rfl,rfl,q⟩:=h
 obtain ⟨t,rfl⟩:=rx
 obtain ⟨t',rfl⟩:=ry
 exact rule i j t t' s _ _ ⟨.bl (g i j),H,I,rfl,q⟩
def CDiv (i j:Int):Prop:=0 < j /\ j < 1073741824
def CMul (i j:Int):Prop:=(-(2 ^ 64) < i /\ i < 2 ^ 64) \/ (-(2 ^ 64) < j /\ j < 2 ^ 64)
theorem CMul.ok {i j:Int} (h:CMul i j):IntMulOk i j:=by
 rcases h with ⟨h1,h2⟩ | ⟨h1,h2⟩
 ·exact .of_left (intBits_le_64 h1 h2)
 ·exact .of_right (intBits_le_64 h1 h2)
theorem zgj:OpR X (binaryOp .Add) (rI0 fun i j=>.int (i + j)):=opI0 fun _ _ _ _ _ _ _ q=>add_int q
theorem zgh:OpR X (binaryOp .Mult) (rI CMul fun i j=>.int (i * j)):=opI fun _ _ _ _ _ _ _ hc q=>mul_int q hc.ok
theorem zeo:OpR X (binaryOp .FloorDiv) (rI CDiv fun i j=>.int (i / j)):=opI fun i j _ _ _ _ _ hc q=>by
 have h1:(0:Int) < j:=hc.1
 have h2:j < 1073741824:=hc.2
 exact floordiv_int (by omega) (by rw [Int.fdiv_eq_ediv_of_nonneg i (by omega)]; exact q) (.inl (PyProof.noPylong_small (by omega)))
theorem zgi:OpR X (binaryOp .Mod) (rI (fun _ j=>0 < j) fun i j=>.int (i % j)):=opI fun i j _ _ _ _ _ hc q=>by
 have h1:(0:Int) < j:=hc
 exact mod_int' (by omega) (by rw [Int.fmod_eq_emod_of_nonneg i (by omega)]; exact q)
theorem unI {f:Value -> Sem Value} {g:Int -> Int}
  (rule:∀ (i:Int) (t:Tok) (s:y04) (Q:Value -> y04 -> Prop) (E:Value -> y04 -> Prop),Q (.int (g i) s.toks) { s with toks:=s.toks + 1 } -> y0u (model X.prog X.w) X.A (f (.int i t)) Q E s) :
  UnR X f (rU fun i=>.int (g i)):=by
 intro pins s σ H x v Q I rx h
 obtain ⟨i,rfl,q⟩:=h
 obtain ⟨t,rfl⟩:=rx
 exact rule i t s _ _ ⟨.int (g i),H,I.tok _,⟨_,rfl⟩,q⟩
theorem zfl:UnR X (unaryOp .USub) (rU fun i=>.int (-i)):=unI fun _ _ _ _ _ q=>neg_int q
end
section
variable {X:Cx} {a b c:Expr} {ta tb tc:TE} {pos:Pos}
theorem zh3 {pins:List (Addr × Obj)} {σ:St} {H:Hp} {s:y04} {Q:VK} {k k':Bool} (I:Inv X pins σ H s) (q:Q (.bl k) H) (e:k = k'):EP X pins σ Q (.bool k') s:=by
 subst e
 exact ⟨.bl k,H,I,rfl,q⟩
theorem zi2:OpR X (compareOp .Lt) (rI0 fun i j=>.bl (decide (i < j))):=opB0 fun _ _ _ _ _ _ _ q=>lt_int q
theorem zav:OpR X (compareOp .Lt) (fun x y H Q=>∃ i j,x = .str i /\ y = .str j /\ Q (.bl (decide (i.cps.toList < j.cps.toList))) H):=by
 intro pins s σ H x y v u Q I rx ry h
 obtain ⟨i,j,rfl,rfl,q⟩:=h
 obtain ⟨t,rfl⟩:=rx
 obtain ⟨t',rfl⟩:=ry
 exact lt_str (zh3 I q rfl)
theorem OpR.or {f:Value -> Value -> Sem Value} {r r':R2} (h:OpR X f r) (h':OpR X f r'):OpR X f (fun x y H Q=>r x y H Q \/ r' x y H Q):=by
 intro pins s σ H x y v u Q I rx ry q
 rcases q with q | q
 ·exact h pins s σ H x y v u Q I rx ry q
 ·exact h' pins s σ H x y v u Q I rx ry q
theorem zdp (b:Expr) {op:CmpOp} (h:op ≠ .In:=by decide) (h2:op ≠ .NotIn:=by decide):behindInMarks op b = false:=by
 have e1:(op == CmpOp.In) = false:=by cases op <;> first | rfl | exact absurd rfl h
 have e2:(op == CmpOp.NotIn) = false:=by cases op <;> first | rfl | exact absurd rfl h2
 cases b <;> simp [behindInMarks,e1,e2]
theorem zej {op:CmpOp} {r:R2} (ho:OpR X (compareOp op) r) (ha:PE X a ta) (hb:PE X b tb) (hm:behindInMarks op b = false):PE X (.Compare a [op] [b] pos) (tOp r ta tb):=by
 intro pins s σ H Q I h
 exact wpAny_Compare1 (binT ha hb I h fun v u s2 x y H2 I2 rx ry q=>ho pins s2 σ H2 x y v u Q I2 rx ry q) hm
def zhg (t:TE):TT:=fun σ H Q=>t σ H fun x H'=>∃ k,x = .bl k /\ Q k H'
theorem zea {op:CmpOp} {r:R2} (ho:OpR X (compareOp op) r) (ha:PE X a ta) (hb:PE X b tb) (hm:behindInMarks op b = false):PT X (.Compare a [op] [b] pos) (zhg (tOp r ta tb)):=by
 intro pins s σ H Q I h
 refine wpAny_isTrue_Compare1 (thn (ha pins s σ H _ I h) fun v s1 ⟨x,H1,I1,r1,q1⟩=>thn (hb pins s1 σ H1 _ I1 q1) fun u s2 ⟨y,H2,I2,r2,q2⟩ =>
  thn (ho pins s2 σ H2 x y v u _ I2 r1 r2 q2) fun c s3 ⟨z,H3,I3,r3,k,e,q3⟩=>?_) hm
 subst e
 cases r3
 exact wpAny_truthy_bool ⟨H3,I3,q3⟩
theorem z7e:(y0j:Nat) < 2 ^ 63:=by rw [sizeLine_eq]; decide
theorem z9g:OpR X (binaryOp .Add) (fun x y H Q=>∃ i j,x = .str i /\ y = .str j /\ i.length + j.length <= y0j /\ Q (.str (i ++ j)) H):=by
 intro pins s σ H x y v u Q I rx ry h
 obtain ⟨i,j,rfl,rfl,hz,q⟩:=h
 obtain ⟨t,rfl⟩:=rx
 obtain ⟨t',rfl⟩:=ry
 exact add_str (fun t' tk=>⟨.str (i ++ j),H,I.tok _,⟨_,rfl⟩,q⟩) hz
theorem zcb {x:V} {us:List Value} (r:Vals [x] us):∃ u,us = [u] /\ RelV x u:=by
 cases r with
 | cons r1 r2=>cases r2; exact ⟨_,rfl,r1⟩
theorem zfi {x y:V} {us:List Value} (r:Vals [x,y] us):∃ u w',us = [u,w'] /\ RelV x u /\ RelV y w':=by
 cases r with
 | cons r1 r2 =>
  cases r2 with
  | cons r3 r4=>cases r4; exact ⟨_,_,rfl,r1,r3⟩
theorem zbv (hc:X.calm = true):z41 X (.builtin "max") (fun xs H Q=>∃ i j,xs = [.int i,.int j] /\ Q (.int (if j > i then j else i)) H):=by
 intro pins s σ H xs us Q I r h
 obtain ⟨i,j,rfl,q⟩:=h
 obtain ⟨u,w',rfl,⟨t,rfl⟩,⟨t',rfl⟩⟩:=zfi r
 refine max_two_ints (I.ok.hd hc) fun h' tk k=>⟨_,H,I.kept k,?_,q⟩
 by_cases hj:j > i
 ·rw [if_pos hj,if_pos hj]; exact ⟨_,rfl⟩
 ·rw [if_neg hj,if_neg hj]; exact ⟨_,rfl⟩
theorem zbu (hc:X.calm = true):z41 X (.builtin "min") (fun xs H Q=>∃ i j,xs = [.int i,.int j] /\ Q (.int (if j < i then j else i)) H):=by
 intro pins s σ H xs us Q I r h
 obtain ⟨i,j,rfl,q⟩:=h
 obtain ⟨u,w',rfl,⟨t,rfl⟩,⟨t',rfl⟩⟩:=zfi r
 refine min_two_ints (I.ok.hd hc) fun h' tk k=>⟨_,H,I.kept k,?_,q⟩
 by_cases hj:j < i
 ·rw [if_pos hj,if_pos hj]; exact ⟨_,rfl⟩
 ·rw [if_neg hj,if_neg hj]; exact ⟨_,rfl⟩
end
end L2
namespace L2
open PySem PySem.Spec PyProof.Rows
section
variable {prog:y0q} {w:World} {A:Around} {E:Value -> y04 -> Prop} {s:y04} {K:y00} {x dx C f:Addr} {mA:Str -> Option Value} {name:Str} {v:Value}
end
section
variable {P:y0q} {w:World} {H H':Hp} {h h':Heap} {a C dx:Addr} {fs fs':List (Str × V)}
end
section
variable {X:Cx} {pins:List (Addr × Obj)} {σ:St} {H:Hp} {s:y04} {a C dx:Addr} {fs:List (Str × V)} {f:Str} {v:V} {A:Around} {E:Value -> y04 -> Prop}
end
section
variable {X:Cx} {o e value:Expr} {f:Str} {pos pos' tpos:Pos} {ta tv:TE}
end
section
variable {X:Cx} {pins:List (Addr × Obj)} {σ:St} {H:Hp} {s:y04} {A:Around} {E:Value -> y04 -> Prop} {Q:Value -> y04 -> Prop} {c:Value} {b:Bool}
end
end L2
namespace L2
open PySem PySem.Spec PyProof.Rows
structure Room (k:Nat) (A:Around):Prop where
 hd:A.handled = none
 dp:A.depth + 3 * k + 5 < recursionLimit
 un:A.units + 16 * k + 200 < cLine
theorem Room.mono {j k:Nat} {A:Around} (r:Room k A) (h:j <= k):Room j A:=⟨r.hd,by have:=r.dp; omega,by have:=r.un; omega⟩
theorem Room.deeper {k:Nat} {A:Around} (r:Room (k + 1) A) (env:Env):Room k (A.deeper env) :=
 ⟨r.hd,by have:=r.dp; show A.depth + 1 + 3 * k + 5 < _; omega,by have:=r.un; show A.units + 3 + 16 * k + 200 < _; omega⟩
theorem Room.depth {k:Nat} {A:Around} (r:Room k A):A.depth < recursionLimit:=by have:=r.dp; omega
theorem Room.units {k:Nat} {A:Around} (r:Room k A):A.units + 64 < cLine:=by have:=r.un; omega
def tNil:TA:=fun _ H Q=>Q [] H
def zhl (ta:TE) (tr:TA):TA:=fun σ H Q=>ta σ H fun x H1=>tr σ H1 fun xs H2=>Q (x :: xs) H2
section
variable {X:Cx} {e:Expr} {es:List Expr} {te:TE} {t:TA} {pos:Pos}
theorem z5e:PA X [] tNil:=fun _ _ _ _ H Q I h=>Calls.spliced_nil ⟨[],H,I,.nil,h⟩
theorem z37 (ha:PE X e te) (hr:PA X es t) (hs:y0a (e :: es) X.env = (false,eval e X.env) :: y0a es X.env:=by rfl):PA X (e :: es) (zhl te t):=by
 intro pos pins s σ H Q I h
 rw [hs]
 show y0u _ _ (spliced ((false,eval e X.env) :: backTo pos (y0a es X.env))) _ _ s
 refine Calls.spliced_cons (thn (ha pins s σ H _ I h) fun u s1 ⟨x,H1,I1,r1,q1⟩=>?_)
 exact thn (hr pos pins s1 σ H1 _ I1 q1) fun us s2 ⟨xs,H2,I2,r2,q2⟩=>⟨x :: xs,H2,I2,.cons r1 r2,q2⟩
def tTup (t:TA):TE:=fun σ H Q=>t σ H fun xs H1=>xs.length <= y0j /\ ∀ p,H1 p = none -> Q (.ref p) (upd H1 p (.tup xs))
def tLst (t:TA):TE:=fun σ H Q=>t σ H fun xs H1=>xs.length <= y0j /\ ∀ p,H1 p = none -> Q (.ref p) (upd H1 p (.lst xs))
theorem zg9 {x1} (h:PA X es t):PE X (.Tuple es x1 pos) (tTup t):=by
 intro pins s σ H Q I hq
 refine wpAny_Tuple_spliced (thn (h pos pins s σ H _ I hq) fun us s1 ⟨xs,H1,I1,r,z,q⟩=>⟨by rw [<- r.length]; exact z,?_⟩)
 have hf:H1 s1.heap.objs.size = none:=I1.hok.fresh (y0o _)
 refine ⟨.ref s1.heap.objs.size,upd H1 s1.heap.objs.size (.tup xs),I1.laid (t':=s1.toks) (fun b u e=>y03 _ e) (y0o _) ?_,rfl,q _ hf⟩
 exact ⟨z,us,r,⟨_,y0l _ rfl,rfl,_,rfl⟩⟩
theorem zgd (h:PA X es t):PE X (.List es pos) (tLst t):=by
 intro pins s σ H Q I hq
 refine wpAny_List_spliced (thn (h pos pins s σ H _ I hq) fun us s1 ⟨xs,H1,I1,r,z,q⟩=>⟨by rw [<- r.length]; exact z,?_⟩)
 have hf:H1 s1.heap.objs.size = none:=I1.hok.fresh (y0o _)
 refine ⟨.ref s1.heap.objs.size,upd H1 s1.heap.objs.size (.lst xs),I1.laid (t':=s1.toks) (fun b u e=>y03 _ e) (y0o _) ?_,rfl,q _ hf⟩
 exact ⟨z,us,0,r,y0l _ rfl⟩
end
abbrev Sp:=List V -> Hp -> VK -> XK -> Prop
abbrev CXT:=List Env -> Hp -> y04 -> XK -> Value -> y04 -> Prop
structure Env0 (P:y0q) (w:World) (K:y00) (mg:Str -> Option Value) (base:Heap) (A:Around) (outer:List Env) (s:y04) (H:Hp):Prop where
 frames:A.frames = some outer
 mod:Mod K mg base
 bs:∀ b o,base.get? b = some o -> s.heap.get? b = some o /\ H b = none
 bsz:base.objs.size <= s.heap.objs.size
 funs:s.heap.FunFrames base outer
 frf:∀ b ∈ frs outer,H b = none
 hok:HOk P w H s.heap
 bare:AllBare s.gens
def CE (outer:List Env) (P:y0q) (w:World) (H:Hp) (s:y04) (Q:VK) (u:Value) (s':y04):Prop :=
 ∃ v H',s'.os = s.os /\ AllBare s'.gens /\ Un (frs outer) [] H H' s.heap s'.heap /\ HOk P w H' s'.heap /\ RelV v u /\ Q v H'
def CR (CX:CXT) (outer:List Env) (P:y0q) (w:World) (H:Hp) (s:y04) (Q:VK) (E:XK) (r:Result) (s':y04):Prop :=
 match r with
 | .ok (.ret u)=>CE outer P w H s Q u s'
 | .ok _=>False
 | .error e=>CX outer H s E e s'
structure FnOk (P:y0q) (w:World) (K:y00) (mg:Str -> Option Value) (base:Heap) (CX:CXT) (k:Nat) (f:Addr) (fd:y0b) (ps:List Str) (sp:Sp):Prop where
 len:∀ vs H Q E,sp vs H Q E -> vs.length = ps.length
 run:∀ (A:Around) (outer:List Env) (s:y04) (H:Hp) (args:Args) (us:List Value) (vs:List V) (Q:VK) (E:XK),Room k A -> Env0 P w K mg base A outer s H -> BindsTo s fd args (ps.zip us) -> Vals vs us -> sp vs H Q E ->
  codeAny (model P w) A (.call (.ref f) args) (CR CX outer P w H s Q E) s
theorem FnOk.mono {P:y0q} {w:World} {K:y00} {mg:Str -> Option Value} {base:Heap} {CX:CXT} {j k:Nat} {f:Addr} {fd:y0b} {ps:List Str} {sp:Sp} (F:FnOk P w K mg base CX j f fd ps sp) (h:j <= k) :
  FnOk P w K mg base CX k f fd ps sp:=⟨F.len,fun A outer s H args us vs Q E hr=>F.run A outer s H args us vs Q E (hr.mono h)⟩
theorem FnOk.imp {P:y0q} {w:World} {K:y00} {mg:Str -> Option Value} {base:Heap} {CX:CXT} {k:Nat} {f:Addr} {fd:y0b} {ps:List Str} {sp sp':Sp} (F:FnOk P w K mg base CX k f fd ps sp)
  (h:∀ vs H Q E,sp' vs H Q E -> sp vs H Q E):FnOk P w K mg base CX k f fd ps sp' :=
 ⟨fun vs H Q E q=>F.len vs H Q E (h _ _ _ _ q),fun A outer s H args us vs Q E hr he hb hv hs=>F.run A outer s H args us vs Q E hr he hb hv (h _ _ _ _ hs)⟩
section
variable {X:Cx} {pins:List (Addr × Obj)} {σ:St} {H:Hp} {s s':y04}
theorem Inv.env0 (I:Inv X pins σ H s):Env0 X.prog X.w X.K X.mg X.base X.A X.stack s H :=
 ⟨I.ok.frames,I.ok.mod,I.bs,y1i I.ok.bsz I.sz,I.stack,I.stkFree,I.hok,I.bare⟩
theorem Inv.after {Q:VK} {u:Value} (I:Inv X pins σ H s) (h:CE X.stack X.prog X.w H s Q u s'):EP X pins σ Q u s':=by
 obtain ⟨v,H',os,bare,un,hok,r,q⟩:=h
 obtain ⟨hh,g,d,t,os'⟩:=s'
 obtain rfl:os' = s.os:=os
 exact ⟨v,H',I.call (h':=hh) (g':=g) (d':=d) (t':=t) (ch:=[]) un hok bare (fun b z=>absurd z (by simp)),r,q⟩
end
def zhm (sp:Sp) (dvs:List V) (E:XK) (t:TA):TE:=fun σ H Q=>t σ H fun vs H1=>sp (vs ++ dvs) H1 Q E
def z1y (K:y00) (fd:y0b) (ps:List Str) (ds:List Value):Prop :=
 ∀ (s:y04) (us:List Value),K.In s.heap -> (us ++ ds).length = ps.length -> BindsTo s fd ⟨us,[]⟩ (ps.zip (us ++ ds))
theorem z1y.all {K:y00} {fd:y0b} {ps:List Str} (h:∀ us:List Value,us.length = ps.length -> bindArgs fd ⟨us,[]⟩ = pure (ps.zip us)):z1y K fd ps []:=fun s us _ hl=>by
 rw [y1p] at hl ⊢
 exact .of_eq (h us hl)
def zc6 (CX:CXT) (X:Cx) (E:XK):Prop:=∀ (pins:List (Addr × Obj)) (σ:St) (H:Hp) (s:y04) (e:Value) (s':y04),Inv X pins σ H s -> CX X.stack H s E e s' -> X.xe e s'
section
variable {X:Cx} {CX:CXT} {k:Nat} {f C:Addr} {fd:y0b} {ps:List Str} {sp:Sp} {dvs:List V} {ds:List Value} {E:XK} {x m:Str} {p pos apos:Pos} {e o:Expr} {es:List Expr} {ta:TE} {t:TA}
theorem zfu {pins:List (Addr × Obj)} {σ:St} {H:Hp} {s:y04} {Q:VK} {us:List Value} {vs:List V} (F:FnOk X.prog X.w X.K X.mg X.base CX k f fd ps sp) (hr:Room k X.A) (hb:z1y X.K fd ps ds) (hd:Vals dvs ds) (hx:zc6 CX X E)
  (I:Inv X pins σ H s) (r:Vals vs us) (h:sp (vs ++ dvs) H Q E):y0u (model X.prog X.w) X.A (call (.ref f) us) (EP X pins σ Q) X.xe s:=by
 have r2:Vals (vs ++ dvs) (us ++ ds):=r.append hd
 have hl:(us ++ ds).length = ps.length:=by rw [<- r2.length]; exact F.len _ _ _ _ h
 refine wpAny_call (codeAny_mono (F.run X.A X.stack s H ⟨us,[]⟩ (us ++ ds) (vs ++ dvs) Q E hr I.env0 (hb s us I.kIn hl) r2 h) fun r s' hq=>?_)
 cases r with
 | error e=>exact hx pins σ H s e s' I hq
 | ok fl =>
  cases fl with
  | ret u=>exact I.after hq
  | next=>exact y1o hq
  | brk=>exact y1o hq
  | cont=>exact y1o hq
theorem zek (F:FnOk X.prog X.w X.K X.mg X.base CX k f fd ps sp) (hr:Room k X.A) (hg:Gl X x) (hm:X.mg x = some (.ref f)) (hk:y08 X.K (.ref f) = true) (hb:z1y X.K fd ps ds) (hd:Vals dvs ds) (hx:zc6 CX X E)
  (ha:PA X (e :: es) t) (hdb:(x == ("__debug__":Str)) = false:=by decide) (he:y0a (e :: es) X.env = (false,eval e X.env) :: y0a es X.env:=by rfl) (hpl:(backTo pos (y0a es X.env)).any (·.1) = false:=by rfl) :
  PE X (.Call (.Name x p) (e :: es) [] pos) (zhm sp dvs E t):=by
 intro pins s σ H Q I h
 refine wpAny_Call_Name_kw (zb7 I hg hm ?_ hdb)
 refine PySem.W.callWith_K (h₀:=X.base) I.ok.mod.kin hk (thn (ha pos pins s σ H _ I h) fun us s1 ⟨vs,H1,I1,r,q⟩=>⟨I1.kIn,?_⟩) he hpl
 exact zfu F hr hb hd hx I1 r q
structure Mk (K:y00) (C f:Addr):Prop where
 makes:PySem.W.makesIn K C = true
 init:PySem.W.findIn K (.ref C) "__init__" = some (some (.ref f))
 fn:PySem.W.isFn K (.ref f) = true
 kp:y08 K (.ref C) = true
end
section
variable {X:Cx} {CX:CXT} {k:Nat} {f C:Addr} {fd:y0b} {ps ks:List Str} {sp:Sp} {E:XK} {x m:Str} {p pos apos kpos:Pos} {e o:Expr} {es:List Expr} {kws:List Keyword} {te ta:TE} {t tk:TA} {nm:Option Str}
variable {g:List Value -> List Value -> List Value} {gV:List V -> List V -> List V}
end
structure FnScope (N P:List Str) (sc:Scope):Prop where
 kind:sc.kind = .function
 co:sc.isCoroutine = false
 gen:sc.isGenerator = false
 nd:N.Nodup
 pre:N.take P.length = P
 par:∀ x ∈ P,sc.names.lookup x = some .local \/ sc.names.lookup x = some .cell
 nofree:∀ y ∈ sc.names,y.2 ≠ .free
theorem z7m {kindOf:Str -> Option NameKind} {x:Str}:∀ {binds:List (Str × Value)} {m:Str -> Option Value},(∀ v,(x,v) ∉ binds) -> bindL kindOf binds m x = m x
  | [],_,_=>rfl
  | (n,v) :: r,m,h=>by
    unfold bindL
    rw [z7m fun w hw=>h w (y05 _ hw)]
    split
    · have:x ≠ n:=by rintro rfl; exact h v y0e
      simp [this]
    · rfl
theorem z7o {kindOf:Str -> Option NameKind} {x:Str}:∀ {binds:List (Str × Value)} {m:Str -> Option Value},(∀ v,(x,v) ∉ binds) -> bindC kindOf binds m x = m x
  | [],_,_=>rfl
  | (n,v) :: r,m,h=>by
    unfold bindC
    rw [z7o fun w hw=>h w (y05 _ hw)]
    split
    · rfl
    · have:x ≠ n:=by rintro rfl; exact h v y0e
      simp [this]
theorem z7n {kindOf:Str -> Option NameKind} {x:Str} {v:Value}:∀ {P:List Str} {vs:List Value} {i:Nat} {m:Str -> Option Value},P.Nodup -> P[i]? = some x -> vs[i]? = some v -> kindOf x = some .local ->
  bindL kindOf (P.zip vs) m x = some v
 | [],_,_,_,_,h,_,_=>by simp at h
 | _ :: _,[],_,_,_,_,h,_=>by simp at h
 | p :: P,w :: vs,0,m,nd,h1,h2,hk=>by
  simp at h1 h2; subst h1; subst h2
  show bindL kindOf ((p,w) :: P.zip vs) m p = _
  unfold bindL
  rw [z7m fun v hv=>(y0r.mp nd).1 (List.of_mem_zip hv).1,if_pos hk]
  simp
 | p :: P,w :: vs,i + 1,m,nd,h1,h2,hk=>by
  show bindL kindOf ((p,w) :: P.zip vs) m x = _
  unfold bindL
  exact z7n (i:=i) (y0r.mp nd).2 (by simpa using h1) (by simpa using h2) hk
theorem z7p {kindOf:Str -> Option NameKind} {x:Str} {v:Value}:∀ {P:List Str} {vs:List Value} {i:Nat} {m:Str -> Option Value},P.Nodup -> P[i]? = some x -> vs[i]? = some v -> kindOf x ≠ some .local ->
  bindC kindOf (P.zip vs) m x = some v
 | [],_,_,_,_,h,_,_=>by simp at h
 | _ :: _,[],_,_,_,_,h,_=>by simp at h
 | p :: P,w :: vs,0,m,nd,h1,h2,hk=>by
  simp at h1 h2; subst h1; subst h2
  show bindC kindOf ((p,w) :: P.zip vs) m p = _
  unfold bindC
  rw [z7o fun v hv=>(y0r.mp nd).1 (List.of_mem_zip hv).1,if_neg hk]
  simp
 | p :: P,w :: vs,i + 1,m,nd,h1,h2,hk=>by
  show bindC kindOf ((p,w) :: P.zip vs) m x = _
  unfold bindC
  exact z7p (i:=i) (y0r.mp nd).2 (by simpa using h1) (by simpa using h2) hk
def start (N:List Str) (vs:List V):St:=vs.map some ++ y0g (N.length - vs.length) none
def cxOf (CX:CXT) (P:y0q) (w:World) (K:y00) (mg:Str -> Option Value) (base:Heap) (N:List Str) (qual:Str) (scope:Scope) (f:Addr) (cd:Value) (A:Around) (outer:List Env) (s:y04) (H:Hp) (E:XK):Cx where
 prog:=P
 w:=w
 K:=K
 mg:=mg
 base:=base
 A:=A.deeper (envOfC qual scope s.heap.objs.size f cd)
 N:=N
 s₀:=s
 H₀:=H
 env:=envOfC qual scope s.heap.objs.size f cd
 outer:=outer
 stack:=envOfC qual scope s.heap.objs.size f cd :: outer
 ex:=[]
 calm:=true
 fn:=fun _=>true
 pn:=[]
 xe:=fun e s'=>y0u (model P w) (A.deeper (envOfC qual scope s.heap.objs.size f cd)) (leaving (envOfC qual scope s.heap.objs.size f cd) e) (fun _ s''=>CX outer H s E e s'') (fun e' s''=>CX outer H s E e' s'') s'
theorem z95 {sc:Scope} {n:Nat} {x:Str} (h:sc.names.lookup x = some .cell):∃ c,(cellsFrom n sc.names []).lookup x = some c:=by
 have q:=PySem.W.cellsFrom_some sc.names n [] (.inl h)
 exact Option.isSome_iff_exists.mp q
theorem zbd {CX:CXT} {P:y0q} {w:World} {K:y00} {mg:Str -> Option Value} {base:Heap} {N ps:List Str} {qual:Str} {scope:Scope} {f:Addr} {cd:Value} {A:Around} {outer:List Env} {s s1:y04} {H:Hp} {E:XK} {us:List Value} {vs:List V}
  (S:FnScope N ps scope) (hd:A.handled = none) (e0:Env0 P w K mg base A outer s H) (hl:vs.length = ps.length) (r:Vals vs us)
  (x:InCallC s s.heap.objs.size (bindL (envOfC qual scope s.heap.objs.size f cd).kindOf (ps.zip us) fun _=>none) (cellsFrom (s.heap.objs.size + 1) scope.names []) (bindC (envOfC qual scope s.heap.objs.size f cd).kindOf (ps.zip us) fun _=>none) s1) :
  Inv (cxOf CX P w K mg base N qual scope f cd A outer s H E) [] (start N vs) H s1:=by
 have hpl:ps.length <= N.length:=by have:=congrArg List.length S.pre; rw [List.length_take] at this; omega
 obtain ⟨h1,tk,rfl,hk⟩:=x.done
 have noA:∀ b:Addr,b ∉ (cxOf CX P w K mg base N qual scope f cd A outer s H E).ex:=fun b z=>absurd (show b ∈ ([]:List Addr) from z) (by simp)
 refine ⟨⟨e0.mod,S.kind,rfl,rfl,y0o _,fun y z c h1 h2=>?_,fun y hy=>?_,fun y c _ h=>?_,fun _=>hd,Around.frames_deeper e0.frames,.inr ⟨rfl,rfl⟩,fun b z=>absurd z (noA b),e0.bs,e0.bsz,fun b _ _=>noA b,fun b z=>absurd z (noA b),e0.funs,e0.frf⟩,
  rfl,e0.bare,Un.kept hk,⟨_,x.toInCall.ns,fun i y v h1 h2 h3=>?_⟩,fun y c h=>⟨_,x.cell y c h⟩,e0.hok.fresh (y0o _),fun y c h=>?_,fun p hp=>absurd (show p ∈ ([]:List (Addr × Obj)) from hp) (by simp),e0.hok.kept hk,?_⟩
 ·exact name_of_addr x.apart (y1z h1) (y1z h2)
 ·have hy:scope.names.lookup y = some .cell \/ scope.names.lookup y = some .free:=hy
  rcases hy with hy | hy
  ·exact z95 hy
  ·exact absurd rfl (S.nofree _ (y1z hy))
 ·exact Nat.le_of_lt (x.above y c (y1z h))
 ·have hi:i < vs.length:=by
   unfold start at h2
   by_cases hi:i < vs.length
   ·exact hi
   ·rw [y1g (by simpa using hi)] at h2
    rw [List.getElem?_replicate] at h2
    split at h2 <;> cases h2
  have ha:vs[i]? = some v:=by
   unfold start at h2
   rw [y1h (by simpa using hi),y13] at h2
   cases e:vs[i]? with
   | none=>rw [e] at h2; cases h2
   | some a=>rw [e] at h2; cases h2; rfl
  obtain ⟨u,hu,rv⟩:=r.get ha
  have hp:ps[i]? = some y:=by
   rw [<- S.pre,List.getElem?_take_of_lt (by omega)]; exact h1
  have ndP:ps.Nodup:=by rw [<- S.pre]; exact S.nd.sublist (List.take_sublist _ _)
  refine ⟨u,rv,?_⟩
  rcases S.par y (y1m hp) with k | k
  ·exact .inl ⟨k,z7n ndP hp hu k⟩
  ·obtain ⟨c,e⟩:=z95 (n:=s.heap.objs.size + 1) k
   refine .inr ⟨.inl k,c,e,?_⟩
   have q:=x.cell y c e
   rw [z7p ndP hp hu (by show scope.names.lookup y ≠ _; rw [k]; decide)] at q
   exact q
 ·exact e0.hok.fresh (Nat.le_of_lt (x.above y c (y1z h)))
 ·unfold start
  show _ = N.length
  rw [y1s,y12,List.length_replicate]
  omega
theorem zi8 {CX:CXT} {P:y0q} {w:World} {K:y00} {mg:Str -> Option Value} {base:Heap} {k:Nat} {f:Addr} {name qual:Str} {params:Arguments} {body:List Stmt} {scope:Scope} {dV kV doc pm cdv ct oc:Value} {an od:Option Addr}
  {osl:Array (Option Value)} {N ps:List Str} {sp:Sp} (lk:K.lookup f = some ⟨oc,od,.func (y0i name qual params body scope dV kV doc pm an cdv ct),osl⟩) (hcd:y0f K cdv qual = true) (S:FnScope N ps scope)
  (len:∀ vs H Q E,sp vs H Q E -> vs.length = ps.length)
  (hbody:∀ (A:Around) (outer:List Env) (s:y04) (H:Hp) (vs:List V) (Q:VK) (E:XK),Room k (A.deeper (envOfC qual scope s.heap.objs.size f cdv)) -> sp vs H Q E ->
   ∃ t,PSs (cxOf CX P w K mg base N qual scope f cdv A outer s H E) body t /\ t { nx:=fun _ H'=>Q .non H',rt:=Q } (start N vs) H) :
  FnOk P w K mg base CX (k + 1) f (y0i name qual params body scope dV kV doc pm an cdv ct) ps sp:=by
 refine ⟨len,fun A outer s H args us vs Q E hr e0 hb r hsp=>?_⟩
 have hl:=len _ _ _ _ hsp
 have KX:K.In s.heap:=e0.mod.kin.keeps fun b o e=>(e0.bs b o e).1
 have lim:s.heap.NoLimit:=e0.mod.nolimit.keeps fun b o e=>(e0.bs b o e).1
 have hkind:∀ y ∈ ps.zip us,scope.names.lookup y.1 = some .local \/ (scope.names.lookup y.1 = some .cell /\ ((cellsFrom (s.heap.objs.size + 1) scope.names []).lookup y.1).isSome = true):=fun ⟨n,v⟩ hy=>by
  rcases S.par n (List.of_mem_zip hy).1 with q | q
  ·exact .inl q
  ·exact .inr ⟨q,PySem.W.cellsFrom_some _ _ _ (.inl q)⟩
 refine codeAny_call_function hr.depth (KX _ _ lk) rfl S.co S.gen rfl (PySem.W.codeRec_of KX hcd) (hb _ _ _ _ ?_)
 refine wpAny_newFunctionEnv_cells S.kind hkind fun env he s1 x=>?_
 subst he
 refine ⟨lim.keeps x.toInCall.keep,codeAny_func ?_⟩
 obtain ⟨t,ht,hq⟩:=hbody A outer s H vs Q E (hr.deeper _) hsp
 have I:Inv (cxOf CX P w K mg base N qual scope f cdv A outer s H E) [] (start N vs) H s1:=zbd S hr.hd e0 hl r x
 refine y18 (ht [] s1 (start N vs) H _ I hq) (fun fl s' hs=>?_) fun e s' hs=>hs
 have fin:∀ {σ':St} {H':Hp} {v:V} {u:Value},Inv (cxOf CX P w K mg base N qual scope f cdv A outer s H E) [] σ' H' s' -> RelV v u -> Q v H' -> CE outer P w H s Q u s' :=
  fun {σ' H' v u} J rv q=>⟨v,H',J.os,J.bare,J.base,J.hok,rv,q⟩
 cases fl with
 | ret u =>
  obtain ⟨v,σ',H',J,rv,q⟩:=hs
  exact fin J rv q
 | next =>
  obtain ⟨σ',H',J,q⟩:=hs
  exact fin (v:=V.non) (u:=Value.none) J rfl q
 | brk =>
  obtain ⟨_,_,_,q⟩:=hs
  exact y1o q
 | cont =>
  obtain ⟨_,_,_,q⟩:=hs
  exact y1o q
end L2
namespace L2
open PySem PySem.Spec PyProof.Rows
section
variable {X:Cx} {x:Str} {p pos:Pos} {e:Expr} {es:List Expr} {t:TA} {id T:String} {r:List V -> Hp -> VK -> Prop}
def tCB (r:List V -> Hp -> VK -> Prop) (t:TA):TE:=fun σ H Q=>t σ H fun vs H1=>r vs H1 Q
theorem z44 (hc:z41 X (.builtin id) r) (hg:Gl X x) (hm:X.mg x = none) (hv:bootBuiltins x = some (.builtin id)) (ha:PA X (e :: es) t) (hn:x ≠ "__name__":=by decide) (hdb:(x == ("__debug__":Str)) = false:=by decide)
  (he:y0a (e :: es) X.env = (false,eval e X.env) :: y0a es X.env:=by rfl) (hpl:(backTo pos (y0a es X.env)).any (·.1) = false:=by rfl):PE X (.Call (.Name x p) (e :: es) [] pos) (tCB r t):=by
 intro pins s σ H Q I h
 refine wpAny_Call_Name_kw (z5j I hg hm hv ?_ hn hdb)
 exact PyProof.Rows.callWith_builtin1 (thn (ha pos pins s σ H _ I h) fun us s1 ⟨vs,H1,I1,r1,q1⟩=>hc pins s1 σ H1 vs us Q I1 r1 q1) he hpl
theorem zar (hc:z41 X (.type T) r) (hg:Gl X x) (hm:X.mg x = none) (hv:bootBuiltins x = some (.type T)) (ha:PA X (e :: es) t) (hn:x ≠ "__name__":=by decide) (hdb:(x == ("__debug__":Str)) = false:=by decide)
  (he:y0a (e :: es) X.env = (false,eval e X.env) :: y0a es X.env:=by rfl) (hpl:(backTo pos (y0a es X.env)).any (·.1) = false:=by rfl):PE X (.Call (.Name x p) (e :: es) [] pos) (tCB r t):=by
 intro pins s σ H Q I h
 refine wpAny_Call_Name_kw (z5j I hg hm hv ?_ hn hdb)
 exact y1l (thn (ha pos pins s σ H _ I h) fun us s1 ⟨vs,H1,I1,r1,q1⟩=>hc pins s1 σ H1 vs us Q I1 r1 q1) he hpl
end
end L2
namespace HT
open PySem PyProof.Rows
section
open PySem.SeqAt
open PySem.AutoSeq1 (wpAny_loadPart')
open PySem.MeetsSeq PySem.MeetsSeq2 PySem.MeetsSeq3
end
section
variable {prog:y0q} {w:World} {A:Around} {E:Value -> y04 -> Prop} {s:y04}
theorem cat_tup {t b:Addr} {vs ws:List Value} {Q:Value -> y04 -> Prop} (ht:IsTup s.heap t vs.toArray) (hb:IsTup s.heap b ws.toArray) (hv:vs ≠ [])
  (h1:ws = [] -> Q (.ref t) s) (h2:ws ≠ [] -> Q (.ref s.heap.objs.size) { s with heap:=s.heap.push { cls:=.type "tuple",data:=.seq (vs ++ ws).toArray } })
  (hsz:vs.length + ws.length <= y0j):y0u (model prog w) A (binaryOp .Add (.ref t) (.ref b)) Q E s:=by
 obtain ⟨⟨cls,dd,data,sl⟩,ho,hc,n,hd⟩:=id ht
 obtain ⟨⟨cls2,dd2,data2,sl2⟩,ho2,hc2,n2,hd2⟩:=id hb
 simp only at hc hd hc2 hd2
 subst hc hd hc2 hd2
 have e:vs.toArray ++ ws.toArray = (vs ++ ws).toArray:=by simp
 by_cases hw:ws = []
 ·exact concat_meets ⟨_,ho,rfl⟩ ⟨_,ho2,rfl⟩ noFill_tuple_add seq_tuple_add PySem.F.slot_tuple_add PySem.F.entry_tuple_add (PySem.F.args_tuple_add_2 _ _)
   (tuple_addW1 t b vs.toArray ws.toArray n n2 dd dd2 sl sl2 (by simpa using hv) (by simp [hw])) ⟨ho,ho2,h1 hw⟩
 ·refine concat_meets ⟨_,ho,rfl⟩ ⟨_,ho2,rfl⟩ noFill_tuple_add seq_tuple_add PySem.F.slot_tuple_add PySem.F.entry_tuple_add (PySem.F.args_tuple_add_2 _ _)
   (tuple_addW2 t b vs.toArray ws.toArray n n2 dd dd2 sl sl2 (by simpa using hv) (by simpa using hw) (by rw [y0h,y0h]; exact hsz)) ⟨ho,ho2,?_⟩
  rw [e]
  exact h2 hw
def sIx (n d:Nat):Option Int -> Nat
 | none=>d
 | some v=>if v < 0 then (v + (n:Int)).toNat else min v.toNat n
theorem zfs (n d:Nat) (hd:d <= n) (o:Option Int):sIx n d o <= n:=by
 cases o with
 | none=>exact hd
 | some v =>
  show (if v < 0 then (v + (n:Int)).toNat else min v.toNat n) <= n
  by_cases hv:v < 0
  ·rw [if_pos hv]; omega
  ·rw [if_neg hv]; exact Nat.min_le_right _ _
theorem zbs (v:Int) (n d:Nat):(if v < 0 then max (v + (n:Int)) 0 else min v (n:Int)) = ((sIx n d (some v):Nat):Int):=by
 show (if v < 0 then max (v + (n:Int)) 0 else min v (n:Int)) = (((if v < 0 then (v + (n:Int)).toNat else min v.toNat n):Nat):Int)
 by_cases hv:v < 0
 ·simp only [if_pos hv]; omega
 ·simp only [if_neg hv]; omega
theorem za4 (lo hi:Option Int) (n:Nat):Builtin.Slice.sliceAdjust lo hi 1 (n:Int) = (((sIx n 0 lo:Nat):Int),((sIx n n hi:Nat):Int)):=by
 have h1:¬ ((1:Int) < 0):=by omega
 unfold Builtin.Slice.sliceAdjust
 simp only [h1,if_false]
 refine Prod.ext ?_ ?_
 ·cases lo with
  | none=>rfl
  | some v=>exact zbs v n 0
 ·cases hi with
  | none=>rfl
  | some v=>exact zbs v n n
theorem z9f (i j:Nat):y1e (i:Int) (j:Int) 1 = j - i:=by
 unfold y1e
 have h1:(1:Int) > 0:=by omega
 simp only [h1,if_true,Int.ediv_one]
 split <;> omega
theorem z59 {v:Value} {o:Option Int} {Q:Option Int -> y04 -> Prop} (p:IsPart v o) (h:Q o s):y0u (model prog w) A (Builtin.Slice.slicePartIndex v) Q E s:=by
 cases p with
 | none=>exact slicePart_none h
 | int i t=>exact slicePart_int h
theorem sliceApplied_gen {sl:Addr} {vl vu:Value} {lo hi:Option Int} {n:Nat} {Q:Int × Int × Nat -> y04 -> Prop} (hs:s.heap.IsSliceOf sl vl vu .none) (pl:IsPart vl lo) (pu:IsPart vu hi)
  (h:Q (((sIx n 0 lo:Nat):Int),1,sIx n n hi - sIx n 0 lo) s):y0u (model prog w) A (Builtin.Slice.sliceApplied (.ref sl) (pure (n:Int))) Q E s:=by
 obtain ⟨os,hos,hcs,hds⟩:=id hs
 unfold Builtin.Slice.sliceApplied Builtin.Slice.sliceFields
 refine y02 (y02 (wpAny_field hos hds (x:=vl) rfl (y02 (wpAny_field hos hds (x:=vu) rfl (y02 (wpAny_field hos hds (x:=.none) rfl (y06 ?_)))))))
 refine y02 (slicePart_none ?_)
 show y0u _ _ (if ((1:Int) == 0) = true then _ else _) _ _ s
 rw [if_neg (by decide)]
 refine y02 (z59 pl (y02 (z59 pu (y02 (y06 ?_)))))
 show y0u _ _ (match Builtin.Slice.sliceAdjust lo hi 1 (n:Int) with | (lo,hi)=>pure (lo,(1:Int),y1e lo hi 1)) _ _ s
 rw [za4 lo hi n]
 show y0u _ _ (pure (((sIx n 0 lo:Nat):Int),(1:Int),y1e ((sIx n 0 lo:Nat):Int) ((sIx n n hi:Nat):Int) 1)) _ _ s
 rw [z9f]
 exact y06 h
theorem zck (xs:Array Value) (i k:Nat):((List.range k).filterMap fun (m:Nat)=>xs[((i:Int) + (m:Int) * 1).toNat]?).toArray = ((xs.toList.drop i).take k).toArray:=by
 have e:(fun (m:Nat)=>xs[((i:Int) + (m:Int) * 1).toNat]?) = fun m=>xs[i + m]?:=by
  funext m
  have:((i:Int) + (m:Int) * 1).toNat = i + m:=by omega
  rw [this]
 rw [e]
 have:=pick_run xs i k
 rw [List.filterMap_map] at this
 have e2:((fun x=>xs[x]?) ∘ fun x=>i + x) = fun m=>xs[i + m]?:=rfl
 rw [e2] at this
 rw [this]
theorem getItem_tuple_cut {t sl:Addr} {items:Array Value} {vl vu:Value} {lo hi:Option Int} {Q:Value -> y04 -> Prop} (ht:IsTup s.heap t items) (hs:s.heap.IsSliceOf sl vl vu .none) (pl:IsPart vl lo) (pu:IsPart vu hi)
  (hw:¬ (sIx items.size 0 lo = 0 /\ sIx items.size items.size hi = items.size))
  (h:Q (.ref s.heap.objs.size) { s with heap:=s.heap.push { cls:=.type "tuple",data:=.seq ((items.toList.drop (sIx items.size 0 lo)).take (sIx items.size items.size hi - sIx items.size 0 lo)).toArray } })
  (hsz:items.size <= y0j):y0u (model prog w) A (getItem (.ref t) (.ref sl)) Q E s:=by
 have htake:sizeOk (.seq ((items.toList.drop (sIx items.size 0 lo)).take (sIx items.size items.size hi - sIx items.size 0 lo)).toArray):=by
  show ((items.toList.drop (sIx items.size 0 lo)).take (sIx items.size items.size hi - sIx items.size 0 lo)).toArray.size <= y0j
  rw [y0h,List.length_take,List.length_drop,y1q]
  omega
 have hj:sIx items.size items.size hi <= items.size:=zfs _ _ (y0o _) hi
 obtain ⟨os,hos,hcs,hds⟩:=id hs
 have hTs:s.TypeIs (.ref sl) "slice":=⟨os,hos,hcs⟩
 unfold getItem
 try with_reducible refine wpAny_holding ?_
 first | refine y02 (y06 ?_) | skip
 refine y02 (wpAny_sequenceKey ht.typeIs (by decide) ?_)
 refine y02 (wpAny_callSpecial?_slot (name:=Str.ofString "__getitem__") ht.typeIs y1c
  (wpAny_call_entry y1c ht.typeIs entry_tuple_getitem ?_ (args_tuple_getitem _ _)))
 show y0u _ _ (Builtin.Tuple.tupleItemsOf (.ref t) >>= _) _ _ s
 refine y02 (tupleItemsOf_ ht ?_)
 refine y02 (wpAny_typeOf hTs ?_)
 rw [if_pos (by decide)]
 refine y02 (sliceApplied_gen hs pl pu ?_)
 have hno:¬ ((((sIx items.size 0 lo:Nat):Int) == 0 && (1:Int) == 1 && (sIx items.size items.size hi - sIx items.size 0 lo) == items.size) = true):=by
  intro q
  rw [y16,y16] at q
  have q1:((sIx items.size 0 lo:Nat):Int) = 0:=eq_of_beq q.1.1
  have q2:sIx items.size items.size hi - sIx items.size 0 lo = items.size:=eq_of_beq q.2
  exact hw ⟨by omega,by omega⟩
 show y0u _ _ (if (((sIx items.size 0 lo:Nat):Int) == 0 && (1:Int) == 1 && (sIx items.size items.size hi - sIx items.size 0 lo) == items.size) = true then _ else _) _ _ s
 rw [if_neg hno,zck]
 first
  | exact y02 (m:=y11 _) (wpAny_newObj_type (y06 ⟨_,rfl,y06 h⟩) htake)
  | exact y02 (m:=y11 _) (wpAny_newObj_type (y02 (y06 (y06 ⟨_,rfl,y06 h⟩))) htake)
  | exact y02 (y02 (m:=y11 _) (wpAny_newObj_type (y06 (y06 ⟨_,rfl,y06 h⟩)) htake))
  | exact y02 (y02 (m:=y11 _) (wpAny_newObj_type (y06 ⟨_,rfl,y06 h⟩) htake))
end
end HT
namespace L2
open PySem PySem.Spec PyProof.Rows
abbrev TO:=St -> Hp -> (Option Int -> Hp -> Prop) -> Prop
def PO (X:Cx) (e:Option Expr) (t:TO):Prop :=
 ∀ (pins:List (Addr × Obj)) (s:y04) (σ:St) (H:Hp) (Q:Option Int -> Hp -> Prop),Inv X pins σ H s -> t σ H Q ->
  y0u (model X.prog X.w) X.A (evalPart e X.env) (fun u s'=>∃ o H',Inv X pins σ H' s' /\ IsPart u o /\ Q o H') X.xe s
def ze0:TO:=fun _ H Q=>Q none H
def zhh (t:TE):TO:=fun σ H Q=>t σ H fun x H1=>∃ i,x = .int i /\ Q (some i) H1
theorem z9u {ns:List Int}:∀ {us:List Value},Vals (ns.map V.int) us -> IntsAre us ns:=by
 induction ns with
 | nil=>intro us r; rw [y14] at r; cases r; exact .nil
 | cons n ns ih =>
  intro us r
  rw [y0d] at r
  cases r with
  | cons r1 r2 =>
   obtain ⟨t,e⟩:=r1
   subst e
   exact .cons n t (ih r2)
section
variable {X:Cx} {e:Expr} {te:TE} {lo hi:Option Expr} {tl th:TO} {pos p2:Pos}
theorem zee:PO X none ze0:=by
 intro pins s σ H Q I h
 rw [evalPart_none]
 exact y06 ⟨none,H,I,.none,h⟩
theorem zed (h:PE X e te):PO X (some e) (zhh te):=by
 intro pins s σ H Q I hw
 rw [evalPart_some]
 refine thn (h pins s σ H _ I hw) fun u s1 ⟨x,H1,I1,r1,q1⟩=>?_
 obtain ⟨i,rfl,q⟩:=q1
 obtain ⟨t,rfl⟩:=r1
 exact ⟨some i,H1,I1,.int i t,q⟩
def SlR (X:Cx) (r:V -> Option Int -> Option Int -> Hp -> VK -> Prop):Prop :=
 ∀ (pins:List (Addr × Obj)) (s:y04) (σ:St) (H:Hp) (x:V) (v vl vu:Value) (lo hi:Option Int) (sl:Addr) (Q:VK),Inv X pins σ H s -> RelV x v -> s.heap.IsSliceOf sl vl vu .none -> IsPart vl lo -> IsPart vu hi -> r x lo hi H Q ->
  ∃ T id,typeLookup (.type T) "__getitem__" = pure (some (.builtin id)) /\ s.TypeIs v T /\ y0u (model X.prog X.w) X.A (getItem v (.ref sl)) (EP X pins σ Q) X.xe s
theorem SlR.or {r r':V -> Option Int -> Option Int -> Hp -> VK -> Prop} (h:SlR X r) (h':SlR X r'):SlR X (fun x lo hi H Q=>r x lo hi H Q \/ r' x lo hi H Q):=by
 intro pins s σ H x v vl vu lo hi sl Q I rx hs pl pu q
 rcases q with q | q
 ·exact h pins s σ H x v vl vu lo hi sl Q I rx hs pl pu q
 ·exact h' pins s σ H x v vl vu lo hi sl Q I rx hs pl pu q
def tSl (r:V -> Option Int -> Option Int -> Hp -> VK -> Prop) (te:TE) (tl th:TO):TE:=fun σ H Q=>te σ H fun x H1=>tl σ H1 fun l H2=>th σ H2 fun u H3=>r x l u H3 Q
theorem zcm {r:V -> Option Int -> Option Int -> Hp -> VK -> Prop} (hr:SlR X r) (he:PE X e te) (hl:PO X lo tl) (hu:PO X hi th):PE X (.Subscript e (.Slice lo hi none p2) pos) (tSl r te tl th):=by
 intro pins s σ H Q I h
 refine Subscript_ (thn (he pins s σ H _ I h) fun v s1 ⟨x,H1,I1,r1,q1⟩=>?_)
 refine wpAny_Slice (thn (hl pins s1 σ H1 _ I1 q1) fun vl s2 ⟨l,H2,I2,pl,q2⟩=>thn (hu pins s2 σ H2 _ I2 q2) fun vu s3 ⟨u,H3,I3,pu,q3⟩=>?_)
 rw [evalPart_none]
 refine y06 ?_
 have I4:Inv X pins σ H3 { s3 with heap:=s3.heap.push { cls:=.type "slice",data:=.fields #[vl,vu,.none] } }:=I3.kept (t':=s3.toks) fun b ob q=>y03 _ q
 obtain ⟨T,id,hT,ht,hg⟩:=hr pins { s3 with heap:=s3.heap.push { cls:=.type "slice",data:=.fields #[vl,vu,.none] } } σ H3 x v vl vu l u s3.heap.objs.size Q I4 r1 (Heap.IsSliceOf.new ..) pl pu q3
 show y0u (model X.prog X.w) X.A (subscriptTail e (.Slice lo hi none p2) v (.ref s3.heap.objs.size)) (EP X pins σ Q) X.xe { s3 with heap:=s3.heap.push { cls:=.type "slice",data:=.fields #[vl,vu,.none] } }
 exact tail_any (ops:=[.ref s3.heap.objs.size,v]) ht hT hg (by with_unfolding_all rfl)
def cutV (xs:List V) (lo hi:Option Int):List V:=(xs.drop (HT.sIx xs.length 0 lo)).take (HT.sIx xs.length xs.length hi - HT.sIx xs.length 0 lo)
theorem z4r (xs:List V) (lo hi:Option Int):(cutV xs lo hi).length <= xs.length:=by
 unfold cutV
 rw [List.length_take,List.length_drop]
 omega
def rSlT (K:y00):V -> Option Int -> Option Int -> Hp -> VK -> Prop:=fun x lo hi H Q=>∃ a xs,x = .ref a /\ SqT K H a xs /\
 ¬ (HT.sIx xs.length 0 lo = 0 /\ HT.sIx xs.length xs.length hi = xs.length) /\ ∀ p,H p = none -> Q (.ref p) (upd H p (.tup (cutV xs lo hi)))
theorem zfp:SlR X (rSlT X.K):=by
 intro pins s σ H x v vl vu lo hi sl Q I rx hs pl pu h
 obtain ⟨a,xs,rfl,hx,hw,q⟩:=h
 cases rx
 obtain ⟨its,r,ht,hz⟩:=I.tuple hx
 have hlen:its.toArray.size = xs.length:=by rw [y0h]; exact r.length.symm
 refine ⟨"tuple",_,PyProof.Rows.slot_tuple_getitem.lookup,ht.typeIs,?_⟩
 refine HT.getItem_tuple_cut ht hs pl pu (by rw [hlen]; exact hw) ?_ (by rw [hlen]; exact hz)
 rw [hlen]
 refine ⟨.ref s.heap.objs.size,_,I.laid (t':=s.toks) (o:=.tup (cutV xs lo hi)) (fun b ob q=>y03 _ q) (y0o _) ?_,rfl,q _ (I.hok.fresh (y0o _))⟩
 exact ⟨y1i (z4r xs lo hi) hz,_,(r.drop (HT.sIx xs.length 0 lo)).take (HT.sIx xs.length xs.length hi - HT.sIx xs.length 0 lo),IsTup.new _ _⟩
def zho (K:y00):R2:=fun x y H Q=>∃ a b xs ys,x = .ref a /\ y = .ref b /\ SqT K H a xs /\ SqT K H b ys /\ xs ≠ [] /\ xs.length + ys.length <= y0j /\
 (ys = [] -> Q (.ref a) H) /\ (ys ≠ [] -> ∀ p,H p = none -> Q (.ref p) (upd H p (.tup (xs ++ ys))))
theorem Vals.nil_iff {xs:List V} {us:List Value} (r:Vals xs us):us = [] <-> xs = []:=by
 cases r with
 | nil=>simp
 | cons _ _=>simp
theorem zep:OpR X (binaryOp .Add) (zho X.K):=by
 intro pins s σ H x y v u Q I rx ry h
 obtain ⟨a,b,xs,ys,rfl,rfl,ha,hb,hx,hz,q1,q2⟩:=h
 cases rx
 cases ry
 obtain ⟨its,r1,p1,_⟩:=I.tuple ha
 obtain ⟨its2,r2,p2,_⟩:=I.tuple hb
 refine HT.cat_tup p1 p2 (fun z=>hx (r1.nil_iff.mp z)) (fun z=>⟨.ref a,H,I,rfl,q1 (r2.nil_iff.mp z)⟩) (fun z=>?_) (by rw [<- r1.length,<- r2.length]; exact hz)
 refine ⟨.ref s.heap.objs.size,_,I.laid (t':=s.toks) (o:=.tup (xs ++ ys)) (fun b ob q=>y03 _ q) (y0o _) ?_,rfl,q2 (fun w=>z (r2.nil_iff.mpr w)) _ (I.hok.fresh (y0o _))⟩
 exact ⟨by rw [y1s]; exact hz,_,r1.append r2,IsTup.new _ _⟩
end
end L2
namespace L2
open PySem PySem.Spec PyProof.Rows
def ixN (n:Nat) (i:Int):Option Nat:=if 0 <= i then (if i < n then some i.toNat else none) else if -(n:Int) <= i then some (i + n).toNat else none
def atI {α:Type} (xs:List α) (i:Int):Option α:=(ixN xs.length i).bind fun j=>xs[j]?
theorem zeu {n:Nat} {i:Int} {j:Nat} (h:ixN n i = some j):seqIndex? i n = some j /\ j < n /\ -(n:Int) <= i /\ i < n:=by
 unfold ixN at h
 by_cases h0:0 <= i
 ·rw [if_pos h0] at h
  by_cases h1:i < n
  ·rw [if_pos h1] at h
   have e:i.toNat = j:=Option.some.inj h
   exact ⟨by rw [seqIndex_of h0 h1,e],by omega,by omega,h1⟩
  ·rw [if_neg h1] at h; cases h
 ·rw [if_neg h0] at h
  by_cases h1:-(n:Int) <= i
  ·rw [if_pos h1] at h
   have e:(i + n).toNat = j:=Option.some.inj h
   exact ⟨by rw [seqIndex_neg (by omega) h1,e],by omega,h1,by omega⟩
  ·rw [if_neg h1] at h; cases h
theorem z8p {α:Type} {xs:List α} {i:Int} {v:α} (h:atI xs i = some v):∃ j,seqIndex? i xs.length = some j /\ xs[j]? = some v /\ j < xs.length /\ -(xs.length:Int) <= i /\ i < xs.length:=by
 unfold atI at h
 cases e:ixN xs.length i with
 | none=>rw [e] at h; cases h
 | some j =>
  rw [e] at h
  obtain ⟨h1,h2,h3,h4⟩:=zeu e
  exact ⟨j,h1,h,h2,h3,h4⟩
def zc5 (b:Expr):Prop:=∀ o i,subscripted b false o i = operate [o,i] (getItem o i)
def IxR (X:Cx) (r:R2):Prop :=
 ∀ (value slice:Expr) (pins:List (Addr × Obj)) (s:y04) (σ:St) (H:Hp) (x y:V) (v u:Value) (Q:VK),Inv X pins σ H s -> RelV x v -> RelV y u -> r x y H Q ->
  subscripted slice false v u = operate [v,u] (getItem v u) -> y0u (model X.prog X.w) X.A (subscriptTail value slice v u) (EP X pins σ Q) X.xe s
def MtR (X:Cx) (id:String) (r:V -> List V -> Hp -> VK -> Prop):Prop :=
 ∀ (pins:List (Addr × Obj)) (s:y04) (σ:St) (H:Hp) (x:V) (xs:List V) (v:Value) (us:List Value) (Q:VK),Inv X pins σ H s -> RelV x v -> Vals xs us -> r x xs H Q ->
  y0u (model X.prog X.w) X.A (call (.builtin id) (v :: us)) (EP X pins σ Q) X.xe s
section
variable {X:Cx} {a b:Expr} {ta tb:TE} {pos:Pos}
theorem IxR.or {r r':R2} (h:IxR X r) (h':IxR X r'):IxR X (fun x y H Q=>r x y H Q \/ r' x y H Q):=by
 intro value slice pins s σ H x y v u Q I rx ry q hs
 rcases q with q | q
 ·exact h value slice pins s σ H x y v u Q I rx ry q hs
 ·exact h' value slice pins s σ H x y v u Q I rx ry q hs
theorem zhz {r:R2} (hr:IxR X r) (ha:PE X a ta) (hb:PE X b tb) (hs:zc5 b):PE X (.Subscript a b pos) (tOp r ta tb):=by
 intro pins s σ H Q I h
 exact Subscript_ (binT ha hb I h fun v u s2 x y H2 I2 rx ry q=>hr a b pins s2 σ H2 x y v u Q I2 rx ry q (hs _ _))
def rIxL (K:y00):R2:=fun x y H Q=>∃ p xs i v,x = .ref p /\ y = .int i /\ SqL K H p xs /\ atI xs i = some v /\ Q v H
def rIxT (K:y00):R2:=fun x y H Q=>∃ p xs i v,x = .ref p /\ y = .int i /\ SqT K H p xs /\ atI xs i = some v /\ Q v H
def rIxS:R2:=fun x y H Q=>∃ z i c,x = .str z /\ y = .int i /\ z.length <= y0j /\ atI z.cps.toList i = some c /\ Q (.str ⟨#[c]⟩) H
theorem zet:IxR X (rIxL X.K):=by
 intro value slice pins s σ H x y v u Q I rx ry h hs
 obtain ⟨p,xs,i,z,rfl,rfl,hq,he,q⟩:=h
 cases rx
 obtain ⟨t,rfl⟩:=ry
 obtain ⟨its,r,pl,hz⟩:=I.list hq
 obtain ⟨j,h1,h2,h3,h4,h5⟩:=z8p he
 obtain ⟨w,ew,rw'⟩:=r.get h2
 have hl:=r.length
 have hn:=z7e
 have fin:EP X pins σ Q w s:=⟨z,H,I,rw',q⟩
 by_cases h0:0 <= i
 ·have hj:i.toNat = j:=by
   rw [seqIndex_of h0 h5] at h1
   exact Option.some.inj h1
  exact item_listR pl.isList h0 (by omega) (by rw [hj]; simpa using ew) fin hs
 ·have hj:(i + (its.toArray.size:Int)).toNat = j:=by
   rw [seqIndex_neg (by omega) h4] at h1
   rw [y0h,<- hl]
   exact Option.some.inj h1
  exact subscriptTail_builtinR (x:=w) pl.isList.typeIs slot_list_getitem.lookup
   (wpAny_getItem_list_neg (Q:=fun r s'=>r = w /\ EP X pins σ Q r s') pl.isList (by omega) (by rw [y0h] <;> omega) (by omega) (by rw [hj]; simpa using ew) ⟨rfl,fin⟩) hs
theorem zgv:IxR X (rIxT X.K):=by
 intro value slice pins s σ H x y v u Q I rx ry h hs
 obtain ⟨p,xs,i,z,rfl,rfl,hq,he,q⟩:=h
 cases rx
 obtain ⟨t,rfl⟩:=ry
 obtain ⟨its,r,pl,hz⟩:=I.tuple hq
 obtain ⟨j,h1,h2,h3,h4,h5⟩:=z8p he
 obtain ⟨w,ew,rw'⟩:=r.get h2
 have hl:=r.length
 have hn:=z7e
 have fin:EP X pins σ Q w s:=⟨z,H,I,rw',q⟩
 exact subscriptTail_builtinR (x:=w) pl.typeIs slot_tuple_getitem.lookup
  (getItem_tuple (j:=j) (Q:=fun r s'=>r = w /\ EP X pins σ Q r s') pl (by omega) (by omega) (by rw [y0h,<- hl]; exact h1) (by simpa using ew) ⟨rfl,fin⟩) hs
theorem zgw:IxR X rIxS:=by
 intro value slice pins s σ H x y v u Q I rx ry h hs
 obtain ⟨z,i,c,rfl,rfl,hz,he,q⟩:=h
 obtain ⟨t,rfl⟩:=rx
 obtain ⟨t',rfl⟩:=ry
 obtain ⟨j,h1,h2,h3,h4,h5⟩:=z8p he
 have hl:z.cps.toList.length = z.length:=by simp [Str.length]
 rw [hl] at h1 h4 h5
 have hn:=z7e
 exact tail_any (typeIs_str s z t) slot_str_getitem.lookup (getItem_str (c:=c) (by
  have e1:decide (i < -(2 ^ 63:Int)) = false:=decide_eq_false (by omega)
  have e2:decide (i >= 2 ^ 63) = false:=decide_eq_false (by omega)
  rw [e1,e2,Bool.or_false]) (by rw [h1]; simpa using h2) ⟨.str ⟨#[c]⟩,H,I.tok _,⟨_,rfl⟩,q⟩) hs
def rIx (K:y00):R2:=fun x y H Q=>rIxL K x y H Q \/ rIxT K x y H Q \/ rIxS x y H Q
theorem zgx:IxR X (rIx X.K):=zet.or (zgv.or zgw)
theorem z6p (lo hi:Option Int) (n:Nat):(sliceBounds lo hi none n).1 = ((HT.sIx n 0 lo:Nat):Int) /\ (sliceBounds lo hi none n).2.1 = ((HT.sIx n n hi:Nat):Int) /\ (sliceBounds lo hi none n).2.2 = 1:=by
 refine ⟨?_,?_,rfl⟩
 ·cases lo with
  | none=>simp [sliceBounds,HT.sIx]
  | some i =>
   simp only [sliceBounds,HT.sIx,Option.getD_none,show (1:Int) > 0 by decide,if_true]
   by_cases h:i < 0
   ·simp only [h,if_true] <;> omega
   ·simp only [h,if_false] <;> omega
 ·cases hi with
  | none=>simp [sliceBounds,HT.sIx]
  | some i =>
   simp only [sliceBounds,HT.sIx,Option.getD_none,show (1:Int) > 0 by decide,if_true]
   by_cases h:i < 0
   ·simp only [h,if_true] <;> omega
   ·simp only [h,if_false] <;> omega
theorem z5t (its:List Value) (lo hi:Option Int):slicePick its.toArray lo hi none = ((its.drop (HT.sIx its.length 0 lo)).take (HT.sIx its.length its.length hi - HT.sIx its.length 0 lo)).toArray:=by
 obtain ⟨h1,h2,h3⟩:=z6p lo hi its.toArray.size
 unfold slicePick
 rw [h1,h2,h3]
 simp only [sliceRange_one,pick_run,y0h] <;> rfl
def rSlL (K:y00):V -> Option Int -> Option Int -> Hp -> VK -> Prop:=fun x lo hi H Q=>∃ a xs,x = .ref a /\ SqL K H a xs /\ ∀ p,H p = none -> Q (.ref p) (upd H p (.lst (cutV xs lo hi)))
theorem ze2:SlR X (rSlL X.K):=by
 intro pins s σ H x v vl vu lo hi sl Q I rx hs pl pu h
 obtain ⟨a,xs,rfl,hx,q⟩:=h
 cases rx
 obtain ⟨its,r,ht,hz⟩:=I.list hx
 have hlen:=r.length
 refine ⟨"list",_,slot_list_getitem.lookup,ht.isList.typeIs,?_⟩
 refine wpAny_getItem_list_slice ht.isList hs pl pu .none (by simp) ?_ (by rw [y0h] <;> omega)
 rw [z5t,<- hlen]
 refine ⟨.ref s.heap.objs.size,_,I.laid (t':=s.toks) (o:=.lst (cutV xs lo hi)) (fun b ob q=>y03 _ q) (y0o _) ?_,rfl,q _ (I.hok.fresh (y0o _))⟩
 exact ⟨y1i (z4r xs lo hi) hz,_,0,(r.drop (HT.sIx xs.length 0 lo)).take (HT.sIx xs.length xs.length hi - HT.sIx xs.length 0 lo),y0l _ rfl⟩
theorem z7l:z41 X (.builtin "len") (fun xs H Q=>∃ p ys,xs = [.ref p] /\ (SqL X.K H p ys \/ SqT X.K H p ys) /\ Q (.int ys.length) H):=by
 intro pins s σ H xs us Q I r h
 obtain ⟨p,ys,rfl,hq,q⟩:=h
 obtain ⟨u,rfl,rx⟩:=zcb r
 cases rx
 have hn:=z7e
 rcases hq with hq | hq
 ·obtain ⟨its,r',pl,hz⟩:=I.list hq
  have hlen:=r'.length
  exact Calls.call_len_list pl.isList (by simp only [y0h] <;> omega) ⟨.int ys.length,H,I.tok _,⟨s.toks + 1,by rw [y0h,hlen]⟩,q⟩
 ·obtain ⟨its,r',pl,hz⟩:=I.tuple hq
  have hlen:=r'.length
  exact len_tuple pl (by simp only [y0h] <;> omega) ⟨.int ys.length,H,I.tok _,⟨s.toks + 1,by rw [y0h,hlen]⟩,q⟩
theorem z7k:z41 X (.builtin "len") (fun xs H Q=>∃ z,xs = [.str z] /\ z.length <= y0j /\ Q (.int z.length) H):=by
 intro pins s σ H xs us Q I r h
 obtain ⟨z,rfl,hz,q⟩:=h
 obtain ⟨u,rfl,t,rfl⟩:=zcb r
 have hn:=z7e
 exact len_str (by omega) ⟨.int z.length,H,I.tok _,⟨_,rfl⟩,q⟩
theorem z41.or {f:Value} {r r':List V -> Hp -> VK -> Prop} (h:z41 X f r) (h':z41 X f r'):z41 X f (fun xs H Q=>r xs H Q \/ r' xs H Q):=by
 intro pins s σ H xs us Q I rs q
 rcases q with q | q
 ·exact h pins s σ H xs us Q I rs q
 ·exact h' pins s σ H xs us Q I rs q
theorem z6c:z41 X (.type "tuple") (fun xs H Q=>∃ p ys,xs = [.ref p] /\ ((SqL X.K H p ys /\ ∀ l,H l = none -> Q (.ref l) (upd H l (.tup ys))) \/ (SqT X.K H p ys /\ Q (.ref p) H))):=by
 intro pins s σ H xs us Q I r h
 obtain ⟨p,ys,rfl,h⟩:=h
 obtain ⟨u,rfl,rx⟩:=zcb r
 cases rx
 rcases h with ⟨hq,q⟩ | ⟨hq,q⟩
 ·obtain ⟨its,r',pl,hz⟩:=I.list hq
  have hlen:=r'.length
  refine call_tuple_list pl.isList (fun h' kp=>?_) (by simp only [y0h] <;> omega)
  have I1:Inv X pins σ H { s with heap:=h' }:=I.kept (t':=s.toks) kp
  have I2:Inv X pins σ (upd H h'.objs.size (.tup ys)) { s with heap:=h'.push { cls:=.type "tuple",data:=.seq its.toArray } } :=
   I1.laid (t':=s.toks) (fun b o e=>y03 _ e) (y0o _) (show z3i X.prog X.w _ _ _ (.tup ys) from ⟨hz,its,r',IsTup.new _ _⟩)
  exact ⟨.ref h'.objs.size,_,I2,rfl,q _ (I1.hok.fresh (y0o _))⟩
 ·obtain ⟨its,r',pl,hz⟩:=I.tuple hq
  exact call_tuple_same pl ⟨.ref p,H,I,rfl,q⟩
def tyV (K:y00) (T:String) (x:V) (H:Hp):Prop:=match x with
 | .str _=>T = "str"
 | .int _=>T = "int"
 | .ref p=>(T = "list" /\ ∃ xs,SqL K H p xs) \/ (T = "tuple" /\ ∃ o,K.lookup p = some o /\ o.cls = .type "tuple" /\ o.dict = none) \/
   (T = "dict" /\ ((∃ kvs,H p = some (.dK kvs)) \/ ∃ kvs,H p = some (.dT kvs))) \/ (T = "set" /\ ∃ S n,H p = some (.set S n))
 | _=>False
theorem zfm {pins:List (Addr × Obj)} {σ:St} {H:Hp} {s:y04} {T:String} {x:V} {v:Value} (I:Inv X pins σ H s) (r:RelV x v) (ty:tyV X.K T x H) :
  s.TypeIs v T /\ ∀ a,v = .ref a -> ∃ ob,s.heap.get? a = some ob /\ ob.dict = none:=by
 cases x with
 | str z =>
  obtain ⟨t,rfl⟩:=r
  cases (show T = "str" from ty)
  exact ⟨typeIs_str s z t,fun _ e=>nomatch e⟩
 | int i =>
  obtain ⟨t,rfl⟩:=r
  cases (show T = "int" from ty)
  exact ⟨typeIs_int s i t,fun _ e=>nomatch e⟩
 | ref p =>
  cases r
  rcases ty with ⟨rfl,xs,hq⟩ | ⟨rfl,o,hk,hc,hd⟩ | ⟨rfl,hk⟩ | ⟨rfl,S,n,hk⟩
  ·obtain ⟨its,_,pl,_⟩:=I.list hq
   refine ⟨pl.isList.typeIs,fun a e=>?_⟩
   cases e
   obtain ⟨o,n,e,c,hd,_⟩:=pl
   exact ⟨o,e,hd⟩
  ·refine ⟨⟨o,I.kIn p o hk,hc⟩,fun a e=>?_⟩
   cases e
   exact ⟨o,I.kIn _ o hk,hd⟩
  ·have z:∃ o,s.heap.get? p = some o /\ o.ExactDict:=by
    rcases hk with ⟨kvs,hk⟩ | ⟨kvs,hk⟩
    ·obtain ⟨_,_,_,_,o,_,_,e,ex,_⟩:=I.hok p _ hk
     exact ⟨o,e,ex⟩
    ·obtain ⟨_,_,_,_,o,_,_,e,ex,_⟩:=I.hok p _ hk
     exact ⟨o,e,ex⟩
   obtain ⟨o,e,ex⟩:=z
   refine ⟨⟨o,e,ex.1⟩,fun a e2=>?_⟩
   cases e2
   exact ⟨o,e,ex.2.1⟩
  ·obtain ⟨o,_,_,_,e,ex,_⟩:=I.hok p _ hk
   refine ⟨⟨o,e,ex.1⟩,fun a e2=>?_⟩
   cases e2
   exact ⟨o,e,ex.2.1⟩
 | _=>exact y1o ty
def tBM (K:y00) (T:String) (r:V -> List V -> Hp -> VK -> Prop) (to:TE) (t:TA):TE:=fun σ H Q=>to σ H fun x H1=>tyV K T x H1 /\ t σ H1 fun xs H2=>r x xs H2 Q
variable {o e:Expr} {es:List Expr} {to:TE} {t:TA} {name:Str} {apos cpos:Pos} {T id:String} {r:V -> List V -> Hp -> VK -> Prop}
theorem zgf (pa:PlainAttrs T) (slot:Slot T name id) (hty:typeOf (.builtin id) = pure (.type "method_descriptor")) (hm:MtR X id r) (ho:PE X o to) (ha:PA X (e :: es) t)
  (hbase:attributeBase o name X.env (eval o X.env) = eval o X.env:=by rfl)
  (hfew:((backTo cpos (y0a (e :: es) X.env)).all (fun x=>!x.1) && (backToKw cpos (keywordEach [] X.env)).all (fun x=>x.1.isSome)
   && decide ((e :: es).length + ([]:List Keyword).length + (if ([]:List Keyword).isEmpty then 0 else 1) < 30)) = true:=by rfl)
  (hline:(apos.endLine == cpos.line) = true:=by rfl) (hs:y0a (e :: es) X.env = (false,eval e X.env) :: y0a es X.env:=by rfl) (hplain:(backTo cpos (y0a es X.env)).any (·.1) = false:=by rfl) :
  PE X (.Call (.Attribute o name apos) (e :: es) [] cpos) (tBM X.K T r to t):=by
 intro pins s σ H Q I h
 refine wpAny_Call_method_late hbase hfew hline rfl (thn (ho pins s σ H _ I h) fun v s1 ⟨x,H1,I1,r1,ty,q1⟩=>?_)
 obtain ⟨h1,h2⟩:=zfm I1 r1 ty
 refine ⟨T,id,pa,slot,hty,h1,h2,?_⟩
 have hA:=ha cpos pins s1 σ H1 _ I1 q1
 rw [hs] at hA ⊢
 refine Calls.callWith_builtin (by show (false || (backTo cpos (y0a es X.env)).any (·.1)) = false; rw [hplain] <;> rfl) (Calls.evalArgs_plain ?_)
 exact thn hA fun us s2 ⟨vs,H2,I2,r2,q2⟩=>hm pins s2 σ H2 x vs v us Q I2 r1 r2 q2
end
end L2
namespace L2
open PySem PySem.Spec PyProof.Rows
def MtM (X:Cx) (id:String) (r:V -> List V -> Hp -> VK -> Prop):Prop :=
 ∀ (pins:List (Addr × Obj)) (s:y04) (σ:St) (H:Hp) (x:V) (xs:List V) (v:Value) (us:List Value) (Q:VK),Inv X pins σ H s -> RelV x v -> Vals xs us -> r x xs H Q ->
  y0u (model X.prog X.w) X.A (call (.builtin id) (v :: us)) (EP X pins σ Q) X.xe s
theorem Vals.one:∀ {x:V} {us:List Value},Vals [x] us -> ∃ u,us = [u] /\ RelV x u
 | _,_,.cons r .nil=>⟨_,rfl,r⟩
theorem Vals.rep {xs:List V} {us:List Value} (h:Vals xs us):∀ k:Nat,Vals (y0g k xs).flatten (y0g k us).flatten
 | 0=>.nil
 | k + 1=>by
  rw [y1k,y1k,y1w,y1w]
  exact Vals.append h (Vals.rep h k)
theorem z32 (its:List Value):∀ (k:Nat) (acc:List Value),
  List.foldl (fun x1 x2=>x1 ++ x2) acc.toArray (y0g k its.toArray) = (acc ++ (y0g k its).flatten).toArray
 | 0,acc=>by simp
 | k + 1,acc=>by
  have e:acc.toArray ++ its.toArray = (acc ++ its).toArray:=by simp
  have e2:(acc ++ its) ++ (y0g k its).flatten = acc ++ (y0g (k + 1) its).flatten:=by
   rw [y1k,y1w,List.append_assoc]
  rw [<- e2,<- z32 its k (acc ++ its),<- e,y1k,List.foldl_cons]
section
variable {X:Cx} {pins:List (Addr × Obj)} {σ:St} {H:Hp} {s:y04} {l b:Addr} {xs ys zs:List V}
theorem Inv.lset {its its':List Value} {n:Nat} {f:Array Value -> Array Value} {t':Nat} (I:Inv X pins σ H s) (hH:H l = some (.lst xs))
  (e:s.heap.get? l = some { cls:=.type "list",data:=.seq its.toArray n }) (hf:f its.toArray = its'.toArray) (hv:Vals ys its') (hz:ys.length <= y0j) :
  Inv X pins σ (upd H l (.lst ys)) { s with heap:=s.heap.update l (Obj.mapSeq f),toks:=t' }:=by
 have q:=PySem.IsL.update e f
 rw [hf] at q
 refine I.write (x:=l) (e:=l) (by rw [hH]; exact trivial) (.inl rfl) (fun b' u hb hu=>(Heap.get?_update_other s.heap (Obj.mapSeq f) (Ne.symm hb)).trans hu) ⟨_,q⟩ ?_
 exact ⟨hz,its',_,hv,q⟩
theorem Inv.lnew {its:List Value} {t':Nat} (I:Inv X pins σ H s) (hv:Vals ys its) (hz:ys.length <= y0j) :
  Inv X pins σ (upd H s.heap.objs.size (.lst ys)) { s with heap:=s.heap.push { cls:=.type "list",data:=.seq its.toArray },toks:=t' } :=
 I.laid (fun _ _ q=>y03 _ q) (y0o _) ⟨hz,its,0,hv,y0l _ rfl⟩
theorem Inv.fresh (I:Inv X pins σ H s):H s.heap.objs.size = none:=I.hok.fresh (y0o _)
theorem Inv.lstM (I:Inv X pins σ H s) (hH:H l = some (.lst xs)):xs.length <= y0j /\ ∃ (its:List Value) (n:Nat),Vals xs its /\ xs.length = its.length /\ s.heap.get? l = some { cls:=.type "list",data:=.seq its.toArray n }:=by
 obtain ⟨z,its,n,r,e⟩:=I.hok l _ hH
 exact ⟨z,its,n,r,r.length,e⟩
theorem z5z {n:Nat} (h:n <= y0j):Builtin.List.listTooLong n = false:=by
 unfold Builtin.List.listTooLong
 exact decide_eq_false (by omega)
end
section
variable {X:Cx}
def ze4:V -> List V -> Hp -> VK -> Prop:=fun x vs H Q=>∃ l xs y,x = .ref l /\ vs = [y] /\ H l = some (.lst xs) /\ xs.length < y0j /\ Q .non (upd H l (.lst (xs ++ [y])))
theorem zb4:MtM X "list.append" ze4:=by
 intro pins s σ H x vs v us Q I rx rv h
 obtain ⟨l,xs,y,rfl,rfl,hH,hz,q⟩:=h
 cases rx
 obtain ⟨u,rfl,ru⟩:=rv.one
 obtain ⟨z,its,n,r,hl,e⟩:=I.lstM hH
 refine call_meets F.slot_list_append ⟨_,e,rfl⟩ F.entry_list_append (F.args_list_append_2 _ _) (PySem.list_append l its.toArray n u (by rw [y0h]; omega)) ⟨e,?_⟩
 refine ⟨.non,_,I.lset (its':=its ++ [u]) hH e (by simp) (r.append (.cons ru .nil)) ?_,rfl,q⟩
 rw [y1s,List.length_singleton]
 omega
theorem z8i {α:Type} (xs:List α) (k:Nat):(y0g k xs).flatten.length = k * xs.length:=by
 induction k with
 | zero=>simp
 | succ k ih=>rw [y1k,y1w,y1s,ih,Nat.succ_mul,Nat.add_comm]
end
section
variable {prog:y0q} {w:World} {A:Around} {E:Value -> y04 -> Prop} {s:y04}
end
section
variable {X:Cx}
end
end L2
namespace Att
open PySem PySem.W PySem.Calls PyProof.Rows
theorem z4l {P:Params} {h:Heap}:∀ (ns:List Int) (vs:List Value),WellAll P h vs (ns.map WData.int) -> IntsAre vs ns:=by
 intro ns
 induction ns with
 | nil =>
  intro vs w
  rw [y14] at w
  cases w
  exact .nil
 | cons n ns ih =>
  intro vs w
  rw [y0d] at w
  cases w with
  | cons a b =>
   cases a
   exact .cons _ _ (ih _ b)
theorem zah {l:OpenLaw} {n:Nat} (hn:l.most = some n) {P:Params} {h:Heap} {args:List WData} {vals:List Value}
    (hpre:l.row.toRowW.claim.pre args = true) (hwl:WellAll P h vals args) :
    ∃ a vs ns,vals = [Value.ref a] /\ args = [WData.list (ns.map WData.int)] /\ h.get? a = some { cls:=.type "list",data:=.seq vs.toArray } /\ IntsAre vs ns /\ ns.length <= n:=by
  have hsh:WShape.hasAll [] args [.list .int] = true:=(pre_splitW hpre).1
  have hc:l.pre.holds [] { args:=args } = true:=(pre_splitW hpre).2
  obtain ⟨d,r,rfl,h1,h2⟩:=hasAllW_cons hsh
  obtain rfl:=hasAllW_nil h2
  obtain ⟨xs,rfl,h3⟩:=hasW_list h1
  obtain ⟨ns,rfl⟩:=items_int h3
  have hlen:ns.length <= n:=by
    unfold OpenLaw.pre at hc
    have h4:(WTm.not (.lt (.lit (.int (n:Int))) (.len (.arg 0)))).holds [] { args:=[.list (ns.map .int)] } = true:=by
      have h4:=(holds_andW hc).1
      rw [hn] at h4
      exact h4
    have h5:=condW_of h4 (w_not (w_lt w_lit (w_len_list (w_arg rfl))))
    rw [y12] at h5
    refine Nat.le_of_not_lt fun q=>?_
    have q':(n:Int) < ((ns.length:Nat):Int):=by omega
    first
      | (rw [decide_eq_true q'] at h5; exact absurd h5 (by decide))
      | (simp at h5; omega)
  cases hwl with
  | cons w1 w2 =>
    cases w2
    cases w1 with
    | list ho hall=>exact ⟨_,_,ns,rfl,rfl,ho,z4l ns _ hall,hlen⟩
theorem zao (l:OpenLaw) (args:List WData):l.row.toRowW.claim.post args (.bool true) args = true :=
 postW_of (r:=l.row.toRowW) (X:=(true == true))
  (show WShape.has [] (.bool true) .bool = true by first | rfl | decide | simp [WShape.has,WShape.arms,WShape.armsAll])
  (show (WTm.eq .res (.lit (.bool true))).value [] { args:=args,res:=some (.bool true),after:=args } = some (.bool (true == true)) from w_eq_bool (w_res rfl) w_lit) rfl
theorem attach_call {l:OpenLaw} {n:Nat} {q:y0q} {loose:List Str} {XP:(Str -> Option Value) -> Heap -> Prop} {YP:World -> Heap -> Prop} {d:DefRec}
  (hn:l.most = some n) (hdf:d.params.defaults = [])
  (call:∀ (w:World) (s₀ s₁:y04) (mg mb:Str -> Option Value) (fa:Addr) (o:Obj) (pm cd doc:Value) (a:Addr) (vs:List Value) (ns:List Int),
   Ground q loose [] XP w s₀ mg mb s₁.heap -> YP w s₁.heap ->
   s₁.heap.get? fa = some o -> o.data = .func (docDef d.name d.params d.body d.scope pm cd doc) -> s₁.heap.CodeRec cd d.name -> mg d.name = some (.ref fa) ->
   s₁.heap.get? a = some { cls:=.type "list",data:=.seq vs.toArray } -> IntsAre vs ns -> ns.length <= n -> s₁.gens = #[] ->
   codeAny (model l.prog w) callerA (.call (.ref fa) ⟨[.ref a],[]⟩) (fun r s'=>r = .ok (.ret (.bool true)) /\ OldK s₁.heap s'.heap /\ s'.os = s₁.os /\ AllBare s'.gens) s₁) :
  WalkO q loose XP YP l.row.toRowW d [] (fun f vs=>PySem.call f vs):=by
 intro w s₀ s₁ mg mb G Y fa o pm cd doc dV kV ho hd hcd hD hmg hg args vals as hpre hlay hrd hwl hlo
 obtain rfl:dV = .none:=Dflts.none hD hdf
 obtain rfl:kV = .none:=Dflts.noKw hD
 obtain ⟨a,vs,ns,rfl,rfl,hobj,hints,hlen⟩:=zah hn hpre hwl
 refine enter_call (codeAny_mono (call w s₀ s₁ mg mb fa o pm cd doc a vs ns G Y ho (fd_plain hd) hcd hmg hobj hints hlen hg) fun r s' hq=>?_)
 obtain ⟨rfl,h2,h3,h4⟩:=hq
 exact ⟨.inl ⟨.bool true,.bool true,[],rfl,fun _=>rfl,.bool true,zao l _,fun _=>⟨List.Pairwise.nil,fun _ hm=>(nomatch hm)⟩⟩,h2,h3,h4⟩
section
variable {prog:y0q} {w:World} {A:Around} {E:Value -> y04 -> Prop} {s:y04} {K:Frag}
end
end Att
namespace L2
open PySem PySem.Spec PyProof.Rows
theorem z6l:∀ {vs:List Value} {ns:List Int},IntsAre vs ns -> Vals (ns.map V.int) vs
 | _,_,.nil=>.nil
 | _,_,.cons n t h=>.cons ⟨t,rfl⟩ (z6l h)
def Only (H:Hp):Prop:=∀ b,H b = none \/ ∃ o xs,H b = some (.frz o (.lst xs))
theorem zcy {P:y0q} {w:World} {K:y00} {mg mb:Str -> Option Value} {CX:CXT} {k:Nat} {fa a:Addr} {fd:y0b} {x:Str} {sp:Sp} {s₁:y04} {vs:List Value} {ns:List Int}
  (KX:K.In s₁.heap) (hns:s₁.heap.Ns y0n mg) (hb:s₁.heap.Ns builtinsNs mb) (hbb:∀ x:Str,x ≠ "__name__" -> mb x = bootBuiltins x) (hlim:s₁.heap.NoLimit) (hg:s₁.gens = #[])
  (ha:s₁.heap.get? a = some { cls:=.type "list",data:=.seq vs.toArray }) (hi:IntsAre vs ns) (hl:ns.length <= y0j) (hr:Room k callerA)
  (F:∀ base:Heap,K.In base -> base.Ns y0n mg -> FnOk P w K mg base CX k fa fd [x] sp) (hbind:∀ (s:y04) (u:Value),BindsTo s fd ⟨[u],[]⟩ [(x,u)])
  (hsp:∀ H:Hp,Only H -> SqL K H a (ns.map V.int) -> sp [.ref a] H (fun v _=>v = .bl true) fun _ _ _=>False)
  (hCX:∀ H e s',CX [] H s₁ (fun _ _ _=>False) e s' -> False) :
  codeAny (model P w) callerA (.call (.ref fa) ⟨[.ref a],[]⟩) (fun r s'=>r = .ok (.ret (.bool true)) /\ OldK s₁.heap s'.heap /\ s'.os = s₁.os /\ AllBare s'.gens) s₁:=by
 have rv:=z6l hi
 have lenV:=hi.length
 have core:∀ H:Hp,Only H -> SqL K H a (ns.map V.int) -> HOk P w H s₁.heap -> (∀ b,H b ≠ none -> b = a) -> (H a ≠ none -> K.lookup a = none) ->
   codeAny (model P w) callerA (.call (.ref fa) ⟨[.ref a],[]⟩) (fun r s'=>r = .ok (.ret (.bool true)) /\ OldK s₁.heap s'.heap /\ s'.os = s₁.os /\ AllBare s'.gens) s₁:=by
  intro H hO hS hok hA hK
  have base_of:∀ {b:Addr} {o:Obj},s₁.heap.get? b = some o -> H b = none -> (hidT s₁.heap H).get? b = some o:=fun e n=>zd1 e n
  have noA:∀ {b:Addr} {o:Obj} {es:Array DictEntry} {ep:Nat},s₁.heap.get? b = some o -> o.data = .dict es ep -> H b = none:=fun {b o es ep} e d=>by
   cases q:H b with
   | none=>rfl
   | some u =>
    have e':b = a:=hA b (by rw [q]; simp)
    subst e'
    rw [ha] at e; cases e
    have d':Data.seq vs.toArray _ = Data.dict es ep:=d
    cases d'
  have nsK:∀ {b:Addr} {m:Str -> Option Value},s₁.heap.Ns b m -> (hidT s₁.heap H).Ns b m:=fun {b m} ⟨o,es,ep,e,d,r⟩=>⟨o,es,ep,base_of e (noA e d),d,r⟩
  have hKb:K.In (hidT s₁.heap H):=fun b o e=>base_of (KX b o e) (by
   cases q:H b with
   | none=>rfl
   | some u =>
    have e':b = a:=hA b (by rw [q]; simp)
    subst e'
    rw [hK (by rw [q]; simp)] at e; cases e)
  have hM:Mod K mg (hidT s₁.heap H):=⟨hKb,nsK hns,⟨mb,nsK hb,hbb⟩,let ⟨mc,h1,h2⟩:=hlim; ⟨mc,nsK h1,h2⟩⟩
  have e0:Env0 P w K mg (hidT s₁.heap H) callerA [] s₁ H:=⟨rfl,hM,fun b o e=>zer e,Nat.le_of_eq (zbe _ _),trivial,fun b hb=>absurd (show b ∈ ([]:List Addr) from hb) (by simp),hok,.of_eq hg⟩
  refine codeAny_mono ((F _ hKb (nsK hns)).run callerA [] s₁ H ⟨[.ref a],[]⟩ [.ref a] [.ref a] _ _ hr e0 (hbind s₁ (.ref a)) (.cons rfl .nil) (hsp H hO hS)) fun r s' h=>?_
  cases r with
  | error e=>exact (hCX H e s' h).elim
  | ok fl =>
   cases fl with
   | next=>exact y1o h
   | brk=>exact y1o h
   | cont=>exact y1o h
   | ret u =>
    obtain ⟨v,H',os,bare,un,hok',r',q⟩:=h
    have q':v = .bl true:=q
    subst q'
    obtain rfl:u = Value.bool true:=r'
    refine ⟨rfl,OldK.of_keep fun b o e=>?_,os,bare⟩
    cases q:H b with
    | none=>exact un.keep b o e q (by intro z; exact absurd (show b ∈ ([]:List Addr) from z) (by simp)) (by simp)
    | some u =>
     rcases hO b with z | ⟨ob,xs,z⟩
     ·rw [q] at z; cases z
     ·have z2:=un.frzs b ob _ z
      obtain ⟨e1,_⟩:=hok b _ z
      obtain ⟨e2,_⟩:=hok' b _ z2
      rw [e] at e1; cases e1
      exact e2
 cases hk:K.lookup a with
 | some o =>
  have e:=KX a o hk
  rw [ha] at e
  cases e
  refine core (fun _=>none) (fun _=>.inl rfl) (.inr ⟨_,vs.toArray,_,hk,rfl,rfl,rfl,by rw [y0h,lenV]; exact hl,by simpa using rv⟩) (fun b u z=>by have z':(none:Option HO) = some u:=z; cases z') (fun b z=>absurd rfl z) fun z=>absurd rfl z
 | none =>
  refine core (fun b=>if b = a then some (.frz { cls:=.type "list",data:=.seq vs.toArray } (.lst (ns.map V.int))) else none) (fun b=>?_) (.inl (.inr ⟨{ cls:=.type "list",data:=.seq vs.toArray },if_pos rfl⟩)) (fun b u z=>?_) (fun b z=>?_) fun _=>hk
  ·by_cases hb:b = a
   ·exact .inr ⟨_,_,if_pos hb⟩
   ·exact .inl (if_neg hb)
  ·by_cases hb:b = a
   ·have z':=(if_pos hb).symm.trans z
    cases z'
    subst hb
    exact ⟨ha,by rw [y12]; exact hl,vs,_,rv,ha⟩
   ·have z':=(if_neg hb).symm.trans z
    cases z'
  ·by_cases hb:b = a
   ·exact hb
   ·exact absurd (if_neg hb) z
end L2
namespace L2
open PySem PySem.Spec PyProof.Rows
theorem walk_of {l:PySem.W.OpenLaw} {n k:Nat} {q:y0q} {loose:List Str} {XP:(Str -> Option Value) -> Heap -> Prop} {YP:World -> Heap -> Prop} {d:DefRec} {K:Params -> y00} {CX:World -> CXT} {sp:World -> Sp} {x:Str}
  (hn:l.most = some n) (hn2:n <= y0j) (hdf:d.params.defaults = []) (hr:Room k callerA)
  (hY:∀ (w:World) (h:Heap),YP w h -> (K w.params).In h)
  (F:∀ (w:World) (mg:Str -> Option Value) (fa:Addr) (h:Heap),(K w.params).In h -> h.Ns y0n mg -> mg d.name = some (.ref fa) ->
   ∃ fd:y0b,(∀ (s:y04) (u:Value),BindsTo s fd ⟨[u],[]⟩ [(x,u)]) /\
    ∀ base:Heap,(K w.params).In base -> base.Ns y0n mg -> FnOk l.prog w (K w.params) mg base (CX w) k fa fd [x] (sp w))
  (hsp:∀ (w:World) (H:Hp) (a:Addr) (ns:List Int),ns.length <= n -> Only H -> SqL (K w.params) H a (ns.map V.int) -> sp w [.ref a] H (fun v _=>v = .bl true) fun _ _ _=>False)
  (hCX:∀ (w:World) (H:Hp) (s:y04) (e:Value) (s':y04),CX w [] H s (fun _ _ _=>False) e s' -> False) :
  PySem.W.WalkO q loose XP YP l.row.toRowW d [] (fun f vs=>PySem.call f vs):=by
 refine Att.attach_call hn hdf fun w s₀ s₁ mg mb fa o pm cd doc a vs ns G Y ho hd hcd hmg hobj hints hlen hg=>?_
 have KX:=hY w _ Y
 obtain ⟨fd,hb,hF⟩:=F w mg fa _ KX G.T.g hmg
 exact zcy KX G.T.g G.T.b G.T.builtins G.T.nolimit hg hobj hints (y1i hlen hn2) hr hF hb (fun H hO hS=>hsp w H a ns hlen hO hS) fun H e s'=>hCX w H s₁ e s'
end L2
namespace L2
open PySem PySem.Spec PyProof.Rows
def z0u (s:Stmt):Arguments:=match s with
 | .FunctionDef _ a _ _ _ _ _ _ _ _=>a
 | _=>{ posonlyargs:=[],args:=[],vararg:=none,kwonlyargs:=[],kw_defaults:=[],kwarg:=none,defaults:=[] }
def z0j (s:Stmt):List Stmt:=match s with
 | .FunctionDef _ _ b _ _ _ _ _ _ _=>b
 | _=>[]
def z02 (s:Stmt):Scope:=match s with
 | .FunctionDef _ _ _ _ _ _ sc _ _ _=>sc
 | _=>{ kind:=.function,names:=[],isGenerator:=false,isCoroutine:=false }
abbrev CX0:CXT:=fun _ _ _ _ _ _=>False
abbrev E0:XK:=fun _ _ _=>False
theorem zi1 {X:Cx}:zc6 CX0 X E0:=fun _ _ _ _ _ _ _ h=>h.elim
structure Fun (K:y00) (x qual:Str) (st:Stmt) (f:Addr) (fd:y0b):Prop where
 ex:∃ (oc:Value) (od:Option Addr) (kV doc pm:Value) (an:Option Addr) (cdv ct:Value) (osl:Array (Option Value)),
  fd = y0i x qual (z0u st) (z0j st) (z02 st) .none kV doc pm an cdv ct /\ K.lookup f = some ⟨oc,od,.func fd,osl⟩ /\ y0f K cdv qual = true
 kp:y08 K (.ref f) = true
section
variable {P:y0q} {w:World} {K:y00} {mg:Str -> Option Value} {base:Heap}
theorem Fun.ok {x qual:Str} {st:Stmt} {f:Addr} {fd:y0b} {N ps:List Str} {k:Nat} {sp:Sp} (F:Fun K x qual st f fd) (S:FnScope N ps (z02 st)) (len:∀ vs H Q E,sp vs H Q E -> vs.length = ps.length)
  (hbody:∀ (cdv:Value) (A:Around) (outer:List Env) (s:y04) (H:Hp) (vs:List V) (Q:VK) (E:XK),Room k (A.deeper (envOfC qual (z02 st) s.heap.objs.size f cdv)) -> sp vs H Q E ->
   ∃ t,PSs (cxOf CX0 P w K mg base N qual (z02 st) f cdv A outer s H E).nox (z0j st) t /\ t { nx:=fun _ H'=>Q .non H',rt:=Q } (start N vs) H):FnOk P w K mg base CX0 (k + 1) f fd ps sp:=by
 obtain ⟨oc,od,kV,doc,pm,an,cdv,ct,osl,rfl,lk,hcd⟩:=F.ex
 refine zi8 lk hcd S len fun A outer s H vs Q E hr hsp=>?_
 obtain ⟨t,h,q⟩:=hbody cdv A outer s H vs Q E hr hsp
 exact ⟨t,h.nox,q⟩
theorem Fun.binds {x qual:Str} {st:Stmt} {f:Addr} {fd:y0b} {ps:List Str} (F:Fun K x qual st f fd)
  (h:∀ (kV doc pm:Value) (an:Option Addr) (cdv ct:Value) (us:List Value),us.length = ps.length -> bindArgs (y0i x qual (z0u st) (z0j st) (z02 st) .none kV doc pm an cdv ct) ⟨us,[]⟩ = pure (ps.zip us)):z1y K fd ps []:=by
 obtain ⟨oc,od,kV,doc,pm,an,cdv,ct,osl,rfl,lk,hcd⟩:=F.ex
 exact .all (h kV doc pm an cdv ct)
theorem z2j {x qual:Str} {st:Stmt} {f:Addr} {oc:Value} {od an:Option Addr} {osl:Array (Option Value)} {kV doc pm cdv ct:Value} (l:K.lookup f = some ⟨oc,od,.func (y0i x qual (z0u st) (z0j st) (z02 st) .none kV doc pm an cdv ct),osl⟩)
  (c:y0f K cdv qual = true) (k:y08 K (.ref f) = true):Fun K x qual st f (y0i x qual (z0u st) (z0j st) (z02 st) .none kV doc pm an cdv ct):=⟨⟨oc,od,kV,doc,pm,an,cdv,ct,osl,rfl,l,c⟩,k⟩
end
section
variable {X:Cx}
theorem pv (i:Nat) {x:Str} {pos:Pos} (hN:X.N[i]? = some x:=by rfl) (hv:Vis X.env.scope x:=by first | exact Or.inl rfl | exact Or.inr (Or.inl rfl) | exact Or.inr (Or.inr rfl)) (hd:(x == ("__debug__":Str)) = false:=by decide)
  (hcd:(x == ("__classdict__":Str)) = false:=by decide):PE X (.Name x pos) (tVar i):=zg8 hN hv hd hcd
end
theorem iteF {A B:Prop} (h:B):if false = true then A else B:=by
 rw [if_neg y1t]
 exact h
theorem iteT {A B:Prop} (h:A):if true = true then A else B:=by
 rw [if_pos rfl]
 exact h
def Same (H H':Hp):Prop:=∀ b o,H b = some o -> H' b = some o
end L2
end
section
namespace D
open PySem
abbrev T:=PyData
def okT (a:T):Bool:=a.canLay0 && decide (a.depth <= 60)
def okL (as:List T):Bool:=y1b as && decide (y19 as <= 60)
abbrev Key:=Sum Int Str
inductive Md where
 | ro | own | lent
 deriving DecidableEq
inductive Sl where
 | imm (t:T) | own (ts:List T) | dic (kvs:List (Key × T)) | obj (m:Md) (c:Nat) (fs:List Sl)
abbrev Ev:=List (Option Sl)
inductive Out where
 | nx (ε:Ev) | rt (t:T) | bk (ε:Ev) | ct (ε:Ev) | rtm (t:T) (ε:Ev) | rto (s:Sl)
abbrev Fe:=Ev -> Option T
abbrev Ft:=Ev -> Option Bool
abbrev Fs:=Ev -> Option Out
abbrev Fi:=Ev -> Option (List T)
abbrev Fg:=T -> Ev -> Option Ev
def big:Nat:=16777216
def oAdd:T -> T -> Option T
 | .int i,.int j=>some (.int (i + j))
 | .str x,.str y=>if x.length + y.length <= big then some (.str (x ++ y)) else none
 | .tuple xs,.tuple ys=>if xs.length + ys.length <= big then some (.tuple (xs ++ ys)) else none
 | .list xs,.list ys=>if xs.length + ys.length <= big then some (.list (xs ++ ys)) else none
 | _,_=>none
def oSub:T -> T -> Option T
 | .int i,.int j=>some (.int (i - j))
 | _,_=>none
def z9r (i j:Int):Bool:=(decide (-(2 ^ 64) < i) && decide (i < 2 ^ 64)) || (decide (-(2 ^ 64) < j) && decide (j < 2 ^ 64))
def oMul:T -> T -> Option T
 | .int i,.int j=>if z9r i j then some (.int (i * j)) else none
 | _,_=>none
def oDiv:T -> T -> Option T
 | .int i,.int j=>if 0 < j /\ j < 1073741824 then some (.int (i / j)) else none
 | _,_=>none
def oMod:T -> T -> Option T
 | .int i,.int j=>if 0 < j then some (.int (i % j)) else none
 | _,_=>none
def oNeg:T -> Option T
 | .int i=>some (.int (-i))
 | _=>none
def ixOf (n:Nat) (i:Int):Option Nat:=if 0 <= i then (if i < n then some i.toNat else none) else if -(n:Int) <= i then some (i + n).toNat else none
def atZ {α:Type} (xs:List α) (i:Int):Option α:=(ixOf xs.length i).bind fun j=>xs[j]?
def oIx:T -> T -> Option T
 | .tuple xs,.int i=>atZ xs i
 | .list xs,.int i=>atZ xs i
 | .str x,.int i=>if x.length <= big then (atZ x.cps.toList i).map fun c=>.str ⟨#[c]⟩ else none
 | _,_=>none
def oEq (a b:T):Option T:=if okT a && okT b then some (.bool (y1r a b)) else none
def oNe (a b:T):Option T:=if okT a && okT b then some (.bool (!PyData.eqv a b)) else none
def oIsN (a:T):Option T:=some (.bool (match a with | .none=>true | _=>false))
def z10 (a:T):Option T:=some (.bool (match a with | .none=>false | _=>true))
def z9b (x y:Str):Bool:=decide (x.cps.toList < y.cps.toList)
def oLt:T -> T -> Option T
 | .int i,.int j=>some (.bool (decide (i < j)))
 | .str x,.str y=>some (.bool (z9b x y))
 | _,_=>none
def oLe:T -> T -> Option T
 | .int i,.int j=>some (.bool (decide (i <= j)))
 | .str x,.str y=>some (.bool (!z9b y x))
 | _,_=>none
def oGt:T -> T -> Option T
 | .int i,.int j=>some (.bool (decide (j < i)))
 | .str x,.str y=>some (.bool (z9b y x))
 | _,_=>none
def oGe:T -> T -> Option T
 | .int i,.int j=>some (.bool (decide (j <= i)))
 | .str x,.str y=>some (.bool (!z9b x y))
 | _,_=>none
def hasT (x:T) (ts:List T):Bool:=ts.any fun y=>y1r y x
def oIn (neg:Bool):T -> T -> Option T
 | x,.tuple ys=>if okT x && okL ys then some (.bool (if neg then !hasT x ys else hasT x ys)) else none
 | x,.list ys=>if okT x && okL ys then some (.bool (if neg then !hasT x ys else hasT x ys)) else none
 | _,_=>none
def oLen:List T -> Option T
 | [.tuple xs]=>some (.int xs.length)
 | [.list xs]=>some (.int xs.length)
 | [.str x]=>if x.length <= big then some (.int x.length) else none
 | _=>none
def oMin:List T -> Option T
 | [.int i,.int j]=>some (.int (if j < i then j else i))
 | _=>none
def oMax:List T -> Option T
 | [.int i,.int j]=>some (.int (if j > i then j else i))
 | _=>none
def z12:List T -> Option T
 | [.tuple xs]=>some (.tuple xs)
 | [.list xs]=>some (.tuple xs)
 | _=>none
def zcr:List T -> Option T
 | [.tuple xs]=>some (.list xs)
 | [.list xs]=>some (.list xs)
 | _=>none
def oInt:List T -> Option T
 | [.int i]=>some (.int i)
 | [.bool b]=>some (.int (if b then 1 else 0))
 | _=>none
def sIx (n d:Nat):Option Int -> Nat
 | none=>d
 | some v=>(if v < 0 then max (v + n) 0 else min v n).toNat
def cutZ {α:Type} (xs:List α) (lo hi:Option Int):List α:=(xs.drop (sIx xs.length 0 lo)).take (sIx xs.length xs.length hi - sIx xs.length 0 lo)
def oSl (t:T) (lo hi:Option Int):Option T:=match t with
 | .tuple xs=>some (.tuple (cutZ xs lo hi))
 | .list xs=>some (.list (cutZ xs lo hi))
 | _=>none
def z4m:List T -> Option (List Int)
 | []=>some []
 | .int i :: ts=>(z4m ts).map fun r=>i :: r
 | _ :: _=>none
def zae:List T -> Option (List Str)
 | []=>some []
 | .str x :: ts=>(zae ts).map fun r=>x :: r
 | _ :: _=>none
def insS (x:Str):List Str -> List Str
 | []=>[x]
 | y :: ys=>if !z9b y x then x :: y :: ys else y :: insS x ys
def ze1:List Str -> List Str
 | []=>[]
 | x :: xs=>insS x (ze1 xs)
def zba:T -> Option Key
 | .int i=>some (.inl i)
 | .str x=>some (.inr x)
 | _=>none
def putD (kvs:List (Key × T)) (k:Key) (v:T):List (Key × T):=if kvs.any (fun p=>decide (p.1 = k)) then kvs.map fun p=>if p.1 = k then (k,v) else p else kvs ++ [(k,v)]
def getD (kvs:List (Key × T)) (k:Key):Option T:=(kvs.find? fun p=>decide (p.1 = k)).map (·.2)
def cst (t:T):Fe:=fun _=>some t
def nm (i:Nat):Fe:=fun ε=>match ε[i]? with
 | some (some (.imm t))=>some t
 | some (some (.own ts))=>some (.list ts)
 | _=>none
def nmV (i:Nat):Fe:=fun ε=>match ε[i]? with
 | some (some (.imm t))=>some t
 | _=>none
def op1 (o:T -> Option T) (f:Fe):Fe:=fun ε=>(f ε).bind o
def op2 (o:T -> T -> Option T) (f g:Fe):Fe:=fun ε=>(f ε).bind fun x=>(g ε).bind fun y=>o x y
def args:List Fe -> Ev -> Option (List T)
 | [],_=>some []
 | f :: fs,ε=>(f ε).bind fun t=>(args fs ε).map fun ts=>t :: ts
def opN (o:List T -> Option T) (fs:List Fe):Fe:=fun ε=>(args fs ε).bind o
def z01 (fs:List Fe):Fe:=fun ε=>(args fs ε).bind fun ts=>if ts.length <= big then some (.tuple ts) else none
def z0n (fs:List Fe):Fe:=fun ε=>(args fs ε).bind fun ts=>if ts.length <= big then some (.list ts) else none
def opt (f:Fe):Ev -> Option (Option Int):=fun ε=>(f ε).bind fun t=>match t with | .int i=>some (some i) | _=>none
def optN:Ev -> Option (Option Int):=fun _=>some none
def slice (f:Fe) (lo hi:Ev -> Option (Option Int)):Fe:=fun ε=>(f ε).bind fun t=>(lo ε).bind fun l=>(hi ε).bind fun h=>oSl t l h
def andV (f g:Fe):Fe:=fun ε=>(f ε).bind fun t=>match t with | .bool true=>g ε | .bool false=>some (.bool false) | _=>none
def orV (f g:Fe):Fe:=fun ε=>(f ε).bind fun t=>match t with | .bool false=>g ε | .bool true=>some (.bool true) | _=>none
def zid (o p:T -> T -> Option T) (f g h:Fe):Fe:=fun ε=>(f ε).bind fun x=>(g ε).bind fun y=>(o x y).bind fun r=>match r with
 | .bool true=>(h ε).bind fun z=>p y z
 | .bool false=>some (.bool false)
 | _=>none
def tstB (f:Fe):Ft:=fun ε=>(f ε).bind fun t=>match t with | .bool b=>some b | _=>none
def tstL (f:Fe):Ft:=fun ε=>(f ε).bind fun t=>match t with | .list ts=>some (!ts.isEmpty) | .tuple ts=>some (!ts.isEmpty) | _=>none
def andT (f g:Ft):Ft:=fun ε=>(f ε).bind fun b=>if b then g ε else some false
def orT (f g:Ft):Ft:=fun ε=>(f ε).bind fun b=>if b then some true else g ε
def notT (f:Ft):Ft:=fun ε=>(f ε).map fun b=>!b
def ifE (c:Ft) (f g:Fe):Fe:=fun ε=>(c ε).bind fun b=>if b then f ε else g ε
def cstT (b:Bool):Ft:=fun _=>some b
def ofT (c:Ft):Fe:=fun ε=>(c ε).map .bool
def z06 (f:Fe):Fi:=fun ε=>(f ε).bind fun t=>match t with | .tuple ts=>some ts | .list ts=>some ts | _=>none
def z4k (f:Fe):Fi:=fun ε=>(f ε).bind fun t=>match t with | .tuple ts=>some ts | _=>none
def rng (lo hi:Int):List T:=(List.range (hi - lo).toNat).map fun (k:Nat)=>.int (lo + (k:Int))
def z4a (i:Int):Bool:=decide (-(2 ^ 62) <= i) && decide (i < 2 ^ 62)
def z23 (f:Fe):Fi:=fun ε=>(f ε).bind fun t=>match t with | .int j=>if z4a j then some (rng 0 j) else none | _=>none
def enum (ts:List T):List T:=ts.zipIdx.map fun p=>.tuple [.int p.2,p.1]
def z2i (f:Fi):Fi:=fun ε=>(f ε).map enum
def gNm (i:Nat):Fg:=fun t ε=>some (ε.set i (some (.imm t)))
def gAll:List Fg -> List T -> Ev -> Option Ev
 | [],[],ε=>some ε
 | g :: gs,t :: ts,ε=>(g t ε).bind fun ε'=>gAll gs ts ε'
 | _,_,_=>none
def gTu (gs:List Fg):Fg:=fun t ε=>match t with | .tuple ts=>gAll gs ts ε | _=>none
def z2r (g:Fg) (c:Ft) (e:Fe):List T -> Ev -> Option (List T)
 | [],_=>some []
 | t :: ts,ε=>(g t ε).bind fun ε1=>(c ε1).bind fun b=>if b then (e ε1).bind fun y=>(z2r g c e ts ε1).map fun ys=>y :: ys else z2r g c e ts ε1
def z0o (own:Nat) (caps:List Nat) (ε:Ev):Ev:=y0g own none ++ caps.map fun i=>(ε[i]?).join
def comp (own:Nat) (caps:List Nat) (it:Fi) (g:Fg) (c:Ft) (e:Fe):Fe:=fun ε=>(it ε).bind fun ts=>if ts.length <= big then (z2r g c e ts (z0o own caps ε)).map .list else none
def skip:Fs:=fun ε=>some (.nx ε)
def seq (a b:Fs):Fs:=fun ε=>(a ε).bind fun o=>match o with | .nx ε'=>b ε' | o=>some o
def asg (i:Nat) (f:Fe):Fs:=fun ε=>(f ε).map fun t=>.nx (ε.set i (some (.imm t)))
def asgN (i:Nat) (f:Fe):Fs:=fun ε=>(f ε).bind fun t=>match t with | .list ts=>some (.nx (ε.set i (some (.own ts)))) | _=>none
def asgT (g:Fg) (f:Fe):Fs:=fun ε=>(f ε).bind fun t=>(g t ε).map .nx
def rtn (f:Fe):Fs:=fun ε=>(f ε).map .rt
def iff (c:Ft) (a b:Fs):Fs:=fun ε=>(c ε).bind fun x=>if x then a ε else b ε
def brk:Fs:=fun ε=>some (.bk ε)
def forL (g:Fg) (b:Fs):List T -> Ev -> Option Out
 | [],ε=>some (.nx ε)
 | t :: ts,ε=>(g t ε).bind fun ε1=>(b ε1).bind fun o=>match o with
  | .nx ε2=>forL g b ts ε2
  | .ct ε2=>forL g b ts ε2
  | .bk ε2=>some (.nx ε2)
  | .rt t=>some (.rt t)
  | .rtm t ε2=>some (.rtm t ε2)
  | .rto s=>some (.rto s)
def for_ (it:Fi) (g:Fg) (b:Fs):Fs:=fun ε=>(it ε).bind fun ts=>forL g b ts ε
def ext (i:Nat) (f:Fe):Fs:=fun ε=>match ε[i]? with
 | some (some (.own ts))=>(f ε).bind fun t=>match t with
  | .list us=>if ts.length + us.length <= big then some (.nx (ε.set i (some (.own (ts ++ us))))) else none
  | _=>none
 | _=>none
def par (i j:Nat) (own:Bool) (f g:Fe):Fs:=fun ε=>(f ε).bind fun t=>(g ε).bind fun u=>if own then (match u with | .list us=>some (.nx ((ε.set i (some (.imm t))).set j (some (.own us)))) | _=>none) else some (.nx ((ε.set i (some (.imm t))).set j (some (.imm u))))
def runF (b:Fs) (n:Nat) (as:List T):Option T:=(b ((as.map fun t=>some (.imm t)) ++ y0g (n - as.length) none)).bind fun o=>match o with
 | .rt t=>some t
 | .nx _=>some .none
 | _=>none
end D
end
section
namespace D
open PySem PySem.Spec PyProof.Rows L2
mutual
def Rep (K:y00) (F:Addr -> Prop) (H:Hp):T -> V -> Prop
 | .none,v=>v = .non
 | .bool b,v=>v = .bl b
 | .int i,v=>v = .int i
 | .str x,v=>v = .str x
 | .dict _,_=>False
 | .tuple ts,v=>∃ a vs,v = .ref a /\ SqT K H a vs /\ RepL K F H ts vs
 | .list ts,v=>∃ a vs,v = .ref a /\ F a /\ Rd H a (.lst vs) /\ RepL K F H ts vs
def RepL (K:y00) (F:Addr -> Prop) (H:Hp):List T -> List V -> Prop
 | [],vs=>vs = []
 | t :: ts,vs=>∃ v r,vs = v :: r /\ Rep K F H t v /\ RepL K F H ts r
end
section
variable {K:y00} {F F':Addr -> Prop} {H H':Hp}
mutual
theorem Rep.keep (h1:∀ b xs,SqT K H b xs -> SqT K H' b xs) (h2:∀ b xs,F b -> Rd H b (.lst xs) -> F' b /\ Rd H' b (.lst xs)):∀ {t:T} {v:V},Rep K F H t v -> Rep K F' H' t v
 | .none,v,h=>by simpa [Rep] using h
 | .bool _,v,h=>by simpa [Rep] using h
 | .dict _,v,h=>by simp [Rep] at h
 | .int _,v,h=>by simpa [Rep] using h
 | .str _,v,h=>by simpa [Rep] using h
 | .tuple ts,v,h=>by
  simp only [Rep] at h ⊢
  obtain ⟨a,vs,e,q,r⟩:=h
  exact ⟨a,vs,e,h1 _ _ q,RepL.keep h1 h2 r⟩
 | .list ts,v,h=>by
  simp only [Rep] at h ⊢
  obtain ⟨a,vs,e,f,q,r⟩:=h
  exact ⟨a,vs,e,(h2 _ _ f q).1,(h2 _ _ f q).2,RepL.keep h1 h2 r⟩
theorem RepL.keep (h1:∀ b xs,SqT K H b xs -> SqT K H' b xs) (h2:∀ b xs,F b -> Rd H b (.lst xs) -> F' b /\ Rd H' b (.lst xs)):∀ {ts:List T} {vs:List V},RepL K F H ts vs -> RepL K F' H' ts vs
 | [],vs,h=>by simpa [RepL] using h
 | t :: ts,vs,h=>by
  simp only [RepL] at h ⊢
  obtain ⟨v,r,e,q,z⟩:=h
  exact ⟨v,r,e,Rep.keep h1 h2 q,RepL.keep h1 h2 z⟩
end
theorem RepL.nil:RepL K F H [] []:=by simp [RepL]
theorem RepL.cons {t:T} {v:V} {ts:List T} {vs:List V} (h:Rep K F H t v) (r:RepL K F H ts vs):RepL K F H (t :: ts) (v :: vs):=by
 simp only [RepL]
 exact ⟨v,vs,rfl,h,r⟩
theorem RepL.length:∀ {ts:List T} {vs:List V},RepL K F H ts vs -> ts.length = vs.length
 | [],vs,h=>by
  simp only [RepL] at h
  subst h
  rfl
 | t :: ts,vs,h=>by
  simp only [RepL] at h
  obtain ⟨v,r,e,q,z⟩:=h
  subst e
  simp [RepL.length z]
theorem RepL.get:∀ {ts:List T} {vs:List V} {i:Nat} {t:T},RepL K F H ts vs -> ts[i]? = some t -> ∃ v,vs[i]? = some v /\ Rep K F H t v
 | [],vs,i,t,h,e=>by simp at e
 | x :: ts,vs,0,t,h,e=>by
  simp only [RepL] at h
  obtain ⟨v,r,rfl,q,z⟩:=h
  simp at e
  subst e
  exact ⟨v,rfl,q⟩
 | x :: ts,vs,i + 1,t,h,e=>by
  simp only [RepL] at h
  obtain ⟨v,r,rfl,q,z⟩:=h
  obtain ⟨u,h1,h2⟩:=RepL.get (i:=i) (t:=t) z (by simpa using e)
  exact ⟨u,by simpa using h1,h2⟩
theorem RepL.append:∀ {ts us:List T} {vs ws:List V},RepL K F H ts vs -> RepL K F H us ws -> RepL K F H (ts ++ us) (vs ++ ws)
 | [],us,vs,ws,h,r=>by
  simp only [RepL] at h
  subst h
  exact r
 | t :: ts,us,vs,ws,h,r=>by
  simp only [RepL] at h
  obtain ⟨v,z,rfl,q,y⟩:=h
  exact RepL.cons q (RepL.append y r)
theorem RepL.take:∀ {ts:List T} {vs:List V} (n:Nat),RepL K F H ts vs -> RepL K F H (ts.take n) (vs.take n)
 | [],vs,n,h=>by
  simp only [RepL] at h
  subst h
  simpa using RepL.nil
 | t :: ts,vs,0,h=>by simpa using RepL.nil
 | t :: ts,vs,n + 1,h=>by
  simp only [RepL] at h
  obtain ⟨v,z,rfl,q,y⟩:=h
  simpa using RepL.cons q (RepL.take n y)
theorem RepL.drop:∀ {ts:List T} {vs:List V} (n:Nat),RepL K F H ts vs -> RepL K F H (ts.drop n) (vs.drop n)
 | [],vs,n,h=>by
  simp only [RepL] at h
  subst h
  simpa using RepL.nil
 | t :: ts,vs,0,h=>by simpa using h
 | t :: ts,vs,n + 1,h=>by
  simp only [RepL] at h
  obtain ⟨v,z,rfl,q,y⟩:=h
  simpa using RepL.drop n y
end
class Tbl where
 tb:List (Addr × Str)
 cn:Nat -> List Str
 ck:Nat -> Option Addr
def TbG (H:Hp) (b:Addr) (q:Str):Prop:=∃ ps:Array Value,H b = some (.tbl ps) /\ TriplesOk ps.toList /\ ∀ pos cv,codeAmong pos ps.toList = some cv -> ∃ c,cv = .ref c /\ H c = some (.ext fun h=>h.CodeRec (.ref c) q)
def TbS [t:Tbl] (H:Hp):Prop:=∀ p ∈ t.tb,TbG H p.1 p.2
theorem TbG.keep {H H':Hp} {b:Addr} {q:Str} (h:TbG H b q) (k1:∀ a ps,H a = some (.tbl ps) -> H' a = some (.tbl ps)) (k2:∀ a φ,H a = some (.ext φ) -> H' a = some (.ext φ)):TbG H' b q:=by
 obtain ⟨ps,h1,h2,h3⟩:=h
 refine ⟨ps,k1 _ _ h1,h2,fun pos cv e=>?_⟩
 obtain ⟨c,e1,e2⟩:=h3 pos cv e
 exact ⟨c,e1,k2 _ _ e2⟩
variable [Tbl]
def HoM (u:HO):Prop:=(∃ xs,u = .lst xs) \/ (∃ xs,u = .dK xs) \/ ∃ C dx fs,u = .ins C dx fs
theorem HoM.cases {P:Prop} {u:HO} (h:HoM u) (h1:∀ xs,u = .lst xs -> P) (h2:∀ xs,u = .dK xs -> P) (h3:∀ C dx fs,u = .ins C dx fs -> P):P:=by
 rcases h with ⟨xs,e⟩ | ⟨xs,e⟩ | ⟨C,dx,fs,e⟩
 ·exact h1 xs e
 ·exact h2 xs e
 ·exact h3 C dx fs e
theorem TbS.updM {H:Hp} (h:TbS H) {p:Addr} {o:HO} (hp:∀ u,H p = some u -> HoM u):TbS (upd H p o):=fun b hb =>
 (h b hb).keep (fun a ps e=>by
  have nb:a ≠ p:=by
   rintro rfl
   exact (hp _ e).cases (fun _ z=>by cases z) (fun _ z=>by cases z) (fun _ _ _ z=>by cases z)
  rw [z05 nb]; exact e) fun a φ e=>by
  have nb:a ≠ p:=by
   rintro rfl
   exact (hp _ e).cases (fun _ z=>by cases z) (fun _ z=>by cases z) (fun _ _ _ z=>by cases z)
  rw [z05 nb]; exact e
theorem TbS.upd {H:Hp} (h:TbS H) {p:Addr} {o:HO} (hp:∀ u,H p = some u -> (∃ xs,u = .lst xs) \/ ∃ xs,u = .dK xs):TbS (upd H p o):=h.updM fun u e=>by
 rcases hp u e with z | z
 ·exact .inl z
 ·exact .inr (.inl z)
theorem TbS.new {H:Hp} (h:TbS H) {p:Addr} {o:HO} (hp:H p = none):TbS (L2.upd H p o):=h.upd fun u e=>by rw [hp] at e; cases e
structure Dom (F:Addr -> Prop) (H:Hp):Prop where
 dm:∀ a,F a -> ∃ o,H a = some o
 tgs:TbS H
instance {F:Addr -> Prop} {H:Hp}:CoeFun (Dom F H) fun _=>∀ a,F a -> ∃ o,H a = some o:=⟨Dom.dm⟩
def z2g (H H':Hp):Prop:=∀ b o,H b = some o -> H' b = some o \/ ∃ ps ps',o = .tbl ps /\ H' b = some (.tbl ps')
theorem z2g.refl (H:Hp):z2g H H:=fun _ _ h=>.inl h
theorem z2g.ne {H H':Hp} (s:z2g H H') {b:Addr} {o:HO} (e:H b = some o):∃ u,H' b = some u:=by
 rcases s b o e with h | ⟨_,_,_,h⟩
 ·exact ⟨_,h⟩
 ·exact ⟨_,h⟩
theorem z2g.none {H H':Hp} (s:z2g H H') {b:Addr} (e:H' b = none):H b = none:=by
 cases z:H b with
 | none=>rfl
 | some o =>
  obtain ⟨u,q⟩:=s.ne z
  rw [e] at q
  cases q
theorem z2g.get {H H':Hp} (s:z2g H H') {b:Addr} {o:HO} (e:H b = some o) (n:∀ ps,o ≠ .tbl ps:=by intro _ z; cases z):H' b = some o:=by
 rcases s b o e with h | ⟨_,_,z,_⟩
 ·exact h
 ·exact absurd z (n _)
theorem z2g.trans {H H1 H2:Hp} (a:z2g H H1) (b:z2g H1 H2):z2g H H2:=fun c o h=>by
 rcases a c o h with q | ⟨ps,ps1,z,q⟩
 ·exact b c o q
 ·rcases b c _ q with q2 | ⟨_,ps2,z2,q2⟩
  ·exact .inr ⟨ps,ps1,z,q2⟩
  ·exact .inr ⟨ps,ps2,z,q2⟩
structure Ext (F:Addr -> Prop) (H:Hp) (F':Addr -> Prop) (H':Hp):Prop where
 same:z2g H H'
 sub:∀ a,F a -> F' a
 new:∀ a,F' a -> F a \/ H a = none
 dom:Dom F' H'
section
variable {K:y00} {F F1 F2:Addr -> Prop} {H H1 H2:Hp}
theorem Ext.refl (d:Dom F H):Ext F H F H:=⟨z2g.refl H,fun _ h=>h,fun _ h=>.inl h,d⟩
theorem Ext.trans (a:Ext F H F1 H1) (b:Ext F1 H1 F2 H2):Ext F H F2 H2 :=
 ⟨a.same.trans b.same,fun x h=>b.sub x (a.sub x h),fun x h=>(b.new x h).elim (fun z=>a.new x z) fun z=>.inr (a.same.none z),b.dom⟩
theorem Rd.same {a:Addr} {u:HO} (s:z2g H H1) (r:Rd H a u) (n:∀ ps,u ≠ .tbl ps:=by intro _ z; cases z):Rd H1 a u:=by
 rcases r with r | ⟨o,r⟩
 ·exact .inl (s.get r n)
 ·exact .inr ⟨o,s.get r⟩
theorem SqT.same {a:Addr} {xs:List V} (s:z2g H H1) (r:SqT K H a xs):SqT K H1 a xs:=by
 rcases r with r | r
 ·exact .inl (Rd.same s r)
 ·exact .inr r
theorem Rep.ext {t:T} {v:V} (r:Rep K F H t v) (x:Ext F H F1 H1):Rep K F1 H1 t v:=r.keep (fun _ _ q=>SqT.same x.same q) fun b _ f q=>⟨x.sub b f,Rd.same x.same q⟩
theorem RepL.ext {t:List T} {v:List V} (r:RepL K F H t v) (x:Ext F H F1 H1):RepL K F1 H1 t v:=r.keep (fun _ _ q=>SqT.same x.same q) fun b _ f q=>⟨x.sub b f,Rd.same x.same q⟩
theorem Ext.laid {p:Addr} {o:HO} (d:Dom F H) (hp:H p = none):Ext F H F (upd H p o) :=
 ⟨fun b u q=>.inl (same_new' hp o b u q),fun _ h=>h,fun _ h=>.inl h,⟨fun a h=>by
  obtain ⟨u,e⟩:=d a h
  exact ⟨u,same_new' hp o a u e⟩,d.tgs.new hp⟩⟩
where same_new' {H:Hp} {p:Addr} (h:H p = none) (o:HO):Same H (upd H p o):=fun b u q=>by rw [z05 (z0g q h)]; exact q
theorem Ext.laidF {p:Addr} {o:HO} (d:Dom F H) (hp:H p = none):Ext F H (fun a=>F a \/ a = p) (upd H p o) :=
 ⟨fun b u q=>.inl (Ext.laid.same_new' hp o b u q),fun _ h=>.inl h,fun a h=>by
  rcases h with h | rfl
  ·exact .inl h
  ·exact .inr hp,⟨fun a h=>by
  rcases h with h | rfl
  ·obtain ⟨u,e⟩:=d a h
   exact ⟨u,Ext.laid.same_new' hp o a u e⟩
  ·exact ⟨o,z08⟩,d.tgs.new hp⟩⟩
end
structure Kp (K:y00) (F:Addr -> Prop) (H:Hp) (F':Addr -> Prop) (H':Hp):Prop where
 tup:∀ b xs,SqT K H b xs -> SqT K H' b xs
 lst:∀ b xs,F b -> Rd H b (.lst xs) -> F' b /\ Rd H' b (.lst xs)
section
variable {K:y00} {F F1 F2:Addr -> Prop} {H H1 H2:Hp}
theorem Kp.refl:Kp K F H F H:=⟨fun _ _ h=>h,fun _ _ f h=>⟨f,h⟩⟩
theorem Kp.trans (a:Kp K F H F1 H1) (b:Kp K F1 H1 F2 H2):Kp K F H F2 H2:=⟨fun x xs h=>b.tup x xs (a.tup x xs h),fun x xs f h=>b.lst x xs (a.lst x xs f h).1 (a.lst x xs f h).2⟩
theorem Ext.kp (x:Ext F H F1 H1):Kp K F H F1 H1:=⟨fun _ _ q=>SqT.same x.same q,fun b _ f q=>⟨x.sub b f,Rd.same x.same q⟩⟩
theorem Rep.kp {t:T} {v:V} (r:Rep K F H t v) (x:Kp K F H F1 H1):Rep K F1 H1 t v:=r.keep x.tup x.lst
theorem RepL.kp {t:List T} {v:List V} (r:RepL K F H t v) (x:Kp K F H F1 H1):RepL K F1 H1 t v:=r.keep x.tup x.lst
end
def RepR (K:y00) (O F:Addr -> Prop) (H:Hp) (t:T) (v:V):Prop :=
 Rep K F H t v \/ ∃ ts a vs,t = .list ts /\ v = .ref a /\ H a = some (.lst vs) /\ RepL K F H ts vs
section
variable {K:y00} {O F F1:Addr -> Prop} {H H1:Hp} {v:V}
theorem RepR.ext {t:T} (r:RepR K O F H t v) (x:Ext F H F1 H1):RepR K O F1 H1 t v:=by
 rcases r with r | ⟨ts,a,vs,e1,e2,e4,r⟩
 ·exact .inl (r.ext x)
 ·exact .inr ⟨ts,a,vs,e1,e2,x.same.get e4,r.ext x⟩
theorem RepR.non (r:RepR K O F H .none v):v = .non:=by
 rcases r with r | ⟨ts,a,vs,e1,_⟩
 ·simpa [Rep] using r
 ·cases e1
theorem RepR.bl {b:Bool} (r:RepR K O F H (.bool b) v):v = .bl b:=by
 rcases r with r | ⟨ts,a,vs,e1,_⟩
 ·simpa [Rep] using r
 ·cases e1
theorem RepR.int {i:Int} (r:RepR K O F H (.int i) v):v = .int i:=by
 rcases r with r | ⟨ts,a,vs,e1,_⟩
 ·simpa [Rep] using r
 ·cases e1
theorem RepR.str {x:Str} (r:RepR K O F H (.str x) v):v = .str x:=by
 rcases r with r | ⟨ts,a,vs,e1,_⟩
 ·simpa [Rep] using r
 ·cases e1
theorem RepR.tup {ts:List T} (r:RepR K O F H (.tuple ts) v):∃ a vs,v = .ref a /\ SqT K H a vs /\ RepL K F H ts vs:=by
 rcases r with r | ⟨ts,a,vs,e1,_⟩
 ·simpa [Rep] using r
 ·cases e1
theorem RepR.lst {ts:List T} (r:RepR K O F H (.list ts) v):∃ a vs,v = .ref a /\ Rd H a (.lst vs) /\ RepL K F H ts vs:=by
 rcases r with r | ⟨us,a,vs,e1,e2,e4,r⟩
 ·simp only [Rep] at r
  obtain ⟨a,vs,e,_,q,z⟩:=r
  exact ⟨a,vs,e,q,z⟩
 ·cases e1
  exact ⟨a,vs,e2,.inl e4,r⟩
end
def RepD (K:y00) (F:Addr -> Prop) (H:Hp):List (D.Key × T) -> List (D.Key × V) -> Prop
 | [],vs=>vs = []
 | p :: ts,vs=>∃ v r,vs = (p.1,v) :: r /\ Rep K F H p.2 v /\ RepD K F H ts r
theorem RepD.kp {K:y00} {F F':Addr -> Prop} {H H':Hp} (x:Kp K F H F' H'):∀ {ts:List (D.Key × T)} {vs:List (D.Key × V)},RepD K F H ts vs -> RepD K F' H' ts vs
 | [],vs,h=>h
 | p :: ts,vs,h=>by
  obtain ⟨v,r,e,q,z⟩:=h
  exact ⟨v,r,e,q.kp x,RepD.kp x z⟩
structure En where
 h:Hp
 la:Addr
def rf:V -> List Addr
 | .ref a=>[a]
 | _=>[]
def fp0:Sl -> V -> List Addr
 | .imm _,_=>[]
 | _,v=>rf v
def fpF:List Sl -> List V -> List Addr
 | s :: ss,v :: vs=>fp0 s v ++ fpF ss vs
 | _,_=>[]
def z8r (H:Hp):V -> List V
 | .ref a=>(match H a with
  | some (.ins _ _ kvs)=>kvs.map (·.2)
  | some (.dK kvs)=>kvs.map (·.2)
  | _=>[])
 | _=>[]
def fpS (H:Hp):Sl -> V -> List Addr
 | .imm _,_=>[]
 | .own _,v=>rf v
 | .dic _,v=>rf v
 | .obj _ _ fs,v=>rf v ++ fpF fs (z8r H v)
def z57 (H:Hp) (a:Addr) (c:Nat) (vs:List V):Prop:=vs.length <= (Tbl.cn c).length /\ match Tbl.ck c with
 | some C=>∃ dx,H a = some (.ins C dx ((Tbl.cn c).zip vs))
 | none=>H a = some (.dK (((Tbl.cn c).zip vs).map fun p=>(.inr p.1,p.2)))
def za5 (K:y00) (F:Addr -> Prop) (H:Hp):Sl -> V -> Prop
 | .imm t,v=>Rep K F H t v
 | .own ts,v=>∃ b us,v = .ref b /\ H b = some (.lst us) /\ RepL K F H ts us
 | .dic kvs,v=>∃ b us,v = .ref b /\ H b = some (.dK us) /\ RepD K F H kvs us
 | .obj _ _ _,_=>False
def RelF (K:y00) (F:Addr -> Prop) (H:Hp):List Sl -> List V -> Prop
 | [],vs=>vs = []
 | s :: ss,vs=>∃ v r,vs = v :: r /\ za5 K F H s v /\ RelF K F H ss r
def OwnM (E:En) (O F:Addr -> Prop) (m:Md) (b:Addr):Prop:=¬ F b /\ match m with
 | .ro=>E.h b ≠ none
 | _=>O b
def z15 (K:y00) (E:En) (O F:Addr -> Prop) (H:Hp):Sl -> V -> Prop
 | .imm t,v=>Rep K F H t v
 | .own ts,v=>∃ a vs,v = .ref a /\ ¬ F a /\ O a /\ H a = some (.lst vs) /\ RepL K F H ts vs
 | .dic kvs,v=>∃ a vs,v = .ref a /\ ¬ F a /\ O a /\ H a = some (.dK vs) /\ RepD K F H kvs vs
 | .obj m c fs,v=>∃ a vs,v = .ref a /\ z57 H a c vs /\ RelF K F H fs vs /\ (a :: fpF fs vs).Nodup /\ (∀ b ∈ a :: fpF fs vs,OwnM E O F m b) /\ (m = .lent -> a = E.la)
def Sl.isOwn:Sl -> Bool
 | .imm _=>false
 | .obj .ro _ _=>false
 | _=>true
section
variable {K:y00} {F F' O O':Addr -> Prop} {H H':Hp} {E:En}
theorem z7v {α β:Type}:∀ {xs:List α} {ys:List β},ys.length <= xs.length -> (xs.zip ys).map (·.2) = ys
 | xs,[],_=>by simp
 | [],y :: ys,h=>by simp at h
 | x :: xs,y :: ys,h=>by simp [z7v (xs:=xs) (ys:=ys) (by simpa using h)]
theorem z57.vals {a:Addr} {c:Nat} {vs:List V} (h:z57 H a c vs):z8r H (.ref a) = vs:=by
 obtain ⟨hl,h⟩:=h
 unfold z8r
 split at h
 ·obtain ⟨dx,e⟩:=h
  simp only [e]
  exact z7v hl
 ·simp only [h,List.map_map]
  exact z7v hl
theorem z57.mem {a:Addr} {c:Nat} {vs:List V} (h:z57 H a c vs):∃ o,H a = some o /\ HoM o:=by
 obtain ⟨hl,h⟩:=h
 split at h
 ·obtain ⟨dx,e⟩:=h
  exact ⟨_,e,.inr (.inr ⟨_,_,_,rfl⟩)⟩
 ·exact ⟨_,h,.inr (.inl ⟨_,rfl⟩)⟩
theorem z57.keep {a:Addr} {c:Nat} {vs:List V} (h:z57 H a c vs) (e:H' a = H a):z57 H' a c vs:=by
 obtain ⟨hl,h⟩:=h
 refine ⟨hl,?_⟩
 rw [e]
 exact h
theorem z5c {v:V} {b:Addr} (h:b ∈ rf v):v = .ref b:=by
 unfold rf at h
 split at h
 ·simp at h
  rw [h]
 ·simp at h
theorem za5.at {s:Sl} {v:V} {b:Addr} (r:za5 K F H s v) (h:b ∈ fp0 s v):∃ o,H b = some o /\ HoM o:=by
 cases s with
 | imm t=>simp [fp0] at h
 | own ts =>
  obtain ⟨b',us,e,eh,_⟩:=r
  have:=z5c h
  rw [e] at this
  cases this
  exact ⟨_,eh,.inl ⟨_,rfl⟩⟩
 | dic ts =>
  obtain ⟨b',us,e,eh,_⟩:=r
  have:=z5c h
  rw [e] at this
  cases this
  exact ⟨_,eh,.inr (.inl ⟨_,rfl⟩)⟩
 | obj m c fs=>exact r.elim
theorem RelF.at:∀ {fs:List Sl} {vs:List V} {b:Addr},RelF K F H fs vs -> b ∈ fpF fs vs -> ∃ o,H b = some o /\ HoM o
 | [],vs,b,r,h=>by simp [fpF] at h
 | s :: ss,vs,b,r,h=>by
  obtain ⟨v,z,rfl,r1,r2⟩:=r
  rw [show fpF (s :: ss) (v :: z) = fp0 s v ++ fpF ss z from rfl] at h
  rcases y0z.mp h with h | h
  ·exact r1.at h
  ·exact RelF.at r2 h
theorem z4n {m:Md} {c:Nat} {fs:List Sl} {a:Addr} {vs:List V} (h:z57 H a c vs):fpS H (.obj m c fs) (.ref a) = a :: fpF fs vs:=by
 show rf (.ref a) ++ fpF fs (z8r H (.ref a)) = _
 rw [h.vals]
 rfl
theorem z15.at {s:Sl} {v:V} {b:Addr} (r:z15 K E O F H s v) (h:b ∈ fpS H s v):∃ o,H b = some o /\ HoM o:=by
 cases s with
 | imm t=>simp [fpS] at h
 | own ts =>
  obtain ⟨b',us,e,_,_,eh,_⟩:=r
  have:=z5c h
  rw [e] at this
  cases this
  exact ⟨_,eh,.inl ⟨_,rfl⟩⟩
 | dic ts =>
  obtain ⟨b',us,e,_,_,eh,_⟩:=r
  have:=z5c h
  rw [e] at this
  cases this
  exact ⟨_,eh,.inr (.inl ⟨_,rfl⟩)⟩
 | obj m c fs =>
  obtain ⟨a,vs,rfl,ha,hf,_⟩:=r
  rw [z4n ha] at h
  rcases y09.mp h with rfl | h
  ·exact ha.mem
  ·exact hf.at h
theorem z15.held {s:Sl} {v:V} {b:Addr} (r:z15 K E O F H s v) (h:b ∈ fpS H s v):¬ F b /\ (s.isOwn = true -> O b) /\ (s.isOwn = false -> E.h b ≠ none):=by
 cases s with
 | imm t=>simp [fpS] at h
 | own ts =>
  obtain ⟨b',us,e,n,o,eh,_⟩:=r
  have:=z5c h
  rw [e] at this
  cases this
  exact ⟨n,fun _=>o,fun z=>by cases z⟩
 | dic ts =>
  obtain ⟨b',us,e,n,o,eh,_⟩:=r
  have:=z5c h
  rw [e] at this
  cases this
  exact ⟨n,fun _=>o,fun z=>by cases z⟩
 | obj m c fs =>
  obtain ⟨a,vs,rfl,ha,hf,nd,ow,_⟩:=r
  rw [z4n ha] at h
  obtain ⟨n,q⟩:=ow b h
  refine ⟨n,fun z=>?_,fun z=>?_⟩
  ·cases m with
   | ro=>cases z
   | own=>exact q
   | lent=>exact q
  ·cases m with
   | ro=>exact q
   | own=>cases z
   | lent=>cases z
theorem za5.keep {s:Sl} {v:V} (r:za5 K F H s v) (kp:Kp K F H F' H') (hh:∀ b ∈ fp0 s v,H' b = H b):za5 K F' H' s v:=by
 cases s with
 | imm t=>exact Rep.kp r kp
 | own ts =>
  obtain ⟨b,us,rfl,eh,z⟩:=r
  exact ⟨b,us,rfl,by rw [hh b (by simp [fp0,rf])]; exact eh,z.kp kp⟩
 | dic ts =>
  obtain ⟨b,us,rfl,eh,z⟩:=r
  exact ⟨b,us,rfl,by rw [hh b (by simp [fp0,rf])]; exact eh,RepD.kp kp z⟩
 | obj m c fs=>exact r.elim
theorem RelF.keep:∀ {fs:List Sl} {vs:List V},RelF K F H fs vs -> Kp K F H F' H' -> (∀ b ∈ fpF fs vs,H' b = H b) -> RelF K F' H' fs vs
 | [],vs,r,_,_=>r
 | s :: ss,vs,r,kp,hh=>by
  obtain ⟨v,z,rfl,r1,r2⟩:=r
  rw [show fpF (s :: ss) (v :: z) = fp0 s v ++ fpF ss z from rfl] at hh
  exact ⟨v,z,rfl,r1.keep kp fun b h=>hh b (y0z.mpr (.inl h)),RelF.keep r2 kp fun b h=>hh b (y0z.mpr (.inr h))⟩
theorem z15.keep {s:Sl} {v:V} (r:z15 K E O F H s v) (kp:Kp K F H F' H') (hh:∀ b ∈ fpS H s v,H' b = H b) (hf:∀ b ∈ fpS H s v,F' b -> F b) (ho:∀ b ∈ fpS H s v,O b -> O' b) :
  z15 K E O' F' H' s v /\ fpS H' s v = fpS H s v:=by
 cases s with
 | imm t=>exact ⟨Rep.kp r kp,rfl⟩
 | own ts =>
  obtain ⟨a,vs,rfl,n,o,eh,z⟩:=r
  have m:a ∈ fpS H (.own ts) (.ref a):=by simp [fpS,rf]
  exact ⟨⟨a,vs,rfl,fun f=>n (hf a m f),ho a m o,by rw [hh a m]; exact eh,z.kp kp⟩,rfl⟩
 | dic ts =>
  obtain ⟨a,vs,rfl,n,o,eh,z⟩:=r
  have m:a ∈ fpS H (.dic ts) (.ref a):=by simp [fpS,rf]
  exact ⟨⟨a,vs,rfl,fun f=>n (hf a m f),ho a m o,by rw [hh a m]; exact eh,RepD.kp kp z⟩,rfl⟩
 | obj m c fs =>
  obtain ⟨a,vs,rfl,ha,hr,nd,ow,la⟩:=r
  rw [z4n ha] at hh hf ho
  have ha':z57 H' a c vs:=ha.keep (hh a (by simp))
  refine ⟨⟨a,vs,rfl,ha',hr.keep kp fun b h=>hh b (y05 _ h),nd,fun b h=>?_,la⟩,by rw [z4n ha,z4n ha']⟩
  obtain ⟨n,q⟩:=ow b h
  refine ⟨fun f=>n (hf b h f),?_⟩
  cases m with
  | ro=>exact q
  | own=>exact ho b h q
  | lent=>exact ho b h q
theorem z15.extP {s:Sl} {v:V} (r:z15 K E O F H s v) (x:Ext F H F' H'):z15 K E O F' H' s v /\ fpS H' s v = fpS H s v :=
 r.keep x.kp (fun b h=>by
  obtain ⟨o,e,m⟩:=r.at h
  rw [e]
  exact x.same.get e fun ps z=>by subst z; exact m.cases (fun _ z=>by cases z) (fun _ z=>by cases z) (fun _ _ _ z=>by cases z)) (fun b h f=>by
  rcases x.new b f with z | z
  ·exact z
  ·obtain ⟨o,e,_⟩:=r.at h
   rw [z] at e
   cases e) fun _ _ o=>o
theorem z15.ext {s:Sl} {v:V} (r:z15 K E O F H s v) (x:Ext F H F' H'):z15 K E O F' H' s v:=(r.extP x).1
end
structure RelE (K:y00) (F₀:Addr -> Prop) (E:En) (O F:Addr -> Prop) (H:Hp) (ε:Ev) (σ:L2.St):Prop where
 len:ε.length = σ.length
 val:∀ (i:Nat) (s:Sl),ε[i]? = some (some s) -> ∃ v,σ[i]? = some (some v) /\ z15 K E O F H s v
 ne:∀ (i j:Nat) (s u:Sl) (v w:V),i ≠ j -> ε[i]? = some (some s) -> ε[j]? = some (some u) -> s.isOwn = true -> u.isOwn = true -> σ[i]? = some (some v) -> σ[j]? = some (some w) -> ∀ a ∈ fpS H s v,a ∉ fpS H u w
 ent:Ext F₀ E.h F H
 o0:∀ a,O a -> E.h a = none
 fr:∀ a,H a = none -> O a
section
variable {K:y00} {F₀ O F F1:Addr -> Prop} {E:En} {H H1:Hp} {ε:Ev} {σ:L2.St}
theorem RelE.dom (r:RelE K F₀ E O F H ε σ):Dom F H:=r.ent.dom
theorem RelE.ext (r:RelE K F₀ E O F H ε σ) (x:Ext F H F1 H1):RelE K F₀ E O F1 H1 ε σ :=
 ⟨r.len,fun i s e=>by
  obtain ⟨v,h1,h2⟩:=r.val i s e
  exact ⟨v,h1,h2.ext x⟩,fun i j s u v w hij e1 e2 o1 o2 h1 h2=>by
  obtain ⟨v',h1',r1⟩:=r.val i s e1
  obtain ⟨w',h2',r2⟩:=r.val j u e2
  rw [h1] at h1'
  rw [h2] at h2'
  cases h1'
  cases h2'
  rw [(r1.extP x).2,(r2.extP x).2]
  exact r.ne i j s u v w hij e1 e2 o1 o2 h1 h2,r.ent.trans x,r.o0,fun a e=>r.fr a (x.same.none e)⟩
theorem z24 {α:Type} {l:List (Option α)} {i j:Nat} {x:Option α} {y:α} (h:(l.set i x)[j]? = some (some y)):(i = j /\ x = some y /\ j < l.length) \/ (i ≠ j /\ l[j]? = some (some y)):=by
 rw [List.getElem?_set] at h
 by_cases e:i = j
 ·subst e
  rw [if_pos rfl] at h
  split at h
  next hl=>exact .inl ⟨rfl,Option.some.inj h,hl⟩
  next=>cases h
 ·rw [if_neg e] at h
  exact .inr ⟨e,h⟩
theorem z7y {α:Type} {l:List (Option α)} {i:Nat} {x:Option α} (h:i < l.length):(l.set i x)[i]? = some x:=by
 rw [List.getElem?_set,if_pos rfl,if_pos h]
theorem z27 {α:Type} {l:List (Option α)} {i j:Nat} {x:Option α} (h:i ≠ j):(l.set i x)[j]? = l[j]?:=by
 rw [List.getElem?_set,if_neg h]
theorem RelE.setG {s:Sl} {v:V} (r:RelE K F₀ E O F H ε σ) (i:Nat) (h:z15 K E O F H s v) (fr:s.isOwn = true -> ∀ (j:Nat) (u:Sl) (w:V),i ≠ j -> ε[j]? = some (some u) -> u.isOwn = true -> σ[j]? = some (some w) -> ∀ a ∈ fpS H s v,a ∉ fpS H u w) :
  RelE K F₀ E O F H (ε.set i (some s)) (σ.set i (some v)):=by
 refine ⟨by simp [r.len],fun j u e=>?_,fun j k u w vu vw hjk e1 e2 o1 o2 h1 h2=>?_,r.ent,r.o0,r.fr⟩
 ·rcases z24 e with ⟨rfl,e',hl⟩ | ⟨ne,e'⟩
  ·cases e'
   exact ⟨_,z7y (by rw [<- r.len]; exact hl),h⟩
  ·obtain ⟨w,h1,h2⟩:=r.val j u e'
   exact ⟨w,by rw [z27 ne]; exact h1,h2⟩
 ·rcases z24 e1 with ⟨rfl,e',hl⟩ | ⟨ne1,e1'⟩
  ·rcases z24 e2 with ⟨rfl,_,_⟩ | ⟨ne2,e2'⟩
   ·exact absurd rfl hjk
   ·rw [z7y (by rw [<- r.len]; exact hl)] at h1
    rw [z27 ne2] at h2
    cases h1
    cases e'
    exact fr o1 k w vw ne2 e2' o2 h2
  ·rw [z27 ne1] at h1
   rcases z24 e2 with ⟨rfl,e',hl⟩ | ⟨ne2,e2'⟩
   ·rw [z7y (by rw [<- r.len]; exact hl)] at h2
    cases h2
    cases e'
    intro a ha hb
    exact fr o2 j u vu ne1 e1' o1 h1 a hb ha
   ·rw [z27 ne2] at h2
    exact r.ne j k u w vu vw hjk e1' e2' o1 o2 h1 h2
theorem RelE.set {t:T} {v:V} (r:RelE K F₀ E O F H ε σ) (i:Nat) (h:Rep K F H t v):RelE K F₀ E O F H (ε.set i (some (.imm t))) (σ.set i (some v)):=r.setG (s:=.imm t) i h fun z=>by cases z
theorem RelE.setNew {s:Sl} {v:V} (r:RelE K F₀ E O F H ε σ) (i:Nat) (x:Ext F H F1 H1) (h:z15 K E O F1 H1 s v) (hn:∀ a ∈ fpS H1 s v,H a = none):RelE K F₀ E O F1 H1 (ε.set i (some s)) (σ.set i (some v)) :=
 (r.ext x).setG i h fun _ j u w _ ej _ hj a ha hb=>by
  obtain ⟨w',h1,h2⟩:=r.val j u ej
  rw [hj] at h1
  cases h1
  rw [(h2.extP x).2] at hb
  obtain ⟨o,e,_⟩:=h2.at hb
  rw [hn a ha] at e
  cases e
theorem zb9 {x:Addr} {o o':HO} (hn:¬ F x) (hx:H x = some o) (hm:HoM o):Kp K F H F (upd H x o'):=by
 refine ⟨fun b xs q=>?_,fun b xs f q=>⟨f,?_⟩⟩
 ·rcases q with q | q
  ·refine .inl ?_
   have nb:b ≠ x:=by
    rintro rfl
    rcases q with q | ⟨_,q⟩ <;> (rw [hx] at q; cases q; exact hm.cases (fun _ z=>by cases z) (fun _ z=>by cases z) (fun _ _ _ z=>by cases z))
   rcases q with q | ⟨u,q⟩
   ·exact .inl (by rw [z05 nb]; exact q)
   ·exact .inr ⟨u,by rw [z05 nb]; exact q⟩
  ·exact .inr q
 ·have nb:b ≠ x:=by
   rintro rfl
   exact hn f
  rcases q with q | ⟨u,q⟩
  ·exact .inl (by rw [z05 nb]; exact q)
  ·exact .inr ⟨u,by rw [z05 nb]; exact q⟩
theorem z90 {x:Addr} {o o':HO} {h0:Hp} (e:Ext F₀ h0 F H) (h0x:h0 x = none) (hn:¬ F x) (hx:H x = some o) (hm:HoM o):Ext F₀ h0 F (upd H x o'):=by
 refine ⟨fun b u q=>?_,e.sub,e.new,⟨fun b f=>?_,e.dom.tgs.updM fun u z=>by rw [hx] at z; cases z; exact hm⟩⟩
 ·have nb:b ≠ x:=by
   rintro rfl
   rw [h0x] at q
   cases q
  rw [z05 nb]
  exact e.same b u q
 ·have nb:b ≠ x:=by
   rintro rfl
   exact hn f
  rw [z05 nb]
  exact e.dom b f
theorem RelE.mutG {s s':Sl} {v:V} {x:Addr} {o':HO} (r:RelE K F₀ E O F H ε σ) {i:Nat} (e:ε[i]? = some (some s)) (ho:s.isOwn = true) (hv:σ[i]? = some (some v)) (hx:x ∈ fpS H s v)
  (h:Kp K F H F (upd H x o') -> z15 K E O F (upd H x o') s' v)
  (hp:∀ b ∈ fpS (upd H x o') s' v,b ∈ fpS H s v \/ ∀ (j:Nat) (u:Sl) (w:V),i ≠ j -> ε[j]? = some (some u) -> u.isOwn = true -> σ[j]? = some (some w) -> b ∉ fpS H u w) :
  Kp K F H F (upd H x o') /\ RelE K F₀ E O F (upd H x o') (ε.set i (some s')) σ:=by
 obtain ⟨v',hv',rs⟩:=r.val i s e
 rw [hv] at hv'
 cases hv'
 obtain ⟨o,eo,hm⟩:=rs.at hx
 obtain ⟨nF,hO,_⟩:=rs.held hx
 have hOx:=hO ho
 have kp:Kp K F H F (upd H x o'):=zb9 nF eo hm
 have h0:=r.o0 x hOx
 have keep:∀ (j:Nat) (u:Sl) (w:V),i ≠ j -> ε[j]? = some (some u) -> σ[j]? = some (some w) -> z15 K E O F H u w -> z15 K E O F (upd H x o') u w /\ fpS (upd H x o') u w = fpS H u w:=by
  intro j u w hij ej hj ru
  refine ru.keep kp (fun b hb=>z05 ?_) (fun _ _ f=>f) fun _ _ o=>o
  rintro rfl
  cases ou:u.isOwn with
  | true=>exact r.ne i j s u v w hij e ej ho ou hv hj b hx hb
  | false=>exact (ru.held hb).2.2 ou h0
 refine ⟨kp,⟨by simp [r.len],fun j u e'=>?_,fun j k u w vu vw hjk e1 e2 o1 o2 h1 h2=>?_,z90 r.ent h0 nF eo hm,r.o0,fun b e'=>r.fr b ?_⟩⟩
 ·rcases z24 e' with ⟨rfl,e'',hl⟩ | ⟨ne,e''⟩
  ·cases e''
   exact ⟨_,hv,h kp⟩
  ·obtain ⟨w,h1,h2⟩:=r.val j u e''
   exact ⟨w,h1,(keep j u w ne e'' h1 h2).1⟩
 ·rcases z24 e1 with ⟨rfl,e',hl⟩ | ⟨ne1,e1'⟩
  ·rcases z24 e2 with ⟨rfl,_,_⟩ | ⟨ne2,e2'⟩
   ·exact absurd rfl hjk
   ·cases e'
    rw [hv] at h1
    cases h1
    obtain ⟨w',h2',r2⟩:=r.val k w e2'
    rw [h2] at h2'
    cases h2'
    rw [(keep k w vw ne2 e2' h2 r2).2]
    intro a ha hb
    rcases hp a ha with z | z
    ·exact r.ne i k s w v vw ne2 e e2' ho o2 hv h2 a z hb
    ·exact z k w vw ne2 e2' o2 h2 hb
  ·obtain ⟨v1,h1',r1⟩:=r.val j u e1'
   rw [h1] at h1'
   cases h1'
   rw [(keep j u vu ne1 e1' h1 r1).2]
   rcases z24 e2 with ⟨rfl,e',hl⟩ | ⟨ne2,e2'⟩
   ·cases e'
    rw [hv] at h2
    cases h2
    intro a ha hb
    rcases hp a hb with z | z
    ·exact r.ne i j s u v vu ne1 e e1' ho o1 hv h1 a z ha
    ·exact z j u vu ne1 e1' o1 h1 ha
   ·obtain ⟨w',h2',r2⟩:=r.val k w e2'
    rw [h2] at h2'
    cases h2'
    rw [(keep k w vw ne2 e2' h2 r2).2]
    exact r.ne j k u w vu vw hjk e1' e2' o1 o2 h1 h2
 ·by_cases nb:b = x
  ·subst nb
   rw [z08] at e'
   cases e'
  ·rwa [z05 nb] at e'
theorem RelE.mut {s s':Sl} {a:Addr} {o o':HO} (r:RelE K F₀ E O F H ε σ) {i:Nat} (e:ε[i]? = some (some s)) (ho:s.isOwn = true) (hv:σ[i]? = some (some (.ref a))) (hn:¬ F a) (ho':O a) (ha:H a = some o)
  (hk:(∃ xs,o = .lst xs) \/ ∃ xs,o = .dK xs) (h:Kp K F H F (upd H a o') -> z15 K E O F (upd H a o') s' (.ref a)) (f1:∀ H:Hp,fpS H s (.ref a) = [a]:=by intro _; rfl) (f2:∀ H:Hp,fpS H s' (.ref a) = [a]:=by intro _; rfl) :
  Kp K F H F (upd H a o') /\ RelE K F₀ E O F (upd H a o') (ε.set i (some s')) σ :=
 r.mutG e ho hv (by rw [f1]; simp) h fun b hb=>by
  rw [f2] at hb
  rw [f1]
  exact .inl hb
end
def tR (K:y00) (f:Fe):TE:=fun σ H Q=>∃ F₀ H₀ O F ε t,RelE K F₀ H₀ O F H ε σ /\ f ε = some t /\ ∀ v F' H',Ext F H F' H' -> RepR K O F' H' t v -> Q v H'
def tV (K:y00) (f:Fe):TE:=fun σ H Q=>∃ F₀ H₀ O F ε t,RelE K F₀ H₀ O F H ε σ /\ f ε = some t /\ ∀ v F' H',Ext F H F' H' -> Rep K F' H' t v -> Q v H'
def tN (K:y00) (f:Fe):TE:=fun σ H Q=>∃ F₀ H₀ O F ε ts,RelE K F₀ H₀ O F H ε σ /\ f ε = some (.list ts) /\ ∀ a vs F' H',Ext F H F' H' -> H a = none -> ¬ F' a -> H' a = some (.lst vs) -> RepL K F' H' ts vs -> Q (.ref a) H'
def tT (K:y00) (f:Ft):TT:=fun σ H Q=>∃ F₀ H₀ O F ε b,RelE K F₀ H₀ O F H ε σ /\ f ε = some b /\ ∀ F' H',Ext F H F' H' -> Q b H'
def tAR (K:y00) (fs:List Fe):TA:=fun σ H Q=>∃ F₀ H₀ O F ε ts,RelE K F₀ H₀ O F H ε σ /\ args fs ε = some ts /\ ∀ vs F' H',Ext F H F' H' -> Paired (RepR K O F' H') ts vs -> Q vs H'
def tAV (K:y00) (fs:List Fe):TA:=fun σ H Q=>∃ F₀ H₀ O F ε ts,RelE K F₀ H₀ O F H ε σ /\ args fs ε = some ts /\ ∀ vs F' H',Ext F H F' H' -> RepL K F' H' ts vs -> Q vs H'
abbrev PEr (X:Cx) (e:Expr) (f:Fe):Prop:=PE X e (tR X.K f)
abbrev PEv (X:Cx) (e:Expr) (f:Fe):Prop:=PE X e (tV X.K f)
abbrev PEn (X:Cx) (e:Expr) (f:Fe):Prop:=PE X e (tN X.K f)
abbrev PTt (X:Cx) (e:Expr) (f:Ft):Prop:=PT X e (tT X.K f)
abbrev PWt (X:Cx) (e:Expr) (f:Ft):Prop:=PW X e (tT X.K f)
abbrev PAr (X:Cx) (es:List Expr) (fs:List Fe):Prop:=PA X es (tAR X.K fs)
abbrev PAv (X:Cx) (es:List Expr) (fs:List Fe):Prop:=PA X es (tAV X.K fs)
theorem z0l {X:Cx} {e:Expr} {t t':TE} (h:PE X e t) (k:∀ σ H Q,t' σ H Q -> t σ H Q):PE X e t':=fun pins s σ H Q I q=>h pins s σ H Q I (k σ H Q q)
theorem z7t {X:Cx} {e:Expr} {t t':TT} (h:PT X e t) (k:∀ σ H Q,t' σ H Q -> t σ H Q):PT X e t':=fun pins s σ H Q I q=>h pins s σ H Q I (k σ H Q q)
theorem zdu {X:Cx} {e:Expr} {t t':TT} (h:PW X e t) (k:∀ σ H Q,t' σ H Q -> t σ H Q):PW X e t':=fun w pins s σ H Q I q=>h w pins s σ H Q I (k σ H Q q)
theorem z96 {X:Cx} {e:List Expr} {t t':TA} (h:PA X e t) (k:∀ σ H Q,t' σ H Q -> t σ H Q):PA X e t':=fun pos pins s σ H Q I q=>h pos pins s σ H Q I (k σ H Q q)
theorem z3o {X:Cx} {e:Stmt} {t t':TS} (h:PS X e t) (k:∀ D σ H,t' D σ H -> t D σ H):PS X e t':=fun pins s σ H D I q=>h pins s σ H D I (k D σ H q)
theorem zc7 {X:Cx} {e:List Stmt} {t t':TS} (h:PSs X e t) (k:∀ D σ H,t' D σ H -> t D σ H):PSs X e t':=fun pins s σ H D I q=>h pins s σ H D I (k D σ H q)
section
variable {X:Cx} {e:Expr} {f:Fe}
theorem v2r (h:PEv X e f):PEr X e f:=z0l h fun σ H Q ⟨F₀,H₀,O,F,ε,t,r,e,k⟩=>⟨F₀,H₀,O,F,ε,t,r,e,fun v F' H' x q=>k v F' H' x (.inl q)⟩
theorem n2v (h:PEn X e f) (hf:∀ ε t,f ε = some t -> ∃ ts,t = .list ts):PEv X e f:=z0l h fun σ H Q ⟨F₀,H₀,O,F,ε,t,r,e,k⟩=>by
 obtain ⟨ts,rfl⟩:=hf _ _ e
 refine ⟨F₀,H₀,O,F,ε,ts,r,e,fun a vs F' H' x hn nf ha q=>?_⟩
 have y:Ext F H (fun b=>F' b \/ b = a) H':=⟨x.same,fun b z=>.inl (x.sub b z),fun b z=>by
  rcases z with z | rfl
  ·exact x.new b z
  ·exact .inr hn,⟨fun b z=>by
  rcases z with z | rfl
  ·exact x.dom b z
  ·exact ⟨_,ha⟩,x.dom.tgs⟩⟩
 refine k (.ref a) _ H' y ?_
 simp only [Rep]
 exact ⟨a,vs,rfl,.inr rfl,.inl ha,q.keep (fun _ _ z=>z) fun b _ z w=>⟨.inl z,w⟩⟩
end
end D
end
section
namespace D
open PySem PySem.Spec PyProof.Rows L2
variable [Tbl]
section
variable {X:Cx} {a b c e:Expr} {f g h:Fe} {pos:Pos}
theorem zam {t:T} {v:V} (he:PE X e (tC v)) (hr:∀ F H,Rep X.K F H t v):PEv X e (cst t):=z0l he fun σ H Q ⟨F₀,H₀,O,F,ε,t',r,e,k⟩=>by
 cases e
 exact k v F H (Ext.refl r.dom) (hr _ _)
theorem z0a {i j}:PEv X (.Constant (.int i) j pos) (cst (.int i)):=zam zdk fun _ _=>by simp [Rep]
theorem q_bl {i j}:PEv X (.Constant (.bool i) j pos) (cst (.bool i)):=zam zi0 fun _ _=>by simp [Rep]
theorem z21 {i j}:PEv X (.Constant (.str i) j pos) (cst (.str i)):=zam zga fun _ _=>by simp [Rep]
theorem ze6 {j}:PEv X (.Constant .none j pos) (cst .none):=zam zgc fun _ _=>by simp [Rep]
theorem q_nm (i:Nat) {x:Str} (hN:X.N[i]? = some x:=by rfl) (hv:Vis X.env.scope x:=by first | exact Or.inl rfl | exact Or.inr (Or.inl rfl) | exact Or.inr (Or.inr rfl)) (hd:(x == ("__debug__":Str)) = false:=by decide)
  (hcd:(x == ("__classdict__":Str)) = false:=by decide):PEr X (.Name x pos) (nm i):=z0l (pv i hN hv hd hcd) fun σ H Q ⟨F₀,H₀,O,F,ε,t,r,e,k⟩=>by
 unfold nm at e
 split at e
 next t' he =>
  cases e
  obtain ⟨v,h1,h2⟩:=r.val _ _ he
  exact ⟨v,h1,k v F H (Ext.refl r.dom) (.inl h2)⟩
 next ts he =>
  cases e
  obtain ⟨v,h1,a,vs,rfl,n,h0,hh,hr⟩:=r.val _ _ he
  exact ⟨_,h1,k _ F H (Ext.refl r.dom) (.inr ⟨ts,a,vs,rfl,rfl,hh,hr⟩)⟩
 next=>cases e
theorem z0m (i:Nat) {x:Str} (hN:X.N[i]? = some x:=by rfl) (hv:Vis X.env.scope x:=by first | exact Or.inl rfl | exact Or.inr (Or.inl rfl) | exact Or.inr (Or.inr rfl)) (hd:(x == ("__debug__":Str)) = false:=by decide)
  (hcd:(x == ("__classdict__":Str)) = false:=by decide):PEv X (.Name x pos) (nmV i):=z0l (pv i hN hv hd hcd) fun σ H Q ⟨F₀,H₀,O,F,ε,t,r,e,k⟩=>by
 unfold nmV at e
 split at e
 next t' he =>
  cases e
  obtain ⟨v,h1,h2⟩:=r.val _ _ he
  exact ⟨v,h1,k v F H (Ext.refl r.dom) h2⟩
 next=>cases e
def Op2 (K:y00) (o:T -> T -> Option T) (R:R2):Prop :=
 ∀ (O F:Addr -> Prop) (H:Hp) (x y t:T) (vx vy:V) (Q:VK),Dom F H -> RepR K O F H x vx -> RepR K O F H y vy -> o x y = some t ->
  (∀ v F' H',Ext F H F' H' -> Rep K F' H' t v -> Q v H') -> R vx vy H Q
theorem z22 {o:T -> T -> Option T} {R:R2} (h:Op2 X.K o R):∀ σ H Q,tV X.K (op2 o f g) σ H Q -> tOp R (tR X.K f) (tR X.K g) σ H Q:=by
 rintro σ H Q ⟨F₀,H₀,O,F,ε,t,r,e,k⟩
 simp only [op2,y01] at e
 obtain ⟨x,ex,y,ey,eo⟩:=e
 refine ⟨F₀,H₀,O,F,ε,x,r,ex,fun vx F1 H1 x1 rx=>⟨F₀,H₀,O,F1,ε,y,r.ext x1,ey,fun vy F2 H2 x2 ry=>?_⟩⟩
 exact h O F2 H2 x y t vx vy Q x2.dom (rx.ext x2) ry eo fun v F' H' x3 q3=>k v F' H' ((x1.trans x2).trans x3) q3
theorem Inv.lstR {pins:List (Addr × Obj)} {σ:L2.St} {H:Hp} {s:y04} {l:Addr} {xs:List V} (I:Inv X pins σ H s) (hH:Rd H l (.lst xs)) :
  xs.length <= y0j /\ ∃ (its:List Value) (n:Nat),Vals xs its /\ xs.length = its.length /\ s.heap.get? l = some { cls:=.type "list",data:=.seq its.toArray n }:=by
 obtain ⟨z,its,n,r,e⟩:=hH.ok I.hok
 exact ⟨z,its,n,r,r.length,e⟩
def zhp:R2:=fun x y H Q=>∃ l b xs zs,x = .ref l /\ y = .ref b /\ Rd H l (.lst xs) /\ Rd H b (.lst zs) /\ xs.length + zs.length <= y0j /\ ∀ p,H p = none -> Q (.ref p) (upd H p (.lst (xs ++ zs)))
theorem zeq:OpR X (binaryOp .Add) zhp:=by
 intro pins s σ H x y v u Q I rx ry h
 obtain ⟨l,b,xs,zs,rfl,rfl,hH,hB,hz,q⟩:=h
 cases rx
 cases ry
 obtain ⟨z,its,n,r,hl,e⟩:=Inv.lstR I hH
 obtain ⟨z2,its2,n2,r2,hl2,e2⟩:=Inv.lstR I hB
 refine PySem.P.add_list e e2 ?_ (by rw [y0h,y0h]; omega)
 have ea:its.toArray ++ its2.toArray = (its ++ its2).toArray:=by simp
 rw [ea]
 exact ⟨.ref _,_,I.lnew (t':=s.toks) (r.append r2) (by rw [y1s]; omega),rfl,q _ I.fresh⟩
def zfv (K:y00):R2:=fun x y H Q=>∃ a b ys,x = .ref a /\ y = .ref b /\ SqT K H a [] /\ SqT K H b ys /\ Q (.ref b) H
theorem zcn:OpR X (binaryOp .Add) (zfv X.K):=by
 intro pins s σ H x y v u Q I rx ry h
 obtain ⟨a,b,ys,rfl,rfl,ha,hb,q⟩:=h
 cases rx
 cases ry
 obtain ⟨its,r1,p1,_⟩:=I.tuple ha
 obtain ⟨its2,r2,p2,_⟩:=I.tuple hb
 have ei:its = []:=r1.nil_iff.mpr rfl
 subst ei
 obtain ⟨⟨cls,dd,data,sl⟩,ho,hc,n,hd⟩:=id p1
 obtain ⟨⟨cls2,dd2,data2,sl2⟩,ho2,hc2,n2,hd2⟩:=id p2
 simp only at hc hd hc2 hd2
 subst hc hd hc2 hd2
 exact concat_meets ⟨_,ho,rfl⟩ ⟨_,ho2,rfl⟩ noFill_tuple_add seq_tuple_add PySem.F.slot_tuple_add PySem.F.entry_tuple_add (PySem.F.args_tuple_add_2 _ _)
   (tuple_addW0 a b ([]:List Value).toArray its2.toArray n n2 dd dd2 sl sl2 (by simp)) ⟨ho,ho2,⟨.ref b,H,I,rfl,q⟩⟩
theorem z3q:y0j = big:=by rw [sizeLine_eq]; rfl
theorem z1j (ha:PEr X a f) (hb:PEr X b g):PEv X (.BinOp a .Add b pos) (op2 oAdd f g) :=
 z0l (zaq (zgj.or (z9g.or (zcn.or (zep.or zeq)))) ha hb) (z22 (by
  intro O F H x y t vx vy Q d rx ry e k
  unfold oAdd at e
  split at e
  ·cases e
   rw [rx.int,ry.int]
   exact .inl ⟨_,_,rfl,rfl,k _ F H (Ext.refl d) (by simp [Rep])⟩
  ·split at e
   next hz =>
    cases e
    rw [rx.str,ry.str]
    exact .inr (.inl ⟨_,_,rfl,rfl,by rw [z3q]; exact hz,k _ F H (Ext.refl d) (by simp [Rep])⟩)
   next=>cases e
  ·split at e
   next xs ys hz =>
    cases e
    obtain ⟨ax,vs,rfl,hs,hr⟩:=rx.tup
    obtain ⟨ay,ws,rfl,hs',hr'⟩:=ry.tup
    cases xs with
    | nil =>
     simp only [RepL] at hr
     subst hr
     refine .inr (.inr (.inl ⟨_,_,_,rfl,rfl,hs,hs',k _ F H (Ext.refl d) ?_⟩))
     simp only [Rep]
     exact ⟨_,_,rfl,hs',by simpa using hr'⟩
    | cons x0 xr =>
     refine .inr (.inr (.inr (.inl ⟨_,_,_,_,rfl,rfl,hs,hs',?_,?_,fun e0=>?_,fun e0 p hp=>?_⟩)))
     ·intro z
      subst z
      have:=hr.length
      simp at this
     ·rw [z3q,<- hr.length,<- hr'.length]
      exact hz
     ·refine k _ F H (Ext.refl d) ?_
      subst e0
      have e1:ys = []:=List.eq_nil_of_length_eq_zero (by rw [hr'.length]; rfl)
      subst e1
      simp only [Rep]
      exact ⟨_,_,rfl,hs,by simpa using hr⟩
     ·have x1:=Ext.laid (o:=.tup (vs ++ ws)) d hp
      refine k _ F _ x1 ?_
      simp only [Rep]
      exact ⟨p,_,rfl,SqT.of z08,(hr.append hr').ext x1⟩
   next=>cases e
  ·split at e
   next xs ys hz =>
    cases e
    obtain ⟨ax,vs,rfl,hs,hr⟩:=rx.lst
    obtain ⟨ay,ws,rfl,hs',hr'⟩:=ry.lst
    refine .inr (.inr (.inr (.inr ⟨_,_,_,_,rfl,rfl,hs,hs',by rw [z3q,<- hr.length,<- hr'.length]; exact hz,fun p hp=>?_⟩)))
    have x1:=Ext.laidF (o:=.lst (vs ++ ws)) d hp
    refine k _ _ _ x1 ?_
    simp only [Rep]
    exact ⟨p,_,rfl,.inr rfl,.inl z08,(hr.append hr').ext x1⟩
   next=>cases e
  ·cases e))
def zch:V -> List V -> Hp -> VK -> Prop:=fun x vs H Q=>∃ l b xs zs,x = .ref l /\ vs = [.ref b] /\ H l = some (.lst xs) /\ Rd H b (.lst zs) /\ xs.length + zs.length <= y0j /\ Q .non (upd H l (.lst (xs ++ zs)))
theorem z9t:MtM X "list.extend" zch:=by
 intro pins s σ H x vs v us Q I rx rv h
 obtain ⟨l,b,xs,zs,rfl,rfl,hH,hB,hz,q⟩:=h
 cases rx
 obtain ⟨u,rfl,ru⟩:=rv.one
 cases ru
 obtain ⟨z,its,n,r,hl,e⟩:=I.lstM hH
 obtain ⟨z2,its2,n2,r2,hl2,e2⟩:=Inv.lstR I hB
 have hsz:its.toArray.size + its2.toArray.size <= y0j:=by rw [y0h,y0h]; omega
 have hlong:¬ (!its.toArray.isEmpty && Builtin.List.listTooLong (its.toArray.size + its2.toArray.size)) = true:=by
  rw [z5z hsz,Bool.and_false]
  exact y1t
 refine call_meets F.slot_list_extend ⟨_,e,rfl⟩ F.entry_list_extend (F.args_list_extend_2 _ _)
  (AutoSeq1.list_extend_list_list_0 l its.toArray n b its2.toArray n2 hlong (by rw [y0h]; omega) (by omega)) ⟨e,e2,?_⟩
 refine ⟨.non,_,I.lset (its':=its ++ its2) hH e (by simp) (r.append r2) ?_,rfl,q⟩
 rw [y1s]
 omega
theorem z5w (ha:PEr X a f) (hb:PEr X b g):PEv X (.BinOp a .Mult b pos) (op2 oMul f g) :=
 z0l (zaq zgh ha hb) (z22 (by
  intro O F H x y t vx vy Q d rx ry e k
  unfold oMul at e
  split at e
  ·split at e
   next hm =>
    cases e
    rw [rx.int,ry.int]
    refine ⟨_,_,rfl,rfl,?_,k _ F H (Ext.refl d) (by simp [Rep])⟩
    simpa [z9r,CMul] using hm
   next=>cases e
  ·cases e))
theorem zal (ha:PEr X a f) (hb:PEr X b g):PEv X (.BinOp a .FloorDiv b pos) (op2 oDiv f g) :=
 z0l (zaq zeo ha hb) (z22 (by
  intro O F H x y t vx vy Q d rx ry e k
  unfold oDiv at e
  split at e
  ·split at e
   next hm =>
    cases e
    rw [rx.int,ry.int]
    exact ⟨_,_,rfl,rfl,hm,k _ F H (Ext.refl d) (by simp [Rep])⟩
   next=>cases e
  ·cases e))
theorem z3r (ha:PEr X a f) (hb:PEr X b g):PEv X (.BinOp a .Mod b pos) (op2 oMod f g) :=
 z0l (zaq zgi ha hb) (z22 (by
  intro O F H x y t vx vy Q d rx ry e k
  unfold oMod at e
  split at e
  ·split at e
   next hm =>
    cases e
    rw [rx.int,ry.int]
    exact ⟨_,_,rfl,rfl,hm,k _ F H (Ext.refl d) (by simp [Rep])⟩
   next=>cases e
  ·cases e))
theorem q_ix (ha:PEr X a f) (hb:PEr X b g) (hs:zc5 b:=by intro _ _; rfl):PEv X (.Subscript a b pos) (op2 oIx f g) :=
 z0l (zhz zgx ha hb hs) (z22 (by
  intro O F H x y t vx vy Q d rx ry e k
  unfold oIx at e
  split at e
  ·obtain ⟨ax,vs,rfl,hs,hr⟩:=rx.tup
   rw [ry.int]
   simp only [atZ,y01] at e
   obtain ⟨j,hj,et⟩:=e
   obtain ⟨v,hv,rv⟩:=hr.get et
   refine .inr (.inl ⟨_,_,_,v,rfl,rfl,hs,?_,k _ F H (Ext.refl d) rv⟩)
   rw [hr.length] at hj
   show (ixN _ _).bind _ = _
   rw [show ixN vs.length _ = some j from hj]
   exact hv
  ·obtain ⟨ax,vs,rfl,hs,hr⟩:=rx.lst
   rw [ry.int]
   simp only [atZ,y01] at e
   obtain ⟨j,hj,et⟩:=e
   obtain ⟨v,hv,rv⟩:=hr.get et
   refine .inl ⟨_,_,_,v,rfl,rfl,.inl hs,?_,k _ F H (Ext.refl d) rv⟩
   rw [hr.length] at hj
   show (ixN _ _).bind _ = _
   rw [show ixN vs.length _ = some j from hj]
   exact hv
  ·split at e
   next hz =>
    rw [rx.str,ry.int]
    simp only [y07] at e
    obtain ⟨c,hc,rfl⟩:=e
    exact .inr (.inr ⟨_,_,c,rfl,rfl,by rw [z3q]; exact hz,hc,k _ F H (Ext.refl d) (by simp [Rep])⟩)
   next=>cases e
  ·cases e))
end
end D
end
section
namespace D
open PySem PySem.Spec PyProof.Rows L2
variable [Tbl]
def DO (K:y00) (F₀:Addr -> Prop) (H₀:En) (O F:Addr -> Prop) (H:Hp) (D:Ends):Out -> Prop
 | .nx ε'=>∀ σ' F' H',Kp K F H F' H' -> RelE K F₀ H₀ O F' H' ε' σ' -> D.nx σ' H'
 | .rt t=>∀ v F' H',Ext F₀ H₀.h F' H' -> Rep K F' H' t v -> D.rt v H'
 | .rtm t ε'=>∀ v σ' F' H',RelE K F₀ H₀ O F' H' ε' σ' -> Rep K F' H' t v -> D.rt v H'
 | .rto s=>∀ a F' H',Ext F₀ H₀.h F' H' -> z15 K H₀ O F' H' s (.ref a) -> D.rt (.ref a) H'
 | .bk ε'=>∀ σ' F' H',Kp K F H F' H' -> RelE K F₀ H₀ O F' H' ε' σ' -> D.bk σ' H'
 | .ct ε'=>∀ σ' F' H',Kp K F H F' H' -> RelE K F₀ H₀ O F' H' ε' σ' -> D.ct σ' H'
def tS (K:y00) (g:Fs):TS:=fun D σ H=>∃ F₀ H₀ O F ε o,RelE K F₀ H₀ O F H ε σ /\ g ε = some o /\ DO K F₀ H₀ O F H D o
abbrev PSt (X:Cx) (s:Stmt) (g:Fs):Prop:=PS X s (tS X.K g)
abbrev PBt (X:Cx) (s:List Stmt) (g:Fs):Prop:=PSs X s (tS X.K g)
theorem DO.kp {K:y00} {F₀ O F F1:Addr -> Prop} {H₀:En} {H H1:Hp} {D:Ends} {o:Out} (h:DO K F₀ H₀ O F H D o) (x:Kp K F H F1 H1):DO K F₀ H₀ O F1 H1 D o:=by
 cases o with
 | nx ε=>exact fun σ' F' H' k r=>h σ' F' H' (x.trans k) r
 | rt t=>exact h
 | bk ε=>exact fun σ' F' H' k r=>h σ' F' H' (x.trans k) r
 | ct ε=>exact fun σ' F' H' k r=>h σ' F' H' (x.trans k) r
 | rtm t ε=>exact h
 | rto s=>exact h
section
variable {X:Cx} {e a b c:Expr} {f:Fe} {g g':Fs} {ft:Ft} {st:Stmt} {rest:List Stmt} {pos:Pos}
theorem z53:PBt X [] skip:=zc7 zec fun D σ H ⟨F₀,H₀,O,F,ε,o,r,e,k⟩=>by
 cases e
 exact k σ F H Kp.refl r
theorem z14 (h:PSt X st g):PBt X [st] g:=zeb h
theorem z0c (h1:PSt X st g) (h2:PBt X rest g'):PBt X (st :: rest) (seq g g'):=zc7 (zcj h1 h2) fun D σ H ⟨F₀,H₀,O,F,ε,o,r,e,k⟩=>by
 simp only [seq,y01] at e
 obtain ⟨o1,e1,e2⟩:=e
 refine ⟨F₀,H₀,O,F,ε,o1,r,e1,?_⟩
 cases o1 with
 | nx ε'=>exact fun σ' F' H' x r'=>⟨F₀,H₀,O,F',ε',o,r',e2,k.kp x⟩
 | rt t =>
  cases e2
  exact k
 | bk ε' =>
  cases e2
  exact k
 | ct ε' =>
  cases e2
  exact k
 | rtm t ε' =>
  cases e2
  exact k
 | rto s =>
  cases e2
  exact k
theorem z1x (h:PEv X e f):PSt X (.Return (some e) pos) (rtn f):=z3o (zdj h) fun D σ H ⟨F₀,H₀,O,F,ε,o,r,e,k⟩=>by
 simp only [rtn,y07] at e
 obtain ⟨t,et,rfl⟩:=e
 exact ⟨F₀,H₀,O,F,ε,t,r,et,fun v F' H' x q=>k v F' H' (r.ent.trans x) q⟩
theorem zfq (i:Nat) {x:Str} {npos:Pos} (hN:X.N[i]? = some x:=by rfl) (hv:Vis X.env.scope x:=by first | exact Or.inl rfl | exact Or.inr (Or.inl rfl) | exact Or.inr (Or.inr rfl)) (hd:(x == ("__debug__":Str)) = false:=by decide)
  (hcd:(x == ("__classdict__":Str)) = false:=by decide):PSt X (.Return (some (.Name x npos)) pos) (rtn (nm i)):=z3o (zdj (pv i hN hv hd hcd)) fun D σ H ⟨F₀,H₀,O,F,ε,o,r,e,k⟩=>by
 simp only [rtn,y07] at e
 obtain ⟨t,et,rfl⟩:=e
 unfold nm at et
 split at et
 next t' he =>
  cases et
  obtain ⟨v,h1,h2⟩:=r.val _ _ he
  exact ⟨v,h1,k v F H r.ent h2⟩
 next ts he =>
  cases et
  obtain ⟨v,h1,a,vs,rfl,n,h0,ha,q⟩:=r.val _ _ he
  have x2:=r.ent
  have y:Ext F₀ H₀.h (fun b=>F b \/ b = a) H:=⟨x2.same,fun b z=>.inl (x2.sub b z),fun b z=>by
   rcases z with z | rfl
   ·exact x2.new b z
   ·exact .inr (r.o0 _ h0),⟨fun b z=>by
   rcases z with z | rfl
   ·exact x2.dom b z
   ·exact ⟨_,ha⟩,x2.dom.tgs⟩⟩
  refine ⟨_,h1,k _ _ H y ?_⟩
  simp only [Rep]
  exact ⟨a,vs,rfl,.inr rfl,.inl ha,q.keep (fun _ _ z=>z) fun b _ z w=>⟨.inl z,w⟩⟩
 next=>cases et
theorem s_if (hc:PTt X c ft) (ha:PBt X rest g) {els:List Stmt} (hb:PBt X els g'):PSt X (.If c rest els pos) (iff ft g g'):=z3o (zhw hc ha hb) fun D σ H ⟨F₀,H₀,O,F,ε,o,r,e,k⟩=>by
 simp only [iff,y01] at e
 obtain ⟨b,eb,e⟩:=e
 refine ⟨F₀,H₀,O,F,ε,b,r,eb,fun F' H' x=>?_⟩
 cases b with
 | true=>exact iteT ⟨F₀,H₀,O,F',ε,o,r.ext x,by simpa using e,k.kp x.kp⟩
 | false=>exact iteF ⟨F₀,H₀,O,F',ε,o,r.ext x,by simpa using e,k.kp x.kp⟩
theorem z20 (i:Nat) {x:Str} {pos':Pos} (hN:X.N.Nodup) (he:PEv X e f) (hi:X.N[i]? = some x:=by rfl) (hx:Loc X.env.scope x:=by first | exact Or.inl rfl | exact Or.inr rfl)
  (hs:swapsWith e (some (.Name x pos')) pos.line X.env = pure false:=by rfl) (hf:X.fn x = true \/ X.env.scope.names.lookup x = some .local:=by first | exact .inl rfl | exact .inr rfl) :
  PSt X (.Assign [.Name x pos'] e pos) (asg i f):=z3o (zdi hN hi hx he hs hf) fun D σ H ⟨F₀,H₀,O,F,ε,o,r,e,k⟩=>by
 simp only [asg,y07] at e
 obtain ⟨t,et,rfl⟩:=e
 refine ⟨F₀,H₀,O,F,ε,t,r,et,fun v F' H' x q=>?_⟩
 exact k _ F' H' x.kp ((r.ext x).set i q)
theorem zde (i:Nat) {x:Str} {pos':Pos} (hN:X.N.Nodup) (he:PEn X e f) (hi:X.N[i]? = some x:=by rfl) (hx:Loc X.env.scope x:=by first | exact Or.inl rfl | exact Or.inr rfl)
  (hs:swapsWith e (some (.Name x pos')) pos.line X.env = pure false:=by rfl) (hf:X.fn x = true \/ X.env.scope.names.lookup x = some .local:=by first | exact .inl rfl | exact .inr rfl) :
  PSt X (.Assign [.Name x pos'] e pos) (asgN i f):=z3o (zdi hN hi hx he hs hf) fun D σ H ⟨F₀,H₀,O,F,ε,o,r,e,k⟩=>by
 simp only [asgN,y01] at e
 obtain ⟨t,et,e⟩:=e
 split at e
 next ts =>
  cases e
  refine ⟨F₀,H₀,O,F,ε,ts,r,et,fun a vs F' H' x hn nf ha q=>?_⟩
  exact k _ F' H' x.kp (r.setNew (s:=.own ts) i x ⟨a,vs,rfl,nf,r.fr a hn,ha,q⟩ fun b hb=>by
   have:b = a:=by simpa [fpS,rf] using hb
   rw [this]
   exact hn)
 next=>cases e
def tG (K:y00) (g:Fg):TG:=fun v σ H Q=>∃ F₀ H₀ O F ε t ε',RelE K F₀ H₀ O F H ε σ /\ Rep K F H t v /\ g t ε = some ε' /\ ∀ σ',RelE K F₀ H₀ O F H ε' σ' -> Q σ' H
def tGs (K:y00) (gs:List Fg):TGs:=fun vs σ H Q=>∃ F₀ H₀ O F ε ts ε',RelE K F₀ H₀ O F H ε σ /\ RepL K F H ts vs /\ gAll gs ts ε = some ε' /\ ∀ σ',RelE K F₀ H₀ O F H ε' σ' -> Q σ' H
abbrev PGt (X:Cx) (e:Expr) (g:Fg):Prop:=PG X e (tG X.K g)
abbrev PGst (X:Cx) (es:List Expr) (gs:List Fg):Prop:=PGs X es (tGs X.K gs)
theorem zdw {X:Cx} {e:Expr} {t t':TG} (h:PG X e t) (k:∀ v σ H Q,t' v σ H Q -> t v σ H Q):PG X e t':=fun pins s σ H v u Q I r q=>h pins s σ H v u Q I r (k v σ H Q q)
theorem zc9 {X:Cx} {e:List Expr} {t t':TGs} (h:PGs X e t) (k:∀ v σ H Q,t' v σ H Q -> t v σ H Q):PGs X e t':=fun pins s σ H v u Q I r q=>h pins s σ H v u Q I r (k v σ H Q q)
theorem g_nm (i:Nat) {x:Str} (hN:X.N.Nodup) (hi:X.N[i]? = some x:=by rfl) (hx:Loc X.env.scope x:=by first | exact Or.inl rfl | exact Or.inr rfl)
  (hf:X.fn x = true \/ X.env.scope.names.lookup x = some .local:=by first | exact .inl rfl | exact .inr rfl):PGt X (.Name x pos) (gNm i):=zdw (zeh hN hi hx hf) fun v σ H Q ⟨F₀,H₀,O,F,ε,t,ε',r,q,e,k⟩=>by
 cases e
 exact k _ (r.set i q)
theorem zi6:PGst X [] []:=zc9 zeg fun vs σ H Q ⟨F₀,H₀,O,F,ε,ts,ε',r,q,e,k⟩=>by
 cases ts with
 | nil =>
  cases e
  simp only [RepL] at q
  exact ⟨q,k σ r⟩
 | cons t ts=>cases e
theorem zdq {es:List Expr} {g:Fg} {gs:List Fg} (h1:PGt X e g) (h2:PGst X es gs) (hs:(assignEach (e :: es) X.env).map (·.2) = assign e X.env :: (assignEach es X.env).map (·.2):=by rfl):PGst X (e :: es) (g :: gs) :=
 zc9 (zcl h1 h2 hs) fun vs σ H Q ⟨F₀,H₀,O,F,ε,ts,ε',r,q,e,k⟩=>by
 cases ts with
 | nil=>cases e
 | cons t ts =>
  simp only [gAll,y01] at e
  obtain ⟨ε1,e1,e2⟩:=e
  simp only [RepL] at q
  obtain ⟨v,vr,rfl,q1,q2⟩:=q
  exact ⟨v,vr,rfl,F₀,H₀,O,F,ε,t,ε1,r,q1,e1,fun σ1 r1=>⟨F₀,H₀,O,F,ε1,ts,ε',r1,q2,e2,k⟩⟩
theorem z8y:∀ {gs:List Fg} {ts:List T} {ε ε':Ev},gAll gs ts ε = some ε' -> ts.length = gs.length
 | [],[],_,_,_=>rfl
 | [],_ :: _,_,_,h=>by cases h
 | _ :: _,[],_,_,h=>by cases h
 | g :: gs,t :: ts,ε,ε',h=>by
  simp only [gAll,y01] at h
  obtain ⟨ε1,_,h⟩:=h
  simp [z8y h]
theorem zi5 {es:List Expr} {k:Nat} {gs:List Fg} (h:PGst X es gs) (hc:X.calm = true:=by rfl) (hn:(assignEach es X.env).length = gs.length:=by rfl) (hst:(assignEach es X.env).findIdx? (·.1) = none:=by rfl) :
  PGt X (.Tuple es k pos) (gTu gs):=zdw (zg7 hc h hn hst) fun v σ H Q ⟨F₀,H₀,O,F,ε,t,ε',r,q,e,k⟩=>by
 unfold gTu at e
 split at e
 next ts =>
  simp only [Rep] at q
  obtain ⟨a,vs,rfl,hs,hr⟩:=q
  exact ⟨a,vs,rfl,hs,by rw [<- hr.length]; exact z8y e,F₀,H₀,O,F,ε,ts,ε',r,hr,e,k⟩
 next=>cases e
structure ItOk (K:y00) (J:It) (F1:Addr -> Prop) (H1:Hp) (ts:List T):Prop where
 go:∀ i F H t,Kp K F1 H1 F H -> Dom F H -> ts[i]? = some t -> J.go i H
 yld:∀ i F H t x H',Kp K F1 H1 F H -> Dom F H -> ts[i]? = some t -> J.yld i H x H' -> ∃ F',Ext F H F' H' /\ Rep K F' H' t x
 stop:∀ i F H,Kp K F1 H1 F H -> ts.length <= i -> J.stop i H
def tI (K:y00) (f:Fi):TI:=fun σ H R=>∃ F₀ H₀ O F ε ts,RelE K F₀ H₀ O F H ε σ /\ f ε = some ts /\ ∀ J F' H',Ext F H F' H' -> ItOk K J F' H' ts -> R J H'
abbrev PIt (X:Cx) (tg e:Expr) (f:Fi):Prop:=PI X tg e (tI X.K f)
theorem zc8 {X:Cx} {tg e:Expr} {t t':TI} (h:PI X tg e t) (k:∀ σ H R,t' σ H R -> t σ H R):PI X tg e t':=fun pins s σ H R I q=>h pins s σ H R I (k σ H R q)
theorem zbb {K:y00} {a:Addr} {F1:Addr -> Prop} {H1:Hp} {ts:List T} {vs:List V} (fa:F1 a) (hr:Rd H1 a (.lst vs)) (q:RepL K F1 H1 ts vs):ItOk K (Itl K a) F1 H1 ts where
 go:=fun i F H t kp d e=>by
  obtain ⟨v,h1,_⟩:=q.get e
  exact ⟨vs,v,.inl (kp.lst _ _ fa hr).2,h1⟩
 yld:=fun i F H t x H' kp d e y=>by
  obtain ⟨rfl,y⟩:=y
  obtain ⟨v,h1,h2⟩:=(q.kp kp).get e
  have:=y vs (.inl (kp.lst _ _ fa hr).2)
  rw [h1] at this
  cases this
  exact ⟨F,Ext.refl d,h2⟩
 stop:=fun i F H kp hl=>⟨vs,.inl (kp.lst _ _ fa hr).2,by rw [<- q.length]; exact hl⟩
theorem zcz {K:y00} {a:Addr} {F1:Addr -> Prop} {H1:Hp} {ts:List T} {vs:List V} (hr:SqT K H1 a vs) (q:RepL K F1 H1 ts vs):ItOk K (Itt K a) F1 H1 ts where
 go:=fun i F H t kp d e=>by
  obtain ⟨v,h1,_⟩:=q.get e
  exact ⟨vs,v,kp.tup _ _ hr,h1⟩
 yld:=fun i F H t x H' kp d e y=>by
  obtain ⟨rfl,y⟩:=y
  obtain ⟨v,h1,h2⟩:=(q.kp kp).get e
  have:=y vs (kp.tup _ _ hr)
  rw [h1] at this
  cases this
  exact ⟨F,Ext.refl d,h2⟩
 stop:=fun i F H kp hl=>⟨vs,kp.tup _ _ hr,by rw [<- q.length]; exact hl⟩
theorem z7z (lo hi:Int):(rng lo hi).length = (hi - lo).toNat:=by simp [rng]
theorem zd0 {K:y00} {F1:Addr -> Prop} {H1:Hp} (lo hi:Int):ItOk K (Itr lo (hi - lo).toNat) F1 H1 (rng lo hi) where
 go:=fun i F H t kp d e=>by
  have h:=(y0k.mp e).1
  rw [z7z] at h
  exact h
 yld:=fun i F H t x H' kp d e y=>by
  obtain ⟨rfl,rfl⟩:=y
  refine ⟨F,Ext.refl d,?_⟩
  have h:=(y0k.mp e).1
  rw [z7z] at h
  unfold rng at e
  rw [y13,List.getElem?_range h] at e
  simp at e
  subst e
  simp [Rep]
 stop:=fun i F H kp hl=>by
  rw [z7z] at hl
  exact hl
def iSq (K:y00) (tl:TE):TI:=fun σ H R=>tl σ H fun x H1=>∃ a,x = .ref a /\ (((∃ xs,SqL K H1 a xs) /\ R (Itl K a) H1) \/ ((∃ xs,SqT K H1 a xs) /\ R (Itt K a) H1))
theorem zhx {tg l:Expr} {tl:TE} (hl:PE X l tl):PI X tg l (iSq X.K tl):=by
 intro pins s σ H R I h
 refine thn (hl pins s σ H _ I h) fun v s1 ⟨x,H1,I1,r1,a,e1,q⟩=>?_
 subst e1
 cases r1
 have fp:∀ b ∈ [s1.heap.objs.size],FpOk X pins H1 b:=fun b hb=>by
  have e:b = s1.heap.objs.size:=by simpa using hb
  subst e
  exact I1.fpOk (y0o _) (I1.hok.fresh (y0o _))
 rcases q with ⟨⟨xs,hq⟩,q⟩ | ⟨⟨xs,hq⟩,q⟩
 ·obtain ⟨its,rv,p,hz⟩:=I1.list hq
  refine wpAny_pyIter_list p.isList ?_
  exact ⟨s1.heap.objs.size,[s1.heap.objs.size],_,_,H1,rfl,I1.kept (t':=s1.toks) fun b o e=>y03 _ e,zaa a _,⟨_,y0l _ rfl,rfl,rfl⟩,fp,q⟩
 ·obtain ⟨its,rv,p,hz⟩:=I1.tuple hq
  refine wpAny_pyIter_tuple (show s1.heap.IsTuple a its.toArray from p) ?_
  exact ⟨s1.heap.objs.size,[s1.heap.objs.size],_,_,H1,rfl,I1.kept (t':=s1.toks) fun b o e=>y03 _ e,z99 a _,⟨_,y0l _ rfl,rfl,rfl⟩,fp,q⟩
theorem z50 {tg l:Expr} {f:Fe} (hl:PEv X l f):PIt X tg l (z06 f):=zc8 (zhx hl) fun σ H R ⟨F₀,H₀,O,F,ε,ts,r,e,k⟩=>by
 simp only [z06,y01] at e
 obtain ⟨t,et,e⟩:=e
 split at e
 ·cases e
  refine ⟨F₀,H₀,O,F,ε,_,r,et,fun v F' H' x q=>?_⟩
  simp only [Rep] at q
  obtain ⟨a,vs,rfl,hs,hr⟩:=q
  exact ⟨a,rfl,.inr ⟨⟨vs,hs⟩,k _ F' H' x (zcz hs hr)⟩⟩
 ·cases e
  refine ⟨F₀,H₀,O,F,ε,_,r,et,fun v F' H' x q=>?_⟩
  simp only [Rep] at q
  obtain ⟨a,vs,rfl,fa,hs,hr⟩:=q
  exact ⟨a,rfl,.inl ⟨⟨vs,.inl hs⟩,k _ F' H' x (zbb fa hs hr)⟩⟩
 ·cases e
theorem zgz {tg a:Expr} {f:Fe} {p pos:Pos} (hm:X.mg "range" = none) (ha:PEr X a f) (hg:Gl X "range":=by rfl) (hs:y0a [a] X.env = [(false,eval a X.env)]:=by rfl) (hs2:y0a [a] X.env = (false,eval a X.env) :: y0a [] X.env:=by rfl) :
  PIt X tg (.Call (.Name "range" p) [a] [] pos) (z23 f):=zc8 (zap hg hm (z37 ha z5e hs2) hs) fun σ H R ⟨F₀,H₀,O,F,ε,ts,r,e,k⟩=>by
 simp only [z23,y01] at e
 obtain ⟨t,et,e⟩:=e
 split at e
 next j =>
  split at e
  next hz =>
   cases e
   refine ⟨F₀,H₀,O,F,ε,_,r,et,fun v F' H' x q=>⟨j,by rw [q.int],?_,?_,k _ F' H' x (by simpa using zd0 0 j)⟩⟩
   ·simp [z4a] at hz
    omega
   ·simp [z4a] at hz
    omega
  next=>cases e
 next=>cases e
theorem zaj {tg iter:Expr} {body:List Stmt} {it:Fi} {gg:Fg} {bb:Fs} (hp:PassesOwn (model X.prog X.w) X.A X.env X.xe) (hi:PIt X tg iter it) (hg:PGt X tg gg) (hb:PBt X body bb) (hc:X.calm = true:=by rfl)
  (hs:∀ x,foldedSetIterable iter X.env x = pure x:=by intro _; rfl):PSt X (.For tg iter body [] pos) (for_ it gg bb):=z3o (zg5 hp hc hi hg hb hs) fun D σ H ⟨F₀,H₀,O,F,ε,o,r,e,k⟩=>by
 simp only [for_,y01] at e
 obtain ⟨ts,et,e⟩:=e
 refine ⟨F₀,H₀,O,F,ε,ts,r,et,fun J F1 H1 x1 ok=>?_⟩
 refine ⟨fun i m σ' H'=>m = ts.length - i /\ i <= ts.length /\ ∃ F' ε' ,Kp X.K F1 H1 F' H' /\ RelE X.K F₀ H₀ O F' H' ε' σ' /\ forL gg bb (ts.drop i) ε' = some o,⟨_,rfl,y1u _,F1,ε,Kp.refl,r.ext x1,by simpa using e⟩,?_⟩
 rintro i m σ' H' ⟨rfl,hi',F',ε',kp,r',e'⟩
 by_cases hlt:i < ts.length
 ·have hd:ts.drop i = ts[i] :: ts.drop (i + 1):=List.drop_eq_getElem_cons hlt
  have hg':ts[i]? = some ts[i]:=y0v hlt
  rw [hd] at e'
  simp only [forL,y01] at e'
  obtain ⟨ε1,eg,o1,eb,e'⟩:=e'
  refine .inr ⟨ok.go i F' H' _ kp r'.dom hg',fun σ2 H2=>∃ m',m' < ts.length - i /\ (m' = ts.length - (i + 1) /\ i + 1 <= ts.length /\ ∃ F2 ε2,Kp X.K F1 H1 F2 H2 /\ RelE X.K F₀ H₀ O F2 H2 ε2 σ2 /\ forL gg bb (ts.drop (i + 1)) ε2 = some o),fun _ _ z=>z,fun x H2 y=>?_⟩
  obtain ⟨F2,x2,rx⟩:=ok.yld i F' H' _ x H2 kp r'.dom hg' y
  refine ⟨F₀,H₀,O,F2,ε',_,ε1,r'.ext x2,rx,eg,fun σ3 r3=>⟨F₀,H₀,O,F2,ε1,o1,r3,eb,?_⟩⟩
  have kp2:Kp X.K F1 H1 F2 H2:=kp.trans x2.kp
  cases o1 with
  | nx ε2=>exact fun σ4 F4 H4 k4 r4=>⟨_,by omega,rfl,hlt,F4,ε2,kp2.trans k4,r4,e'⟩
  | ct ε2=>exact fun σ4 F4 H4 k4 r4=>⟨_,by omega,rfl,hlt,F4,ε2,kp2.trans k4,r4,e'⟩
  | bk ε2 =>
   cases e'
   exact fun σ4 F4 H4 k4 r4=>k σ4 F4 H4 ((x1.kp.trans kp2).trans k4) r4
  | rt t =>
   cases e'
   exact k
  | rtm t ε2 =>
   cases e'
   exact k
  | rto s =>
   cases e'
   exact k
 ·have hd:ts.drop i = []:=List.drop_eq_nil_of_le (by omega)
  rw [hd] at e'
  cases e'
  exact .inl ⟨ok.stop i F' H' kp (by omega),k σ' F' H' (x1.kp.trans kp) r'⟩
theorem zhn (i:Nat) {x:Str} {px apos cpos:Pos} (he:PEr X e f) (hN:X.N[i]? = some x:=by rfl) (hv:Vis X.env.scope x:=by first | exact Or.inl rfl | exact Or.inr (Or.inl rfl) | exact Or.inr (Or.inr rfl)) (hd:(x == ("__debug__":Str)) = false:=by decide)
  (hcd:(x == ("__classdict__":Str)) = false:=by decide) (hs1:y0a [e] X.env = (false,eval e X.env) :: y0a [] X.env:=by rfl)
  (hbase:attributeBase (.Name x px) "extend" X.env (eval (.Name x px) X.env) = eval (.Name x px) X.env:=by rfl)
  (hfew:((backTo cpos (y0a [e] X.env)).all (fun x=>!x.1) && (backToKw cpos (keywordEach [] X.env)).all (fun x=>x.1.isSome)
   && decide (([e]:List Expr).length + ([]:List Keyword).length + (if ([]:List Keyword).isEmpty then 0 else 1) < 30)) = true:=by rfl)
  (hline:(apos.endLine == cpos.line) = true:=by rfl) (hplain:(backTo cpos (y0a [] X.env)).any (·.1) = false:=by rfl)
  (hsw:swapsWith (.Call (.Attribute (.Name x px) "extend" apos) [e] [] cpos) none pos.line X.env = pure false:=by rfl) :
  PSt X (.Expr (.Call (.Attribute (.Name x px) "extend" apos) [e] [] cpos) pos) (ext i f) :=
 z3o (zan (zgf PySem.F.plainAttrs_list PySem.F.slot_list_extend PySem.F.type_list_extend z9t (pv i hN hv hd hcd) (z37 he z5e hs1) hbase hfew hline hs1 hplain) hsw) fun D σ H ⟨F₀,H₀,O,F,ε,o,r,e,k⟩=>by
 unfold ext at e
 split at e
 next ts he =>
  simp only [y01] at e
  obtain ⟨t,et,e⟩:=e
  split at e
  next us =>
   split at e
   next hz =>
    cases e
    obtain ⟨v,h1,a,vs,rfl,n,h0,hh,hr⟩:=r.val _ _ he
    refine ⟨_,h1,.inl ⟨rfl,_,SqL.of hh⟩,F₀,H₀,O,F,ε,_,r,et,fun v F' H' x q=>?_⟩
    obtain ⟨b,ws,rfl,hb,hw⟩:=q.lst
    have r1:=r.ext x
    obtain ⟨v1,h1',a1,vs1,e1,n1,h01,hh1,hr1⟩:=r1.val _ _ he
    rw [h1] at h1'
    cases h1'
    cases e1
    refine ⟨a,b,vs1,ws,rfl,rfl,hh1,hb,by rw [z3q,<- hr1.length,<- hw.length]; exact hz,?_⟩
    obtain ⟨kp,r2⟩:=r1.mut (s':=.own (ts ++ us)) (o':=.lst (vs1 ++ ws)) he rfl h1 n1 h0 hh1 (.inl ⟨_,rfl⟩) fun kp=>⟨a,_,rfl,n1,h0,z08,(hr1.kp kp).append (hw.kp kp)⟩
    exact k σ F' _ (x.kp.trans kp) r2
   next=>cases e
  next=>cases e
 next=>cases e
end
end D
end
section
namespace D
open PySem PySem.Spec PyProof.Rows L2
variable [Tbl]
section
variable {X:Cx} {a b c e:Expr} {es:List Expr} {f g h:Fe} {fs:List Fe} {ft gt:Ft} {pos p:Pos}
theorem z3n:PAr X [] []:=z96 z5e fun σ H Q ⟨F₀,H₀,O,F,ε,ts,r,e,k⟩=>by
 cases e
 exact k [] F H (Ext.refl r.dom) .nil
theorem z1k (ha:PEr X e f) (hr:PAr X es fs) (hs:y0a (e :: es) X.env = (false,eval e X.env) :: y0a es X.env:=by rfl):PAr X (e :: es) (f :: fs):=z96 (z37 ha hr hs) fun σ H Q ⟨F₀,H₀,O,F,ε,ts,r,e,k⟩=>by
 simp only [args,y01,y07] at e
 obtain ⟨t,et,us,eu,rfl⟩:=e
 refine ⟨F₀,H₀,O,F,ε,t,r,et,fun v F1 H1 x1 q1=>⟨F₀,H₀,O,F1,ε,us,r.ext x1,eu,fun vs F2 H2 x2 q2=>?_⟩⟩
 exact k _ F2 H2 (x1.trans x2) (.cons (q1.ext x2) q2)
theorem z07:PAv X [] []:=z96 z5e fun σ H Q ⟨F₀,H₀,O,F,ε,ts,r,e,k⟩=>by
 cases e
 exact k [] F H (Ext.refl r.dom) RepL.nil
theorem z00 (ha:PEv X e f) (hr:PAv X es fs) (hs:y0a (e :: es) X.env = (false,eval e X.env) :: y0a es X.env:=by rfl):PAv X (e :: es) (f :: fs):=z96 (z37 ha hr hs) fun σ H Q ⟨F₀,H₀,O,F,ε,ts,r,e,k⟩=>by
 simp only [args,y01,y07] at e
 obtain ⟨t,et,us,eu,rfl⟩:=e
 refine ⟨F₀,H₀,O,F,ε,t,r,et,fun v F1 H1 x1 q1=>⟨F₀,H₀,O,F1,ε,us,r.ext x1,eu,fun vs F2 H2 x2 q2=>?_⟩⟩
 exact k _ F2 H2 (x1.trans x2) (RepL.cons (q1.ext x2) q2)
theorem z1i {x1} (h:PAv X es fs):PEv X (.Tuple es x1 pos) (z01 fs):=z0l (zg9 h) fun σ H Q ⟨F₀,H₀,O,F,ε,t,r,e,k⟩=>by
 simp only [z01,y01] at e
 obtain ⟨ts,et,e⟩:=e
 split at e
 next hz =>
  cases e
  refine ⟨F₀,H₀,O,F,ε,ts,r,et,fun vs F1 H1 x1 q1=>⟨by rw [z3q,<- q1.length]; exact hz,fun p hp=>?_⟩⟩
  have x2:=Ext.laid (o:=.tup vs) x1.dom hp
  refine k _ F1 _ (x1.trans x2) ?_
  simp only [Rep]
  exact ⟨p,vs,rfl,SqT.of z08,q1.ext x2⟩
 next=>cases e
theorem ze7 (h:PAv X es fs):PEn X (.List es pos) (z0n fs):=z0l (zgd h) fun σ H Q ⟨F₀,H₀,O,F,ε,us,r,e,k⟩=>by
 simp only [z0n,y01] at e
 obtain ⟨ts,et,e⟩:=e
 split at e
 next hz =>
  cases e
  refine ⟨F₀,H₀,O,F,ε,_,r,et,fun vs F1 H1 x1 q1=>⟨by rw [z3q,<- q1.length]; exact hz,fun p hp=>?_⟩⟩
  have x2:=Ext.laid (o:=.lst vs) x1.dom hp
  refine k p vs F1 _ (x1.trans x2) ?_ ?_ z08 (q1.ext x2)
  ·exact x1.same.none hp
  ·intro fp
   obtain ⟨o,eo⟩:=x1.dom p fp
   rw [hp] at eo
   cases eo
 next=>cases e
theorem zdg (h:PAv X es fs):PEv X (.List es pos) (z0n fs):=n2v (ze7 h) fun ε t e=>by
 simp only [z0n,y01] at e
 obtain ⟨ts,et,e⟩:=e
 split at e
 ·cases e
  exact ⟨_,rfl⟩
 ·cases e
mutual
theorem z8u {F:Addr -> Prop} {pins:List (Addr × Obj)} {σ:L2.St} {H:Hp} {s:y04} (I:Inv X pins σ H s):∀ {t:T} {v:V} {u:Value},Rep X.K F H t v -> RelV v u -> ∃ as,Reads s.heap u t as
 | .none,v,u,h,r=>by
  simp only [Rep] at h
  subst h
  cases r
  exact ⟨_,.none⟩
 | .bool b,v,u,h,r=>by
  simp only [Rep] at h
  subst h
  cases r
  exact ⟨_,.bool b⟩
 | .int i,v,u,h,r=>by
  simp only [Rep] at h
  subst h
  obtain ⟨t,rfl⟩:=r
  exact ⟨_,.int i t⟩
 | .str x,v,u,h,r=>by
  simp only [Rep] at h
  subst h
  obtain ⟨t,rfl⟩:=r
  exact ⟨_,.str x t⟩
 | .dict _,v,u,h,r=>by simp [Rep] at h
 | .tuple ts,v,u,h,r=>by
  simp only [Rep] at h
  obtain ⟨a,vs,rfl,hs,hr⟩:=h
  cases r
  obtain ⟨its,rv,⟨o,h1,h2,n,h3⟩,hz⟩:=I.tuple hs
  obtain ⟨as,ra⟩:=z2z I hr rv
  exact ⟨_,.tuple h1 h2 h3 (by simpa using ra)⟩
 | .list ts,v,u,h,r=>by
  simp only [Rep] at h
  obtain ⟨a,vs,rfl,fa,hs,hr⟩:=h
  cases r
  obtain ⟨z,its,n,rv,hl,e⟩:=Inv.lstR I hs
  obtain ⟨as,ra⟩:=z2z I hr rv
  exact ⟨_,.list e rfl rfl (by simpa using ra)⟩
theorem z2z {F:Addr -> Prop} {pins:List (Addr × Obj)} {σ:L2.St} {H:Hp} {s:y04} (I:Inv X pins σ H s):∀ {ts:List T} {vs:List V} {us:List Value},RepL X.K F H ts vs -> Vals vs us -> ∃ as,ReadsAll s.heap us ts as
 | [],vs,us,h,r=>by
  simp only [RepL] at h
  subst h
  cases r
  exact ⟨_,.nil⟩
 | t :: ts,vs,us,h,r=>by
  simp only [RepL] at h
  obtain ⟨v,vr,rfl,h1,h2⟩:=h
  cases r with
  | cons r1 r2 =>
   obtain ⟨as,q1⟩:=z8u I h1 r1
   obtain ⟨bs,q2⟩:=z2z I h2 r2
   exact ⟨_,.cons q1 q2⟩
end
theorem z1d {O F:Addr -> Prop} {pins:List (Addr × Obj)} {σ:L2.St} {H:Hp} {s:y04} (I:Inv X pins σ H s) {t:T} {v:V} {u:Value} (h:RepR X.K O F H t v) (r:RelV v u):∃ as,Reads s.heap u t as:=by
 rcases h with h | ⟨ts,a,vs,rfl,rfl,ha,h⟩
 ·exact z8u I h r
 ·cases r
  obtain ⟨z,its,n,rv,hl,e⟩:=Inv.lstR I (.inl ha)
  obtain ⟨as,ra⟩:=z2z I h rv
  exact ⟨_,.list e rfl rfl (by simpa using ra)⟩
theorem z6z {t:T} (h:okT t = true):t.canLay0 = true /\ t.depth <= 60:=by
 simp only [okT,y16,decide_eq_true_eq] at h
 exact h
theorem zgn {t:List T} (h:okL t = true):y1b t = true /\ y19 t <= 60:=by
 simp only [okL,y16,decide_eq_true_eq] at h
 exact h
def zci (K:y00) (n:Bool):R2:=fun x y H Q=>∃ (O F:Addr -> Prop) (s t:T),RepR K O F H s x /\ RepR K O F H t y /\ okT s = true /\ okT t = true /\ Q (.bl (if n then !PyData.eqv s t else y1r s t)) H
theorem z5f (hu:X.A.units + 64 < cLine):OpR X (compareOp .Eq) (zci X.K false):=by
 intro pins s σ H x y v u Q I rx ry ⟨O,F,d,t,h1,h2,o1,o2,q⟩
 obtain ⟨as,ra⟩:=z1d I h1 rx
 obtain ⟨bs,rb⟩:=z1d I h2 ry
 obtain ⟨c1,l1⟩:=z6z o1
 obtain ⟨c2,l2⟩:=z6z o2
 refine SeqAt.compareEq_reads ra rb c1 c2 (by have:=Nat.min_le_left d.depth t.depth; omega) ?_
 exact ⟨.bl _,H,I,rfl,q⟩
theorem z6x (hu:X.A.units + 64 < cLine):OpR X (compareOp .NotEq) (zci X.K true):=by
 intro pins s σ H x y v u Q I rx ry ⟨O,F,d,t,h1,h2,o1,o2,q⟩
 obtain ⟨as,ra⟩:=z1d I h1 rx
 obtain ⟨bs,rb⟩:=z1d I h2 ry
 obtain ⟨c1,l1⟩:=z6z o1
 obtain ⟨c2,l2⟩:=z6z o2
 refine SeqAt.compareNe_reads ra rb c1 c2 (by have:=Nat.min_le_left d.depth t.depth; omega) ?_
 exact ⟨.bl _,H,I,rfl,q⟩
theorem zhu {op:CmpOp} {R:R2} {o:T -> T -> Option T} (ho:OpR X (compareOp op) R) (h2:Op2 X.K o R) (ha:PEr X a f) (hb:PEr X b g) (hm:behindInMarks op b = false:=by first | exact zdp _ | rfl):PEv X (.Compare a [op] [b] pos) (op2 o f g):=z0l (zej ho ha hb hm) (z22 h2)
theorem z3p {op:CmpOp} {R:R2} {o:T -> T -> Option T} (ho:OpR X (compareOp op) R) (h2:Op2 X.K o R) (ha:PEr X a f) (hb:PEr X b g) (hm:behindInMarks op b = false:=by first | exact zdp _ | rfl):PTt X (.Compare a [op] [b] pos) (tstB (op2 o f g)) :=
 z7t (zea ho ha hb hm) fun σ H Q ⟨F₀,H₀,O,F,ε,b,r,e,k⟩=>by
 simp only [tstB,y01] at e
 obtain ⟨t,et,e⟩:=e
 split at e
 ·cases e
  refine z22 h2 σ H _ ⟨F₀,H₀,O,F,ε,_,r,et,fun v F' H' x q=>?_⟩
  simp only [Rep] at q
  exact ⟨_,q,k F' H' x⟩
 ·cases e
theorem z5g:Op2 X.K oEq (zci X.K false):=by
  intro O F H x y t vx vy Q d rx ry e k
  unfold oEq at e
  split at e
  next hz =>
   cases e
   rw [y16] at hz
   exact ⟨O,F,x,y,rx,ry,hz.1,hz.2,k _ F H (Ext.refl d) (by simp [Rep])⟩
  next=>cases e
theorem z6y:Op2 X.K oNe (zci X.K true):=by
  intro O F H x y t vx vy Q d rx ry e k
  unfold oNe at e
  split at e
  next hz =>
   cases e
   rw [y16] at hz
   exact ⟨O,F,x,y,rx,ry,hz.1,hz.2,k _ F H (Ext.refl d) (by simp [Rep])⟩
  next=>cases e
def rInT (K:y00) (n:Bool):R2:=fun x y H Q=>∃ (O F:Addr -> Prop) (s:T) (ts:List T),RepR K O F H s x /\ (RepR K O F H (.tuple ts) y \/ RepR K O F H (.list ts) y) /\ okT s = true /\ okL ts = true /\ Q (.bl (if n then !hasT s ts else hasT s ts)) H
theorem zau (hu:X.A.units + 64 < cLine):OpR X (compareOp .NotIn) (rInT X.K true):=by
 intro pins s σ H x y v u Q I rx ry ⟨O,F,d,ts,h1,h2,o1,o2,q⟩
 obtain ⟨as,ra⟩:=z1d I h1 rx
 obtain ⟨c1,l1⟩:=z6z o1
 obtain ⟨c2,l2⟩:=zgn o2
 have hm:=Nat.min_le_left (y19 ts) d.depth
 rcases h2 with h2 | h2
 ·obtain ⟨bs,rb⟩:=z1d I h2 ry
  exact SeqAt.notIn_tuple_reads rb ra c2 c1 (by omega) ⟨.bl _,H,I,rfl,q⟩
 ·obtain ⟨bs,rb⟩:=z1d I h2 ry
  exact SeqAt.notIn_list_reads rb ra c2 c1 (by omega) ⟨.bl _,H,I,rfl,q⟩
theorem zgl {n:Bool}:Op2 X.K (oIn n) (rInT X.K n):=by
 intro O F H x y t vx vy Q d rx ry e k
 unfold oIn at e
 split at e
 ·split at e
  next hz =>
   cases e
   rw [y16] at hz
   exact ⟨O,F,x,_,rx,.inl ry,hz.1,hz.2,k _ F H (Ext.refl d) (by simp [Rep])⟩
  next=>cases e
 ·split at e
  next hz =>
   cases e
   rw [y16] at hz
   exact ⟨O,F,x,_,rx,.inr ry,hz.1,hz.2,k _ F H (Ext.refl d) (by simp [Rep])⟩
  next=>cases e
 ·cases e
theorem zgk:Op2 X.K oLt (fun x y H Q=>rI0 (fun i j=>.bl (decide (i < j))) x y H Q \/ ∃ i j,x = .str i /\ y = .str j /\ Q (.bl (decide (i.cps.toList < j.cps.toList))) H):=by
  intro O F H x y t vx vy Q d rx ry e k
  unfold oLt at e
  split at e
  ·cases e
   rw [rx.int,ry.int]
   exact .inl ⟨_,_,rfl,rfl,k _ F H (Ext.refl d) (by simp [Rep])⟩
  ·cases e
   rw [rx.str,ry.str]
   exact .inr ⟨_,_,rfl,rfl,k _ F H (Ext.refl d) (by simp [Rep,z9b])⟩
  ·cases e
theorem zfy (ha:PEr X a f):PEv X (.UnaryOp .USub a pos) (op1 oNeg f):=z0l (zhy zfl ha) fun σ H Q ⟨F₀,H₀,O,F,ε,t,r,e,k⟩=>by
 simp only [op1,y01] at e
 obtain ⟨x,ex,e⟩:=e
 unfold oNeg at e
 split at e
 ·cases e
  exact ⟨F₀,H₀,O,F,ε,_,r,ex,fun v F1 H1 x1 rx=>⟨_,rx.int,k _ F1 H1 x1 (by simp [Rep])⟩⟩
 ·cases e
def OpN (K:y00) (o:List T -> Option T) (R:List V -> Hp -> VK -> Prop):Prop :=
 ∀ (O F:Addr -> Prop) (H:Hp) (ts:List T) (t:T) (vs:List V) (Q:VK),Dom F H -> Paired (RepR K O F H) ts vs -> o ts = some t ->
  (∀ v F' H',Ext F H F' H' -> Rep K F' H' t v -> Q v H') -> R vs H Q
theorem z4g {o:List T -> Option T} {R:List V -> Hp -> VK -> Prop} (hR:OpN X.K o R):∀ σ H Q,tV X.K (opN o fs) σ H Q -> tCB R (tAR X.K fs) σ H Q:=by
 rintro σ H Q ⟨F₀,H₀,O,F,ε,t,r,e,k⟩
 simp only [opN,y01] at e
 obtain ⟨ts,et,eo⟩:=e
 exact ⟨F₀,H₀,O,F,ε,ts,r,et,fun vs F1 H1 x1 q=>hR O F1 H1 ts t vs Q x1.dom q eo fun v F' H' x3 q3=>k v F' H' (x1.trans x3) q3⟩
theorem ze8 (hm:X.mg "len" = none) (ha:PAr X (e :: es) fs) (hg:Gl X "len":=by rfl) (he:y0a (e :: es) X.env = (false,eval e X.env) :: y0a es X.env:=by rfl) (hpl:(backTo pos (y0a es X.env)).any (·.1) = false:=by rfl) :
  PEv X (.Call (.Name "len" p) (e :: es) [] pos) (opN oLen fs):=z0l (z44 (z7l.or z7k) hg hm PySem.boot_len ha (he:=he) (hpl:=hpl)) (z4g (by
 intro O F H ts t vs Q d q e k
 unfold oLen at e
 split at e
 ·cases e
  cases q with
  | cons q1 q2 =>
   cases q2
   obtain ⟨a,ws,rfl,hs,hr⟩:=q1.tup
   exact .inl ⟨a,ws,rfl,.inr hs,k _ F H (Ext.refl d) (by simp [Rep,hr.length])⟩
 ·cases e
  cases q with
  | cons q1 q2 =>
   cases q2
   obtain ⟨a,ws,rfl,hs,hr⟩:=q1.lst
   exact .inl ⟨a,ws,rfl,.inl (.inl hs),k _ F H (Ext.refl d) (by simp [Rep,hr.length])⟩
 ·split at e
  next hz =>
   cases e
   cases q with
   | cons q1 q2 =>
    cases q2
    exact .inr ⟨_,by rw [q1.str],by rw [z3q]; exact hz,k _ F H (Ext.refl d) (by simp [Rep])⟩
  next=>cases e
 ·cases e))
theorem zhr (hm:X.mg "min" = none) (ha:PAr X (e :: es) fs) (hc:X.calm = true:=by rfl) (hg:Gl X "min":=by rfl) (he:y0a (e :: es) X.env = (false,eval e X.env) :: y0a es X.env:=by rfl) (hpl:(backTo pos (y0a es X.env)).any (·.1) = false:=by rfl) :
  PEv X (.Call (.Name "min" p) (e :: es) [] pos) (opN oMin fs):=z0l (z44 (zbu hc) hg hm (by decide +kernel) ha (he:=he) (hpl:=hpl)) (z4g (by
 intro O F H ts t vs Q d q e k
 unfold oMin at e
 split at e
 ·cases e
  cases q with
  | cons q1 q2 =>
   cases q2 with
   | cons q2 q3 =>
    cases q3
    exact ⟨_,_,by rw [q1.int,q2.int],k _ F H (Ext.refl d) (by simp [Rep])⟩
 ·cases e))
theorem zhs (hm:X.mg "max" = none) (ha:PAr X (e :: es) fs) (hc:X.calm = true:=by rfl) (hg:Gl X "max":=by rfl) (he:y0a (e :: es) X.env = (false,eval e X.env) :: y0a es X.env:=by rfl) (hpl:(backTo pos (y0a es X.env)).any (·.1) = false:=by rfl) :
  PEv X (.Call (.Name "max" p) (e :: es) [] pos) (opN oMax fs):=z0l (z44 (zbv hc) hg hm (by decide +kernel) ha (he:=he) (hpl:=hpl)) (z4g (by
 intro O F H ts t vs Q d q e k
 unfold oMax at e
 split at e
 ·cases e
  cases q with
  | cons q1 q2 =>
   cases q2 with
   | cons q2 q3 =>
    cases q3
    exact ⟨_,_,by rw [q1.int,q2.int],k _ F H (Ext.refl d) (by simp [Rep])⟩
 ·cases e))
theorem zak (hm:X.mg "tuple" = none) (ha:PAr X (e :: es) fs) (hg:Gl X "tuple":=by rfl) (he:y0a (e :: es) X.env = (false,eval e X.env) :: y0a es X.env:=by rfl) (hpl:(backTo pos (y0a es X.env)).any (·.1) = false:=by rfl) :
  PEv X (.Call (.Name "tuple" p) (e :: es) [] pos) (opN z12 fs):=z0l (zar z6c hg hm (by decide +kernel) ha (he:=he) (hpl:=hpl)) (z4g (by
 intro O F H ts t vs Q d q e k
 unfold z12 at e
 split at e
 ·cases e
  cases q with
  | cons q1 q2 =>
   cases q2
   obtain ⟨a,ws,rfl,hs,hr⟩:=q1.tup
   refine ⟨a,ws,rfl,.inr ⟨hs,k _ F H (Ext.refl d) ?_⟩⟩
   simp only [Rep]
   exact ⟨a,ws,rfl,hs,hr⟩
 ·cases e
  cases q with
  | cons q1 q2 =>
   cases q2
   obtain ⟨a,ws,rfl,hs,hr⟩:=q1.lst
   refine ⟨a,ws,rfl,.inl ⟨.inl hs,fun l hl=>?_⟩⟩
   have x1:=Ext.laid (o:=.tup ws) d hl
   refine k _ F _ x1 ?_
   simp only [Rep]
   exact ⟨l,ws,rfl,SqT.of z08,hr.ext x1⟩
 ·cases e))
theorem zfo (h:PEr X e f) (he:∀ whole,isTrue e X.env whole = (do let v <- whole; standAt e.pos; holding [v] (truthy v)):=by intro _; rfl):PTt X e (tstB f):=z7t (zg3 h he) fun σ H Q ⟨F₀,H₀,O,F,ε,b,r,e,k⟩=>by
 simp only [tstB,y01] at e
 obtain ⟨t,et,e⟩:=e
 split at e
 ·cases e
  exact ⟨F₀,H₀,O,F,ε,_,r,et,fun v F1 H1 x1 rx=>⟨_,rx.bl,k F1 H1 x1⟩⟩
 ·cases e
theorem zhf {j pos'} (ha:PEr X a f):PTt X (.Compare a [.Is] [.Constant .none j pos'] pos) (tstB (op1 oIsN f)):=z7t (zdh (zgg ha)) fun σ H Q ⟨F₀,H₀,O,F,ε,t,r,e,k⟩=>by
 simp only [tstB,op1,oIsN,y01] at e
 obtain ⟨_,⟨x,ex,e1⟩,e⟩:=e
 cases e1
 cases e
 refine ⟨F₀,H₀,O,F,ε,x,r,ex,fun v F1 H1 x1 rx=>⟨_,?_,k F1 H1 x1⟩⟩
 cases x with
 | none=>rw [rx.non]; simp
 | bool b=>rw [rx.bl]; simp
 | int b=>rw [rx.int]; simp
 | str b=>rw [rx.str]; simp
 | tuple b=>obtain ⟨_,_,e,_⟩:=rx.tup; rw [e]; simp
 | list b=>obtain ⟨_,_,e,_⟩:=rx.lst; rw [e]; simp
 | dict b=>rcases rx with rx | ⟨_,_,_,z,_⟩; simp [Rep] at rx; cases z
theorem zdc {j pos'} (ha:PEr X a f):PTt X (.Compare a [.IsNot] [.Constant .none j pos'] pos) (tstB (op1 z10 f)):=z7t (zdh (zel ha)) fun σ H Q ⟨F₀,H₀,O,F,ε,t,r,e,k⟩=>by
 simp only [tstB,op1,z10,y01] at e
 obtain ⟨_,⟨x,ex,e1⟩,e⟩:=e
 cases e1
 cases e
 refine ⟨F₀,H₀,O,F,ε,x,r,ex,fun v F1 H1 x1 rx=>⟨_,?_,k F1 H1 x1⟩⟩
 cases x with
 | none=>rw [rx.non]; simp
 | bool b=>rw [rx.bl]; simp
 | int b=>rw [rx.int]; simp
 | str b=>rw [rx.str]; simp
 | tuple b=>obtain ⟨_,_,e,_⟩:=rx.tup; rw [e]; simp
 | list b=>obtain ⟨_,_,e,_⟩:=rx.lst; rw [e]; simp
 | dict b=>rcases rx with rx | ⟨_,_,_,z,_⟩; simp [Rep] at rx; cases z
theorem zhe (h:PTt X e ft):PTt X (.UnaryOp .Not e pos) (notT ft):=z7t (zg4 h) fun σ H Q ⟨F₀,H₀,O,F,ε,b,r,e,k⟩=>by
 simp only [notT,y07] at e
 obtain ⟨c,ec,rfl⟩:=e
 exact ⟨F₀,H₀,O,F,ε,c,r,ec,fun F1 H1 x1=>k F1 H1 x1⟩
theorem zfh (h:PTt X e ft):PWt X (.BoolOp .And [e] pos) ft:=ze9 h
theorem zfg (h:PTt X e ft):PWt X (.BoolOp .Or [e] pos) ft:=zg1 h
theorem zhd (h:PTt X a ft) (h2:PWt X (.BoolOp .And (b :: es) pos) gt):PWt X (.BoolOp .And (a :: b :: es) pos) (andT ft gt):=zdu (zg2 h h2) fun σ H Q ⟨F₀,H₀,O,F,ε,b,r,e,k⟩=>by
 simp only [andT,y01] at e
 obtain ⟨c,ec,e⟩:=e
 refine ⟨F₀,H₀,O,F,ε,c,r,ec,fun F1 H1 x1=>?_⟩
 cases c with
 | true=>exact iteT ⟨F₀,H₀,O,F1,ε,b,r.ext x1,by simpa using e,fun F2 H2 x2=>k F2 H2 (x1.trans x2)⟩
 | false =>
  have:b = false:=by simpa using e.symm
  subst this
  exact iteF (k F1 H1 x1)
theorem w_or (h:PTt X a ft) (h2:PWt X (.BoolOp .Or (b :: es) pos) gt):PWt X (.BoolOp .Or (a :: b :: es) pos) (orT ft gt):=zdu (zhv h h2) fun σ H Q ⟨F₀,H₀,O,F,ε,b,r,e,k⟩=>by
 simp only [orT,y01] at e
 obtain ⟨c,ec,e⟩:=e
 refine ⟨F₀,H₀,O,F,ε,c,r,ec,fun F1 H1 x1=>?_⟩
 cases c with
 | true =>
  have:b = true:=by simpa using e.symm
  subst this
  exact iteT (k F1 H1 x1)
 | false=>exact iteF ⟨F₀,H₀,O,F1,ε,b,r.ext x1,by simpa using e,fun F2 H2 x2=>k F2 H2 (x1.trans x2)⟩
theorem w_t (h:PWt X e ft):PTt X e ft:=h.pt
end
end D
end
section
namespace D
open PySem PySem.Spec PyProof.Rows L2
variable [Tbl]
def spT (K:y00) (n:Nat) (d:List T -> Option T):Sp:=fun vs H Q _=>vs.length = n /\ ∃ F ts t,Dom F H /\ RepL K F H ts vs /\ d ts = some t /\ ∀ v F' H',Ext F H F' H' -> Rep K F' H' t v -> Q v H'
section
variable {X:Cx} {k n:Nat} {fa:Addr} {fd:y0b} {ps:List Str} {d:List T -> Option T} {x:Str} {p pos:Pos} {e:Expr} {es:List Expr} {fs:List Fe}
theorem zg0 (F:FnOk X.prog X.w X.K X.mg X.base CX0 k fa fd ps (spT X.K n d)) (hr:Room k X.A) (hg:Gl X x) (hm:X.mg x = some (.ref fa)) (hk:y08 X.K (.ref fa) = true) (hb:z1y X.K fd ps [])
  (ha:PAv X (e :: es) fs) (hn:fs.length = n:=by rfl) (hdb:(x == ("__debug__":Str)) = false:=by decide) (he:y0a (e :: es) X.env = (false,eval e X.env) :: y0a es X.env:=by rfl) (hpl:(backTo pos (y0a es X.env)).any (·.1) = false:=by rfl) :
  PEv X (.Call (.Name x p) (e :: es) [] pos) (opN d fs):=z0l (zek F hr hg hm hk hb .nil zi1 ha hdb he hpl) fun σ H Q ⟨F₀,H₀,O,F,ε,t,r,e,k⟩=>by
 simp only [opN,y01] at e
 obtain ⟨ts,et,ed⟩:=e
 have hl:∀ (gs:List Fe) (us:List T),args gs ε = some us -> us.length = gs.length:=by
  intro gs
  induction gs with
  | nil=>intro us e; cases e; rfl
  | cons g gs ih =>
   intro us e
   simp only [args,y01,y07] at e
   obtain ⟨t,_,vs,ev,rfl⟩:=e
   simp [ih vs ev]
 refine ⟨F₀,H₀,O,F,ε,ts,r,et,fun vs F1 H1 x1 q=>⟨?_,F1,ts,t,x1.dom,by simpa using q,ed,fun v F' H' x2 q2=>k v F' H' (x1.trans x2) q2⟩⟩
 rw [y1p,<- q.length,hl fs ts et,hn]
end
section
variable {P:y0q} {w:World} {K:y00} {mg:Str -> Option Value} {base:Heap}
theorem z9c {F:Addr -> Prop} {H:Hp} {ts:List T} {vs:List V} {N:List Str} (dom:Dom F H) (q:RepL K F H ts vs) (n:Nat) :
  RelE K F ⟨H,0⟩ (fun a=>H a = none) F H ((ts.map fun t=>some (.imm t)) ++ y0g n none) (vs.map some ++ y0g n none):=by
 have imm:∀ (i:Nat) (s:Sl),((ts.map fun t=>some (Sl.imm t)) ++ y0g n none)[i]? = some (some s) -> ∃ t,s = .imm t /\ ts[i]? = some t:=by
  intro i s e
  by_cases hi:i < ts.length
  ·rw [y1h (by simpa using hi),y13] at e
   rw [y0v hi] at e ⊢
   simp at e
   exact ⟨_,e.symm,rfl⟩
  ·rw [y1g (by simpa using hi),List.getElem?_replicate] at e
   split at e <;> cases e
 refine ⟨by simp [q.length],fun i s e=>?_,fun i j s u v w hij e1 e2 o1=>?_,Ext.refl dom,fun _ h=>h,fun _ h=>h⟩
 ·obtain ⟨t,rfl,ht⟩:=imm i s e
  obtain ⟨v,hv,rv⟩:=q.get ht
  refine ⟨v,?_,rv⟩
  rw [y1h (by have:=(y0k.mp hv).1; simpa using this),y13,hv]
  rfl
 ·obtain ⟨t,rfl,_⟩:=imm i s e1
  cases o1
theorem zdr {x qual:Str} {st:Stmt} {f:Addr} {fd:y0b} {N ps:List Str} {k:Nat} {b:Fs} (F:Fun K x qual st f fd) (S:FnScope N ps (z02 st))
  (hb:∀ (cdv:Value) (A:Around) (outer:List Env) (s:y04) (H:Hp) (E:XK),Room k (A.deeper (envOfC qual (z02 st) s.heap.objs.size f cdv)) ->
   PBt (cxOf CX0 P w K mg base N qual (z02 st) f cdv A outer s H E).nox (z0j st) b) :
  FnOk P w K mg base CX0 (k + 1) f fd ps (spT K ps.length (runF b N.length)):=by
 refine F.ok S (fun vs H Q E h=>h.1) fun cdv A outer s H vs Q E hr h=>⟨_,hb cdv A outer s H E hr,?_⟩
 obtain ⟨hl,F,ts,t,dom,q,e,kq⟩:=h
 simp only [runF,y01] at e
 obtain ⟨o,eo,e⟩:=e
 refine ⟨F,⟨H,0⟩,fun a=>H a = none,F,_,o,?_,eo,?_⟩
 ·have:=z9c (N:=N) dom q (N.length - ts.length)
  unfold L2.start
  rw [q.length] at this ⊢
  exact this
 ·cases o with
  | rt t' =>
   cases e
   exact fun v F' H' x q=>kq v F' H' x q
  | nx ε' =>
   cases e
   exact fun σ' F' H' _ r=>kq _ F' H' r.ent (by simp [Rep])
  | bk _=>cases e
  | ct _=>cases e
  | rtm _ _=>cases e
  | rto _=>cases e
theorem zbf {f:Addr} {fd:y0b} {ps:List Str} {k n:Nat}:FnOk P w K mg base CX0 k f fd ps (spT K n fun _=>none):=by
 have no:∀ vs H Q E,¬ spT K n (fun _=>none) vs H Q E:=fun vs H Q E h=>by
  obtain ⟨_,_,_,_,_,_,e,_⟩:=h
  cases e
 exact ⟨fun vs H Q E h=>absurd h (no vs H Q E),fun A outer s H args us vs Q E _ _ _ _ h=>absurd h (no vs H Q E)⟩
end
end D
end
section
namespace D
open PySem PySem.Spec PyProof.Rows L2
variable [Tbl]
def clos (env:Env):List (Str × NameKind) -> List (Str × Addr) -> List (Str × Addr)
 | [],cs=>cs
 | x :: r,cs=>if x.2 == .free then clos env r ((x.1,(env.cells.lookup x.1).getD 0) :: cs) else clos env r cs
theorem z6a {scope:Scope} {env:Env} (h:∀ x ∈ scope.names,x.2 = .free -> ∃ c,env.cells.lookup x.1 = some c):closureFor scope env = pure (clos env scope.names []):=by
 have go:∀ (l:List (Str × NameKind)) (cs:List (Str × Addr)),(∀ x ∈ l,x.2 = .free -> ∃ c,env.cells.lookup x.1 = some c) ->
   (forIn l cs (fun x r=>(if (x.2 == NameKind.free) = true then do let a <- cellOf env x.1; pure (ForInStep.yield ((x.1,a) :: r)) else pure (ForInStep.yield r)):_ -> _ -> Sem (ForInStep (List (Str × Addr)))):Sem (List (Str × Addr))) = pure (clos env l cs):=by
  intro l
  induction l with
  | nil=>intro cs _; rfl
  | cons x r ih =>
   intro cs hl
   rw [List.forIn_cons]
   have hr:=fun y hy=>hl y (y05 _ hy)
   by_cases k:x.2 = .free
   ·obtain ⟨c,hc⟩:=hl x y0e k
    have e1:(x.2 == NameKind.free) = true:=by simp [k]
    simp only [e1,if_true,cellOf,hc,clos,Option.getD_some]
    exact ih _ hr
   ·have e1:(x.2 == NameKind.free) = false:=by simpa using k
    simp only [e1,Bool.false_eq_true,if_false,clos]
    exact ih _ hr
 have:=go scope.names [] h
 simp only [closureFor]
 exact congrArg (fun m=>m >>= fun cs=>pure cs) this
theorem z34 {env:Env}:∀ {l:List (Str × NameKind)} {cs:List (Str × Addr)},(∀ x ∈ l,x.2 = .free -> ∃ c,env.cells.lookup x.1 = some c) -> (∀ x c,cs.lookup x = some c -> env.cells.lookup x = some c) -> ∀ x c,(clos env l cs).lookup x = some c -> env.cells.lookup x = some c
 | [],cs,_,h,x,c,e=>h x c e
 | y :: r,cs,hl,h,x,c,e=>by
  unfold clos at e
  have hr:=fun z hz=>hl z (y05 _ hz)
  split at e
  next k =>
   refine z34 hr (fun x c e=>?_) x c e
   rw [y1a] at e
   split at e
   next hb =>
    obtain ⟨c',hc⟩:=hl y y0e (by simpa using k)
    have:x = y.1:=by simpa using hb
    subst this
    rw [hc] at e ⊢
    simpa using e
   next=>exact h x c e
  next=>exact z34 hr h x c e
theorem z46 {env:Env}:∀ {l:List (Str × NameKind)} {cs:List (Str × Addr)} {x:Str},((∃ y ∈ l,y.2 = .free /\ y.1 = x) \/ ∃ c,cs.lookup x = some c) -> ∃ c,(clos env l cs).lookup x = some c
 | [],cs,x,h=>by
  rcases h with ⟨y,hy,_⟩ | h
  ·cases hy
  ·exact h
 | y :: r,cs,x,h=>by
  unfold clos
  split
  next k =>
   refine z46 ?_
   rcases h with ⟨z,hz,k',e⟩ | ⟨c,h⟩
   ·rcases y09.mp hz with rfl | hz
    ·refine .inr ?_
     subst e
     rw [y1a]
     simp
    ·exact .inl ⟨z,hz,k',e⟩
   ·refine .inr ?_
    rw [y1a]
    split
    ·exact ⟨_,rfl⟩
    ·exact ⟨c,h⟩
  next k =>
   refine z46 ?_
   rcases h with ⟨z,hz,k',e⟩ | h
   ·rcases y09.mp hz with rfl | hz
    ·exact absurd (by simpa using k') k
    ·exact .inl ⟨z,hz,k',e⟩
   ·exact .inr h
def z11 (X:Cx) (N':List Str) (scope:Scope) (cl:List (Str × Addr)) (C:Addr) (s₀:y04) (H₀:Hp) (fp:List Addr) (pn:List (Addr × Obj)):Cx where
 prog:=X.prog
 w:=X.w
 K:=X.K
 mg:=X.mg
 base:=X.base
 A:=X.A
 N:=N'
 s₀:=s₀
 H₀:=H₀
 env:=compEnvC scope cl C X.env
 outer:=X.stack
 stack:=X.stack
 ex:=fp
 fn:=fun _=>false
 calm:=X.calm
 pn:=pn
 xe:=fun _ _=>False
def PTs (X:Cx) (ifs:List Expr) (cc:Ft):Prop:=∀ (pins:List (Addr × Obj)) (s:y04) (σ:L2.St) (H:Hp) (Q:Bool -> Hp -> Prop),L2.Inv X pins σ H s -> tT X.K cc σ H Q ->
 y0u (model X.prog X.w) X.A (forIn ifs true fun c r=>if r = true then do let ok <- isTrue c X.env (eval c X.env); pure (ForInStep.yield ok) else pure (ForInStep.yield r)) (TP X pins σ Q) X.xe s
theorem z8s {X:Cx}:PTs X [] (cstT true):=fun pins s σ H Q I ⟨F₀,H₀,O,F,ε,b,r,e,k⟩=>by
 cases e
 exact wpAny_tests_nil ⟨H,I,k F H (Ext.refl r.dom)⟩
theorem zac {X:Cx} {c:Expr} {cc:Ft} (h:PTt X c cc):PTs X [c] cc:=fun pins s σ H Q I q=>wpAny_tests_one (h pins s σ H Q I q)
section
variable {prog:y0q} {w:World} {A:Around} {R:Result -> y04 -> Prop} {s:y04}
theorem z7j {elt target iter:Expr} {ifs:List Expr} {scope:Scope} {pos:Pos} {it acc:Value} {env:Env} (I:Nat -> y04 -> Prop)
  (turn:∀ n s,I n s -> y0u (model prog w) A (pyNext it) (fun r s₁=>match r with
   | none=>R (.ok .next) s₁
   | some v=>y0u (model prog w) A (letOwnedTupleGo target it v) (fun _ s₁'=>y0u (model prog w) A (assign target env v) (fun _ s₂ =>
     y0u (model prog w) A (forIn ifs true fun c r=>if r = true then do let ok <- isTrue c env (eval c env); pure (ForInStep.yield ok) else pure (ForInStep.yield r)) (fun ok s₃ =>
      if ok = true then y0u (model prog w) A (eval elt env) (fun x s₄ =>
       y0u (model prog w) A (call (.builtin "list.append") [acc,x]) (fun _ s₅=>∃ m,m < n /\ I m s₅) (fun _ _=>False) s₄) (fun _ _=>False) s₃
      else ∃ m,m < n /\ I m s₃) (fun _ _=>False) s₂) (fun _ _=>False) s₁') (fun _ _=>False) s₁) (fun _ _=>False) s)
  (n:Nat) (h:I n s):codeAny (model prog w) A (.compLoop (.ListComp elt [⟨target,iter,ifs,0⟩] scope pos) 0 it acc env) R s:=by
 refine codeAny_loop rfl I (fun n s hI=>?_) n h
 show y0u _ A ((compTurn (.ListComp elt [⟨target,iter,ifs,0⟩] scope pos) 0 it acc env).onRaise (fun x=>do noteFrame x env; theTreesLotGoes x)) _ _ s
 refine wpAny_noted ?_
 rw [compTurn_list]
 refine y02 (wpAny_standAt (y02 (y18 (turn n s hI) (fun r s₁ h₁=>?_) fun _ _ h'=>h'.elim)))
 cases r with
 | none=>exact y06 h₁
 | some v =>
  refine y02 (y18 h₁ (fun _ s₁' h₁'=>?_) fun _ _ h'=>h'.elim)
  refine y02 (y18 h₁' (fun _ s₂ h₂=>y02 (y18 h₂ (fun ok s₃ h₃=>?_) fun _ _ h'=>h'.elim)) fun _ _ h'=>h'.elim)
  cases ok with
  | false=>exact y06 ⟨rfl,h₃⟩
  | true =>
   exact y02 (y02 (y18 h₃ (fun x s₄ h₄=>y02 (y18 h₄ (fun _ s₅ h₅=>y06 (y06 ⟨rfl,h₅⟩)) fun _ _ h'=>h'.elim)) fun _ _ h'=>h'.elim))
end
end D
end
section
namespace D
open PySem PySem.Spec PyProof.Rows L2
variable [Tbl]
theorem z2h {env:Env} {k:NameKind}:∀ {names:List (Str × NameKind)} {x:Str},names.lookup x = some k -> ∃ k',(names.map fun (n,k)=>if (k == NameKind.free && env.scope.kind == .function && env.kindOf n == some .cell) then (n,NameKind.cell) else (n,k)).lookup x = some k' /\ (k' = k \/ (k = .free /\ k' = .cell))
  | [],x,h=>by simp at h
  | (n,j) :: r,x,h=>by
    have ih:=@z2h env k r x
    show ∃ k',List.lookup x ((if (j == NameKind.free && env.scope.kind == .function && env.kindOf n == some .cell) = true then (n,NameKind.cell) else (n,j)) :: _) = some k' /\ _
    cases hx:x == n with
    | true =>
      simp only [y1a,hx] at h
      cases h
      by_cases hc:(k == NameKind.free && env.scope.kind == .function && env.kindOf n == some .cell) = true
      · rw [if_pos hc]
        refine ⟨.cell,by simp [y1a,hx],.inr ⟨?_,rfl⟩⟩
        simp only [y16] at hc
        simpa using hc.1.1
      · rw [if_neg hc]
        exact ⟨k,by simp [y1a,hx],.inl rfl⟩
    | false =>
      simp only [y1a,hx] at h
      obtain ⟨k',h1,h2⟩:=ih h
      refine ⟨k',?_,h2⟩
      by_cases hc:(j == NameKind.free && env.scope.kind == .function && env.kindOf n == some .cell) = true
      · rw [if_pos hc]; simp only [y1a,hx]; exact h1
      · rw [if_neg hc]; simp only [y1a,hx]; exact h1
theorem z5i {names:List (Str × NameKind)} {x:Str} {k:NameKind} (h:names.lookup x = some k):∃ y ∈ names,y.2 = k /\ y.1 = x:=by
 induction names with
 | nil=>simp at h
 | cons y r ih =>
  rw [y1a] at h
  split at h
  next hb =>
   cases h
   exact ⟨y,y0e,rfl,by simpa using (beq_iff_eq.mp hb).symm⟩
  next =>
   obtain ⟨z,hz,h1,h2⟩:=ih h
   exact ⟨z,y05 _ hz,h1,h2⟩
theorem z6u {scope:Scope} {env:Env} (hcell:∀ y ∈ scope.names,y.2 ≠ .cell) {x:Str} (h:(relabel scope env).names.lookup x = some .cell \/ (relabel scope env).names.lookup x = some .free):∃ y ∈ scope.names,y.2 = .free /\ y.1 = x:=by
 have go:∀ {k:NameKind},(relabel scope env).names.lookup x = some k -> (k = .cell \/ k = .free) -> ∃ y ∈ scope.names,y.2 = .free /\ y.1 = x:=fun {k} e hk=>by
  obtain ⟨y,hy,h1,h2⟩:=z5i e
  obtain ⟨⟨n,j⟩,hz,e2⟩:=y0m.mp (show y ∈ scope.names.map _ from hy)
  by_cases hc:(j == NameKind.free && env.scope.kind == .function && env.kindOf n == some .cell) = true
  ·have e3:(n,NameKind.cell) = y:=by
    have e4:(if (j == NameKind.free && env.scope.kind == .function && env.kindOf n == some .cell) = true then (n,NameKind.cell) else (n,j)) = y:=e2
    rwa [if_pos hc] at e4
   subst e3
   simp only [y16] at hc
   exact ⟨(n,j),hz,by simpa using hc.1.1,h2⟩
  ·have e3:(n,j) = y:=by
    have e4:(if (j == NameKind.free && env.scope.kind == .function && env.kindOf n == some .cell) = true then (n,NameKind.cell) else (n,j)) = y:=e2
    rwa [if_neg hc] at e4
   subst e3
   rcases hk with rfl | rfl
   ·exact absurd h1 (hcell _ hz)
   ·exact ⟨(n,j),hz,h1,h2⟩
 rcases h with h | h
 ·exact go h (.inl rfl)
 ·exact go h (.inr rfl)
theorem RelE.other {K:y00} {F₀ O F:Addr -> Prop} {E:En} {H:Hp} {ε:Ev} {σ:L2.St} {a:Addr} {xs ys:List V} (r:RelE K F₀ E O F H ε σ) (hn:¬ F a) (ho:¬ O a) (h0:E.h a = none) (ha:H a = some (.lst xs)) :
  Kp K F H F (upd H a (.lst ys)) /\ RelE K F₀ E O F (upd H a (.lst ys)) ε σ:=by
 have hm:HoM (.lst xs):=.inl ⟨_,rfl⟩
 have kp:Kp K F H F (upd H a (.lst ys)):=zb9 hn ha hm
 have keep:∀ (u:Sl) (w:V),z15 K E O F H u w -> z15 K E O F (upd H a (.lst ys)) u w /\ fpS (upd H a (.lst ys)) u w = fpS H u w:=by
  intro u w ru
  refine ru.keep kp (fun b hb=>z05 ?_) (fun _ _ f=>f) fun _ _ o=>o
  rintro rfl
  cases ou:u.isOwn with
  | true=>exact ho ((ru.held hb).2.1 ou)
  | false=>exact (ru.held hb).2.2 ou h0
 refine ⟨kp,⟨r.len,fun j u e=>?_,fun i j s u v w hij e1 e2 o1 o2 h1 h2=>?_,z90 r.ent h0 hn ha hm,r.o0,fun b e=>r.fr b ?_⟩⟩
 ·obtain ⟨v,h1,h2⟩:=r.val j u e
  exact ⟨v,h1,(keep u v h2).1⟩
 ·obtain ⟨v',h1',r1⟩:=r.val i s e1
  obtain ⟨w',h2',r2⟩:=r.val j u e2
  rw [h1] at h1'
  rw [h2] at h2'
  cases h1'
  cases h2'
  rw [(keep s v r1).2,(keep u w r2).2]
  exact r.ne i j s u v w hij e1 e2 o1 o2 h1 h2
 ·by_cases nb:b = a
  ·subst nb
   rw [z08] at e
   cases e
  ·rwa [z05 nb] at e
def zd6 (n:Nat) (caps:List Nat) (σ:L2.St):L2.St:=y0g n none ++ caps.map fun i=>(σ[i]?).join
theorem join_some {α:Type} {o:Option (Option α)} {x:α} (h:o.join = some x):o = some (some x):=by
 cases o with
 | none=>cases h
 | some o=>exact congrArg some h
theorem z3e {α:Type} {n:Nat} {caps:List Nat} {l:List (Option α)} {i:Nat} {x:α} (h:(y0g n none ++ caps.map fun i=>(l[i]?).join)[i]? = some (some x)):∃ j,n <= i /\ caps[i - n]? = some j /\ l[j]? = some (some x):=by
 by_cases hi:i < n
 ·rw [y1h (by simpa using hi),List.getElem?_replicate] at h
  rw [if_pos hi] at h
  cases h
 ·rw [y1g (by simpa using hi),List.length_replicate,y13] at h
  cases e:caps[i - n]? with
  | none =>
   rw [e] at h
   cases h
  | some j =>
   rw [e] at h
   exact ⟨j,by omega,rfl,join_some (Option.some.inj h)⟩
theorem zex {α:Type} {n:Nat} {caps:List Nat} {l:List (Option α)} {i j:Nat} {x:α} (hi:n <= i) (hc:caps[i - n]? = some j) (h:l[j]? = some (some x)):(y0g n none ++ caps.map fun i=>(l[i]?).join)[i]? = some (some x):=by
 rw [y1g (by simpa using hi),List.length_replicate,y13,hc]
 simp [h]
theorem RelE.cap {K:y00} {F₀ O F:Addr -> Prop} {E:En} {H:Hp} {ε:Ev} {σ:L2.St} {D:Addr} (r:RelE K F₀ E O F H ε σ) (n:Nat) {caps:List Nat} (nd:caps.Nodup) (hD:H D = none) :
  RelE K F₀ E (fun a=>O a /\ a ≠ D) F (upd H D (.lst [])) (z0o n caps ε) (zd6 n caps σ):=by
 have x:=Ext.laid (o:=.lst []) r.dom hD
 have keep:∀ (u:Sl) (w:V),z15 K E O F H u w -> z15 K E (fun a=>O a /\ a ≠ D) F (upd H D (.lst [])) u w /\ fpS (upd H D (.lst [])) u w = fpS H u w:=by
  intro u w ru
  have nb:∀ b ∈ fpS H u w,b ≠ D:=fun b hb z=>by
   obtain ⟨o,e,_⟩:=ru.at hb
   rw [z,hD] at e
   cases e
  exact ru.keep x.kp (fun b hb=>z05 (nb b hb)) (fun _ _ f=>f) fun b hb o=>⟨o,nb b hb⟩
 refine ⟨by simp [z0o,zd6],fun i s e=>?_,fun i j s u v w hij e1 e2 o1 o2 h1 h2=>?_,r.ent.trans x,fun a h=>r.o0 a h.1,fun a h=>?_⟩
 ·obtain ⟨j,hn,hc,e'⟩:=z3e e
  obtain ⟨v,h1,h2⟩:=r.val j s e'
  exact ⟨v,zex hn hc h1,(keep s v h2).1⟩
 ·obtain ⟨i',hi,ci,e1'⟩:=z3e e1
  obtain ⟨j',hj,cj,e2'⟩:=z3e e2
  obtain ⟨i2,_,ci2,h1'⟩:=z3e (l:=σ) h1
  obtain ⟨j2,_,cj2,h2'⟩:=z3e (l:=σ) h2
  rw [ci] at ci2
  rw [cj] at cj2
  cases ci2
  cases cj2
  obtain ⟨v',q1,r1⟩:=r.val i' s e1'
  obtain ⟨w',q2,r2⟩:=r.val j' u e2'
  rw [h1'] at q1
  rw [h2'] at q2
  cases q1
  cases q2
  rw [(keep s v r1).2,(keep u w r2).2]
  refine r.ne i' j' s u v w (fun z=>?_) e1' e2' o1 o2 h1' h2'
  subst z
  obtain ⟨l1,m1⟩:=y0k.mp ci
  obtain ⟨l2,m2⟩:=y0k.mp cj
  have ne:i - n ≠ j - n:=by omega
  rcases Nat.lt_or_gt_of_ne ne with q | q
  ·exact (List.pairwise_iff_getElem.mp nd _ _ l1 l2 q) (m1.trans m2.symm)
  ·exact (List.pairwise_iff_getElem.mp nd _ _ l2 l1 q) (m2.trans m1.symm)
 ·have nd:a ≠ D:=by
   rintro rfl
   rw [z08] at h
   cases h
  rw [z05 nd] at h
  exact ⟨r.fr a h,nd⟩
end D
end
section
namespace D
open PySem PySem.Spec PyProof.Rows L2
variable [Tbl]
structure CompOk (X:Cx) (scope:Scope) (own:List Str) (caps:List (Nat × Str)):Prop where
 kind:scope.kind = .function
 names:∀ y ∈ scope.names,y.2 = .local -> scope.names.lookup y.1 = some .local
 cell:∀ y ∈ scope.names,y.2 ≠ .cell
 free:∀ y ∈ scope.names,y.2 = .free -> X.env.kindOf y.1 = some .cell \/ X.env.kindOf y.1 = some .free
 cap:∀ p ∈ caps,X.N[p.1]? = some p.2 /\ scope.names.lookup p.2 = some .free
 nd:(caps.map (·.1)).Nodup
 calm:X.calm = true
section
variable {X:Cx} {tg iter elt:Expr} {ifs:List Expr} {scope:Scope} {it:Fi} {gg:Fg} {cc:Ft} {ee:Fe} {pos:Pos} {own:List Str} {caps:List (Nat × Str)}
theorem zbq {pins:List (Addr × Obj)} {σ:L2.St} {H2:Hp} {s2:y04} {fp:List Addr} (S:CompOk X scope own caps) (I2:L2.Inv X pins σ H2 s2) (f2:∀ b ∈ fp,FpOk X pins H2 b) (hfp:∀ b ∈ fp,b < s2.heap.objs.size) (N':List Str) :
  (z11 X N' scope (clos X.env scope.names []) (s2.heap.push { cls:=.type "list",data:=.seq ([]:List Value).toArray }).objs.size { s2 with heap:=s2.heap.push { cls:=.type "list",data:=.seq ([]:List Value).toArray } } (upd H2 s2.heap.objs.size (.lst [])) fp (X.pn ++ pins)).Ok:=by
 have hcl:∀ x ∈ scope.names,x.2 = .free -> ∃ c,X.env.cells.lookup x.1 = some c:=fun x hx hk=>I2.ok.has x.1 (S.free x hx hk)
 have cf:∀ x c,(clos X.env scope.names []).lookup x = some c -> X.env.cells.lookup x = some c:=z34 hcl (fun x c e=>by simp at e)
 have I3:=I2.lnew (its:=[]) (ys:=[]) (t':=s2.toks) .nil (y1u _)
 have sz:(s2.heap.push { cls:=.type "list",data:=.seq ([]:List Value).toArray }).objs.size = s2.heap.objs.size + 1:=Heap.size_push ..
 refine ⟨I2.ok.mod,S.kind,I2.ok.glob,I2.ok.blt,y0o _,fun x y c e1 e2=>I2.ok.inj x y c (cf x c e1) (cf y c e2),fun x hx=>?_,fun x c h=>(by cases h),I2.ok.hd,I2.ok.frames,.inl rfl,fun b hb=>⟨?_,fun x c e=>(f2 b hb).2.2.2.2.1 x c (cf x c e)⟩,fun b o e=>?_,?_,fun b o e hb=>?_,fun b hb hf=>?_,I3.stack,I3.stkFree⟩
 ·exact z46 (.inl (z6u S.cell hx))
 ·show b ≠ (s2.heap.push { cls:=.type "list",data:=.seq ([]:List Value).toArray }).objs.size
  have h:=hfp b hb
  rw [sz]
  exact y0y (Nat.lt_succ_of_lt h)
 ·obtain ⟨h1,h2⟩:=I3.bs b o e
  exact ⟨h1,h2⟩
 ·have h1:=y1i I2.ok.bsz I2.sz
  show X.base.objs.size <= (s2.heap.push { cls:=.type "list",data:=.seq ([]:List Value).toArray }).objs.size
  omega
 ·rcases (f2 b hb).2.2.2.1 with q | q
  ·exact I2.ok.noex b o e q
  ·exact absurd (y0x (y0c (I2.ok.bs b o e).1) q) (Nat.lt_irrefl _)
 ·rcases y09.mp (I2.stkSub b hf) with q | q
  ·exact (f2 b hb).2.1 q
  ·exact (f2 b hb).2.2.1 q
theorem zd5 {pins:List (Addr × Obj)} {σ:L2.St} {H2:Hp} {s2:y04} {fp:List Addr} (S:CompOk X scope own caps) (I2:L2.Inv X pins σ H2 s2) (f2:∀ b ∈ fp,FpOk X pins H2 b) (hfp:∀ b ∈ fp,b < s2.heap.objs.size) {h₁:Heap} {m:Str -> Option Value} {tk:Nat}
  (hns:h₁.Ns (s2.heap.push { cls:=.type "list",data:=.seq ([]:List Value).toArray }).objs.size m) (keep:∀ b u,(s2.heap.push { cls:=.type "list",data:=.seq ([]:List Value).toArray }).get? b = some u -> h₁.get? b = some u) :
  L2.Inv (z11 X (own ++ caps.map (·.2)) scope (clos X.env scope.names []) (s2.heap.push { cls:=.type "list",data:=.seq ([]:List Value).toArray }).objs.size { s2 with heap:=s2.heap.push { cls:=.type "list",data:=.seq ([]:List Value).toArray } } (upd H2 s2.heap.objs.size (.lst [])) fp (X.pn ++ pins)) []
   (zd6 own.length (caps.map (·.1)) σ) (upd H2 s2.heap.objs.size (.lst [])) { s2 with heap:=h₁,toks:=tk }:=by
 have hcl:∀ x ∈ scope.names,x.2 = .free -> ∃ c,X.env.cells.lookup x.1 = some c:=fun x hx hk=>I2.ok.has x.1 (S.free x hx hk)
 have cf:∀ x c,(clos X.env scope.names []).lookup x = some c -> X.env.cells.lookup x = some c:=z34 hcl (fun x c e=>by simp at e)
 have I3:=I2.lnew (its:=[]) (ys:=[]) (t':=s2.toks) .nil (y1u _)
 refine ⟨zbq S I2 f2 hfp _,rfl,I2.bare,Un.kept keep,⟨m,hns,fun i x v h1 h2 hv=>?_⟩,fun x c e=>?_,?_,fun x c e=>I3.freeC x c (cf x c e),fun p hp=>?_,I3.hok.kept keep,by simp [zd6,z11]⟩
 ·obtain ⟨j,hn,hc,hj⟩:=z3e (l:=σ) h2
  have hx:(caps.map (·.2))[i - own.length]? = some x:=by
   have:(own ++ caps.map (·.2))[i]? = some x:=h1
   rwa [y1g hn] at this
  rw [y13] at hc hx
  cases ep:caps[i - own.length]? with
  | none=>rw [ep] at hc; cases hc
  | some p =>
   rw [ep] at hc hx
   cases hc
   cases hx
   obtain ⟨hN,hf⟩:=S.cap p (y1m ep)
   obtain ⟨y,hy,k1,k2⟩:=z5i hf
   have hk:=S.free y hy k1
   rw [k2] at hk
   obtain ⟨m3,hn3,hl3⟩:=I3.loc
   have vis:Vis X.env.scope p.2:=by
    rcases hk with hk | hk
    ·exact .inr (.inl hk)
    ·exact .inr (.inr hk)
   obtain ⟨u,ru,lu⟩:=hl3 p.1 p.2 v hN hj vis
   refine ⟨u,ru,.inr ⟨?_,?_⟩⟩
   ·obtain ⟨k',e1,e2⟩:=z2h (env:=X.env) hf
    rcases e2 with rfl | ⟨_,rfl⟩
    ·exact .inr e1
    ·exact .inl e1
   ·rcases lu with ⟨q,_⟩ | ⟨_,c,hc,hcell⟩
    ·rcases hk with hk | hk
     ·rw [hk] at q; cases q
     ·rw [hk] at q; cases q
    ·obtain ⟨c',hc'⟩:=z46 (env:=X.env) (l:=scope.names) (cs:=[]) (x:=p.2) (.inl ⟨y,hy,k1,k2⟩)
     have:=cf _ _ hc'
     rw [hc] at this
     cases this
     obtain ⟨oc,ho,hd⟩:=hcell
     exact ⟨c,hc',oc,keep _ _ ho,hd⟩
 ·obtain ⟨v,oc,ho,hd⟩:=I3.cell x c (cf x c e)
  exact ⟨v,oc,keep _ _ ho,hd⟩
 ·exact I3.hok.fresh (y0o _)
 ·have hp':p ∈ X.pn ++ pins:=by simpa [z11] using hp
  obtain ⟨h1,h2,h3,h4,h5⟩:=I3.pin p hp'
  refine ⟨keep _ _ h1,h2,y0y (y0c h1),fun z=>?_,h5⟩
  rcases y09.mp (I2.stkSub p.1 z) with q | q
  ·exact h3 q
  ·exact h4 q
theorem z9x {pins:List (Addr × Obj)} {σ σ':L2.St} {H2 H':Hp} {s2 s':y04} {fp:List Addr} {N':List Str} (I2:L2.Inv X pins σ H2 s2) (f2:∀ b ∈ fp,FpOk X pins H2 b)
  (J:L2.Inv (z11 X N' scope (clos X.env scope.names []) (s2.heap.push { cls:=.type "list",data:=.seq ([]:List Value).toArray }).objs.size { s2 with heap:=s2.heap.push { cls:=.type "list",data:=.seq ([]:List Value).toArray } } (upd H2 s2.heap.objs.size (.lst [])) fp (X.pn ++ pins)) [] σ' H' s')
  {h':Heap} (sb:Heap.SameBut (s2.heap.push { cls:=.type "list",data:=.seq ([]:List Value).toArray }).objs.size s'.heap h'):L2.Inv X pins σ H' { s' with heap:=h' }:=by
 have I3:=I2.lnew (its:=[]) (ys:=[]) (t':=s2.toks) .nil (y1u _)
 have u:=J.base
 have free:H' (s2.heap.push { cls:=.type "list",data:=.seq ([]:List Value).toArray }).objs.size = none:=J.free
 have old:∀ b o,(s2.heap.push { cls:=.type "list",data:=.seq ([]:List Value).toArray }).get? b = some o -> b ≠ (s2.heap.push { cls:=.type "list",data:=.seq ([]:List Value).toArray }).objs.size:=fun b o e=>y0y (y0c e)
 have eqh:∀ b,b ≠ (s2.heap.push { cls:=.type "list",data:=.seq ([]:List Value).toArray }).objs.size -> ∀ o,s'.heap.get? b = some o -> h'.get? b = some o:=fun b hb o e=>sb.extBut b o hb e
 have u2:Un (frs X.stack) fp (upd H2 s2.heap.objs.size (.lst [])) H' (s2.heap.push { cls:=.type "list",data:=.seq ([]:List Value).toArray }) h':=by
  refine ⟨fun b o e n hf hx=>eqh b (old b o e) _ (u.keep b o e n hf hx),fun b o e n hf hx=>?_,u.free,fun b o e hx=>?_,u.tups,u.frzs,u.tbls⟩
  ·obtain ⟨sl,q⟩:=u.slot b o e n hf hx
   exact ⟨sl,eqh b (old b o e) _ q⟩
  ·obtain ⟨o',q⟩:=u.there b o e hx
   exact ⟨o',eqh b (old b o e) _ q⟩
 have hok:HOk X.prog X.w H' h':=fun b o e=>by
  refine (J.hok b o e).stay (fun c v hc q=>eqh c (fun z=>?_) v q) (fun _ q=>q) fun _ _ q=>q
  rcases hc with rfl | hc
  ·rw [z,free] at e
   cases e
  ·rw [z,free] at hc
   cases hc
 have hos:=J.os
 have hbare:=J.bare
 obtain ⟨hh,g,d,t,os⟩:=s'
 obtain rfl:os = s2.os:=hos
 have fin:=I3.call (h':=h') (g':=g) (d':=d) (t':=t) (ch:=fp) u2 hok hbare fun b hb=>⟨(f2 b hb).2.2.2.1,(f2 b hb).2.1,(f2 b hb).2.2.2.2.1,(f2 b hb).2.2.2.2.2⟩
 exact fin
theorem zbr {X':Cx} {R:Result -> y04 -> Prop} {J:It} {fp:List Addr} {it' D:Addr} {tn:Nat -> Heap -> Prop} {F₀ O F1:Addr -> Prop} {H₀:En} {H2:Hp} {ts ys:List T} (hx:X'.xe = fun _ _=>False) (hc:X'.calm = true) (hg:PGt X' tg gg) (ht:PTs X' ifs cc) (he:PEv X' elt ee)
  (T:Turn X'.prog X'.w X'.K tg J fp it' tn) (stat:∀ H':Hp,(∀ b ∈ fp,H' b = none) -> ∀ b ∈ fp,FpOk X' [] H' b) (ok:ItOk X'.K J F1 H2 ts) (hbig:ts.length <= big) (hD2:H2 D = none) (hO:¬ O D) (hH0:H₀.h D = none)
  (fin:∀ σ' H' F' s1 vs,L2.Inv X' [] σ' H' s1 -> Ext F1 H2 F' H' -> H' D = some (.lst vs) -> ¬ F' D -> RepL X'.K F' H' ys vs -> R (.ok .next) s1)
  {s:y04} {σ:L2.St} {H:Hp} {F:Addr -> Prop} {ε:Ev} (I:L2.Inv X' [] σ H s) (st:tn 0 s.heap) (fr:∀ b ∈ fp,H b = none) (x:Ext F1 H2 F H) (r:RelE X'.K F₀ H₀ O F H ε σ) (hD:H D = some (.lst [])) (nD:¬ F D) (ey:z2r gg cc ee ts ε = some ys) :
  codeAny (model X'.prog X'.w) X'.A (.compLoop (.ListComp elt [⟨tg,iter,ifs,0⟩] scope pos) 0 (.ref it') (.ref D) X'.env) R s:=by
 refine z7j (fun n s'=>∃ i σ' H' F' ε' dn vs,n = ts.length - i /\ i <= ts.length /\ L2.Inv X' [] σ' H' s' /\ tn i s'.heap /\ (∀ b ∈ fp,H' b = none) /\ Ext F1 H2 F' H' /\ RelE X'.K F₀ H₀ O F' H' ε' σ' /\ H' D = some (.lst vs) /\ ¬ F' D /\ RepL X'.K F' H' dn vs /\ dn.length <= i /\
  ∃ rest,z2r gg cc ee (ts.drop i) ε' = some rest /\ ys = dn ++ rest) ?_ ts.length ⟨0,σ,H,F,ε,[],[],rfl,y1u _,I,st,fr,x,r,hD,nD,RepL.nil,y0o _,ys,by simpa using ey,by simp⟩
 rintro n s3 ⟨i,σ3,H3,F3,ε3,dn,vs,rfl,hi,I3,st3,fr3,x3,r3,hD3,nD3,q3,hl3,rest,er,es⟩
 have nf:∀ {F4:Addr -> Prop} {H4:Hp} {F5:Addr -> Prop} {H5:Hp} {o:HO},Ext F4 H4 F5 H5 -> H4 D = some o -> ¬ F4 D -> ¬ F5 D:=fun y e n z=>by
  rcases y.new D z with q | q
  ·exact n q
  ·rw [e] at q
   cases q
 by_cases hlt:i < ts.length
 ·have hd:ts.drop i = ts[i] :: ts.drop (i + 1):=List.drop_eq_getElem_cons hlt
  have hg':ts[i]? = some ts[i]:=y0v hlt
  rw [hd] at er
  simp only [z2r,y01] at er
  obtain ⟨ε4,eg,b,eb,er⟩:=er
  refine y18 (T.item X' rfl rfl rfl hc i [] s3 σ3 H3 (fun _ _=>False) I3 (stat H3 fr3) st3 (ok.go i F3 H3 _ x3.kp r3.dom hg')) (fun rv s4 ⟨u,hr,h4⟩=>?_) fun _ _ z=>z
  subst hr
  refine y18 h4 (fun _ s5 ⟨x',H5,I5,r5,y5,st5,fr5⟩=>?_) fun _ _ z=>z
  obtain ⟨F5,x5,rx⟩:=ok.yld i F3 H3 _ x' H5 x3.kp r3.dom hg' y5
  have I5':=I5.pinned (stat H5 fr5) (T.obj _ _ st5)
  have hg2:=hg _ s5 σ3 H5 x' u (fun σ6 H6=>H6 = H5 /\ RelE X'.K F₀ H₀ O F5 H5 ε4 σ6) I5' r5 ⟨F₀,H₀,O,F5,ε3,_,ε4,r3.ext x5,rx,eg,fun σ6 r6=>⟨rfl,r6⟩⟩
  rw [hx] at hg2
  refine y18 hg2 (fun _ s6 ⟨σ6,H6,I6,e6,r6⟩=>?_) fun _ _ z=>z
  subst e6
  have again:∀ {σ7:L2.St} {H7:Hp} {s7:y04},L2.Inv X' ([] ++ z6v fp s5.heap) σ7 H7 s7 -> tn (i + 1) s7.heap /\ (∀ b ∈ fp,H7 b = none) /\ L2.Inv X' [] σ7 H7 s7:=fun {σ7 H7 s7} I7=>by
   refine ⟨T.keep _ _ _ st5 fun b hb o e=>(I7.pin (b,o) (y15 _ (y15 _ (z28 hb e)))).1,fun b hb=>?_,I7.unpinned⟩
   obtain ⟨o,e,d⟩:=T.obj _ _ st5 b hb
   exact (I7.pin (b,o) (y15 _ (y15 _ (z28 hb e)))).2.1
  have ht2:=ht _ s6 σ6 H6 (fun b' H7=>b' = b /\ ∃ F7,Ext F5 H6 F7 H7) I6 ⟨F₀,H₀,O,F5,ε4,b,r6,eb,fun F7 H7 x7=>⟨rfl,F7,x7⟩⟩
  rw [hx] at ht2
  refine y18 ht2 (fun ok' s7 ⟨H7,I7,e7,F7,x7⟩=>?_) fun _ _ z=>z
  subst e7
  have x37:=x5.trans x7
  have r7:=r6.ext x7
  cases ok' with
  | false =>
   simp only [Bool.false_eq_true,if_false] at er ⊢
   obtain ⟨a1,a2,a3⟩:=again I7
   exact ⟨_,by omega,i + 1,σ6,H7,F7,ε4,dn,vs,rfl,hlt,a3,a1,a2,x3.trans x37,r7,x37.same.get hD3,nf x37 hD3 nD3,q3.ext x37,by omega,rest,er,es⟩
  | true =>
   simp only [if_true,y01,y07] at er ⊢
   obtain ⟨y,ey',rest',er',rfl⟩:=er
   have he2:=he _ s7 σ6 H7 (fun v H8=>∃ F8,Ext F7 H7 F8 H8 /\ Rep X'.K F8 H8 y v) I7 ⟨F₀,H₀,O,F7,ε4,y,r7,ey',fun v F8 H8 x8 q8=>⟨F8,x8,q8⟩⟩
   rw [hx] at he2
   refine y18 he2 (fun u8 s8 ⟨v8,H8,I8,r8,F8,x8,q8⟩=>?_) fun _ _ z=>z
   have x38:=x37.trans x8
   have hD8:=x38.same.get hD3
   have nD8:=nf x38 hD3 nD3
   obtain ⟨kp9,r9⟩:=(r7.ext x8).other (ys:=vs ++ [v8]) nD8 hO hH0 hD8
   have ha:=zb4 (X:=X') _ s8 σ6 H8 (.ref D) [v8] (.ref D) [u8] (fun _ H9=>H9 = upd H8 D (.lst (vs ++ [v8]))) I8 rfl (.cons r8 .nil) ⟨D,vs,v8,rfl,rfl,hD8,by rw [z3q,<- q3.length]; omega,rfl⟩
   rw [hx] at ha
   refine y18 ha (fun u9 s9 ⟨v9,H9,I9,r9',e9⟩=>?_) fun _ _ z=>z
   subst e9
   obtain ⟨a1,a2,a3⟩:=again I9
   have x9:Ext F1 H2 F8 (upd H8 D (.lst (vs ++ [v8]))):=by
    have y:=x3.trans x38
    refine ⟨fun b o e=>?_,y.sub,y.new,⟨fun b f=>?_,y.dom.tgs.upd fun u e=>.inl ⟨_,Option.some.inj (e.symm.trans hD8)⟩⟩⟩
    ·have nb:b ≠ D:=by
      rintro rfl
      rw [hD2] at e
      cases e
     rw [z05 nb]
     exact y.same b o e
    ·have nb:b ≠ D:=by
      rintro rfl
      exact nD8 f
     rw [z05 nb]
     exact y.dom b f
   refine ⟨_,by omega,i + 1,σ6,_,F8,ε4,dn ++ [y],vs ++ [v8],rfl,hlt,a3,a1,a2,x9,r9,z08,nD8,((q3.ext x38).append (RepL.cons q8 RepL.nil)).kp kp9,by simp; omega,rest',er',by rw [es]; simp⟩
 ·have hd:ts.drop i = []:=List.drop_eq_nil_of_le (by omega)
  rw [hd] at er
  cases er
  refine y18 (T.done X' rfl rfl rfl hc i [] s3 σ3 H3 (fun _ _=>False) I3 (stat H3 fr3) st3 (ok.stop i F3 H3 x3.kp (by omega))) (fun rv s4 ⟨hr,I4⟩=>?_) fun _ _ z=>z
  subst hr
  exact fin σ3 H3 F3 s4 vs I4 x3 hD3 nD3 (by rw [es,y1p]; exact q3)
structure After (X:Cx) (pins:List (Addr × Obj)) (σ:L2.St) (F:Addr -> Prop) (H:Hp) (ys:List T) (D C:Addr) (H':Hp) (F':Addr -> Prop) (s1:y04) (vs:List V):Prop where
 inv:∀ h',Heap.SameBut C s1.heap h' -> L2.Inv X pins σ H' { s1 with heap:=h' }
 ns:∃ m,s1.heap.Ns C m
 free:H' C = none
 above:X.s₀.heap.objs.size <= C
 cells:∀ x c,X.env.cells.lookup x = some c -> c ≠ C
 pin:∀ p ∈ X.pn ++ pins,p.1 ≠ C
 loc:C ≠ X.env.locals
 new:H D = none
 ext:Ext F H F' H'
 nf:¬ F' D
 lst:H' D = some (.lst vs)
 rep:RepL X.K F' H' ys vs
theorem z93 {use:Option (Value -> Sem Unit)} {Q:Value -> y04 -> Prop} {p2:Pos} (S:CompOk X scope own caps) (hi:PIt X tg iter it)
  (hg:∀ cl C s₀ H₀ fp pn,PGt (z11 X (own ++ caps.map (·.2)) scope cl C s₀ H₀ fp pn) tg gg)
  (ht:∀ cl C s₀ H₀ fp pn,PTs (z11 X (own ++ caps.map (·.2)) scope cl C s₀ H₀ fp pn) ifs cc)
  (he:∀ cl C s₀ H₀ fp pn,PEv (z11 X (own ++ caps.map (·.2)) scope cl C s₀ H₀ fp pn) elt ee)
  (hs:∀ x,foldedSetIterable iter X.env x = pure x) {pins:List (Addr × Obj)} {s:y04} {σ:L2.St} {H:Hp} {F₀ O F:Addr -> Prop} {H₀:En} {ε:Ev} {ys:List T} (I:L2.Inv X pins σ H s) (r:RelE X.K F₀ H₀ O F H ε σ)
  (e:comp own.length (caps.map (·.1)) it gg cc ee ε = some (.list ys)) (fin:∀ D C H' F' s1 vs,After X pins σ F H ys D C H' F' s1 vs -> compPost (model X.prog X.w) X.A X.xe use Q (.ref D) C (.ok .next) s1) :
  y0u (model X.prog X.w) X.A (comprehension (.ListComp elt [⟨tg,iter,ifs,0⟩] scope pos) scope X.env p2 (newList []) false (eval iter X.env) use) Q X.xe s:=by
 simp only [comp,y01] at e
 obtain ⟨ts,et,e⟩:=e
 split at e
 case isFalse=>cases e
 next hbig =>
 simp only [y07] at e
 obtain ⟨ys',ey,e⟩:=e
 cases e
 have hcl:∀ x ∈ scope.names,x.2 = .free -> ∃ c,X.env.cells.lookup x.1 = some c:=fun x hx hk=>I.ok.has x.1 (S.free x hx hk)
 refine wpAny_comprehension_free rfl hs (z6a hcl) S.kind S.names (thn (hi pins s σ H (fun J H1=>∃ F1,Ext F H F1 H1 /\ ItOk X.K J F1 H1 ts) I ⟨F₀,H₀,O,F,ε,ts,r,et,fun J F1 H1 x1 ok=>⟨F1,x1,ok⟩⟩) fun v s1 h1=>thn h1 fun itv s2 h2=>?_)
 obtain ⟨it',fp,tn,J,H2,rfl,I2,T,st2,f2,F1,x1,ok⟩:=h2
 have hfp:∀ b ∈ fp,b < s2.heap.objs.size:=fun b hb=>by
  obtain ⟨o,ho,_⟩:=T.obj 0 _ st2 b hb
  exact y0c ho
 have hD2:H2 s2.heap.objs.size = none:=I2.fresh
 have hD:H s2.heap.objs.size = none:=x1.same.none hD2
 have sz:(s2.heap.push { cls:=.type "list",data:=.seq ([]:List Value).toArray }).objs.size = s2.heap.objs.size + 1:=Heap.size_push ..
 refine wpAny_newList ?_ (y1u _)
 refine wpAny_newFunctionEnv S.cell (by intro y hy; simp at hy) (fun h₁ hns₁ hsb₁=>?_) S.kind
 have keep:∀ b u,(s2.heap.push { cls:=.type "list",data:=.seq ([]:List Value).toArray }).get? b = some u -> h₁.get? b = some u:=fun b u e=>hsb₁.extBut b u (y0y (y0c e)) (y03 _ e)
 have I4:=zd5 (tk:=s2.toks + 0) S I2 f2 hfp hns₁ keep
 have r4:=(r.ext x1).cap (D:=s2.heap.objs.size) own.length S.nd hD2
 refine codeAny_compStart_list ?loop (T.self _ 0 _ _ _ (T.keep 0 _ _ st2 fun b hb o e=>keep b o (y03 _ e)) ?loop)
 refine zbr (X':=z11 X (own ++ caps.map (·.2)) scope (clos X.env scope.names []) (s2.heap.push { cls:=.type "list",data:=.seq ([]:List Value).toArray }).objs.size { s2 with heap:=s2.heap.push { cls:=.type "list",data:=.seq ([]:List Value).toArray } } (upd H2 s2.heap.objs.size (.lst [])) fp (X.pn ++ pins))
  rfl S.calm (hg _ _ _ _ _ _) (ht _ _ _ _ _ _) (he _ _ _ _ _ _) T (fun H' hn b hb=>?_) ok hbig hD2 (fun z=>z.2 rfl) (r.o0 _ (r.fr _ hD)) (fun σ' H' F' s1 vs J1 x' hD' nD' q'=>?_) I4 (T.keep 0 _ _ st2 fun b hb o e=>keep b o (y03 _ e)) (fun b hb=>?_) (Ext.laid x1.dom hD2) r4 z08 ?_ ey
 ·have okX:=zbq S I2 f2 hfp (own ++ caps.map (·.2))
  refine ⟨hn b hb,(okX.exf b hb).1,okX.exfs b hb,.inl hb,fun x c e=>(okX.exf b hb).2 x c e,fun p hp=>?_⟩
  have hp':p ∈ X.pn ++ pins:=by simpa [z11] using hp
  exact (f2 b hb).2.2.2.2.2 p hp'
 ·obtain ⟨m,hn,_⟩:=id J1.loc
  refine fin s2.heap.objs.size _ H' F' s1 vs ⟨fun h' sb=>z9x I2 f2 J1 sb,⟨m,hn⟩,J1.free,?_,fun x c e z=>?_,fun p hp z=>?_,?_,hD,x1.trans x',nD',hD',q'⟩
  ·rw [sz]
   exact Nat.le_succ_of_le I2.sz
  ·obtain ⟨v,q⟩:=I2.cell x c e
   have:=q.lt
   rw [z,sz] at this
   exact absurd this (Nat.not_lt.mpr (Nat.le_succ _))
  ·have:=y0c (I2.pin p hp).1
   rw [z,sz] at this
   exact absurd this (Nat.not_lt.mpr (Nat.le_succ _))
  ·have:=I2.lt
   rw [sz]
   exact Nat.ne_of_gt (Nat.lt_succ_of_lt this)
 ·have:=(f2 b hb).1
  rw [z05 (y0y (hfp b hb))]
  exact this
 ·intro z
  obtain ⟨o,e⟩:=x1.dom _ z
  rw [hD2] at e
  cases e
theorem zfz (S:CompOk X scope own caps) (hi:PIt X tg iter it)
  (hg:∀ cl C s₀ H₀ fp pn,PGt (z11 X (own ++ caps.map (·.2)) scope cl C s₀ H₀ fp pn) tg gg)
  (ht:∀ cl C s₀ H₀ fp pn,PTs (z11 X (own ++ caps.map (·.2)) scope cl C s₀ H₀ fp pn) ifs cc)
  (he:∀ cl C s₀ H₀ fp pn,PEv (z11 X (own ++ caps.map (·.2)) scope cl C s₀ H₀ fp pn) elt ee)
  (hs:∀ x,foldedSetIterable iter X.env x = pure x:=by intro _; rfl):PEn X (.ListComp elt [⟨tg,iter,ifs,0⟩] scope pos) (comp own.length (caps.map (·.1)) it gg cc ee):=by
 intro pins s σ H Q I ⟨F₀,H₀,O,F,ε,ys,r,e,k⟩
 rw [eval_ListComp]
 refine z93 S hi hg ht he hs I r e fun D C H' F' s1 vs a=>?_
 obtain ⟨m,hn⟩:=a.ns
 exact ⟨m,hn,fun h' sb=>⟨.ref D,H',a.inv h' sb,rfl,k D vs F' H' a.ext a.new a.nf a.lst a.rep⟩⟩
theorem z7i {ε:Ev} {n:Nat} {cs:List Nat} {t:T} (e:comp n cs it gg cc ee ε = some t):∃ ts,t = .list ts:=by
 simp only [comp,y01] at e
 obtain ⟨ts,_,e⟩:=e
 split at e
 ·simp only [y07] at e
  obtain ⟨ys,_,e⟩:=e
  exact ⟨ys,e.symm⟩
 ·cases e
theorem z4e (S:CompOk X scope own caps) (hi:PIt X tg iter it)
  (hg:∀ cl C s₀ H₀ fp pn,PGt (z11 X (own ++ caps.map (·.2)) scope cl C s₀ H₀ fp pn) tg gg)
  (ht:∀ cl C s₀ H₀ fp pn,PTs (z11 X (own ++ caps.map (·.2)) scope cl C s₀ H₀ fp pn) ifs cc)
  (he:∀ cl C s₀ H₀ fp pn,PEv (z11 X (own ++ caps.map (·.2)) scope cl C s₀ H₀ fp pn) elt ee)
  (hs:∀ x,foldedSetIterable iter X.env x = pure x:=by intro _; rfl):PEv X (.ListComp elt [⟨tg,iter,ifs,0⟩] scope pos) (comp own.length (caps.map (·.1)) it gg cc ee) :=
 n2v (zfz S hi hg ht he hs) fun ε t e=>z7i e
theorem zdf (i:Nat) {x:Str} {px spos:Pos} (hN:X.N.Nodup) (S:CompOk X scope own caps) (hit:PIt X tg iter it)
  (hg:∀ cl C s₀ H₀ fp pn,PGt (z11 X (own ++ caps.map (·.2)) scope cl C s₀ H₀ fp pn) tg gg)
  (ht:∀ cl C s₀ H₀ fp pn,PTs (z11 X (own ++ caps.map (·.2)) scope cl C s₀ H₀ fp pn) ifs cc)
  (he:∀ cl C s₀ H₀ fp pn,PEv (z11 X (own ++ caps.map (·.2)) scope cl C s₀ H₀ fp pn) elt ee)
  (hi:X.N[i]? = some x:=by rfl) (hx:Loc X.env.scope x:=by first | exact Or.inl rfl | exact Or.inr rfl)
  (hsw:swapsWith (.ListComp elt [⟨tg,iter,ifs,0⟩] scope pos) (some (.Name x px)) spos.line X.env = pure true:=by rfl)
  (hf:X.fn x = true \/ X.env.scope.names.lookup x = some .local:=by first | exact .inl rfl | exact .inr rfl)
  (hs:∀ x,foldedSetIterable iter X.env x = pure x:=by intro _; rfl) :
  PSt X (.Assign [.Name x px] (.ListComp elt [⟨tg,iter,ifs,0⟩] scope pos) spos) (asg i (comp own.length (caps.map (·.1)) it gg cc ee)):=by
 intro pins s σ H D I ⟨F₀,H₀,O,F,ε,o,r,e,k⟩
 simp only [asg,y07] at e
 obtain ⟨t,et,rfl⟩:=e
 obtain ⟨ys,rfl⟩:=z7i et
 rw [exec_Assign_Name_used _ _ _ _ hsw]
 refine y02 (wpAny_standAt (y02 ?_))
 show y0u _ X.A (do let _ <- comprehension (.ListComp elt [⟨tg,iter,ifs,0⟩] scope pos) scope X.env _ (newList []) false (eval iter X.env) (some (assign (.Name x px) X.env))) _ _ s
 refine y02 (thn (z93 (use:=some (assign (.Name x px) X.env)) (Q:=fun _ s'=>SP X pins D .next s') S hit hg ht he hs I r et fun D' C H' F' s1 vs a=>?_) fun _ s' hq=>y06 (y06 hq))
 have IX:=a.inv s1.heap (Heap.SameBut.refl ..)
 have IX':L2.Inv X pins σ H' s1:=IX
 show y0u _ X.A (assign (.Name x px) X.env (.ref D')) _ _ _
 refine wpAny_assign_Name (z6o (v:=.ref D') IX' hN hi hx rfl (fun s2 I2 ⟨b,sb,hb⟩=>?_) hf)
 obtain ⟨m,hn⟩:=a.ns
 have nb:C ≠ b:=by
  rcases hb with rfl | hb
  ·exact a.loc
  ·exact (a.cells x b hb).symm
 refine ⟨m,hn.sameBut sb nb,fun h' sb'=>?_⟩
 have I3:L2.Inv X pins (σ.set i (some (.ref D'))) H' { s2 with heap:=h' }:=I2.turned (t':=s2.toks) (it:=C) (fun b o hb e=>sb'.extBut b o hb e) a.free a.loc (.inr a.above) a.cells a.pin
 refine ⟨_,H',I3,?_⟩
 have y:Ext F H (fun b=>F' b \/ b = D') H':=⟨a.ext.same,fun b z=>.inl (a.ext.sub b z),fun b z=>by
  rcases z with z | rfl
  ·exact a.ext.new b z
  ·exact .inr a.new,⟨fun b z=>by
  rcases z with z | rfl
  ·exact a.ext.dom b z
  ·exact ⟨_,a.lst⟩,a.ext.dom.tgs⟩⟩
 refine k _ _ H' y.kp ((r.ext y).set i ?_)
 simp only [Rep]
 exact ⟨D',vs,rfl,.inr rfl,.inl a.lst,a.rep.keep (fun _ _ z=>z) fun b _ z w=>⟨.inl z,w⟩⟩
end
end D
end
section
namespace D
open PySem PySem.Spec PyProof.Rows L2
variable [Tbl]
open AutoSeq1 (wpAny_loadPart')
theorem z2b (l:Addr) (items:Array Value) (n:Nat) (dct:Option Addr) (sl:Array (Option Value)) :
  Meets (Builtin.«enumerate.__new__» ⟨[.type "enumerate",.ref l],[]⟩) (fun _ R s=>s.heap.get? l = some { cls:=.type "tuple",dict:=dct,data:=.seq items n,slots:=sl } /\
   R (.ok (.ret (.ref (s.heap.push { cls:=.type "tuple_iterator",data:=.fields #[.ref l,.int 0 0] }).objs.size)))
    { s with heap:=(s.heap.push { cls:=.type "tuple_iterator",data:=.fields #[.ref l,.int 0 0] }).push { cls:=.type "enumerate",data:=.fields #[.none,.bool false,.ref s.heap.objs.size,rawInt 0,.none,.none] } }) :=
 .of_wp fun prog w A R s h=>by
  obtain ⟨hp,g,d,tk,os⟩:=s; obtain ⟨hl,h⟩:=h
  have hsub:=sub_enumerate
  have hL:Heap.IsTuple (Shared.heap ⟨hp,g,d,tk,os⟩) l items:=⟨_,hl,rfl,n,rfl⟩
  wp_walk using wpAny_loadPart' hl
  refine wpAny_stack_any fun st=>y06 ?_
  split
  ·rename_i c _ _ _ _ _
   cases (c == Value.type "enumerate")
   ·wp_walk using wpAny_loadPart' hl,wpAny_pyIter_tuple hL
    exact ⟨_,rfl,h⟩
   ·wp_walk using wpAny_loadPart' hl,wpAny_pyIter_tuple hL
    exact ⟨_,rfl,h⟩
  ·wp_walk using wpAny_loadPart' hl,wpAny_pyIter_tuple hL
   exact ⟨_,rfl,h⟩
section
variable {prog:y0q} {w:World} {A:Around} {E:Value -> y04 -> Prop} {s:y04}
theorem z2d {l:Addr} {items:Array Value} {Q:Value -> y04 -> Prop} (hL:s.heap.IsTuple l items)
  (h:∀ h',IsEnum h' (s.heap.objs.size + 1) s.heap.objs.size 0 .none -> h'.IsTupleIter s.heap.objs.size l 0 -> h'.objs.size = s.heap.objs.size + 2 ->
   (∀ b o,s.heap.get? b = some o -> h'.get? b = some o) -> Q (.ref (s.heap.objs.size + 1)) { s with heap:=h' }) :
  y0u (model prog w) A (call (.type "enumerate") [.ref l]) Q E s:=by
 obtain ⟨⟨c,dct,dt,sl⟩,hl,hc,n,hd⟩:=hL
 replace hc:c = .type "tuple":=hc
 replace hd:dt = .seq items n:=hd
 subst hc hd
 refine callType_new F.called_enumerate (by decide) (F.typeCall_enumerate_1 _) (F.newCall_enumerate_1 _) (fun obj=>F.args_object_init_2 obj _) F.entry_enumerate_new
  (z2b l items n dct sl) ⟨hl,?_⟩
 have hz:(s.heap.push { cls:=.type "tuple_iterator",data:=.fields #[.ref l,.int 0 0] }).objs.size = s.heap.objs.size + 1:=Heap.size_push ..
 show _ /\ _
 rw [hz]
 have he:IsEnum ((s.heap.push { cls:=.type "tuple_iterator",data:=.fields #[.ref l,.int 0 0] }).push
   { cls:=.type "enumerate",data:=.fields #[.none,.bool false,.ref s.heap.objs.size,rawInt 0,.none,.none] }) (s.heap.objs.size + 1) s.heap.objs.size 0 .none:=by
  have:=y0l (s.heap.push { cls:=.type "tuple_iterator",data:=.fields #[.ref l,.int 0 0] })
   (o:={ cls:=.type "enumerate",data:=.fields #[.none,.bool false,.ref s.heap.objs.size,rawInt 0,.none,.none] }) rfl
  rw [hz] at this; exact this
 refine ⟨⟨_,he,rfl⟩,h _ he ⟨_,y03 _ (y0l _ rfl),rfl,rfl⟩ (by rw [Heap.size_push,hz]) fun b o x=>y03 _ (y03 _ x)⟩
theorem z39 {it l:Addr} {i:Nat} {items} {x:Value} {Q:Value -> y04 -> Prop} (hit:s.heap.IsTupleIter it l i)
  (hl:s.heap.IsTuple l items) (hx:items[i]? = some x)
  (hQ:∀ h',h'.IsTupleIter it l (i + 1) -> Heap.SameBut it s.heap h' -> Q x { s with heap:=h' }) :
  y0u (model prog w) A (y0t (.ref it)) Q E s:=by
 obtain ⟨o,ho,hc,hd⟩:=id hit
 obtain ⟨ol,hol,_,nl,hdl⟩:=hl
 unfold y0t
 refine y02 (wpAny_callSpecial?_slot (name:=Str.ofString "__next__") hit.typeIs y1x
  (wpAny_call_entry y1x hit.typeIs F.entry_tuple_iterator_next ?_ (F.args_tuple_iterator_next_1 _)))
 show y0u _ _ (field (.ref it) 0 >>= _) _ _ s
 refine y02 (wpAny_field ho hd (x:=.ref l) rfl ?_)
 show y0u _ _ (if (Value.ref l == Value.none) = true then _ else _) _ _ s
 rw [if_neg (show ¬ ((Value.ref l == Value.none) = true) from y1t)]
 show y0u _ _ (field (.ref it) 1 >>= _) _ _ s
 refine y02 (wpAny_field ho hd (x:=.int i 0) rfl ?_)
 show y0u _ _ (seqItems? (.ref l) >>= _) _ _ s
 refine y02 (wpAny_seqItems hol hdl ?_)
 simp only [Int.toNat_natCast,hx]
 refine y02 (wpAny_setField ho hd (by simp) (y06 ⟨x,rfl,y06 (hQ _ ?_ (Heap.SameBut.update ..))⟩))
 exact ⟨_,Heap.get?_update_self _ ho (Obj.isFreed_of_fields (Obj.data_mapFields hd _)),(Obj.cls_mapFields ..).trans hc,by
  rw [Obj.data_mapFields hd]; simp [rawInt]⟩
theorem z1v {it l:Addr} {i:Nat} {items} {Q:Value -> y04 -> Prop} (hh:A.handled = none)
  (hit:s.heap.IsTupleIter it l i) (hl:s.heap.IsTuple l items) (hx:items[i]? = none)
  (hE:∀ h' e,Heap.ExtBut it s.heap h' -> (∃ o,h'.get? e = some o /\ o.cls = .type "StopIteration") -> E (.ref e) { s with heap:=h' }) :
  y0u (model prog w) A (y0t (.ref it)) Q E s:=by
 obtain ⟨o,ho,hc,hd⟩:=id hit
 obtain ⟨ol,hol,_,nl,hdl⟩:=hl
 unfold y0t
 refine y02 (wpAny_callSpecial?_slot (name:=Str.ofString "__next__") hit.typeIs y1x
  (wpAny_call_entry y1x hit.typeIs F.entry_tuple_iterator_next ?_ (F.args_tuple_iterator_next_1 _)))
 show y0u _ _ (field (.ref it) 0 >>= _) _ _ s
 refine y02 (wpAny_field ho hd (x:=.ref l) rfl ?_)
 show y0u _ _ (if (Value.ref l == Value.none) = true then _ else _) _ _ s
 rw [if_neg (show ¬ ((Value.ref l == Value.none) = true) from y1t)]
 show y0u _ _ (field (.ref it) 1 >>= _) _ _ s
 refine y02 (wpAny_field ho hd (x:=.int i 0) rfl ?_)
 show y0u _ _ (seqItems? (.ref l) >>= _) _ _ s
 refine y02 (wpAny_seqItems hol hdl ?_)
 simp only [Int.toNat_natCast,hx]
 refine y02 (wpAny_rule (y02 (wpAny_setField ho hd (by simp) ?_)))
 show y0u _ _ (newExc (.type "StopIteration") [] >>= _) _ _ _
 refine y02 ?_
 simp only [newExc,newTuple]
 refine y02 (wpAny_newObj_type ?_ (by size_fits))
 refine y02 (m:=firstArgMember _ _) (wpAny_of_eq (a:=Value.none) (by first | rfl | (simp only [firstArgMember]; rfl)) ?_)
 refine wpAny_newObj_type ?_ (by size_fits)
 simp only [raiseNew]
 refine y02 (wpAny_handled ?_)
 first | rw [show A.in1.handled = none from hh] | rw [hh]
 refine y02 (y06 (wpAny_throw ?_))
 exact hE _ _ (((Heap.SameBut.update ..).extBut.push _).push _) ⟨_,y0l _ rfl,rfl⟩
end
theorem z8j {prog:y0q} {w:World} {A:Around} (hh:A.handled = none) (it l:Addr) (hne:l ≠ it) (items:Array Value) :
  Draws prog w A it [it,l] items.size (fun i v=>items[i]? = some v) (fun i h=>h.IsTupleIter it l i /\ h.IsTuple l items) where
 live:=fun _ _ st=>let ⟨o,ho,_⟩:=st.1; ⟨o,ho⟩
 frame:=fun _ _ _ st hk=>⟨st.1.at fun o e=>hk it (by simp) o e,let ⟨o,ho,r⟩:=st.2; ⟨o,hk l (by simp) o ho,r⟩⟩
 item:=fun i s Q E hi st hQ=>by
  refine z39 st.1 st.2 (x:=items[i]) (by simp [hi]) fun h' hit' hs'=>?_
  exact hQ _ h' s.toks (by simp [hi]) ⟨hit',st.2.extBut hs'.extBut hne⟩ hs'
 done:=fun s Q E st hE=>z1v hh st.1 st.2 (by simp) hE
def Ite (K:y00) (a:Addr):It :=
 ⟨fun i H=>∃ xs x,SqT K H a xs /\ xs[i]? = some x,fun i H x H'=>∃ p v,H p = none /\ x = .ref p /\ H' = upd H p (.tup [.int i,v]) /\ ∀ xs,SqT K H a xs -> xs[i]? = some v,fun i H=>∃ xs,SqT K H a xs /\ xs.length <= i⟩
theorem zab {P:y0q} {w:World} {K:y00} {es:List Expr} {k:Nat} {pos:Pos} (a it e:Addr) (hne:e ≠ it) (hai:a ≠ it) (hae:a ≠ e):Turn P w K (.Tuple es k pos) (Ite K a) [e,it] e (fun i h=>(∃ old,IsEnum h e it i old) /\ h.IsTupleIter it a i) where
 mem:=by simp
 obj:=fun i h st b hb=>by
  obtain ⟨⟨old,he⟩,o,ho,hc,hd⟩:=st
  rcases y09.mp hb with rfl | hb
  ·exact ⟨_,he,fun v z=>by
    have z':Data.fields _ = Data.cell v:=z
    cases z'⟩
  ·have e1:b = it:=by simpa using hb
   subst e1
   exact ⟨o,ho,fun v z=>by rw [hd] at z; cases z⟩
 keep:=fun i h h' st kk=>by
  obtain ⟨⟨old,he⟩,st2⟩:=st
  exact ⟨⟨old,kk e (by simp) _ he⟩,st2.at fun o q=>kk it (by simp) o q⟩
 item:=by
  intro X hP hw hK hc i pins s σ H E I hf st hg
  subst hP hw hK
  obtain ⟨xs,x,hq,hx⟩:=hg
  obtain ⟨its,rv,p,hz⟩:=I.tuple hq
  obtain ⟨u,hu,ru⟩:=rv.get hx
  obtain ⟨⟨old,he⟩,hit⟩:=st
  obtain ⟨f0,f1,f2,f3,f4,f5⟩:=hf e (by simp)
  obtain ⟨g0,g1,g2,g3,g4,g5⟩:=hf it (by simp)
  have hi:i < its.toArray.size:=by
   rw [y0h]
   exact (y0k.mp hu).1
  have hnf:e ∉ [it,a]:=by
   intro z
   rcases y09.mp z with z | z
   ·exact hne z
   ·have z':e = a:=by simpa using z
    exact hae z'.symm
  refine wpAny_pyNext_enum_itemD (z8j (A:=X.A.in1) (I.ok.hd hc) it a hai its.toArray) he ⟨hit,p⟩ hi hne hnf fun x' h' tk hP' ho hs' hT hsz hk=>?_
  have ex:x' = u:=by
   have:=hP'
   rw [<- Array.getElem?_toList] at this
   rw [show (its.toArray).toList = its from rfl,hu] at this
   exact (Option.some.inj this).symm
  subst ex
  refine ⟨_,rfl,wpAny_letOwnedTupleGo_enum ho fun h2 he2 hs2=>?_⟩
  have helt:e < s.heap.objs.size:=y0c he
  have hilt:it < s.heap.objs.size:=by obtain ⟨o,ho',_⟩:=hit; exact y0c ho'
  have k2:∀ b o,b ≠ e -> b ≠ it -> s.heap.get? b = some o -> h2.get? b = some o:=fun b o h1 h3 q=>hs2.extBut b o h1 (hk b o h1 h3 q)
  have fr:H s.heap.objs.size = none:=I.hok.fresh (y0o _)
  have hT2:h2.get? s.heap.objs.size = some { cls:=.type "tuple",data:=.seq #[.int i tk,x'] }:=hs2.extBut _ _ (Nat.ne_of_gt helt) hT
  have nH:∀ b o,H b = some o -> b ≠ e /\ b ≠ it:=fun b o q=>⟨fun z=>(by rw [z,f0] at q; cases q),fun z=>(by rw [z,g0] at q; cases q)⟩
  have hok2:HOk X.prog X.w (upd H s.heap.objs.size (.tup [.int i,x])) h2:=by
   intro b o q
   by_cases hb:b = s.heap.objs.size
   ·subst hb
    rw [z08] at q
    cases q
    exact ⟨by show 2 <= y0j; decide,[.int i tk,x'],.cons ⟨tk,rfl⟩ (.cons ru .nil),⟨_,hT2,rfl,_,rfl⟩⟩
   ·rw [z05 hb] at q
    refine (I.hok b o q).stay (fun c v hc' q'=>k2 c v ?_ ?_ q') (fun c q'=>?_) fun c ys q'=>?_
    ·rcases hc' with rfl | hc'
     ·exact (nH _ _ q).1
     ·exact (nH _ _ hc').1
    ·rcases hc' with rfl | hc'
     ·exact (nH _ _ q).2
     ·exact (nH _ _ hc').2
    ·rw [z05 (z0g q' fr)]
     exact q'
    ·rw [z05 (z0g q' fr)]
     exact q'
  have I2:L2.Inv X pins σ (upd H s.heap.objs.size (.tup [.int i,x])) { s with heap:=h2,toks:=tk + 1 }:=by
   refine I.step (g':=s.gens) (d':=s.drawn) (ch:=[e,it]) (fun b hb=>?_) (fun b o _ _ hc' q _=>k2 b o (fun z=>hc' (by simp [z])) (fun z=>hc' (by simp [z])) q) (fun b o _ _ hc' q _=>⟨o.slots,k2 b o (fun z=>hc' (by simp [z])) (fun z=>hc' (by simp [z])) q⟩) (fun b o _ q n=>?_)
    (fun b o hc' q=>⟨o,k2 b o (fun z=>hc' (by simp [z])) (fun z=>hc' (by simp [z])) q⟩) (fun b ys q=>by rw [z05 (z0g q fr)]; exact q) (fun b o u q=>by rw [z05 (z0g q fr)]; exact q) (fun b ps q=>⟨#[],by rw [z05 (z0g q fr),q]; simp⟩) (fun m hm=>?_) hok2 I.bare
   ·rcases y09.mp hb with rfl | hb
    ·exact ⟨f3,f1,f4,f5⟩
    ·have:b = it:=by simpa using hb
     subst this
     exact ⟨g3,g1,g4,g5⟩
   ·rw [z05 (y0y (y0c q))]
    exact n
   ·obtain ⟨o,es',ep,ho',r⟩:=hm
    exact ⟨o,es',ep,k2 _ o (Ne.symm f1) (Ne.symm g1) ho',r⟩
  refine ⟨.ref s.heap.objs.size,_,I2,rfl,⟨s.heap.objs.size,x,fr,rfl,rfl,fun ys hy=>by rw [I.tuple_inj hy hq]; exact hx⟩,⟨⟨_,by simpa using he2⟩,hs'.1.at fun o q=>(hs2.2 it hne.symm).trans q⟩,fun b hb=>?_⟩
  rcases y09.mp hb with rfl | hb
  ·rw [z05 (y0y helt)]
   exact f0
  ·have:b = it:=by simpa using hb
   subst this
   rw [z05 (y0y hilt)]
   exact g0
 done:=by
  intro X hP hw hK hc i pins s σ H E I hf st hg
  subst hP hw hK
  obtain ⟨xs,hq,hx⟩:=hg
  obtain ⟨its,rv,p,hz⟩:=I.tuple hq
  obtain ⟨⟨old,he⟩,hit⟩:=st
  obtain ⟨g0,g1,g2,g3,g4,g5⟩:=hf it (by simp)
  have hT:s.TypeIs (.ref e) "enumerate":=⟨_,he,rfl⟩
  have hl:=rv.length
  unfold pyNext
  refine y02 (wpAny_attempt (wpAny_callSpecial?_slot (name:=Str.ofString "__next__") hT F.slot_enumerate_next
   (wpAny_call_entry F.slot_enumerate_next hT F.entry_enumerate_next ?_ (F.args_enumerate_next_1 _))))
  show y0u _ _ (field (.ref e) 2 >>= _) _ _ _
  refine y02 (wpAny_field he rfl (x:=.ref it) rfl ?_)
  refine y02 (z1v (I.ok.hd hc) hit (show s.heap.IsTuple a its.toArray from p) (by simp; omega) fun h' x he' hx'=>?_)
  obtain ⟨o,ho,hc'⟩:=hx'
  refine y02 (wpAny_isInstance (T:="StopIteration") (b:=true) ⟨o,ho,hc'⟩ isSubtype_stop ?_)
  exact y06 ⟨rfl,I.turned (t':=s.toks) (fun b o hb q=>he' b o hb q) g0 g1 g3 g4 g5⟩
 self:=fun _ _ _ _ _ st h=>by
  obtain ⟨⟨old,he⟩,_⟩:=st
  exact wpAny_pyIter_enum he h
def iEn (K:y00) (ta:TA):TI:=fun σ H R=>ta σ H fun vs H1=>∃ a xs,vs = [.ref a] /\ SqT K H1 a xs /\ R (Ite K a) H1
section
variable {X:Cx} {es:List Expr} {k:Nat} {p pos p2:Pos} {a:Expr} {f:Fe}
theorem zef {ta:TA} (hg:Gl X "enumerate") (hm:X.mg "enumerate" = none) (ha:PA X [a] ta) (hs:y0a [a] X.env = [(false,eval a X.env)]:=by rfl):PI X (.Tuple es k p2) (.Call (.Name "enumerate" p) [a] [] pos) (iEn X.K ta):=by
 intro pins s σ H R I h
 refine Call_ (z5j I hg hm PyProof.Rows.boot_enumerate (y1l (thn (ha pos pins s σ H _ I h) fun us s1 ⟨vs,H1,I1,r1,q1⟩=>?_) hs rfl))
 obtain ⟨a,xs,rfl,hq,q⟩:=q1
 cases r1 with
 | cons r rr =>
  cases rr
  cases r
  obtain ⟨its,rv,pl,hz⟩:=I1.tuple hq
  have hal:a < s1.heap.objs.size:=by obtain ⟨o,ho,_⟩:=pl; exact y0c ho
  refine z2d (show s1.heap.IsTuple a its.toArray from pl) fun h' he hit hsz hk=>wpAny_pyIter_enum he ?_
  refine ⟨s1.heap.objs.size + 1,[s1.heap.objs.size + 1,s1.heap.objs.size],_,_,H1,rfl,I1.kept (t':=s1.toks) hk,zab a s1.heap.objs.size (s1.heap.objs.size + 1) (Nat.succ_ne_self _) (y0y hal) (y0y (Nat.lt_succ_of_lt hal)),⟨⟨_,he⟩,hit⟩,fun b hb=>?_,q⟩
  have hb':s1.heap.objs.size <= b:=by
   rcases y09.mp hb with rfl | hb
   ·exact Nat.le_succ _
   ·have:b = s1.heap.objs.size:=by simpa using hb
    rw [this]
    exact y0o _
  exact I1.fpOk hb' (I1.hok.fresh hb')
theorem zbc {K:y00} {a:Addr} {F1:Addr -> Prop} {H1:Hp} {ts:List T} {vs:List V} (hr:SqT K H1 a vs) (q:RepL K F1 H1 ts vs):ItOk K (Ite K a) F1 H1 (enum ts) where
 go:=fun i F H t kp d e=>by
  have hi:=(y0k.mp e).1
  simp only [enum,y12,List.length_zipIdx] at hi
  obtain ⟨v,h1,_⟩:=q.get (y0v hi)
  exact ⟨vs,v,kp.tup _ _ hr,h1⟩
 yld:=fun i F H t x H' kp d e y=>by
  obtain ⟨p,v,hp,rfl,rfl,y⟩:=y
  have hi:=(y0k.mp e).1
  simp only [enum,y12,List.length_zipIdx] at hi
  obtain ⟨v',h1,h2⟩:=(q.kp kp).get (y0v hi)
  have h3:=y vs (kp.tup _ _ hr)
  rw [h1] at h3
  cases h3
  have x1:=Ext.laid (o:=.tup [.int i,v]) d hp
  refine ⟨F,x1,?_⟩
  have et:t = .tuple [.int i,ts[i]]:=by
   simp only [enum,y13,List.getElem?_zipIdx,y0v hi] at e
   simpa using e.symm
  subst et
  simp only [Rep]
  exact ⟨p,_,rfl,SqT.of z08,RepL.cons (by simp [Rep]) (RepL.cons (h2.ext x1) RepL.nil)⟩
 stop:=fun i F H kp hl=>⟨vs,kp.tup _ _ hr,by
  simp only [enum,y12,List.length_zipIdx] at hl
  rw [<- q.length]
  exact hl⟩
theorem zh0 (hm:X.mg "enumerate" = none) (ha:PEv X a f) (hg:Gl X "enumerate":=by rfl) (hs:y0a [a] X.env = [(false,eval a X.env)]:=by rfl) (hs2:y0a [a] X.env = (false,eval a X.env) :: y0a [] X.env:=by rfl) :
  PIt X (.Tuple es k p2) (.Call (.Name "enumerate" p) [a] [] pos) (z2i (z4k f)):=zc8 (zef hg hm (z37 ha z5e hs2) hs) fun σ H R ⟨F₀,H₀,O,F,ε,ts,r,e,k⟩=>by
 simp only [z2i,z4k,y07,y01] at e
 obtain ⟨us,⟨t,et,e⟩,rfl⟩:=e
 split at e
 ·cases e
  refine ⟨F₀,H₀,O,F,ε,_,r,et,fun v F' H' x q=>?_⟩
  simp only [Rep] at q
  obtain ⟨a,vs,rfl,hs,hr⟩:=q
  exact ⟨a,vs,rfl,hs,k _ F' H' x (zbc hs hr)⟩
 ·cases e
end
end D
end
section
namespace D
open PySem PySem.Spec PyProof.Rows L2
variable [Tbl]
structure Cl (P:y0q) (w:World) (K:y00) (mg:Str -> Option Value) (base:Heap) (x:Str) (k n:Nat) (d:List T -> Option T):Prop where
 ex:∃ fa fd ps,FnOk P w K mg base CX0 k fa fd ps (spT K n d) /\ mg x = some (.ref fa) /\ y08 K (.ref fa) = true /\ z1y K fd ps []
section
variable {P:y0q} {w:World} {K:y00} {mg:Str -> Option Value} {base:Heap} {x:Str} {k n:Nat} {d:List T -> Option T}
theorem Cl.mono {j:Nat} (c:Cl P w K mg base x j n d) (h:j <= k):Cl P w K mg base x k n d:=by
 obtain ⟨fa,fd,ps,F,r⟩:=c.ex
 exact ⟨fa,fd,ps,F.mono h,r⟩
theorem Cl.mk' {fa:Addr} {fd:y0b} {ps:List Str} (F:FnOk P w K mg base CX0 k fa fd ps (spT K n d)) (m:mg x = some (.ref fa)) (kp:y08 K (.ref fa) = true) (b:z1y K fd ps []):Cl P w K mg base x k n d:=⟨fa,fd,ps,F,m,kp,b⟩
end
section
variable {X:Cx} {k n:Nat} {d:List T -> Option T} {x:Str} {p pos:Pos} {e:Expr} {es:List Expr} {fs:List Fe}
theorem z13 (C:Cl X.prog X.w X.K X.mg X.base x k n d) (hr:Room k X.A) (ha:PAv X (e :: es) fs) (hg:Gl X x:=by rfl) (hn:fs.length = n:=by rfl) (hdb:(x == ("__debug__":Str)) = false:=by decide)
  (he:y0a (e :: es) X.env = (false,eval e X.env) :: y0a es X.env:=by rfl) (hpl:(backTo pos (y0a es X.env)).any (·.1) = false:=by rfl):PEv X (.Call (.Name x p) (e :: es) [] pos) (opN d fs):=by
 obtain ⟨fa,fd,ps,F,m,kp,b⟩:=C.ex
 exact zg0 F hr hg m kp b ha hn hdb he hpl
theorem q_gI {i:Int} {t:Tok} (hm:X.mg x = some (.int i t)) (hg:Gl X x:=by rfl) (hd:(x == ("__debug__":Str)) = false:=by decide):PEv X (.Name x pos) (cst (.int i)):=zam (v:=.int i) (zei (v:=.int i) hg hm ⟨t,rfl⟩ hd) fun _ _=>by simp [Rep]
def zh8 (scope sc:Scope) (N:List Str) (caps:List (Nat × Str)):Bool :=
 decide (scope.kind = .function) && scope.names.all (fun y=>(decide (y.2 ≠ .local) || decide (scope.names.lookup y.1 = some .local)) && decide (y.2 ≠ .cell) && (decide (y.2 ≠ .free) || decide (sc.names.lookup y.1 = some .cell) || decide (sc.names.lookup y.1 = some .free)))
  && caps.all (fun q=>decide (N[q.1]? = some q.2) && decide (scope.names.lookup q.2 = some .free)) && decide ((caps.map (·.1)).Nodup)
theorem z4t {scope sc:Scope} {own:List Str} {caps:List (Nat × Str)} (N:List Str) (hsc:X.env.scope = sc) (hN:X.N = N) (hc:X.calm = true) (h:zh8 scope sc N caps = true):CompOk X scope own caps:=by
 simp only [zh8,y16,List.all_eq_true,decide_eq_true_eq,Bool.or_eq_true] at h
 obtain ⟨⟨⟨h1,h2⟩,h3⟩,h4⟩:=h
 refine ⟨h1,fun y hy hl=>?_,fun y hy=>(h2 y hy).1.2,fun y hy hf=>?_,fun q hq=>by rw [hN]; exact h3 q hq,h4,hc⟩
 ·rcases (h2 y hy).1.1 with z | z
  ·exact absurd hl z
  ·exact z
 ·have hk:X.env.kindOf y.1 = sc.names.lookup y.1:=by rw [<- hsc]; rfl
  rw [hk]
  rcases (h2 y hy).2 with (z | z) | z
  ·exact absurd hf z
  ·exact .inl z
  ·exact .inr z
end
theorem z6b {P:y0q} {w:World} {K:y00} {mg:Str -> Option Value} {base:Heap} {x:Str} {st:Stmt} {f:Addr} {fd:y0b} {N ps:List Str} {k:Nat} {b:Fs} (F:Fun K x x st f fd) (S:FnScope N ps (z02 st)) (bd:z1y K fd ps []) (m:mg x = some (.ref f))
  (hb:∀ (cdv:Value) (A:Around) (outer:List Env) (s:y04) (H:Hp) (E:XK),Room k (A.deeper (envOfC x (z02 st) s.heap.objs.size f cdv)) ->
   PBt (cxOf CX0 P w K mg base N x (z02 st) f cdv A outer s H E).nox (z0j st) b):Cl P w K mg base x (k + 1) ps.length (runF b N.length):=.mk' (zdr F S hb) m F.kp bd
end D
end
section
namespace L2
open PySem PySem.Spec PyProof.Rows
section
variable {κ:Type} [DecidableEq κ]
end
section
variable {P:y0q} {w:World} {H:Hp} {h:Heap} {a:Addr}
end
section
variable {X:Cx} {pins:List (Addr × Obj)} {σ:St} {H:Hp} {s:y04} {a:Addr} {y v:V} {u r:Value} {o:Option V} {A:Around} {E:Value -> y04 -> Prop}
end
section
variable {X:Cx} {pins:List (Addr × Obj)} {σ:St} {H:Hp} {s:y04} {a:Addr} {kvs:List (Key × V)} {k:Key} {u:Value} {A:Around} {E:Value -> y04 -> Prop}
end
section
variable {X:Cx} {o i e value:Expr} {pos pos' tpos:Pos} {td ty tv:TE}
end
section
variable {X:Cx} {pos:Pos}
end
section
variable {X:Cx} {pins:List (Addr × Obj)} {σ:St} {H:Hp} {s:y04} {a:Addr} {y d:V} {u r:Value} {o:Option V} {A:Around} {E:Value -> y04 -> Prop}
end
section
variable {X:Cx} {o e f:Expr} {apos cpos:Pos} {td ty tx:TE}
end
section
variable {X:Cx} {pins:List (Addr × Obj)} {σ:St} {H:Hp} {s:y04} {a:Addr} {kvs:List (Key × V)} {A:Around} {E:Value -> y04 -> Prop}
end
section
variable {X:Cx} {pins:List (Addr × Obj)} {σ:St} {H:Hp} {s:y04} {a:Addr} {y:V} {u:Value} {A:Around} {E:Value -> y04 -> Prop}
end
end L2
end
section
namespace D
open PySem PySem.Spec PyProof.Rows L2
variable [Tbl]
section
variable {K:y00} {F:Addr -> Prop} {H:Hp}
end
section
variable {X:Cx} {a b e:Expr} {f g:Fe} {pos:Pos}
variable {x:Str} {px:Pos}
end
end D
end
section
namespace D
open PySem
variable [Tbl]
end D
end
section
namespace D
open PySem PySem.Spec PyProof.Rows L2
variable [Tbl]
section
variable {prog:y0q} {w:World} {K:Type} [DecidableEq K] (knd:PySem.KeyKind prog w K)
variable {knd} {A:Around} {E:Value -> y04 -> Prop} {s:y04}
section
variable {R:Result -> y04 -> Prop} {I:Addr} {fp wr:List Addr} {G:Array GenState -> Array GenState -> Prop} {St:Nat -> y04 -> Prop} {items:Array Value}
end
end
end D
end
section
namespace D
open PySem PySem.Spec PyProof.Rows L2
variable [Tbl]
section
variable {prog:y0q} {w:World} {A:Around} {E:Value -> y04 -> Prop} {s:y04}
end
section
variable {prog:y0q} {w:World} {A:Around} {E:Value -> y04 -> Prop} {s:y04}
variable {a I:Addr} {es:Array (Int × Value)} {ep:Nat} {t:SetTable}
end
end D
end
section
namespace D
open PySem PySem.Spec PyProof.Rows L2
variable [Tbl]
section
variable {prog:y0q} {w:World} {A:Around} {E:Value -> y04 -> Prop} {s:y04}
variable {a I:Addr} {es:Array (Int × Value)} {ep:Nat} {t:SetTable}
end
end D
end
section
namespace D
open PySem PySem.Spec PyProof.Rows L2
variable [Tbl]
section
variable {prog:y0q} {w:World} {K:Type} [DecidableEq K] {knd:PySem.KeyKind prog w K} {A:Around} {E:Value -> y04 -> Prop} {s:y04} {a:Addr} {ks:List K}
end
end D
end
section
namespace D
open PySem PySem.Spec PyProof.Rows L2
variable [Tbl]
section
variable {K:Type} [DecidableEq K]
end
end D
end
section
namespace D
open PySem PySem.Spec PyProof.Rows L2
variable [Tbl]
section
variable {prog:y0q} {w:World} {A:Around} {E:Value -> y04 -> Prop} {s:y04}
end
section
variable {X:Cx} {pins:List (Addr × Obj)} {σ:L2.St} {H:Hp} {s:y04}
end
end D
end
section
namespace D
open PySem PySem.Spec PyProof.Rows L2
variable [Tbl]
theorem z7f:∀ {ts:List T} {ns:List Int},z4m ts = some ns -> ts = ns.map .int
 | [],ns,e=>by
  cases e
  rfl
 | t :: ts,ns,e=>by
  unfold z4m at e
  split at e
  ·rename_i h
   cases h
  ·rename_i h
   cases h
   simp only [y07] at e
   obtain ⟨r,e1,rfl⟩:=e
   rw [z7f e1]
   rfl
  ·cases e
section
variable {K:y00} {F:Addr -> Prop} {H:Hp}
theorem z6t:∀ (ns:List Int),RepL K F H (ns.map .int) (ns.map V.int)
 | []=>RepL.nil
 | n :: ns=>RepL.cons (by simp [Rep]) (z6t ns)
theorem z5d:∀ {ns:List Int} {vs:List V},RepL K F H (ns.map .int) vs -> vs = ns.map V.int
 | [],vs,h=>by simpa [RepL] using h
 | n :: ns,vs,h=>by
  simp only [y0d,RepL,Rep] at h
  obtain ⟨v,r,rfl,rfl,z⟩:=h
  rw [z5d z]
  rfl
end
section
variable {X:Cx} {a e:Expr} {es:List Expr} {f:Fe} {fs:List Fe} {p p2 pos pos2:Pos}
end
section
variable {prog:y0q} {w:World} {A:Around} {E:Value -> y04 -> Prop} {s:y04}
end
section
variable {X:Cx} {e st:Expr} {te:TE} {f:Fe} {pos p2:Pos}
end
end D
end
section
namespace D
open PySem PySem.Spec PyProof.Rows L2
variable [Tbl]
section
variable {prog:y0q} {w:World} {K:Type} [DecidableEq K] {knd:PySem.KeyKind prog w K} {A:Around} {E:Value -> y04 -> Prop} {s:y04}
end
end D
end
section
namespace D
open PySem PySem.Spec PyProof.Rows L2
variable [Tbl]
section
variable {X:Cx} {a b e:Expr} {es rest:List Expr} {f g:Fe} {fs:List Fe} {p p2 pos pos2:Pos}
def tOt (K:y00) (f:Ev -> Option (Option Int)):TO:=fun σ H Q=>∃ F₀ H₀ O F ε i,RelE K F₀ H₀ O F H ε σ /\ f ε = some i /\ ∀ F' H',Ext F H F' H' -> Q i H'
theorem zdv {x:Option Expr} {t t':TO} (h:PO X x t) (k:∀ σ H Q,t' σ H Q -> t σ H Q):PO X x t':=fun pins s σ H Q I q=>h pins s σ H Q I (k σ H Q q)
theorem zdn:PO X none (tOt X.K optN):=zdv zee fun σ H Q ⟨F₀,H₀,O,F,ε,i,r,e,k⟩=>by
 cases e
 exact k F H (Ext.refl r.dom)
theorem zdm (h:PEr X a f):PO X (some a) (tOt X.K (opt f)):=zdv (zed h) fun σ H Q ⟨F₀,H₀,O,F,ε,i,r,e,k⟩=>by
 simp only [opt,y01] at e
 obtain ⟨x,ex,e⟩:=e
 refine ⟨F₀,H₀,O,F,ε,x,r,ex,fun v F1 H1 x1 rx=>?_⟩
 split at e
 ·cases e
  exact ⟨_,rx.int,k F1 H1 x1⟩
 ·cases e
def rSlW (K:y00):V -> Option Int -> Option Int -> Hp -> VK -> Prop:=fun x lo hi H Q=>∃ a xs,x = .ref a /\ SqT K H a xs /\ (HT.sIx xs.length 0 lo = 0 /\ HT.sIx xs.length xs.length hi = xs.length) /\ Q (.ref a) H
theorem z2m {prog:y0q} {w:World} {A:Around} {E:Value -> y04 -> Prop} {s:y04} {t sl:Addr} {items:Array Value} {vl vu:Value} {lo hi:Option Int} {Q:Value -> y04 -> Prop} (ht:IsTup s.heap t items) (hs:s.heap.IsSliceOf sl vl vu .none) (pl:IsPart vl lo) (pu:IsPart vu hi)
  (hw:HT.sIx items.size 0 lo = 0 /\ HT.sIx items.size items.size hi = items.size) (h:Q (.ref t) s):y0u (model prog w) A (getItem (.ref t) (.ref sl)) Q E s:=by
 obtain ⟨os,hos,hcs,hds⟩:=id hs
 have hTs:s.TypeIs (.ref sl) "slice":=⟨os,hos,hcs⟩
 unfold getItem
 try with_reducible refine wpAny_holding ?_
 first | refine y02 (y06 ?_) | skip
 refine y02 (wpAny_sequenceKey ht.typeIs (by decide) ?_)
 refine y02 (wpAny_callSpecial?_slot (name:=Str.ofString "__getitem__") ht.typeIs y1c
  (wpAny_call_entry y1c ht.typeIs entry_tuple_getitem ?_ (args_tuple_getitem _ _)))
 show y0u _ _ (Builtin.Tuple.tupleItemsOf (.ref t) >>= _) _ _ s
 refine y02 (tupleItemsOf_ ht ?_)
 refine y02 (wpAny_typeOf hTs ?_)
 rw [if_pos (by decide)]
 refine y02 (HT.sliceApplied_gen hs pl pu ?_)
 rw [hw.1,hw.2]
 show y0u _ _ (if (((0:Nat):Int) == 0 && (1:Int) == 1 && (items.size - 0) == items.size) = true then _ else _) _ _ s
 rw [if_pos (by simp)]
 unfold Builtin.Tuple.tupleIsExact
 refine y02 (y02 (wpAny_typeOf ht.typeIs (y06 ?_)))
 rw [if_pos (by decide)]
 refine y02 (wpAny_rule ?_)
 exact y06 ⟨_,rfl,y06 h⟩
theorem zce:SlR X (rSlW X.K):=by
 intro pins s σ H x v vl vu lo hi sl Q I rx hs pl pu h
 obtain ⟨a,xs,rfl,hx,hw,q⟩:=h
 cases rx
 obtain ⟨its,r,ht,hz⟩:=I.tuple hx
 have hlen:its.toArray.size = xs.length:=by rw [y0h]; exact r.length.symm
 refine ⟨"tuple",_,PyProof.Rows.slot_tuple_getitem.lookup,ht.typeIs,?_⟩
 exact z2m ht hs pl pu (by rw [hlen]; exact hw) ⟨.ref a,H,I,rfl,q⟩
theorem zft (n d:Nat) (o:Option Int):D.sIx n d o = HT.sIx n d o:=by
 cases o with
 | none=>rfl
 | some v =>
  unfold D.sIx HT.sIx
  dsimp only
  split <;> omega
theorem z5v {K:y00} {F:Addr -> Prop} {H:Hp} {ts:List T} {vs:List V} (h:RepL K F H ts vs) (lo hi:Option Int):RepL K F H (cutZ ts lo hi) (cutV vs lo hi):=by
 unfold cutZ cutV
 simp only [zft,h.length]
 exact (h.drop _).take _
theorem ze5 {lo hi:Option Expr} {fl fh:Ev -> Option (Option Int)} (ha:PEr X e f) (hl:PO X lo (tOt X.K fl)) (hu:PO X hi (tOt X.K fh)):PEv X (.Subscript e (.Slice lo hi none p2) pos) (slice f fl fh):=z0l (zcm ((zfp.or zce).or ze2) ha hl hu) fun σ H Q ⟨F₀,H₀,O,F,ε,t,r,e,k⟩=>by
 simp only [slice,y01] at e
 obtain ⟨x,ex,l,el,h,eh,e⟩:=e
 refine ⟨F₀,H₀,O,F,ε,x,r,ex,fun v F1 H1 x1 rx=>⟨F₀,H₀,O,F1,ε,l,r.ext x1,el,fun F2 H2 x2=>⟨F₀,H₀,O,F2,ε,h,(r.ext x1).ext x2,eh,fun F3 H3 x3=>?_⟩⟩⟩
 have x23:=x2.trans x3
 have x13:=x1.trans x23
 unfold oSl at e
 split at e
 ·cases e
  obtain ⟨a,vs,rfl,hs,hr⟩:=(rx.ext x23).tup
  by_cases hw:HT.sIx vs.length 0 l = 0 /\ HT.sIx vs.length vs.length h = vs.length
  ·refine .inl (.inr ⟨a,vs,rfl,hs,hw,k _ F3 H3 x13 ?_⟩)
   simp only [Rep]
   refine ⟨a,vs,rfl,hs,?_⟩
   have:=z5v hr l h
   unfold cutV at this
   rw [hw.1,hw.2,List.drop_zero,Nat.sub_zero,List.take_length] at this
   exact this
  ·refine .inl (.inl ⟨a,vs,rfl,hs,hw,fun q hq=>?_⟩)
   have x4:=Ext.laid (o:=.tup (cutV vs l h)) x13.dom hq
   refine k _ F3 _ (x13.trans x4) ?_
   simp only [Rep]
   exact ⟨q,_,rfl,SqT.of z08,(z5v hr l h).ext x4⟩
 ·cases e
  obtain ⟨a,vs,rfl,hs,hr⟩:=(rx.ext x23).lst
  refine .inr ⟨a,vs,rfl,.inl hs,fun q hq=>?_⟩
  have x4:=Ext.laidF (o:=.lst (cutV vs l h)) x13.dom hq
  refine k _ _ _ (x13.trans x4) ?_
  simp only [Rep]
  exact ⟨q,_,rfl,.inr rfl,.inl z08,(z5v hr l h).ext x4⟩
 ·cases e
theorem z4f:∀ (ns:List Int) (k:Nat),k <= ns.length -> preSum (fun i=>ns.getD i 0) k = (ns.take k).sum
 | ns,0,_=>by simp [preSum]
 | ns,k + 1,h=>by
  have ih:=z4f ns k (by omega)
  rw [preSum,ih,List.take_succ_eq_append_getElem (by omega:k < ns.length),List.sum_append]
  simp [List.getD_eq_getElem?_getD,show k < ns.length by omega]
theorem zdd {B:Int} (hB:0 <= B):∀ (ns:List Int),(∀ n ∈ ns,-B <= n /\ n <= B) -> -(B * ns.length) <= ns.sum /\ ns.sum <= B * ns.length
 | [],_=>by simp
 | n :: ns,h=>by
  have h1:=h n (by simp)
  have h2:=zdd hB ns fun m hm=>h m (by simp [hm])
  simp only [List.sum_cons,y0w,Int.natCast_add,Int.mul_add]
  omega
end
section
variable {X:Cx} {a e:Expr} {f:Fe} {p p2 pos pos2:Pos}
end
end D
end
section
namespace D
open PySem PySem.W PyProof.Rows
structure OrdK (n:Nat) (lt:Nat -> Nat -> Bool):Prop where
 asym:∀ i j,lt i j = true -> lt j i = false
 trans:∀ i j k,lt i j = true -> lt j k = true -> lt i k = true
 tot:∀ i j,i < n -> j < n -> i ≠ j -> lt i j = true \/ lt j i = true
def SP (lt:Nat -> Nat -> Bool) (p:Array Nat) (m:Nat):Prop:=∀ i j,i < j -> j < m -> lt (p.getD i 0) (p.getD j 0) = true
section
variable {n:Nat} {lt:Nat -> Nat -> Bool} (O:OrdK n lt)
include O
end
end D
end
section
namespace D
open PySem
variable [Tbl]
end D
end
section
namespace D
open PySem PySem.Spec PyProof.Rows L2
variable [Tbl]
open PySem.W (kas_ask kas_sort kat_run kat_snds kat_lt kat_kind KatTups KatLex KatGo kas_item KasT)
section
variable {prog:y0q} {w:World} {A:Around} {E:Value -> y04 -> Prop} {s:y04}
end
section
variable {X:Cx}
variable {e:Expr} {es:List Expr} {fs:List Fe} {p pos:Pos}
end
end D
end
section
namespace D
open PySem PySem.Spec PyProof.Rows L2
variable [Tbl]
section
variable {prog:y0q} {w:World} {K:Type} [DecidableEq K] {knd:PySem.KeyKind prog w K} {A:Around}
variable {R:Result -> y04 -> Prop} {I:Addr} {fp wr:List Addr} {G:Array GenState -> Array GenState -> Prop} {St:Nat -> y04 -> Prop} {items:Array Value}
variable {E:Value -> y04 -> Prop} {s:y04}
end
end D
end
section
namespace D
open PySem PySem.Spec PyProof.Rows L2
variable [Tbl]
section
variable {X:Cx}
variable {a b e:Expr} {f g:Fe} {x y:Str} {p px py pos pos2:Pos}
end
end D
end
section
namespace D
open PySem PySem.Spec PyProof.Rows L2
variable [Tbl]
open AutoSeq1 (wpAny_loadPart')
section
variable {X:Cx} {es:List Expr} {k:Nat} {p pos p2:Pos} {a:Expr} {f:Fe}
end
end D
end
section
namespace D
open PySem PySem.Spec PyProof.Rows L2
variable [Tbl]
open AutoSeq1 (wpAny_loadPart')
section
variable {prog:y0q} {w:World} {A:Around} {E:Value -> y04 -> Prop} {s:y04}
end
end D
end
section
namespace D
open PySem PySem.Spec PyProof.Rows L2
variable [Tbl]
section
variable {K:y00} {F:Addr -> Prop} {H:Hp}
end
section
variable {X:Cx} {a e:Expr} {es:List Expr} {f:Fe} {fs:List Fe} {p p2 pos pos2:Pos}
end
end D
end
section
namespace D
open PySem PySem.Spec PyProof.Rows L2
variable [Tbl]
mutual
def ltD:T -> T -> Option Bool
 | .int a,.int b=>some (decide (a < b))
 | .tuple xs,.tuple ys=>lexD xs ys
 | _,_=>none
def lexD:List T -> List T -> Option Bool
 | [],[]=>some false
 | [],_ :: _=>some true
 | _ :: _,[]=>some false
 | x :: xs,y :: ys=>if y1r x y then lexD xs ys else ltD x y
end
def LtAt (A:Around) (s:y04) (y x:Value) (b:Bool):Prop :=
 ∀ (prog:y0q) (w:World) (E:Value -> y04 -> Prop) (Q:Value -> y04 -> Prop),Q (.bool b) s -> y0u (model prog w) A (richCompare .Lt y x) Q E s
inductive GoodP (A:Around) (s:y04) (fin:Bool):List (Value × Value) -> Bool -> Prop
 | nil:GoodP A s fin [] fin
 | eq {y x:Value} {r:List (Value × Value)} {b:Bool}:SeqAt.EqAt A s y x true -> GoodP A s fin r b -> GoodP A s fin ((y,x) :: r) b
 | lt {y x:Value} {r:List (Value × Value)} {b:Bool}:SeqAt.EqAt A s y x false -> LtAt A s y x b -> GoodP A s fin ((y,x) :: r) b
section
open PySem.SeqAt
open PySem.AutoSeq1 (wpAny_loadPart')
open PySem.MeetsSeq PySem.MeetsSeq2 PySem.MeetsSeq3
theorem z6m (l b:Addr) (items items2:Array Value) (n n2:Nat) (dd dd2:Option Addr) (sl sl2:Array (Option Value)) (z:Bool) :
  Meets (Builtin.«tuple.__lt__» ⟨[.ref l,.ref b],[]⟩)
   (fun A R s=>s.heap.get? l = some { cls:=.type "tuple",dict:=dd,data:=.seq items n,slots:=sl } /\ s.heap.get? b = some { cls:=.type "tuple",dict:=dd2,data:=.seq items2 n2,slots:=sl2 } /\
    GoodP A.in1 s (decide (items.size < items2.size)) (items.toList.zip items2.toList) z /\ R (.ok (.ret (.bool z))) s) :=
 .of_wp fun prog w A R s h=>by
  obtain ⟨hp,g,d,tk,os⟩:=s; obtain ⟨hl,hb,hg,h⟩:=h
  have f2:=AutoSeq1.sub_tuple_tuple
  wp_walk using wpAny_loadPart' hl,wpAny_loadPart' hb,wpAny_forIn_list _ (fun rest b s'=>b.1 = none /\ s' = ⟨hp,g,d,tk,os⟩ /\ GoodP A.in1 ⟨hp,g,d,tk,os⟩ (decide (items.size < items2.size)) rest z) _
  case turn =>
   rintro ⟨y,x⟩ rest b s' ⟨hb',rfl,hG⟩
   cases hG with
   | eq he hG =>
    refine y02 (he prog w _ _ ?_)
    wp_walk
    exact ⟨rfl,rfl,hG⟩
   | lt he hlt =>
    refine y02 (he prog w _ _ ?_)
    have hri:=hlt prog w
    wp_walk using hri
    exact ⟨_,rfl,h⟩
  case fin =>
   rintro ⟨b1,b2⟩ s' ⟨hb',rfl,hG⟩
   simp only at hb'
   subst hb'
   cases hG
   wp_walk
   exact ⟨_,rfl,by simpa [Builtin.Tuple.tupleCompareSizes] using h⟩
  case h =>
   exact ⟨rfl,rfl,hg⟩
mutual
theorem zcw:∀ (da db:T) (A:Around) (s:y04) (a b:Value) (as bs:List Addr) (r:Bool),Reads s.heap a da as -> Reads s.heap b db bs -> da.canLay0 = true -> db.canLay0 = true -> A.units + min da.depth db.depth < cLine -> ltD da db = some r -> LtAt A s a b r
 | .int i,.int j,A,s,_,_,_,_,r,.int _ t,.int _ u,_,_,_,e=>by
  unfold ltD at e
  cases e
  exact fun prog w E Q q=>(PyProof.Rows.lt_int q:y0u (model prog w) A (compareOp .Lt (.int i t) (.int j u)) Q E s)
 | .tuple xs,.tuple ys,A,s,_,_,_,_,r,.tuple (a:=l) (o:=o) (vs:=vs) (n:=n) h1 h2 h3 h4,.tuple (a:=l') (o:=o') (vs:=vs') (n:=n') k1 k2 k3 k4,ha,hb,hu,e=>by
  unfold ltD at e
  simp only [PyData.canLay0] at ha hb
  simp only [y1v] at hu
  have hG:=z5m xs ys A.in1 s vs.toList vs'.toList _ _ r h4 k4 ha hb (room_in hu) e
  obtain ⟨cls,dd,data,sl⟩:=o
  obtain ⟨cls2,dd2,data2,sl2⟩:=o'
  simp only at h2 h3 k2 k3
  subst h2 h3 k2 k3
  rw [y1q,y1q] at hG
  exact fun prog w E Q q=>richCompare_meets_room (op:=.Lt) ⟨_,h1,rfl⟩ ⟨_,k1,rfl⟩ PySem.F.slot_tuple_lt PySem.F.entry_tuple_lt (PySem.F.args_tuple_lt_2 _ _) (z6m l l' vs vs' n n' dd dd2 sl sl2 r)
   ⟨h1,k1,hG,show Value.bool r ≠ Value.notImplemented /\ Q (.bool r) s from ⟨(fun x=>nomatch x),q⟩⟩ (by omega)
 | .none,_,_,_,_,_,_,_,_,_,_,_,_,_,e=>by simp [ltD] at e
 | .bool _,_,_,_,_,_,_,_,_,_,_,_,_,_,e=>by simp [ltD] at e
 | .str _,_,_,_,_,_,_,_,_,_,_,_,_,_,e=>by simp [ltD] at e
 | .list _,_,_,_,_,_,_,_,_,_,_,_,_,_,e=>by simp [ltD] at e
 | .dict _,_,_,_,_,_,_,_,_,_,_,_,_,_,e=>by simp [ltD] at e
 | .int _,.none,_,_,_,_,_,_,_,_,_,_,_,_,e=>by simp [ltD] at e
 | .int _,.bool _,_,_,_,_,_,_,_,_,_,_,_,_,e=>by simp [ltD] at e
 | .int _,.str _,_,_,_,_,_,_,_,_,_,_,_,_,e=>by simp [ltD] at e
 | .int _,.list _,_,_,_,_,_,_,_,_,_,_,_,_,e=>by simp [ltD] at e
 | .int _,.dict _,_,_,_,_,_,_,_,_,_,_,_,_,e=>by simp [ltD] at e
 | .int _,.tuple _,_,_,_,_,_,_,_,_,_,_,_,_,e=>by simp [ltD] at e
 | .tuple _,.none,_,_,_,_,_,_,_,_,_,_,_,_,e=>by simp [ltD] at e
 | .tuple _,.bool _,_,_,_,_,_,_,_,_,_,_,_,_,e=>by simp [ltD] at e
 | .tuple _,.str _,_,_,_,_,_,_,_,_,_,_,_,_,e=>by simp [ltD] at e
 | .tuple _,.list _,_,_,_,_,_,_,_,_,_,_,_,_,e=>by simp [ltD] at e
 | .tuple _,.dict _,_,_,_,_,_,_,_,_,_,_,_,_,e=>by simp [ltD] at e
 | .tuple _,.int _,_,_,_,_,_,_,_,_,_,_,_,_,e=>by simp [ltD] at e
theorem z5m:∀ (xs ys:List T) (A:Around) (s:y04) (vs ws:List Value) (as bs:List Addr) (r:Bool),ReadsAll s.heap vs xs as -> ReadsAll s.heap ws ys bs -> y1b xs = true -> y1b ys = true -> A.units + min (y19 xs) (y19 ys) < cLine -> lexD xs ys = some r -> GoodP A s (decide (vs.length < ws.length)) (vs.zip ws) r
 | [],[],A,s,_,_,_,_,r,.nil,.nil,_,_,_,e=>by
  unfold lexD at e
  cases e
  exact .nil
 | [],_ :: _,A,s,_,_,_,_,r,.nil,.cons _ _,_,_,_,e=>by
  unfold lexD at e
  cases e
  exact GoodP.nil
 | _ :: _,[],A,s,_,_,_,_,r,.cons _ _,.nil,_,_,_,e=>by
  unfold lexD at e
  cases e
  exact GoodP.nil
 | x :: xs,y :: ys,A,s,_,_,_,_,r,.cons r1 r2,.cons q1 q2,ha,hb,hu,e=>by
  simp only [y1b,y16] at ha hb
  simp only [y19] at hu
  unfold lexD at e
  have he:=eqAt_reads x y A s _ _ _ _ r1 q1 ha.1 hb.1 (room_head hu)
  split at e
  next h =>
   rw [h] at he
   have ih:=z5m xs ys A s _ _ _ _ r r2 q2 ha.2 hb.2 (room_tail hu) e
   rw [List.zip_cons_cons]
   simp only [y0w,Nat.add_lt_add_iff_right]
   exact .eq he ih
  next h =>
   rw [Bool.not_eq_true] at h
   rw [h] at he
   rw [List.zip_cons_cons]
   exact .lt he (zcw x y A s _ _ _ _ r r1 q1 ha.1 hb.1 (room_head hu) e)
end
end
section
variable {prog:y0q} {w:World} {A:Around} {R:Result -> y04 -> Prop} {I:Addr} {fp wr:List Addr} {G:Array GenState -> Array GenState -> Prop} {St:Nat -> y04 -> Prop} {items:Array Value}
variable {E:Value -> y04 -> Prop} {s:y04}
end
section
variable {X:Cx} {e:Expr} {es:List Expr} {fs:List Fe} {p pos:Pos}
end
end D
end
section
namespace D
open PySem PySem.Spec PyProof.Rows L2
variable [Tbl]
end D
end
section
namespace D
open PySem
inductive Ag where
 | v (f:Fe) | o (i:Nat)
abbrev Fx:=Ev -> Option (T × Ev)
abbrev Fo:=Ev -> Option Sl
def objF (c i:Nat) (ε:Ev):Option (Md × List Sl):=match ε[i]? with
 | some (some (.obj m c' fs))=>if c' = c then some (m,fs) else none
 | _=>none
def fld (c i j:Nat):Fe:=fun ε=>(objF c i ε).bind fun o=>match o.2[j]? with
 | some (.imm t)=>some t
 | some (.own ts)=>some (.list ts)
 | _=>none
def fldV (c i j:Nat):Fe:=fun ε=>(objF c i ε).bind fun o=>match o.2[j]? with
 | some (.imm t)=>some t
 | _=>none
def fldD (c i j:Nat):Ev -> Option (List (Key × T)):=fun ε=>(objF c i ε).bind fun o=>match o.2[j]? with
 | some (.dic kvs)=>some kvs
 | _=>none
def fldL (c i j:Nat):Ev -> Option (List T):=fun ε=>(objF c i ε).bind fun o=>match o.2[j]? with
 | some (.own ts)=>some ts
 | _=>none
def fGet (c i j:Nat) (k:Fe):Fe:=fun ε=>(k ε).bind fun t=>(zba t).bind fun k=>(fldD c i j ε).bind fun kvs=>getD kvs k
def zh4 (c i j:Nat):Fe:=fun ε=>(fldD c i j ε).map fun kvs=>.tuple (kvs.map (·.2))
def setF (c i j:Nat) (s:Sl) (ε:Ev):Option Ev:=(objF c i ε).bind fun o=>if o.1 = .ro then none else
 if j < o.2.length then some (ε.set i (some (.obj o.1 c (o.2.set j s)))) else if j = o.2.length then some (ε.set i (some (.obj o.1 c (o.2 ++ [s])))) else none
def asgF (c i j:Nat) (f:Fe):Fs:=fun ε=>(f ε).bind fun t=>(setF c i j (.imm t) ε).map .nx
def z4y (c i j:Nat) (f:Fe):Fs:=fun ε=>(f ε).bind fun t=>match t with
 | .list ts=>(setF c i j (.own ts) ε).map .nx
 | _=>none
def z83:T -> T -> Option Int
 | .int i,.int j=>some (i + j)
 | _,_=>none
def augF (c i j:Nat) (f:Fe):Fs:=fun ε=>(fldV c i j ε).bind fun x=>(f ε).bind fun y=>(z83 x y).bind fun z=>(setF c i j (.imm (.int z)) ε).map .nx
def appF (c i j:Nat) (f:Fe):Fs:=fun ε=>(f ε).bind fun t=>(fldL c i j ε).bind fun ts=>if ts.length < big then (setF c i j (.own (ts ++ [t])) ε).map .nx else none
def rmF (c i j:Nat) (f:Fe):Fs:=fun ε=>(f ε).bind fun t=>(fldL c i j ε).bind fun ts=>match t,zae ts with
 | .str x,some ss=>if x ∈ ss then (setF c i j (.own ((ss.erase x).map .str)) ε).map .nx else none
 | _,_=>none
def zdo:T -> Option T
 | .tuple xs=>some (.list xs)
 | .list xs=>some (.list xs)
 | _=>none
def zcq:T -> Option T
 | .list xs=>if xs.length < 64 then (zae xs).map fun ss=>.list ((ze1 ss).map .str) else none
 | _=>none
def z9e (c i j:Nat) (k v:Fe):Fs:=fun ε=>(v ε).bind fun v=>(k ε).bind fun t=>(zba t).bind fun k=>(fldD c i j ε).bind fun kvs=>if kvs.length < big then (setF c i j (.dic (putD kvs k v)) ε).map .nx else none
def za3 (c i j:Nat) (k v:Fe):Fs:=fun ε=>(k ε).bind fun t=>(zba t).bind fun k=>(fldD c i j ε).bind fun kvs=>(getD kvs k).bind fun x=>(v ε).bind fun y=>(z83 x y).bind fun z=>if kvs.length < big then (setF c i j (.dic (putD kvs k (.int z))) ε).map .nx else none
def zipD:List T -> List T -> Option (List (Key × T))
 | [],_=>some []
 | _ :: _,[]=>some []
 | k :: ks,v :: vs=>(zba k).bind fun k=>(zipD ks vs).map fun r=>(k,v) :: r
def zhc (c i j:Nat) (ks vs:Fe):Fs:=fun ε=>(ks ε).bind fun tk=>(vs ε).bind fun tv=>match tk,tv with
 | .list lk,.tuple lv=>(zipD lk lv).bind fun kvs=>if (kvs.map (·.1)).Nodup /\ kvs.length <= 1000 /\ (∀ t ∈ lk,(zba t).isSome = true) then (setF c i j (.dic kvs) ε).map .nx else none
 | _,_=>none
def z4z (c:Nat) (d:List Sl -> Option T) (i:Nat) (fs:List Fe):Fe:=fun ε=>(objF c i ε).bind fun o=>(args fs ε).bind fun ts=>d (.obj .ro c o.2 :: ts.map .imm)
def z0f (c:Nat) (d:List Sl -> Option (T × List Sl)) (i:Nat) (fs:List Fe):Fx:=fun ε=>(objF c i ε).bind fun o=>if o.1 = .ro then none else (args fs ε).bind fun ts =>
 (d (.obj .lent c o.2 :: ts.map .imm)).map fun r=>(r.1,ε.set i (some (.obj o.1 c r.2)))
def newO (c:Nat) (d:List Sl -> Option (T × List Sl)) (fs:List Fe):Fo:=fun ε=>(args fs ε).bind fun ts=>(d (.obj .lent c [] :: ts.map .imm)).bind fun r=>match r.1 with
 | .none=>some (.obj .own c r.2)
 | _=>none
def zhb (d:List T -> Option Sl) (fs:List Fe):Fo:=fun ε=>(args fs ε).bind d
def zbg (c:Nat):Sl -> Option (List Sl)
 | .obj .own c' fs=>if c' = c then some fs else none
 | _=>none
def ofO (c:Nat) (d:List Sl -> Option T) (o:Fo) (fs:List Fe):Fe:=fun ε=>(o ε).bind fun s=>(zbg c s).bind fun os=>(args fs ε).bind fun ts=>d (.obj .ro c os :: ts.map .imm)
def zes (c j:Nat) (o:Fo):Fe:=fun ε=>(o ε).bind fun s=>(zbg c s).bind fun os=>match os[j]? with
 | some (.own ts)=>some (.list ts)
 | _=>none
def exX (f:Fx):Fs:=fun ε=>(f ε).map fun r=>.nx r.2
def rtnX (f:Fx):Fs:=fun ε=>(f ε).map fun r=>.rtm r.1 r.2
def rtnM (f:Fe):Fs:=fun ε=>(f ε).map fun t=>.rtm t ε
def asgX (i:Nat) (f:Fx):Fs:=fun ε=>(f ε).map fun r=>.nx (r.2.set i (some (.imm r.1)))
def asgO (i:Nat) (f:Fo):Fs:=fun ε=>(f ε).map fun s=>.nx (ε.set i (some s))
def rtnO (i:Nat):Fs:=fun ε=>match ε[i]? with
 | some (some (.obj .own c fs))=>some (.rto (.obj .own c fs))
 | _=>none
def z6s:Fs:=fun ε=>some (.rtm .none ε)
def never:Fs:=fun _=>none
def z49 (n:Nat) (ss:List Sl):Ev:=ss.map some ++ y0g (n - ss.length) none
def runR (b:Fs) (n:Nat) (ss:List Sl):Option T:=(b (z49 n ss)).bind fun o=>match o with
 | .rt t=>some t
 | .nx _=>some .none
 | _=>none
def z4j (c p:Nat) (ε:Ev):Option (List Sl):=match ε[p]? with
 | some (some (.obj .lent c' fs))=>if c' = c then some fs else none
 | _=>none
def runM (c p:Nat) (b:Fs) (n:Nat) (ss:List Sl):Option (T × List Sl):=(b (z49 n ss)).bind fun o=>match o with
 | .rtm t ε=>(z4j c p ε).map fun fs=>(t,fs)
 | .nx ε=>(z4j c p ε).map fun fs=>(.none,fs)
 | _=>none
def ownS:Sl -> Option Sl
 | .obj .own c fs=>some (.obj .own c fs)
 | _=>none
def runO (b:Fs) (n:Nat) (ts:List T):Option Sl:=(b ((ts.map fun t=>some (.imm t)) ++ y0g (n - ts.length) none)).bind fun o=>match o with
 | .rto s=>ownS s
 | _=>none
end D
end
section
namespace D
open PySem PySem.Spec PyProof.Rows L2
variable [Tbl]
section
variable {K:y00} {F F' O:Addr -> Prop} {H H':Hp} {E:En}
end
section
variable {K:y00} {F₀ F F1 O:Addr -> Prop} {H H1:Hp} {E:En} {ε ε':Ev} {σ:L2.St} {c C i j:Nat} {ns:List Str}
end
end D
end
section
namespace D
open PySem PySem.Spec PyProof.Rows L2
variable [Tbl]
section
variable {K:y00} {F₀ F O:Addr -> Prop} {H:Hp} {E:En} {ε:Ev} {σ:L2.St} {c C i j:Nat} {ns:List Str} {f:Str}
end
section
variable {X:Cx} {c C i j:Nat} {ns:List Str} {f:Str} {o e a:Expr} {g h:Fe} {pos apos:Pos}
end
end D
end
section
namespace D
open PySem PySem.Spec PyProof.Rows L2
variable [Tbl]
section
variable {X:Cx} {e:Expr} {es:List Expr} {as:List Ag} {f:Fe} {i:Nat}
end
section
variable {K:y00} {F F' F₀ O:Addr -> Prop} {H H':Hp} {E E':En}
end
section
variable {P:y0q} {w:World} {K:y00} {mg:Str -> Option Value} {base:Heap}
end
section
variable {X:Cx} {k n c C i:Nat} {ns:List Str} {d:List Sl -> Option T} {x m:Str} {p pos apos:Pos} {o e:Expr} {es:List Expr} {as:List Ag} {fs:List Fe}
end
end D
end
section
namespace D
open PySem PySem.Spec PyProof.Rows L2
variable [Tbl]
section
variable {K:y00} {F F' F₀ O:Addr -> Prop} {H H':Hp} {E:En} {P:List Addr} {a b:Addr} {o:HO} {ε:Ev} {σ:L2.St} {c i:Nat} {m:Md} {fs fs':List Sl}
end
section
variable {P:y0q} {w:World} {K:y00} {mg:Str -> Option Value} {base:Heap}
end
section
variable {X:Cx} {k n c C i:Nat} {ns:List Str} {d:List Sl -> Option (T × List Sl)} {x m:Str} {p pos apos:Pos} {o e:Expr} {es:List Expr} {fs gs:List Fe} {fx:Fx}
end
end D
end
section
namespace D
open PySem PySem.Spec PyProof.Rows L2
variable [Tbl]
section
variable {P:y0q} {w:World} {K:y00} {mg:Str -> Option Value} {base:Heap}
end
section
variable {X:Cx} {k n c C i j:Nat} {ns:List Str} {x m f:Str} {p pos apos:Pos} {o e:Expr} {es:List Expr} {fs:List Fe} {fo:Fo}
def z7w (xs:List Str):List T:=xs.map .str
end
end D
end
section
namespace D
open PySem PySem.Spec PyProof.Rows L2
variable [Tbl]
open AutoSeq1 (wpAny_loadPart')
section
variable {X:Cx} {a e o:Expr} {f g:Fe} {p pos apos:Pos}
end
section
variable {X:Cx} {c C i j:Nat} {ns:List Str} {f:Str} {o e:Expr} {g:Fe} {pos apos:Pos}
end
end D
end
section
namespace D
open PySem PySem.Spec PyProof.Rows L2
variable [Tbl]
open AutoSeq1 (wpAny_loadPart')
section
variable {prog:y0q} {w:World} {A:Around} {E:Value -> y04 -> Prop} {s:y04} {T:String} {r d:Addr} {n:Nat} {P:Nat -> Value -> Prop} {OK:Heap -> Prop}
end
section
variable {X:Cx}
variable {c C i j:Nat} {ns:List Str} {f:Str} {o:Expr} {p pos apos bpos cpos:Pos}
end
end D
end
section
namespace D
open PySem PySem.Spec PyProof.Rows L2
variable [Tbl]
open AutoSeq1 (wpAny_loadPart')
section
variable {prog:y0q} {w:World} {A:Around} {E:Value -> y04 -> Prop} {s:y04} {z TI TO i1 i2 l1 l2:Addr} {k n1 n2:Nat} {P1 P2:Nat -> Value -> Prop} {S1 S2:Nat -> Heap -> Prop} {a b f1:Value}
end
end D
end
section
namespace D
open PySem PySem.Spec PyProof.Rows L2
variable [Tbl]
open AutoSeq1 (wpAny_loadPart')
section
variable {prog:y0q} {w:World} {A:Around} {E:Value -> y04 -> Prop} {s:y04}
end
end D
end
section
namespace D
open PySem PySem.Spec PyProof.Rows L2
variable [Tbl]
section
variable {prog:y0q} {w:World} {K:Type} [DecidableEq K] {knd:PySem.KeyKind prog w K} {A:Around} {E:Value -> y04 -> Prop} {s:y04} {R:Result -> y04 -> Prop} {z TI TO i1 i2 l1 l2:Addr} {b1 b2:Bool} {xs ys:Array Value}
end
end D
end
section
namespace D
open PySem PySem.Spec PyProof.Rows L2
variable [Tbl]
section
variable {X:Cx} {a b:Expr} {f g:Fe} {p p2 pos pos2:Pos}
variable {c C i j:Nat} {ns:List Str} {fn:Str} {o:Expr} {apos:Pos}
end
end D
end
section
namespace D
open PySem PySem.Spec PyProof.Rows L2
variable [Tbl]
open AutoSeq1 (wpAny_loadPart')
def oRep:T -> T -> Option T
 | .tuple xs,.int k=>if 2 <= k /\ k < 1000 /\ xs ≠ [] /\ xs.length * k.toNat <= big then some (.tuple (y0g k.toNat xs).flatten) else none
 | .list xs,.int k=>if 0 <= k /\ k < 1000 /\ xs.length * k.toNat <= big then some (.list (y0g k.toNat xs).flatten) else none
 | _,_=>none
theorem z38:fillsNumberSlot (.type "tuple") "mul" = pure false :=
 PySem.fillsNumberSlot_seq (id:="tuple.__mul__") (r:=some (.builtin "tuple.__rmul__")) F.slot_tuple_mul.lookup (by decide +kernel) F.slot_tuple_rmul.lookup (by decide +kernel)
theorem z5u:seqRepeat? (.type "tuple") = pure (some (.builtin "tuple.__mul__")):=by
 unfold seqRepeat?
 rw [PySem.seqSlot_of (T:="tuple") (name:="__mul__") (id:="tuple.__mul__") F.slot_tuple_mul.lookup (by decide +kernel),PySem.seqSlot_of (T:="tuple") (name:="__rmul__") (id:="tuple.__rmul__") F.slot_tuple_rmul.lookup (by decide +kernel)]
 rfl
theorem z80 (a:Int) (t:Tok) (l:Addr) (its:Array Value) (n:Nat) (dd:Option Addr) (sl:Array (Option Value)):Meets (Builtin.«int.__rmul__» ⟨[.int a t,.ref l],[]⟩) (fun _ R s=>s.heap.get? l = some { cls:=.type "tuple",dict:=dd,data:=.seq its n,slots:=sl } /\ R (.ok (.ret Value.notImplemented)) s) :=
 .of_wp fun prog w A R s h=>by
  obtain ⟨hp,g,d,tk,os⟩:=s
  obtain ⟨hl,h⟩:=h
  wp_walk
  exact ⟨_,rfl,h⟩
theorem z9q (l:Addr) (its:Array Value) (n:Nat) (dd:Option Addr) (sl:Array (Option Value)) (k:Int) (t:Tok) (h1:2 <= k) (h2:k < 1000) (hne:its.isEmpty = false) (hz:its.size * k.toNat <= y0j) :
  Meets (Builtin.«tuple.__mul__» ⟨[.ref l,.int k t],[]⟩) (fun _ R s=>s.heap.get? l = some { cls:=.type "tuple",dict:=dd,data:=.seq its n,slots:=sl } /\
   R (.ok (.ret (.ref s.heap.objs.size))) { s with heap:=s.heap.push { cls:=.type "tuple",data:=.seq ((y0g k.toNat its).foldl (· ++ ·) #[]) } }) :=
 .of_wp fun prog w A R s h=>by
  obtain ⟨hp,g,d,tk,os⟩:=s
  obtain ⟨hl,h⟩:=h
  have c1:¬ (decide (k < -(2 ^ 63)) || decide (k >= 2 ^ 63)) = true:=by simp; omega
  have c2:¬ (its.isEmpty || k == 1) = true:=by simp [hne]; omega
  have c3:¬ (decide (k <= 0) || its.isEmpty) = true:=by simp [hne]; omega
  wp_walk using wpAny_loadPart' hl
  have hzk:(its.size:Int) * k = ((its.size * k.toNat:Nat):Int):=by
   have:(k.toNat:Int) = k:=Int.toNat_of_nonneg (by omega)
   rw [<- this]
   push_cast
   simp
  have c4:¬ ((its.size:Int) * k > (2 ^ 63 - 1) / 8):=by
   rw [hzk]
   rw [sizeLine_eq] at hz
   omega
  have c5:¬ Builtin.Tuple.tupleTooMany ((its.size:Int) * k) = true:=by
   unfold Builtin.Tuple.tupleTooMany
   rw [hzk,decide_eq_true_iff]
   omega
  rw [if_neg c1]
  wp_walk using wpAny_loadPart' hl
  rw [if_neg c2,if_neg c3,if_neg c4,if_neg c5]
  unfold y11
  refine y02 (wpAny_newObj_type (y06 ⟨_,rfl,h⟩) ?_)
  have e:=z32 its.toList k.toNat []
  rw [List.nil_append] at e
  show (List.foldl _ #[] (y0g k.toNat its)).size <= y0j
  have e':List.foldl (fun x1 x2=>x1 ++ x2) #[] (y0g k.toNat its) = (y0g k.toNat its.toList).flatten.toArray:=by simpa using e
  rw [e',y0h,z8i,y1q,Nat.mul_comm]
  exact hz
section
variable {X:Cx} {a b:Expr} {f g:Fe} {pos:Pos}
theorem zem:OpR X (binaryOp .Mult) (fun x y H Q=>∃ a k xs,x = .ref a /\ y = .int k /\ SqT X.K H a xs /\ xs ≠ [] /\ 2 <= k /\ k < 1000 /\ xs.length * k.toNat <= y0j /\ ∀ p,H p = none -> Q (.ref p) (upd H p (.tup (y0g k.toNat xs).flatten))):=by
 intro pins s σ H x y v u Q I rx ry h
 obtain ⟨l,k,xs,rfl,rfl,hH,hne,h1,h2,hz,q⟩:=h
 cases rx
 obtain ⟨t,rfl⟩:=ry
 obtain ⟨its,r,pl,_⟩:=I.tuple hH
 have hl:=r.length
 obtain ⟨⟨cls,dd,data,sl⟩,ho,hc,n,hd⟩:=id pl
 simp only at hc hd
 subst hc hd
 have hem:its.toArray.isEmpty = false:=by
  cases its with
  | nil =>
   cases xs with
   | nil=>exact absurd rfl hne
   | cons x xs=>simp at hl
  | cons=>rfl
 refine wpAny_binaryOp_repeat_ref (T:="tuple") (U:="int") (by decide) ⟨_,ho,rfl⟩ (fun s'=>typeIs_int s' k t) z38 F.fills_int_mul F.slot_int_rmul z5u F.slot_int_index.lookup
  (call_meets F.slot_int_rmul (typeIs_int s k t) F.entry_int_rmul (F.args_int_rmul_2 _ _) (z80 k t l its.toArray n dd sl)
   ⟨ho,rfl,⟨_,ho,rfl⟩,call_meets F.slot_tuple_mul ⟨_,ho,rfl⟩ F.entry_tuple_mul (F.args_tuple_mul_2 _ _) (z9q l its.toArray n dd sl k t h1 h2 hem (by rw [y0h,<- hl]; exact hz)) ⟨ho,?_⟩⟩)
 have e:List.foldl (fun x1 x2=>x1 ++ x2) #[] (y0g k.toNat its.toArray) = (y0g k.toNat its).flatten.toArray:=by simpa using z32 its k.toNat []
 have hz2:(y0g k.toNat xs).flatten.length <= y0j:=by rw [z8i,Nat.mul_comm]; exact hz
 refine ⟨.ref s.heap.objs.size,upd H s.heap.objs.size (.tup (y0g k.toNat xs).flatten),I.laid (t':=s.toks) (fun b u e=>y03 _ e) (y0o _) ⟨hz2,_,r.rep k.toNat,⟨_,y0l _ rfl,rfl,0,?_⟩⟩,rfl,q _ I.fresh⟩
 exact congrArg (fun z=>Data.seq z 0) e
theorem zen:OpR X (binaryOp .Mult) (fun x y H Q=>∃ l k xs,x = .ref l /\ y = .int k /\ Rd H l (.lst xs) /\ 0 <= k /\ k < 1000 /\ xs.length * k.toNat <= y0j /\ ∀ p,H p = none -> Q (.ref p) (upd H p (.lst (y0g k.toNat xs).flatten))):=by
 intro pins s σ H x y v u Q I rx ry h
 obtain ⟨l,k,xs,rfl,rfl,hH,h1,h2,hz,q⟩:=h
 cases rx
 obtain ⟨t,rfl⟩:=ry
 obtain ⟨z,its,n,r,hl,e⟩:=Inv.lstR I hH
 have hlen:its.toArray.size * k.toNat <= y0j:=by rw [y0h,<- hl]; exact hz
 have hcap:¬ its.toArray.size * k.toNat > (2 ^ 63 - 1) / 8:=by
  have:(y0j:Nat) <= (2 ^ 63 - 1) / 8:=by decide
  omega
 have hfit:¬ (!Builtin.List.listFitsIndex k) = true:=by rw [fitsIndex_both (by omega) (by omega)]; exact y1t
 have hlong:¬ Builtin.List.listTooLong (its.toArray.size * k.toNat) = true:=by rw [z5z hlen]; exact y1t
 have f0:∀ m:Nat,List.foldl (fun x1 x2=>x1 ++ x2) #[] (y0g m its.toArray) = (y0g m its).flatten.toArray:=fun m=>by simpa using z32 its m []
 have hnew:List.foldl (fun x1 x2=>x1 ++ x2) #[] (y0g (if its.toArray.isEmpty = true then 0 else k.toNat) its.toArray) = (y0g k.toNat its).flatten.toArray:=by
  rw [f0]
  cases its with
  | nil=>simp
  | cons a r'=>rw [if_neg (by simp)]
 refine wpAny_binaryOp_repeat_ref (T:="list") (U:="int") (by decide) ⟨_,e,rfl⟩ (fun s'=>typeIs_int s' k t) noFill_list_mul F.fills_int_mul F.slot_int_rmul repeat_list F.slot_int_index.lookup
  (call_meets F.slot_int_rmul (typeIs_int s k t) F.entry_int_rmul (F.args_int_rmul_2 _ _) (int___rmul___int_list k t l its.toArray n) ⟨e,rfl,⟨_,e,rfl⟩,call_meets F.slot_list_mul ⟨_,e,rfl⟩ F.entry_list_mul (F.args_list_mul_2 _ _) (AutoListH.list___mul___list_int_3 l its.toArray n k t hfit hcap hlong) ⟨e,?_⟩⟩)
 rw [hnew]
 exact ⟨.ref _,_,I.lnew (t':=s.toks) (r.rep k.toNat) (by rw [z8i,Nat.mul_comm]; exact hz),rfl,q _ I.fresh⟩
theorem RepL.rep {K:y00} {F:Addr -> Prop} {H:Hp} {ts:List T} {vs:List V} (h:RepL K F H ts vs):∀ k:Nat,RepL K F H (y0g k ts).flatten (y0g k vs).flatten
 | 0=>RepL.nil
 | k + 1=>by
  rw [y1k,y1k,y1w,y1w]
  exact h.append (RepL.rep h k)
theorem zhq (ha:PEr X a f) (hb:PEr X b g):PEv X (.BinOp a .Mult b pos) (op2 oRep f g):=z0l (zaq (zem.or zen) ha hb) (z22 (by
 intro O F H x y t vx vy Q d rx ry e k
 unfold oRep at e
 split at e
 next xs n =>
  split at e
  next hz =>
   cases e
   obtain ⟨ax,vs,rfl,hs,hr⟩:=rx.tup
   rw [ry.int]
   refine .inl ⟨ax,_,vs,rfl,rfl,hs,fun z=>?_,hz.1,hz.2.1,by rw [z3q,<- hr.length]; exact hz.2.2.2,fun p hp=>?_⟩
   ·subst z
    exact hz.2.2.1 (List.eq_nil_of_length_eq_zero (by rw [hr.length]; rfl))
   ·have x1:=Ext.laid (o:=.tup (y0g n.toNat vs).flatten) d hp
    refine k _ F _ x1 ?_
    simp only [Rep]
    exact ⟨p,_,rfl,SqT.of z08,(hr.rep _).ext x1⟩
  next=>cases e
 next xs n =>
  split at e
  next hz =>
   cases e
   obtain ⟨ax,vs,rfl,hs,hr⟩:=rx.lst
   rw [ry.int]
   refine .inr ⟨ax,_,vs,rfl,rfl,hs,hz.1,hz.2.1,by rw [z3q,<- hr.length]; exact hz.2.2,fun p hp=>?_⟩
   have x1:=Ext.laidF (o:=.lst (y0g n.toNat vs).flatten) d hp
   refine k _ _ _ x1 ?_
   simp only [Rep]
   exact ⟨p,_,rfl,.inr rfl,.inl z08,(hr.rep _).ext x1⟩
  next=>cases e
 ·cases e))
end
end D
end
section
namespace D
open PySem PySem.Spec PyProof.Rows L2
variable [Tbl]
section
variable {X:Cx} {a b c:Expr} {f g h:Fe} {pos:Pos}
end
section
variable {X:Cx} {c C i j:Nat} {ns:List Str} {f:Str} {o:Expr} {pos apos:Pos}
end
end D
end
section
namespace D
open PySem PySem.Spec PyProof.Rows L2
abbrev t0:Tbl:=⟨[],fun _=>[],fun _=>none⟩
def z03 (ns:List Int):T:=.list (ns.map .int)
def noL (K:y00):Bool:=K.all fun p=>match p.2.cls with
 | .type t=>t != "list"
 | _=>true
theorem z4i {α β:Type} [BEq α] [LawfulBEq α] {a:α} {b:β}:∀ {l:List (α × β)},l.lookup a = some b -> (a,b) ∈ l
  | [],h=>by cases h
  | (x,y) :: l,h=>by
    rw [y1a] at h
    split at h
    next q =>
      cases h
      have:a = x:=by simpa using q
      subst this
      simp
    next=>exact y05 _ (z4i h)
theorem zaf {K:y00} {H:Hp} {a:Addr} {ns:List Int} {d:List T -> Option T} (hL:noL K = true) (hd:d [z03 ns] = some (.bool true)) (hS:SqL K H a (ns.map V.int)):@spT t0 K 1 d [.ref a] H (fun v _=>v = .bl true) fun _ _ _=>False:=by
 letI:=t0
 rcases hS with hS | ⟨o,its,n,hk,hc,_⟩
 ·refine ⟨rfl,fun b=>b = a,[z03 ns],.bool true,⟨?_,fun p hp=>by cases hp⟩,RepL.cons ?_ RepL.nil,hd,fun v F' H' x r=>by simpa [Rep] using r⟩
  ·rintro b rfl
   rcases hS with q | ⟨u,q⟩
   ·exact ⟨_,q⟩
   ·exact ⟨_,q⟩
  ·simp only [z03,Rep]
   exact ⟨a,_,rfl,rfl,hS,z6t ns⟩
 ·have:=List.all_eq_true.mp hL _ (z4i hk)
  simp [hc] at this
theorem zez {t:Tbl} (ht:t.tb = []) {P:y0q} {w:World} {K:y00} {mg:Str -> Option Value} {base:Heap} {k n:Nat} {f:Addr} {fd:y0b} {ps:List Str} {d:List T -> Option T} (F:FnOk P w K mg base CX0 k f fd ps (@spT t K n d)):FnOk P w K mg base CX0 k f fd ps (@spT t0 K n d):=by
 have d1:∀ {F:Addr -> Prop} {H:Hp},@Dom t0 F H -> @Dom t F H:=fun {F H} h=>@Dom.mk t F H (@Dom.dm t0 F H h) (fun p hp=>by rw [ht] at hp; cases hp)
 have d2:∀ {F:Addr -> Prop} {H:Hp},@Dom t F H -> @Dom t0 F H:=fun {F H} h=>@Dom.mk t0 F H (@Dom.dm t F H h) (fun p hp=>by cases hp)
 refine F.imp fun vs H Q E h=>?_
 obtain ⟨hl,F,ts,r,dom,q,e,kq⟩:=h
 exact ⟨hl,F,ts,r,d1 dom,q,e,fun v F' H' x rv=>kq v F' H' (@Ext.mk t0 F H F' H' (@Ext.same t F H F' H' x) (@Ext.sub t F H F' H' x) (@Ext.new t F H F' H' x) (d2 (@Ext.dom t F H F' H' x))) rv⟩
end D
end
section
namespace D
open PySem PySem.Spec PyProof.Rows L2
section
variable [Tbl]
variable {X:Cx} {e:Expr} {es:List Expr} {fs:List Fe} {p pos:Pos}
def zb0:List T -> Option T
 | [.list xs]=>(z4m xs).bind fun ns=>if ns.length <= 1000 /\ ∀ n ∈ ns,-1000000000000 <= n /\ n <= 1000000000000 then some (.int ns.sum) else none
 | _=>none
theorem zbt (hc:X.calm = true):z41 X (.builtin "sum") (fun xs H Q=>∃ (p:Addr) (ns:List Int),xs = [.ref p] /\ SqL X.K H p (ns.map V.int) /\ ns.length <= 1000 /\ (∀ n ∈ ns,-1000000000000 <= n /\ n <= 1000000000000) /\ Q (.int ns.sum) H):=by
 intro pins s σ H xs us Q I r h
 obtain ⟨p,ns,rfl,hq,hl,hb,q⟩:=h
 obtain ⟨u,rfl,rx⟩:=zcb r
 cases rx
 obtain ⟨its,r',pl,hz⟩:=I.list hq
 have hI:IntsAre its ns:=z9u r'
 have hlen:its.length = ns.length:=hI.length
 have hlt:p < s.heap.objs.size:=by obtain ⟨o,n,ho,_⟩:=pl; exact y0c ho
 refine PySem.call_sum_walk (wpAny_pyIter_list (items:=its.toArray) pl.isList ?_)
 refine ⟨_,[s.heap.objs.size,p],[s.heap.objs.size],_,_,_,(fun i=>ns.getD i 0),rfl,Walks.list (A:=X.A.in1) (I.ok.hd hc) _ p (y0y hlt) its.toArray,⟨⟨_,y0l _ rfl,rfl,rfl⟩,pl.isList.push _⟩,fun b hb=>?_,fun i v e=>?_,fun j hj=>?_,fun h' tk t' hk=>?_⟩
 ·rw [Heap.size_push]
  simp only [y09,y1y,or_false] at hb
  rcases hb with rfl | rfl
  ·exact Nat.lt_succ_self _
  ·exact Nat.lt_succ_of_lt hlt
 ·exact hI.int_at i v (by simpa using e)
 ·have hj':j < ns.length:=by simpa [hlen] using hj
  have m1:=hb ns[j] (List.getElem_mem hj')
  have e1:ns.getD j 0 = ns[j]:=by simp [List.getD_eq_getElem?_getD,hj']
  rw [z4f ns (j + 1) (by omega)]
  have m2:=zdd (B:=1000000000000) (by decide) (ns.take (j + 1)) fun n hn=>hb n (List.mem_of_mem_take hn)
  rw [List.length_take] at m2
  have:((min (j + 1) ns.length:Nat):Int) <= 1000:=by omega
  show InLong _ /\ InLong _
  unfold InLong
  dsimp only
  rw [e1]
  constructor <;> constructor <;> omega
 ·have e:its.toArray.size = ns.length:=by simp [hlen]
  rw [e,z4f ns ns.length (y0o _),List.take_length]
  exact ⟨.int ns.sum,H,I.kept (t':=tk) fun b o e=>hk b o (by simp only [List.mem_singleton]; exact y0y (y0c e)) (y03 _ e),⟨t',rfl⟩,q⟩
theorem zfw (hc:X.calm = true) (hm:X.mg "sum" = none) (ha:PAr X (e :: es) fs) (hg:Gl X "sum":=by rfl) (he:y0a (e :: es) X.env = (false,eval e X.env) :: y0a es X.env:=by rfl) (hpl:(backTo pos (y0a es X.env)).any (·.1) = false:=by rfl) :
  PEv X (.Call (.Name "sum" p) (e :: es) [] pos) (opN zb0 fs):=z0l (z44 (zbt hc) hg hm (by decide +kernel) ha (he:=he) (hpl:=hpl)) (z4g (by
 intro O F H ts t vs Q d q e k
 unfold zb0 at e
 split at e
 ·simp only [y01] at e
  obtain ⟨ns,en,e⟩:=e
  split at e
  next hz =>
   cases e
   have:=z7f en
   subst this
   cases q with
   | cons q1 q2 =>
    cases q2
    obtain ⟨l0,ws,rfl,hl,hr⟩:=q1.lst
    have:=z5d hr
    subst this
    exact ⟨l0,ns,rfl,.inl hl,hz.1,hz.2,k _ F H (Ext.refl d) (by simp [Rep])⟩
  next=>cases e
 ·cases e))
end
end D
end
section
namespace D
open PySem PySem.Spec PyProof.Rows L2
variable [Tbl]
open AutoSeq1 (wpAny_loadPart')
section
variable {X:Cx} {a b:Expr} {f g:Fe} {pos:Pos}
end
end D
end
section
namespace D
open PySem PySem.Spec PyProof.Rows L2
variable [Tbl]
section
variable {X:Cx} {es:List Expr} {k:Nat} {p pos p2:Pos} {a b:Expr} {f g:Fe}
end
end D
end
section
namespace D
open PySem PySem.Spec PyProof.Rows L2
section
variable [Tbl]
variable {X:Cx} {a b:Expr} {f g:Fe} {pos:Pos}
end
end D
end
section
namespace D
open PySem PySem.Spec PyProof.Rows L2
section
variable [Tbl]
variable {X:Cx} {e:Expr} {f:Fe} {pos:Pos}
end
end D
end
section
namespace D
open PySem PySem.Spec PyProof.Rows L2
variable [Tbl]
section
variable {X:Cx} {a b c:Expr} {f g h:Fe} {pos:Pos}
end
section
variable {X:Cx} {pos:Pos}
end
section
variable {X:Cx} {a:Expr} {f:Fe} {p px pos pos2:Pos}
end
end D
end
section
namespace D
open PySem PySem.Spec PyProof.Rows L2
section
variable {X:Cx} {pins:List (Addr × Obj)} {σ:L2.St} {H:Hp} {s:y04} {a:Addr} {d:V} {r:Value} {A:Around} {E:Value -> y04 -> Prop}
end
section
variable {X:Cx} {o e f:Expr} {apos cpos:Pos} {td ty tx:TE}
end
variable [Tbl]
section
variable {X:Cx} {a b:Expr} {f g:Fe} {x:Str} {px apos cpos pos:Pos}
end
section
variable {X:Cx} {a b:Expr} {f g:Fe} {p p2 pos pos2:Pos}
variable {x:Str} {px dpos:Pos}
end
end D
end
section
namespace D
open PySem PySem.Spec PyProof.Rows L2
variable [Tbl]
open PySem.W (kas_ask kas_sort kat_run kat_snds kat_lt kat_kind KatTups KatLex KatGo kas_item KasT)
def hT (x:Str × List T):T:=.tuple (.str x.1 :: x.2)
section
variable {prog:y0q} {w:World} {A:Around} {s:y04}
end
section
variable {X:Cx}
variable {e:Expr} {es:List Expr} {fs:List Fe} {p pos:Pos}
end
section
variable {X:Cx} {o e:Expr} {f g:Fe} {apos cpos:Pos}
end
section
variable {X:Cx} {a b:Expr} {f g:Fe} {pos:Pos}
end
end D
end
section
namespace D
open PySem PySem.Spec PyProof.Rows L2
section
variable {prog:y0q} {w:World} {A:Around} {E:Value -> y04 -> Prop} {s:y04} {ar:Array Keyed}
end
variable [Tbl]
section
variable {X:Cx}
variable {e:Expr} {es:List Expr} {fs:List Fe} {p pos:Pos}
end
end D
end
section
namespace D
open PySem PySem.Spec PyProof.Rows L2
open AutoSeq1 (wpAny_loadPart')
section
variable {prog:y0q} {w:World} {A:Around} {E:Value -> y04 -> Prop} {s:y04}
end
end D
end
section
namespace D
open PySem PySem.Spec PyProof.Rows L2
variable [Tbl]
section
variable {M:Model} {A:Around} {E:Value -> y04 -> Prop} {s:y04} {env:Env}
end
section
variable {prog:y0q} {w:World} {A:Around} {E:Value -> y04 -> Prop} {s:y04}
end
def zia (ts:List T):List T:=ts.zipIdx.map fun p=>.tuple [.int ((p.2 + 1:Nat):Int),p.1]
def zev (f:Fi):Fi:=fun ε=>(f ε).map zia
section
variable {X:Cx} {es:List Expr} {k kc:Nat} {p pos p2 pc pk:Pos} {a:Expr} {f:Fe}
end
section
variable {X:Cx} {e:Expr} {f:Fe} {pos:Pos}
def zcg (K:y00):V -> List V -> Hp -> VK -> Prop:=fun x vs H Q=>∃ l b xs zs,x = .ref l /\ vs = [.ref b] /\ H l = some (.lst xs) /\ SqT K H b zs /\ xs.length + zs.length <= y0j /\ Q .non (upd H l (.lst (xs ++ zs)))
open AutoSeq1 in
theorem zbh (l:Addr) (as:Array Value) (n:Nat) (b:Addr) (bs:Array Value) (m:Nat) (dd:Option Addr) (sl:Array (Option Value)) (g0:¬ (!as.isEmpty && Builtin.List.listTooLong (as.size + bs.size)) = true) (g1:as.size <= y0j) (g2:as.size + bs.size <= y0j + 1) :
  Meets (Builtin.«list.extend» ⟨[.ref l,.ref b],[]⟩) (fun _ R s=>s.heap.get? l = some { cls:=.type "list",dict:=none,data:=.seq as n,slots:=#[] } /\ s.heap.get? b = some { cls:=.type "tuple",dict:=dd,data:=.seq bs m,slots:=sl } /\
   R (.ok (.ret Value.none)) { s with heap:=s.heap.update l (Obj.mapSeq fun x=>x ++ bs),toks:=s.toks }) :=
 .of_wp fun prog w A R s h=>by
  obtain ⟨hp,gs,d,tk,os⟩:=s
  obtain ⟨hl,hb,h⟩:=h
  have f2:=AutoSeq1.sub_tuple_tuple
  have f3:=AutoSeq1.sub_list_list
  have f4:=AutoSeq1.sub_tuple_list
  have f5:=AutoSeq1.sub_list_tuple
  have g3:(as ++ bs).size <= y0j + 1:=by
   rw [Array.size_append]
   exact g2
  wp_walk using (wpAny_updateSeq hl rfl (hz:=g1) (_hz':=g3)),wpAny_loadPart' hl,wpAny_loadPart' hb
  exact ⟨_,rfl,h⟩
theorem z9s:MtM X "list.extend" (zcg X.K):=by
 intro pins s σ H x vs v us Q I rx rv h
 obtain ⟨l,b,xs,zs,rfl,rfl,hH,hB,hz,q⟩:=h
 cases rx
 obtain ⟨u,rfl,ru⟩:=rv.one
 cases ru
 obtain ⟨z,its,n,r,hl,e⟩:=I.lstM hH
 obtain ⟨its2,r2,pl2,z2⟩:=I.tuple hB
 have hl2:=r2.length
 obtain ⟨⟨cls,dd,data,sl⟩,ho,hc,n2,hd⟩:=id pl2
 simp only at hc hd
 subst hc hd
 have hsz:its.toArray.size + its2.toArray.size <= y0j:=by rw [y0h,y0h]; omega
 have hlong:¬ (!its.toArray.isEmpty && Builtin.List.listTooLong (its.toArray.size + its2.toArray.size)) = true:=by
  rw [z5z hsz,Bool.and_false]
  exact y1t
 refine call_meets F.slot_list_extend ⟨_,e,rfl⟩ F.entry_list_extend (F.args_list_extend_2 _ _) (zbh l its.toArray n b its2.toArray n2 dd sl hlong (by rw [y0h]; omega) (by omega)) ⟨e,ho,?_⟩
 refine ⟨.non,_,I.lset (its':=its ++ its2) hH e (by simp) (r.append r2) ?_,rfl,q⟩
 rw [y1s]
 omega
def extT (i:Nat) (f:Fe):Fs:=fun ε=>match ε[i]? with
 | some (some (.own ts))=>(f ε).bind fun t=>match t with
  | .tuple us=>if ts.length + us.length <= big then some (.nx (ε.set i (some (.own (ts ++ us))))) else none
  | _=>none
 | _=>none
theorem zfr (i:Nat) {x:Str} {px apos cpos:Pos} (he:PEr X e f) (hN:X.N[i]? = some x:=by rfl) (hv:Vis X.env.scope x:=by first | exact Or.inl rfl | exact Or.inr (Or.inl rfl) | exact Or.inr (Or.inr rfl)) (hd:(x == ("__debug__":Str)) = false:=by decide)
  (hcd:(x == ("__classdict__":Str)) = false:=by decide) (hs1:y0a [e] X.env = (false,eval e X.env) :: y0a [] X.env:=by rfl)
  (hbase:attributeBase (.Name x px) "extend" X.env (eval (.Name x px) X.env) = eval (.Name x px) X.env:=by rfl)
  (hfew:((backTo cpos (y0a [e] X.env)).all (fun x=>!x.1) && (backToKw cpos (keywordEach [] X.env)).all (fun x=>x.1.isSome)
   && decide (([e]:List Expr).length + ([]:List Keyword).length + (if ([]:List Keyword).isEmpty then 0 else 1) < 30)) = true:=by rfl)
  (hline:(apos.endLine == cpos.line) = true:=by rfl) (hplain:(backTo cpos (y0a [] X.env)).any (·.1) = false:=by rfl)
  (hsw:swapsWith (.Call (.Attribute (.Name x px) "extend" apos) [e] [] cpos) none pos.line X.env = pure false:=by rfl) :
  PSt X (.Expr (.Call (.Attribute (.Name x px) "extend" apos) [e] [] cpos) pos) (extT i f) :=
 z3o (zan (zgf PySem.F.plainAttrs_list PySem.F.slot_list_extend PySem.F.type_list_extend z9s (pv i hN hv hd hcd) (z37 he z5e hs1) hbase hfew hline hs1 hplain) hsw) fun D σ H ⟨F₀,H₀,O,F,ε,o,r,e,k⟩=>by
 unfold extT at e
 split at e
 next ts he =>
  simp only [y01] at e
  obtain ⟨t,et,e⟩:=e
  split at e
  next us =>
   split at e
   next hz =>
    cases e
    obtain ⟨v,h1,a,vs,rfl,n,h0,hh,hr⟩:=r.val _ _ he
    refine ⟨_,h1,.inl ⟨rfl,_,SqL.of hh⟩,F₀,H₀,O,F,ε,_,r,et,fun v F' H' x q=>?_⟩
    obtain ⟨b,ws,rfl,hb,hw⟩:=q.tup
    have r1:=r.ext x
    obtain ⟨v1,h1',a1,vs1,e1,n1,h01,hh1,hr1⟩:=r1.val _ _ he
    rw [h1] at h1'
    cases h1'
    cases e1
    refine ⟨a,b,vs1,ws,rfl,rfl,hh1,hb,by rw [z3q,<- hr1.length,<- hw.length]; exact hz,?_⟩
    obtain ⟨kp,r2⟩:=r1.mut (s':=.own (ts ++ us)) (o':=.lst (vs1 ++ ws)) he rfl h1 n1 h0 hh1 (.inl ⟨_,rfl⟩) fun kp=>⟨a,_,rfl,n1,h0,z08,(hr1.kp kp).append (hw.kp kp)⟩
    exact k σ F' _ (x.kp.trans kp) r2
   next=>cases e
  next=>cases e
 next=>cases e
end
end D
end
section
namespace D
open PySem PySem.Spec PyProof.Rows L2
variable [Tbl]
def z70:T -> Option T
 | .tuple _=>some (.bool true)
 | _=>none
section
variable {X:Cx} {e:Expr} {f:Fe} {te:TE} {pos p p2 p3:Pos}
def tIsT (K:y00) (te:TE):TE:=fun σ H Q=>te σ H fun x H1=>∃ a xs,x = .ref a /\ SqT K H1 a xs /\ Q (.bl true) H1
theorem zge (hm:X.mg "isinstance" = none) (hm2:X.mg "tuple" = none) (he:PE X e te) (hg:Gl X "isinstance":=by rfl) (hg2:Gl X "tuple":=by rfl)
  (hs:y0a [e,.Name "tuple" p2] X.env = (false,eval e X.env) :: y0a [.Name "tuple" p2] X.env:=by rfl) :
  PE X (.Call (.Name "isinstance" p) [e,.Name "tuple" p2] [] pos) (tIsT X.K te):=by
 intro pins s σ H Q I h
 refine wpAny_Call_Name_kw (z5j I hg hm (u:=.builtin "isinstance") (by decide +kernel) ?_)
 refine PyProof.Rows.callWith_builtin1 ?_ hs rfl
 rw [hs]
 show y0u _ _ (spliced ((false,eval e X.env) :: backTo pos (y0a [.Name "tuple" p2] X.env))) _ _ s
 refine Calls.spliced_cons (thn (he pins s σ H _ I h) fun u s1 ⟨x,H1,I1,r1,q1⟩=>?_)
 show y0u _ _ (spliced ((false,eval (.Name "tuple" p2) X.env) :: [])) _ _ s1
 refine Calls.spliced_cons (z5j I1 hg2 hm2 (u:=.type "tuple") (by decide +kernel) (Calls.spliced_nil ?_))
 obtain ⟨a,xs,rfl,hx,q⟩:=q1
 cases r1
 obtain ⟨its,r,ht,hz⟩:=I1.tuple hx
 obtain ⟨o,h1,h2,_⟩:=ht
 refine PySem.W.kia_one PySem.W.kitx_tuple I1.kIn ⟨o,h1,h2⟩ (b:=true) (by rfl) (fun z=>nomatch z) fun tk=>?_
 exact ⟨.bl true,H1,I1.kept (t':=tk) fun _ _ z=>z,rfl,q⟩
theorem zht (hm:X.mg "isinstance" = none) (hm2:X.mg "tuple" = none) (ha:PEr X e f) (hg:Gl X "isinstance":=by rfl) (hg2:Gl X "tuple":=by rfl)
  (hs:y0a [e,.Name "tuple" p2] X.env = (false,eval e X.env) :: y0a [.Name "tuple" p2] X.env:=by rfl) :
  PEv X (.Call (.Name "isinstance" p) [e,.Name "tuple" p2] [] pos) (op1 z70 f):=z0l (zge hm hm2 ha hg hg2 hs) fun σ H Q ⟨F₀,H₀,O,F,ε,t,r,e,k⟩=>by
 simp only [op1,y01] at e
 obtain ⟨x,ex,e⟩:=e
 unfold z70 at e
 split at e
 ·cases e
  refine ⟨F₀,H₀,O,F,ε,_,r,ex,fun v F1 H1 x1 rx=>?_⟩
  obtain ⟨a,vs,rfl,hs,hr⟩:=rx.tup
  exact ⟨a,vs,rfl,hs,k _ F1 H1 x1 (by simp [Rep])⟩
 ·cases e
end
def z0k {α:Type}:List α -> List α
 | []=>[]
 | [x]=>[x]
 | x :: _ :: r=>x :: z0k r
theorem zg6 {α:Type}:∀ l:List α,((List.range ((l.length + 1) / 2)).filterMap fun k=>l[2 * k]?) = z0k l
 | []=>by simp [z0k]
 | [x]=>by
  have e:([x].length + 1) / 2 = 1:=by simp
  rw [e]
  simp [z0k,List.range_succ]
 | x :: y :: r=>by
  have h:=zg6 r
  have e:((x :: y :: r).length + 1) / 2 = (r.length + 1) / 2 + 1:=by simp only [y0w]; omega
  rw [e,List.range_succ_eq_map,List.filterMap_cons,List.filterMap_map]
  show x :: _ = x :: _
  congr 1
theorem z33 {α:Type}:∀ l:List α,(z0k l).length <= l.length
 | []=>y0o _
 | [x]=>y0o _
 | x :: y :: r=>by
  have:=z33 r
  simp only [z0k,y0w]
  omega
def lo2:Option Int -> Nat
 | none=>0
 | some _=>1
theorem zag (its:List Value) (lo:Option Int) (h:lo = none \/ lo = some 1):slicePick its.toArray lo none (some 2) = (z0k (its.drop (lo2 lo))).toArray:=by
 have key:∀ a:Nat,a <= its.length -> ((sliceRange (a:Int) (its.length:Int) 2).filterMap (its.toArray[·]?)) = z0k (its.drop a):=by
  intro a ha
  rw [<- zg6]
  unfold sliceRange
  have ec:((if (2:Int) > 0 then (if (a:Int) < (its.length:Int) then ((its.length:Int) - (a:Int) + 2 - 1) / 2 else 0) else (if (a:Int) > (its.length:Int) then ((a:Int) - (its.length:Int) - 2 - 1) / (-2) else 0)):Int).toNat = ((its.drop a).length + 1) / 2:=by
   rw [if_pos (by decide),List.length_drop]
   split <;> omega
  dsimp only
  rw [ec,List.filterMap_map]
  congr 1
  funext k
  have:((a:Int) + 2 * (k:Int)).toNat = a + 2 * k:=by omega
  simp only [Function.comp,this,List.getElem?_toArray,List.getElem?_drop]
 unfold slicePick
 rcases h with rfl | rfl
 ·show List.toArray _ = _
  congr 1
  have e:(sliceBounds none none (some 2) its.toArray.size) = (((0:Nat):Int),(its.length:Int),2):=by
   simp [sliceBounds]
  rw [e]
  exact key 0 (y1u _)
 ·show List.toArray _ = _
  congr 1
  by_cases hn:its = []
  ·subst hn
   rfl
  have hp:1 <= its.length:=by cases its with | nil=>exact absurd rfl hn | cons _ _=>simp
  have e:(sliceBounds (some 1) none (some 2) its.toArray.size) = (((1:Nat):Int),(its.length:Int),2):=by
   have h1:min (1:Int) (its.length:Int) = 1:=by omega
   simp [sliceBounds,h1]
   rfl
  rw [e]
  exact key 1 hp
theorem zas {α β:Type} {R:α -> β -> Prop}:∀ {l:List α} {ks:List β} (n:Nat),Paired R l ks -> Paired R (l.drop n) (ks.drop n)
 | _,_,0,h=>by simpa using h
 | _,_,n + 1,.nil=>by simpa using .nil
 | _,_,n + 1,.cons a b=>by simpa using zas n b
theorem z6w {α β:Type} {R:α -> β -> Prop}:∀ {l:List α} {ks:List β},Paired R l ks -> Paired R (z0k l) (z0k ks)
 | _,_,.nil=>.nil
 | _,_,.cons a .nil=>.cons a .nil
 | _,_,.cons a (.cons b c)=>.cons a (z6w c)
theorem z4d {K:y00} {F:Addr -> Prop} {H:Hp}:∀ {ts:List T} {vs:List V},RepL K F H ts vs -> RepL K F H (z0k ts) (z0k vs)
 | [],vs,h=>by
  simp only [RepL] at h
  subst h
  exact RepL.nil
 | [t],vs,h=>by
  simp only [RepL] at h
  obtain ⟨v,z,rfl,q,y⟩:=h
  subst y
  exact RepL.cons q RepL.nil
 | t :: u :: ts,vs,h=>by
  simp only [RepL] at h
  obtain ⟨v,z,rfl,q,v2,z2,rfl,q2,y⟩:=h
  exact RepL.cons q (z4d y)
def oEv2:T -> Option Int -> Option T
 | .list xs,o=>if o = none \/ o = some 1 then some (.list (z0k (xs.drop (lo2 o)))) else none
 | _,_=>none
def z7x (f:Fe) (l:Ev -> Option (Option Int)):Fe:=fun ε=>(f ε).bind fun x=>(l ε).bind fun o=>oEv2 x o
section
variable {X:Cx} {e st:Expr} {te:TE} {tl:TO} {f:Fe} {pos p2:Pos} {lo:Option Expr}
def tSt2 (K:y00) (te:TE) (tl:TO):TE:=fun σ H Q=>te σ H fun x H1=>tl σ H1 fun o H2=>∃ a xs,x = .ref a /\ SqL K H2 a xs /\ (o = none \/ o = some 1) /\ ∀ p,H2 p = none -> Q (.ref p) (upd H2 p (.lst (z0k (xs.drop (lo2 o)))))
theorem zgb (he:PE X e te) (hl:PO X lo tl) (hst:PE X st (tC (.int 2))):PE X (.Subscript e (.Slice lo none (some st) p2) pos) (tSt2 X.K te tl):=by
 intro pins s σ H Q I h
 refine Subscript_ (thn (he pins s σ H _ I h) fun v s1 ⟨x,H1,I1,r1,q1⟩=>?_)
 refine wpAny_Slice (thn (hl pins s1 σ H1 _ I1 q1) fun vl s2 ⟨o,H2,I2,pl,q2⟩=>?_)
 obtain ⟨a,xs,rfl,hx,ho,q⟩:=q2
 cases r1
 rw [evalPart_none]
 refine y06 ?_
 rw [evalPart_some]
 refine thn (hst pins s2 σ H2 (fun y H3=>y = .int 2 /\ H3 = H2) I2 ⟨rfl,rfl⟩) fun vk s3 ⟨y,H3,I3,pk,ey,eh⟩=>?_
 subst ey
 subst eh
 obtain ⟨tk,rfl⟩:=pk
 have I4:Inv X pins σ H3 { s3 with heap:=s3.heap.push { cls:=.type "slice",data:=.fields #[vl,.none,.int 2 tk] } }:=I3.kept (t':=s3.toks) fun b ob q=>y03 _ q
 obtain ⟨its,r,ht,hz⟩:=I4.list hx
 have hlen:=r.length
 show y0u (model X.prog X.w) X.A (subscriptTail e (.Slice lo none (some st) p2) (.ref a) (.ref s3.heap.objs.size)) (EP X pins σ Q) X.xe { s3 with heap:=s3.heap.push { cls:=.type "slice",data:=.fields #[vl,.none,.int 2 tk] } }
 refine tail_any (ops:=[.ref a,.ref s3.heap.objs.size]) ht.isList.typeIs slot_list_getitem.lookup ?_ (by with_unfolding_all rfl)
 refine wpAny_getItem_list_slice ht.isList (Heap.IsSliceOf.new ..) pl .none (.int 2 tk) (by decide) ?_ (by rw [y0h] <;> omega)
 rw [zag _ _ ho]
 refine ⟨.ref _,_,I4.laid (t':=s3.toks) (o:=.lst (z0k (xs.drop (lo2 o)))) (fun b ob q=>y03 _ q) (y0o _) ⟨?_,_,0,z6w (zas (lo2 o) r),y0l _ rfl⟩,rfl,q _ (I4.hok.fresh (y0o _))⟩
 have:=z33 (xs.drop (lo2 o))
 rw [List.length_drop] at this
 omega
theorem zfx {fl:Ev -> Option (Option Int)} (ha:PEr X e f) (hl:PO X lo (tOt X.K fl)) (hst:PE X st (tC (.int 2))):PEv X (.Subscript e (.Slice lo none (some st) p2) pos) (z7x f fl):=z0l (zgb ha hl hst) fun σ H Q ⟨F₀,H₀,O,F,ε,t,r,e,k⟩=>by
 simp only [z7x,y01] at e
 obtain ⟨x,ex,l,el,e⟩:=e
 refine ⟨F₀,H₀,O,F,ε,x,r,ex,fun v F1 H1 x1 rx=>⟨F₀,H₀,O,F1,ε,l,r.ext x1,el,fun F2 H2 x2=>?_⟩⟩
 have x12:=x1.trans x2
 unfold oEv2 at e
 split at e
 ·split at e
  ·rename_i h
   cases e
   obtain ⟨a,vs,rfl,hs,hr⟩:=(rx.ext x2).lst
   refine ⟨a,vs,rfl,.inl hs,h,fun q hq=>?_⟩
   have x4:=Ext.laidF (o:=.lst (z0k (vs.drop (lo2 l)))) x12.dom hq
   refine k _ _ _ (x12.trans x4) ?_
   simp only [Rep]
   exact ⟨q,_,rfl,.inr rfl,.inl z08,(z4d (hr.drop _)).ext x4⟩
  ·cases e
 ·cases e
theorem two {j:Nat} {p1:Pos}:PE X (.Constant (.int 2) j p1) (tC (.int 2)):=zdk
end
end D
end
section
namespace Co
open D
def zc3:Fs :=
  (seq (for_ (z06 (op2 oIx (nm 0) (cst (.int 0)))) (gNm 2)
  (iff (tstB (op2 oEq (op2 oIx (nm 2) (cst (.int 0))) (nm 1))) (rtn (op2 oIx (nm 2) (cst (.int 1)))) skip))
  never)
def z7h:List T -> Option T:=runF zc3 3
def zfc:Fs :=
  (seq (asg 1 (opN z12 [(comp 1 [] (z06 (op2 oIx (nm 0) (cst (.int 0)))) (gNm 0) (cstT true) (cst (.str "shut")))]))
  (seq (asg 2 (opN z12 [(comp 1 [] (z06 (op2 oIx (nm 0) (cst (.int 1)))) (gNm 0) (cstT true) (cst (.int 0)))]))
  (rtn (z01 [(cst (.str "off")),(cst (.int 0)),(cst .none),(nmV 1),(z01 []),(cst (.int 0)),(z01 []),(cst (.int 0)),(cst (.int 0)),(nmV 2)]))))
def zf4:List T -> Option T:=runF zfc 3
def zc4:Fs :=
  (seq (for_ (z06 (op2 oIx (nm 0) (cst (.int 1)))) (gNm 2)
  (iff (tstB (op2 oEq (op2 oIx (nm 2) (cst (.int 0))) (nm 1))) (rtn (nm 2)) skip))
  (rtn (cst .none)))
def zbo:List T -> Option T:=runF zc4 3
def za2:Fs :=
  (rtn (opN oMax [(op2 oSub (nm 0) (nm 1)),(cst (.int 0))]))
def z3a:List T -> Option T:=runF za2 2
def z3h:Fs :=
  (seq (asgF 0 0 0 (nmV 1))
  (seq (asgF 0 0 1 (op2 oIx (nm 2) (cst (.int 0))))
  (seq (asgF 0 0 2 (op2 oIx (nm 2) (cst (.int 1))))
  (seq (asgF 0 0 3 (op2 oIx (nm 2) (cst (.int 2))))
  (seq (zhc 0 0 4 (comp 1 [] (z06 (op2 oIx (nm 1) (cst (.int 0)))) (gNm 0) (cstT true) (op2 oIx (nm 0) (cst (.int 0)))) (op2 oIx (nm 2) (cst (.int 3))))
  (seq (z4y 0 0 5 (op1 zdo (op2 oIx (nm 2) (cst (.int 4)))))
  (seq (asgF 0 0 6 (op2 oIx (nm 2) (cst (.int 5))))
  (seq (z4y 0 0 7 (op1 zdo (op2 oIx (nm 2) (cst (.int 6)))))
  (seq (asgF 0 0 8 (op2 oIx (nm 2) (cst (.int 7))))
  (seq (asgF 0 0 9 (op2 oIx (nm 2) (cst (.int 8))))
  (seq (zhc 0 0 10 (comp 1 [] (z06 (op2 oIx (nm 1) (cst (.int 1)))) (gNm 0) (cstT true) (op2 oIx (nm 0) (cst (.int 0)))) (op2 oIx (nm 2) (cst (.int 9))))
  (seq (asgF 0 0 11 (cst (.int 0)))
  (z4y 0 0 12 (z0n []))))))))))))))
def z3d:List Sl -> Option (T × List Sl):=runM 0 0 z3h 3
def z55:Fs :=
  (seq (asg 1 (zh4 0 0 4))
  (seq (asg 2 (opN z12 [(fld 0 0 5)]))
  (seq (asg 3 (opN z12 [(fld 0 0 7)]))
  (seq (asg 4 (zh4 0 0 10))
  (rtn (z01 [(fldV 0 0 1),(fldV 0 0 2),(fldV 0 0 3),(nmV 1),(nmV 2),(fldV 0 0 6),(nmV 3),(fldV 0 0 8),(fldV 0 0 9),(nmV 4)]))))))
def z52:List Sl -> Option T:=runR z55 5
def z6g:Fs :=
  (appF 0 0 12 (z01 [(fldV 0 0 11),(nmV 1),(nmV 2)]))
def z04:List Sl -> Option (T × List Sl):=runM 0 0 z6g 3
def z40:Fs :=
  (asgF 0 0 6 (op2 oIx (op2 oIx (fld 0 0 0) (cst (.int 2))) (cst (.int 2))))
def z1w:List Sl -> Option (T × List Sl):=runM 0 0 z40 1
def z56:Fs :=
  (seq (exX (z0f 0 z1w 0 []))
  (iff (tstB (op2 (oIn true) (nm 1) (fld 0 0 7))) (seq (appF 0 0 7 (nmV 1))
  (exX (z0f 0 z04 0 [(cst (.str "alarm")),(nmV 1)]))) skip))
def z0r:List Sl -> Option (T × List Sl):=runM 0 0 z56 2
def z3z:Fs :=
  (seq (iff (orT (tstB (op2 oNe (nm 2) (cst (.str "way")))) (tstB (op2 oLe (op2 oIx (op2 oIx (fld 0 0 0) (cst (.int 2))) (cst (.int 1))) (cst (.int 0))))) (seq (exX (z0f 0 z0r 0 [(nmV 1)]))
  z6s) skip)
  (seq (asgF 0 0 1 (cst (.str "coming")))
  (seq (asgF 0 0 2 (op2 oIx (op2 oIx (fld 0 0 0) (cst (.int 2))) (cst (.int 1))))
  (seq (asgF 0 0 3 (nmV 1))
  (exX (z0f 0 z04 0 [(cst (.str "coming")),(nmV 1)]))))))
def z3w:List Sl -> Option (T × List Sl):=runM 0 0 z3z 3
def z3y:Fs :=
  (seq (asg 3 (opN z7h [(fldV 0 0 0),(nmV 1)]))
  (iff (tstB (op2 oEq (nm 3) (cst (.str "day")))) (exX (z0f 0 z0r 0 [(nmV 1)])) (iff (tstB (op2 oEq (fld 0 0 1) (cst (.str "off")))) (iff (tstB (op2 oEq (nm 2) (cst (.str "cut")))) (exX (z0f 0 z04 0 [(cst (.str "fault")),(nmV 1)])) skip) (iff (orT (tstB (op2 oEq (nm 2) (cst (.str "cut")))) (tstB (op2 oEq (nm 3) (cst (.str "once"))))) (exX (z0f 0 z0r 0 [(nmV 1)])) (iff (tstB (op2 oEq (fld 0 0 1) (cst (.str "on")))) (exX (z0f 0 z3w 0 [(nmV 1),(nmV 3)])) skip)))))
def z3v:List Sl -> Option (T × List Sl):=runM 0 0 z3y 4
def z6h:Fs :=
  (seq (asg 3 (fGet 0 0 4 (nm 1)))
  (seq (iff (tstB (op2 oEq (nm 2) (nm 3))) z6s skip)
  (seq (z9e 0 0 4 (nm 1) (nmV 2))
  (iff (tstB (op2 oEq (nm 2) (cst (.str "shut")))) (iff (tstB (op2 oEq (nm 3) (cst (.str "cut")))) (exX (z0f 0 z04 0 [(cst (.str "mended")),(nmV 1)])) skip) (iff (tstB (op2 (oIn true) (nm 1) (fld 0 0 5))) (exX (z0f 0 z3v 0 [(nmV 1),(nmV 2)])) skip)))))
def z68:List Sl -> Option (T × List Sl):=runM 0 0 z6h 4
def z2v:Fs :=
  (rtn (andV (op2 oNe (op2 oIx (nm 1) (cst (.int 3))) (cst (.int 0))) (op2 oGe (fGet 0 0 10 (op2 oIx (nm 1) (cst (.int 0)))) (op2 oIx (nm 1) (cst (.int 3))))))
def z2p:List Sl -> Option T:=runR z2v 2
def z2t:Fs :=
  (seq (exX (z0f 0 z04 0 [(cst (.str "wrong")),(cst .none)]))
  (seq (augF 0 0 8 (cst (.int 1)))
  (iff (tstB (op2 oGe (fld 0 0 8) (cst (.int 3)))) (seq (asgF 0 0 8 (cst (.int 0)))
  (seq (asgF 0 0 9 (cst (.int 90)))
  (seq (exX (z0f 0 z1w 0 []))
  (exX (z0f 0 z04 0 [(cst (.str "attack")),(cst .none)]))))) skip)))
def z2n:List Sl -> Option (T × List Sl):=runM 0 0 z2t 1
def z2e:Fs :=
  (seq (iff (tstB (op2 oEq (nm 1) (cst (.str "unset")))) (rtn (cst (.bool false))) skip)
  (seq (iff (tstB (op2 oNe (fld 0 0 1) (cst (.str "off")))) (rtn (cst (.bool true))) skip)
  (seq (iff (tstB (op2 oEq (nm 1) (cst (.str "shunt")))) (rtn (orV (op2 oEq (opN z7h [(fldV 0 0 0),(nmV 2)]) (cst (.str "day"))) (op2 (oIn false) (nm 2) (fld 0 0 5)))) skip)
  (rtn (andV (op2 oEq (nm 1) (cst (.str "free"))) (op2 (oIn true) (nm 2) (fld 0 0 5)))))))
def z2c:List Sl -> Option T:=runR z2e 3
def z2y:Fs :=
  (seq (asg 2 (comp 1 [1] (z06 (op2 oIx (fld 0 0 0) (cst (.int 0)))) (gNm 0) (tstB (op2 (oIn false) (op2 oIx (nm 0) (cst (.int 1))) (nm 1))) (op2 oIx (nm 0) (cst (.int 0)))))
  (rtn (comp 1 [0] (z06 (nmV 2)) (gNm 0) (andT (tstB (op2 oNe (fGet 0 1 4 (nm 0)) (cst (.str "shut")))) (tstB (op2 (oIn true) (nm 0) (fld 0 1 5)))) (nmV 0))))
def z1e:List Sl -> Option T:=runR z2y 3
def z1q:Fs :=
  (seq (asg 4 (ifE (tstB (op2 oEq (nm 2) (cst (.str "free")))) (cst (.str "shunt")) (nmV 2)))
  (seq (iff (tstB (op2 (oIn true) (nm 4) (op2 oIx (nm 1) (cst (.int 2))))) (rtn (z01 [(cst (.str "denied")),(op2 oIx (nm 1) (cst (.int 1)))])) skip)
  (seq (iff (tstB (z4z 0 z2c 0 [(nmV 2),(nmV 3)])) (rtn (z01 [(cst (.str "no")),(op2 oIx (nm 1) (cst (.int 1)))])) skip)
  (seq (asg 5 (z4z 0 z1e 0 [(cst (.tuple (z7w ["day","once"])))]))
  (seq (iff (andT (tstB (op2 oEq (nm 2) (cst (.str "set")))) (tstL (nm 5))) (rtn (z01 [(cst (.str "open")),(op2 oIx (nm 5) (cst (.int 0)))])) skip)
  (rtn (cst .none)))))))
def z1n:List Sl -> Option T:=runR z1q 6
def z2f:Fs :=
  (seq (asgF 0 0 1 (cst (.str "on")))
  (seq (asgF 0 0 2 (cst (.int 0)))
  (seq (exX (z0f 0 z04 0 [(cst (.str "on")),(cst .none)]))
  (for_ (z06 (z4z 0 z1e 0 [(cst (.tuple (z7w ["inner","way"])))])) (gNm 1)
  (exX (z0f 0 z0r 0 [(nmV 1)]))))))
def z18:List Sl -> Option (T × List Sl):=runM 0 0 z2f 2
def z4x:Fs :=
  (seq (z4y 0 0 7 (z0n []))
  (seq (asgF 0 0 6 (cst (.int 0)))
  (seq (asgF 0 0 1 (cst (.str "leaving")))
  (seq (asgF 0 0 2 (op2 oIx (op2 oIx (fld 0 0 0) (cst (.int 2))) (cst (.int 0))))
  (seq (exX (z0f 0 z04 0 [(cst (.str "set")),(nmV 1)]))
  (iff (tstB (op2 oLe (fld 0 0 2) (cst (.int 0)))) (exX (z0f 0 z18 0 [])) skip))))))
def z4q:List Sl -> Option (T × List Sl):=runM 0 0 z4x 2
def z3g:Fs :=
  (seq (asgF 0 0 1 (cst (.str "off")))
  (seq (asgF 0 0 2 (cst (.int 0)))
  (seq (asgF 0 0 6 (cst (.int 0)))
  (seq (asgF 0 0 3 (cst .none))
  (seq (z4y 0 0 5 (z0n []))
  (exX (z0f 0 z04 0 [(cst (.str "unset")),(nmV 1)])))))))
def z3c:List Sl -> Option (T × List Sl):=runM 0 0 z3g 2
def z3x:Fs :=
  (iff (tstB (op2 oEq (nm 2) (cst (.str "set")))) (exX (z0f 0 z4q 0 [(nmV 1)])) (iff (tstB (op2 oEq (nm 2) (cst (.str "unset")))) (exX (z0f 0 z3c 0 [(nmV 1)])) (iff (tstB (op2 oEq (nm 2) (cst (.str "shunt")))) (seq (z4y 0 0 5 (op1 zcq (op2 oAdd (fld 0 0 5) (z0n [(nmV 3)]))))
  (exX (z0f 0 z04 0 [(cst (.str "shunt")),(nmV 3)]))) (seq (rmF 0 0 5 (nmV 3))
  (exX (z0f 0 z04 0 [(cst (.str "free")),(nmV 3)]))))))
def z3u:List Sl -> Option (T × List Sl):=runM 0 0 z3x 4
def z2u:Fs :=
  (seq (asg 4 (z4z 0 z1n 0 [(nmV 1),(nmV 2),(nmV 3)]))
  (iff (tstB (op1 oIsN (nm 4))) (seq (za3 0 0 10 (op2 oIx (nm 1) (cst (.int 0))) (cst (.int 1)))
  (exX (z0f 0 z3u 0 [(op2 oIx (nm 1) (cst (.int 1))),(nmV 2),(nmV 3)]))) (exX (z0f 0 z04 0 [(op2 oIx (nm 4) (cst (.int 0))),(op2 oIx (nm 4) (cst (.int 1)))]))))
def z2o:List Sl -> Option (T × List Sl):=runM 0 0 z2u 5
def z6i:Fs :=
  (seq (asg 4 (opN zbo [(fldV 0 0 0),(nmV 1)]))
  (iff (tstB (op2 oGt (fld 0 0 9) (cst (.int 0)))) (exX (z0f 0 z04 0 [(cst (.str "locked")),(cst .none)])) (iff (orT (tstB (op1 oIsN (nm 4))) (tstB (z4z 0 z2p 0 [(nmV 4)]))) (exX (z0f 0 z2n 0 [])) (seq (asgF 0 0 8 (cst (.int 0)))
  (exX (z0f 0 z2o 0 [(nmV 4),(nmV 2),(nmV 3)]))))))
def z69:List Sl -> Option (T × List Sl):=runM 0 0 z6i 5
def z2x:Fs :=
  (seq (augF 0 0 11 (nmV 1))
  (seq (asgF 0 0 9 (opN z3a [(fldV 0 0 9),(nmV 1)]))
  (seq (asgF 0 0 6 (opN z3a [(fldV 0 0 6),(nmV 1)]))
  (asgF 0 0 2 (opN z3a [(fldV 0 0 2),(nmV 1)])))))
def z0v:List Sl -> Option (T × List Sl):=runM 0 0 z2x 2
def z2w:Fs :=
  (seq (asg 1 (fldV 0 0 3))
  (seq (asgF 0 0 1 (cst (.str "on")))
  (seq (asgF 0 0 3 (cst .none))
  (exX (z0f 0 z0r 0 [(nmV 1)])))))
def z2q:List Sl -> Option (T × List Sl):=runM 0 0 z2w 2
def z3f:Fs :=
  (iff (tstB (op2 oEq (fld 0 0 1) (cst (.str "leaving")))) (exX (z0f 0 z18 0 [])) (exX (z0f 0 z2q 0 [])))
def z3b:List Sl -> Option (T × List Sl):=runM 0 0 z3f 1
def z54:Fs :=
  (seq (iff (tstB (op2 oLt (nm 1) (cst (.int 1)))) z6s skip)
  (iff (andT (tstB (op2 (oIn false) (fld 0 0 1) (z01 [(cst (.str "leaving")),(cst (.str "coming"))]))) (tstB (op2 oLe (fld 0 0 2) (nm 1)))) (seq (asg 2 (op2 oSub (nm 1) (fld 0 0 2)))
  (seq (exX (z0f 0 z0v 0 [(fldV 0 0 2)]))
  (seq (exX (z0f 0 z3b 0 []))
  (exX (z0f 0 z0v 0 [(nmV 2)]))))) (exX (z0f 0 z0v 0 [(nmV 1)]))))
def z51:List Sl -> Option (T × List Sl):=runM 0 0 z54 3
def z4w:Fs :=
  (iff (tstB (op2 oEq (op2 oIx (nm 1) (cst (.int 0))) (cst (.str "line")))) (exX (z0f 0 z68 0 [(op2 oIx (nm 1) (cst (.int 1))),(op2 oIx (nm 1) (cst (.int 2)))])) (iff (tstB (op2 oEq (op2 oIx (nm 1) (cst (.int 0))) (cst (.str "code")))) (exX (z0f 0 z69 0 [(op2 oIx (nm 1) (cst (.int 1))),(op2 oIx (nm 1) (cst (.int 2))),(op2 oIx (nm 1) (cst (.int 3)))])) (exX (z0f 0 z51 0 [(op2 oIx (nm 1) (cst (.int 1)))]))))
def z4p:List Sl -> Option (T × List Sl):=runM 0 0 z4w 2
def z8o:Fs :=
  (seq (asgO 3 (newO 0 z3d [(nmV 0),(nmV 1)]))
  (seq (for_ (z06 (nmV 2)) (gNm 4)
  (exX (z0f 0 z4p 3 [(nmV 4)])))
  (rtnO 3)))
def z4o:List T -> Option Sl:=runO z8o 5
def zfd:Fs :=
  (rtn (ofO 0 z52 (zhb z4o [(nmV 0),(nmV 1),(nmV 2)]) []))
def zbp:List T -> Option T:=runF zfd 3
def zfa:Fs :=
  (rtn (opN z12 [(zes 0 12 (zhb z4o [(nmV 0),(nmV 1),(nmV 2)]))]))
def zbm:List T -> Option T:=runF zfa 3
end Co
end
section
namespace Co
open D Co
def z0w:Fs :=
  (seq (iff (tstB (op2 oLt (nm 1) (opN oLen [(nm 0)]))) (rtn (op2 oIx (nm 0) (nm 1))) skip)
  (rtn (cst (.int 0))))
def z09:List T -> Option T:=runF z0w 2
def z1f:Fs :=
  (seq (asg 2 (op2 oMod (op2 oMul (op2 oAdd (op2 oAdd (opN z09 [(nmV 0),(nmV 1)]) (op2 oMul (cst (.int 7919)) (nm 1))) (cst (.int 1))) (cst (.int 48271))) (cst (.int 2147483647))))
  (rtn (op2 oMod (op2 oAdd (op2 oAdd (op2 oMul (nm 2) (nm 2)) (op2 oMul (cst (.int 7)) (nm 2))) (nm 1)) (cst (.int 2147483629)))))
def z0e:List T -> Option T:=runF z1f 3
def z1g:Fs :=
  (seq (asg 2 (op2 oMod (op2 oMul (op2 oAdd (op2 oAdd (nm 0) (op2 oMul (cst (.int 104729)) (nm 1))) (cst (.int 17))) (cst (.int 69621))) (cst (.int 2147483647))))
  (rtn (op2 oMod (op2 oAdd (op2 oAdd (op2 oMul (nm 2) (nm 2)) (op2 oMul (cst (.int 3)) (nm 2))) (nm 1)) (cst (.int 2147483629)))))
def z0d:List T -> Option T:=runF z1g 3
def zd7:Fs :=
  (seq (asg 1 (z01 []))
  (seq (for_ (z2i (z4k (z01 [(cst (.str "a")),(cst (.str "b")),(cst (.str "back")),(cst (.str "d")),(cst (.str "hall")),(cst (.str "r")),(cst (.str "win")),(cst (.str "z"))]))) (gTu [(gNm 2),(gNm 3)])
  (seq (asg 4 (op2 oDiv (opN z0d [(nmV 0),(nmV 2)]) (cst (.int 4))))
  (iff (orT (tstB (op2 oLt (op2 oMod (nm 4) (cst (.int 8))) (op2 oAdd (cst (.int 3)) (op2 oMod (nm 0) (cst (.int 5)))))) (tstB (op2 oEq (nm 2) (op2 oMod (op2 oDiv (nm 0) (cst (.int 8))) (cst (.int 8)))))) (asg 1 (op2 oAdd (nm 1) (z01 [(z01 [(nmV 3),(op2 oIx (z01 [(cst (.str "day")),(cst (.str "inner")),(cst (.str "once")),(cst (.str "way")),(cst (.str "way"))]) (op2 oMod (op2 oDiv (nm 4) (cst (.int 8))) (cst (.int 5))))])]))) skip)))
  (seq (asg 5 (z01 []))
  (seq (for_ (z2i (z4k (z01 [(cst (.str "0000")),(cst (.str "1234")),(cst (.str "4321")),(cst (.str "7777")),(cst (.str "9990")),(cst (.str "9999"))]))) (gTu [(gNm 2),(gNm 6)])
  (seq (asg 4 (op2 oDiv (opN z0d [(nmV 0),(op2 oAdd (cst (.int 10)) (nm 2))]) (cst (.int 4))))
  (iff (orT (tstB (op2 oGt (op2 oMod (nm 4) (cst (.int 3))) (cst (.int 0)))) (tstB (op2 oEq (nm 2) (cst (.int 1))))) (seq (asg 7 (opN z12 [(comp 1 [4] (z23 (cst (.int 3))) (gNm 0) (tstB (op2 oGt (op2 oMod (op2 oDiv (nm 1) (op2 oIx (z01 [(cst (.int 4)),(cst (.int 16)),(cst (.int 64))]) (nm 0))) (cst (.int 4))) (cst (.int 0)))) (op2 oIx (z01 [(cst (.str "set")),(cst (.str "shunt")),(cst (.str "unset"))]) (nm 0)))]))
  (seq (asg 8 (op2 oIx (z01 [(cst (.str "ann")),(cst (.str "bo")),(cst (.str "cy"))]) (op2 oMod (op2 oDiv (nm 4) (cst (.int 256))) (cst (.int 3)))))
  (asg 5 (op2 oAdd (nm 5) (z01 [(z01 [(nmV 6),(nmV 8),(nmV 7),(op2 oIx (z01 [(cst (.int 0)),(cst (.int 0)),(cst (.int 1)),(cst (.int 2)),(cst (.int 9))]) (op2 oMod (op2 oDiv (nm 4) (cst (.int 1024))) (cst (.int 5))))])]))))) skip)))
  (seq (asg 4 (op2 oDiv (opN z0d [(nmV 0),(cst (.int 20))]) (cst (.int 4))))
  (seq (asg 9 (z01 [(op2 oIx (z01 [(cst (.int 0)),(cst (.int 5)),(cst (.int 30)),(cst (.int 60))]) (op2 oMod (nm 4) (cst (.int 4)))),(op2 oIx (z01 [(cst (.int 0)),(cst (.int 4)),(cst (.int 20)),(cst (.int 60))]) (op2 oMod (op2 oDiv (nm 4) (cst (.int 4))) (cst (.int 4)))),(op2 oIx (z01 [(cst (.int 1)),(cst (.int 9)),(cst (.int 120)),(cst (.int 300))]) (op2 oMod (op2 oDiv (nm 4) (cst (.int 16))) (cst (.int 4))))]))
  (rtn (z01 [(nmV 1),(nmV 5),(nmV 9)]))))))))
def zd4:List T -> Option T:=runF zd7 10
def zc2:Fs :=
  (seq (asg 2 (op2 oIx (op2 oIx (op2 oIx (nm 0) (cst (.int 0))) (op2 oMod (op2 oDiv (nm 1) (cst (.int 8))) (opN oLen [(op2 oIx (nm 0) (cst (.int 0)))]))) (cst (.int 0))))
  (seq (asg 3 (op2 oMod (nm 1) (cst (.int 10))))
  (seq (iff (tstB (op2 oLt (nm 3) (cst (.int 5)))) (rtn (z01 [(cst (.str "line")),(nmV 2),(op2 oIx (z01 [(cst (.str "shut")),(cst (.str "open")),(cst (.str "open")),(cst (.str "cut"))]) (op2 oMod (op2 oDiv (nm 1) (cst (.int 512))) (cst (.int 4))))])) skip)
  (seq (iff (tstB (op2 oLt (nm 3) (cst (.int 7)))) (rtn (z01 [(cst (.str "ticks")),(op2 oAdd (cst (.int 1)) (op2 oMod (op2 oDiv (nm 1) (cst (.int 64))) (op2 oIx (z01 [(cst (.int 3)),(cst (.int 40)),(cst (.int 200))]) (op2 oMod (op2 oDiv (nm 1) (cst (.int 4096))) (cst (.int 3))))))])) skip)
  (seq (asg 4 (op2 oIx (op2 oIx (op2 oIx (nm 0) (cst (.int 1))) (op2 oMod (op2 oDiv (nm 1) (cst (.int 64))) (opN oLen [(op2 oIx (nm 0) (cst (.int 1)))]))) (cst (.int 0))))
  (seq (iff (tstB (op2 oEq (op2 oMod (op2 oDiv (nm 1) (cst (.int 65536))) (cst (.int 4))) (cst (.int 0)))) (asg 4 (op2 oIx (z01 [(cst (.str "0001")),(cst (.str "1111")),(cst (.str "9999")),(cst (.str "0000"))]) (op2 oMod (op2 oDiv (nm 1) (cst (.int 512))) (cst (.int 4))))) skip)
  (seq (asg 5 (op2 oIx (z01 [(cst (.str "set")),(cst (.str "set")),(cst (.str "unset")),(cst (.str "shunt")),(cst (.str "free")),(cst (.str "shunt"))]) (op2 oMod (op2 oDiv (nm 1) (cst (.int 4096))) (cst (.int 6)))))
  (seq (iff (tstB (op2 (oIn false) (nm 5) (z01 [(cst (.str "set")),(cst (.str "unset"))]))) (rtn (z01 [(cst (.str "code")),(nmV 4),(nmV 5),(cst .none)])) skip)
  (rtn (z01 [(cst (.str "code")),(nmV 4),(nmV 5),(nmV 2)]))))))))))
def zbn:List T -> Option T:=runF zc2 6
def zfb:Fs :=
  (seq (asg 3 (opN z12 [(comp 1 [0,1] (z23 (op2 oMod (nm 1) (op2 oAdd (nm 2) (cst (.int 1))))) (gNm 0) (cstT true) (opN zbn [(nmV 1),(op2 oDiv (opN z0d [(nmV 2),(op2 oAdd (cst (.int 30)) (nm 0))]) (cst (.int 4)))]))]))
  (seq (iff (andT (tstB (op2 oEq (op2 oMod (op2 oDiv (nm 1) (cst (.int 64))) (cst (.int 5))) (cst (.int 0)))) (tstB (op2 oGt (opN oLen [(nm 3)]) (cst (.int 2))))) (asg 3 (op2 oAdd (slice (nm 3) optN (opt (op1 oNeg (cst (.int 3))))) (op2 oRep (z01 [(z01 [(cst (.str "code")),(cst (.str "5555")),(cst (.str "unset")),(cst .none)])]) (cst (.int 3))))) skip)
  (rtn (nm 3))))
def zf3:List T -> Option T:=runF zfb 4
end Co
end
section
namespace K33
open D Co
def z2a:Fs :=
  (seq (iff (tstB (op2 oEq (op2 oIx (nm 0) (cst (.int 0))) (nm 1))) (rtn (op2 oIx (nm 0) (cst (.int 1)))) skip)
  (seq (iff (tstB (op2 oEq (op2 oIx (nm 0) (cst (.int 1))) (nm 1))) (rtn (op2 oIx (nm 0) (cst (.int 0)))) skip)
  (rtn (cst .none))))
def z0q:List T -> Option T:=runF z2a 2
def z1p (rec:List T -> Option T):Fs :=
  (seq (iff (tstB (op2 oEq (op2 oIx (nm 2) (op1 oNeg (cst (.int 1)))) (nm 1))) (rtn (z0n [(z01 [])])) skip)
  (seq (asgN 3 (z0n []))
  (seq (for_ (z2i (z4k (op2 oIx (nm 0) (cst (.int 1))))) (gTu [(gNm 4),(gNm 5)])
  (seq (asg 6 (opN z0q [(nmV 5),(op2 oIx (nm 2) (op1 oNeg (cst (.int 1))))]))
  (iff (andT (tstB (op1 z10 (nm 6))) (tstB (op2 (oIn true) (nm 6) (nm 2)))) (ext 3 (comp 1 [4] (z06 (opN rec [(nmV 0),(nmV 1),(op2 oAdd (nm 2) (z01 [(nmV 6)]))])) (gNm 0) (cstT true) (op2 oAdd (z01 [(nmV 1)]) (nm 0)))) skip)))
  (rtn (nm 3)))))
def z0h:Nat -> List T -> Option T
 | 0=>fun _=>none
 | n + 1=>runF (z1p (z0h n)) 7
def z7r:Fs :=
  (rtn (opN z12 [(opN (z0h 20) [(nmV 0),(nmV 1),(z01 [(cst (.int 0))])])]))
def d_ways:List T -> Option T:=runF z7r 2
def z6f:Fs :=
  (seq (asg 2 (op2 oIx (nm 0) (cst (.int 2))))
  (seq (iff (tstB (op1 oIsN (nm 2))) (rtn (z01 [(z01 [(cst (.str "ticks")),(cst (.int 1))]),(z01 [(cst (.str "ticks")),(nmV 1)])])) skip)
  (rtn (z01 [(z01 [(cst (.str "line")),(nmV 2),(cst (.str "open"))]),(z01 [(cst (.str "ticks")),(cst (.int 1))]),(z01 [(cst (.str "line")),(nmV 2),(cst (.str "shut"))]),(z01 [(cst (.str "ticks")),(nmV 1)])]))))
def z19:List T -> Option T:=runF z6f 3
def z6e:Fs :=
  (seq (asgN 3 (z0n []))
  (seq (for_ (z06 (nmV 1)) (gNm 4)
  (extT 3 (opN z19 [(op2 oIx (op2 oIx (nm 0) (cst (.int 1))) (nm 4)),(nmV 2)])))
  (rtn (opN z12 [(nm 3)]))))
def z0s:List T -> Option T:=runF z6e 5
def z8n:Fs :=
  (rtn (op2 (oIn false) (cst (.str "alarm")) (comp 3 [] (z06 (nmV 0)) (gTu [(gNm 0),(gNm 1),(gNm 2)]) (cstT true) (nmV 1))))
def z8l:List T -> Option T:=runF z8n 1
def zd8:Fs :=
  (seq (asg 5 (nmV 2))
  (seq (for_ (zev (z4k (nmV 3))) (gTu [(gNm 6),(gNm 7)])
  (seq (asg 8 (opN z19 [(op2 oIx (op2 oIx (nm 1) (cst (.int 1))) (nm 7)),(nmV 4)]))
  (seq (iff (tstB (opN z8l [(opN zbm [(nmV 0),(nmV 5),(nmV 8)])])) (rtn (nm 6)) skip)
  (asg 5 (opN zbp [(nmV 0),(nmV 5),(nmV 8)])))))
  (rtn (cst .none))))
def z92:List T -> Option T:=runF zd8 9
def z26:Fs :=
  (seq (asg 1 (op2 oAdd (cst (.int 1)) (op2 oMod (nm 0) (cst (.int 7)))))
  (seq (asg 2 (z01 []))
  (seq (for_ (z23 (op2 oMod (op2 oDiv (nm 0) (cst (.int 8))) (cst (.int 11)))) (gNm 3)
  (seq (asg 4 (op2 oDiv (opN z0d [(nmV 0),(op2 oAdd (cst (.int 50)) (nm 3))]) (cst (.int 4))))
  (seq (asg 5 (op2 oMod (nm 4) (op2 oAdd (nm 1) (cst (.int 1)))))
  (seq (asg 6 (op2 oMod (op2 oAdd (op2 oAdd (nm 5) (cst (.int 1))) (op2 oMod (op2 oDiv (nm 4) (cst (.int 8))) (nm 1))) (op2 oAdd (nm 1) (cst (.int 1)))))
  (seq (asg 7 (op2 oIx (z01 [(cst .none),(cst .none),(cst (.str "a")),(cst (.str "b")),(cst (.str "back")),(cst (.str "hall")),(cst (.str "win"))]) (op2 oMod (op2 oDiv (nm 4) (cst (.int 64))) (cst (.int 7)))))
  (asg 2 (op2 oAdd (nm 2) (z01 [(z01 [(opN oMin [(nm 5),(nm 6)]),(opN oMax [(nm 5),(nm 6)]),(nmV 7)])]))))))))
  (rtn (z01 [(nmV 1),(nmV 2)])))))
def d_l_house:List T -> Option T:=runF z26 8
def z7s:Fs :=
  (seq (asgT (gTu [(gNm 2),(gNm 3)]) (opN d_l_house [(nmV 1)]))
  (seq (asg 4 (comp 1 [] (z06 (op2 oIx (nm 0) (cst (.int 0)))) (gNm 0) (cstT true) (op2 oIx (nm 0) (cst (.int 0)))))
  (seq (asg 5 (z01 []))
  (seq (for_ (z06 (nmV 3)) (gTu [(gNm 6),(gNm 7),(gNm 8)])
  (asg 5 (op2 oAdd (nm 5) (z01 [(z01 [(nmV 6),(nmV 7),(op2 oIx (z01 [(nmV 8),(cst .none)]) (opN oInt [(op2 (oIn true) (nm 8) (nm 4))]))])]))))
  (rtn (z01 [(nmV 2),(nmV 5)]))))))
def z7g:List T -> Option T:=runF z7s 9
def zc1:Fs :=
  (seq (asg 1 (opN zd4 [(opN z0e [(nmV 0),(cst (.int 0))])]))
  (seq (asg 2 (opN z7g [(nmV 1),(opN z0e [(nmV 0),(cst (.int 1))])]))
  (seq (asg 3 (opN z0e [(nmV 0),(cst (.int 2))]))
  (seq (asg 4 (opN zbp [(nmV 1),(opN zf4 [(nmV 1)]),(opN zf3 [(nmV 1),(nmV 3),(cst (.int 8))])]))
  (seq (asg 5 (op2 oAdd (cst (.int 1)) (op2 oMod (op2 oDiv (nm 3) (cst (.int 512))) (cst (.int 20)))))
  (seq (for_ (z06 (slice (opN d_ways [(nmV 2),(op2 oAdd (cst (.int 1)) (op2 oMod (op2 oDiv (nm 3) (cst (.int 64))) (op2 oIx (nm 2) (cst (.int 0)))))]) optN (opt (cst (.int 8))))) (gNm 6)
  (seq (asg 7 (opN z92 [(nmV 1),(nmV 2),(nmV 4),(nmV 6),(nmV 5)]))
  (seq (asg 8 (comp 1 [] (z06 (opN zbm [(nmV 1),(nmV 4),(opN z0s [(nmV 2),(nmV 6),(nmV 5)])])) (gNm 0) (tstB (op2 oEq (op2 oIx (nm 0) (cst (.int 1))) (cst (.str "alarm")))) (nmV 0)))
  (seq (iff (tstB (op2 oNe (op1 oIsN (nm 7)) (op2 oEq (nm 8) (z0n [])))) (rtn (cst (.bool false))) skip)
  (seq (for_ (z23 (op2 oAdd (opN oLen [(nm 6)]) (cst (.int 1)))) (gNm 9)
  (seq (asg 10 (nmV 7))
  (seq (iff (andT (tstB (op1 z10 (nm 7))) (tstB (op2 oLt (nm 9) (nm 7)))) (asg 10 (cst .none)) skip)
  (iff (tstB (op2 oNe (opN z92 [(nmV 1),(nmV 2),(nmV 4),(slice (nm 6) optN (opt (nm 9))),(nmV 5)]) (nm 10))) (rtn (cst (.bool false))) skip))))
  (iff (andT (tstB (op1 z10 (nm 7))) (notT (tstB (zid oLe oLe (cst (.int 1)) (nm 7) (opN oLen [(nm 6)]))))) (rtn (cst (.bool false))) skip))))))
  (rtn (cst (.bool true)))))))))
def z8k:List T -> Option T:=runF zc1 11
end K33
end
section
namespace K32
open D Co K33
def zc1:Fs :=
  (seq (asg 1 (opN d_l_house [(opN z0e [(nmV 0),(cst (.int 0))])]))
  (seq (asg 2 (opN z0e [(nmV 0),(cst (.int 1))]))
  (seq (asg 3 (op2 oAdd (cst (.int 1)) (op2 oMod (op2 oDiv (nm 2) (cst (.int 8))) (cst (.int 40)))))
  (seq (for_ (z06 (slice (opN d_ways [(nmV 1),(op2 oAdd (cst (.int 1)) (op2 oMod (nm 2) (op2 oIx (nm 1) (cst (.int 0)))))]) optN (opt (cst (.int 12))))) (gNm 4)
  (seq (asg 5 (opN z0s [(nmV 1),(nmV 4),(nmV 3)]))
  (seq (asg 6 (z01 []))
  (seq (for_ (z06 (nmV 4)) (gNm 7)
  (asg 6 (op2 oAdd (nm 6) (opN z0s [(nmV 1),(z01 [(nmV 7)]),(nmV 3)]))))
  (seq (iff (orT (tstB (op2 oNe (nm 5) (nm 6))) (notT (tstB (op1 z70 (nm 5))))) (rtn (cst (.bool false))) skip)
  (seq (iff (tstB (op2 oNe (opN zb0 [(comp 1 [] (z06 (nmV 5)) (gNm 0) (tstB (op2 oEq (op2 oIx (nm 0) (cst (.int 0))) (cst (.str "ticks")))) (op2 oIx (nm 0) (cst (.int 1))))]) (op2 oMul (opN oLen [(nm 4)]) (op2 oAdd (cst (.int 1)) (nm 3))))) (rtn (cst (.bool false))) skip)
  (seq (asg 8 (comp 1 [1] (z06 (nmV 4)) (gNm 0) (tstB (op1 z10 (op2 oIx (op2 oIx (op2 oIx (nm 1) (cst (.int 1))) (nm 0)) (cst (.int 2))))) (op2 oIx (op2 oIx (op2 oIx (nm 1) (cst (.int 1))) (nm 0)) (cst (.int 2)))))
  (seq (asg 9 (comp 1 [] (z06 (nmV 5)) (gNm 0) (tstB (op2 oEq (op2 oIx (nm 0) (cst (.int 0))) (cst (.str "line")))) (nmV 0)))
  (seq (iff (orT (tstB (op2 oNe (comp 1 [] (z06 (z7x (nm 9) optN)) (gNm 0) (cstT true) (op2 oIx (nm 0) (cst (.int 1)))) (nm 8))) (tstB (op2 oNe (comp 1 [] (z06 (z7x (nm 9) (opt (cst (.int 1))))) (gNm 0) (cstT true) (op2 oIx (nm 0) (cst (.int 1)))) (nm 8)))) (rtn (cst (.bool false))) skip)
  (iff (tstB (op2 oNe (comp 1 [] (z06 (nmV 9)) (gNm 0) (cstT true) (op2 oIx (nm 0) (cst (.int 2)))) (op2 oRep (z0n [(cst (.str "open")),(cst (.str "shut"))]) (opN oLen [(nm 8)])))) (rtn (cst (.bool false))) skip))))))))))
  (rtn (op2 oEq (opN z0s [(nmV 1),(z01 []),(nmV 3)]) (z01 [])))))))
def z8k:List T -> Option T:=runF zc1 10
end K32
end
section
namespace K32
open PySem PySem.Spec PyProof.Rows L2 D Co K33
variable [Tbl]
def top (i:Nat):Stmt:=PySem.Challenge.pw_doorwatch_k32_whole_walks_put_together.main.body.getD i (.Pass ⟨0,0,0,0⟩)
section
variable {P:y0q} {w:World} {K:y00} {mg:Str -> Option Value} {base:Heap}
abbrev z1t:Stmt:=top 2
theorem zai:FnScope ["opening","here"] ["opening","here"] (z02 z1t):=⟨rfl,rfl,rfl,by decide +kernel,rfl,by decide +kernel,by decide +kernel⟩
theorem zc0 {K:y00} {f:Addr} {fd:y0b} (F:Fun K "beyond" "beyond" z1t f fd):z1y K fd ["opening","here"] []:=F.binds (ps:=["opening","here"]) fun _ _ _ _ _ _ us hl=>match us,hl with | [_,_],_=>rfl
theorem z29 {k:Nat} {f:Addr} {fd:y0b} (F:Fun K "beyond" "beyond" z1t f fd) (m:mg "beyond" = some (.ref f)) :Cl P w K mg base "beyond" (k + 1) 2 z0q :=
 z6b F zai (zc0 F) m fun cdv A outer s H E hr =>
  (z0c (s_if (z3p (z5f (by exact hr.units)) z5g (v2r (q_ix (q_nm 0) (v2r z0a))) (q_nm 1)) (z14 (z1x (q_ix (q_nm 0) (v2r z0a)))) z53)
  (z0c (s_if (z3p (z5f (by exact hr.units)) z5g (v2r (q_ix (q_nm 0) (v2r z0a))) (q_nm 1)) (z14 (z1x (q_ix (q_nm 0) (v2r z0a)))) z53)
  (z14 (z1x ze6))))
abbrev z0y:Stmt:=top 3
theorem z1m:FnScope ["house","room","places","found","number","opening","there"] ["house","room","places"] (z02 z0y):=⟨rfl,rfl,rfl,by decide +kernel,rfl,by decide +kernel,by decide +kernel⟩
theorem z5q {K:y00} {f:Addr} {fd:y0b} (F:Fun K "ways_on" "ways_on" z0y f fd):z1y K fd ["house","room","places"] []:=F.binds (ps:=["house","room","places"]) fun _ _ _ _ _ _ us hl=>match us,hl with | [_,_,_],_=>rfl
theorem z9y {d:List T -> Option T} {k:Nat} {f:Addr} {fd:y0b} (F:Fun K "ways_on" "ways_on" z0y f fd) (m:mg "ways_on" = some (.ref f)) (z1o:Cl P w K mg base "ways_on" k 3 d) (z_enumerate:mg "enumerate" = none) (z29:Cl P w K mg base "beyond" k 2 z0q):Cl P w K mg base "ways_on" (k + 1) 3 (runF (z1p d) 7) :=
 z6b F z1m (z5q F) m fun cdv A outer s H E hr =>
  (z0c (s_if (z3p (z5f (by exact hr.units)) z5g (v2r (q_ix (q_nm 2) (v2r (zfy (v2r z0a))))) (q_nm 1)) (z14 (z1x (zdg (z00 (z1i z07) z07)))) z53)
  (z0c (zde 3 z1m.nd (ze7 z07))
  (z0c (zaj PassesOwn.never (zh0 z_enumerate (q_ix (q_nm 0) (v2r z0a))) (zi5 (zdq (g_nm 4 z1m.nd) (zdq (g_nm 5 z1m.nd) zi6)))
  (z0c (z20 6 z1m.nd (z13 z29 hr (z00 (z0m 5) (z00 (q_ix (q_nm 2) (v2r (zfy (v2r z0a)))) z07))))
  (z14 (s_if (w_t (zhd (zdc (q_nm 6)) (zfh (z3p (zau (by exact hr.units)) zgl (q_nm 6) (q_nm 2))))) (z14 (zhn 3 (v2r (z4e (own:=["rest"]) (caps:=[(4,"number")]) (z4t (sc:=z02 z0y) ["house","room","places","found","number","opening","there"] rfl rfl rfl (by decide +kernel)) (z50 (z13 z1o hr (z00 (z0m 0) (z00 (z0m 1) (z00 (z1j (q_nm 2) (v2r (z1i (z00 (z0m 6) z07)))) z07))))) (fun _ _ _ _ _ _=>(g_nm 0 (show List.Nodup (["rest","number"]:List Str) by decide +kernel))) (fun _ _ _ _ _ _=>z8s) (fun _ _ _ _ _ _=>(z1j (v2r (z1i (z00 (z0m 1) z07))) (q_nm 0))))))) z53))))
  (z14 (zfq 3)))))
theorem z1o {k:Nat} {f:Addr} {fd:y0b} (F:Fun K "ways_on" "ways_on" z0y f fd) (m:mg "ways_on" = some (.ref f)) (z_enumerate:mg "enumerate" = none) (z29:Cl P w K mg base "beyond" k 2 z0q):∀ n,Cl P w K mg base "ways_on" (k + n) 3 (z0h n)
 | 0=>.mk' zbf m F.kp (z5q F)
 | n + 1=>z9y F m (z1o F m z_enumerate z29  n) z_enumerate (z29.mono (Nat.le_add_right _ _))
abbrev z4c:Stmt:=top 4
theorem ze3:FnScope ["house","room"] ["house","room"] (z02 z4c):=⟨rfl,rfl,rfl,by decide +kernel,rfl,by decide +kernel,by decide +kernel⟩
theorem zf9 {K:y00} {f:Addr} {fd:y0b} (F:Fun K "ways" "ways" z4c f fd):z1y K fd ["house","room"] []:=F.binds (ps:=["house","room"]) fun _ _ _ _ _ _ us hl=>match us,hl with | [_,_],_=>rfl
theorem zbw {k:Nat} {f:Addr} {fd:y0b} (F:Fun K "ways" "ways" z4c f fd) (m:mg "ways" = some (.ref f)) (z_tuple:mg "tuple" = none) (z1o:Cl P w K mg base "ways_on" k 3 (z0h 20)) {t_OUTSIDE:Tok} (g_OUTSIDE:mg "OUTSIDE" = some (.int 0 t_OUTSIDE)):Cl P w K mg base "ways" (k + 1) 2 d_ways :=
 z6b F ze3 (zf9 F) m fun cdv A outer s H E hr =>
  (z14 (z1x (zak z_tuple (z1k (v2r (z13 z1o hr (z00 (z0m 0) (z00 (z0m 1) (z00 (z1i (z00 (q_gI g_OUTSIDE) z07)) z07))))) z3n))))
abbrev z1s:Stmt:=top 7
theorem z6q:FnScope ["opening","pace","zone"] ["opening","pace"] (z02 z1s):=⟨rfl,rfl,rfl,by decide +kernel,rfl,by decide +kernel,by decide +kernel⟩
theorem zbz {K:y00} {f:Addr} {fd:y0b} (F:Fun K "passed" "passed" z1s f fd):z1y K fd ["opening","pace"] []:=F.binds (ps:=["opening","pace"]) fun _ _ _ _ _ _ us hl=>match us,hl with | [_,_],_=>rfl
theorem z6d {k:Nat} {f:Addr} {fd:y0b} (F:Fun K "passed" "passed" z1s f fd) (m:mg "passed" = some (.ref f)) {t_TICKS_TO_PASS:Tok} (g_TICKS_TO_PASS:mg "TICKS_TO_PASS" = some (.int 1 t_TICKS_TO_PASS)):Cl P w K mg base "passed" (k + 1) 2 z19 :=
 z6b F z6q (zbz F) m fun cdv A outer s H E hr =>
  (z0c (z20 2 z6q.nd (q_ix (q_nm 0) (v2r z0a)))
  (z0c (s_if (zhf (q_nm 2)) (z14 (z1x (z1i (z00 (z1i (z00 z21 (z00 (q_gI g_TICKS_TO_PASS) z07))) (z00 (z1i (z00 z21 (z00 (z0m 1) z07))) z07))))) z53)
  (z14 (z1x (z1i (z00 (z1i (z00 z21 (z00 (z0m 2) (z00 z21 z07)))) (z00 (z1i (z00 z21 (z00 (q_gI g_TICKS_TO_PASS) z07))) (z00 (z1i (z00 z21 (z00 (z0m 2) (z00 z21 z07)))) (z00 (z1i (z00 z21 (z00 (z0m 1) z07))) z07)))))))))
abbrev z1r:Stmt:=top 8
theorem z4b:FnScope ["house","way","pace","row","number"] ["house","way","pace"] (z02 z1r):=⟨rfl,rfl,rfl,by decide +kernel,rfl,by decide +kernel,by decide +kernel⟩
theorem zby {K:y00} {f:Addr} {fd:y0b} (F:Fun K "walked" "walked" z1r f fd):z1y K fd ["house","way","pace"] []:=F.binds (ps:=["house","way","pace"]) fun _ _ _ _ _ _ us hl=>match us,hl with | [_,_,_],_=>rfl
theorem z35 {k:Nat} {f:Addr} {fd:y0b} (F:Fun K "walked" "walked" z1r f fd) (m:mg "walked" = some (.ref f)) (z_tuple:mg "tuple" = none) (z6d:Cl P w K mg base "passed" k 2 z19):Cl P w K mg base "walked" (k + 1) 3 z0s :=
 z6b F z4b (zby F) m fun cdv A outer s H E hr =>
  (z0c (zde 3 z4b.nd (ze7 z07))
  (z0c (zaj PassesOwn.never (z50 (z0m 1)) (g_nm 4 z4b.nd)
  (z14 (zfr 3 (v2r (z13 z6d hr (z00 (q_ix (v2r (q_ix (q_nm 0) (v2r z0a))) (q_nm 4)) (z00 (z0m 2) z07)))))))
  (z14 (z1x (zak z_tuple (z1k (q_nm 3) z3n))))))
abbrev z0t:Stmt:=top 10
theorem z6r:FnScope ["_law_script","_law_k"] ["_law_script","_law_k"] (z02 z0t):=⟨rfl,rfl,rfl,by decide +kernel,rfl,by decide +kernel,by decide +kernel⟩
theorem z7q {K:y00} {f:Addr} {fd:y0b} (F:Fun K "_law_cell_at" "_law_cell_at" z0t f fd):z1y K fd ["_law_script","_law_k"] []:=F.binds (ps:=["_law_script","_law_k"]) fun _ _ _ _ _ _ us hl=>match us,hl with | [_,_],_=>rfl
theorem z2s {k:Nat} {f:Addr} {fd:y0b} (F:Fun K "_law_cell_at" "_law_cell_at" z0t f fd) (m:mg "_law_cell_at" = some (.ref f)) (z_len:mg "len" = none):Cl P w K mg base "_law_cell_at" (k + 1) 2 z09 :=
 z6b F z6r (z7q F) m fun cdv A outer s H E hr =>
  (z0c (s_if (z3p (zi2.or zav) zgk (q_nm 1) (v2r (ze8 z_len (z1k (q_nm 0) z3n)))) (z14 (z1x (q_ix (q_nm 0) (q_nm 1)))) z53)
  (z14 (z1x z0a)))
abbrev z1a:Stmt:=top 11
theorem z5a:FnScope ["_law_script","_law_k","_law_drawn_here"] ["_law_script","_law_k"] (z02 z1a):=⟨rfl,rfl,rfl,by decide +kernel,rfl,by decide +kernel,by decide +kernel⟩
theorem z9z {K:y00} {f:Addr} {fd:y0b} (F:Fun K "_law_mixed" "_law_mixed" z1a f fd):z1y K fd ["_law_script","_law_k"] []:=F.binds (ps:=["_law_script","_law_k"]) fun _ _ _ _ _ _ us hl=>match us,hl with | [_,_],_=>rfl
theorem z36 {k:Nat} {f:Addr} {fd:y0b} (F:Fun K "_law_mixed" "_law_mixed" z1a f fd) (m:mg "_law_mixed" = some (.ref f)) (z2s:Cl P w K mg base "_law_cell_at" k 2 z09):Cl P w K mg base "_law_mixed" (k + 1) 2 z0e :=
 z6b F z5a (z9z F) m fun cdv A outer s H E hr =>
  (z0c (z20 2 z5a.nd (z3r (v2r (z5w (v2r (z1j (v2r (z1j (v2r (z13 z2s hr (z00 (z0m 0) (z00 (z0m 1) z07)))) (v2r (z5w (v2r z0a) (q_nm 1))))) (v2r z0a))) (v2r z0a))) (v2r z0a)))
  (z14 (z1x (z3r (v2r (z1j (v2r (z1j (v2r (z5w (q_nm 2) (q_nm 2))) (v2r (z5w (v2r z0a) (q_nm 2))))) (q_nm 1))) (v2r z0a)))))
abbrev z1c:Stmt:=top 12
theorem z5b:FnScope ["_law_number","_law_k","_law_drawn_here"] ["_law_number","_law_k"] (z02 z1c):=⟨rfl,rfl,rfl,by decide +kernel,rfl,by decide +kernel,by decide +kernel⟩
theorem za1 {K:y00} {f:Addr} {fd:y0b} (F:Fun K "_law_drawn" "_law_drawn" z1c f fd):z1y K fd ["_law_number","_law_k"] []:=F.binds (ps:=["_law_number","_law_k"]) fun _ _ _ _ _ _ us hl=>match us,hl with | [_,_],_=>rfl
theorem z4v {k:Nat} {f:Addr} {fd:y0b} (F:Fun K "_law_drawn" "_law_drawn" z1c f fd) (m:mg "_law_drawn" = some (.ref f)) :Cl P w K mg base "_law_drawn" (k + 1) 2 z0d :=
 z6b F z5b (za1 F) m fun cdv A outer s H E hr =>
  (z0c (z20 2 z5b.nd (z3r (v2r (z5w (v2r (z1j (v2r (z1j (q_nm 0) (v2r (z5w (v2r z0a) (q_nm 1))))) (v2r z0a))) (v2r z0a))) (v2r z0a)))
  (z14 (z1x (z3r (v2r (z1j (v2r (z1j (v2r (z5w (q_nm 2) (q_nm 2))) (v2r (z5w (v2r z0a) (q_nm 2))))) (q_nm 1))) (v2r z0a)))))
abbrev z1b:Stmt:=top 13
theorem z0p:FnScope ["_law_number","_law_rooms","_law_openings","_law_k","_law_drawn_here","_law_one","_law_other","_law_zone"] ["_law_number"] (z02 z1b):=⟨rfl,rfl,rfl,by decide +kernel,rfl,by decide +kernel,by decide +kernel⟩
theorem za0 {K:y00} {f:Addr} {fd:y0b} (F:Fun K "_law_house" "_law_house" z1b f fd):z1y K fd ["_law_number"] []:=F.binds (ps:=["_law_number"]) fun _ _ _ _ _ _ us hl=>match us,hl with | [_],_=>rfl
theorem z4u {k:Nat} {f:Addr} {fd:y0b} (F:Fun K "_law_house" "_law_house" z1b f fd) (m:mg "_law_house" = some (.ref f)) (z_range:mg "range" = none) (z4v:Cl P w K mg base "_law_drawn" k 2 z0d) (z_min:mg "min" = none) (z_max:mg "max" = none):Cl P w K mg base "_law_house" (k + 1) 1 d_l_house :=
 z6b F z0p (za0 F) m fun cdv A outer s H E hr =>
  (z0c (z20 1 z0p.nd (z1j (v2r z0a) (v2r (z3r (q_nm 0) (v2r z0a)))))
  (z0c (z20 2 z0p.nd (z1i z07))
  (z0c (zaj PassesOwn.never (zgz z_range (v2r (z3r (v2r (zal (q_nm 0) (v2r z0a))) (v2r z0a)))) (g_nm 3 z0p.nd)
  (z0c (z20 4 z0p.nd (zal (v2r (z13 z4v hr (z00 (z0m 0) (z00 (z1j (v2r z0a) (q_nm 3)) z07)))) (v2r z0a)))
  (z0c (z20 5 z0p.nd (z3r (q_nm 4) (v2r (z1j (q_nm 1) (v2r z0a)))))
  (z0c (z20 6 z0p.nd (z3r (v2r (z1j (v2r (z1j (q_nm 5) (v2r z0a))) (v2r (z3r (v2r (zal (q_nm 4) (v2r z0a))) (q_nm 1))))) (v2r (z1j (q_nm 1) (v2r z0a)))))
  (z0c (z20 7 z0p.nd (q_ix (v2r (z1i (z00 ze6 (z00 ze6 (z00 z21 (z00 z21 (z00 z21 (z00 z21 (z00 z21 z07))))))))) (v2r (z3r (v2r (zal (q_nm 4) (v2r z0a))) (v2r z0a)))))
  (z14 (z20 2 z0p.nd (z1j (q_nm 2) (v2r (z1i (z00 (z1i (z00 (zhr z_min (z1k (q_nm 5) (z1k (q_nm 6) z3n))) (z00 (zhs z_max (z1k (q_nm 5) (z1k (q_nm 6) z3n))) (z00 (z0m 7) z07)))) z07)))))))))))
  (z14 (z1x (z1i (z00 (z0m 1) (z00 (z0m 2) z07))))))))
abbrev z2k:Stmt:=top 14
theorem z1z:FnScope ["_law_script","_law_house_here","_law_number","_law_pace","_law_way","_law_row","_law_parts","_law_one","_law_names","_law_lines"] ["_law_script"] (z02 z2k):=⟨rfl,rfl,rfl,by decide +kernel,rfl,by decide +kernel,by decide +kernel⟩
theorem zi9 {k:Nat} {f:Addr} {fd:y0b} (F:Fun K "law" "law" z2k f fd) (z4u:Cl P w K mg base "_law_house" k 1 d_l_house) (z36:Cl P w K mg base "_law_mixed" k 2 z0e) (zbw:Cl P w K mg base "ways" k 2 d_ways) (z35:Cl P w K mg base "walked" k 3 z0s) (z_sum:mg "sum" = none) (z_isinstance:mg "isinstance" = none) (z_tuple:mg "tuple" = none) (z_len:mg "len" = none):FnOk P w K mg base CX0 (k + 1) f fd ["_law_script"] (spT K 1 z8k) :=
 zdr F z1z fun cdv A outer s H E hr =>
  (z0c (z20 1 z1z.nd (z13 z4u hr (z00 (z13 z36 hr (z00 (z0m 0) (z00 z0a z07))) z07)))
  (z0c (z20 2 z1z.nd (z13 z36 hr (z00 (z0m 0) (z00 z0a z07))))
  (z0c (z20 3 z1z.nd (z1j (v2r z0a) (v2r (z3r (v2r (zal (q_nm 2) (v2r z0a))) (v2r z0a)))))
  (z0c (zaj PassesOwn.never (z50 (ze5 (v2r (z13 zbw hr (z00 (z0m 1) (z00 (z1j (v2r z0a) (v2r (z3r (q_nm 2) (v2r (q_ix (q_nm 1) (v2r z0a)))))) z07)))) zdn (zdm (v2r z0a)))) (g_nm 4 z1z.nd)
  (z0c (z20 5 z1z.nd (z13 z35 hr (z00 (z0m 1) (z00 (z0m 4) (z00 (z0m 3) z07)))))
  (z0c (z20 6 z1z.nd (z1i z07))
  (z0c (zaj PassesOwn.never (z50 (z0m 4)) (g_nm 7 z1z.nd)
  (z14 (z20 6 z1z.nd (z1j (q_nm 6) (v2r (z13 z35 hr (z00 (z0m 1) (z00 (z1i (z00 (z0m 7) z07)) (z00 (z0m 3) z07)))))))))
  (z0c (s_if (w_t (w_or (z3p (z6x (by exact hr.units)) z6y (q_nm 5) (q_nm 6)) (zfg (zhe (zfo (v2r (zht z_isinstance z_tuple (q_nm 5)))))))) (z14 (z1x q_bl)) z53)
  (z0c (s_if (z3p (z6x (by exact hr.units)) z6y (v2r (zfw rfl z_sum (z1k (v2r (z4e (own:=["_law_event"]) (caps:=[]) (z4t (sc:=z02 z2k) ["_law_script","_law_house_here","_law_number","_law_pace","_law_way","_law_row","_law_parts","_law_one","_law_names","_law_lines"] rfl rfl rfl (by decide +kernel)) (z50 (z0m 5)) (fun _ _ _ _ _ _=>(g_nm 0 (show List.Nodup (["_law_event"]:List Str) by decide +kernel))) (fun _ _ _ _ _ _=>(zac (z3p (z5f (by exact hr.units)) z5g (v2r (q_ix (q_nm 0) (v2r z0a))) (v2r z21)))) (fun _ _ _ _ _ _=>(q_ix (q_nm 0) (v2r z0a))))) z3n))) (v2r (z5w (v2r (ze8 z_len (z1k (q_nm 4) z3n))) (v2r (z1j (v2r z0a) (q_nm 3)))))) (z14 (z1x q_bl)) z53)
  (z0c (zdf 8 z1z.nd (own:=["_law_one"]) (caps:=[(1,"_law_house_here")]) (z4t (sc:=z02 z2k) ["_law_script","_law_house_here","_law_number","_law_pace","_law_way","_law_row","_law_parts","_law_one","_law_names","_law_lines"] rfl rfl rfl (by decide +kernel)) (z50 (z0m 4)) (fun _ _ _ _ _ _=>(g_nm 0 (show List.Nodup (["_law_one","_law_house_here"]:List Str) by decide +kernel))) (fun _ _ _ _ _ _=>(zac (zdc (v2r (q_ix (v2r (q_ix (v2r (q_ix (q_nm 1) (v2r z0a))) (q_nm 0))) (v2r z0a)))))) (fun _ _ _ _ _ _=>(q_ix (v2r (q_ix (v2r (q_ix (q_nm 1) (v2r z0a))) (q_nm 0))) (v2r z0a))))
  (z0c (zdf 9 z1z.nd (own:=["_law_event"]) (caps:=[]) (z4t (sc:=z02 z2k) ["_law_script","_law_house_here","_law_number","_law_pace","_law_way","_law_row","_law_parts","_law_one","_law_names","_law_lines"] rfl rfl rfl (by decide +kernel)) (z50 (z0m 5)) (fun _ _ _ _ _ _=>(g_nm 0 (show List.Nodup (["_law_event"]:List Str) by decide +kernel))) (fun _ _ _ _ _ _=>(zac (z3p (z5f (by exact hr.units)) z5g (v2r (q_ix (q_nm 0) (v2r z0a))) (v2r z21)))) (fun _ _ _ _ _ _=>(z0m 0)))
  (z0c (s_if (w_t (w_or (z3p (z6x (by exact hr.units)) z6y (v2r (z4e (own:=["_law_event"]) (caps:=[]) (z4t (sc:=z02 z2k) ["_law_script","_law_house_here","_law_number","_law_pace","_law_way","_law_row","_law_parts","_law_one","_law_names","_law_lines"] rfl rfl rfl (by decide +kernel)) (z50 (zfx (q_nm 9) zdn two)) (fun _ _ _ _ _ _=>(g_nm 0 (show List.Nodup (["_law_event"]:List Str) by decide +kernel))) (fun _ _ _ _ _ _=>z8s) (fun _ _ _ _ _ _=>(q_ix (q_nm 0) (v2r z0a))))) (q_nm 8)) (zfg (z3p (z6x (by exact hr.units)) z6y (v2r (z4e (own:=["_law_event"]) (caps:=[]) (z4t (sc:=z02 z2k) ["_law_script","_law_house_here","_law_number","_law_pace","_law_way","_law_row","_law_parts","_law_one","_law_names","_law_lines"] rfl rfl rfl (by decide +kernel)) (z50 (zfx (q_nm 9) (zdm (v2r z0a)) two)) (fun _ _ _ _ _ _=>(g_nm 0 (show List.Nodup (["_law_event"]:List Str) by decide +kernel))) (fun _ _ _ _ _ _=>z8s) (fun _ _ _ _ _ _=>(q_ix (q_nm 0) (v2r z0a))))) (q_nm 8))))) (z14 (z1x q_bl)) z53)
  (z14 (s_if (z3p (z6x (by exact hr.units)) z6y (v2r (z4e (own:=["_law_event"]) (caps:=[]) (z4t (sc:=z02 z2k) ["_law_script","_law_house_here","_law_number","_law_pace","_law_way","_law_row","_law_parts","_law_one","_law_names","_law_lines"] rfl rfl rfl (by decide +kernel)) (z50 (z0m 9)) (fun _ _ _ _ _ _=>(g_nm 0 (show List.Nodup (["_law_event"]:List Str) by decide +kernel))) (fun _ _ _ _ _ _=>z8s) (fun _ _ _ _ _ _=>(q_ix (q_nm 0) (v2r z0a))))) (v2r (zhq (v2r (zdg (z00 z21 (z00 z21 z07)))) (v2r (ze8 z_len (z1k (q_nm 8) z3n)))))) (z14 (z1x q_bl)) z53)))))))))))
  (z14 (z1x (zhu (z5f (by exact hr.units)) z5g (v2r (z13 z35 hr (z00 (z0m 1) (z00 (z1i z07) (z00 (z0m 3) z07))))) (v2r (z1i z07)))))))))
end
end K32
end
section
namespace D
open PySem
theorem zcp (ns:List Int):y1b (ns.map .int) = true /\ y19 (ns.map .int) <= 1:=by
 induction ns with
 | nil=>simp [y1b,y19]
 | cons n ns ih=>simp [y1b,PyData.canLay0,y19,y1v,ih]
theorem z8x (n:Int):∀ ns:List Int,hasT (.int n) (ns.map .int) = decide (n ∈ ns)
 | []=>by simp [hasT]
 | m :: ns=>by
  have ih:=z8x n ns
  unfold hasT at ih ⊢
  rw [y0d,List.any_cons,ih]
  simp [y1r,Bool.beq_eq_decide_eq,eq_comm]
theorem z5x (n:Int):okT (.int n) = true:=by simp [okT,PyData.canLay0,y1v]
theorem zaw {x:Str} (h:(y1n x).canLay0 = true):okT (.str x) = true:=by simp [okT,y1v,h]
theorem zay (ns:List Int):okL (ns.map .int) = true:=by
 have:=zcp ns
 simp [okL,this.1]
 omega
theorem zb1 (neg:Bool) (n:Int) (ns:List Int):oIn neg (.int n) (.tuple (ns.map .int)) = some (.bool (if neg then !decide (n ∈ ns) else decide (n ∈ ns))):=by
 simp only [oIn,z5x,zay,z8x,Bool.and_self,if_true]
end D
end
section
namespace Ho
open D
def z2a:Fs :=
  (seq (iff (tstB (op2 oEq (op2 oIx (nm 0) (cst (.int 0))) (nm 1))) (rtn (op2 oIx (nm 0) (cst (.int 1)))) skip)
  (seq (iff (tstB (op2 oEq (op2 oIx (nm 0) (cst (.int 1))) (nm 1))) (rtn (op2 oIx (nm 0) (cst (.int 0)))) skip)
  (rtn (cst .none))))
def z0q:List T -> Option T:=runF z2a 2
def z1p (rec:List T -> Option T):Fs :=
  (seq (iff (tstB (op2 oEq (op2 oIx (nm 2) (op1 oNeg (cst (.int 1)))) (nm 1))) (rtn (z0n [(z01 [])])) skip)
  (seq (asgN 3 (z0n []))
  (seq (for_ (z2i (z4k (op2 oIx (nm 0) (cst (.int 1))))) (gTu [(gNm 4),(gNm 5)])
  (seq (asg 6 (opN z0q [(nmV 5),(op2 oIx (nm 2) (op1 oNeg (cst (.int 1))))]))
  (iff (andT (tstB (op1 z10 (nm 6))) (tstB (op2 (oIn true) (nm 6) (nm 2)))) (ext 3 (comp 1 [4] (z06 (opN rec [(nmV 0),(nmV 1),(op2 oAdd (nm 2) (z01 [(nmV 6)]))])) (gNm 0) (cstT true) (op2 oAdd (z01 [(nmV 1)]) (nm 0)))) skip)))
  (rtn (nm 3)))))
def z0h:Nat -> List T -> Option T
 | 0=>fun _=>none
 | n + 1=>runF (z1p (z0h n)) 7
def z7r:Fs :=
  (rtn (opN z12 [(opN (z0h 20) [(nmV 0),(nmV 1),(z01 [(cst (.int 0))])])]))
def d_ways:List T -> Option T:=runF z7r 2
def z0w:Fs :=
  (seq (iff (tstB (op2 oLt (nm 1) (opN oLen [(nm 0)]))) (rtn (op2 oIx (nm 0) (nm 1))) skip)
  (rtn (cst (.int 0))))
def z09:List T -> Option T:=runF z0w 2
def z1f:Fs :=
  (seq (asg 2 (op2 oMod (op2 oMul (op2 oAdd (op2 oAdd (opN z09 [(nmV 0),(nmV 1)]) (op2 oMul (cst (.int 7919)) (nm 1))) (cst (.int 1))) (cst (.int 48271))) (cst (.int 2147483647))))
  (rtn (op2 oMod (op2 oAdd (op2 oAdd (op2 oMul (nm 2) (nm 2)) (op2 oMul (cst (.int 7)) (nm 2))) (nm 1)) (cst (.int 2147483629)))))
def z0e:List T -> Option T:=runF z1f 3
def z1g:Fs :=
  (seq (asg 2 (op2 oMod (op2 oMul (op2 oAdd (op2 oAdd (nm 0) (op2 oMul (cst (.int 104729)) (nm 1))) (cst (.int 17))) (cst (.int 69621))) (cst (.int 2147483647))))
  (rtn (op2 oMod (op2 oAdd (op2 oAdd (op2 oMul (nm 2) (nm 2)) (op2 oMul (cst (.int 3)) (nm 2))) (nm 1)) (cst (.int 2147483629)))))
def z0d:List T -> Option T:=runF z1g 3
def z26:Fs :=
  (seq (asg 1 (op2 oAdd (cst (.int 1)) (op2 oMod (nm 0) (cst (.int 7)))))
  (seq (asg 2 (z01 []))
  (seq (for_ (z23 (op2 oMod (op2 oDiv (nm 0) (cst (.int 8))) (cst (.int 11)))) (gNm 3)
  (seq (asg 4 (op2 oDiv (opN z0d [(nmV 0),(op2 oAdd (cst (.int 50)) (nm 3))]) (cst (.int 4))))
  (seq (asg 5 (op2 oMod (nm 4) (op2 oAdd (nm 1) (cst (.int 1)))))
  (seq (asg 6 (op2 oMod (op2 oAdd (op2 oAdd (nm 5) (cst (.int 1))) (op2 oMod (op2 oDiv (nm 4) (cst (.int 8))) (nm 1))) (op2 oAdd (nm 1) (cst (.int 1)))))
  (seq (asg 7 (op2 oIx (z01 [(cst .none),(cst .none),(cst (.str "a")),(cst (.str "b")),(cst (.str "back")),(cst (.str "hall")),(cst (.str "win"))]) (op2 oMod (op2 oDiv (nm 4) (cst (.int 64))) (cst (.int 7)))))
  (asg 2 (op2 oAdd (nm 2) (z01 [(z01 [(opN oMin [(nm 5),(nm 6)]),(opN oMax [(nm 5),(nm 6)]),(nmV 7)])]))))))))
  (rtn (z01 [(nmV 1),(nmV 2)])))))
def d_l_house:List T -> Option T:=runF z26 8
end Ho
end
section
namespace Hg
def adj (e:Int × Int) (x:Int):Option Int:=if e.1 = x then some e.2 else if e.2 = x then some e.1 else none
def Adj (E:List (Int × Int)) (x y:Int):Prop:=∃ e ∈ E,adj e x = some y
inductive Reach (E:List (Int × Int)):Int -> Prop
 | zero:Reach E 0
 | step {x y:Int}:Reach E x -> Adj E x y -> Reach E y
def Within (R:Int) (E:List (Int × Int)):Prop:=∀ e ∈ E,0 <= e.1 /\ e.1 <= R /\ 0 <= e.2 /\ e.2 <= R
theorem z5r {R:Int} {E:List (Int × Int)} (h:Within R E) {x y:Int} (a:Adj E x y):0 <= y /\ y <= R:=by
 obtain ⟨e,he,ha⟩:=a
 obtain ⟨h1,h2,h3,h4⟩:=h e he
 unfold adj at ha
 split at ha
 ·cases ha; exact ⟨h3,h4⟩
 ·split at ha
  ·cases ha; exact ⟨h1,h2⟩
  ·cases ha
theorem z31:∀ (n:Nat) (l:List Int),l.Nodup -> (∀ x ∈ l,0 <= x /\ x < n) -> l.length <= n
 | 0,l,_,hb=>by
  cases l with
  | nil=>simp
  | cons x r=>have:=hb x (by simp); omega
 | n + 1,l,nd,hb=>by
  have h1:=z31 n (l.filter fun x=>decide (x ≠ (n:Int))) (nd.filter _) (fun x hx=>by
   have:=List.mem_filter.mp hx
   have hx':=hb x this.1
   have:x ≠ (n:Int):=by simpa using this.2
   omega)
  have h2:l.length <= (l.filter fun x=>decide (x ≠ (n:Int))).length + 1:=by
   clear h1 hb
   induction l with
   | nil=>simp
   | cons y r ih =>
    have nd':=y0r.mp nd
    by_cases e:y = (n:Int)
    ·subst e
     have:r.filter (fun x=>decide (x ≠ (n:Int))) = r:=List.filter_eq_self.mpr fun x hx=>by
      have:x ≠ (n:Int):=fun z=>nd'.1 (z ▸ hx)
      simpa using this
     rw [List.filter_cons_of_neg (by simp),this]
     simp
    ·rw [List.filter_cons_of_pos (by simpa using e)]
     have:=ih nd'.2
     simp only [y0w]
     omega
  omega
def inner (h:Int):List (Int × Int) -> List Int -> List Int -> List Int × List Int
 | [],r,w=>(r,w)
 | e :: es,r,w=>match adj e h with
  | some t=>if t ∈ r then inner h es r w else inner h es (r ++ [t]) (w ++ [t])
  | none=>inner h es r w
def exts (rec:List Int -> Option (List (List Nat))) (pl:List Int) (h:Int):Nat -> List (Int × Int) -> Option (List (List Nat))
 | _,[]=>some []
 | k,e :: es=>match adj e h with
  | some t=>if t ∈ pl then exts rec pl h (k + 1) es else (rec (pl ++ [t])).bind fun ws=>(exts rec pl h (k + 1) es).map fun vs=>ws.map (fun w=>k :: w) ++ vs
  | none=>exts rec pl h (k + 1) es
def waysP (E:List (Int × Int)) (room:Int):Nat -> List Int -> Option (List (List Nat))
 | 0,_=>none
 | n + 1,pl=>match pl.getLast? with
  | none=>none
  | some h=>if h = room then some [[]] else exts (waysP E room n) pl h 0 E
theorem z66 {rec:List Int -> Option (List (List Nat))} {pl:List Int} {h:Int} {B:Nat} (E₀:List (Int × Int)) (hr:∀ t,Adj E₀ h t -> t ∉ pl -> ∃ ws,rec (pl ++ [t]) = some ws /\ ws.length <= B) :
  ∀ (k:Nat) (E:List (Int × Int)),(∀ e ∈ E,e ∈ E₀) -> ∃ ws,exts rec pl h k E = some ws /\ ws.length <= E.length * B
 | k,[],_=>⟨[],rfl,by simp⟩
 | k,e :: es,hs=>by
  obtain ⟨vs,h1,h2⟩:=z66 E₀ hr (k + 1) es fun e he=>hs e (y05 _ he)
  have h3:es.length * B <= (e :: es).length * B:=Nat.mul_le_mul_right _ (by simp)
  unfold exts
  split
  next t ht =>
   split
   next=>exact ⟨vs,h1,by omega⟩
   next hm =>
    obtain ⟨ws,h4,h5⟩:=hr t ⟨e,hs e y0e,ht⟩ hm
    refine ⟨_,by rw [h4,h1]; rfl,?_⟩
    simp only [y1s,y12,y0w,Nat.succ_mul]
    omega
  next=>exact ⟨vs,h1,by omega⟩
theorem ways_tot {R:Int} {E:List (Int × Int)} (hE:Within R E) (hR:R <= 7) (hl:E.length <= 10) (room:Int) :
  ∀ (n:Nat) (pl:List Int),pl ≠ [] -> pl.Nodup -> (∀ x ∈ pl,0 <= x /\ x <= R) -> 9 <= n + pl.length -> ∃ ws,waysP E room n pl = some ws /\ ws.length <= 10 ^ (8 - pl.length)
 | 0,pl,hne,nd,hb,hn=>by
  have:=z31 8 pl nd fun y hy=>by have:=hb y hy; omega
  omega
 | n + 1,pl,hne,nd,hb,hn=>by
  unfold waysP
  rw [List.getLast?_eq_getLast hne]
  simp only
  split
  next=>exact ⟨_,rfl,by simpa using Nat.one_le_pow _ 10 (by decide)⟩
  next =>
   have l8:=z31 8 pl nd fun y hy=>by have:=hb y hy; omega
   by_cases full:pl.length = 8
   ·
    have none_new:∀ t,Adj E (pl.getLast hne) t -> t ∉ pl -> False:=fun t a hm=>by
     have hw:=z5r hE a
     have nd':(pl ++ [t]).Nodup:=by
      rw [List.nodup_append]
      refine ⟨nd,by simp,fun x hx y hy=>?_⟩
      have:y = t:=by simpa using hy
      subst this
      exact fun z=>hm (z ▸ hx)
     have:=z31 8 (pl ++ [t]) nd' fun y hy=>by
      rcases y0z.mp hy with hy | hy
      ·have:=hb y hy; omega
      ·have:y = t:=by simpa using hy
       subst this
       omega
     simp at this
     omega
    obtain ⟨ws,h1,h2⟩:=z66 (B:=0) (pl:=pl) (h:=pl.getLast hne) (rec:=waysP E room n) E (fun t a hm=>(none_new t a hm).elim) 0 E fun _ h=>h
    exact ⟨ws,h1,by have:ws.length = 0:=(by omega); rw [this]; exact y1u _⟩
   ·obtain ⟨ws,h1,h2⟩:=z66 (B:=10 ^ (8 - (pl.length + 1))) (pl:=pl) (h:=pl.getLast hne) (rec:=waysP E room n) E (fun t a hm=>by
     have hw:=z5r hE a
     have:=ways_tot hE hR hl room n (pl ++ [t]) (by simp) (by
      rw [List.nodup_append]
      refine ⟨nd,by simp,fun x hx y hy=>?_⟩
      have:y = t:=by simpa using hy
      subst this
      exact fun z=>hm (z ▸ hx)) (fun y hy=>by
      rcases y0z.mp hy with hy | hy
      ·exact hb y hy
      ·have:y = t:=by simpa using hy
       subst this
       exact hw) (by simp; omega)
     simpa using this) 0 E fun _ h=>h
    refine ⟨ws,h1,?_⟩
    have e:8 - pl.length = (8 - (pl.length + 1)) + 1:=by omega
    rw [e,Nat.pow_succ]
    have:=Nat.mul_le_mul_right (10 ^ (8 - (pl.length + 1))) hl
    omega
inductive Walk (E:List (Int × Int)):Int -> List Int -> Int -> Prop
 | nil (x:Int):Walk E x [] x
 | cons {x y z:Int} {p:List Int}:Adj E x y -> Walk E y p z -> Walk E x (y :: p) z
theorem z25 {rec:List Int -> Option (List (List Nat))} {pl:List Int} {h:Int}:∀ {k:Nat} {E:List (Int × Int)} {ws:List (List Nat)},exts rec pl h k E = some ws -> ∀ t,Adj E h t -> t ∉ pl -> ∃ vs,rec (pl ++ [t]) = some vs /\ (vs ≠ [] -> ws ≠ [])
 | k,[],ws,e,t,⟨e',he',_⟩,_=>by simp at he'
 | k,e :: es,ws,h1,t,⟨e',he',ha⟩,hm=>by
  unfold exts at h1
  split at h1
  next t' ht' =>
   split at h1
   next hm' =>
    rcases y09.mp he' with rfl | he'
    ·rw [ht'] at ha
     cases ha
     exact absurd hm' hm
    ·exact z25 h1 t ⟨e',he',ha⟩ hm
   next hm' =>
    simp only [y01,y07] at h1
    obtain ⟨us,h2,vs,h3,rfl⟩:=h1
    rcases y09.mp he' with rfl | he'
    ·rw [ht'] at ha
     cases ha
     exact ⟨us,h2,fun q z=>q (by have:=(List.append_eq_nil_iff.mp z).1; simpa using this)⟩
    ·obtain ⟨xs,q1,q2⟩:=z25 h3 t ⟨e',he',ha⟩ hm
     exact ⟨xs,q1,fun q z=>q2 q (List.append_eq_nil_iff.mp z).2⟩
  next hn =>
   rcases y09.mp he' with rfl | he'
   ·rw [hn] at ha
    cases ha
   ·exact z25 h1 t ⟨e',he',ha⟩ hm
theorem z67 {rec:List Int -> Option (List (List Nat))} {pl:List Int} {h:Int}:∀ {k:Nat} {E:List (Int × Int)} {ws:List (List Nat)},exts rec pl h k E = some ws -> ws ≠ [] -> ∃ t vs,Adj E h t /\ t ∉ pl /\ rec (pl ++ [t]) = some vs /\ vs ≠ []
 | k,[],ws,e,hn=>by
  cases e
  exact absurd rfl hn
 | k,e :: es,ws,h1,hne=>by
  have up:∀ {y:Int},Adj es h y -> Adj (e :: es) h y:=fun ⟨e',h1,h2⟩=>⟨e',y05 _ h1,h2⟩
  unfold exts at h1
  split at h1
  next t ht =>
   split at h1
   next =>
    obtain ⟨t',vs,a,b,c,d⟩:=z67 h1 hne
    exact ⟨t',vs,up a,b,c,d⟩
   next hm =>
    simp only [y01,y07] at h1
    obtain ⟨us,h2,vs,h3,rfl⟩:=h1
    by_cases hu:us = []
    ·subst hu
     obtain ⟨t',vs',a,b,c,d⟩:=z67 h3 (by simpa using hne)
     exact ⟨t',vs',up a,b,c,d⟩
    ·exact ⟨t,us,⟨e,y0e,ht⟩,hm,h2,hu⟩
  next =>
   obtain ⟨t',vs,a,b,c,d⟩:=z67 h1 hne
   exact ⟨t',vs,up a,b,c,d⟩
theorem z3j {E:List (Int × Int)} {room:Int}:∀ {p:List Int} {n:Nat} {pl:List Int} {cur:Int} {ws:List (List Nat)},Walk E cur p room -> (cur :: p).Nodup -> (∀ y ∈ p,y ∉ pl) -> pl.getLast? = some cur -> waysP E room n pl = some ws -> ws ≠ []
 | p,0,pl,cur,ws,_,_,_,_,h=>by cases h
 | [],n + 1,pl,cur,ws,hw,_,_,hl,h=>by
  cases hw
  unfold waysP at h
  rw [hl] at h
  simp only [if_true] at h
  cases h
  simp
 | y :: p,n + 1,pl,cur,ws,hw,nd,hp,hl,h=>by
  cases hw with
  | cons a w =>
   unfold waysP at h
   rw [hl] at h
   simp only at h
   split at h
   next=>cases h; simp
   next =>
    obtain ⟨vs,h1,h2⟩:=z25 h y a (hp y (by simp))
    have nd':=(y0r.mp nd).2
    refine h2 (z3j w nd' (fun z hz hm=>?_) (by simp) h1)
    rcases y0z.mp hm with hm | hm
    ·exact hp z (y05 _ hz) hm
    ·have:z = y:=by simpa using hm
     subst this
     exact (y0r.mp nd').1 hz
theorem z3k {E:List (Int × Int)} {room:Int}:∀ {n:Nat} {pl:List Int} {cur:Int} {ws:List (List Nat)},pl.getLast? = some cur -> waysP E room n pl = some ws -> ws ≠ [] -> ∃ p,Walk E cur p room
 | 0,pl,cur,ws,_,h,_=>by cases h
 | n + 1,pl,cur,ws,hl,h,hne=>by
  unfold waysP at h
  rw [hl] at h
  simp only at h
  split at h
  next e =>
   subst e
   exact ⟨[],.nil _⟩
  next =>
   obtain ⟨t,vs,a,b,c,d⟩:=z67 h hne
   obtain ⟨p,w⟩:=z3k (pl:=pl ++ [t]) (cur:=t) (by simp) c d
   exact ⟨t :: p,.cons a w⟩
theorem za9 {E:List (Int × Int)} {x y z:Int} {p:List Int} (w:Walk E x p y) (a:Adj E y z):Walk E x (p ++ [z]) z:=by
 induction w with
 | nil x=>exact .cons a (.nil z)
 | cons b _ ih=>exact .cons b (ih a)
theorem z98 {E:List (Int × Int)} {x y:Int} {p:List Int} (w:Walk E x p y) (r:Reach E x):Reach E y:=by
 induction w with
 | nil x=>exact r
 | cons a _ ih=>exact ih (.step r a)
theorem zca {E:List (Int × Int)} {x z y:Int} {p:List Int} (w:Walk E x p z) (nd:(x :: p).Nodup) (hy:y ∈ x :: p):∃ q,Walk E x q y /\ (x :: q).Nodup:=by
 induction w with
 | nil x =>
  have:y = x:=by simpa using hy
  subst this
  exact ⟨[],.nil _,by simp⟩
 | @cons x u z p a w ih =>
  by_cases e:y = x
  ·subst e
   exact ⟨[],.nil _,by simp⟩
  ·have nd':=y0r.mp nd
   have sub:∀ {q:List Int},Walk E u q y -> True:=fun _=>trivial
   obtain ⟨q,w',ndq,hs⟩:∃ q,Walk E u q y /\ (u :: q).Nodup /\ ∀ t ∈ u :: q,t ∈ u :: p:=by
    have hy':y ∈ u :: p:=by
     rcases y09.mp hy with h | h
     ·exact absurd h e
     ·exact h
    clear ih sub a nd hy e
    have nd2:=nd'.2
    clear nd'
    induction w with
    | nil u =>
     have:y = u:=by simpa using hy'
     subst this
     exact ⟨[],.nil _,by simp,by simp⟩
    | @cons u v z p b w ih =>
     by_cases e:y = u
     ·subst e
      exact ⟨[],.nil _,by simp,by simp⟩
     ·have n3:=y0r.mp nd2
      obtain ⟨q,w',ndq,hs⟩:=ih (by
       rcases y09.mp hy' with h | h
       ·exact absurd h e
       ·exact h) n3.2
      refine ⟨v :: q,.cons b w',y0r.mpr ⟨fun h=>n3.1 (hs u h),ndq⟩,fun t ht=>?_⟩
      rcases y09.mp ht with rfl | ht
      ·simp
      ·exact y05 _ (hs t ht)
   exact ⟨u :: q,.cons a w',y0r.mpr ⟨fun h=>nd'.1 (hs x h),ndq⟩⟩
theorem z9d {E:List (Int × Int)} {x:Int} (r:Reach E x):∃ p,Walk E 0 p x /\ ((0:Int) :: p).Nodup:=by
 induction r with
 | zero=>exact ⟨[],.nil _,by simp⟩
 | @step x y _ a ih =>
  obtain ⟨p,w,nd⟩:=ih
  by_cases h:y ∈ (0:Int) :: p
  ·exact zca w nd h
  ·refine ⟨p ++ [y],za9 w a,?_⟩
   rw [<- List.cons_append,List.nodup_append]
   refine ⟨nd,by simp,fun s hs t ht=>?_⟩
   have:t = y:=by simpa using ht
   subst this
   exact fun e=>h (e ▸ hs)
theorem ways_iff {E:List (Int × Int)} {room:Int} {n:Nat} {ws:List (List Nat)} (h:waysP E room n [0] = some ws):ws ≠ [] <-> Reach E room:=by
 constructor
 ·intro hne
  obtain ⟨p,w⟩:=z3k (cur:=0) (by simp) h hne
  exact z98 w .zero
 ·intro r
  obtain ⟨p,w,nd⟩:=z9d r
  refine z3j w nd (fun y hy hm=>?_) (by simp) h
  have:y = 0:=by simpa using hm
  subst this
  exact (y0r.mp nd).1 hy
end Hg
end
section
namespace Ho
open PySem D
abbrev Op:=Int × Int × Option Str
def zT:Option Str -> T
 | none=>.none
 | some x=>.str x
def opT (o:Op):T:=.tuple [.int o.1,.int o.2.1,zT o.2.2]
def houseT (R:Int) (os:List Op):T:=.tuple [.int R,.tuple (os.map opT)]
def free (ns:List Str) (o:Op):Bool:=match o.2.2 with
 | none=>true
 | some x=>decide (x ∈ ns)
def edge (o:Op):Int × Int:=(o.1,o.2.1)
def oT:Option Int -> T
 | some t=>.int t
 | none=>.none
theorem z4h (a b:Int):oEq (.int a) (.int b) = some (.bool (decide (a = b))):=by
 simp [oEq,z5x,y1r,Bool.beq_eq_decide_eq]
theorem z0x {a b:Fs} {ε ε':Ev} (h:a ε = some (.nx ε')):seq a b ε = b ε':=by
 simp only [seq,h,y0p]
theorem zbx (o:Op) (h:Int):z0q [opT o,.int h] = some (oT (Hg.adj (edge o) h)):=by
 obtain ⟨a,b,z⟩:=o
 by_cases h1:a = h
 ·simp [z0q,z2a,opT,runF,seq,iff,tstB,tstL,andT,orT,notT,cstT,ofT,op1,op2,opN,args,cst,nm,nmV,rtn,skip,asg,asgN,asgT,par,z01,z0n,oIsN,z10,oIx,atZ,ixOf,gNm,gTu,gAll,z06,comp,z0o,z4h,Hg.adj,edge,oT,h1]
 ·by_cases h2:b = h
  ·simp [z0q,z2a,opT,runF,seq,iff,tstB,tstL,andT,orT,notT,cstT,ofT,op1,op2,opN,args,cst,nm,nmV,rtn,skip,asg,asgN,asgT,par,z01,z0n,oIsN,z10,oIx,atZ,ixOf,gNm,gTu,gAll,z06,comp,z0o,z4h,Hg.adj,edge,oT,h1,h2]
  ·simp [z0q,z2a,opT,runF,seq,iff,tstB,tstL,andT,orT,notT,cstT,ofT,op1,op2,opN,args,cst,nm,nmV,rtn,skip,asg,asgN,asgT,par,z01,z0n,oIsN,z10,oIx,atZ,ixOf,gNm,gTu,gAll,z06,comp,z0o,z4h,Hg.adj,edge,oT,h1,h2]
def OpsOk (os:List Op):Prop:=∀ o ∈ os,∀ x,o.2.2 = some x -> (y1n x).canLay0 = true
end Ho
end
section
namespace Ho
open PySem D
def wT (w:List Nat):T:=.tuple (w.map fun (k:Nat)=>PyData.int (k:Int))
def bW (rec:List T -> Option T):Fs:=(seq (asg 6 (opN z0q [(nmV 5),(op2 oIx (nm 2) (op1 oNeg (cst (.int 1))))]))
  (iff (andT (tstB (op1 z10 (nm 6))) (tstB (op2 (oIn true) (nm 6) (nm 2)))) (ext 3 (comp 1 [4] (z06 (opN rec [(nmV 0),(nmV 1),(op2 oAdd (nm 2) (z01 [(nmV 6)]))])) (gNm 0) (cstT true) (op2 oAdd (z01 [(nmV 1)]) (nm 0)))) skip))
def envW (h:T) (room:Int) (pl:List Int) (acc:List (List Nat)) (j4 j5 j6:Option Sl):Ev:=[some (.imm h),some (.imm (.int room)),some (.imm (.tuple (pl.map .int))),some (.own (acc.map wT)),j4,j5,j6]
theorem z94 (k:Nat):∀ (ws:List (List Nat)) (j:Option Sl),(∀ w ∈ ws,w.length <= 100) -> z2r (gNm 0) (cstT true) (op2 oAdd (z01 [(nmV 1)]) (nm 0)) (ws.map wT) [j,some (.imm (.int k))] = some ((ws.map fun w=>k :: w).map wT)
 | [],j,_=>rfl
 | w :: ws,j,h=>by
  have ih:=z94 k ws (some (.imm (wT w))) fun w hw=>h w (by simp [hw])
  have hw:=h w (by simp)
  have e1:op2 oAdd (z01 [(nmV 1)]) (nm 0) [some (.imm (wT w)),some (.imm (.int k))] = some (wT (k :: w)):=by
   have:1 + w.length <= 16777216:=by omega
   simp [op2,z01,args,nmV,nm,big,wT,oAdd,this]
  have e0:gNm 0 (wT w) [j,some (.imm (.int k))] = some [some (.imm (wT w)),some (.imm (.int k))]:=rfl
  simp only [y0d,z2r,e0,y0p,cstT,if_true,e1,ih,y1j]
theorem zb8 {pl:List Int} {h:Int} (hp:pl.getLast? = some h):atZ (pl.map PyData.int) (-1) = some (.int h):=by
 have hne:pl ≠ []:=fun z=>by subst z; cases hp
 have hl:=List.length_pos_iff.mpr hne
 have hx:ixOf (pl.map PyData.int).length (-1) = some (pl.length - 1):=by
  unfold ixOf
  rw [if_neg (by decide),y12,if_pos (by omega)]
  congr 1
  omega
 unfold atZ
 rw [hx]
 simp only [y0p,y13]
 rw [<- List.getLast?_eq_getElem?,hp]
 rfl
theorem zff {rec:List T -> Option T} {recP:List Int -> Option (List (List Nat))} (hT:T) (room:Int) (pl:List Int) (h:Int) (hp:pl.getLast? = some h) (hpl:pl.length <= 100)
  (o:Op) (k:Nat) (acc:List (List Nat)) (j6:Option Sl) (vs:List (List Nat))
  (hv:(match Hg.adj (edge o) h with | some t=>if t ∈ pl then some [] else (recP (pl ++ [t])).map fun ws=>ws.map fun w=>k :: w | none=>some []) = some vs)
  (hr:∀ t ws,t ∉ pl -> recP (pl ++ [t]) = some ws -> ws.length <= vs.length -> rec [hT,.int room,.tuple ((pl ++ [t]).map .int)] = some (.list (ws.map wT)) /\ ∀ w ∈ ws,w.length <= 100) (hz:acc.length + vs.length <= 16777216) :
  ∃ j6',bW rec (envW hT room pl acc (some (.imm (.int k))) (some (.imm (opT o))) j6) = some (.nx (envW hT room pl (acc ++ vs) (some (.imm (.int k))) (some (.imm (opT o))) j6')):=by
 have hb:=zbx o h
 have hi:=zb8 hp
 have e1:opN z0q [(nmV 5),(op2 oIx (nm 2) (op1 oNeg (cst (.int 1))))] (envW hT room pl acc (some (.imm (.int k))) (some (.imm (opT o))) j6) = some (oT (Hg.adj (edge o) h)):=by
  have:op2 oIx (nm 2) (op1 oNeg (cst (.int 1))) (envW hT room pl acc (some (.imm (.int k))) (some (.imm (opT o))) j6) = some (.int h):=by
   simp only [op2,nm,envW,List.getElem?_cons_succ,List.getElem?_cons_zero,y0p,op1,cst,oNeg,oIx]
   exact hi
  have n5:nmV 5 (envW hT room pl acc (some (.imm (.int k))) (some (.imm (opT o))) j6) = some (opT o):=rfl
  simp only [opN,args,this,n5,y0p,y1j]
  exact hb
 have e2:asg 6 (opN z0q [(nmV 5),(op2 oIx (nm 2) (op1 oNeg (cst (.int 1))))]) (envW hT room pl acc (some (.imm (.int k))) (some (.imm (opT o))) j6) = some (.nx (envW hT room pl acc (some (.imm (.int k))) (some (.imm (opT o))) (some (.imm (oT (Hg.adj (edge o) h)))))):=by
  simp only [asg,e1,y1j]
  rfl
 refine ⟨some (.imm (oT (Hg.adj (edge o) h))),?_⟩
 unfold bW
 rw [z0x e2]
 cases ha:Hg.adj (edge o) h with
 | none =>
  rw [ha] at hv
  cases hv
  simp [iff,andT,tstB,op1,z10,nm,envW,oT,skip]
 | some t =>
  rw [ha] at hv
  by_cases hm:t ∈ pl
  ·simp only [hm,if_true] at hv
   cases hv
   simp [iff,andT,tstB,op1,op2,z10,nm,envW,oT,skip,zb1,hm]
  ·simp only [hm,if_false,y07] at hv
   obtain ⟨ws,hws,rfl⟩:=hv
   simp only [y12] at hz hr
   obtain ⟨h1,h2⟩:=hr t ws hm hws (y0o _)
   have c1:andT (tstB (op1 z10 (nm 6))) (tstB (op2 (oIn true) (nm 6) (nm 2))) (envW hT room pl acc (some (.imm (.int k))) (some (.imm (opT o))) (some (.imm (oT (some t))))) = some true:=by
    simp [andT,tstB,op1,op2,z10,nm,envW,oT,zb1,hm]
   have a1:op2 oAdd (nm 2) (z01 [(nmV 6)]) (envW hT room pl acc (some (.imm (.int k))) (some (.imm (opT o))) (some (.imm (oT (some t))))) = some (.tuple ((pl ++ [t]).map .int)):=by
    have:pl.length + 1 <= 16777216:=by omega
    simp [op2,nm,nmV,envW,z01,args,big,oT,oAdd,this]
   have it1:z06 (opN rec [(nmV 0),(nmV 1),(op2 oAdd (nm 2) (z01 [(nmV 6)]))]) (envW hT room pl acc (some (.imm (.int k))) (some (.imm (opT o))) (some (.imm (oT (some t))))) = some (ws.map wT):=by
    have n0:nmV 0 (envW hT room pl acc (some (.imm (.int k))) (some (.imm (opT o))) (some (.imm (oT (some t))))) = some hT:=rfl
    have n1:nmV 1 (envW hT room pl acc (some (.imm (.int k))) (some (.imm (opT o))) (some (.imm (oT (some t))))) = some (.int room):=rfl
    simp only [z06,opN,args,a1,n0,n1,y0p,y1j,h1]
   have cp:comp 1 [4] (z06 (opN rec [(nmV 0),(nmV 1),(op2 oAdd (nm 2) (z01 [(nmV 6)]))])) (gNm 0) (cstT true) (op2 oAdd (z01 [(nmV 1)]) (nm 0)) (envW hT room pl acc (some (.imm (.int k))) (some (.imm (opT o))) (some (.imm (oT (some t))))) = some (.list ((ws.map fun w=>k :: w).map wT)):=by
    simp only [comp,it1,y0p,y12]
    rw [if_pos (by unfold big; omega)]
    have:z0o 1 [4] (envW hT room pl acc (some (.imm (.int k))) (some (.imm (opT o))) (some (.imm (oT (some t))))) = [none,some (.imm (.int k))]:=rfl
    rw [this,z94 k ws none h2]
    rfl
   simp only [iff,c1,y0p,if_true,ext,cp]
   simp only [envW,List.getElem?_cons_succ,List.getElem?_cons_zero,y12]
   rw [if_pos (by unfold big; omega)]
   simp
theorem zbi {rec:List T -> Option T} {recP:List Int -> Option (List (List Nat))} (hT:T) (room:Int) (pl:List Int) (h:Int) (hp:pl.getLast? = some h) (hpl:pl.length <= 100) (N:Nat) (hN:N <= 16777216)
  (hr:∀ t ws,t ∉ pl -> recP (pl ++ [t]) = some ws -> ws.length <= N -> rec [hT,.int room,.tuple ((pl ++ [t]).map .int)] = some (.list (ws.map wT)) /\ ∀ w ∈ ws,w.length <= 100) :
  ∀ (os:List Op) (k:Nat) (acc vs:List (List Nat)) (j4 j5 j6:Option Sl),Hg.exts recP pl h k (os.map edge) = some vs -> acc.length + vs.length <= N ->
   ∃ j4' j5' j6',forL (gTu [(gNm 4),(gNm 5)]) (bW rec) (((os.map opT).zipIdx k).map fun p=>.tuple [.int p.2,p.1]) (envW hT room pl acc j4 j5 j6) = some (.nx (envW hT room pl (acc ++ vs) j4' j5' j6'))
 | [],k,acc,vs,j4,j5,j6,e,_=>by
  cases e
  exact ⟨j4,j5,j6,by simp [forL]⟩
 | o :: os,k,acc,vs,j4,j5,j6,e,hz=>by
  have key:∃ v1 v2,(match Hg.adj (edge o) h with | some t=>if t ∈ pl then some [] else (recP (pl ++ [t])).map fun ws=>ws.map fun w=>k :: w | none=>some []) = some v1 /\ Hg.exts recP pl h (k + 1) (os.map edge) = some v2 /\ vs = v1 ++ v2:=by
   rw [y0d] at e
   unfold Hg.exts at e
   cases ha:Hg.adj (edge o) h with
   | none =>
    rw [ha] at e
    exact ⟨[],vs,rfl,e,rfl⟩
   | some t =>
    rw [ha] at e
    by_cases hm:t ∈ pl
    ·simp only [hm,if_true] at e ⊢
     exact ⟨[],vs,rfl,e,rfl⟩
    ·simp only [hm,if_false,y01,y07] at e ⊢
     obtain ⟨ws,h1,v2,h2,rfl⟩:=e
     exact ⟨_,v2,⟨ws,h1,rfl⟩,h2,rfl⟩
  obtain ⟨v1,v2,h1,h2,rfl⟩:=key
  rw [y1s] at hz
  obtain ⟨j6',hs⟩:=zff (rec:=rec) (recP:=recP) hT room pl h hp hpl o k acc j6 v1 h1 (fun t ws a b c=>hr t ws a b (by omega)) (by omega)
  obtain ⟨a,b,c,ih⟩:=zbi (rec:=rec) (recP:=recP) hT room pl h hp hpl N hN hr os (k + 1) (acc ++ v1) v2 (some (.imm (.int k))) (some (.imm (opT o))) j6' h2 (by rw [y1s]; omega)
  refine ⟨a,b,c,?_⟩
  have e0:gTu [(gNm 4),(gNm 5)] (.tuple [.int k,opT o]) (envW hT room pl acc j4 j5 j6) = some (envW hT room pl acc (some (.imm (.int k))) (some (.imm (opT o))) j6):=rfl
  rw [y0d,List.zipIdx_cons,y0d]
  simp only [forL,e0,y0p,hs]
  rw [ih,List.append_assoc]
theorem ways_lens {E:List (Int × Int)} {room:Int}:∀ (n:Nat) (pl:List Int) (ws:List (List Nat)),Hg.waysP E room n pl = some ws -> ∀ w ∈ ws,w.length <= n:=by
 have ex:∀ (n:Nat) (rec:List Int -> Option (List (List Nat))) (pl:List Int) (h:Int),(∀ q ws,rec q = some ws -> ∀ w ∈ ws,w.length <= n) -> ∀ (E:List (Int × Int)) (k:Nat) (ws:List (List Nat)),Hg.exts rec pl h k E = some ws -> ∀ w ∈ ws,w.length <= n + 1:=by
  intro n rec pl h hr E
  induction E with
  | nil =>
   intro k ws e w hw
   cases e
   cases hw
  | cons e0 E ih =>
   intro k ws e w hw
   unfold Hg.exts at e
   split at e
   ·split at e
    ·exact ih _ _ e w hw
    ·simp only [y01,y07] at e
     obtain ⟨us,h1,v2,h2,rfl⟩:=e
     rcases y0z.mp hw with q | q
     ·obtain ⟨u,hu,rfl⟩:=y0m.mp q
      have:=hr _ _ h1 u hu
      simp
      omega
     ·exact ih _ _ h2 w q
   ·exact ih _ _ e w hw
 intro n
 induction n with
 | zero =>
  intro pl ws e
  cases e
 | succ n ih =>
  intro pl ws e w hw
  unfold Hg.waysP at e
  split at e
  ·cases e
  ·split at e
   ·cases e
    simp at hw
    subst hw
    simp
   ·exact ex n _ _ _ (fun q ws e=>ih q ws e) _ _ _ e w hw
theorem z58 {R:Int} {os:List Op} {room:Int}:∀ (n:Nat) (pl:List Int) (ws:List (List Nat)),n + pl.length <= 90 -> Hg.waysP (os.map edge) room n pl = some ws -> ws.length <= 16777216 ->
  z0h n [houseT R os,.int room,.tuple (pl.map .int)] = some (.list (ws.map wT))
 | 0,pl,ws,hn,e,_=>by cases e
 | n + 1,pl,ws,hn,e,hz=>by
  have e0:z0h (n + 1) [houseT R os,.int room,.tuple (pl.map .int)] = (z1p (z0h n) [some (.imm (houseT R os)),some (.imm (.int room)),some (.imm (.tuple (pl.map .int))),none,none,none,none]).bind fun o=>match o with | .rt t=>some t | .nx _=>some .none | _=>none:=rfl
  rw [e0]
  unfold Hg.waysP at e
  cases hp:pl.getLast? with
  | none =>
   rw [hp] at e
   cases e
  | some h =>
   rw [hp] at e
   dsimp only at e
   have hi:=zb8 hp
   have c0:tstB (op2 oEq (op2 oIx (nm 2) (op1 oNeg (cst (.int 1)))) (nm 1)) [some (.imm (houseT R os)),some (.imm (.int room)),some (.imm (.tuple (pl.map .int))),none,none,none,none] = some (decide (h = room)):=by
    simp only [tstB,op2,nm,List.getElem?_cons_succ,List.getElem?_cons_zero,y0p,op1,cst,oNeg,oIx,hi,z4h]
   unfold z1p
   by_cases hr:h = room
   ·rw [if_pos hr] at e
    cases e
    simp only [seq,iff,c0,hr,y0p,decide_true,if_true,rtn,z0n,z01,args,y1j]
    simp [big,wT]
   ·rw [if_neg hr] at e
    have s1:iff (tstB (op2 oEq (op2 oIx (nm 2) (op1 oNeg (cst (.int 1)))) (nm 1))) (rtn (z0n [(z01 [])])) skip [some (.imm (houseT R os)),some (.imm (.int room)),some (.imm (.tuple (pl.map .int))),none,none,none,none] = some (.nx [some (.imm (houseT R os)),some (.imm (.int room)),some (.imm (.tuple (pl.map .int))),none,none,none,none]):=by
     simp only [iff,c0,hr,y0p,decide_false,Bool.false_eq_true,if_false,skip]
    have s2:asgN 3 (z0n []) [some (.imm (houseT R os)),some (.imm (.int room)),some (.imm (.tuple (pl.map .int))),none,none,none,none] = some (.nx (envW (houseT R os) room pl [] none none none)):=by
     simp [asgN,z0n,args,big,envW]
    obtain ⟨a,b,c,hs⟩:=zbi (rec:=z0h n) (recP:=Hg.waysP (os.map edge) room n) (houseT R os) room pl h hp (by omega) ws.length hz
     (fun t ws' _ h2 h3=>⟨z58 n (pl ++ [t]) ws' (by simp; omega) h2 (by omega),fun w hw=>y1i (ways_lens n _ _ h2 w hw) (by omega)⟩) os 0 [] ws none none none e (by simp)
    have it:z2i (z4k (op2 oIx (nm 0) (cst (.int 1)))) (envW (houseT R os) room pl [] none none none) = some (((os.map opT).zipIdx 0).map fun p=>.tuple [.int p.2,p.1]):=by
     simp [z2i,z4k,op2,nm,envW,houseT,cst,oIx,atZ,ixOf,enum]
    have s3:for_ (z2i (z4k (op2 oIx (nm 0) (cst (.int 1))))) (gTu [(gNm 4),(gNm 5)]) (bW (z0h n)) (envW (houseT R os) room pl [] none none none) = some (.nx (envW (houseT R os) room pl ws a b c)):=by
     simp only [for_,it,y0p]
     exact hs
    rw [z0x s1,z0x s2]
    have s4:seq (for_ (z2i (z4k (op2 oIx (nm 0) (cst (.int 1))))) (gTu [(gNm 4),(gNm 5)]) (bW (z0h n))) (rtn (nm 3)) (envW (houseT R os) room pl [] none none none) = some (.rt (.list (ws.map wT))):=by
     rw [z0x s3]
     simp [rtn,nm,envW]
    have s5:=congrArg (fun x:Option Out=>x.bind fun o=>match o with | .rt t=>some t | .nx _=>some .none | _=>none) s4
    exact s5
theorem zdz {R:Int} {os:List Op} {room:Int} {ws:List (List Nat)} (h:Hg.waysP (os.map edge) room 20 [0] = some ws) (hz:ws.length <= 16777216):d_ways [houseT R os,.int room] = some (.tuple (ws.map wT)):=by
 have h1:=z58 (R:=R) 20 [0] ws (by decide) h hz
 have e0:d_ways [houseT R os,.int room] = (z7r [some (.imm (houseT R os)),some (.imm (.int room))]).bind fun o=>match o with | .rt t=>some t | .nx _=>some .none | _=>none:=rfl
 rw [e0]
 have a1:args [(nmV 0),(nmV 1),(z01 [(cst (.int 0))])] [some (.imm (houseT R os)),some (.imm (.int room))] = some [houseT R os,.int room,.tuple ([0].map .int)]:=by
  simp [args,nmV,z01,cst,big]
 simp only [z7r,rtn,opN,args] at a1 ⊢
 rw [a1]
 simp only [y0p,h1,y1j,z12]
end Ho
end
section
namespace Ho
open PySem D
def z03 (ns:List Int):T:=.list (ns.map .int)
theorem z8m (ns:List Int) (k:Nat):z09 [z03 ns,.int k] = some (.int (ns.getD k 0)):=by
 by_cases h:k < ns.length
 ·have h':(k:Int) < (ns.length:Int):=by omega
  simp [z09,z0w,z03,runF,seq,iff,tstB,tstL,andT,orT,notT,cstT,ofT,op1,op2,opN,args,cst,nm,nmV,rtn,skip,asg,asgN,asgT,par,z01,z0n,oIsN,z10,oIx,atZ,ixOf,gNm,gTu,gAll,z06,comp,z0o,oAdd,oSub,oMul,oDiv,oMod,oNeg,oLen,oMin,oMax,z12,zcr,oInt,oLt,oLe,oGt,oGe,big,h,h',List.getD]
 ·have h':¬ (k:Int) < (ns.length:Int):=by omega
  simp [z09,z0w,z03,runF,seq,iff,tstB,tstL,andT,orT,notT,cstT,ofT,op1,op2,opN,args,cst,nm,nmV,rtn,skip,asg,asgN,asgT,par,z01,z0n,oIsN,z10,oIx,atZ,ixOf,gNm,gTu,gAll,z06,comp,z0o,oAdd,oSub,oMul,oDiv,oMod,oNeg,oLen,oMin,oMax,z12,zcr,oInt,oLt,oLe,oGt,oGe,big,h,h',List.getD]
theorem z16 {i j:Int} (h:-(2 ^ 64) < j /\ j < 2 ^ 64):oMul (.int i) (.int j) = some (.int (i * j)):=by
 unfold oMul z9r
 simp only [decide_eq_true h.1,decide_eq_true h.2,Bool.and_self,Bool.or_true,if_true]
theorem z17 {i j:Int} (h:0 < j):oMod (.int i) (.int j) = some (.int (i % j)):=if_pos h
theorem z5o {i j:Int} (h:0 < j /\ j < 1073741824):oDiv (.int i) (.int j) = some (.int (i / j)):=if_pos h
theorem z1h {i j:Int}:oAdd (.int i) (.int j) = some (.int (i + j)):=rfl
theorem z64 (ns:List Int) (k:Nat):∃ m:Int,0 <= m /\ z0e [z03 ns,.int k] = some (.int m):=by
 have hc:=z8m ns k
 have hd:0 <= (ns.getD k 0 + 7919 * (k:Int) + 1) * 48271 % 2147483647 /\ (ns.getD k 0 + 7919 * (k:Int) + 1) * 48271 % 2147483647 < 2147483647:=⟨Int.emod_nonneg _ (by decide),Int.emod_lt_of_pos _ (by decide)⟩
 generalize hx:(ns.getD k 0 + 7919 * (k:Int) + 1) * 48271 % 2147483647 = d at hd
 refine ⟨(d * d + 7 * d + k) % 2147483629,Int.emod_nonneg _ (by decide),?_⟩
 have e0:z0e [z03 ns,.int k] = (z1f [some (.imm (z03 ns)),some (.imm (.int k)),none]).bind fun o=>match o with | .rt t=>some t | .nx _=>some .none | _=>none:=rfl
 have m1:oMul (.int 7919) (.int k) = some (.int (7919 * k)):=by
  unfold oMul z9r
  simp
 have n0:nmV 0 [some (.imm (z03 ns)),some (.imm (.int k)),none] = some (z03 ns):=rfl
 have n1:nmV 1 [some (.imm (z03 ns)),some (.imm (.int k)),none] = some (.int k):=rfl
 have n1':nm 1 [some (.imm (z03 ns)),some (.imm (.int k)),none] = some (.int k):=rfl
 have s1:asg 2 (op2 oMod (op2 oMul (op2 oAdd (op2 oAdd (opN z09 [(nmV 0),(nmV 1)]) (op2 oMul (cst (.int 7919)) (nm 1))) (cst (.int 1))) (cst (.int 48271))) (cst (.int 2147483647))) [some (.imm (z03 ns)),some (.imm (.int k)),none] = some (.nx [some (.imm (z03 ns)),some (.imm (.int k)),some (.imm (.int d))]):=by
  simp only [asg,op2,opN,args,n0,n1,n1',y0p,y1j,hc,cst,m1,z1h,z16 (i:=ns.getD k 0 + 7919 * (k:Int) + 1) (j:=48271) (by decide),z17 (j:=2147483647) (by decide),hx]
  rfl
 have m2:oMul (.int d) (.int d) = some (.int (d * d)):=z16 (by omega)
 have m3:oMul (.int 7) (.int d) = some (.int (7 * d)):=z16 (by omega)
 rw [e0]
 unfold z1f
 rw [z0x s1]
 have q2:nm 2 [some (.imm (z03 ns)),some (.imm (.int k)),some (.imm (.int d))] = some (.int d):=rfl
 have q1:nm 1 [some (.imm (z03 ns)),some (.imm (.int k)),some (.imm (.int d))] = some (.int k):=rfl
 simp only [rtn,op2,q2,q1,y0p,y1j,cst,m2,m3,z1h,z17 (j:=2147483629) (by decide)]
theorem z91 (n k:Int) (hk:-(2 ^ 64) < k /\ k < 2 ^ 64):∃ m:Int,0 <= m /\ z0d [.int n,.int k] = some (.int m):=by
 have hd:0 <= (n + 104729 * k + 17) * 69621 % 2147483647 /\ (n + 104729 * k + 17) * 69621 % 2147483647 < 2147483647:=⟨Int.emod_nonneg _ (by decide),Int.emod_lt_of_pos _ (by decide)⟩
 generalize hx:(n + 104729 * k + 17) * 69621 % 2147483647 = d at hd
 refine ⟨(d * d + 3 * d + k) % 2147483629,Int.emod_nonneg _ (by decide),?_⟩
 have e0:z0d [.int n,.int k] = (z1g [some (.imm (.int n)),some (.imm (.int k)),none]).bind fun o=>match o with | .rt t=>some t | .nx _=>some .none | _=>none:=rfl
 have m1:oMul (.int 104729) (.int k) = some (.int (104729 * k)):=z16 hk
 have n0:nm 0 [some (.imm (.int n)),some (.imm (.int k)),none] = some (.int n):=rfl
 have n1:nm 1 [some (.imm (.int n)),some (.imm (.int k)),none] = some (.int k):=rfl
 have s1:asg 2 (op2 oMod (op2 oMul (op2 oAdd (op2 oAdd (nm 0) (op2 oMul (cst (.int 104729)) (nm 1))) (cst (.int 17))) (cst (.int 69621))) (cst (.int 2147483647))) [some (.imm (.int n)),some (.imm (.int k)),none] = some (.nx [some (.imm (.int n)),some (.imm (.int k)),some (.imm (.int d))]):=by
  simp only [asg,op2,n0,n1,y0p,y1j,cst,m1,z1h,z16 (i:=n + 104729 * k + 17) (j:=69621) (by decide),z17 (j:=2147483647) (by decide),hx]
  rfl
 have m2:oMul (.int d) (.int d) = some (.int (d * d)):=z16 (by omega)
 have m3:oMul (.int 3) (.int d) = some (.int (3 * d)):=z16 (by omega)
 rw [e0]
 unfold z1g
 rw [z0x s1]
 have q2:nm 2 [some (.imm (.int n)),some (.imm (.int k)),some (.imm (.int d))] = some (.int d):=rfl
 have q1:nm 1 [some (.imm (.int n)),some (.imm (.int k)),some (.imm (.int d))] = some (.int k):=rfl
 simp only [rtn,op2,q2,q1,y0p,y1j,cst,m2,m3,z1h,z17 (j:=2147483629) (by decide)]
def z3l:List Str:=["a","b","back","hall","win"]
def OpOk (R:Int) (o:Op):Prop:=0 <= o.1 /\ o.1 < o.2.1 /\ o.2.1 <= R /\ ∀ x,o.2.2 = some x -> x ∈ z3l
structure Drawn (R:Int) (os:List Op):Prop where
 r1:1 <= R
 r7:R <= 7
 len:os.length <= 10
 ok:∀ o ∈ os,OpOk R o
def bH:Fs:=(seq (asg 4 (op2 oDiv (opN z0d [(nmV 0),(op2 oAdd (cst (.int 50)) (nm 3))]) (cst (.int 4))))
  (seq (asg 5 (op2 oMod (nm 4) (op2 oAdd (nm 1) (cst (.int 1)))))
  (seq (asg 6 (op2 oMod (op2 oAdd (op2 oAdd (nm 5) (cst (.int 1))) (op2 oMod (op2 oDiv (nm 4) (cst (.int 8))) (nm 1))) (op2 oAdd (nm 1) (cst (.int 1)))))
  (seq (asg 7 (op2 oIx (z01 [(cst .none),(cst .none),(cst (.str "a")),(cst (.str "b")),(cst (.str "back")),(cst (.str "hall")),(cst (.str "win"))]) (op2 oMod (op2 oDiv (nm 4) (cst (.int 64))) (cst (.int 7)))))
  (asg 2 (op2 oAdd (nm 2) (z01 [(z01 [(opN oMin [(nm 5),(nm 6)]),(opN oMax [(nm 5),(nm 6)]),(nmV 7)])])))))))
def envH (n R:Int) (os:List Op) (j3 j4 j5 j6 j7:Option Sl):Ev:=[some (.imm (.int n)),some (.imm (.int R)),some (.imm (.tuple (os.map opT))),j3,j4,j5,j6,j7]
theorem zdx (i:Int) (h0:0 <= i) (h7:i < 7) (ε:Ev):∃ z:Option Str,(z01 [(cst .none),(cst .none),(cst (.str "a")),(cst (.str "b")),(cst (.str "back")),(cst (.str "hall")),(cst (.str "win"))] ε).bind (fun t=>oIx t (.int i)) = some (zT z) /\ ∀ x,z = some x -> x ∈ z3l:=by
 have hc:i = 0 \/ i = 1 \/ i = 2 \/ i = 3 \/ i = 4 \/ i = 5 \/ i = 6:=by omega
 have e:z01 [(cst .none),(cst .none),(cst (.str "a")),(cst (.str "b")),(cst (.str "back")),(cst (.str "hall")),(cst (.str "win"))] ε = some (.tuple [.none,.none,.str "a",.str "b",.str "back",.str "hall",.str "win"]):=by
  simp [z01,args,cst,big]
 rw [e]
 rcases hc with rfl | rfl | rfl | rfl | rfl | rfl | rfl
 ·exact ⟨none,rfl,fun x h=>by cases h⟩
 ·exact ⟨none,rfl,fun x h=>by cases h⟩
 ·exact ⟨some "a",rfl,fun x h=>by cases h; simp [z3l]⟩
 ·exact ⟨some "b",rfl,fun x h=>by cases h; simp [z3l]⟩
 ·exact ⟨some "back",rfl,fun x h=>by cases h; simp [z3l]⟩
 ·exact ⟨some "hall",rfl,fun x h=>by cases h; simp [z3l]⟩
 ·exact ⟨some "win",rfl,fun x h=>by cases h; simp [z3l]⟩
theorem z9v (n R:Int) (h1:1 <= R) (h7:R <= 7) (os:List Op) (hl:os.length < 1000) (k:Int) (hk:0 <= k /\ k < 1000) (j4 j5 j6 j7:Option Sl) :
  ∃ o j4' j5' j6' j7',OpOk R o /\ bH (envH n R os (some (.imm (.int k))) j4 j5 j6 j7) = some (.nx (envH n R (os ++ [o]) (some (.imm (.int k))) j4' j5' j6' j7')):=by
 obtain ⟨m,hm,hd⟩:=z91 n (50 + k) (by omega)
 have q0:0 <= m / 4:=Int.ediv_nonneg hm (by decide)
 generalize hq:m / 4 = q at q0
 have s1:asg 4 (op2 oDiv (opN z0d [(nmV 0),(op2 oAdd (cst (.int 50)) (nm 3))]) (cst (.int 4))) (envH n R os (some (.imm (.int k))) j4 j5 j6 j7) = some (.nx (envH n R os (some (.imm (.int k))) (some (.imm (.int q))) j5 j6 j7)):=by
  have n0:nmV 0 (envH n R os (some (.imm (.int k))) j4 j5 j6 j7) = some (.int n):=rfl
  have n3:nm 3 (envH n R os (some (.imm (.int k))) j4 j5 j6 j7) = some (.int k):=rfl
  simp only [asg,op2,opN,args,n0,n3,cst,z1h,y0p,y1j,hd,z5o (j:=4) (by decide),hq]
  rfl
 have hone:0 <= q % (R + 1) /\ q % (R + 1) < R + 1:=⟨Int.emod_nonneg _ (by omega),Int.emod_lt_of_pos _ (by omega)⟩
 have hother:0 <= q / 8 % R /\ q / 8 % R < R:=⟨Int.emod_nonneg _ (by omega),Int.emod_lt_of_pos _ (by omega)⟩
 have hneq:(q % (R + 1) + 1 + q / 8 % R) % (R + 1) ≠ q % (R + 1):=by
  generalize q % (R + 1) = a at *
  generalize q / 8 % R = b at *
  intro e
  by_cases c:a + 1 + b < R + 1
  ·rw [Int.emod_eq_of_lt (by omega) c] at e
   omega
  ·have:(a + 1 + b) % (R + 1) = a + 1 + b - (R + 1):=by
    rw [<- Int.sub_emod_right,Int.emod_eq_of_lt (by omega) (by omega)]
   omega
 have hoth:0 <= (q % (R + 1) + 1 + q / 8 % R) % (R + 1) /\ (q % (R + 1) + 1 + q / 8 % R) % (R + 1) < R + 1:=⟨Int.emod_nonneg _ (by omega),Int.emod_lt_of_pos _ (by omega)⟩
 have s2:asg 5 (op2 oMod (nm 4) (op2 oAdd (nm 1) (cst (.int 1)))) (envH n R os (some (.imm (.int k))) (some (.imm (.int q))) j5 j6 j7) = some (.nx (envH n R os (some (.imm (.int k))) (some (.imm (.int q))) (some (.imm (.int (q % (R + 1))))) j6 j7)):=by
  have n4:nm 4 (envH n R os (some (.imm (.int k))) (some (.imm (.int q))) j5 j6 j7) = some (.int q):=rfl
  have n1:nm 1 (envH n R os (some (.imm (.int k))) (some (.imm (.int q))) j5 j6 j7) = some (.int R):=rfl
  simp only [asg,op2,n4,n1,cst,z1h,y0p,y1j,z17 (j:=R + 1) (by omega)]
  rfl
 generalize q % (R + 1) = one at *
 have s3:asg 6 (op2 oMod (op2 oAdd (op2 oAdd (nm 5) (cst (.int 1))) (op2 oMod (op2 oDiv (nm 4) (cst (.int 8))) (nm 1))) (op2 oAdd (nm 1) (cst (.int 1)))) (envH n R os (some (.imm (.int k))) (some (.imm (.int q))) (some (.imm (.int one))) j6 j7) = some (.nx (envH n R os (some (.imm (.int k))) (some (.imm (.int q))) (some (.imm (.int one))) (some (.imm (.int ((one + 1 + q / 8 % R) % (R + 1))))) j7)):=by
  have n5:nm 5 (envH n R os (some (.imm (.int k))) (some (.imm (.int q))) (some (.imm (.int one))) j6 j7) = some (.int one):=rfl
  have n4:nm 4 (envH n R os (some (.imm (.int k))) (some (.imm (.int q))) (some (.imm (.int one))) j6 j7) = some (.int q):=rfl
  have n1:nm 1 (envH n R os (some (.imm (.int k))) (some (.imm (.int q))) (some (.imm (.int one))) j6 j7) = some (.int R):=rfl
  simp only [asg,op2,n5,n4,n1,cst,z1h,y0p,y1j,z5o (j:=8) (by decide),z17 (j:=R) (by omega),z17 (j:=R + 1) (by omega)]
  rfl
 generalize (one + 1 + q / 8 % R) % (R + 1) = oth at *
 obtain ⟨z,hz,hzn⟩:=zdx (q / 64 % 7) (Int.emod_nonneg _ (by decide)) (Int.emod_lt_of_pos _ (by decide)) (envH n R os (some (.imm (.int k))) (some (.imm (.int q))) (some (.imm (.int one))) (some (.imm (.int oth))) j7)
 have s4:asg 7 (op2 oIx (z01 [(cst .none),(cst .none),(cst (.str "a")),(cst (.str "b")),(cst (.str "back")),(cst (.str "hall")),(cst (.str "win"))]) (op2 oMod (op2 oDiv (nm 4) (cst (.int 64))) (cst (.int 7)))) (envH n R os (some (.imm (.int k))) (some (.imm (.int q))) (some (.imm (.int one))) (some (.imm (.int oth))) j7) = some (.nx (envH n R os (some (.imm (.int k))) (some (.imm (.int q))) (some (.imm (.int one))) (some (.imm (.int oth))) (some (.imm (zT z))))):=by
  have n4:nm 4 (envH n R os (some (.imm (.int k))) (some (.imm (.int q))) (some (.imm (.int one))) (some (.imm (.int oth))) j7) = some (.int q):=rfl
  have hi:op2 oMod (op2 oDiv (nm 4) (cst (.int 64))) (cst (.int 7)) (envH n R os (some (.imm (.int k))) (some (.imm (.int q))) (some (.imm (.int one))) (some (.imm (.int oth))) j7) = some (.int (q / 64 % 7)):=by
   simp only [op2,n4,cst,y0p,z5o (j:=64) (by decide),z17 (j:=7) (by decide)]
  have hh:op2 oIx (z01 [(cst .none),(cst .none),(cst (.str "a")),(cst (.str "b")),(cst (.str "back")),(cst (.str "hall")),(cst (.str "win"))]) (op2 oMod (op2 oDiv (nm 4) (cst (.int 64))) (cst (.int 7))) (envH n R os (some (.imm (.int k))) (some (.imm (.int q))) (some (.imm (.int one))) (some (.imm (.int oth))) j7) = some (zT z):=by
   rw [<- hz]
   unfold op2 at hi ⊢
   simp only [hi,y0p]
  simp only [asg,hh,y1j]
  rfl
 refine ⟨((if oth < one then oth else one),(if oth > one then oth else one),z),some (.imm (.int q)),some (.imm (.int one)),some (.imm (.int oth)),some (.imm (zT z)),⟨?_,?_,?_,hzn⟩,?_⟩
 ·dsimp only
  split <;> omega
 ·dsimp only
  split <;> split <;> omega
 ·dsimp only
  split <;> omega
 ·have s5:asg 2 (op2 oAdd (nm 2) (z01 [(z01 [(opN oMin [(nm 5),(nm 6)]),(opN oMax [(nm 5),(nm 6)]),(nmV 7)])])) (envH n R os (some (.imm (.int k))) (some (.imm (.int q))) (some (.imm (.int one))) (some (.imm (.int oth))) (some (.imm (zT z)))) = some (.nx (envH n R (os ++ [((if oth < one then oth else one),(if oth > one then oth else one),z)]) (some (.imm (.int k))) (some (.imm (.int q))) (some (.imm (.int one))) (some (.imm (.int oth))) (some (.imm (zT z))))):=by
   have n5:nm 5 (envH n R os (some (.imm (.int k))) (some (.imm (.int q))) (some (.imm (.int one))) (some (.imm (.int oth))) (some (.imm (zT z)))) = some (.int one):=rfl
   have n6:nm 6 (envH n R os (some (.imm (.int k))) (some (.imm (.int q))) (some (.imm (.int one))) (some (.imm (.int oth))) (some (.imm (zT z)))) = some (.int oth):=rfl
   have n7:nmV 7 (envH n R os (some (.imm (.int k))) (some (.imm (.int q))) (some (.imm (.int one))) (some (.imm (.int oth))) (some (.imm (zT z)))) = some (zT z):=rfl
   have n2:nm 2 (envH n R os (some (.imm (.int k))) (some (.imm (.int q))) (some (.imm (.int one))) (some (.imm (.int oth))) (some (.imm (zT z)))) = some (.tuple (os.map opT)):=rfl
   have hb:(os.map opT).length + 1 <= 16777216:=by simp; omega
   simp only [asg,op2,opN,z01,args,n5,n6,n7,n2,y0p,y1j,oMin,oMax,oAdd,y0w,List.length_nil,big]
   simp [hb,envH,opT]
   omega
  unfold bH
  rw [z0x s1,z0x s2,z0x s3,z0x s4,s5]
theorem z5l (n R:Int) (h1:1 <= R) (h7:R <= 7):∀ (ks:List Int) (os:List Op) (j3 j4 j5 j6 j7:Option Sl),(∀ k ∈ ks,0 <= k /\ k < 1000) -> os.length + ks.length < 1000 -> (∀ o ∈ os,OpOk R o) ->
  ∃ os' j3' j4' j5' j6' j7',os'.length = os.length + ks.length /\ (∀ o ∈ os',OpOk R o) /\ forL (gNm 3) bH (ks.map .int) (envH n R os j3 j4 j5 j6 j7) = some (.nx (envH n R os' j3' j4' j5' j6' j7'))
 | [],os,j3,j4,j5,j6,j7,_,_,ho=>⟨os,j3,j4,j5,j6,j7,rfl,ho,rfl⟩
 | k :: ks,os,j3,j4,j5,j6,j7,hk,hl,ho=>by
  simp only [y0w] at hl
  obtain ⟨o,a4,a5,a6,a7,oo,hs⟩:=z9v n R h1 h7 os (by omega) k (hk k (by simp)) j4 j5 j6 j7
  obtain ⟨os',b3,b4,b5,b6,b7,e1,e2,e3⟩:=z5l n R h1 h7 ks (os ++ [o]) (some (.imm (.int k))) a4 a5 a6 a7 (fun k' h=>hk k' (by simp [h])) (by simp; omega) fun o' h=>by
   rcases y0z.mp h with q | q
   ·exact ho o' q
   ·simp at q
    subst q
    exact oo
  refine ⟨os',b3,b4,b5,b6,b7,by rw [e1]; simp; omega,e2,?_⟩
  have e0:gNm 3 (.int k) (envH n R os j3 j4 j5 j6 j7) = some (envH n R os (some (.imm (.int k))) j4 j5 j6 j7):=rfl
  simp only [y0d,forL,e0,y0p,hs,e3]
theorem house_eq (n:Int) (hn:0 <= n):∃ R os,Drawn R os /\ d_l_house [.int n] = some (houseT R os):=by
 have hR:0 <= n % 7 /\ n % 7 < 7:=⟨Int.emod_nonneg _ (by decide),Int.emod_lt_of_pos _ (by decide)⟩
 have hN:0 <= n / 8 % 11 /\ n / 8 % 11 < 11:=⟨Int.emod_nonneg _ (by decide),Int.emod_lt_of_pos _ (by decide)⟩
 have s1:asg 1 (op2 oAdd (cst (.int 1)) (op2 oMod (nm 0) (cst (.int 7)))) [some (.imm (.int n)),none,none,none,none,none,none,none] = some (.nx [some (.imm (.int n)),some (.imm (.int (1 + n % 7))),none,none,none,none,none,none]):=by
  have n0:nm 0 [some (.imm (.int n)),none,none,none,none,none,none,none] = some (.int n):=rfl
  simp only [asg,op2,n0,cst,y0p,y1j,z17 (j:=7) (by decide),z1h]
  rfl
 have s2:asg 2 (z01 []) [some (.imm (.int n)),some (.imm (.int (1 + n % 7))),none,none,none,none,none,none] = some (.nx (envH n (1 + n % 7) [] none none none none none)):=by
  simp [asg,z01,args,big,envH]
 have hit:z23 (op2 oMod (op2 oDiv (nm 0) (cst (.int 8))) (cst (.int 11))) (envH n (1 + n % 7) [] none none none none none) = some (((List.range (n / 8 % 11).toNat).map fun (k:Nat)=>(k:Int)).map .int):=by
  have n0:nm 0 (envH n (1 + n % 7) [] none none none none none) = some (.int n):=rfl
  have hs:z4a (n / 8 % 11) = true:=by
   unfold z4a
   simp
   omega
  simp only [z23,op2,n0,cst,y0p,z5o (j:=8) (by decide),z17 (j:=11) (by decide),hs,if_true,rng,Int.sub_zero,Int.zero_add,List.map_map,Function.comp_def]
 obtain ⟨os,b3,b4,b5,b6,b7,e1,e2,e3⟩:=z5l n (1 + n % 7) (by omega) (by omega) ((List.range (n / 8 % 11).toNat).map fun (k:Nat)=>(k:Int)) [] none none none none none (fun k hk=>by
  obtain ⟨j,hj,rfl⟩:=y0m.mp hk
  have:=List.mem_range.mp hj
  omega) (by simp; omega) (by simp)
 simp only [List.length_nil,y12,List.length_range] at e1
 refine ⟨1 + n % 7,os,⟨by omega,by omega,by omega,e2⟩,?_⟩
 have s3:for_ (z23 (op2 oMod (op2 oDiv (nm 0) (cst (.int 8))) (cst (.int 11)))) (gNm 3) bH (envH n (1 + n % 7) [] none none none none none) = some (.nx (envH n (1 + n % 7) os b3 b4 b5 b6 b7)):=by
  simp only [for_,hit,y0p]
  exact e3
 have s4:seq (for_ (z23 (op2 oMod (op2 oDiv (nm 0) (cst (.int 8))) (cst (.int 11)))) (gNm 3) bH) (rtn (z01 [(nmV 1),(nmV 2)])) (envH n (1 + n % 7) [] none none none none none) = some (.rt (houseT (1 + n % 7) os)):=by
  rw [z0x s3]
  simp [rtn,z01,args,nmV,envH,big,houseT]
 have e0:d_l_house [.int n] = (z26 [some (.imm (.int n)),none,none,none,none,none,none,none]).bind fun o=>match o with | .rt t=>some t | .nx _=>some .none | _=>none:=rfl
 rw [e0]
 unfold z26
 rw [z0x s1,z0x s2]
 exact congrArg (fun x:Option Out=>x.bind fun o=>match o with | .rt t=>some t | .nx _=>some .none | _=>none) s4
end Ho
end
section
namespace Ho
open PySem D
local instance:Tbl:=⟨[],fun _=>[],fun _=>none⟩
theorem drawn_ops {R:Int} {os:List Op} (d:Drawn R os):OpsOk os:=fun o ho x hx=>by
 have:=(d.ok o ho).2.2.2 x hx
 simp only [z3l,y09,y1y,or_false] at this
 rcases this with rfl | rfl | rfl | rfl | rfl <;> decide +kernel
theorem z97 {R:Int} {os:List Op} (d:Drawn R os):Hg.Within R (os.map edge):=fun e he=>by
 obtain ⟨o,ho,rfl⟩:=y0m.mp he
 have:=d.ok o ho
 unfold OpOk at this
 unfold edge
 dsimp only
 omega
theorem ways_val {R:Int} {os:List Op} (d:Drawn R os) (room:Int):∃ ws,Hg.waysP (os.map edge) room 20 [0] = some ws /\ d_ways [houseT R os,.int room] = some (.tuple (ws.map wT)) /\ (ws ≠ [] <-> Hg.Reach (os.map edge) room):=by
 obtain ⟨ws,h1,h2⟩:=Hg.ways_tot (z97 d) d.r7 (by simpa using d.len) room 20 [0] (by simp) (by simp) (by have:=d.r1; simp; omega) (by simp)
 exact ⟨ws,h1,zdz h1 (y1i h2 (by simp)),Hg.ways_iff h1⟩
def bare (ns:List Str) (o:Op):Op:=(o.1,o.2.1,match o.2.2 with
 | none=>none
 | some x=>if x ∈ ns then none else some x)
end Ho
end
section
namespace Hg
def Fol (E:List (Int × Int)):Int -> List Nat -> List Int -> Prop
 | _,[],p=>p = []
 | cur,k :: w,p=>∃ e t q,E[k]? = some e /\ adj e cur = some t /\ p = t :: q /\ Fol E t w q
theorem z8z {rec:List Int -> Option (List (List Nat))} {pl:List Int} {h:Int}:∀ {E:List (Int × Int)} {k:Nat} {ws:List (List Nat)},exts rec pl h k E = some ws -> ∀ w,w ∈ ws <-> ∃ j e t us w',E[j]? = some e /\ adj e h = some t /\ t ∉ pl /\ rec (pl ++ [t]) = some us /\ w' ∈ us /\ w = (k + j) :: w'
 | [],k,ws,e,w=>by
  cases e
  simp
 | e :: es,k,ws,h1,w=>by
  have sh:∀ {vs:List (List Nat)},exts rec pl h (k + 1) es = some vs -> (w ∈ vs <-> ∃ j e' t us w',(e :: es)[j + 1]? = some e' /\ adj e' h = some t /\ t ∉ pl /\ rec (pl ++ [t]) = some us /\ w' ∈ us /\ w = (k + (j + 1)) :: w'):=fun hv=>by
   rw [z8z hv w]
   constructor
   ·rintro ⟨j,e',t,us,w',a1,a2,a3,a4,a5,a6⟩
    exact ⟨j,e',t,us,w',by simpa using a1,a2,a3,a4,a5,by rw [a6]; congr 1; omega⟩
   ·rintro ⟨j,e',t,us,w',a1,a2,a3,a4,a5,a6⟩
    exact ⟨j,e',t,us,w',by simpa using a1,a2,a3,a4,a5,by rw [a6]; congr 1; omega⟩
  unfold exts at h1
  split at h1
  next t ht =>
   split at h1
   next hm =>
    rw [sh h1]
    constructor
    ·rintro ⟨j,r⟩
     exact ⟨j + 1,r⟩
    ·rintro ⟨j,e',t',us,w',a1,a2,a3,r⟩
     cases j with
     | zero =>
      cases a1
      rw [ht] at a2
      cases a2
      exact absurd hm a3
     | succ j=>exact ⟨j,e',t',us,w',a1,a2,a3,r⟩
   next hm =>
    simp only [y01,y07] at h1
    obtain ⟨us,h2,vs,h3,rfl⟩:=h1
    rw [y0z,sh h3,y0m]
    constructor
    ·rintro (⟨w',q1,q2⟩ | ⟨j,r⟩)
     ·exact ⟨0,e,t,us,w',rfl,ht,hm,h2,q1,by rw [<- q2]; rfl⟩
     ·exact ⟨j + 1,r⟩
    ·rintro ⟨j,e',t',us',w',a1,a2,a3,a4,a5,a6⟩
     cases j with
     | zero =>
      cases a1
      rw [ht] at a2
      cases a2
      rw [h2] at a4
      cases a4
      exact .inl ⟨w',a5,a6.symm⟩
     | succ j=>exact .inr ⟨j,e',t',us',w',a1,a2,a3,a4,a5,a6⟩
  next hn =>
   rw [sh h1]
   constructor
   ·rintro ⟨j,r⟩
    exact ⟨j + 1,r⟩
   ·rintro ⟨j,e',t',us,w',a1,a2,a3,r⟩
    cases j with
    | zero =>
     cases a1
     rw [hn] at a2
     cases a2
    | succ j=>exact ⟨j,e',t',us,w',a1,a2,a3,r⟩
theorem zd2 {rec:List Int -> Option (List (List Nat))} {pl:List Int} {h:Int} {E:List (Int × Int)} {k:Nat} {ws:List (List Nat)} (e:exts rec pl h k E = some ws) {j:Nat} {e':Int × Int} {t:Int} (h1:E[j]? = some e') (h2:adj e' h = some t) (h3:t ∉ pl):∃ vs,rec (pl ++ [t]) = some vs:=by
 obtain ⟨vs,hv,_⟩:=z25 e t ⟨e',y1m h1,h2⟩ h3
 exact ⟨vs,hv⟩
theorem z5s {E:List (Int × Int)} {room:Int}:∀ {n:Nat} {pl:List Int} {cur:Int} {ws:List (List Nat)},pl.getLast? = some cur -> waysP E room n pl = some ws -> ∀ w,w ∈ ws <-> ∃ p,Fol E cur w p /\ p.Nodup /\ (∀ y ∈ p,y ∉ pl) /\ (cur :: p).getLast? = some room
 | 0,pl,cur,ws,_,h,_=>by cases h
 | n + 1,pl,cur,ws,hl,h,w=>by
  have hcur:cur ∈ pl:=List.mem_of_getLast? hl
  unfold waysP at h
  rw [hl] at h
  simp only at h
  split at h
  next e =>
   subst e
   cases h
   constructor
   ·intro hw
    have:w = []:=by simpa using hw
    subst this
    exact ⟨[],rfl,by simp,by simp,rfl⟩
   ·rintro ⟨p,h1,h2,h3,h4⟩
    cases w with
    | nil=>simp
    | cons k w =>
     obtain ⟨e',t,q,_,_,rfl,_⟩:=h1
     have hm:cur ∈ t :: q:=by
      rw [List.getLast?_cons_cons] at h4
      exact List.mem_of_getLast? h4
     exact absurd hcur (h3 cur hm)
  next hne =>
   rw [z8z h w]
   constructor
   ·rintro ⟨j,e',t,us,w',a1,a2,a3,a4,a5,a6⟩
    obtain ⟨p,p1,p2,p3,p4⟩:=(z5s (pl:=pl ++ [t]) (cur:=t) (by simp) a4 w').mp a5
    refine ⟨t :: p,?_,?_,?_,by rw [List.getLast?_cons_cons]; exact p4⟩
    ·rw [a6]
     exact ⟨e',t,p,by simpa using a1,a2,rfl,p1⟩
    ·exact y0r.mpr ⟨fun z=>p3 t z (by simp),p2⟩
    ·intro y hy
     rcases y09.mp hy with rfl | hy
     ·exact a3
     ·exact fun z=>p3 y hy (by simp [z])
   ·rintro ⟨p,h1,h2,h3,h4⟩
    cases w with
    | nil =>
     have:p = []:=h1
     subst this
     simp at h4
     exact absurd h4 hne
    | cons k w =>
     obtain ⟨e',t,q,b1,b2,rfl,b3⟩:=h1
     have ht:t ∉ pl:=h3 t (by simp)
     obtain ⟨us,hu⟩:=zd2 h b1 b2 ht
     have nd:=y0r.mp h2
     refine ⟨k,e',t,us,w,b1,b2,ht,hu,?_,by simp⟩
     refine (z5s (pl:=pl ++ [t]) (cur:=t) (by simp) hu w).mpr ⟨q,b3,nd.2,fun y hy z=>?_,by rw [List.getLast?_cons_cons] at h4; exact h4⟩
     rcases y0z.mp z with z | z
     ·exact h3 y (by simp [hy]) z
     ·have:y = t:=by simpa using z
      subst this
      exact nd.1 hy
theorem ways_char {E:List (Int × Int)} {room:Int} {n:Nat} {ws:List (List Nat)} (h:waysP E room n [0] = some ws) (w:List Nat):w ∈ ws <-> ∃ p,Fol E 0 w p /\ ((0:Int) :: p).Nodup /\ ((0:Int) :: p).getLast? = some room:=by
 rw [z5s (cur:=0) rfl h w]
 constructor
 ·rintro ⟨p,h1,h2,h3,h4⟩
  exact ⟨p,h1,y0r.mpr ⟨fun z=>h3 0 z (by simp),h2⟩,h4⟩
 ·rintro ⟨p,h1,h2,h4⟩
  have nd:=y0r.mp h2
  exact ⟨p,h1,nd.2,fun y hy z=>nd.1 (by have:y = 0:=(by simpa using z); exact this ▸ hy),h4⟩
end Hg
end
section
namespace Co
open D PySem
structure Cd where
 fig:Str
 who:Str
 rights:List Str
 uses:Int
structure Pl where
 zones:List (Str × Str)
 codes:List Cd
 leave:Int
 come:Int
 loud:Int
structure Cs where
 mode:Str
 left:Int
 came:Option Str
 lines:List (Str × Str)
 shunts:List Str
 siren:Int
 alarms:List Str
 tries:Int
 locked:Int
 used:List (Str × Int)
 past:Int
 told:List (Int × Str × Option Str)
def oS:Option Str -> T
 | none=>.none
 | some x=>.str x
def encZ (z:Str × Str):T:=.tuple [.str z.1,.str z.2]
def zib (c:Cd):T:=.tuple [.str c.fig,.str c.who,.tuple (c.rights.map .str),.int c.uses]
def encP (p:Pl):T:=.tuple [.tuple (p.zones.map encZ),.tuple (p.codes.map zib),.tuple [.int p.leave,.int p.come,.int p.loud]]
def encW (w:Int × Str × Option Str):T:=.tuple [.int w.1,.str w.2.1,oS w.2.2]
def dS (l:List (Str × Str)):List (D.Key × T):=l.map fun p=>(.inr p.1,.str p.2)
def dI (l:List (Str × Int)):List (D.Key × T):=l.map fun p=>(.inr p.1,.int p.2)
def encC (p:Pl) (c:Cs):List Sl:=[.imm (encP p),.imm (.str c.mode),.imm (.int c.left),.imm (oS c.came),.dic (dS c.lines),.own (c.shunts.map .str),.imm (.int c.siren),.own (c.alarms.map .str),.imm (.int c.tries),.imm (.int c.locked),.dic (dI c.used),.imm (.int c.past),.own (c.told.map encW)]
theorem z62:¬ (("off":Str) = "leaving"):=by decide +kernel
theorem zcv:¬ (("off":Str) = "on"):=by decide +kernel
theorem z76:¬ (("off":Str) = "coming"):=by decide +kernel
theorem z63:¬ (("leaving":Str) = "off"):=by decide +kernel
theorem z78:¬ (("leaving":Str) = "on"):=by decide +kernel
theorem z3s:¬ (("leaving":Str) = "coming"):=by decide +kernel
theorem zcu:¬ (("on":Str) = "off"):=by decide +kernel
theorem z75:¬ (("on":Str) = "leaving"):=by decide +kernel
theorem z8b:¬ (("on":Str) = "coming"):=by decide +kernel
theorem z7c:¬ (("coming":Str) = "off"):=by decide +kernel
theorem z3t:¬ (("coming":Str) = "leaving"):=by decide +kernel
theorem z8g:¬ (("coming":Str) = "on"):=by decide +kernel
theorem z86:¬ (("shut":Str) = "open"):=by decide +kernel
theorem z9i:¬ (("shut":Str) = "cut"):=by decide +kernel
theorem z8a:¬ (("open":Str) = "shut"):=by decide +kernel
theorem z9j:¬ (("open":Str) = "cut"):=by decide +kernel
theorem z9o:¬ (("cut":Str) = "shut"):=by decide +kernel
theorem z9p:¬ (("cut":Str) = "open"):=by decide +kernel
theorem z8f:¬ (("day":Str) = "inner"):=by decide +kernel
theorem z9n:¬ (("day":Str) = "once"):=by decide +kernel
theorem zb3:¬ (("day":Str) = "way"):=by decide +kernel
theorem z8e:¬ (("inner":Str) = "day"):=by decide +kernel
theorem z79:¬ (("inner":Str) = "once"):=by decide +kernel
theorem z8d:¬ (("inner":Str) = "way"):=by decide +kernel
theorem z9l:¬ (("once":Str) = "day"):=by decide +kernel
theorem z74:¬ (("once":Str) = "inner"):=by decide +kernel
theorem z9k:¬ (("once":Str) = "way"):=by decide +kernel
theorem zb2:¬ (("way":Str) = "day"):=by decide +kernel
theorem z84:¬ (("way":Str) = "inner"):=by decide +kernel
theorem z9h:¬ (("way":Str) = "once"):=by decide +kernel
theorem z88:¬ (("set":Str) = "unset"):=by decide +kernel
theorem z89:¬ (("set":Str) = "shunt"):=by decide +kernel
theorem z5h:¬ (("set":Str) = "free"):=by decide +kernel
theorem z85:¬ (("unset":Str) = "set"):=by decide +kernel
theorem z60:¬ (("unset":Str) = "shunt"):=by decide +kernel
theorem z3m:¬ (("unset":Str) = "free"):=by decide +kernel
theorem z87:¬ (("shunt":Str) = "set"):=by decide +kernel
theorem z61:¬ (("shunt":Str) = "unset"):=by decide +kernel
theorem z73:¬ (("shunt":Str) = "free"):=by decide +kernel
theorem z9m:¬ (("free":Str) = "set"):=by decide +kernel
theorem z7a:¬ (("free":Str) = "unset"):=by decide +kernel
theorem z7b:¬ (("free":Str) = "shunt"):=by decide +kernel
theorem z8c:¬ (("line":Str) = "code"):=by decide +kernel
theorem z77:¬ (("line":Str) = "ticks"):=by decide +kernel
theorem z8h:¬ (("code":Str) = "line"):=by decide +kernel
theorem z7d:¬ (("code":Str) = "ticks"):=by decide +kernel
theorem z71:¬ (("ticks":Str) = "line"):=by decide +kernel
theorem z72:¬ (("ticks":Str) = "code"):=by decide +kernel
def tell (w:Str) (n:Option Str) (c:Cs):Cs:={ c with told:=c.told ++ [(c.past,w,n)] }
def beLoud (p:Pl) (c:Cs):Cs:={ c with siren:=p.loud }
def alarm (p:Pl) (z:Str) (c:Cs):Cs:=if z ∈ c.alarms then beLoud p c else tell "alarm" (some z) { beLoud p c with alarms:=c.alarms ++ [z] }
section
variable (p:Pl) (c:Cs)
theorem zd3:(encC p c).length = 13:=rfl
theorem e0:(encC p c)[0]? = some (.imm (encP p)):=rfl
theorem e1:(encC p c)[1]? = some (.imm (.str c.mode)):=rfl
theorem e2:(encC p c)[2]? = some (.imm (.int c.left)):=rfl
theorem e3:(encC p c)[3]? = some (.imm (oS c.came)):=rfl
theorem e4:(encC p c)[4]? = some (.dic (dS c.lines)):=rfl
theorem e5:(encC p c)[5]? = some (.own (c.shunts.map .str)):=rfl
theorem e6:(encC p c)[6]? = some (.imm (.int c.siren)):=rfl
theorem e7:(encC p c)[7]? = some (.own (c.alarms.map .str)):=rfl
theorem e8:(encC p c)[8]? = some (.imm (.int c.tries)):=rfl
theorem e9:(encC p c)[9]? = some (.imm (.int c.locked)):=rfl
theorem e10:(encC p c)[10]? = some (.dic (dI c.used)):=rfl
theorem e11:(encC p c)[11]? = some (.imm (.int c.past)):=rfl
theorem e12:(encC p c)[12]? = some (.own (c.told.map encW)):=rfl
theorem s1 (x:Str):(encC p c).set 1 (.imm (.str x)) = encC p { c with mode:=x }:=rfl
theorem s2 (x:Int):(encC p c).set 2 (.imm (.int x)) = encC p { c with left:=x }:=rfl
theorem s3 (x:Str):(encC p c).set 3 (.imm (.str x)) = encC p { c with came:=some x }:=rfl
theorem s3n:(encC p c).set 3 (.imm .none) = encC p { c with came:=none }:=rfl
theorem s4 (l:List (Str × Str)):(encC p c).set 4 (.dic (dS l)) = encC p { c with lines:=l }:=rfl
theorem s5 (l:List Str):(encC p c).set 5 (.own (l.map .str)) = encC p { c with shunts:=l }:=rfl
theorem s5n:(encC p c).set 5 (.own []) = encC p { c with shunts:=[] }:=rfl
theorem s6 (x:Int):(encC p c).set 6 (.imm (.int x)) = encC p { c with siren:=x }:=rfl
theorem s7 (l:List Str):(encC p c).set 7 (.own (l.map .str)) = encC p { c with alarms:=l }:=rfl
theorem s7n:(encC p c).set 7 (.own []) = encC p { c with alarms:=[] }:=rfl
theorem s7a (l:List Str) (z:Str):(encC p c).set 7 (.own (l.map .str ++ [.str z])) = encC p { c with alarms:=l ++ [z] }:=by simp [encC]
theorem s8 (x:Int):(encC p c).set 8 (.imm (.int x)) = encC p { c with tries:=x }:=rfl
theorem s9 (x:Int):(encC p c).set 9 (.imm (.int x)) = encC p { c with locked:=x }:=rfl
theorem s10 (l:List (Str × Int)):(encC p c).set 10 (.dic (dI l)) = encC p { c with used:=l }:=rfl
theorem s11 (x:Int):(encC p c).set 11 (.imm (.int x)) = encC p { c with past:=x }:=rfl
theorem s12a (l:List (Int × Str × Option Str)) (i:Int) (w:Str) (n:Option Str):(encC p c).set 12 (.own (l.map encW ++ [.tuple [.int i,.str w,oS n]])) = encC p { c with told:=l ++ [(i,w,n)] }:=by simp [encC,encW]
end
end Co
open D Co
open PySem hiding run fresh code
local macro_rules
 | `(tactic| simp! [sp1,$xs,*] $[$l]?)=>`(tactic| simp [zd3,e0,e1,e2,e3,e4,e5,e6,e7,e8,e9,e10,e11,e12,s1,s2,s3,s3n,s4,s5,s5n,s6,s7,s7n,s7a,s8,s9,s10,s11,s12a,runM,runR,z49,z4j,exX,z0f,z4z,rtnM,z6s,rtnX,asgF,z4y,augF,appF,setF,objF,fld,fldV,fldD,fldL,fGet,z9e,za3,z83,never,asgX,ifE,z7w,runF,seq,iff,tstB,tstL,andT,orT,notT,cstT,ofT,op1,op2,opN,args,cst,nm,nmV,rtn,skip,asg,asgN,asgT,par,z01,z0n,oIsN,z10,oIx,atZ,ixOf,gNm,gTu,gAll,z06,comp,z0o,$xs,*] $[$l]?)
local macro_rules
 | `(tactic| simp! [sp2,$xs,*] $[$l]?)=>`(tactic| simp [runF,seq,iff,tstB,tstL,andT,orT,notT,cstT,ofT,op1,op2,opN,args,cst,nm,nmV,rtn,skip,asg,asgN,asgT,par,z01,z0n,oIsN,z10,oIx,atZ,ixOf,gNm,gTu,gAll,z06,comp,z0o,$xs,*] $[$l]?)
 | `(tactic| simp! [sp2] $[$l]?)=>`(tactic| simp [runF,seq,iff,tstB,tstL,andT,orT,notT,cstT,ofT,op1,op2,opN,args,cst,nm,nmV,rtn,skip,asg,asgN,asgT,par,z01,z0n,oIsN,z10,oIx,atZ,ixOf,gNm,gTu,gAll,z06,comp,z0o] $[$l]?)
local macro_rules
 | `(tactic| simp! [sp3,$xs,*] $[$l]?)=>`(tactic| simp [oAdd,oSub,oMul,oDiv,oMod,oNeg,oLen,oMin,oMax,z12,zcr,oInt,oLt,oLe,oGt,oGe,big,zd3,e0,e1,e2,e3,e4,e5,e6,e7,e8,e9,e10,e11,e12,s1,s2,s3,s3n,s4,s5,s5n,s6,s7,s7n,s7a,s8,s9,s10,s11,s12a,runM,runR,z49,z4j,exX,z0f,z4z,rtnM,z6s,rtnX,asgF,z4y,augF,appF,setF,objF,fld,fldV,fldD,fldL,fGet,z9e,za3,z83,never,asgX,ifE,z7w,runF,seq,iff,tstB,tstL,andT,orT,notT,cstT,ofT,op1,op2,opN,args,cst,nm,nmV,rtn,skip,asg,asgN,asgT,par,z01,z0n,oIsN,z10,oIx,atZ,ixOf,gNm,gTu,gAll,z06,comp,z0o,$xs,*] $[$l]?)
local macro_rules
 | `(tactic| simp! [sp4,$xs,*] $[$l]?)=>`(tactic| simp [runM,runR,z49,z4j,exX,z0f,z4z,rtnM,z6s,rtnX,asgF,z4y,augF,appF,setF,objF,fld,fldV,fldD,fldL,fGet,z9e,za3,z83,never,asgX,ifE,z7w,runF,seq,iff,tstB,tstL,andT,orT,notT,cstT,ofT,op1,op2,opN,args,cst,nm,nmV,rtn,skip,asg,asgN,asgT,par,z01,z0n,oIsN,z10,oIx,atZ,ixOf,gNm,gTu,gAll,z06,comp,z0o,$xs,*] $[$l]?)
local macro_rules
 | `(tactic| simp! [sp5,$xs,*] $[$l]?)=>`(tactic| simp [zd3,e0,e1,e2,e3,e4,e5,e6,e7,e8,e9,e10,e11,e12,s1,s2,s3,s3n,s4,s5,s5n,s6,s7,s7n,s7a,s8,s9,s10,s11,s12a,runM,runR,z49,z4j,exX,z0f,z4z,rtnM,z6s,rtnX,asgF,z4y,augF,appF,setF,objF,fld,fldV,fldD,fldL,fGet,z9e,za3,z83,never,asgX,ifE,z7w,z62,zcv,z76,z63,z78,z3s,zcu,z75,z8b,z7c,z3t,z8g,z86,z9i,z8a,z9j,z9o,z9p,z8f,z9n,zb3,z8e,z79,z8d,z9l,z74,z9k,zb2,z84,z9h,z88,z89,z5h,z85,z60,z3m,z87,z61,z73,z9m,z7a,z7b,z8c,z77,z8h,z7d,z71,z72,runF,seq,iff,tstB,tstL,andT,orT,notT,cstT,ofT,op1,op2,opN,args,cst,nm,nmV,rtn,skip,asg,asgN,asgT,par,z01,z0n,oIsN,z10,oIx,atZ,ixOf,gNm,gTu,gAll,z06,comp,z0o,$xs,*] $[$l]?)
local macro_rules
 | `(tactic| simp! [sp6,$xs,*] $[$l]?)=>`(tactic| simp [oAdd,oSub,oMul,oDiv,oMod,oNeg,oLen,oMin,oMax,z12,zcr,oInt,oLt,oLe,oGt,oGe,big,runF,seq,iff,tstB,tstL,andT,orT,notT,cstT,ofT,op1,op2,opN,args,cst,nm,nmV,rtn,skip,asg,asgN,asgT,par,z01,z0n,oIsN,z10,oIx,atZ,ixOf,gNm,gTu,gAll,z06,comp,z0o,$xs,*] $[$l]?)
local macro_rules
 | `(tactic| simp! [sp7,$xs,*] $[$l]?)=>`(tactic| simp [runM,runR,z49,z4j,exX,z0f,z4z,rtnM,z6s,rtnX,asgF,z4y,augF,appF,setF,objF,fld,fldV,fldD,fldL,fGet,z9e,za3,z83,never,asgX,ifE,z7w,$xs,*] $[$l]?)
local macro_rules
 | `(tactic| simp! [sp8,$xs,*] $[$l]?)=>`(tactic| simp [zd3,e0,e1,e2,e3,e4,e5,e6,e7,e8,e9,e10,e11,e12,s1,s2,s3,s3n,s4,s5,s5n,s6,s7,s7n,s7a,s8,s9,s10,s11,s12a,$xs,*] $[$l]?)
local macro_rules
 | `(tactic| simp! [sp9,$xs,*] $[$l]?)=>`(tactic| simp [runF,seq,iff,tstB,tstL,andT,orT,notT,cstT,ofT,op1,op2,opN,args,cst,nm,nmV,rtn,skip,asg,asgN,asgT,par,z01,z0n,oIsN,z10,gNm,gTu,gAll,z06,comp,z0o,$xs,*] $[$l]?)
 | `(tactic| simp! [sp9] $[$l]?)=>`(tactic| simp [runF,seq,iff,tstB,tstL,andT,orT,notT,cstT,ofT,op1,op2,opN,args,cst,nm,nmV,rtn,skip,asg,asgN,asgT,par,z01,z0n,oIsN,z10,gNm,gTu,gAll,z06,comp,z0o] $[$l]?)
namespace Co
open D PySem
def okS (x:Str):Prop:=(y1n x).canLay0 = true
theorem z5y {x y:Str} (h1:okS x) (h2:okS y):oEq (.str x) (.str y) = some (.bool (decide (x = y))):=by
 unfold oEq
 rw [zaw h1,zaw h2]
 by_cases e:x = y <;> simp [y1r,e]
structure Wf (p:Pl) (c:Cs):Prop where
 zn:∀ z ∈ p.zones,okS z.1 /\ okS z.2
 cn:∀ k ∈ p.codes,okS k.fig /\ okS k.who /\ ∀ r ∈ k.rights,okS r
 zl:p.zones.length <= 40
 mo:okS c.mode
 ca:∀ z,c.came = some z -> okS z /\ z ∈ p.zones.map (·.1)
 cm:c.mode = "coming" -> c.came ≠ none
 ln:c.lines.map (·.1) = p.zones.map (·.1)
 lo:∀ l ∈ c.lines,okS l.2
 us:c.used.map (·.1) = p.codes.map (·.fig)
 sh:c.shunts.Nodup /\ ∀ z ∈ c.shunts,z ∈ p.zones.map (·.1)
 al:c.alarms.Nodup /\ ∀ z ∈ c.alarms,z ∈ p.zones.map (·.1)
def kindOf (p:Pl) (z:Str):Str:=((p.zones.find? fun x=>decide (x.1 = z)).map (·.2)).getD ""
def zha (p:Pl) (f:Str):Option Cd:=p.codes.find? fun k=>decide (k.fig = f)
def zb6 (c:Cs) (z:Str):Str:=(c.lines.lookup z).getD ""
def setL (l:List (Str × Str)) (z w:Str):List (Str × Str):=l.map fun p=>if p.1 = z then (z,w) else p
def zfk (c:Cs) (f:Str):Int:=(c.used.lookup f).getD 0
def addU (l:List (Str × Int)) (f:Str):List (Str × Int):=l.map fun p=>if p.1 = f then (f,p.2 + 1) else p
theorem z5p {α:Type} {cc:Ft} {ee:Fe} {caps:Ev} (enc:α -> T) (q:α -> Bool) (f:α -> T):∀ (ts:List α) (s0:Option Sl),(∀ a ∈ ts,cc (some (.imm (enc a)) :: caps) = some (q a) /\ (q a = true -> ee (some (.imm (enc a)) :: caps) = some (f a))) -> z2r (gNm 0) cc ee (ts.map enc) (s0 :: caps) = some ((ts.filter q).map f)
 | [],_,_=>rfl
 | a :: ts,s0,h=>by
  obtain ⟨h1,h2⟩:=h a (by simp)
  have ih:=z5p enc q f ts (some (.imm (enc a))) fun b hb=>h b (y05 _ hb)
  simp only [y0d,z2r,gNm,y1d,y0p,h1]
  cases hq:q a with
  | false=>simp [ih,hq]
  | true=>simp [ih,hq,h2 hq]
def bare (p:Pl) (zgp:List Str) (c:Cs):List Str:=((p.zones.filter fun z=>decide (z.2 ∈ zgp)).map (·.1)).filter fun z=>decide (zb6 c z ≠ "shut") && !decide (z ∈ c.shunts)
theorem z0z (x:Str) (h:(y1n x).canLay0 = true:=by decide +kernel):okS x:=h
def zh9 (p:Pl) (z k:Str) (c:Cs):Cs:=if k ≠ "way" \/ p.come <= 0 then alarm p z c else tell "coming" (some z) { c with mode:="coming",left:=p.come,came:=some z }
def zf2 (p:Pl) (z w:Str) (c:Cs):Cs :=
 if kindOf p z = "day" then alarm p z c
 else if c.mode = "off" then (if w = "cut" then tell "fault" (some z) c else c)
 else if w = "cut" \/ kindOf p z = "once" then alarm p z c
 else if c.mode = "on" then zh9 p z (kindOf p z) c else c
def line (p:Pl) (z w:Str) (c:Cs):Cs :=
 if w = zb6 c z then c
 else if w = "shut" then (if zb6 c z = "cut" then tell "mended" (some z) { c with lines:=setL c.lines z w } else { c with lines:=setL c.lines z w })
 else if z ∈ c.shunts then { c with lines:=setL c.lines z w } else zf2 p z w { c with lines:=setL c.lines z w }
def less (a n:Int):Int:=if 0 > a - n then 0 else a - n
def z4s (n:Int) (c:Cs):Cs:={ c with past:=c.past + n,locked:=less c.locked n,siren:=less c.siren n,left:=less c.left n }
def alarms (p:Pl) (zs:List Str) (c:Cs):Cs:=zs.foldl (fun c z=>alarm p z c) c
def z5n (p:Pl) (c:Cs):Cs:=alarms p (bare p ["inner","way"] (tell "on" none { c with mode:="on",left:=0 })) (tell "on" none { c with mode:="on",left:=0 })
def zbl (p:Pl) (c:Cs):Cs:=alarm p (c.came.getD "") { c with mode:="on",came:=none }
def zf0 (p:Pl) (c:Cs):Cs:=if c.mode = "leaving" then z5n p c else zbl p c
def ticks (p:Pl) (n:Int) (c:Cs):Cs :=
 if n < 1 then c else if (c.mode = "leaving" \/ c.mode = "coming") /\ c.left <= n then z4s (n - c.left) (zf0 p (z4s c.left c)) else z4s n c
def zfj (k:Cd) (c:Cs):Bool:=decide (k.uses ≠ 0) && decide (k.uses <= zfk c k.fig)
def wrong1 (c:Cs):Cs:={ tell "wrong" none c with tries:=c.tries + 1 }
def z6n (p:Pl) (c:Cs):Cs:=if 3 <= c.tries + 1 then tell "attack" none (beLoud p { wrong1 c with tries:=0,locked:=90 }) else wrong1 c
def zcc (p:Pl) (d:Str) (z:Option Str) (c:Cs):Bool :=
 if d = "unset" then false else if c.mode ≠ "off" then true
 else if d = "shunt" then decide (kindOf p (z.getD "") = "day") || decide (z.getD "" ∈ c.shunts)
 else decide (d = "free") && !decide (z.getD "" ∈ c.shunts)
def z8q (p:Pl) (k:Cd) (d:Str) (z:Option Str) (c:Cs):Option (Str × Str) :=
 if (if d = "free" then ("shunt":Str) else d) ∉ k.rights then some ("denied",k.who)
 else if zcc p d z c then some ("no",k.who)
 else if d = "set" /\ bare p ["day","once"] c ≠ [] then some ("open",(bare p ["day","once"] c).headD "") else none
def zic (p:Pl) (who:Str) (c:Cs):Cs :=
 let c1:=tell "set" (some who) { c with alarms:=[],siren:=0,mode:="leaving",left:=p.leave }
 if p.leave <= 0 then z5n p c1 else c1
def zf1 (who:Str) (c:Cs):Cs:=tell "unset" (some who) { c with mode:="off",left:=0,siren:=0,came:=none,shunts:=[] }
def zh7 (p:Pl) (who d:Str) (z:Option Str) (c:Cs):Cs :=
 if d = "set" then zic p who c else if d = "unset" then zf1 who c
 else if d = "shunt" then tell "shunt" z { c with shunts:=ze1 (c.shunts ++ [z.getD ""]) }
 else tell "free" z { c with shunts:=c.shunts.erase (z.getD "") }
def z48 (p:Pl) (k:Cd) (d:Str) (z:Option Str) (c:Cs):Cs:=match z8q p k d z c with
 | none=>zh7 p k.who d z { c with used:=addU c.used k.fig }
 | some (w,n)=>tell w (some n) c
def code (p:Pl) (f d:Str) (z:Option Str) (c:Cs):Cs :=
 if 0 < c.locked then tell "locked" none c else match zha p f with
  | none=>z6n p c
  | some k=>if zfj k c then z6n p c else z48 p k d z { c with tries:=0 }
end Co
section
namespace Co
open D PySem
theorem zda:(2 <= big) = True:=by simp [big]
structure Wp (p:Pl):Prop where
 cd:(p.codes.map (·.fig)).Nodup
 zd:(p.zones.map (·.1)).Nodup
 cl:p.codes.length <= 40
 ti:0 <= p.leave /\ 0 <= p.come /\ 0 <= p.loud
inductive Et where
 | line (z w:Str)
 | code (f d:Str) (z:Option Str)
 | ticks (n:Int)
def encE:Et -> T
 | .line z w=>.tuple [.str "line",.str z,.str w]
 | .code f d z=>.tuple [.str "code",.str f,.str d,oS z]
 | .ticks n=>.tuple [.str "ticks",.int n]
def zh1 (p:Pl) (c:Cs):Et -> Cs
 | .line z w=>line p z w c
 | .code f d z=>code p f d z c
 | .ticks n=>ticks p n c
end Co
end
section
namespace Co
open D PySem
local instance:Tbl:=⟨[],fun _=>[],fun _=>none⟩
def run (p:Pl) (c:Cs) (es:List Et):Cs:=es.foldl (zh1 p) c
def fresh (c:Cs):Cs:={ c with past:=0,told:=[] }
end Co
end
section
namespace Co
open D PySem
local instance:Tbl:=⟨[],fun _=>[],fun _=>none⟩
theorem z8m (ns:List Int) (k:Nat):z09 [z03 ns,.int k] = some (.int (ns.getD k 0)):=by
 by_cases h:k < ns.length
 ·have h':(k:Int) < (ns.length:Int):=by omega
  simp! [sp6,z09,z0w,z03,h,h',List.getD]
 ·have h':¬ (k:Int) < (ns.length:Int):=by omega
  simp! [sp6,z09,z0w,z03,h,h',List.getD]
theorem z16 {i j:Int} (h:-(2 ^ 64) < j /\ j < 2 ^ 64):oMul (.int i) (.int j) = some (.int (i * j)):=by
 unfold oMul z9r
 simp only [decide_eq_true h.1,decide_eq_true h.2,Bool.and_self,Bool.or_true,if_true]
theorem z17 {i j:Int} (h:0 < j):oMod (.int i) (.int j) = some (.int (i % j)):=if_pos h
theorem z5o {i j:Int} (h:0 < j /\ j < 1073741824):oDiv (.int i) (.int j) = some (.int (i / j)):=if_pos h
theorem z1h {i j:Int}:oAdd (.int i) (.int j) = some (.int (i + j)):=rfl
theorem z0x {a b:Fs} {ε ε':Ev} (h:a ε = some (.nx ε')):seq a b ε = b ε':=by
 unfold seq
 rw [h]
 rfl
theorem z64 (ns:List Int) (k:Nat):∃ m:Int,0 <= m /\ z0e [z03 ns,.int k] = some (.int m):=by
 have hc:=z8m ns k
 have hd:0 <= (ns.getD k 0 + 7919 * (k:Int) + 1) * 48271 % 2147483647 /\ (ns.getD k 0 + 7919 * (k:Int) + 1) * 48271 % 2147483647 < 2147483647:=⟨Int.emod_nonneg _ (by decide),Int.emod_lt_of_pos _ (by decide)⟩
 generalize hx:(ns.getD k 0 + 7919 * (k:Int) + 1) * 48271 % 2147483647 = d at hd
 refine ⟨(d * d + 7 * d + k) % 2147483629,Int.emod_nonneg _ (by decide),?_⟩
 have e0:z0e [z03 ns,.int k] = (z1f [some (.imm (z03 ns)),some (.imm (.int k)),none]).bind fun o=>match o with | .rt t=>some t | .nx _=>some .none | _=>none:=rfl
 have m1:oMul (.int 7919) (.int k) = some (.int (7919 * k)):=by
  unfold oMul z9r
  simp
 have n0:nmV 0 [some (.imm (z03 ns)),some (.imm (.int k)),none] = some (z03 ns):=rfl
 have n1:nmV 1 [some (.imm (z03 ns)),some (.imm (.int k)),none] = some (.int k):=rfl
 have n1':nm 1 [some (.imm (z03 ns)),some (.imm (.int k)),none] = some (.int k):=rfl
 have s1:asg 2 (op2 oMod (op2 oMul (op2 oAdd (op2 oAdd (opN z09 [(nmV 0),(nmV 1)]) (op2 oMul (cst (.int 7919)) (nm 1))) (cst (.int 1))) (cst (.int 48271))) (cst (.int 2147483647))) [some (.imm (z03 ns)),some (.imm (.int k)),none] = some (.nx [some (.imm (z03 ns)),some (.imm (.int k)),some (.imm (.int d))]):=by
  simp only [asg,op2,opN,args,n0,n1,n1',y0p,y1j,hc,cst,m1,z1h,z16 (i:=ns.getD k 0 + 7919 * (k:Int) + 1) (j:=48271) (by decide),z17 (j:=2147483647) (by decide),hx]
  rfl
 have m2:oMul (.int d) (.int d) = some (.int (d * d)):=z16 (by omega)
 have m3:oMul (.int 7) (.int d) = some (.int (7 * d)):=z16 (by omega)
 rw [e0]
 unfold z1f
 rw [z0x s1]
 have q2:nm 2 [some (.imm (z03 ns)),some (.imm (.int k)),some (.imm (.int d))] = some (.int d):=rfl
 have q1:nm 1 [some (.imm (z03 ns)),some (.imm (.int k)),some (.imm (.int d))] = some (.int k):=rfl
 simp only [rtn,op2,q2,q1,y0p,y1j,cst,m2,m3,z1h,z17 (j:=2147483629) (by decide)]
theorem z91 (n k:Int) (hk:-(2 ^ 64) < k /\ k < 2 ^ 64):∃ m:Int,0 <= m /\ z0d [.int n,.int k] = some (.int m):=by
 have hd:0 <= (n + 104729 * k + 17) * 69621 % 2147483647 /\ (n + 104729 * k + 17) * 69621 % 2147483647 < 2147483647:=⟨Int.emod_nonneg _ (by decide),Int.emod_lt_of_pos _ (by decide)⟩
 generalize hx:(n + 104729 * k + 17) * 69621 % 2147483647 = d at hd
 refine ⟨(d * d + 3 * d + k) % 2147483629,Int.emod_nonneg _ (by decide),?_⟩
 have e0:z0d [.int n,.int k] = (z1g [some (.imm (.int n)),some (.imm (.int k)),none]).bind fun o=>match o with | .rt t=>some t | .nx _=>some .none | _=>none:=rfl
 have m1:oMul (.int 104729) (.int k) = some (.int (104729 * k)):=z16 hk
 have n0:nm 0 [some (.imm (.int n)),some (.imm (.int k)),none] = some (.int n):=rfl
 have n1:nm 1 [some (.imm (.int n)),some (.imm (.int k)),none] = some (.int k):=rfl
 have s1:asg 2 (op2 oMod (op2 oMul (op2 oAdd (op2 oAdd (nm 0) (op2 oMul (cst (.int 104729)) (nm 1))) (cst (.int 17))) (cst (.int 69621))) (cst (.int 2147483647))) [some (.imm (.int n)),some (.imm (.int k)),none] = some (.nx [some (.imm (.int n)),some (.imm (.int k)),some (.imm (.int d))]):=by
  simp only [asg,op2,n0,n1,y0p,y1j,cst,m1,z1h,z16 (i:=n + 104729 * k + 17) (j:=69621) (by decide),z17 (j:=2147483647) (by decide),hx]
  rfl
 have m2:oMul (.int d) (.int d) = some (.int (d * d)):=z16 (by omega)
 have m3:oMul (.int 3) (.int d) = some (.int (3 * d)):=z16 (by omega)
 rw [e0]
 unfold z1g
 rw [z0x s1]
 have q2:nm 2 [some (.imm (.int n)),some (.imm (.int k)),some (.imm (.int d))] = some (.int d):=rfl
 have q1:nm 1 [some (.imm (.int n)),some (.imm (.int k)),some (.imm (.int d))] = some (.int k):=rfl
 simp only [rtn,op2,q2,q1,y0p,y1j,cst,m2,m3,z1h,z17 (j:=2147483629) (by decide)]
theorem z4h (a b:Int):oEq (.int a) (.int b) = some (.bool (decide (a = b))):=by
 unfold oEq
 rw [z5x,z5x]
 by_cases e:a = b <;> simp [y1r,e]
theorem divQ (m:Int) (j:Int) (h:0 < j /\ j < 1073741824:=by decide):∃ q,q = m / j /\ oDiv (.int m) (.int j) = some (.int q):=⟨_,rfl,z5o h⟩
theorem modQ (m:Int) (j:Int) (h:0 < j:=by decide):∃ q,q = m % j /\ 0 <= q /\ q < j /\ oMod (.int m) (.int j) = some (.int q):=⟨_,rfl,Int.emod_nonneg _ (by omega),Int.emod_lt_of_pos _ h,z17 h⟩
theorem zey:(4 <= big) = True:=by simp [big]
theorem zcd:(3 <= big) = True:=by simp [big]
def zgp:List Str:=["day","inner","once","way","way"]
end Co
end
section
namespace Co
open D PySem
end Co
end
section
namespace Co
open D PySem
def shW (k:Int) (w:Int × Str × Option Str):Int × Str × Option Str:=(k + w.1,w.2)
def sh (k:Int) (pre:List (Int × Str × Option Str)) (c:Cs):Cs:={ c with past:=k + c.past,told:=pre ++ c.told.map (shW k) }
section
variable (k:Int) (pre:List (Int × Str × Option Str)) (p:Pl)
end
end Co
end
section
namespace Co
open D PySem
def okN (d:Nat) (t:T):Prop:=t.canLay0 = true /\ t.depth <= d
theorem okN.okT {d:Nat} {t:T} (h:okN d t) (hd:d <= 60:=by decide):okT t = true:=by
 unfold D.okT
 rw [h.1,decide_eq_true (y1i h.2 hd)]
 rfl
theorem z82 {d:Nat}:∀ {ts:List T},(∀ t ∈ ts,okN d t) -> y1b ts = true /\ y19 ts <= d
 | [],_=>by simp [y1b,y19]
 | t :: ts,h=>by
  obtain ⟨h1,h2⟩:=z82 fun x hx=>h x (y05 _ hx)
  obtain ⟨h3,h4⟩:=h t y0e
  constructor
  ·rw [y1b,h3,h1]
   rfl
  ·rw [y19]
   omega
theorem z30 {d:Nat} {ts:List T} (h:∀ t ∈ ts,okN d t):okN (d + 1) (.tuple ts):=by
 obtain ⟨h1,h2⟩:=z82 h
 constructor
 ·rw [PyData.canLay0]; exact h1
 ·rw [y1v]; omega
theorem z8v {d:Nat} {ts:List T} (h:∀ t ∈ ts,okN d t):okN (d + 1) (.list ts):=by
 obtain ⟨h1,h2⟩:=z82 h
 constructor
 ·rw [PyData.canLay0]; exact h1
 ·rw [y1v]; omega
theorem zax (d:Nat) (n:Int):okN d (.int n):=⟨rfl,by rw [y1v]; omega⟩
theorem z2l (d:Nat) {x:Str} (h:okS x):okN d (.str x):=⟨h,by rw [y1v]; omega⟩
theorem z45 {d:Nat} {t:T} (h:okN d t) (hd:d <= 60:=by decide):oNe t t = some (.bool false):=by
 unfold oNe
 rw [h.okT hd,PySem.SeqAt.eqv_refl t h.1]
 rfl
theorem zcs {d:Nat} {t:T} (h:okN d t) (hd:d <= 60:=by decide):oEq t t = some (.bool true):=by
 unfold oEq
 rw [h.okT hd,PySem.SeqAt.eqv_refl t h.1]
 rfl
end Co
end
section
namespace Co
open D PySem
theorem z1u {i:Nat} {f:Fe} {b:Fs} {ε:Ev} {t:T} {r:Option Out} (h:f ε = some t) (h2:b (ε.set i (some (.imm t))) = r):seq (asg i f) b ε = r:=by
 rw [z0x (ε':=ε.set i (some (.imm t))),h2]
 unfold asg
 rw [h]
 rfl
theorem z65 {c:Ft} {a b:Fs} {ε:Ev} {r:Option Out} (h:c ε = some false) (h2:b ε = r):seq (iff c a skip) b ε = r:=by
 rw [z0x (ε':=ε),h2]
 unfold iff
 rw [h]
 rfl
theorem z43 {a b:Fs} {ε ε':Ev} {r:Option Out} (h:a ε = some (.nx ε')) (h2:b ε' = r):seq a b ε = r:=by rw [z0x h,h2]
theorem denied {p:Pl} {c:Cs} {k:Cd} {d:Str} (hd:d = "set" \/ d = "unset") (hr:d ∉ k.rights):z48 p k d none c = tell "denied" (some k.who) c:=by
 have:z8q p k d none c = some (("denied":Str),k.who):=by
  rcases hd with rfl | rfl <;> simp [z8q,z5h,z3m,hr]
 unfold z48
 rw [this]
theorem zgy {c:Ft} {x y:Fs} {ε:Ev} {b:Bool} (h:c ε = some b):iff c x y ε = if b then x ε else y ε:=by
 unfold iff
 rw [h]
 rfl
end Co
end
section
namespace Co
open D PySem
end Co
end
section
namespace K33
open D Co
open PySem hiding run fresh code
local instance:Tbl:=⟨[],fun _=>[],fun _=>none⟩
theorem za8:d_ways = Ho.d_ways:=rfl
theorem z9w:d_l_house = Ho.d_l_house:=rfl
abbrev Op:=Ho.Op
def pas (z:Option Str) (pace:Int):List Et:=match z with
 | none=>[.ticks 1,.ticks pace]
 | some z=>[.line z "open",.ticks 1,.line z "shut",.ticks pace]
theorem z81 (z:Option Str) (pace:Int):(pas z pace).length <= 4:=by cases z <;> simp [pas]
def z0b (os:List Op) (k:Nat):Option Str:=(os[k]?).bind (·.2.2)
def wlk (os:List Op) (way:List Nat) (pace:Int):List Et:=(way.map fun k=>pas (z0b os k) pace).flatten
theorem zat (o:Op) (pace:Int):z19 [Ho.opT o,.int pace] = some (.tuple ((pas o.2.2 pace).map encE)):=by
 obtain ⟨a,b,z⟩:=o
 cases z with
 | none=>simp! [sp2,z19,z6f,Ho.opT,Ho.zT,pas,encE,zda]
 | some z=>simp! [sp2,z19,z6f,Ho.opT,Ho.zT,pas,encE,zda,zcd,zey]
theorem h_ix (R:Int) (os:List Op):oIx (Ho.houseT R os) (.int 1) = some (.tuple (os.map Ho.opT)):=by simp [oIx,atZ,ixOf,Ho.houseT]
theorem zi4 (R:Int) (os:List Op):oIx (Ho.houseT R os) (.int 0) = some (.int R):=by simp [oIx,atZ,ixOf,Ho.houseT]
theorem o_ix {os:List Op} {k:Nat} (hk:k < os.length):oIx (.tuple (os.map Ho.opT)) (.int (k:Nat)) = some (Ho.opT os[k]):=by
 show atZ _ _ = _
 unfold atZ ixOf
 rw [if_pos (by omega),if_pos (by simp; omega)]
 show ((os.map Ho.opT)[((k:Nat):Int).toNat]?) = _
 rw [Int.toNat_natCast,y13,y0v hk]
 rfl
theorem z6j {os:List Op} {k:Nat} (hk:k < os.length):z0b os k = os[k].2.2:=by
 unfold z0b
 rw [y0v hk]
 rfl
theorem z6k (R:Int) (os:List Op) (pace:Int) (s1:Option Sl):∀ (way:List Nat) (acc:List Et) (s4:Option Sl),(∀ k ∈ way,k < os.length) -> acc.length + 4 * way.length <= 1000 -> ∃ s4',forL (gNm 4) (extT 3 (opN z19 [(op2 oIx (op2 oIx (nm 0) (cst (.int 1))) (nm 4)),(nmV 2)])) (way.map fun (k:Nat)=>PyData.int (k:Int)) [some (.imm (Ho.houseT R os)),s1,some (.imm (.int pace)),some (.own (acc.map encE)),s4] =
   some (.nx [some (.imm (Ho.houseT R os)),s1,some (.imm (.int pace)),some (.own ((acc ++ wlk os way pace).map encE)),s4'])
 | [],acc,s4,_,_=>⟨s4,by simp [forL,wlk]⟩
 | k :: ks,acc,s4,hk,hl=>by
  have hk0:=hk k (by simp)
  have pl:=z81 (z0b os k) pace
  simp only [y0w] at hl
  obtain ⟨s4',ih⟩:=z6k R os pace s1 ks (acc ++ pas (z0b os k) pace) (some (.imm (.int k))) (fun y hy=>hk y (y05 _ hy)) (by simp only [y1s]; omega)
  refine ⟨s4',?_⟩
  have hb:(acc.map encE).length + ((pas (z0b os k) pace).map encE).length <= big:=by
   simp only [y12]
   unfold big
   omega
  have pe:=zat os[k] pace
  rw [<- z6j hk0] at pe
  have step:extT 3 (opN z19 [(op2 oIx (op2 oIx (nm 0) (cst (.int 1))) (nm 4)),(nmV 2)]) [some (.imm (Ho.houseT R os)),s1,some (.imm (.int pace)),some (.own (acc.map encE)),some (.imm (.int k))] = some (.nx [some (.imm (Ho.houseT R os)),s1,some (.imm (.int pace)),some (.own ((acc ++ pas (z0b os k) pace).map encE)),some (.imm (.int k))]):=by
   simp only [extT,opN,op2,args,nm,nmV,cst,List.getElem?_cons_succ,List.getElem?_cons_zero,y0p,y1j,h_ix,o_ix hk0,pe,if_pos hb,y1f,y1d,List.map_append]
  rw [y0d,forL]
  simp only [gNm,y1f,y1d,y0p,step]
  rw [ih]
  simp [wlk]
theorem z47 {R:Int} {os:List Op} {way:List Nat} {pace:Int} (hk:∀ k ∈ way,k < os.length) (hl:way.length <= 100):z0s [Ho.houseT R os,Ho.wT way,.int pace] = some (.tuple ((wlk os way pace).map encE)):=by
 obtain ⟨s4',xl⟩:=z6k R os pace (some (.imm (Ho.wT way))) way [] none hk (by simp; omega)
 have it:z06 (nmV 1) [some (.imm (Ho.houseT R os)),some (.imm (Ho.wT way)),some (.imm (.int pace)),some (.own []),none] = some (way.map fun (k:Nat)=>PyData.int (k:Int)):=rfl
 suffices hs:z6e [some (.imm (Ho.houseT R os)),some (.imm (Ho.wT way)),some (.imm (.int pace)),none,none] = some (.rt (.tuple ((wlk os way pace).map encE))) by
  unfold z0s runF
  simp only [y0d,y14,y0w,List.length_nil,List.cons_append,List.nil_append]
  exact congrArg (fun o=>Option.bind o _) hs
 unfold z6e
 refine z43 (ε':=[some (.imm (Ho.houseT R os)),some (.imm (Ho.wT way)),some (.imm (.int pace)),some (.own []),none]) ?_ ?_
 ·simp [asgN,z0n,args]
 refine z43 (ε':=[some (.imm (Ho.houseT R os)),some (.imm (Ho.wT way)),some (.imm (.int pace)),some (.own ((wlk os way pace).map encE)),s4']) ?_ ?_
 ·unfold for_
  rw [it]
  exact xl
 ·simp [rtn,opN,args,nm,z12]
section
variable (p:Pl) (os:List Op) (pace:Int)
end
def ZOk (p:Pl) (os:List Op):Prop:=∀ o ∈ os,∀ z,o.2.2 = some z -> z ∈ p.zones.map (·.1)
theorem zds {E:List (Int × Int)}:∀ {w:List Nat} {x:Int} {q:List Int},Hg.Fol E x w q -> ∀ k ∈ w,k < E.length
 | [],_,_,_,k,hk=>by cases hk
 | j :: w,x,q,h,k,hk=>by
  obtain ⟨e,t,r,h1,_,_,h4⟩:=h
  rcases y09.mp hk with rfl | hk
  ·exact (y0k.mp h1).1
  ·exact zds h4 k hk
section
variable {p:Pl} (wp:Wp p) {R:Int} {os:List Op} (hz:ZOk p os) {pace:Int} (hp:1 <= pace) {c:Cs} (hw:Wf p c) {way:List Nat} (hk:∀ k ∈ way,k < os.length)
include wp hz hp hw hk
end
end K33
end
section
namespace K32
open D Co K33
open PySem hiding run fresh code
local instance:Tbl:=⟨[],fun _=>[],fun _=>none⟩
def tks:Et -> Bool
 | .ticks _=>true
 | _=>false
def lin:Et -> Bool
 | .line _ _=>true
 | _=>false
def tval:Et -> Int
 | .ticks n=>n
 | _=>0
def zad:Et -> Str
 | .line _ w=>w
 | _=>""
theorem z42 (os:List Op) (k:Nat) (w:List Nat) (pace:Int):wlk os (k :: w) pace = pas (z0b os k) pace ++ wlk os w pace:=by simp [wlk]
theorem za6 (os:List Op) (pace:Int):∀ w:List Nat,(((wlk os w pace).filter tks).map tval).sum = (w.length:Int) * (1 + pace)
 | []=>by simp [wlk]
 | k :: w=>by
  have ih:=za6 os pace w
  have e:(((pas (z0b os k) pace).filter tks).map tval).sum = 1 + pace:=by
   cases z0b os k <;> simp [pas,tks,tval,List.filter]
  rw [z42,List.filter_append,List.map_append,List.sum_append,e,ih,y0w]
  have:((w.length + 1:Nat):Int) = (w.length:Int) + 1:=by omega
  rw [this,Int.add_mul]
  omega
def two2 (zs:List Str):List Et:=(zs.map fun z=>[Et.line z "open",Et.line z "shut"]).flatten
theorem z1l (z:Str) (zs:List Str):two2 (z :: zs) = Et.line z "open" :: Et.line z "shut" :: two2 zs:=by simp [two2]
theorem za7 (os:List Op) (pace:Int):∀ w:List Nat,(wlk os w pace).filter lin = two2 (w.filterMap (z0b os))
 | []=>by simp [wlk,two2]
 | k :: w=>by
  rw [z42,List.filter_append,za7 os pace w]
  cases h:z0b os k with
  | none=>simp [pas,lin,List.filter,h]
  | some z=>simp [pas,lin,List.filter,h,z1l]
theorem zbk:∀ zs:List Str,z0k ((two2 zs).map encE) = zs.map fun z=>encE (.line z "open")
 | []=>by simp [two2,z0k]
 | z :: zs=>by
  rw [z1l,y0d,y0d,z0k,zbk zs,y0d]
theorem zbj:∀ (zs:List Str) (y:T),z0k (y :: (two2 zs).map encE) = y :: zs.map fun z=>encE (.line z "shut")
 | [],y=>by simp [two2,z0k]
 | z :: zs,y=>by
  rw [z1l,y0d,y0d,z0k,zbj zs,y0d]
theorem zh6:∀ zs:List Str,z0k (((two2 zs).map encE).drop 1) = zs.map fun z=>encE (.line z "shut")
 | []=>by simp [two2,z0k]
 | z :: zs=>by
  rw [z1l,y0d,y0d,List.drop_succ_cons,List.drop_zero,zbj,y0d]
theorem zdb:∀ zs:List Str,((two2 zs).map fun e=>y1n (zad e)) = (y0g zs.length [y1n "open",y1n "shut"]).flatten
 | []=>by simp [two2]
 | z :: zs=>by
  rw [z1l,y0w,y1k,y1w,<- zdb zs]
  rfl
section
variable {R:Int} {os:List Op} {pace:Int}
theorem z7u (ho:Ho.OpsOk os) {k:Nat} {z:Str} (h:z0b os k = some z):okS z:=by
 unfold z0b at h
 obtain ⟨o,h1,h2⟩:=y01.mp h
 exact ho o (y1m h1) z h2
def evOk (pace:Int):Et -> Prop
 | .line z w=>okS z /\ okS w
 | .code _ _ _=>False
 | .ticks n=>n = 1 \/ n = pace
theorem zh5 (ho:Ho.OpsOk os) (w:List Nat):∀ e ∈ wlk os w pace,evOk pace e:=by
 intro e he
 unfold wlk at he
 obtain ⟨l,hl,h2⟩:=List.mem_flatten.mp he
 obtain ⟨k,_,rfl⟩:=y0m.mp hl
 cases hz:z0b os k with
 | none =>
  rw [hz] at h2
  simp only [pas,y09,y1y,or_false] at h2
  rcases h2 with rfl | rfl
  ·exact .inl rfl
  ·exact .inr rfl
 | some z =>
  rw [hz] at h2
  simp only [pas,y09,y1y,or_false] at h2
  rcases h2 with rfl | rfl | rfl | rfl
  ·exact ⟨z7u ho hz,z0z "open"⟩
  ·exact .inl rfl
  ·exact ⟨z7u ho hz,z0z "shut"⟩
  ·exact .inr rfl
theorem zgm (d:Nat) {e:Et} (h:evOk pace e):okN (d + 1) (encE e):=by
 cases e with
 | line z w =>
  exact z30 fun x hx=>by
   simp only [y09,y1y,or_false] at hx
   rcases hx with rfl | rfl | rfl
   ·exact z2l d (z0z "line")
   ·exact z2l d h.1
   ·exact z2l d h.2
 | code f d' z=>exact h.elim
 | ticks n =>
  exact z30 fun x hx=>by
   simp only [y09,y1y,or_false] at hx
   rcases hx with rfl | rfl
   ·exact z2l d (z0z "ticks")
   ·exact zax d n
theorem zdy (w:List Nat):(wlk os w pace).length <= 4 * w.length:=by
 induction w with
 | nil=>simp [wlk]
 | cons k l ih =>
  have:=z81 (z0b os k) pace
  rw [z42,y1s,y0w]
  omega
def bP:Fs:=(asg 6 (op2 oAdd (nm 6) (opN z0s [(nmV 1),(z01 [(nmV 7)]),(nmV 3)])))
theorem zdl (s0 s2 s4 s5 s8 s9:Option Sl):∀ (w:List Nat) (acc:List Et) (s7:Option Sl),(∀ k ∈ w,k < os.length) -> acc.length + 4 * w.length <= 1000 -> ∃ s7',forL (gNm 7) bP (w.map fun (k:Nat)=>PyData.int (k:Int)) [s0,some (.imm (Ho.houseT R os)),s2,some (.imm (.int pace)),s4,s5,some (.imm (.tuple (acc.map encE))),s7,s8,s9] =
   some (.nx [s0,some (.imm (Ho.houseT R os)),s2,some (.imm (.int pace)),s4,s5,some (.imm (.tuple ((acc ++ wlk os w pace).map encE))),s7',s8,s9])
 | [],acc,s7,_,_=>⟨s7,by simp [forL,wlk]⟩
 | k :: w,acc,s7,hk,hl=>by
  have hk0:=hk k (by simp)
  have pl:=z81 (z0b os k) pace
  simp only [y0w] at hl
  obtain ⟨s7',ih⟩:=zdl s0 s2 s4 s5 s8 s9 w (acc ++ pas (z0b os k) pace) (some (.imm (.int k))) (fun y hy=>hk y (y05 _ hy)) (by simp only [y1s]; omega)
  refine ⟨s7',?_⟩
  have xw:=z47 (R:=R) (os:=os) (way:=[k]) (pace:=pace) (by simpa using hk0) (by simp)
  have e1_:wlk os [k] pace = pas (z0b os k) pace:=by simp [wlk]
  rw [e1_] at xw
  have xw':z0s [Ho.houseT R os,.tuple [.int k],.int pace] = some (.tuple ((pas (z0b os k) pace).map encE)):=xw
  have ad:oAdd (.tuple (acc.map encE)) (.tuple ((pas (z0b os k) pace).map encE)) = some (.tuple ((acc ++ pas (z0b os k) pace).map encE)):=by
   have hb:(acc.map encE).length + ((pas (z0b os k) pace).map encE).length <= big:=by
    simp only [y12]
    unfold big
    omega
   rw [y12,y12] at hb
   simp [oAdd,List.map_append,hb]
  have tb1:(1:Nat) <= big:=by unfold big; omega
  have step:bP [s0,some (.imm (Ho.houseT R os)),s2,some (.imm (.int pace)),s4,s5,some (.imm (.tuple (acc.map encE))),some (.imm (.int k)),s8,s9] = some (.nx [s0,some (.imm (Ho.houseT R os)),s2,some (.imm (.int pace)),s4,s5,some (.imm (.tuple ((acc ++ pas (z0b os k) pace).map encE))),some (.imm (.int k)),s8,s9]):=by
   have mt:z01 [(nmV 7)] [s0,some (.imm (Ho.houseT R os)),s2,some (.imm (.int pace)),s4,s5,some (.imm (.tuple (acc.map encE))),some (.imm (.int k)),s8,s9] = some (.tuple [.int k]):=by
    simp! [sp9,z01,args,nmV,tb1]
   unfold bP
   simp only [asg,op2,opN,args,nm,nmV,List.getElem?_cons_succ,List.getElem?_cons_zero,y0p,y1j,mt,xw',ad,y1f,y1d]
  rw [y0d,forL]
  simp only [gNm,y1f,y1d,y0p,step]
  rw [ih,z42,List.append_assoc]
def bY:Fs:=(seq (asg 5 (opN z0s [(nmV 1),(nmV 4),(nmV 3)]))
  (seq (asg 6 (z01 []))
  (seq (for_ (z06 (nmV 4)) (gNm 7) bP)
  (seq (iff (orT (tstB (op2 oNe (nm 5) (nm 6))) (notT (tstB (op1 z70 (nm 5))))) (rtn (cst (.bool false))) skip)
  (seq (iff (tstB (op2 oNe (opN zb0 [(comp 1 [] (z06 (nmV 5)) (gNm 0) (tstB (op2 oEq (op2 oIx (nm 0) (cst (.int 0))) (cst (.str "ticks")))) (op2 oIx (nm 0) (cst (.int 1))))]) (op2 oMul (opN oLen [(nm 4)]) (op2 oAdd (cst (.int 1)) (nm 3))))) (rtn (cst (.bool false))) skip)
  (seq (asg 8 (comp 1 [1] (z06 (nmV 4)) (gNm 0) (tstB (op1 z10 (op2 oIx (op2 oIx (op2 oIx (nm 1) (cst (.int 1))) (nm 0)) (cst (.int 2))))) (op2 oIx (op2 oIx (op2 oIx (nm 1) (cst (.int 1))) (nm 0)) (cst (.int 2)))))
  (seq (asg 9 (comp 1 [] (z06 (nmV 5)) (gNm 0) (tstB (op2 oEq (op2 oIx (nm 0) (cst (.int 0))) (cst (.str "line")))) (nmV 0)))
  (seq (iff (orT (tstB (op2 oNe (comp 1 [] (z06 (z7x (nm 9) optN)) (gNm 0) (cstT true) (op2 oIx (nm 0) (cst (.int 1)))) (nm 8))) (tstB (op2 oNe (comp 1 [] (z06 (z7x (nm 9) (opt (cst (.int 1))))) (gNm 0) (cstT true) (op2 oIx (nm 0) (cst (.int 1)))) (nm 8)))) (rtn (cst (.bool false))) skip)
  (iff (tstB (op2 oNe (comp 1 [] (z06 (nmV 9)) (gNm 0) (cstT true) (op2 oIx (nm 0) (cst (.int 2)))) (op2 oRep (z0n [(cst (.str "open")),(cst (.str "shut"))]) (opN oLen [(nm 8)])))) (rtn (cst (.bool false))) skip)))))))))
theorem z5k:∀ ns:List Int,z4m (ns.map .int) = some ns
 | []=>rfl
 | n :: ns=>by simp [z4m,z5k ns]
theorem zf5 {es:List Et} (h:∀ e ∈ es,evOk pace e):z2r (gNm 0) (tstB (op2 oEq (op2 oIx (nm 0) (cst (.int 0))) (cst (.str "ticks")))) (op2 oIx (nm 0) (cst (.int 1))) (es.map encE) [none] = some (((es.filter tks).map tval).map .int):=by
 have:=z5p (cc:=tstB (op2 oEq (op2 oIx (nm 0) (cst (.int 0))) (cst (.str "ticks")))) (ee:=op2 oIx (nm 0) (cst (.int 1))) (caps:=[]) encE tks (fun e=>.int (tval e)) es none fun e he=>by
  have hok:=h e he
  cases e with
  | line z w =>
   have q:=z5y (z0z "line") (z0z "ticks")
   have ne:¬ (("line":Str) = ("ticks":Str)):=by decide
   exact ⟨by simp! [sp2,encE,q,tks,ne],fun z=>by simp [tks] at z⟩
  | code f d z=>exact hok.elim
  | ticks n =>
   have q:=z5y (z0z "ticks") (z0z "ticks")
   exact ⟨by simp! [sp2,encE,q,tks],fun _=>by simp! [sp2,encE,tval]⟩
 rw [this,List.map_map]
 rfl
theorem zf8 {es:List Et} (h:∀ e ∈ es,evOk pace e):z2r (gNm 0) (tstB (op2 oEq (op2 oIx (nm 0) (cst (.int 0))) (cst (.str "line")))) (nmV 0) (es.map encE) [none] = some ((es.filter lin).map encE) :=
 z5p (cc:=tstB (op2 oEq (op2 oIx (nm 0) (cst (.int 0))) (cst (.str "line")))) (ee:=nmV 0) (caps:=[]) encE lin encE es none fun e he=>by
  have hok:=h e he
  cases e with
  | line z w =>
   have q:=z5y (z0z "line") (z0z "line")
   exact ⟨by simp! [sp2,encE,q,lin],fun _=>by simp! [sp9]⟩
  | code f d z=>exact hok.elim
  | ticks n =>
   have q:=z5y (z0z "ticks") (z0z "line")
   have ne:¬ (("ticks":Str) = ("line":Str)):=by decide
   exact ⟨by simp! [sp2,encE,q,lin,ne],fun z=>by simp [lin] at z⟩
theorem zf7 (w:List Nat) (hk:∀ k ∈ w,k < os.length):z2r (gNm 0) (tstB (op1 z10 (op2 oIx (op2 oIx (op2 oIx (nm 1) (cst (.int 1))) (nm 0)) (cst (.int 2))))) (op2 oIx (op2 oIx (op2 oIx (nm 1) (cst (.int 1))) (nm 0)) (cst (.int 2))) (w.map fun (k:Nat)=>PyData.int (k:Int)) [none,some (.imm (Ho.houseT R os))] = some ((w.filterMap (z0b os)).map .str):=by
 have:=z5p (cc:=tstB (op1 z10 (op2 oIx (op2 oIx (op2 oIx (nm 1) (cst (.int 1))) (nm 0)) (cst (.int 2))))) (ee:=op2 oIx (op2 oIx (op2 oIx (nm 1) (cst (.int 1))) (nm 0)) (cst (.int 2))) (caps:=[some (.imm (Ho.houseT R os))]) (fun (k:Nat)=>PyData.int (k:Int)) (fun k=>(z0b os k).isSome) (fun k=>oS (z0b os k)) w none fun k hkm=>by
  have h1:=o_ix (hk k hkm)
  have h2:=z6j (hk k hkm)
  have ix:∀ o:Op,oIx (Ho.opT o) (.int 2) = some (oS o.2.2):=fun o=>by
   obtain ⟨a,b,c⟩:=o
   cases c <;> rfl
  have e:op2 oIx (op2 oIx (op2 oIx (nm 1) (cst (.int 1))) (nm 0)) (cst (.int 2)) [some (.imm (PyData.int (k:Int))),some (.imm (Ho.houseT R os))] = some (oS (z0b os k)):=by
   simp only [op2,nm,cst,List.getElem?_cons_succ,List.getElem?_cons_zero,y0p,h_ix,h1,ix,h2]
  refine ⟨?_,fun _=>e⟩
  unfold tstB op1
  rw [e]
  cases z0b os k <;> rfl
 rw [this]
 clear this
 congr 1
 induction w with
 | nil=>rfl
 | cons k w ih =>
  have ih:=ih fun y hy=>hk y (y05 _ hy)
  cases h:z0b os k with
  | none=>simp [List.filter,List.filterMap,h,ih]
  | some z =>
   simp only [List.filter,List.filterMap,h,Option.isSome_some,y0d,ih]
   rfl
theorem zdt (x:Str) (zs:List Str):z2r (gNm 0) (cstT true) (op2 oIx (nm 0) (cst (.int 1))) (zs.map fun z=>encE (.line z x)) [none] = some (zs.map .str):=by
 have:=z5p (cc:=cstT true) (ee:=op2 oIx (nm 0) (cst (.int 1))) (caps:=[]) (fun z=>encE (.line z x)) (fun _=>true) (fun z=>.str z) zs none fun z _=>⟨rfl,fun _=>by simp! [sp2,encE]⟩
 rw [this,List.filter_eq_self.mpr (by simp)]
theorem zf6 (zs:List Str):z2r (gNm 0) (cstT true) (op2 oIx (nm 0) (cst (.int 2))) ((two2 zs).map encE) [none] = some ((two2 zs).map fun e=>.str (zad e)):=by
 have:=z5p (cc:=cstT true) (ee:=op2 oIx (nm 0) (cst (.int 2))) (caps:=[]) encE (fun _=>true) (fun e=>.str (zad e)) (two2 zs) none fun e he=>⟨rfl,fun _=>by
  unfold two2 at he
  obtain ⟨l,hl,h2⟩:=List.mem_flatten.mp he
  obtain ⟨z,_,rfl⟩:=y0m.mp hl
  simp only [y09,y1y,or_false] at h2
  rcases h2 with rfl | rfl <;> simp! [sp2,encE,zad]⟩
 rw [this,List.filter_eq_self.mpr (by simp)]
theorem zgo {o:T -> T -> Option T} {a b:Fe} {ε:Ev} {x y z:T} (ha:a ε = some x) (hb:b ε = some y) (h:o x y = some z):op2 o a b ε = some z:=by
 unfold op2
 rw [ha,hb]
 exact h
theorem zfn {a:Fe} {ε:Ev} {v:Bool} (h:a ε = some (.bool v)):tstB a ε = some v:=by
 unfold tstB
 rw [h]
 rfl
theorem zco {zs:List Str} (h:∀ z ∈ zs,okS z):okN 1 (.list (zs.map .str)):=z8v fun x hx=>by
 obtain ⟨z,hz,rfl⟩:=y0m.mp hx
 exact z2l 0 (h z hz)
theorem zd9 (ho:Ho.OpsOk os) (hp:1 <= pace) (hp2:pace <= 40) (s0 s2:Option Sl):∀ (ws:List (List Nat)) (s4 s5 s6 s7 s8 s9:Option Sl),(∀ w ∈ ws,w.length <= 20 /\ ∀ k ∈ w,k < os.length) -> ∃ s4' s5' s6' s7' s8' s9',forL (gNm 4) bY (ws.map Ho.wT) [s0,some (.imm (Ho.houseT R os)),s2,some (.imm (.int pace)),s4,s5,s6,s7,s8,s9] =
   some (.nx [s0,some (.imm (Ho.houseT R os)),s2,some (.imm (.int pace)),s4',s5',s6',s7',s8',s9'])
 | [],s4,s5,s6,s7,s8,s9,_=>⟨s4,s5,s6,s7,s8,s9,rfl⟩
 | w :: ws,s4,s5,s6,s7,s8,s9,hws=>by
  obtain ⟨wl,wk⟩:=hws w (by simp)
  have xw:=z47 (R:=R) (pace:=pace) wk (by omega)
  have eo:=zh5 (pace:=pace) ho w
  have el:=zdy (os:=os) (pace:=pace) w
  obtain ⟨s7',xp⟩:=zdl (R:=R) (os:=os) (pace:=pace) s0 s2 (some (.imm (Ho.wT w))) (some (.imm (.tuple ((wlk os w pace).map encE)))) s8 s9 w [] s7 wk (by simp; omega)
  have c1:=zf5 eo
  have c2:=zf8 eo
  have c3:=zf7 (R:=R) w wk
  have t1:=za6 os pace w
  have l1:=za7 os pace w
  have zk:∀ z ∈ w.filterMap (z0b os),okS z:=fun z hz=>by
   obtain ⟨k,_,h2⟩:=List.mem_filterMap.mp hz
   exact z7u ho h2
  have zl:(w.filterMap (z0b os)).length <= 20:=y1i (List.length_filterMap_le _ _) wl
  have tb:∀ n ∈ ((wlk os w pace).filter tks).map tval,-1000000000000 <= n /\ n <= 1000000000000:=fun n hn=>by
   obtain ⟨e,he,rfl⟩:=y0m.mp hn
   have h1:=eo e (List.mem_filter.mp he).1
   cases e with
   | ticks n =>
    have h2:n = 1 \/ n = pace:=h1
    show -1000000000000 <= n /\ n <= 1000000000000
    omega
   | line _ _=>simp [tval]
   | code _ _ _=>exact h1.elim
  have tn:(((wlk os w pace).filter tks).map tval).length <= 1000:=by
   rw [y12]
   have:=List.length_filter_le tks (wlk os w pace)
   omega
  have sm:zb0 [.list ((((wlk os w pace).filter tks).map tval).map .int)] = some (.int ((w.length:Int) * (1 + pace))):=by
   show (z4m _).bind _ = _
   rw [z5k]
   simp only [y0p]
   rw [if_pos ⟨tn,tb⟩,t1]
  rw [l1] at c2
  generalize w.filterMap (z0b os) = zs at c2 c3 zk zl
  have okr:okN 2 (.tuple ((wlk os w pace).map encE)):=z30 fun x hx=>by
   obtain ⟨e,he,rfl⟩:=y0m.mp hx
   exact zgm 0 (eo e he)
  have q1:=z45 okr
  have q2:oNe (.int ((w.length:Int) * (1 + pace))) (.int ((w.length:Int) * (1 + pace))) = some (.bool false):=z45 (zax 0 _)
  have q3:=z45 (zco zk)
  have q4:oNe (.list ((two2 zs).map fun e=>.str (zad e))) (.list (y0g zs.length [y1n "open",y1n "shut"]).flatten) = some (.bool false):=by
   rw [zdb]
   refine z45 (d:=1) (z8v fun x hx=>?_)
   obtain ⟨l,hl,h2⟩:=List.mem_flatten.mp hx
   have:=List.eq_of_mem_replicate hl
   subst this
   simp only [y09,y1y,or_false] at h2
   rcases h2 with rfl | rfl
   ·exact z2l 0 (z0z "open")
   ·exact z2l 0 (z0z "shut")
  have ml:oMul (.int (w.length:Int)) (.int (1 + pace)) = some (.int ((w.length:Int) * (1 + pace))):=z16 (by constructor <;> omega)
  have b5:((wlk os w pace).map encE).length <= big:=by rw [y12]; unfold big; omega
  have b4:(w.map fun (k:Nat)=>PyData.int (k:Int)).length <= big:=by rw [y12]; unfold big; omega
  have l2:(two2 zs).length = 2 * zs.length:=by
   clear q4 c2 c3 zk zl q3
   induction zs with
   | nil=>rfl
   | cons z zs ih=>rw [z1l]; simp only [y0w,ih]; omega
  have b9:((two2 zs).map encE).length <= big:=by rw [y12,l2]; unfold big; omega
  have be:(zs.map fun z=>encE (.line z "open")).length <= big:=by rw [y12]; unfold big; omega
  have bo:(zs.map fun z=>encE (.line z "shut")).length <= big:=by rw [y12]; unfold big; omega
  have rp:oRep (.list [y1n "open",y1n "shut"]) (.int (zs.length:Nat)) = some (.list (y0g zs.length [y1n "open",y1n "shut"]).flatten):=by
   have h1:(0:Int) <= (zs.length:Int) /\ (zs.length:Int) < 1000 /\ [y1n "open",y1n "shut"].length * ((zs.length:Nat):Int).toNat <= big:=by
    refine ⟨by omega,by omega,?_⟩
    simp only [y0w,List.length_nil,Int.toNat_natCast]
    unfold big
    omega
   simp only [oRep]
   rw [if_pos h1,Int.toNat_natCast]
  obtain ⟨a,b,c,d,e,f,ih⟩:=zd9 ho hp hp2 s0 s2 ws (some (.imm (Ho.wT w))) (some (.imm (.tuple ((wlk os w pace).map encE)))) (some (.imm (.tuple ((wlk os w pace).map encE)))) s7' (some (.imm (.list (zs.map .str)))) (some (.imm (.list ((two2 zs).map encE)))) fun y hy=>hws y (y05 _ hy)
  refine ⟨a,b,c,d,e,f,?_⟩
  have lnw:oLen [Ho.wT w] = some (.int w.length):=by simp [oLen,Ho.wT]
  have lnz:oLen [.list (zs.map y1n)] = some (.int zs.length):=by simp [oLen]
  have step:bY [s0,some (.imm (Ho.houseT R os)),s2,some (.imm (.int pace)),some (.imm (Ho.wT w)),s5,s6,s7,s8,s9] = some (.nx [s0,some (.imm (Ho.houseT R os)),s2,some (.imm (.int pace)),some (.imm (Ho.wT w)),some (.imm (.tuple ((wlk os w pace).map encE))),some (.imm (.tuple ((wlk os w pace).map encE))),s7',some (.imm (.list (zs.map .str))),some (.imm (.list ((two2 zs).map encE)))]):=by
   unfold bY
   refine z1u (t:=.tuple ((wlk os w pace).map encE)) (by
    simp only [opN,args,nmV,List.getElem?_cons_succ,List.getElem?_cons_zero,y0p,y1j,xw]) ?_
   simp only [y1f,y1d]
   refine z1u (t:=.tuple []) (by simp [z01,args]) ?_
   simp only [y1f,y1d]
   refine z43 (ε':=[s0,some (.imm (Ho.houseT R os)),s2,some (.imm (.int pace)),some (.imm (Ho.wT w)),some (.imm (.tuple ((wlk os w pace).map encE))),some (.imm (.tuple ((wlk os w pace).map encE))),s7',s8,s9]) ?_ ?_
   ·have it:z06 (nmV 4) [s0,some (.imm (Ho.houseT R os)),s2,some (.imm (.int pace)),some (.imm (Ho.wT w)),some (.imm (.tuple ((wlk os w pace).map encE))),some (.imm (.tuple [])),s7,s8,s9] = some (w.map fun (k:Nat)=>PyData.int (k:Int)):=rfl
    unfold for_
    rw [it]
    exact xp
   refine z65 ?_ ?_
   ·simp only [orT,notT,tstB,op2,op1,nm,List.getElem?_cons_succ,List.getElem?_cons_zero,y0p,q1,z70]
    rfl
   refine z65 ?_ ?_
   ·refine zfn (zgo (z:=.bool false) (x:=.int ((w.length:Int) * (1 + pace))) (y:=.int ((w.length:Int) * (1 + pace))) ?_ ?_ q2)
    ·simp only [opN,args,comp,z06,nmV,List.getElem?_cons_succ,List.getElem?_cons_zero,y0p,if_pos b5,z0o,y0g,y14,y1p]
     rw [c1]
     exact sm
    ·refine zgo (x:=.int (w.length:Int)) (y:=.int (1 + pace)) ?_ rfl ml
     simp only [opN,args,nm,List.getElem?_cons_succ,List.getElem?_cons_zero,y0p,y1j,lnw]
   refine z1u (t:=.list (zs.map .str)) (by
    have it:z06 (nmV 4) [s0,some (.imm (Ho.houseT R os)),s2,some (.imm (.int pace)),some (.imm (Ho.wT w)),some (.imm (.tuple ((wlk os w pace).map encE))),some (.imm (.tuple ((wlk os w pace).map encE))),s7',s8,s9] = some (w.map fun (k:Nat)=>PyData.int (k:Int)):=rfl
    simp only [comp,it,y0p,if_pos b4,z0o,y0g,y0d,y14,List.cons_append,List.nil_append,List.getElem?_cons_succ,List.getElem?_cons_zero,Option.join_some]
    rw [c3]
    rfl) ?_
   simp only [y1f,y1d]
   refine z1u (t:=.list ((two2 zs).map encE)) (by
    simp only [comp,z06,nmV,List.getElem?_cons_succ,List.getElem?_cons_zero,y0p,if_pos b5,z0o,y0g,y14,y1p]
    rw [c2]
    rfl) ?_
   simp only [y1f,y1d]
   refine z65 ?_ ?_
   ·simp only [orT,tstB,op2,comp,z06,z7x,optN,opt,nm,cst,List.getElem?_cons_succ,List.getElem?_cons_zero,y0p,oEv2,true_or,or_true,if_true,lo2,List.drop_zero,zbk,zh6,if_pos be,if_pos bo,z0o,y0g,y14,y1p]
    rw [zdt,zdt]
    simp only [y0p,y1j,q3]
    rfl
   ·have bm:[y1n "open",y1n "shut"].length <= big:=by unfold big; simp
    refine (zgy (b:=false) ?_).trans rfl
    simp only [tstB,op2,opN,args,comp,z06,z0n,nm,nmV,cst,List.getElem?_cons_succ,List.getElem?_cons_zero,y0p,if_pos b9,z0o,y0g,y14,y1p]
    rw [zf6]
    simp only [y0p,y1j,lnz,if_pos bm,rp,q4]
  rw [y0d,forL]
  simp only [gNm,y1f,y1d,y0p,step]
  exact ih
end
theorem zcx (ns:List Int) (h:ns.length <= 63):z8k [z03 ns] = some (.bool true):=by
 obtain ⟨m0,hm0,x0⟩:=z64 ns 0
 obtain ⟨m1,hm1,x1⟩:=z64 ns 1
 obtain ⟨R,os,d,xh⟩:=Ho.house_eq m0 hm0
 rw [<- z9w] at xh
 obtain ⟨q1,_,y1⟩:=divQ m1 8
 obtain ⟨r1,_,r10,r11,y2⟩:=modQ q1 40
 obtain ⟨r2,_,r20,r21,y4⟩:=modQ m1 R (by have:=d.r1; omega)
 obtain ⟨wys,w1,w2,_⟩:=Ho.ways_val d (1 + r2)
 rw [<- za8] at w2
 have wls:=Ho.ways_lens _ _ _ w1
 have wch:=Hg.ways_char w1
 obtain ⟨s4,s5,s6,s7,s8,s9,xy⟩:=zd9 (R:=R) (pace:=1 + r1) (Ho.drawn_ops d) (by omega) (by omega) (some (.imm (z03 ns))) (some (.imm (.int m1))) (wys.take 12) none none none none none none (fun w hw=>by
  have hw':=List.mem_of_mem_take hw
  refine ⟨wls w hw',fun k hk=>?_⟩
  obtain ⟨q,hf,_⟩:=(wch w).mp hw'
  simpa using zds hf k hk)
 have sl:oSl (.tuple (wys.map Ho.wT)) none (some 12) = some (.tuple ((wys.take 12).map Ho.wT)):=by
  show some (PyData.tuple (cutZ _ none (some 12))) = _
  unfold cutZ sIx
  simp only [List.drop_zero,Nat.sub_zero,y12]
  rw [List.map_take]
  congr 2
  rw [if_neg (by decide)]
  by_cases h8:12 <= wys.length
  ·have:(min (12:Int) (wys.length:Int)).toNat = 12:=by omega
   rw [this]
  ·have:(min (12:Int) (wys.length:Int)).toNat = wys.length:=by omega
   rw [this,List.take_of_length_le (by simp),List.take_of_length_le (by simp; omega)]
 have x0':z0e [z03 ns,.int 0] = some (.int m0):=x0
 have x1':z0e [z03 ns,.int 1] = some (.int m1):=x1
 suffices hs:zc1 [some (.imm (z03 ns)),none,none,none,none,none,none,none,none,none] = some (.rt (.bool true)) by
  unfold z8k runF
  simp only [y0d,y14,y0w,List.length_nil,List.cons_append,List.nil_append]
  exact congrArg (fun o=>Option.bind o _) hs
 unfold zc1
 refine z1u (t:=Ho.houseT R os) (by simp only [opN,args,nmV,cst,List.getElem?_cons_succ,List.getElem?_cons_zero,y0p,y1j,x0',xh]) ?_
 simp only [y1f,y1d]
 refine z1u (t:=.int m1) (by simp only [opN,args,nmV,cst,List.getElem?_cons_zero,y0p,y1j,x1']) ?_
 simp only [y1f,y1d]
 refine z1u (t:=.int (1 + r1)) (by simp only [op2,nm,cst,List.getElem?_cons_succ,List.getElem?_cons_zero,y0p,y1,y2,z1h]) ?_
 simp only [y1f,y1d]
 refine z43 (ε':=[some (.imm (z03 ns)),some (.imm (Ho.houseT R os)),some (.imm (.int m1)),some (.imm (.int (1 + r1))),s4,s5,s6,s7,s8,s9]) ?_ ?_
 ·have it:z06 (slice (opN d_ways [(nmV 1),(op2 oAdd (cst (.int 1)) (op2 oMod (nm 2) (op2 oIx (nm 1) (cst (.int 0)))))]) optN (opt (cst (.int 12)))) [some (.imm (z03 ns)),some (.imm (Ho.houseT R os)),some (.imm (.int m1)),some (.imm (.int (1 + r1))),none,none,none,none,none,none] = some ((wys.take 12).map Ho.wT):=by
   simp only [z06,slice,opN,op2,args,nm,nmV,cst,opt,optN,List.getElem?_cons_succ,List.getElem?_cons_zero,y0p,y1j,zi4,y4,z1h,w2,sl]
  show for_ _ (gNm 4) bY _ = _
  unfold for_
  rw [it]
  exact xy
 ·have xe:=z47 (R:=R) (os:=os) (way:=[]) (pace:=1 + r1) (by simp) (by simp)
  have xe':z0s [Ho.houseT R os,.tuple [],.int (1 + r1)] = some (.tuple []):=xe
  have qe:oEq (.tuple []) (.tuple []) = some (.bool true):=zcs (d:=1) (z30 fun x hx=>by cases hx)
  simp only [rtn,op2,opN,args,z01,nmV,List.getElem?_cons_succ,List.getElem?_cons_zero,y0p,y1j,List.length_nil,y1u,if_true,xe',qe]
end K32
end
end
section
namespace K32
open PySem PySem.Spec PyProof.Rows L2 D Co K33
theorem all_mk {l:PySem.W.OpenLaw} {w:World} {K:y00} {h:Heap} {mg:Str -> Option Value} {fa f1 f2 f3 f4 f5 f6 f7 f8 f9 f10:Addr} {od1 an1 od2 an2 od3 an3 od4 an4 od5 an5 od6 an6 od7 an7 od8 an8 od9 an9 od10 an10:Option Addr} {sl1 sl2 sl3 sl4 sl5 sl6 sl7 sl8 sl9 sl10:Array (Option Value)} {oc1 kV1 dc1 pm1 cd1 ct1 oc2 kV2 dc2 pm2 cd2 ct2 oc3 kV3 dc3 pm3 cd3 ct3 oc4 kV4 dc4 pm4 cd4 ct4 oc5 kV5 dc5 pm5 cd5 ct5 oc6 kV6 dc6 pm6 cd6 ct6 oc7 kV7 dc7 pm7 cd7 ct7 oc8 kV8 dc8 pm8 cd8 ct8 oc9 kV9 dc9 pm9 cd9 ct9 oc10 kV10 dc10 pm10 cd10 ct10:Value} {t_OUTSIDE t_TICKS_TO_PASS:Tok} (X:K.In h) (G:h.Ns y0n mg) (hfa:mg "law" = some (.ref fa))
  (a1:y0s K y0n "beyond" = some (some (.ref f1)))
  (l1:K.lookup f1 = some ⟨oc1,od1,.func (y0i "beyond" "beyond" (z0u z1t) (z0j z1t) (z02 z1t) .none kV1 dc1 pm1 an1 cd1 ct1),sl1⟩)
  (c1:y0f K cd1 "beyond" = true)
  (k1:y08 K (.ref f1) = true)
  (a2:y0s K y0n "ways_on" = some (some (.ref f2)))
  (l2:K.lookup f2 = some ⟨oc2,od2,.func (y0i "ways_on" "ways_on" (z0u z0y) (z0j z0y) (z02 z0y) .none kV2 dc2 pm2 an2 cd2 ct2),sl2⟩)
  (c2:y0f K cd2 "ways_on" = true)
  (k2:y08 K (.ref f2) = true)
  (a3:y0s K y0n "ways" = some (some (.ref f3)))
  (l3:K.lookup f3 = some ⟨oc3,od3,.func (y0i "ways" "ways" (z0u z4c) (z0j z4c) (z02 z4c) .none kV3 dc3 pm3 an3 cd3 ct3),sl3⟩)
  (c3:y0f K cd3 "ways" = true)
  (k3:y08 K (.ref f3) = true)
  (a4:y0s K y0n "passed" = some (some (.ref f4)))
  (l4:K.lookup f4 = some ⟨oc4,od4,.func (y0i "passed" "passed" (z0u z1s) (z0j z1s) (z02 z1s) .none kV4 dc4 pm4 an4 cd4 ct4),sl4⟩)
  (c4:y0f K cd4 "passed" = true)
  (k4:y08 K (.ref f4) = true)
  (a5:y0s K y0n "walked" = some (some (.ref f5)))
  (l5:K.lookup f5 = some ⟨oc5,od5,.func (y0i "walked" "walked" (z0u z1r) (z0j z1r) (z02 z1r) .none kV5 dc5 pm5 an5 cd5 ct5),sl5⟩)
  (c5:y0f K cd5 "walked" = true)
  (k5:y08 K (.ref f5) = true)
  (a6:y0s K y0n "_law_cell_at" = some (some (.ref f6)))
  (l6:K.lookup f6 = some ⟨oc6,od6,.func (y0i "_law_cell_at" "_law_cell_at" (z0u z0t) (z0j z0t) (z02 z0t) .none kV6 dc6 pm6 an6 cd6 ct6),sl6⟩)
  (c6:y0f K cd6 "_law_cell_at" = true)
  (k6:y08 K (.ref f6) = true)
  (a7:y0s K y0n "_law_mixed" = some (some (.ref f7)))
  (l7:K.lookup f7 = some ⟨oc7,od7,.func (y0i "_law_mixed" "_law_mixed" (z0u z1a) (z0j z1a) (z02 z1a) .none kV7 dc7 pm7 an7 cd7 ct7),sl7⟩)
  (c7:y0f K cd7 "_law_mixed" = true)
  (k7:y08 K (.ref f7) = true)
  (a8:y0s K y0n "_law_drawn" = some (some (.ref f8)))
  (l8:K.lookup f8 = some ⟨oc8,od8,.func (y0i "_law_drawn" "_law_drawn" (z0u z1c) (z0j z1c) (z02 z1c) .none kV8 dc8 pm8 an8 cd8 ct8),sl8⟩)
  (c8:y0f K cd8 "_law_drawn" = true)
  (k8:y08 K (.ref f8) = true)
  (a9:y0s K y0n "_law_house" = some (some (.ref f9)))
  (l9:K.lookup f9 = some ⟨oc9,od9,.func (y0i "_law_house" "_law_house" (z0u z1b) (z0j z1b) (z02 z1b) .none kV9 dc9 pm9 an9 cd9 ct9),sl9⟩)
  (c9:y0f K cd9 "_law_house" = true)
  (k9:y08 K (.ref f9) = true)
  (a10:y0s K y0n "law" = some (some (.ref f10)))
  (l10:K.lookup f10 = some ⟨oc10,od10,.func (y0i "law" "law" (z0u z2k) (z0j z2k) (z02 z2k) .none kV10 dc10 pm10 an10 cd10 ct10),sl10⟩)
  (c10:y0f K cd10 "law" = true)
  (k10:y08 K (.ref f10) = true)
  (z_enumerate:y0s K y0n "enumerate" = some none)
  (z_tuple:y0s K y0n "tuple" = some none)
  (z_len:y0s K y0n "len" = some none)
  (z_range:y0s K y0n "range" = some none)
  (z_min:y0s K y0n "min" = some none)
  (z_max:y0s K y0n "max" = some none)
  (z_sum:y0s K y0n "sum" = some none)
  (z_isinstance:y0s K y0n "isinstance" = some none)
  (g_OUTSIDE:y0s K y0n "OUTSIDE" = some (some (.int 0 t_OUTSIDE)))
  (g_TICKS_TO_PASS:y0s K y0n "TICKS_TO_PASS" = some (some (.int 1 t_TICKS_TO_PASS))) :
  ∃ fd:y0b,(∀ (s:y04) (v:Value),BindsTo s fd ⟨[v],[]⟩ [("_law_script",v)]) /\ ∀ base:Heap,K.In base -> base.Ns y0n mg -> FnOk l.prog w K mg base CX0 23 fa fd ["_law_script"] (@spT t0 K 1 z8k):=by
 have e:=hfa.symm.trans (y10 X G a10)
 cases e
 refine ⟨y0i "law" "law" (z0u z2k) (z0j z2k) (z02 z2k) .none kV10 dc10 pm10 an10 cd10 ct10,fun s v=>.of_eq rfl,fun base _ _=>?_⟩
 letI tt:Tbl:=⟨[],fun c=>match c with  | _=>[],fun c=>match c with  | _=>none⟩
 replace z_enumerate:=y17 X G z_enumerate
 replace z_tuple:=y17 X G z_tuple
 replace z_len:=y17 X G z_len
 replace z_range:=y17 X G z_range
 replace z_min:=y17 X G z_min
 replace z_max:=y17 X G z_max
 replace z_sum:=y17 X G z_sum
 replace z_isinstance:=y17 X G z_isinstance
 replace g_OUTSIDE:=y10 X G g_OUTSIDE
 replace g_TICKS_TO_PASS:=y10 X G g_TICKS_TO_PASS
 have F1:=z2j (st:=z1t) l1 c1 k1
 have C_beyond:=z29 (P:=l.prog) (w:=w) (base:=base) (k:=0) F1 (y10 X G a1)
 have F2:=z2j (st:=z0y) l2 c2 k2
 have C_ways_on:=z1o (P:=l.prog) (w:=w) (base:=base) (k:=1) F2 (y10 X G a2) z_enumerate (C_beyond.mono (by decide)) 20
 have F3:=z2j (st:=z4c) l3 c3 k3
 have C_ways:=zbw (P:=l.prog) (w:=w) (base:=base) (k:=21) F3 (y10 X G a3) z_tuple (C_ways_on.mono (by decide)) g_OUTSIDE
 have F4:=z2j (st:=z1s) l4 c4 k4
 have C_passed:=z6d (P:=l.prog) (w:=w) (base:=base) (k:=0) F4 (y10 X G a4) g_TICKS_TO_PASS
 have F5:=z2j (st:=z1r) l5 c5 k5
 have C_walked:=z35 (P:=l.prog) (w:=w) (base:=base) (k:=1) F5 (y10 X G a5) z_tuple (C_passed.mono (by decide))
 have F6:=z2j (st:=z0t) l6 c6 k6
 have C_l_cell_at:=z2s (P:=l.prog) (w:=w) (base:=base) (k:=0) F6 (y10 X G a6) z_len
 have F7:=z2j (st:=z1a) l7 c7 k7
 have C_l_mixed:=z36 (P:=l.prog) (w:=w) (base:=base) (k:=1) F7 (y10 X G a7) (C_l_cell_at.mono (by decide))
 have F8:=z2j (st:=z1c) l8 c8 k8
 have C_l_drawn:=z4v (P:=l.prog) (w:=w) (base:=base) (k:=0) F8 (y10 X G a8)
 have F9:=z2j (st:=z1b) l9 c9 k9
 have C_l_house:=z4u (P:=l.prog) (w:=w) (base:=base) (k:=1) F9 (y10 X G a9) z_range (C_l_drawn.mono (by decide)) z_min z_max
 have F10:=z2j (st:=z2k) l10 c10 k10
 exact zez rfl (zi9 (k:=22) F10 (C_l_house.mono (by decide)) (C_l_mixed.mono (by decide)) (C_ways.mono (by decide)) (C_walked.mono (by decide)) z_sum z_isinstance z_tuple z_len)
theorem walk {l:PySem.W.OpenLaw} {q:y0q} {loose:List Str} {XP:(Str -> Option Value) -> Heap -> Prop} {YP:World -> Heap -> Prop} {d:DefRec} {K:Params -> y00} (hn:l.most = some 63) (hdf:d.params.defaults = [])
  (hL:∀ w:World,noL (K w.params) = true) (hY:∀ (w:World) (h:Heap),YP w h -> (K w.params).In h)
  (F:∀ (w:World) (mg:Str -> Option Value) (fa:Addr) (h:Heap),(K w.params).In h -> h.Ns y0n mg -> mg d.name = some (.ref fa) ->
   ∃ fd:y0b,(∀ (s:y04) (u:Value),BindsTo s fd ⟨[u],[]⟩ [("_law_script",u)]) /\ ∀ base:Heap,(K w.params).In base -> base.Ns y0n mg -> FnOk l.prog w (K w.params) mg base CX0 23 fa fd ["_law_script"] (@spT t0 (K w.params) 1 z8k)) :
  PySem.W.WalkO q loose XP YP l.row.toRowW d [] (fun f vs=>PySem.call f vs) :=
 L2.walk_of (n:=63) (k:=23) (x:="_law_script") (CX:=fun _=>CX0) (sp:=fun w=>@spT t0 (K w.params) 1 z8k) hn (by decide) hdf ⟨rfl,by decide,by decide⟩ hY F (fun w _ _ ns hl _ hS=>zaf (hL w) (zcx ns hl) hS) fun _ _ _ _ _ z=>z
end K32
open PySem PySem.W PyProof.Rows
set_option maxRecDepth 100000 in
set_option maxHeartbeats 0 in
theorem PySem.Challenge.cw_doorwatch_k32_whole_walks_put_together_holds : PySem.Challenge.rw_doorwatch_k32_whole_walks_put_together.Holds := by
 w_on; o_law; k_head; (case hw=>w_witness2)
 k_fill
 refine K32.walk (l:=PySem.Challenge.rw_doorwatch_k32_whole_walks_put_together) rfl rfl ?L (fun w h Y=>PySem.W.kIn_of Y) ?F
 case L =>
  intro w
  first | rfl | (with_unfolding_all rfl) | kernel_rfl
 case F =>
  intro w mg fa h KX G hmg
  refine' K32.all_mk KX G hmg ?a1 ?l1 ?c1 ?k1 ?a2 ?l2 ?c2 ?k2 ?a3 ?l3 ?c3 ?k3 ?a4 ?l4 ?c4 ?k4 ?a5 ?l5 ?c5 ?k5 ?a6 ?l6 ?c6 ?k6 ?a7 ?l7 ?c7 ?k7 ?a8 ?l8 ?c8 ?k8 ?a9 ?l9 ?c9 ?k9 ?a10 ?l10 ?c10 ?k10 ?z_enumerate ?z_tuple ?z_len ?z_range ?z_min ?z_max ?z_sum ?z_isinstance ?g_OUTSIDE ?g_TICKS_TO_PASS
  (case a1=>k_is)
  (case l1=>k_is)
  (case c1=>k_is)
  (case k1=>k_is)
  (case a2=>k_is)
  (case l2=>k_is)
  (case c2=>k_is)
  (case k2=>k_is)
  (case a3=>k_is)
  (case l3=>k_is)
  (case c3=>k_is)
  (case k3=>k_is)
  (case a4=>k_is)
  (case l4=>k_is)
  (case c4=>k_is)
  (case k4=>k_is)
  (case a5=>k_is)
  (case l5=>k_is)
  (case c5=>k_is)
  (case k5=>k_is)
  (case a6=>k_is)
  (case l6=>k_is)
  (case c6=>k_is)
  (case k6=>k_is)
  (case a7=>k_is)
  (case l7=>k_is)
  (case c7=>k_is)
  (case k7=>k_is)
  (case a8=>k_is)
  (case l8=>k_is)
  (case c8=>k_is)
  (case k8=>k_is)
  (case a9=>k_is)
  (case l9=>k_is)
  (case c9=>k_is)
  (case k9=>k_is)
  (case a10=>k_is)
  (case l10=>k_is)
  (case c10=>k_is)
  (case k10=>k_is)
  (case z_enumerate=>k_is)
  (case z_tuple=>k_is)
  (case z_len=>k_is)
  (case z_range=>k_is)
  (case z_min=>k_is)
  (case z_max=>k_is)
  (case z_sum=>k_is)
  (case z_isinstance=>k_is)
  (case g_OUTSIDE=>k_is)
  (case g_TICKS_TO_PASS=>k_is)
end
