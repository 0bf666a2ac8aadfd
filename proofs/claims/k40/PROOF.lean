import PyProof.Rows.All
import Wide.All
import OpenK.AllK
import Wide.FinOn
import Lean
import PyProof.EqAt
import PyProof.EqKinds
import PyProof.TupleCall
import PyProof.P3Statements
import KE.KSortTup
import PyProof.AttrMissHeap
import PyProof.ZipIter
import PyProof.Draws
import PyProof.ListMulRoad
import Wide.Seal
import KE.KLam
import KE.KNest
import KE.KNestM
import KE.KIsAll
import PyProof.ExcArgs
import PyProof.ReprStr
import PyProof.FString
import PyProof.FitsInt
import PySem.Challenge.RW_doorwatch_k40_whole_boxes
set_option Elab.async false
set_option linter.all false
set_option maxRecDepth 100000
set_option maxHeartbeats 0
open PySem.W renaming Frag → y00, keepIn → y08, findIn → y0d, codeIn → y0g, fnOf → y0j, mg_of → y12, mg_none_of → y1d, emptyDict → y1o, instObj → y21
open Option renaming bind_eq_some_iff → y01, map_eq_some_iff → y07, bind_some → y0q, map_some → y1t
open PySem renaming wpAny_bind → y02, Shared → y04, wpAny_pure → y06, starEach → y0a, FuncData → y0b, sizeLine → y0k, mainGlobals → y0o, Program → y0r, wpAny → y0u, wpAny_mono → y1e, mem_of_lookup → y2f
open PySem.Heap renaming get?_push_of_some → y03, lt_size → y0c, get?_push_size → y0m, size_push → y18
open List renaming mem_cons_of_mem → y05, mem_cons → y09, map_cons → y0e, mem_cons_self → y0f, replicate → y0h, size_toArray → y0i, getElem?_eq_some_iff → y0l, mem_map → y0n, nodup_cons → y0s, getElem?_eq_getElem → y0v, length_cons → y0w, mem_singleton → y0z, mem_append → y11, length_map → y14, getElem?_map → y15, pairwise_cons → y19, map_nil → y1a, mem_append_right → y1b, lookup_cons → y1g, set_cons_zero → y1j, lookup → y1l, set_cons_succ → y1m, getElem?_append_right → y1n, nodup_append → y1p, getElem?_append_left → y1q, find?_cons → y1u, mem_of_getElem? → y1x, append_nil → y22, zip_cons_cons → y25, length_append → y26, length_filter_le → y2b, getElem?_set → y2c, not_mem_nil → y2e, getElem?_cons_zero → y2g, getElem?_cons_succ → y2h, length_nil → y2j, nil_append → y2n, cons_append → y2o, map_map → y2p
open Nat renaming le_refl → y0p, lt_of_lt_of_le → y0x, ne_of_lt → y0y, ne_of_gt → y16, le_trans → y1s, zero_le → y28, le_succ → y2k
open PySem.Builtin.SmallTypes renaming nextOf → y0t, ownedTupleIsFree → y10
open PySem.Builtin.Tuple renaming tupleExact → y13
open Function renaming comp_def → y17
open Bool renaming and_eq_true → y1c, false_eq_true → y1w, false_ne_true → y27
open PySem.PyData renaming depthAll → y1f, canLayAll0 → y1h, str → y1z, eqv → y24, depth → y29
open PyProof.Rows renaming slot_tuple_getitem → y1i, callWith_type1 → y1v
open PySem.Builtin.Slice renaming slicePlaces → y1k
open Array renaming getElem?_eq_getElem → y1r, length_toList → y23
open PySem.Around renaming under_plainId → y1y
open False renaming elim → y20
open PySem.PassesOwn renaming never → y2a
open PySem.F renaming slot_tuple_iterator_next → y2d
open Option.some renaming inj → y2i
open Int renaming emod_nonneg → y2l, emod_lt_of_pos → y2m
namespace PySem.W.Fast
def tw8368305030334727072:=0
def tw12519875651482426640:=0
def tw13588346137286311250:=0
def tw1418078473646890413:=0
def tw15953515589457561880:=0
def tw12603530022868602502:=0
def tw11685005598310046427:=0
def tw2931037039638714506:=0
def tw2369633179524548562:=0
def tw15605196489007109343:=0
def tw12077780372484103966:=0
def tw5141006776998947084:=0
def tw9509726400938690764:=0
def tw380490146144410109:=0
def tw10732467321257918114:=0
def tw6455491440449597182:=0
def tw18278806830618275644:=0
def tw3160948630827945425:=0
def tw9715026695216358466:=0
def tw8815487897448199313:=0
def tw7392062258929672653:=0
def tw13033107878251789688:=0
def tw18247170118925521579:=0
def tw12669738032321364261:=0
def tw4001750473010859601:=0
def tw14906907731698949921:=0
def tw17453588759924524706:=0
def tw3666093533321799979:=0
def tw17896232026446477873:=0
def tw16848923412676261354:=0
def tw2521207572514835475:=0
def tw11414615679623643030:=0
def tw14727711859003186640:=0
def tw7501433120236174149:=0
def tw2326935308257898149:=0
def tw397297130230903039:=0
def tw17557078234407013156:=0
def tw15396835222920220983:=0
def tw2107680623374471298:=0
def tw8083668195887301946:=0
def tw13788544515858798513:=0
def tw4547904783065048064:=0
def tw4505670346673722229:=0
def tw7952454255295018968:=0
def tw12683315728230086435:=0
def tw15378552131273157427:=0
def tw8696074444438623614:=0
def tw1678859193722234440:=0
def tw7145778680052482463:=0
def tw1018970101645904849:=0
def tw8744356392172214824:=0
def tw3022372525243646424:=0
def tw4124032335855814791:=0
def tw7094549463949558377:=0
def tw16682644822964314303:=0
def tw16297115285004298421:=0
def tw957084786581285496:=0
def tw11521897992430531548:=0
def tw11676960051800527372:=0
def tw298846804854770748:=0
def tw11797133573032463883:=0
def tw3410251307884935091:=0
def tw18218487816479116375:=0
def tw7115866282631079009:=0
def tw15647117382202586773:=0
def tw4349862612946050741:=0
def tw1432959864802276453:=0
def tw7347444087030469491:=0
def tw10996386201237761374:=0
def tw9240597706329273120:=0
def tw1316997163885382461:=0
def tw9009098363631845867:=0
def tw3597697727973880296:=0
def tw668524528960080848:=0
def tw8447196339362536974:=0
def tw8897255628219520961:=0
def tw4963873168790497240:=0
def tw5071354955284373809:=0
def tw15804642777452078595:=0
def tw3343101222651038517:=0
def tw8292989434657212473:=0
def tw2640269706008782876:=0
def tw7230028738321302303:=0
def tw11409987340119529369:=0
def tw4891977931963563754:=0
def tw15367920994097818389:=0
def tw10453750083937674604:=0
def tw5813583015008527160:=0
def tw2279901611717057244:=0
def tw3515672070930011730:=0
def tw15620847098754630554:=0
def tw4907731786785562235:=0
def tw1520297293635031931:=0
def tw986218490461885761:=0
def tw12829067530543116441:=0
def tw18059165187158063130:=0
def tw17110696464613848873:=0
def tw12001433350904322426:=0
def tw3262570050815659360:=0
def tw15944358948116646348:=0
def tw6601180954467429548:=0
def tw10136381735583051046:=0
def tw17377753636364167297:=0
def tw6567984307815468024:=0
def tw7920149637308360306:=0
def tw14421419235598690477:=0
def tw17641469789728446745:=0
def tw8166363185398875757:=0
def tw2111086467492388858:=0
def tw2229782453164653884:=0
def tw3775434289274023688:=0
def tw1722176579771808867:=0
def tw12719836005348103102:=0
def tw10300577725218715724:=0
def tw13621460090602674077:=0
def tw2219750872927337451:=0
def tw3885973060445713193:=0
def tw5769779806638727638:=0
def tw12449360090944997700:=0
def tw10201942268291734954:=0
def tw4215853950193999152:=0
def tw13021910056004680066:=0
def tw16720678842252413283:=0
def tw16808352465074526923:=0
def tw4684218841863616:=0
def tw11871843533942519389:=0
def tw15914013226322910195:=0
def tw4039649159586872872:=0
def tw6661334745363474350:=0
def tw10842600976483912503:=0
def tw17831992704043895727:=0
def tw9705411602754096069:=0
def tw8817156990447530096:=0
def tw5045764718550505772:=0
def tw954144275579860051:=0
def tw18263604720610396461:=0
def tw1929489850478585506:=0
def tw6056605452901887108:=0
def tw11493535484340602642:=0
def tw623228853009027260:=0
def tw3584957622525743335:=0
def tw661707571800262730:=0
def tw17956196207125834493:=0
def tw4329714729718149279:=0
def tw7560076857496242735:=0
def tw8501940946245166409:=0
def tw17628074962789167021:=0
def tw18037811572583158777:=0
def tw6869637003904443587:=0
def tw13424020956940912379:=0
def tw2672110140465992553:=0
def tw1286164691215600254:=0
def tw1413254895218821097:=0
def tw13918673067122489883:=0
def tw14625235794695674245:=0
def tw15305354301747942890:=0
def tw4830896203967142243:=0
def tw15633451812148979716:=0
def tw6395370404735070934:=0
def tw6842868018050591822:=0
def tw17578493395297329140:=0
def tw3074078141111511879:=0
def tw13762698649030833702:=0
def tw6598577988334478785:=0
def tw9427943569012438422:=0
def tw1630636552057621818:=0
def tw2677677012899151614:=0
def tw8090572408271257027:=0
def tw16923344991159462111:=0
def tw1036942623191109309:=0
def tw9743762025265258203:=0
def tw13577209368078424442:=0
def tw15223379042522713356:=0
def tw5726653494499210598:=0
end PySem.W.Fast
noncomputable section
section
namespace L2
open PySem PySem.Spec PyProof.Rows
abbrev Key:=Sum Int Str
def zhz:Key->Value->Bool
 | .inl k,v=>Value.isInt k v
 | .inr x,v=>Value.isStrOf x v
def keyH (w:World):Key->Int
 | .inl k=>hashInt k
 | .inr x=>hashStr w x
theorem z1l:∀{k:Key} {v:Value},zhz k v=true->(∃i t,k=Sum.inl i/\v=Value.int i t)\/(∃x t,k=Sum.inr x/\v=Value.str x t)
 | .inl i,v,h=>by
  obtain⟨t,e⟩:=Value.isInt_shape (k:=i) (v:=v) h
  exact .inl ⟨i,t,rfl,e⟩
 | .inr x,v,h=>by
  obtain⟨t,e⟩:=Value.isStrOf_shape (x:=x) (v:=v) h
  exact .inr ⟨x,t,rfl,e⟩
theorem zo7 (i:Int) (t:Tok):zhz (.inl i) (.int i t)=true:=by simp[zhz,Value.isInt]
theorem zo6 (x:Str) (t:Tok):zhz (.inr x) (.str x t)=true:=by simp[zhz,Value.isStrOf]
theorem zx1 (a b:Int):decide ((Sum.inl a:Key)=Sum.inl b)=(a == b):=by
 by_cases e:a=b
 ·subst e;simp
 ·have h:¬(Sum.inl a:Key)=Sum.inl b:=fun q=>e (Sum.inl.inj q)
  rw[decide_eq_false h]
  exact (beq_eq_false_iff_ne.mpr e).symm
theorem zwy (a b:Str):decide ((Sum.inr a:Key)=Sum.inr b)=decide (a=b):=by
 by_cases e:a=b
 ·subst e;simp
 ·have h:¬(Sum.inr a:Key)=Sum.inr b:=fun q=>e (Sum.inr.inj q)
  rw[decide_eq_false h,decide_eq_false e]
theorem zx0 (a:Int) (b:Str):decide ((Sum.inl a:Key)=Sum.inr b)=false:=decide_eq_false (fun q=>nomatch q)
theorem zwz (a:Str) (b:Int):decide ((Sum.inr a:Key)=Sum.inl b)=false:=decide_eq_false (fun q=>nomatch q)
noncomputable def z1g (prog:y0r) (w:World):PySem.KeyKind prog w Key where
 is:=zhz
 hash:=keyH w
 inj:=fun v a b ha hb=>by
  rcases z1l ha with ⟨i,t,rfl,rfl⟩|⟨x,t,rfl,rfl⟩
  ·rcases z1l hb with ⟨j,u,rfl,e⟩|⟨y,u,rfl,e⟩
   ·injection e with e1 _;rw[e1]
   ·exact nomatch e
  ·rcases z1l hb with ⟨j,u,rfl,e⟩|⟨y,u,rfl,e⟩
   ·exact nomatch e
   ·injection e with e1 _;rw[e1]
 byValue:=fun k v h=>by
  rcases z1l h with ⟨i,t,rfl,rfl⟩|⟨x,t,rfl,rfl⟩ <;> rfl
 pyHash:=fun hv h=>by
  rcases z1l hv with ⟨i,t,rfl,rfl⟩|⟨x,t,rfl,rfl⟩
  ·exact wpAny_pyHash_int h
  ·exact wpAny_pyHash_str h
 eqBool:=fun hu hv h=>by
  rcases z1l hu with ⟨i,t,rfl,rfl⟩|⟨x,t,rfl,rfl⟩
  ·rcases z1l hv with ⟨j,u,rfl,rfl⟩|⟨y,u,rfl,rfl⟩
   ·rw[zx1] at h;exact wpAny_eqBool_int h
   ·rw[zx0] at h;exact SeqAt.EqAt.int_str i t y u _ _ _ _ h
  ·rcases z1l hv with ⟨j,u,rfl,rfl⟩|⟨y,u,rfl,rfl⟩
   ·rw[zwz] at h;exact SeqAt.EqAt.str_int x t j u _ _ _ _ h
   ·rw[zwy] at h;exact wpAny_eqBool_str h
 «strs»:=fun k x t v h=>by
  rcases z1l h with ⟨i,u,rfl,e⟩|⟨y,u,rfl,e⟩
  ·exact nomatch e
  ·injection e with e1 _
   subst e1
   cases v <;> rfl
theorem zfa (prog:y0r) (w:World) (k:Key) (v:Value):(z1g prog w).is k v=zhz k v:=rfl
theorem zdh (prog:y0r) (w:World) (i:Int) (t:Tok):(z1g prog w).is (.inl i) (.int i t)=true:=zo7 i t
theorem zdg (prog:y0r) (w:World) (x:Str) (t:Tok):(z1g prog w).is (.inr x) (.str x t)=true:=zo6 x t
end L2
namespace L2
open PySem PySem.Spec PyProof.Rows
inductive V where
 | non|bl (b:Bool)|int (i:Int)|str (x:Str)|byt (b:Array UInt8)|flt (b:UInt64)|ref (a:Addr)|ty (n:String)
 deriving DecidableEq
noncomputable def RelV:V->Value->Prop
 | .non,u=>u=Value.none
 | .bl b,u=>u=Value.bool b
 | .int i,u=>∃t,u=Value.int i t
 | .str x,u=>∃t,u=Value.str x t
 | .byt b,u=>∃t,u=Value.bytes b t
 | .flt b,u=>∃t,u=Value.float b t
 | .ref a,u=>u=Value.ref a
 | .ty n,u=>u=Value.type n
abbrev Vals:List V->List Value->Prop:=Paired RelV
theorem Vals.length {xs:List V} {us:List Value} (r:Vals xs us):xs.length=us.length:=Paired.length r
theorem Vals.get:∀{xs:List V} {us:List Value} {i:Nat} {x:V},Vals xs us->xs[i]?=some x->∃u,us[i]?=some u/\RelV x u
 | _,_,_,_,.nil,e=>by simp at e
 | _,_,0,_,.cons r _,e=>by simp at e;subst e;exact⟨_,rfl,r⟩
 | _,_,i+1,x,.cons _ t,e=>by
  obtain⟨u,h1,h2⟩:=Vals.get (i:=i) (x:=x) t (by simpa using e)
  exact⟨u,by simpa using h1,h2⟩
theorem Vals.append:∀{xs ys:List V} {us ws:List Value},Vals xs us->Vals ys ws->Vals (xs++ys) (us++ws)
 | _,_,_,_,.nil,s=>s
 | _,_,_,_,.cons r t,s=>.cons r (Vals.append t s)
theorem Vals.take:∀{xs:List V} {us:List Value} (n:Nat),Vals xs us->Vals (xs.take n) (us.take n)
 | _,_,0,_=>.nil
 | _,_,_+1,.nil=>.nil
 | _,_,n+1,.cons r t=>.cons r (Vals.take n t)
theorem Vals.drop:∀{xs:List V} {us:List Value} (n:Nat),Vals xs us->Vals (xs.drop n) (us.drop n)
 | _,_,0,r=>r
 | _,_,_+1,.nil=>.nil
 | _,_,n+1,.cons _ t=>Vals.drop n t
def RelO:Option V->Option Value->Prop
 | some v,some u=>RelV v u
 | none,none=>True
 | _,_=>False
def KV {κ:Type}:List (κ×V)->List (κ×Value)->Prop:=Paired fun (p:κ×V) (q:κ×Value)=>p.1=q.1/\RelV p.2 q.2
def kV:Key->V
 | .inl i=>.int i
 | .inr x=>.str x
inductive HO where
 | lst (xs:List V)
 | tup (xs:List V)
 | dK (kvs:List (Key×V))|dT (kvs:List (List Key×V))
 | set (S:Int->Bool) (n:Nat)
 | ins (C dx:Addr) (fs:List (Str×V))
 | own (x:Addr)
 | xd (fs:List (Str×V))
 | met (f x:Addr)
 | rng (lo hi:Int)
 | frz (o:Obj) (u:HO)
 | tbl (ps:Array Value)
 | ext (φ:Heap->Prop)
abbrev Hp:=Addr->Option HO
def upd (H:Hp) (a:Addr) (o:HO):Hp:=fun b=>if b=a then some o else H b
theorem z0e {H:Hp} {a:Addr} {o:HO}:upd H a o a=some o:=by unfold upd;rw[if_pos rfl]
theorem z0c {H:Hp} {a b:Addr} {o:HO} (h:b≠a):upd H a o b=H b:=by unfold upd;rw[if_neg h]
theorem zyf {H:Hp} {a b:Addr} {o u:HO} (h:H a=some o) (h':H b=some u) (d:o≠u):a≠b:=by
 intro e;subst e;rw[h] at h';exact d (y2i h')
theorem z0l {H:Hp} {a b:Addr} {o:HO} (h:H a=some o) (h':H b=none):a≠b:=by
 intro e;subst e;rw[h] at h';cases h'
section
variable (P:y0r) (w:World)
noncomputable def z5g (H:Hp) (h:Heap) (a:Addr):HO->Prop
 | .lst xs=>xs.length<=y0k/\∃(its:List Value) (n:Nat),Vals xs its/\h.get? a=some { cls:=.type "list",data:=.seq its.toArray n }
 | .tup xs=>xs.length<=y0k/\∃its:List Value,Vals xs its/\IsTup h a its.toArray
 | .dK kvs=>kvs.length<=y0k/\(a == sysModules)=false/\∃vs,KV kvs vs/\h.DictOf (z1g P w) a vs
 | .dT kvs=>kvs.length<=y0k/\(a == sysModules)=false/\∃xs:List (List Key×Addr×Value),
   Paired (fun (p:List Key×V) (q:List Key×Addr×Value)=>p.1=q.1/\H q.2.1=some (.tup (p.1.map kV))/\RelV p.2 q.2.2) kvs xs /\
   ∃o es ep,h.get? a=some o/\o.ExactDict/\o.data=.dict es ep/\es.toList=xs.map (entryOfKey (tupleKind (z1g P w)))/\(xs.map (·.1)).Nodup
 | .set S n=>h.SetOf (intKind P w) a S n
 | .ins C dx fs=>H dx=some (.own a)/\fs.length<=1000/\dx≠a/\h.get? a=some (y21 C dx) /\
   ∃mA,h.Ns1 dx mA/\(∀f,RelO (fs.lookup f) (mA f))/\PySem.Within mA (fs.map (·.1))
 | .own _=>∃o,h.get? a=some o
 | .xd fs=>∃mA,h.Ns1 a mA/\∀f,RelO (fs.lookup f) (mA f)
 | .rng lo hi=>∃t u v,h.get? a=some { cls:=.type "range",data:=.fields #[.int lo t,.int hi u,.int 1 v] }
 | .frz o u=>h.get? a=some o/\z5g H h a u
 | .tbl ps=>h.get? a=some { cls:=.none,data:=.fields ps }
 | .met f x=>h.get? a=some (PySem.W.methodObj (.ref f) (.ref x))
 | .ext φ=>φ h/\(∃o,h.get? a=some o)/\∀h1 h2:Heap,φ h1->(∀o,h1.get? a=some o->h2.get? a=some o)->φ h2
def HOk (H:Hp) (h:Heap):Prop:=∀a o,H a=some o->z5g P w H h a o
end
section
variable {P:y0r} {w:World} {H H':Hp} {h h':Heap} {a:Addr} {o:HO}
theorem z5g.lt (x:z5g P w H h a o):a<h.objs.size:=by
 cases o with
 | lst xs=>obtain⟨_,_,_,_,e⟩:=x;exact y0c e
 | tup xs=>obtain⟨_,_,_,p⟩:=x;exact p.lt
 | dK kvs=>obtain⟨_,_,_,_,o,_,_,e,_⟩:=x;exact y0c e
 | dT kvs=>obtain⟨_,_,_,_,o,_,_,e,_⟩:=x;exact y0c e
 | set S n=>obtain⟨o,_,_,_,e,_⟩:=x;exact y0c e
 | ins C dx fs=>obtain⟨_,_,_,e,_⟩:=x;exact y0c e
 | own y=>obtain⟨_,e⟩:=x;exact y0c e
 | xd fs=>obtain⟨_,⟨_,_,_,e,_⟩,_⟩:=x;exact y0c e
 | rng lo hi=>obtain⟨_,_,_,e⟩:=x;exact y0c e
 | frz ob u=>obtain⟨e,_⟩:=x;exact y0c e
 | tbl ps=>exact y0c (show h.get? a=some _ from x)
 | met f y=>exact y0c (show h.get? a=some _ from x)
 | ext φ=>obtain⟨_,⟨_,e⟩,_⟩:=x;exact y0c e
theorem Paired.mapP {α β:Type} {F G:α->β->Prop}:∀{l₁:List α} {l₂:List β},Paired F l₁ l₂->(∀a b,F a b->G a b)->Paired G l₁ l₂
 | _,_,.nil,_=>.nil
 | _,_,.cons r t,f=>.cons (f _ _ r) (Paired.mapP t f)
theorem z5g.stay (x:z5g P w H h a o) (k:∀b u,(b=a\/H b=some (.own a))->h.get? b=some u->h'.get? b=some u)
  (ho:∀b,H b=some (.own a)->H' b=some (.own a)) (ht:∀b xs,H b=some (.tup xs)->H' b=some (.tup xs)):z5g P w H' h' a o:=by
 induction o with
 | lst xs=>obtain⟨z,its,n,r,e⟩:=x;exact⟨z,its,n,r,k _ _ (.inl rfl) e⟩
 | tup xs=>obtain⟨z,its,r,ob,e,c⟩:=x;exact⟨z,its,r,ob,k _ _ (.inl rfl) e,c⟩
 | dK kvs=>obtain⟨z,y,vs,r,ob,es,ep,e,c⟩:=x;exact⟨z,y,vs,r,ob,es,ep,k _ _ (.inl rfl) e,c⟩
 | dT kvs =>
  obtain⟨z,y,xs,r,ob,es,ep,e,c⟩:=x
  exact⟨z,y,xs,Paired.mapP r fun p q z=>⟨z.1,ht _ _ z.2.1,z.2.2⟩,ob,es,ep,k _ _ (.inl rfl) e,c⟩
 | set S n=>obtain⟨ob,es,ep,t,e,c⟩:=x;exact⟨ob,es,ep,t,k _ _ (.inl rfl) e,c⟩
 | ins C dx fs =>
  obtain⟨d,z,ne,e,mA,⟨od,es,ep,e2,c⟩,r⟩:=x
  exact⟨ho _ d,z,ne,k _ _ (.inl rfl) e,mA,⟨od,es,ep,k _ _ (.inr d) e2,c⟩,r⟩
 | own y=>obtain⟨ob,e⟩:=x;exact⟨ob,k _ _ (.inl rfl) e⟩
 | xd fs=>obtain⟨mA,⟨od,es,ep,e,c⟩,r⟩:=x;exact⟨mA,⟨od,es,ep,k _ _ (.inl rfl) e,c⟩,r⟩
 | rng lo hi=>obtain⟨t,u,v,e⟩:=x;exact⟨t,u,v,k _ _ (.inl rfl) e⟩
 | frz ob u ih=>obtain⟨e,q⟩:=x;exact⟨k _ _ (.inl rfl) e,ih q⟩
 | tbl ps =>
  have e:h.get? a=some { cls:=.none,data:=.fields ps }:=x
  show h'.get? a=some { cls:=.none,data:=.fields ps }
  exact k a _ (.inl rfl) e
 | met f y =>
  have e:h.get? a=some (PySem.W.methodObj (.ref f) (.ref y)):=x
  show h'.get? a=some (PySem.W.methodObj (.ref f) (.ref y))
  exact k a _ (.inl rfl) e
 | ext φ=>obtain⟨p,⟨o,e⟩,st⟩:=x;exact⟨st _ _ p fun o q=>k _ _ (.inl rfl) q,⟨o,k _ _ (.inl rfl) e⟩,st⟩
theorem HOk.lt (x:HOk P w H h) (e:H a=some o):a<h.objs.size:=(x a o e).lt
theorem HOk.fresh (x:HOk P w H h) (e:h.objs.size<=a):H a=none:=by
 cases q:H a with
 | none=>rfl
 | some u=>exact absurd (y0x (x.lt q) e) (Nat.lt_irrefl _)
theorem HOk.kept (x:HOk P w H h) (k:∀b u,h.get? b=some u->h'.get? b=some u):HOk P w H h':=fun a o e =>
 (x a o e).stay (fun b u _ q=>k b u q) (fun _ q=>q) fun _ _ q=>q
theorem HOk.laid (x:HOk P w H h) (k:∀b u,h.get? b=some u->h'.get? b=some u) (hp:h.objs.size<=a) (new:z5g P w (upd H a o) h' a o):HOk P w (upd H a o) h':=fun b u e=>by
 have hn:=x.fresh hp
 by_cases hb:b=a
 ·subst hb;rw[z0e] at e;cases e;exact new
 ·rw[z0c hb] at e
  exact (x b u e).stay (fun c v _ q=>k c v q) (fun c q=>by rw[z0c (z0l q hn)];exact q) fun c xs q=>by rw[z0c (z0l q hn)];exact q
end
def Rd (H:Hp) (a:Addr) (u:HO):Prop:=H a=some u\/∃o,H a=some (.frz o u)
theorem Rd.ok {P:y0r} {w:World} {H:Hp} {h:Heap} {a:Addr} {u:HO} (r:Rd H a u) (x:HOk P w H h):z5g P w H h a u:=by
 rcases r with r|⟨o,r⟩
 ·exact x a u r
 ·obtain⟨_,q⟩:=x a _ r
  exact q
def Mut:Option HO->Prop
 | some (.lst _)=>True
 | some (.dK _)=>True
 | some (.dT _)=>True
 | some (.set _ _)=>True
 | some (.ins _ _ _)=>True
 | some (.ext _)=>True
 | _=>False
section
variable {P:y0r} {w:World} {H:Hp} {h h':Heap} {x e:Addr} {o':HO}
theorem HOk.write (ok:HOk P w H h) (mu:Mut (H x)) (he:e=x\/H e=some (.own x)) (k:∀b u,b≠e->h.get? b=some u->h'.get? b=some u) (heo:∃u,h'.get? e=some u)
  (new:z5g P w (upd H x o') h' x o'):HOk P w (upd H x o') h':=fun b u q=>by
 have nown:∀c y,H c=some (.own y)->c≠x:=fun c y r z=>by subst z;rw[r] at mu;exact mu
 have ntup:∀c xs,H c=some (.tup xs)->c≠x:=fun c xs r z=>by subst z;rw[r] at mu;exact mu
 by_cases hb:b=x
 ·subst hb;rw[z0e] at q;cases q;exact new
 ·rw[z0c hb] at q
  by_cases hbe:b=e
  ·have q':H b=some (.own x):=by
    rcases he with z|z
    ·exact absurd (hbe.trans z) hb
    ·rw[hbe];exact z
   rw[q] at q';cases q'
   obtain⟨v,hv⟩:=heo
   exact⟨v,by rw[hbe];exact hv⟩
  ·refine (ok b u q).stay (fun c v hc r=>k c v ?_ r) (fun c r=>by rw[z0c (nown c b r)];exact r) fun c xs r=>by rw[z0c (ntup c xs r)];exact r
   rcases hc with rfl|hc
   ·exact hbe
   ·rintro rfl
    rcases he with z|z
    ·exact nown c b hc z
    ·rw[hc] at z;cases z;exact hb rfl
end
structure Un (fs ex:List Addr) (H H':Hp) (h h':Heap):Prop where
 keep:∀b o,h.get? b=some o->H b=none->b∉fs->b∉ex->h'.get? b=some o
 slot:∀b o,h.get? b=some o->H b=none->b∈fs->b∉ex->∃sl,h'.get? b=some { o with slots:=sl }
 free:∀b o,h.get? b=some o->H b=none->b∉ex->H' b=none
 there:∀b o,h.get? b=some o->b∉ex->∃o',h'.get? b=some o'
 tups:∀b xs,H b=some (.tup xs)->H' b=some (.tup xs)
 frzs:∀b o u,H b=some (.frz o u)->H' b=some (.frz o u)
 tbls:∀b ps,H b=some (.tbl ps)->∃more,H' b=some (.tbl (ps++more))
section
variable {fs fs' ex ex':List Addr} {H H1 H2:Hp} {h h1 h2 h':Heap} {a x e:Addr} {o:HO}
theorem Un.any (u:Un fs ex H H1 h h1) {b:Addr} {ob:Obj} (q:h.get? b=some ob) (n:H b=none) (hx:b∉ex):∃sl,h1.get? b=some { ob with slots:=sl }:=by
 by_cases hb:b∈fs
 ·exact u.slot b ob q n hb hx
 ·exact⟨ob.slots,u.keep b ob q n hb hx⟩
theorem Un.kept (k:∀b u,h.get? b=some u->h'.get? b=some u):Un fs ex H H h h' :=
 ⟨fun b ob q _ _ _=>k b ob q,fun b ob q _ _ _=>⟨ob.slots,k b ob q⟩,fun _ _ _ n _=>n,fun b ob q _=>⟨ob,k b ob q⟩,fun _ _ q=>q,fun _ _ _ q=>q,fun _ ps q=>⟨#[],by rw[q];simp⟩⟩
theorem Un.refl:Un fs ex H H h h:=Un.kept fun _ _ q=>q
theorem Un.laid (k:∀b u,h.get? b=some u->h'.get? b=some u) (hp:h.objs.size<=a) (hn:H a=none):Un fs ex H (upd H a o) h h' where
 keep:=fun b u q _ _ _=>k b u q
 slot:=fun b u q _ _ _=>⟨u.slots,k b u q⟩
 free:=fun b u q n _=>by rw[z0c (y0y (y0x (y0c q) hp))];exact n
 there:=fun b u q _=>⟨u,k b u q⟩
 tups:=fun b xs q=>by rw[z0c (z0l q hn)];exact q
 frzs:=fun b u xs q=>by rw[z0c (z0l q hn)];exact q
 tbls:=fun b ps q=>⟨#[],by rw[z0c (z0l q hn),q];simp⟩
theorem Un.write (mu:Mut (H x)) (he:e=x\/H e=some (.own x)) (k:∀b u,b≠e->h.get? b=some u->h'.get? b=some u) (heo:∃u,h'.get? e=some u):Un fs ex H (upd H x o) h h':=by
 have hx:∀b,H b=none->b≠x:=fun b n z=>by subst z;rw[n] at mu;exact mu
 have hb:∀b,H b=none->b≠e:=fun b n z=>by
  subst z
  rcases he with r|r
  ·exact hx b n r
  ·rw[n] at r;cases r
 have hm:∀b u,H b=some u->¬Mut (some u)->b≠x:=fun b u q nm z=>by subst z;rw[q] at mu;exact nm mu
 refine⟨fun b u q n _ _=>k b u (hb b n) q,fun b u q n _ _=>⟨u.slots,k b u (hb b n) q⟩,fun b u q n _=>by rw[z0c (hx b n)];exact n,fun b u q _=>?_,
  fun b xs q=>by rw[z0c (hm b _ q fun z=>z)];exact q,fun b u xs q=>by rw[z0c (hm b _ q fun z=>z)];exact q,fun b ps q=>⟨#[],by rw[z0c (hm b _ q fun z=>z),q];simp⟩⟩
 by_cases hbe:b=e
 ·subst hbe;exact heo
 ·exact⟨u,k b u hbe q⟩
end
def trk (h:Heap) (H:Hp):List Addr:=(List.range h.objs.size).filter fun a=>(H a).isSome
def hidT (h:Heap) (H:Hp):Heap:=PySem.W.hideAll h (trk h H)
theorem zoi (h:Heap) (H:Hp):(hidT h H).objs.size=h.objs.size:=PySem.W.hideAll_size _ _
theorem zrb {h:Heap} {H:Hp} {b:Addr} {o:Obj} (e:h.get? b=some o) (n:H b=none):(hidT h H).get? b=some o :=
 PySem.W.hideAll_get _ e fun hm=>by
  have q:(H b).isSome=true:=(List.mem_filter.mp hm).2
  rw[n] at q;simp at q
theorem zuc {h:Heap} {H:Hp} {b:Addr} {o:Obj} (e:(hidT h H).get? b=some o):h.get? b=some o/\H b=none:=by
 have e':h.get? b=some o:=PySem.W.of_hideAll (trk h H) e
 refine⟨e',?_⟩
 cases q:H b with
 | none=>rfl
 | some x =>
  have hm:b∈trk h H:=List.mem_filter.mpr ⟨List.mem_range.mpr (y0c e'),by simp[q]⟩
  have z:(hidT h H).get? b=none:=PySem.W.hideAll_none (trk h H) hm
  rw[z] at e;cases e
def zvb (g h:Heap) (L:Addr):List (Addr×Obj):=(List.range h.objs.size).filterMap fun a=>if a=L\/(g.get? a).isSome=true then none else (h.get? a).map fun o=>(a,o)
def rest (g h:Heap) (L d:Addr):List (Addr×Obj):=(zvb g h L).filter fun p=>decide (p.1≠d)
end L2
namespace L2
open PySem PySem.Spec PyProof.Rows
structure Mod (K:y00) (mg:Str->Option Value) (base:Heap):Prop where
 kin:K.In base
 glob:base.Ns y0o mg
 blt:∃mb,base.Ns builtinsNs mb/\∀x:Str,x≠"__name__"->mb x=bootBuiltins x
 nolimit:base.NoLimit
structure Cx where
 prog:y0r
 w:World
 K:y00
 mg:Str->Option Value
 base:Heap
 A:Around
 N:List Str
 s₀:y04
 H₀:Hp
 env:Env
 outer:List Env
 stack:List Env
 ex:List Addr
 fn:Str->Bool
 calm:Bool
 pn:List (Addr×Obj)
 xe:Value->y04->Prop
def frs (l:List Env):List Addr:=l.filterMap (·.frame)
abbrev Cx.fs (X:Cx):List Addr:=frs X.outer
def Vis (sc:Scope) (x:Str):Prop:=sc.names.lookup x=some .local\/sc.names.lookup x=some .cell\/sc.names.lookup x=some .free
def Loc (sc:Scope) (x:Str):Prop:=sc.names.lookup x=some .local\/sc.names.lookup x=some .cell
noncomputable def Look (env:Env) (h:Heap) (m:Str->Option Value) (x:Str) (u:Value):Prop :=
 (env.kindOf x=some .local/\m x=some u)\/((env.kindOf x=some .cell\/env.kindOf x=some .free)/\∃c,env.cells.lookup x=some c/\h.IsCell c (some u))
structure Cx.Ok (X:Cx):Prop where
 mod:Mod X.K X.mg X.base
 kind:X.env.scope.kind=.function
 glob:X.env.globals=y0o
 blt:X.env.builtins=builtinsNs
 above:X.s₀.heap.objs.size<=X.env.locals
 inj:∀x y c,X.env.cells.lookup x=some c->X.env.cells.lookup y=some c->x=y
 has:∀x,(X.env.kindOf x=some .cell\/X.env.kindOf x=some .free)->∃c,X.env.cells.lookup x=some c
 cab:∀x c,X.fn x=true->X.env.cells.lookup x=some c->X.s₀.heap.objs.size<=c
 hd:X.calm=true->X.A.handled=none
 frames:X.A.frames=some X.stack
 stk:X.stack=X.outer\/(X.stack=X.env::X.outer/\X.env.frame=some X.env.locals)
 exf:∀b∈X.ex,b≠X.env.locals/\∀x c,X.env.cells.lookup x=some c->c≠b
 bs:∀b o,X.base.get? b=some o->X.s₀.heap.get? b=some o/\X.H₀ b=none
 bsz:X.base.objs.size<=X.s₀.heap.objs.size
 noex:∀b o,X.base.get? b=some o->b∉X.ex
 exfs:∀b∈X.ex,b∉X.fs
 funs:X.s₀.heap.FunFrames X.base X.outer
 frf:∀b∈X.fs,X.H₀ b=none
structure Inv (X:Cx) (pins:List (Addr×Obj)) (σ:List (Option V)) (H:Hp) (s:y04):Prop where
 ok:X.Ok
 os:s.os=X.s₀.os
 bare:AllBare s.gens
 base:Un X.fs X.ex X.H₀ H X.s₀.heap s.heap
 loc:∃m,s.heap.Ns X.env.locals m/\∀(i:Nat) (x:Str) (v:V),X.N[i]?=some x->σ[i]?=some (some v)->Vis X.env.scope x->∃u,RelV v u/\Look X.env s.heap m x u
 cell:∀x c,X.env.cells.lookup x=some c->∃v,s.heap.IsCell c v
 free:H X.env.locals=none
 freeC:∀x c,X.env.cells.lookup x=some c->H c=none
 pin:∀p∈X.pn++pins,s.heap.get? p.1=some p.2/\H p.1=none/\p.1≠X.env.locals/\p.1∉X.fs/\∀v,p.2.data≠.cell v
 hok:HOk X.prog X.w H s.heap
 len:σ.length=X.N.length
section
variable {X:Cx} {pins:List (Addr×Obj)} {σ:List (Option V)} {H H':Hp} {s:y04} {h':Heap}
theorem Cx.Ok.nofr (ok:X.Ok) {b:Addr} {o:Obj} (e:X.base.get? b=some o):b∉X.fs:=fun hb=>by
 have:=(ok.funs.mem hb).1
 rw[e] at this;cases this
theorem Inv.bs (I:Inv X pins σ H s):∀b o,X.base.get? b=some o->s.heap.get? b=some o/\H b=none:=fun b o e =>
 ⟨I.base.keep b o (I.ok.bs b o e).1 (I.ok.bs b o e).2 (I.ok.nofr e) (I.ok.noex b o e),I.base.free b o (I.ok.bs b o e).1 (I.ok.bs b o e).2 (I.ok.noex b o e)⟩
theorem Inv.bk (I:Inv X pins σ H s):∀b o,X.base.get? b=some o->s.heap.get? b=some o:=fun b o e=>(I.bs b o e).1
theorem Inv.mod (I:Inv X pins σ H s):Mod X.K X.mg X.base:=I.ok.mod
theorem Inv.kIn (I:Inv X pins σ H s):X.K.In s.heap:=I.ok.mod.kin.keeps I.bk
theorem Inv.lt (I:Inv X pins σ H s):X.env.locals<s.heap.objs.size:=let ⟨_,hn,_⟩:=I.loc;hn.lt
theorem Inv.sz (I:Inv X pins σ H s):X.s₀.heap.objs.size<=s.heap.objs.size:=y1s I.ok.above (Nat.le_of_lt I.lt)
theorem Inv.nofs (I:Inv X pins σ H s) {a:Addr} (h:s.heap.objs.size<=a):a∉X.fs:=fun hb=>by
 obtain⟨_,o,ho,_⟩:=I.ok.funs.mem hb
 exact absurd (y0x (y0c ho) (y1s I.sz h)) (Nat.lt_irrefl _)
theorem Inv.cne (I:Inv X pins σ H s):∀x c,X.env.cells.lookup x=some c->c≠X.env.locals:=fun x c e z=>by
 obtain⟨v,o,ho,hd⟩:=I.cell x c e
 obtain⟨m,⟨o',es,ep,ho',hd',_⟩,_⟩:=I.loc
 rw[z,ho'] at ho;cases ho;rw[hd'] at hd;cases hd
theorem Inv.funs (I:Inv X pins σ H s):s.heap.FunFrames X.base X.outer:=by
 have all:∀(l:List Env),(∀b∈frs l,b∈X.fs)->X.s₀.heap.FunFrames X.base l->s.heap.FunFrames X.base l:=by
  intro l
  induction l with
  | nil=>intro _ _;trivial
  | cons env r ih =>
   intro hs hl
   obtain⟨hk,⟨L,o,hf,hn,ho,hd⟩,hr⟩:=hl
   have hL:L∈X.fs:=hs L (by unfold frs;rw[List.filterMap_cons,hf];exact y0f)
   obtain⟨sl,e⟩:=I.base.slot L o ho (I.ok.frf L hL) hL fun z=>I.ok.exfs L z hL
   exact⟨hk,⟨L,_,hf,hn,e,hd⟩,ih (fun b hb=>hs b (by unfold frs;rw[List.filterMap_cons,hf];exact y05 _ hb)) hr⟩
 exact all X.outer (fun _ hb=>hb) I.ok.funs
theorem Inv.stack (I:Inv X pins σ H s):s.heap.FunFrames X.base X.stack:=by
 rcases I.ok.stk with e|⟨e,hf⟩
 ·rw[e];exact I.funs
 ·rw[e]
  obtain⟨m,hn,_⟩:=I.loc
  refine .cons (by rw[I.ok.kind];decide) hf hn ?_ I.funs
  exact Heap.get?_none_of_le (y1s I.ok.bsz I.ok.above)
theorem Inv.stkSub (I:Inv X pins σ H s):∀b∈frs X.stack,b∈X.env.locals::X.fs:=fun b hb=>by
 rcases I.ok.stk with e|⟨e,hf⟩
 ·rw[e] at hb;exact y05 _ hb
 ·rw[e] at hb
  unfold frs at hb
  rw[List.filterMap_cons,hf] at hb
  exact hb
theorem Inv.stkFree (I:Inv X pins σ H s):∀b∈frs X.stack,H b=none:=fun b hb=>by
 rcases y09.mp (I.stkSub b hb) with e|hb
 ·rw[e];exact I.free
 ·obtain⟨_,o,ho,_⟩:=I.ok.funs.mem hb
  exact I.base.free b o ho (I.ok.frf b hb) fun z=>I.ok.exfs b z hb
theorem Inv.step {g':Array GenState} {t':Nat} {d':Drawn} {ch:List Addr} (I:Inv X pins σ H s)
  (hch:∀b∈ch,(b∈X.ex\/X.s₀.heap.objs.size<=b)/\b≠X.env.locals/\(∀x c,X.env.cells.lookup x=some c->c≠b)/\∀p∈X.pn++pins,p.1≠b)
  (keep:∀b o,b≠X.env.locals->b∉X.fs->b∉ch->s.heap.get? b=some o->H b=none->h'.get? b=some o)
  (slot:∀b o,b≠X.env.locals->b∈X.fs->b∉ch->s.heap.get? b=some o->H b=none->∃sl,h'.get? b=some { o with slots:=sl }) (free:∀b o,b∉ch->s.heap.get? b=some o->H b=none->H' b=none)
  (there:∀b o,b∉ch->s.heap.get? b=some o->∃o',h'.get? b=some o')
  (tups:∀b xs,H b=some (.tup xs)->H' b=some (.tup xs)) (frzs:∀b o u,H b=some (.frz o u)->H' b=some (.frz o u)) (tbls:∀b ps,H b=some (.tbl ps)->∃more,H' b=some (.tbl (ps++more)))
  (ns:∀m,s.heap.Ns X.env.locals m->h'.Ns X.env.locals m) (hok:HOk X.prog X.w H' h') (hg:AllBare g') :
  Inv X pins σ H' { s with heap:=h',gens:=g',drawn:=d',toks:=t' }:=by
 have neL:∀b o,X.s₀.heap.get? b=some o->b≠X.env.locals:=fun b o e=>y0y (y0x (y0c e) I.ok.above)
 have neC:∀b o,X.s₀.heap.get? b=some o->b∉X.ex->b∉ch:=fun b o e hx hb=>by
  rcases (hch b hb).1 with z|z
  ·exact hx z
  ·exact absurd (y0x (y0c e) z) (Nat.lt_irrefl _)
 have cellK:∀x c,X.env.cells.lookup x=some c->∀v,s.heap.IsCell c v->h'.IsCell c v:=fun x c e v ⟨o,ho,hd⟩=>by
  have nch:c∉ch:=fun z=>(hch c z).2.2.1 x c e rfl
  by_cases hc:c∈X.fs
  ·obtain⟨sl,q⟩:=slot c o (I.cne x c e) hc nch ho (I.freeC x c e)
   exact⟨_,q,hd⟩
  ·exact⟨o,keep c o (I.cne x c e) hc nch ho (I.freeC x c e),hd⟩
 refine⟨I.ok,I.os,hg,⟨fun b o e n hb hx=>?_,fun b o e n hb hx=>?_,fun b o e n hx=>?_,fun b o e hx=>?_,fun b xs e=>tups b xs (I.base.tups b xs e),fun b o xs e=>frzs b o xs (I.base.frzs b o xs e),fun b ps e=>?_⟩,?_,fun x c e=>?_,?_,fun x c e=>?_,fun p hp=>?_,hok,I.len⟩
 ·exact keep b o (neL b o e) hb (neC b o e hx) (I.base.keep b o e n hb hx) (I.base.free b o e n hx)
 ·obtain⟨sl,e1⟩:=I.base.slot b o e n hb hx
  obtain⟨sl',e2⟩:=slot b _ (neL b o e) hb (neC b o e hx) e1 (I.base.free b o e n hx)
  exact⟨sl',e2⟩
 ·obtain⟨o',e1⟩:=I.base.there b o e hx
  exact free b o' (neC b o e hx) e1 (I.base.free b o e n hx)
 ·obtain⟨o',e1⟩:=I.base.there b o e hx
  exact there b o' (neC b o e hx) e1
 ·obtain⟨m1,e1⟩:=I.base.tbls b ps e
  obtain⟨m2,e2⟩:=tbls b _ e1
  exact⟨m1++m2,by rw[e2,Array.append_assoc]⟩
 ·obtain⟨m,hn,hl⟩:=I.loc
  refine⟨m,ns m hn,fun i x v e1 e2 e3=>?_⟩
  obtain⟨u,r,l⟩:=hl i x v e1 e2 e3
  refine⟨u,r,?_⟩
  rcases l with l|⟨k,c,e,z⟩
  ·exact .inl l
  ·exact .inr ⟨k,c,e,cellK x c e _ z⟩
 ·obtain⟨v,z⟩:=I.cell x c e
  exact⟨v,cellK x c e v z⟩
 ·obtain⟨m,⟨o,_,_,ho,_⟩,_⟩:=I.loc
  exact free _ o (fun z=>(hch _ z).2.1 rfl) ho I.free
 ·obtain⟨v,o,ho,hd⟩:=I.cell x c e
  exact free c o (fun z=>(hch c z).2.2.1 x c e rfl) ho (I.freeC x c e)
 ·obtain⟨e,n,ne,nf,d⟩:=I.pin p hp
  have nch:p.1∉ch:=fun z=>(hch p.1 z).2.2.2 p hp rfl
  exact⟨keep p.1 p.2 ne nf nch e n,free p.1 p.2 nch e n,ne,nf,d⟩
theorem Inv.un {t':Nat} (I:Inv X pins σ H s) (u:Un X.fs [] H H' s.heap h') (hok:HOk X.prog X.w H' h'):Inv X pins σ H' { s with heap:=h',toks:=t' }:=by
 obtain⟨m,⟨o,es,ep,ho,r⟩,_⟩:=id I.loc
 obtain⟨sl,hL⟩:=u.any ho I.free (by simp)
 exact I.step (g':=s.gens) (d':=s.drawn) (ch:=[]) (fun _ z=>nomatch z) (fun b o _ hb _ e n=>u.keep b o e n hb (by simp)) (fun b o _ hb _ e n=>u.slot b o e n hb (by simp)) (fun b o _ e n=>u.free b o e n (by simp)) (fun b o _ e=>u.there b o e (by simp)) u.tups u.frzs u.tbls (fun m' hm=>by
  obtain⟨o',es',ep',ho',r'⟩:=hm
  rw[ho] at ho';cases ho'
  exact⟨_,es',ep',hL,r'⟩) hok I.bare
theorem Inv.call {g':Array GenState} {t':Nat} {d':Drawn} {ch:List Addr} (I:Inv X pins σ H s) (u:Un (frs X.stack) ch H H' s.heap h') (hok:HOk X.prog X.w H' h') (hg:AllBare g')
  (hch:∀b∈ch,(b∈X.ex\/X.s₀.heap.objs.size<=b)/\b≠X.env.locals/\(∀x c,X.env.cells.lookup x=some c->c≠b)/\∀p∈X.pn++pins,p.1≠b) :
  Inv X pins σ H' { s with heap:=h',gens:=g',drawn:=d',toks:=t' }:=by
 obtain⟨m,⟨o,es,ep,ho,r⟩,_⟩:=id I.loc
 obtain⟨sl,hL⟩:=u.any ho I.free fun z=>(hch _ z).2.1 rfl
 exact I.step (ch:=ch) hch (fun b o hL hb hc e n=>u.keep b o e n (fun z=>(y09.mp (I.stkSub b z)).elim hL hb) hc) (fun b o _ _ hc e n=>u.any e n hc) (fun b o hc e n=>u.free b o e n hc) (fun b o hc e=>u.there b o e hc) u.tups u.frzs u.tbls (fun m' hm=>by
  obtain⟨o',es',ep',ho',r'⟩:=hm
  rw[ho] at ho';cases ho'
  exact⟨_,es',ep',hL,r'⟩) hok hg
theorem Inv.turned {t':Nat} {it:Addr} (I:Inv X pins σ H s) (k:∀b o,b≠it->s.heap.get? b=some o->h'.get? b=some o) (hn:H it=none) (hL:it≠X.env.locals)
  (h1:it∈X.ex\/X.s₀.heap.objs.size<=it) (h2:∀x c,X.env.cells.lookup x=some c->c≠it) (h3:∀p∈X.pn++pins,p.1≠it):Inv X pins σ H { s with heap:=h',toks:=t' }:=by
 have nit:∀b u,H b=some u->b≠it:=fun b u e z=>by rw[z,hn] at e;cases e
 refine I.step (g':=s.gens) (d':=s.drawn) (ch:=[it]) (fun b hb=>?_) (fun b o _ _ hc e _=>k b o (fun z=>hc (by simp[z])) e) (fun b o _ _ hc e _=>⟨o.slots,k b o (fun z=>hc (by simp[z])) e⟩) (fun _ _ _ _ n=>n)
  (fun b o hc e=>⟨o,k b o (fun z=>hc (by simp[z])) e⟩) (fun _ _ e=>e) (fun _ _ _ e=>e) (fun b ps e=>⟨#[],by rw[e];simp⟩) (fun m hm=>?_) (fun b u e=>?_) I.bare
 ·have e:b=it:=by simpa using hb
  subst e
  exact⟨h1,hL,h2,h3⟩
 ·obtain⟨o,es,ep,ho,r⟩:=hm
  exact⟨o,es,ep,k _ o (Ne.symm hL) ho,r⟩
 ·refine (I.hok b u e).stay (fun c v hc q=>k c v ?_ q) (fun _ q=>q) fun _ _ q=>q
  rcases hc with z|z
  ·rw[z];exact nit b u e
  ·exact nit c _ z
theorem Inv.tok (I:Inv X pins σ H s) (t:Nat):Inv X pins σ H { s with toks:=t }:=I.un (h':=s.heap) (t':=t) Un.refl I.hok
theorem Inv.kept {t':Nat} (I:Inv X pins σ H s) (k:∀b u,s.heap.get? b=some u->h'.get? b=some u):Inv X pins σ H { s with heap:=h',toks:=t' }:=I.un (Un.kept k) (I.hok.kept k)
theorem Inv.laid {a:Addr} {o:HO} {t':Nat} (I:Inv X pins σ H s) (k:∀b u,s.heap.get? b=some u->h'.get? b=some u) (hp:s.heap.objs.size<=a) (new:z5g X.prog X.w (upd H a o) h' a o) :
  Inv X pins σ (upd H a o) { s with heap:=h',toks:=t' }:=I.un (Un.laid k hp (I.hok.fresh hp)) (I.hok.laid k hp new)
theorem Inv.write {x e:Addr} {o:HO} {t':Nat} (I:Inv X pins σ H s) (mu:Mut (H x)) (he:e=x\/H e=some (.own x)) (k:∀b u,b≠e->s.heap.get? b=some u->h'.get? b=some u) (heo:∃u,h'.get? e=some u)
  (new:z5g X.prog X.w (upd H x o) h' x o):Inv X pins σ (upd H x o) { s with heap:=h',toks:=t' }:=I.un (Un.write mu he k heo) (I.hok.write mu he k heo new)
theorem Inv.pins_of {pins':List (Addr×Obj)} (I:Inv X pins σ H s) (h:∀p∈pins',s.heap.get? p.1=some p.2/\H p.1=none/\p.1≠X.env.locals/\p.1∉X.fs/\∀v,p.2.data≠.cell v):Inv X pins' σ H s :=
 ⟨I.ok,I.os,I.bare,I.base,I.loc,I.cell,I.free,I.freeC,fun p hp=>(y11.mp hp).elim (fun z=>I.pin p (List.mem_append_left _ z)) (h p),I.hok,I.len⟩
theorem zgc {N:List Str} (hN:N.Nodup) {i j:Nat} {x:Str} (a:N[i]?=some x) (b:N[j]?=some x):i=j:=by
 obtain⟨h1,e1⟩:=y0l.mp a
 obtain⟨h2,e2⟩:=y0l.mp b
 exact (List.getElem_inj hN).mp (e1.trans e2.symm)
theorem zgz {M:Model} {A:Around} {E:Value->y04->Prop} {i:Nat} {x:Str} {v:V} {u:Value} {Q:Unit->y04->Prop} (I:Inv X pins σ H s) (hN:X.N.Nodup) (hi:X.N[i]?=some x) (hx:Loc X.env.scope x) (r:RelV v u)
  (h:∀s',Inv X pins (σ.set i (some v)) H s'->(∃a,Heap.SameBut a s.heap s'.heap/\(a=X.env.locals\/X.env.cells.lookup x=some a))->Q () s') (hf:X.fn x=true\/X.env.scope.names.lookup x=some .local:=by first|exact .inl rfl|exact .inr rfl|assumption):y0u M A (storeName X.env x u) Q E s:=by
 obtain⟨m,hn,hl⟩:=id I.loc
 have hcls:(X.env.scope.kind == .class || (X.env.scope.kind == .module && X.env.locals != X.env.globals))=false:=by rw[I.ok.kind];rfl
 have hiσ:i<σ.length:=by rw[I.len];exact (y0l.mp hi).1
 have cne:=I.cne
 have tracked:∀{a:Addr} {h':Heap},(∃o,s.heap.get? a=some o/\H a=none)->Heap.SameBut a s.heap h'->HOk X.prog X.w H h':=fun {a h'} ha hs b ob e=>by
  obtain⟨_,_,hfree⟩:=ha
  refine (I.hok b ob e).stay (fun c w' hc q=>(hs.2 c ?_).trans q) (fun _ q=>q) fun _ _ q=>q
  rintro rfl
  rcases hc with rfl|hc
  ·rw[hfree] at e;cases e
  ·rw[hfree] at hc;cases hc
 rcases hx with hk|hk
 ·refine wpAny_storeName_local hk hn (fun h' hn' hs=>?_) hcls
  obtain⟨oL,_,_,hoL,_⟩:=id hn
  refine h _ ⟨I.ok,I.os,I.bare,⟨fun b o e n hb hx=>?_,fun b o e n hb hx=>?_,I.base.free,fun b o e hx=>?_,I.base.tups,I.base.frzs,I.base.tbls⟩,⟨_,hn',fun j y v' e1 e2 e3=>?_⟩,fun y c e=>?_,I.free,I.freeC,fun p hp=>?_,tracked ⟨oL,hoL,I.free⟩ hs,by simpa using I.len⟩ ⟨_,hs,.inl rfl⟩
  ·exact (hs.2 b (y0y (y0x (y0c e) I.ok.above))).trans (I.base.keep b o e n hb hx)
  ·obtain⟨sl,e1⟩:=I.base.slot b o e n hb hx
   exact⟨sl,(hs.2 b (y0y (y0x (y0c e) I.ok.above))).trans e1⟩
  ·obtain⟨o',e1⟩:=I.base.there b o e hx
   exact⟨o',(hs.2 b (y0y (y0x (y0c e) I.ok.above))).trans e1⟩
  ·by_cases hj:j=i
   ·subst hj
    rw[hi] at e1;cases e1
    rw[List.getElem?_set_self hiσ] at e2
    cases e2
    exact⟨u,r,.inl ⟨hk,by simp⟩⟩
   ·rw[List.getElem?_set_ne (Ne.symm hj)] at e2
    obtain⟨u',r',q⟩:=hl j y v' e1 e2 e3
    refine⟨u',r',?_⟩
    rcases q with ⟨k,e⟩|⟨k,c,e,z⟩
    ·refine .inl ⟨k,?_⟩
     have:y≠x:=fun e=>hj (zgc hN e1 (e▸hi))
     simp[this,e]
    ·exact .inr ⟨k,c,e,z.sameBut hs (cne y c e)⟩
  ·obtain⟨w',z⟩:=I.cell y c e
   exact⟨w',z.sameBut hs (cne y c e)⟩
  ·obtain⟨e,n,ne,nf,d⟩:=I.pin p hp
   exact⟨(hs.2 p.1 ne).trans e,n,ne,nf,d⟩
 ·have hfn:X.fn x=true:=by
   rcases hf with z|z
   ·exact z
   ·rw[z] at hk;cases hk
  obtain⟨c,hc⟩:=I.ok.has x (.inl hk)
  obtain⟨w',z⟩:=I.cell x c hc
  refine wpAny_storeName_cell I.ok.kind hk hc z (fun h' hc' hs=>?_)
  obtain⟨oc,hoc,hocd⟩:=id z
  refine h { s with heap:=h' } ⟨I.ok,I.os,I.bare,⟨fun b o e n hb hx=>?_,fun b o e n hb hx=>?_,I.base.free,fun b o e hx=>?_,I.base.tups,I.base.frzs,I.base.tbls⟩,⟨m,hn.sameBut hs (Ne.symm (cne x c hc)),fun j y v' e1 e2 e3=>?_⟩,fun y c' e=>?_,I.free,I.freeC,fun p hp=>?_,tracked ⟨oc,hoc,I.freeC x c hc⟩ hs,by simpa using I.len⟩ ⟨c,hs,.inr hc⟩
  ·exact (hs.2 b (y0y (y0x (y0c e) (I.ok.cab x c hfn hc)))).trans (I.base.keep b o e n hb hx)
  ·obtain⟨sl,e1⟩:=I.base.slot b o e n hb hx
   exact⟨sl,(hs.2 b (y0y (y0x (y0c e) (I.ok.cab x c hfn hc)))).trans e1⟩
  ·obtain⟨o',e1⟩:=I.base.there b o e hx
   exact⟨o',(hs.2 b (y0y (y0x (y0c e) (I.ok.cab x c hfn hc)))).trans e1⟩
  ·by_cases hj:j=i
   ·subst hj
    rw[hi] at e1;cases e1
    rw[List.getElem?_set_self hiσ] at e2
    cases e2
    exact⟨u,r,.inr ⟨.inl hk,c,hc,hc'⟩⟩
   ·rw[List.getElem?_set_ne (Ne.symm hj)] at e2
    obtain⟨u',r',q⟩:=hl j y v' e1 e2 e3
    refine⟨u',r',?_⟩
    rcases q with q|⟨k,c',e,z'⟩
    ·exact .inl q
    ·refine .inr ⟨k,c',e,z'.sameBut hs ?_⟩
     rintro rfl
     exact hj (zgc hN e1 (I.ok.inj _ _ _ e hc▸hi))
  ·by_cases hcc:c'=c
   ·subst hcc;exact⟨_,hc'⟩
   ·obtain⟨w2,z2⟩:=I.cell y c' e
    exact⟨w2,z2.sameBut hs hcc⟩
  ·obtain⟨e,n,ne,nf,d⟩:=I.pin p hp
   refine⟨(hs.2 p.1 ?_).trans e,n,ne,nf,d⟩
   intro q
   rw[q,hoc] at e
   have q':oc=p.2:=y2i e
   exact d w' (by rw[<- q'];exact hocd)
theorem zfu {M:Model} {A:Around} {E:Value->y04->Prop} {i:Nat} {x:Str} {v:V} {u:Value} {Q:Unit->y04->Prop} (I:Inv X pins σ H s) (hN:X.N.Nodup) (hi:X.N[i]?=some x) (hx:Loc X.env.scope x) (r:RelV v u)
  (h:∀s',Inv X pins (σ.set i (some v)) H s'->Q () s') (hf:X.fn x=true\/X.env.scope.names.lookup x=some .local:=by first|exact .inl rfl|exact .inr rfl|assumption):y0u M A (storeName X.env x u) Q E s :=
 zgz I hN hi hx r (fun s' I' _=>h s' I') hf
theorem Inv.call' {s':y04} {ch:List Addr} (I:Inv X pins σ H s) (ho:s'.os=s.os) (u:Un (frs X.stack) ch H H' s.heap s'.heap) (hok:HOk X.prog X.w H' s'.heap) (hg:AllBare s'.gens)
  (hch:∀b∈ch,(b∈X.ex\/X.s₀.heap.objs.size<=b)/\b≠X.env.locals/\(∀x c,X.env.cells.lookup x=some c->c≠b)/\∀p∈X.pn++pins,p.1≠b):Inv X pins σ H' s':=by
 obtain⟨h',g',d',t',o'⟩:=s'
 have e:o'=s.os:=ho
 subst e
 exact I.call (g':=g') (t':=t') (d':=d') u hok hg hch
end
abbrev XK:=Value->Option Addr->Hp->Prop
abbrev St:=List (Option V)
abbrev VK:=V->Hp->Prop
abbrev TE:=St->Hp->VK->Prop
abbrev TT:=St->Hp->(Bool->Hp->Prop)->Prop
abbrev TA:=St->Hp->(List V->Hp->Prop)->Prop
structure Ends where
 nx:St->Hp->Prop
 rt:VK
 bk:St->Hp->Prop:=fun _ _=>False
 ct:St->Hp->Prop:=fun _ _=>False
abbrev TS:=Ends->St->Hp->Prop
def EP (X:Cx) (pins:List (Addr×Obj)) (σ:St) (Q:VK) (u:Value) (s':y04):Prop:=∃v H',Inv X pins σ H' s'/\RelV v u/\Q v H'
def TP (X:Cx) (pins:List (Addr×Obj)) (σ:St) (Q:Bool->Hp->Prop) (b:Bool) (s':y04):Prop:=∃H',Inv X pins σ H' s'/\Q b H'
def AP (X:Cx) (pins:List (Addr×Obj)) (σ:St) (Q:List V->Hp->Prop) (us:List Value) (s':y04):Prop:=∃vs H',Inv X pins σ H' s'/\Vals vs us/\Q vs H'
noncomputable def SP (X:Cx) (pins:List (Addr×Obj)) (D:Ends) (f:Flow) (s':y04):Prop :=
 match f with
 | .next=>∃σ' H',Inv X pins σ' H' s'/\D.nx σ' H'
 | .brk=>∃σ' H',Inv X pins σ' H' s'/\D.bk σ' H'
 | .cont=>∃σ' H',Inv X pins σ' H' s'/\D.ct σ' H'
 | .ret u=>∃v σ' H',Inv X pins σ' H' s'/\RelV v u/\D.rt v H'
noncomputable def PE (X:Cx) (e:Expr) (t:TE):Prop :=
 ∀(pins:List (Addr×Obj)) (s:y04) (σ:St) (H:Hp) (Q:VK),Inv X pins σ H s->t σ H Q->y0u (model X.prog X.w) X.A (eval e X.env) (EP X pins σ Q) X.xe s
noncomputable def PT (X:Cx) (e:Expr) (t:TT):Prop :=
 ∀(pins:List (Addr×Obj)) (s:y04) (σ:St) (H:Hp) (Q:Bool->Hp->Prop),Inv X pins σ H s->t σ H Q->y0u (model X.prog X.w) X.A (isTrue e X.env (eval e X.env)) (TP X pins σ Q) X.xe s
noncomputable def PW (X:Cx) (e:Expr) (t:TT):Prop :=
 ∀(whole:Sem Value) (pins:List (Addr×Obj)) (s:y04) (σ:St) (H:Hp) (Q:Bool->Hp->Prop),Inv X pins σ H s->t σ H Q->y0u (model X.prog X.w) X.A (isTrue e X.env whole) (TP X pins σ Q) X.xe s
theorem PW.pt {X:Cx} {e:Expr} {t:TT} (h:PW X e t):PT X e t:=h _
noncomputable def PA (X:Cx) (es:List Expr) (t:TA):Prop :=
 ∀(pos:Pos) (pins:List (Addr×Obj)) (s:y04) (σ:St) (H:Hp) (Q:List V->Hp->Prop),Inv X pins σ H s->t σ H Q->y0u (model X.prog X.w) X.A (spliced (backTo pos (y0a es X.env))) (AP X pins σ Q) X.xe s
noncomputable def PS (X:Cx) (st:Stmt) (t:TS):Prop :=
 ∀(pins:List (Addr×Obj)) (s:y04) (σ:St) (H:Hp) (D:Ends),Inv X pins σ H s->t D σ H->y0u (model X.prog X.w) X.A (exec st X.env) (SP X pins D) X.xe s
noncomputable def PSs (X:Cx) (st:List Stmt) (t:TS):Prop :=
 ∀(pins:List (Addr×Obj)) (s:y04) (σ:St) (H:Hp) (D:Ends),Inv X pins σ H s->t D σ H->y0u (model X.prog X.w) X.A (execs st X.env) (SP X pins D) X.xe s
theorem thn {α:Type} {t:Sem α} {Q Q':α->y04->Prop} {M:Model} {A:Around} {E:Value->y04->Prop} {s:y04} (h:y0u M A t Q E s) (hQ:∀a s,Q a s->Q' a s):y0u M A t Q' E s:=y1e h hQ fun _ _ x=>x
end L2
namespace L2
open PySem PySem.Spec PyProof.Rows
section
variable {X:Cx}
def tVar (i:Nat):TE:=fun σ H Q=>∃v,σ[i]?=some (some v)/\Q v H
def tC (v:V):TE:=fun _ H Q=>Q v H
theorem zwf {i:Nat} {x:Str} {pos:Pos} (hN:X.N[i]?=some x) (hv:Vis X.env.scope x) (hd:(x == ("__debug__":Str))=false:=by decide) (hcd:(x == ("__classdict__":Str))=false:=by decide):PE X (.Name x pos) (tVar i):=by
 intro pins s σ H Q I h
 obtain⟨v,e,h⟩:=h
 obtain⟨m,hn,hl⟩:=I.loc
 obtain⟨u,r,l⟩:=hl i x v hN e hv
 have fin:EP X pins σ Q u s:=⟨v,H,I,r,h⟩
 rcases l with ⟨hk,hm⟩|⟨hk,c,hc,hcell⟩
 ·exact wpAny_Name (wpAny_loadName_local I.ok.kind hk hn hm fin) hd
 ·rcases hk with hk|hk
  ·exact wpAny_Name (wpAny_loadName_cell I.ok.kind hk hc hcell fin) hd
  ·exact wpAny_Name (wpAny_loadName_free I.ok.kind hk hc hcell fin hcd) hd
theorem znl {i j pos}:PE X (.Constant (.int i) j pos) (tC (.int i)):=fun _ _ _ H _ I h=>wpAny_Constant_int ⟨.int i,H,I.tok _,⟨_,rfl⟩,h⟩
theorem zu5 {b j pos}:PE X (.Constant (.bool b) j pos) (tC (.bl b)):=fun _ _ _ H _ I h=>Constant_bool ⟨.bl b,H,I,rfl,h⟩
theorem zwh {j pos}:PE X (.Constant .none j pos) (tC .non):=fun _ _ _ H _ I h=>Constant_none ⟨.non,H,I,rfl,h⟩
theorem zhg {x j pos}:PE X (.Constant (.str x) j pos) (tC (.str x)):=fun _ _ _ H _ I h=>Calls.Constant_str ⟨.str x,H,I.tok _,⟨_,rfl⟩,h⟩
def Gl (X:Cx) (x:Str):Prop:=X.env.kindOf x=some .globalImplicit
theorem z9y {E:Value->y04->Prop} {pins:List (Addr×Obj)} {s:y04} {σ:St} {H:Hp} {x:Str} {u:Value} {pos:Pos} {Q:Value->y04->Prop} (I:Inv X pins σ H s) (hg:Gl X x) (hm:X.mg x=some u) (h:Q u s)
  (hd:(x == ("__debug__":Str))=false:=by decide):y0u (model X.prog X.w) X.A (eval (.Name x pos) X.env) Q E s :=
 Calls.Name_function_global I.ok.kind hg (Calls.loadGlobal_global (by rw[I.ok.glob];exact I.mod.glob.keeps I.bk) hm h) hd
theorem zc1 {E:Value->y04->Prop} {pins:List (Addr×Obj)} {s:y04} {σ:St} {H:Hp} {x:Str} {u:Value} {pos:Pos} {Q:Value->y04->Prop} (I:Inv X pins σ H s) (hg:Gl X x) (hm:X.mg x=none) (hv:bootBuiltins x=some u) (h:Q u s)
  (hn:x≠"__name__":=by decide) (hd:(x == ("__debug__":Str))=false:=by decide):y0u (model X.prog X.w) X.A (eval (.Name x pos) X.env) Q E s:=by
 obtain⟨mb,h1,h2⟩:=I.mod.blt
 exact Calls.Name_function_global I.ok.kind hg (Calls.loadGlobal_builtin (by rw[I.ok.glob];exact I.mod.glob.keeps I.bk) hm (by rw[I.ok.blt];exact h1.keeps I.bk) ((h2 x hn).trans hv) h) hd
theorem zbf {x:Str} {v:V} {u:Value} {pos:Pos} (hg:Gl X x) (hm:X.mg x=some u) (r:RelV v u) (hd:(x == ("__debug__":Str))=false:=by decide):PE X (.Name x pos) (tC v) :=
 fun _ _ _ H _ I h=>z9y I hg hm ⟨v,H,I,r,h⟩ hd
theorem zu4 {x:Str} {v:V} {u:Value} {pos:Pos} (hg:Gl X x) (hm:X.mg x=none) (hv:bootBuiltins x=some u) (r:RelV v u) (hn:x≠"__name__":=by decide) (hd:(x == ("__debug__":Str))=false:=by decide):PE X (.Name x pos) (tC v) :=
 fun _ _ _ H _ I h=>zc1 I hg hm hv ⟨v,H,I,r,h⟩ hn hd
variable {a b:Expr} {ta tb:TE} {pos:Pos}
noncomputable def PC (X:Cx) (op:CmpOp) (a b:Expr) (t:TE):Prop :=
 ∀(pins:List (Addr×Obj)) (s:y04) (σ:St) (H:Hp) (Q:VK),Inv X pins σ H s->t σ H Q ->
  y0u (model X.prog X.w) X.A (eval a X.env) (fun v s₁=>y0u (model X.prog X.w) X.A (eval b X.env) (fun u s₂=>y0u (model X.prog X.w) X.A (compareOp op v u) (EP X pins σ Q) X.xe s₂) X.xe s₁) X.xe s
theorem zqt (b:Expr) {op:CmpOp} (h:op≠.In) (h2:op≠.NotIn):behindInMarks op b=false:=by
 have e1:(op == CmpOp.In)=false:=by cases op <;> first|rfl|exact absurd rfl h
 have e2:(op == CmpOp.NotIn)=false:=by cases op <;> first|rfl|exact absurd rfl h2
 cases b <;> simp[behindInMarks,e1,e2]
def tIsN (ta:TE):TE:=fun σ H Q=>ta σ H fun x H1=>Q (.bl (decide (x=.non))) H1
def zxs (ta:TE):TE:=fun σ H Q=>ta σ H fun x H1=>Q (.bl (!decide (x=.non))) H1
theorem RelV.none_iff {x:V} {v:Value} (r:RelV x v):(v == Value.none)=decide (x=.non):=by
 cases x with
 | non=>cases r;rfl
 | bl _=>cases r;rfl
 | int _=>obtain⟨t,rfl⟩:=r;rfl
 | str _=>obtain⟨t,rfl⟩:=r;rfl
 | byt _=>obtain⟨t,rfl⟩:=r;rfl
 | flt _=>obtain⟨t,rfl⟩:=r;rfl
 | ref _=>cases r;rfl
 | ty _=>cases r;rfl
theorem zwj {j pos'} (ha:PE X a ta):PC X .Is a (.Constant .none j pos') (tIsN ta):=by
 intro pins s σ H Q I h
 refine thn (ha pins s σ H _ I h) fun v s1 ⟨x,H1,I1,r1,q1⟩=>?_
 exact Constant_none (is_none_gen ⟨.bl _,H1,I1,by rw[r1.none_iff];rfl,q1⟩)
theorem zu6 {j pos'} (ha:PE X a ta):PC X .IsNot a (.Constant .none j pos') (zxs ta):=by
 intro pins s σ H Q I h
 refine thn (ha pins s σ H _ I h) fun v s1 ⟨x,H1,I1,r1,q1⟩=>?_
 exact Constant_none (isnot_none_gen ⟨.bl _,H1,I1,by rw[r1.none_iff];rfl,q1⟩)
def tB (t:TE):TT:=fun σ H Q=>t σ H fun x H1=>∃c,x=.bl c/\Q c H1
theorem zsb {op:CmpOp} {t:TE} (h:PC X op a b t) (h1:behindInMarks op b=false:=by first|exact zqt _ (by decide) (by decide)|rfl):PT X (.Compare a [op] [b] pos) (tB t):=by
 intro pins s σ H Q I hw
 refine wpAny_isTrue_Compare1 (thn (h pins s σ H _ I hw) fun v s1 h1=>thn h1 fun u s2 h2=>thn h2 fun c s3 ⟨x,H1,I1,r1,q1⟩=>?_) h1
 obtain⟨d,rfl,q⟩:=q1
 cases r1
 exact wpAny_truthy_bool ⟨H1,I1,q⟩
theorem zsa {e:Expr} {t:TE} (h:PE X e t) (he:∀whole,isTrue e X.env whole=(do let v <- whole;standAt e.pos;holding [v] (truthy v)):=by intro _;rfl):PT X e (tB t):=by
 intro pins s σ H Q I hw
 refine isTrue_plain (thn (h pins s σ H _ I hw) fun v s1 ⟨x,H1,I1,r1,q1⟩=>?_) (he _)
 obtain⟨d,rfl,q⟩:=q1
 cases r1
 exact wpAny_truthy_bool ⟨H1,I1,q⟩
variable {tA tB':TT} {rest:List Expr}
def tAnd (t u:TT):TT:=fun σ H Q=>t σ H fun c H1=>if c=true then u σ H1 Q else Q false H1
def tOr (t u:TT):TT:=fun σ H Q=>t σ H fun c H1=>if c=true then Q true H1 else u σ H1 Q
def tNot (t:TT):TT:=fun σ H Q=>t σ H fun c H1=>Q (!c) H1
theorem zne (ha:PT X a tA):PW X (.BoolOp .And [a] pos) tA:=by
 intro wh pins s σ H Q I h
 refine isTrue_and (thn (ha pins s σ H Q I h) fun c s1 e=>?_)
 cases c with
 | true=>exact isTrue_and_nil e
 | false=>exact e
theorem zw7 (ha:PT X a tA):PW X (.BoolOp .Or [a] pos) tA:=by
 intro wh pins s σ H Q I h
 refine isTrue_or (thn (ha pins s σ H Q I h) fun c s1 e=>?_)
 cases c with
 | false=>exact isTrue_or_nil e
 | true=>exact e
theorem zs9 (ha:PT X a tA) (hb:PW X (.BoolOp .And (b::rest) pos) tB'):PW X (.BoolOp .And (a::b::rest) pos) (tAnd tA tB'):=by
 intro wh pins s σ H Q I h
 refine isTrue_and (thn (ha pins s σ H _ I h) fun c s1 ⟨H1,I1,q1⟩=>?_)
 cases c with
 | true=>exact hb wh pins s1 σ H1 Q I1 q1
 | false=>exact⟨H1,I1,q1⟩
theorem zy9 (ha:PT X a tA) (hb:PW X (.BoolOp .Or (b::rest) pos) tB'):PW X (.BoolOp .Or (a::b::rest) pos) (tOr tA tB'):=by
 intro wh pins s σ H Q I h
 refine isTrue_or (thn (ha pins s σ H _ I h) fun c s1 ⟨H1,I1,q1⟩=>?_)
 cases c with
 | true=>exact⟨H1,I1,q1⟩
 | false=>exact hb wh pins s1 σ H1 Q I1 q1
theorem zwa (ha:PT X a tA):PT X (.UnaryOp .Not a pos) (tNot tA):=by
 intro pins s σ H Q I h
 exact isTrue_not (ha pins s σ H (fun c H1=>Q (!c) H1) I h)
def zxx (ta tb:TE):TE:=fun σ H Q=>ta σ H fun x H1=>∃c,x=.bl c/\if c=true then tb σ H1 Q else Q (.bl false) H1
def tOrV (ta tb:TE):TE:=fun σ H Q=>ta σ H fun x H1=>∃c,x=.bl c/\if c=true then Q (.bl true) H1 else tb σ H1 Q
theorem zsc {op} {t:TE} (h:PE X a t):PE X (.BoolOp op [a] pos) t:=fun pins s σ H Q I hw=>BoolOp_one (h pins s σ H Q I hw)
theorem zwi (ha:PE X a ta) (hb:PE X (.BoolOp .And (b::rest) pos) tb):PE X (.BoolOp .And (a::b::rest) pos) (zxx ta tb):=by
 intro pins s σ H Q I h
 refine BoolOp_and (thn (ha pins s σ H _ I h) fun v s1 ⟨x,H1,I1,r1,q1⟩=>?_)
 obtain⟨c,rfl,q1⟩:=q1
 cases r1
 refine wpAny_truthy_bool ?_
 cases c with
 | true=>exact hb pins s1 σ H1 Q I1 q1
 | false=>exact⟨.bl false,H1,I1,rfl,q1⟩
theorem zyb (ha:PE X a ta) (hb:PE X (.BoolOp .Or (b::rest) pos) tb):PE X (.BoolOp .Or (a::b::rest) pos) (tOrV ta tb):=by
 intro pins s σ H Q I h
 refine BoolOp_or (thn (ha pins s σ H _ I h) fun v s1 ⟨x,H1,I1,r1,q1⟩=>?_)
 obtain⟨c,rfl,q1⟩:=q1
 cases r1
 refine wpAny_truthy_bool ?_
 cases c with
 | false=>exact hb pins s1 σ H1 Q I1 q1
 | true=>exact⟨.bl true,H1,I1,rfl,q1⟩
def tIf (t:TT) (ta tb:TE):TE:=fun σ H Q=>t σ H fun c H1=>if c=true then ta σ H1 Q else tb σ H1 Q
theorem zqk {c:Expr} (hc:PT X c tA) (ha:PE X a ta) (hb:PE X b tb):PE X (.IfExp c a b pos) (tIf tA ta tb):=by
 intro pins s σ H Q I h
 refine wpAny_IfExp (thn (hc pins s σ H _ I h) fun d s1 ⟨H1,I1,q1⟩=>?_)
 cases d with
 | true=>exact ha pins s1 σ H1 Q I1 q1
 | false=>exact hb pins s1 σ H1 Q I1 q1
end
end L2
namespace L2
open PySem PySem.Spec PyProof.Rows
noncomputable def SqL (K:y00) (H:Hp) (a:Addr) (xs:List V):Prop :=
 Rd H a (.lst xs) \/
  ∃(o:Obj) (its:Array Value) (n:Nat),K.lookup a=some o/\o.cls=.type "list"/\o.dict=none/\o.data=.seq its n/\its.size<=y0k/\Vals xs its.toList
noncomputable def SqT (K:y00) (H:Hp) (a:Addr) (xs:List V):Prop :=
 Rd H a (.tup xs) \/
  ∃(o:Obj) (its:Array Value) (n:Nat),K.lookup a=some o/\o.cls=.type "tuple"/\o.data=.seq its n/\its.size<=y0k/\Vals xs its.toList
noncomputable def absV:Value->Option V
 | .none=>some .non
 | .bool b=>some (.bl b)
 | .int i _=>some (.int i)
 | .str x _=>some (.str x)
 | .bytes b _=>some (.byt b)
 | .float b _=>some (.flt b)
 | .ref a=>some (.ref a)
 | .type n=>some (.ty n)
 | _=>none
theorem RelV.abs {x:V} {u:Value} (r:RelV x u):absV u=some x:=by
 cases x with
 | non=>cases r;rfl
 | bl _=>cases r;rfl
 | int _=>obtain⟨t,rfl⟩:=r;rfl
 | str _=>obtain⟨t,rfl⟩:=r;rfl
 | byt _=>obtain⟨t,rfl⟩:=r;rfl
 | flt _=>obtain⟨t,rfl⟩:=r;rfl
 | ref _=>cases r;rfl
 | ty _=>cases r;rfl
theorem RelV.inj {x y:V} {u:Value} (r:RelV x u) (q:RelV y u):x=y:=y2i (r.abs.symm.trans q.abs)
theorem Vals.inj:∀{xs ys:List V} {us:List Value},Vals xs us->Vals ys us->xs=ys
 | _,_,_,.nil,.nil=>rfl
 | _,_,_,.cons r t,.cons r' t'=>by rw[r.inj r',Vals.inj t t']
section
variable {X:Cx} {pins:List (Addr×Obj)} {σ:St} {H:Hp} {s:y04} {a:Addr} {xs ys:List V}
theorem SqL.of {K:y00} (h:H a=some (.lst xs)):SqL K H a xs:=.inl (.inl h)
theorem SqT.of {K:y00} (h:H a=some (.tup xs)):SqT K H a xs:=.inl (.inl h)
theorem Inv.list (I:Inv X pins σ H s) (h:SqL X.K H a xs):∃its:List Value,Vals xs its/\PlainL s.heap a its.toArray/\xs.length<=y0k:=by
 rcases h with h|⟨o,its,n,hk,hc,hd,hs,hz,r⟩
 ·obtain⟨z,its,n,r,e⟩:=h.ok I.hok
  exact⟨its,r,⟨_,n,e,rfl,rfl,rfl⟩,z⟩
 ·refine⟨its.toList,r,⟨o,n,I.kIn a o hk,hc,hd,by simpa using hs⟩,?_⟩
  have e:=r.length
  simp only[y23] at e
  omega
theorem Inv.tuple (I:Inv X pins σ H s) (h:SqT X.K H a xs):∃its:List Value,Vals xs its/\IsTup s.heap a its.toArray/\xs.length<=y0k:=by
 rcases h with h|⟨o,its,n,hk,hc,hs,hz,r⟩
 ·obtain⟨z,its,r,p⟩:=h.ok I.hok
  exact⟨its,r,p,z⟩
 ·refine⟨its.toList,r,⟨o,I.kIn a o hk,hc,n,by simpa using hs⟩,?_⟩
  have e:=r.length
  simp only[y23] at e
  omega
theorem Inv.list_inj (I:Inv X pins σ H s) (h:SqL X.K H a xs) (h':SqL X.K H a ys):xs=ys:=by
 obtain⟨its,r,⟨o,n,e,_,_,d⟩,_⟩:=I.list h
 obtain⟨its',r',⟨o',n',e',_,_,d'⟩,_⟩:=I.list h'
 rw[e] at e';cases e'
 rw[d] at d'
 injection d' with d1 _
 have:its=its':=by simpa using congrArg Array.toList d1
 subst this
 exact r.inj r'
theorem Inv.tuple_inj (I:Inv X pins σ H s) (h:SqT X.K H a xs) (h':SqT X.K H a ys):xs=ys:=by
 obtain⟨its,r,⟨o,e,_,n,d⟩,_⟩:=I.tuple h
 obtain⟨its',r',⟨o',e',_,n',d'⟩,_⟩:=I.tuple h'
 rw[e] at e';cases e'
 rw[d] at d'
 injection d' with d1 _
 have:its=its':=by simpa using congrArg Array.toList d1
 subst this
 exact r.inj r'
end
abbrev Cx.wish (X:Cx) (E:Value->y04->Prop):Cx:={ X with xe:=E }
abbrev Cx.nox (X:Cx):Cx:=X.wish fun _ _=>False
theorem Cx.Ok.wish {X:Cx} (ok:X.Ok) (E:Value->y04->Prop):(X.wish E).Ok :=
 ⟨ok.mod,ok.kind,ok.glob,ok.blt,ok.above,ok.inj,ok.has,ok.cab,ok.hd,ok.frames,ok.stk,ok.exf,ok.bs,ok.bsz,ok.noex,ok.exfs,ok.funs,ok.frf⟩
theorem Cx.Ok.unwish {X:Cx} {E:Value->y04->Prop} (ok:(X.wish E).Ok):X.Ok :=
 ⟨ok.mod,ok.kind,ok.glob,ok.blt,ok.above,ok.inj,ok.has,ok.cab,ok.hd,ok.frames,ok.stk,ok.exf,ok.bs,ok.bsz,ok.noex,ok.exfs,ok.funs,ok.frf⟩
section
variable {X:Cx} {pins:List (Addr×Obj)} {σ:St} {H:Hp} {s:y04} {E:Value->y04->Prop}
theorem Inv.wish (I:Inv X pins σ H s) (E:Value->y04->Prop):Inv (X.wish E) pins σ H s:=⟨I.ok.wish E,I.os,I.bare,I.base,I.loc,I.cell,I.free,I.freeC,I.pin,I.hok,I.len⟩
theorem Inv.unwish (I:Inv (X.wish E) pins σ H s):Inv X pins σ H s:=⟨I.ok.unwish,I.os,I.bare,I.base,I.loc,I.cell,I.free,I.freeC,I.pin,I.hok,I.len⟩
theorem SP.unwish {D:Ends} {f:Flow} {s':y04} (h:SP (X.wish E) pins D f s'):SP X pins D f s':=by
 cases f with
 | next=>obtain⟨σ',H',I,q⟩:=h;exact⟨σ',H',I.unwish,q⟩
 | brk=>obtain⟨σ',H',I,q⟩:=h;exact⟨σ',H',I.unwish,q⟩
 | cont=>obtain⟨σ',H',I,q⟩:=h;exact⟨σ',H',I.unwish,q⟩
 | ret u=>obtain⟨v,σ',H',I,r,q⟩:=h;exact⟨v,σ',H',I.unwish,r,q⟩
theorem PE.nox {e:Expr} {t:TE} (h:PE X.nox e t):PE X e t:=fun pins s σ H Q I hw =>
 y1e (h pins s σ H Q (I.wish _) hw) (fun _ _ ⟨v,H',I',r,q⟩=>⟨v,H',I'.unwish,r,q⟩) fun _ _ z=>y20 z
theorem PT.nox {e:Expr} {t:TT} (h:PT X.nox e t):PT X e t:=fun pins s σ H Q I hw =>
 y1e (h pins s σ H Q (I.wish _) hw) (fun _ _ ⟨H',I',q⟩=>⟨H',I'.unwish,q⟩) fun _ _ z=>y20 z
theorem PSs.nox {st:List Stmt} {t:TS} (h:PSs X.nox st t):PSs X st t:=fun pins s σ H D I hw =>
 y1e (h pins s σ H D (I.wish _) hw) (fun _ _ q=>q.unwish) fun _ _ z=>y20 z
end
section
variable {X:Cx} {st:Stmt} {rest:List Stmt} {t u:TS} {e:Expr} {te:TE} {pos:Pos}
def zvk:TS:=fun D σ H=>D.nx σ H
def tSeq (t u:TS):TS:=fun D σ H=>t { D with nx:=u D } σ H
theorem znf:PSs X [] zvk:=fun _ _ σ H _ I h=>wpAny_execs_nil ⟨σ,H,I,h⟩
theorem z73 (h1:PS X st t) (h2:PSs X rest u):PSs X (st::rest) (tSeq t u):=by
 intro pins s σ H D I h
 refine wpAny_execs_cons (thn (h1 pins s σ H { D with nx:=u D } I h) fun f s1 q=>?_)
 cases f with
 | next =>
  obtain⟨σ',H',I',q⟩:=q
  exact h2 pins s1 σ' H' D I' q
 | ret v=>exact q
 | brk=>exact q
 | cont=>exact q
theorem z9u (h1:PS X st t):PSs X [st] t:=by
 intro pins s σ H D I h
 refine wpAny_execs_cons (thn (h1 pins s σ H D I h) fun f s1 q=>?_)
 cases f with
 | next=>exact wpAny_execs_nil q
 | ret v=>exact q
 | brk=>exact q
 | cont=>exact q
theorem Inv.quiet {pins:List (Addr×Obj)} {σ:St} {H:Hp} {s:y04} (I:Inv X pins σ H s):interactive X.env=false:=by simp[interactive,I.ok.kind]
def zxu (te:TE):TS:=fun D σ H=>te σ H fun _ H1=>D.nx σ H1
theorem zbe (he:PE X e te) (hs:swapsWith e none pos.line X.env=pure false:=by rfl):PS X (.Expr e pos) (zxu te):=by
 intro pins s σ H D I h
 exact wpAny_Expr_any (thn (he pins s σ H _ I h) fun v s1 ⟨x,H1,I1,r1,q1⟩=>⟨σ,H1,I1,q1⟩) I.quiet hs
def tRet (te:TE):TS:=fun D σ H=>te σ H D.rt
theorem zd2 (he:PE X e te):PS X (.Return (some e) pos) (tRet te):=by
 intro pins s σ H D I h
 exact wpAny_Return_some (thn (he pins s σ H _ I h) fun v s1 ⟨x,H1,I1,r1,q1⟩=>⟨x,σ,H1,I1,r1,q1⟩)
def zxq:TS:=fun D _ H=>D.rt .non H
theorem ztr:PS X (.Return none pos) zxq:=fun _ _ σ H _ I h=>wpAny_Return_none ⟨.non,σ,H,I,rfl,h⟩
def tIfS (c:TT) (t u:TS):TS:=fun D σ H=>c σ H fun b H1=>if b=true then t D σ H1 else u D σ H1
theorem zqg {c:Expr} {a b:List Stmt} {tc:TT} (hc:PT X c tc) (ha:PSs X a t) (hb:PSs X b u):PS X (.If c a b pos) (tIfS tc t u):=by
 intro pins s σ H D I h
 refine wpAny_If (thn (hc pins s σ H _ I h) fun d s1 ⟨H1,I1,q1⟩=>?_)
 cases d with
 | true=>exact ha pins s1 σ H1 D I1 q1
 | false=>exact hb pins s1 σ H1 D I1 q1
end
abbrev TG:=V->St->Hp->(St->Hp->Prop)->Prop
abbrev TGs:=List V->St->Hp->(St->Hp->Prop)->Prop
noncomputable def PG (X:Cx) (target:Expr) (t:TG):Prop :=
 ∀(pins:List (Addr×Obj)) (s:y04) (σ:St) (H:Hp) (v:V) (u:Value) (Q:St->Hp->Prop),Inv X pins σ H s->RelV v u->t v σ H Q ->
  y0u (model X.prog X.w) X.A (assign target X.env u) (fun _ s'=>∃σ' H',Inv X pins σ' H' s'/\Q σ' H') X.xe s
noncomputable def PGs (X:Cx) (ts:List Expr) (t:TGs):Prop :=
 ∀(pins:List (Addr×Obj)) (s:y04) (σ:St) (H:Hp) (vs:List V) (us:List Value) (Q:St->Hp->Prop),Inv X pins σ H s->Vals vs us->t vs σ H Q ->
  y0u (model X.prog X.w) X.A (assignInOrder ((assignEach ts X.env).map (·.2)) us) (fun _ s'=>∃σ' H',Inv X pins σ' H' s'/\Q σ' H') X.xe s
section
variable {X:Cx} {pos:Pos}
def zi3 (i:Nat):TG:=fun v σ H Q=>Q (σ.set i (some v)) H
theorem ztz {i:Nat} {x:Str} (hN:X.N.Nodup) (hi:X.N[i]?=some x) (hx:Loc X.env.scope x) (hf:X.fn x=true\/X.env.scope.names.lookup x=some .local:=by first|exact .inl rfl|exact .inr rfl|assumption):PG X (.Name x pos) (zi3 i):=by
 intro pins s σ H v u Q I r h
 exact wpAny_assign_Name (zfu I hN hi hx r (fun s' I'=>⟨_,H,I',h⟩) hf)
def gNil:TGs:=fun vs σ H Q=>vs=[]/\Q σ H
def zyi (t:TG) (u:TGs):TGs:=fun vs σ H Q=>∃v r,vs=v::r/\t v σ H fun σ' H'=>u r σ' H' Q
theorem zty:PGs X [] gNil:=by
 intro pins s σ H vs us Q I r h
 obtain⟨e,h⟩:=h
 subst e
 cases r
 exact assignInOrder_nil ⟨σ,H,I,h⟩
theorem zqi {e:Expr} {es:List Expr} {t:TG} {u:TGs} (h1:PG X e t) (h2:PGs X es u)
  (hs:(assignEach (e::es) X.env).map (·.2)=assign e X.env::(assignEach es X.env).map (·.2):=by rfl):PGs X (e::es) (zyi t u):=by
 intro pins s σ H vs us Q I r h
 obtain⟨v,vr,e1,h⟩:=h
 subst e1
 cases r with
 | cons r rr =>
  rw[hs]
  refine assignInOrder_cons (thn (h1 pins s σ H _ _ _ I r h) fun _ s1 ⟨σ1,H1,I1,q1⟩=>?_)
  exact h2 pins s1 σ1 H1 _ _ Q I1 rr q1
def gTup (K:y00) (n:Nat) (t:TGs):TG:=fun v σ H Q=>∃a xs,v=.ref a/\SqT K H a xs/\xs.length=n/\t xs σ H Q
theorem zwe {es:List Expr} {k:Nat} {t:TGs} {n:Nat} (hc:X.calm=true) (h:PGs X es t)
  (hn:(assignEach es X.env).length=n:=by rfl) (hst:(assignEach es X.env).findIdx? (·.1)=none:=by rfl):PG X (.Tuple es k pos) (gTup X.K n t):=by
 intro pins s σ H v u Q I r hw
 obtain⟨a,xs,e1,hq,hl,hw⟩:=hw
 subst e1
 cases r
 obtain⟨its,rv,ht,hz⟩:=I.tuple hq
 refine assign_Tuple_tuple (I.ok.hd hc) ht (by simp[hn,<- hl,rv.length]) hst fun h' hx=>?_
 have I1:Inv X pins σ H { s with heap:=h' }:=I.kept (t':=s.toks) fun b o e=>hx b o (y0y (y0c e)) e
 exact h pins _ σ H xs _ Q I1 (by simpa using rv) hw
def tAsg (te:TE) (g:TG):TS:=fun D σ H=>te σ H fun x H1=>g x σ H1 D.nx
theorem zd1 {i:Nat} {x:Str} {e:Expr} {te:TE} {pos':Pos} (hN:X.N.Nodup) (hi:X.N[i]?=some x) (hx:Loc X.env.scope x) (he:PE X e te) (hs:swapsWith e (some (.Name x pos')) pos.line X.env=pure false:=by rfl) (hf:X.fn x=true\/X.env.scope.names.lookup x=some .local:=by first|exact .inl rfl|exact .inr rfl|assumption) :
  PS X (.Assign [.Name x pos'] e pos) (tAsg te (zi3 i)):=by
 intro pins s σ H D I h
 refine wpAny_Assign_Name (thn (he pins s σ H _ I h) fun v s1 ⟨y,H1,I1,r1,q1⟩=>?_) hs
 exact zfu I1 hN hi hx r1 (fun s2 I2=>⟨_,H1,I2,q1⟩) hf
end
section
variable {X:Cx} {pos:Pos}
end
structure It where
 go:Nat->Hp->Prop
 yld:Nat->Hp->V->Hp->Prop
 stop:Nat->Hp->Prop
noncomputable def FpOk (X:Cx) (pins:List (Addr×Obj)) (H:Hp) (b:Addr):Prop :=
 H b=none/\b≠X.env.locals/\b∉X.fs/\(b∈X.ex\/X.s₀.heap.objs.size<=b)/\(∀x c,X.env.cells.lookup x=some c->c≠b)/\∀p∈X.pn++pins,p.1≠b
theorem Inv.fpOk {X:Cx} {pins:List (Addr×Obj)} {σ:St} {H H':Hp} {s:y04} {b:Addr} (I:Inv X pins σ H s) (hb:s.heap.objs.size<=b) (hn:H' b=none):FpOk X pins H' b:=by
 refine⟨hn,y16 (y0x I.lt hb),I.nofs hb,.inr (y1s I.sz hb),fun x c e z=>?_,fun p hp z=>?_⟩
 ·obtain⟨v,q⟩:=I.cell x c e
  exact absurd (y0x q.lt (by rw[z];exact hb)) (Nat.lt_irrefl _)
 ·exact absurd (y0x (y0c (I.pin p hp).1) (by rw[z];exact hb)) (Nat.lt_irrefl _)
structure Turn (P:y0r) (w:World) (K:y00) (tg:Expr) (J:It) (fp:List Addr) (it:Addr) (tn:Nat->Heap->Prop):Prop where
 mem:it∈fp
 obj:∀i h,tn i h->∀b∈fp,∃o,h.get? b=some o/\∀v,o.data≠.cell v
 keep:∀i h h',tn i h->(∀b∈fp,∀o,h.get? b=some o->h'.get? b=some o)->tn i h'
 item:∀(X:Cx),X.prog=P->X.w=w->X.K=K->X.calm=true->∀(i:Nat) (pins:List (Addr×Obj)) (s:y04) (σ:St) (H:Hp) (E:Value->y04->Prop),Inv X pins σ H s->(∀b∈fp,FpOk X pins H b)->tn i s.heap->J.go i H ->
  y0u (model P w) X.A (pyNext (.ref it)) (fun r s1=>∃u,r=some u /\
   y0u (model P w) X.A (letOwnedTupleGo tg (.ref it) u) (fun _ s2=>∃x H',Inv X pins σ H' s2/\RelV x u/\J.yld i H x H'/\tn (i+1) s2.heap/\∀b∈fp,H' b=none) E s1) E s
 done:∀(X:Cx),X.prog=P->X.w=w->X.K=K->X.calm=true->∀(i:Nat) (pins:List (Addr×Obj)) (s:y04) (σ:St) (H:Hp) (E:Value->y04->Prop),Inv X pins σ H s->(∀b∈fp,FpOk X pins H b)->tn i s.heap->J.stop i H ->
  y0u (model P w) X.A (pyNext (.ref it)) (fun r s1=>r=none/\Inv X pins σ H s1) E s
 self:∀(A:Around) (i:Nat) (s:y04) (Q:Value->y04->Prop) (E:Value->y04->Prop),tn i s.heap->Q (.ref it) s->y0u (model P w) A (pyIter (.ref it)) Q E s
abbrev TI:=St->Hp->(It->Hp->Prop)->Prop
noncomputable def PIE (X:Cx) (pins:List (Addr×Obj)) (σ:St) (tg:Expr) (R:It->Hp->Prop) (itv:Value) (s2:y04):Prop :=
 ∃(it:Addr) (fp:List Addr) (tn:Nat->Heap->Prop) (J:It) (H':Hp),itv=.ref it/\Inv X pins σ H' s2/\Turn X.prog X.w X.K tg J fp it tn/\tn 0 s2.heap/\(∀b∈fp,FpOk X pins H' b)/\R J H'
noncomputable def PI (X:Cx) (tg iter:Expr) (wi:TI):Prop :=
 ∀(pins:List (Addr×Obj)) (s:y04) (σ:St) (H:Hp) (R:It->Hp->Prop),Inv X pins σ H s->wi σ H R ->
  y0u (model X.prog X.w) X.A (eval iter X.env) (fun v s1=>y0u (model X.prog X.w) X.A (pyIter v) (PIE X pins σ tg R) X.xe s1) X.xe s
theorem zur {M:Model} {A:Around} {E:Value->y04->Prop} {s:y04} {tg:Expr} {it:Addr} {u:Value} {o:Obj} {n:String} {vs:Array Value} {Q:Unit->y04->Prop} (ho:s.heap.get? it=some o) (hc:o.cls=.type n) (hd:o.data=.fields vs)
    (hn:["enumerate","zip","dict_itemiterator","dict_reverseitemiterator","odict_iterator","itertools.zip_longest","itertools.pairwise"].contains n=false) (hQ:Q () s):y0u M A (letOwnedTupleGo tg (.ref it) u) Q E s:=by
  unfold letOwnedTupleGo
  cases tg <;> first
    | exact y06 hQ
    | (cases u <;> first
        | exact y06 hQ
        | (refine y02 (wpAny_load ho ?_)
           rw[hc,hd]
           show y0u M A (if (["enumerate","zip","dict_itemiterator","dict_reverseitemiterator","odict_iterator","itertools.zip_longest","itertools.pairwise"].contains n && vs[0]? == some (rawInt _))=true then _ else _) Q E s
           rw[if_neg (by intro h;rw[hn,Bool.false_and] at h;cases h)]
           exact y06 hQ))
noncomputable def Itl (K:y00) (a:Addr):It :=
 ⟨fun i H=>∃xs x,SqL K H a xs/\xs[i]?=some x,fun i H x H'=>H'=H/\∀xs,SqL K H a xs->xs[i]?=some x,fun i H=>∃xs,SqL K H a xs/\xs.length<=i⟩
noncomputable def Itt (K:y00) (a:Addr):It :=
 ⟨fun i H=>∃xs x,SqT K H a xs/\xs[i]?=some x,fun i H x H'=>H'=H/\∀xs,SqT K H a xs->xs[i]?=some x,fun i H=>∃xs,SqT K H a xs/\xs.length<=i⟩
def Itr (lo:Int) (n:Nat):It:=⟨fun i _=>i<n,fun i H x H'=>H'=H/\x=.int (lo+i),fun i _=>n<=i⟩
theorem zmo {P:y0r} {w:World} {K:y00} {tg:Expr} (a it:Addr):Turn P w K tg (Itl K a) [it] it (fun i h=>h.IsListIter it a i) where
 mem:=by simp
 obj:=fun i h st b hb=>by
  have e:b=it:=by simpa using hb
  subst e
  obtain⟨o,e,c,d⟩:=st
  exact⟨o,e,fun v z=>by rw[d] at z;cases z⟩
 keep:=fun i h h' st k=>st.at fun o e=>k it (by simp) o e
 item:=by
  intro X hP hw hK hc i pins s σ H E I hf st hg
  subst hP hw hK
  obtain⟨xs,x,hq,hx⟩:=hg
  obtain⟨its,rv,p,hz⟩:=I.list hq
  obtain⟨u,hu,ru⟩:=rv.get hx
  obtain⟨f0,f1,f2,f3,f4,f5⟩:=hf it (by simp)
  refine wpAny_pyNext_list_item st p.isList (x:=u) (by simpa using hu) fun h' st' sb=>?_
  have I1:Inv X pins σ H { s with heap:=h' }:=I.turned (t':=s.toks) (fun b o hb e=>(sb.2 b hb).trans e) f0 f1 f3 f4 f5
  obtain⟨o,e,c,d⟩:=id st'
  exact⟨u,rfl,zur (s:={ s with heap:=h' }) e c d (by decide) ⟨x,H,I1,ru,⟨rfl,fun ys hy=>by rw[I.list_inj hy hq];exact hx⟩,st',fun b hb=>(hf b hb).1⟩⟩
 done:=by
  intro X hP hw hK hc i pins s σ H E I hf st hg
  subst hP hw hK
  obtain⟨xs,hq,hx⟩:=hg
  obtain⟨its,rv,p,hz⟩:=I.list hq
  obtain⟨f0,f1,f2,f3,f4,f5⟩:=hf it (by simp)
  have hl:=rv.length
  exact wpAny_pyNext_list_end (I.ok.hd hc) st p.isList (by simp;omega) fun h' eb=>⟨rfl,I.turned (t':=s.toks) (fun b o hb e=>eb b o hb e) f0 f1 f3 f4 f5⟩
 self:=fun _ _ _ _ _ st h=>wpAny_pyIter_listiter st h
theorem zld {P:y0r} {w:World} {K:y00} {tg:Expr} (a it:Addr):Turn P w K tg (Itt K a) [it] it (fun i h=>h.IsTupleIter it a i) where
 mem:=by simp
 obj:=fun i h st b hb=>by
  have e:b=it:=by simpa using hb
  subst e
  obtain⟨o,e,c,d⟩:=st
  exact⟨o,e,fun v z=>by rw[d] at z;cases z⟩
 keep:=fun i h h' st k=>st.at fun o e=>k it (by simp) o e
 item:=by
  intro X hP hw hK hc i pins s σ H E I hf st hg
  subst hP hw hK
  obtain⟨xs,x,hq,hx⟩:=hg
  obtain⟨its,rv,p,hz⟩:=I.tuple hq
  obtain⟨u,hu,ru⟩:=rv.get hx
  obtain⟨f0,f1,f2,f3,f4,f5⟩:=hf it (by simp)
  refine wpAny_pyNext_tuple_item st (show s.heap.IsTuple a its.toArray from p) (x:=u) (by simpa using hu) fun h' st' sb=>?_
  have I1:Inv X pins σ H { s with heap:=h' }:=I.turned (t':=s.toks) (fun b o hb e=>(sb.2 b hb).trans e) f0 f1 f3 f4 f5
  obtain⟨o,e,c,d⟩:=id st'
  exact⟨u,rfl,zur (s:={ s with heap:=h' }) e c d (by decide) ⟨x,H,I1,ru,⟨rfl,fun ys hy=>by rw[I.tuple_inj hy hq];exact hx⟩,st',fun b hb=>(hf b hb).1⟩⟩
 done:=by
  intro X hP hw hK hc i pins s σ H E I hf st hg
  subst hP hw hK
  obtain⟨xs,hq,hx⟩:=hg
  obtain⟨its,rv,p,hz⟩:=I.tuple hq
  obtain⟨f0,f1,f2,f3,f4,f5⟩:=hf it (by simp)
  have hl:=rv.length
  exact wpAny_pyNext_tuple_end (I.ok.hd hc) st (show s.heap.IsTuple a its.toArray from p) (by simp;omega) fun h' eb=>⟨rfl,I.turned (t':=s.toks) (fun b o hb e=>eb b o hb e) f0 f1 f3 f4 f5⟩
 self:=fun _ _ _ _ _ st h=>wpAny_pyIter_tupleiter st h
theorem zle {P:y0r} {w:World} {K:y00} {tg:Expr} (it:Addr) (lo:Int) (n:Nat):Turn P w K tg (Itr lo n) [it] it (fun i h=>IsRangeIter h it (lo+(i:Nat)*1) ((n:Int) - (i:Nat)) 1) where
 mem:=by simp
 obj:=fun i h st b hb=>by
  have e:b=it:=by simpa using hb
  subst e
  exact⟨_,st,fun v z=>by
   have z':Data.fields _=Data.cell v:=z
   cases z'⟩
 keep:=fun i h h' st k=>k it (by simp) _ st
 item:=by
  intro X hP hw hK hc i pins s σ H E I hf st hg
  subst hP hw hK
  obtain⟨f0,f1,f2,f3,f4,f5⟩:=hf it (by simp)
  have W:=Walks.range (prog:=X.prog) (w:=X.w) (I.ok.hd hc) it lo 1 n
  refine W.item i s _ _ hg st fun v h' tk hv st' kk=>?_
  obtain⟨t,rfl⟩:=hv
  have I1:Inv X pins σ H { s with heap:=h',toks:=tk }:=I.turned (fun b o hb e=>kk b o (by simpa using hb) e) f0 f1 f3 f4 f5
  refine⟨_,rfl,zur (s:={ s with heap:=h',toks:=tk }) (n:="range_iterator") st' rfl rfl (by decide) ⟨.int (lo+i),H,I1,⟨t,?_⟩,⟨rfl,rfl⟩,st',fun b hb=>(hf b hb).1⟩⟩
  rw[Int.mul_one]
 done:=by
  intro X hP hw hK hc i pins s σ H E I hf st hg
  subst hP hw hK
  obtain⟨f0,f1,f2,f3,f4,f5⟩:=hf it (by simp)
  exact wpAny_pyNext_range_end (I.ok.hd hc) st (by have:n<=i:=hg;omega) fun h' eb=>⟨rfl,I.turned (t':=s.toks) (fun b o hb e=>eb b o hb e) f0 f1 f3 f4 f5⟩
 self:=fun _ _ _ _ _ st h=>wpAny_pyIter_rangeiter st h
end L2
namespace L2
open PySem PySem.Spec PyProof.Rows
section
variable {X:Cx} {tg:Expr}
theorem zqb {pins:List (Addr×Obj)} {σ:St} {H:Hp} {s:y04} {R:It->Hp->Prop} {E:Value->y04->Prop} {lo hi:Int} {t u v:Tok} {tk:Nat} (I:Inv X pins σ H s) (h1:-(2 ^ 62)<=lo) (h2:lo<2 ^ 62) (h3:-(2 ^ 62)<=hi) (h4:hi<2 ^ 62)
  (q:R (Itr lo (hi - lo).toNat) H):y0u (model X.prog X.w) X.A (pyIter (.ref s.heap.objs.size)) (PIE X pins σ tg R) E { s with heap:=s.heap.push { cls:=.type "range",data:=.fields #[.int lo t,.int hi u,.int 1 v] },toks:=tk }:=by
 refine wpAny_pyIter_range (IsRange.new ..) (small_one h1 h2 h3 h4) ?_
 have I1:Inv X pins σ H { s with heap:=s.heap.push { cls:=.type "range",data:=.fields #[.int lo t,.int hi u,.int 1 v] },toks:=tk }:=I.kept fun b o e=>y03 _ e
 refine⟨(s.heap.push { cls:=.type "range",data:=.fields #[.int lo t,.int hi u,.int 1 v] }).objs.size,[(s.heap.push { cls:=.type "range",data:=.fields #[.int lo t,.int hi u,.int 1 v] }).objs.size],_,_,H,rfl,
  I1.kept (t':=tk) fun b o e=>y03 _ e,zle _ lo (hi - lo).toNat,?_,fun b hb=>?_,q⟩
 ·have e1:lo+((0:Nat):Int)*1=lo:=by simp
  have e2:(((hi - lo).toNat:Nat):Int) - ((0:Nat):Int)=Builtin.Range.rangeSize lo hi 1:=by rw[rangeSize_one];split <;> omega
  show IsRangeIter _ _ (lo+((0:Nat):Int)*1) ((((hi - lo).toNat:Nat):Int) - ((0:Nat):Int)) 1
  rw[e1,e2]
  exact y0m _ rfl
 ·have e:b=(s.heap.push { cls:=.type "range",data:=.fields #[.int lo t,.int hi u,.int 1 v] }).objs.size:=by simpa using hb
  subst e
  exact I1.fpOk (y0p _) (I1.hok.fresh (y0p _))
def zyh (ta:TA):TI:=fun σ H R=>ta σ H fun vs H1=>∃j:Int,vs=[.int j]/\-(2 ^ 62)<=j/\j<2 ^ 62/\R (Itr 0 j.toNat) H1
theorem znj {a:Expr} {ta:TA} {p pos:Pos} (hg:Gl X "range") (hm:X.mg "range"=none) (ha:PA X [a] ta) (hs:y0a [a] X.env=[(false,eval a X.env)]:=by rfl):PI X tg (.Call (.Name "range" p) [a] [] pos) (zyh ta):=by
 intro pins s σ H R I h
 refine Call_ (zc1 I hg hm boot_range (y1v (thn (ha pos pins s σ H _ I h) fun us s1 ⟨vs,H1,I1,r1,q1⟩=>?_) hs rfl))
 obtain⟨j,e,q1,q2,q⟩:=q1
 subst e
 cases r1 with
 | cons r rr =>
  cases rr
  obtain⟨t,rfl⟩:=r
  exact call_range_1 (zqb I1 (by omega) (by omega) q1 q2 (by simpa using q))
noncomputable def tFor (wi:TI) (g:TG) (tb:TS):TS:=fun D σ H=>wi σ H fun J H1=>∃W:Nat->Nat->St->Hp->Prop,(∃m,W 0 m σ H1)/\∀i m σ H,W i m σ H ->
 (J.stop i H/\D.nx σ H)\/(J.go i H/\∃N:St->Hp->Prop,(∀σ' H',N σ' H'->∃m',m'<m/\W (i+1) m' σ' H')/\∀x H',J.yld i H x H'->g x σ H' fun σ2 H2=>tb { D with nx:=N,ct:=N,bk:=D.nx } σ2 H2)
def zhe (fp:List Addr) (h:Heap):List (Addr×Obj):=fp.filterMap fun b=>(h.get? b).map fun o=>(b,o)
theorem z8y {fp:List Addr} {h:Heap} {b:Addr} {o:Obj} (hb:b∈fp) (e:h.get? b=some o):(b,o)∈zhe fp h:=List.mem_filterMap.mpr ⟨b,hb,by rw[e];rfl⟩
theorem znt {fp:List Addr} {h:Heap} {p:Addr×Obj} (hp:p∈zhe fp h):p.1∈fp/\h.get? p.1=some p.2:=by
 obtain⟨b,hb,e⟩:=List.mem_filterMap.mp hp
 cases q:h.get? b with
 | none=>rw[q] at e;cases e
 | some o =>
  rw[q] at e
  have e':(b,o)=p:=y2i e
  subst e'
  exact⟨hb,q⟩
theorem Inv.pinned {pins:List (Addr×Obj)} {σ:St} {H:Hp} {s:y04} {fp:List Addr} (I:Inv X pins σ H s) (hf:∀b∈fp,FpOk X pins H b) (ho:∀b∈fp,∃o,s.heap.get? b=some o/\∀v,o.data≠.cell v):Inv X (pins++zhe fp s.heap) σ H s :=
 I.pins_of fun p hp=>(y11.mp hp).elim (fun z=>I.pin p (y1b _ z)) fun z=>by
  obtain⟨hb,e⟩:=znt z
  obtain⟨f0,f1,f2,_⟩:=hf p.1 hb
  obtain⟨o,e',d⟩:=ho p.1 hb
  rw[e] at e';cases e'
  exact⟨e,f0,f1,f2,d⟩
theorem Inv.unpinned {pins pl:List (Addr×Obj)} {σ:St} {H:Hp} {s:y04} (I:Inv X (pins++pl) σ H s):Inv X pins σ H s:=I.pins_of fun p hp=>I.pin p (y1b _ (List.mem_append_left _ hp))
theorem zwc {iter:Expr} {body:List Stmt} {wi:TI} {g:TG} {tb:TS} {pos:Pos} (hp:PassesOwn (model X.prog X.w) X.A X.env X.xe) (hc:X.calm=true) (hi:PI X tg iter wi) (hg:PG X tg g) (hb:PSs X body tb)
  (hs:∀x,foldedSetIterable iter X.env x=pure x:=by intro _;rfl):PS X (.For tg iter body [] pos) (tFor wi g tb):=by
 intro pins s σ H D I h
 refine wpAny_For (thn (hi pins s σ H _ I h) fun v s1 h1=>thn h1 fun itv s2 h2=>?_) hs
 obtain⟨it,fp,tn,J,H2,e,I2,T,st2,f2,W,⟨m0,w0⟩,turn⟩:=h2
 subst e
 have stat:∀{H':Hp},(∀b∈fp,H' b=none)->∀b∈fp,FpOk X pins H' b:=fun hn b hb=>⟨hn b hb,(f2 b hb).2⟩
 refine codeAny_forLoop_any (fun n s'=>∃i σ' H',Inv X pins σ' H' s'/\tn i s'.heap/\(∀b∈fp,H' b=none)/\W i n σ' H') ?_ m0 ⟨0,σ,H2,I2,st2,fun b hb=>(f2 b hb).1,w0⟩
 rintro n s3 ⟨i,σ3,H3,I3,st3,fr3,w3⟩
 rcases turn i n σ3 H3 w3 with ⟨stop,qn⟩|⟨go,N,hN,step⟩
 ·refine wpAny_passesOwn hp (thn (T.done X rfl rfl rfl hc i pins s3 σ3 H3 X.xe I3 (stat fr3) st3 stop) fun r s4 ⟨hr,I4⟩=>?_)
  subst hr
  exact wpAny_execs_nil ⟨σ3,H3,I4,qn⟩
 ·refine wpAny_passesOwn hp (thn (T.item X rfl rfl rfl hc i pins s3 σ3 H3 X.xe I3 (stat fr3) st3 go) fun r s4 ⟨u,hr,h4⟩=>?_)
  subst hr
  refine wpAny_passesOwn hp (thn h4 fun _ s5 ⟨x,H5,I5,r5,y5,st5,fr5⟩=>?_)
  have I5':=I5.pinned (stat fr5) (T.obj _ _ st5)
  refine wpAny_passesOwn hp (thn (hg _ s5 σ3 H5 x u _ I5' r5 (step x H5 y5)) fun _ s6 ⟨σ6,H6,I6,q6⟩=>?_)
  refine wpAny_passesOwn hp (thn (hb _ s6 σ6 H6 _ I6 q6) fun f s7 q7=>?_)
  have again:∀{σ7:St} {H7:Hp},Inv X (pins++zhe fp s5.heap) σ7 H7 s7->N σ7 H7->∃m,m<n/\∃i σ' H',Inv X pins σ' H' s7/\tn i s7.heap/\(∀b∈fp,H' b=none)/\W i m σ' H':=fun {σ7 H7} I7 n7=>by
   obtain⟨m',hm,w7⟩:=hN σ7 H7 n7
   refine⟨m',hm,i+1,σ7,H7,I7.unpinned,T.keep _ _ _ st5 fun b hb o e=>(I7.pin (b,o) (y1b _ (y1b _ (z8y hb e)))).1,fun b hb=>?_,w7⟩
   obtain⟨o,e,d⟩:=T.obj _ _ st5 b hb
   exact (I7.pin (b,o) (y1b _ (y1b _ (z8y hb e)))).2.1
  cases f with
  | next=>obtain⟨σ7,H7,I7,n7⟩:=q7;exact again I7 n7
  | cont=>obtain⟨σ7,H7,I7,n7⟩:=q7;exact again I7 n7
  | brk=>obtain⟨σ7,H7,I7,q7⟩:=q7;exact⟨σ7,H7,I7.unpinned,q7⟩
  | ret v=>obtain⟨x7,σ7,H7,I7,r7,q7⟩:=q7;exact⟨x7,σ7,H7,I7.unpinned,r7,q7⟩
end
end L2
namespace L2
open PySem PySem.Spec PyProof.Rows
abbrev R2:=V->V->Hp->VK->Prop
noncomputable def OpR (X:Cx) (f:Value->Value->Sem Value) (r:R2):Prop :=
 ∀(pins:List (Addr×Obj)) (s:y04) (σ:St) (H:Hp) (x y:V) (v u:Value) (Q:VK),Inv X pins σ H s->RelV x v->RelV y u->r x y H Q ->
  y0u (model X.prog X.w) X.A (f v u) (EP X pins σ Q) X.xe s
noncomputable def UnR (X:Cx) (f:Value->Sem Value) (r:V->Hp->VK->Prop):Prop :=
 ∀(pins:List (Addr×Obj)) (s:y04) (σ:St) (H:Hp) (x:V) (v:Value) (Q:VK),Inv X pins σ H s->RelV x v->r x H Q ->
  y0u (model X.prog X.w) X.A (f v) (EP X pins σ Q) X.xe s
noncomputable def za6 (X:Cx) (f:Value) (r:List V->Hp->VK->Prop):Prop :=
 ∀(pins:List (Addr×Obj)) (s:y04) (σ:St) (H:Hp) (xs:List V) (us:List Value) (Q:VK),Inv X pins σ H s->Vals xs us->r xs H Q ->
  y0u (model X.prog X.w) X.A (call f us) (EP X pins σ Q) X.xe s
noncomputable def TruR (X:Cx) (r:V->Hp->(Bool->Hp->Prop)->Prop):Prop :=
 ∀(pins:List (Addr×Obj)) (s:y04) (σ:St) (H:Hp) (x:V) (v:Value) (Q:Bool->Hp->Prop),Inv X pins σ H s->RelV x v->r x H Q ->
  y0u (model X.prog X.w) X.A (truthy v) (TP X pins σ Q) X.xe s
def tOp (r:R2) (ta tb:TE):TE:=fun σ H Q=>ta σ H fun x H1=>tb σ H1 fun y H2=>r x y H2 Q
def tUn (r:V->Hp->VK->Prop) (ta:TE):TE:=fun σ H Q=>ta σ H fun x H1=>r x H1 Q
def rI (C:Int->Int->Prop) (g:Int->Int->V):R2:=fun x y H Q=>∃i j,x=.int i/\y=.int j/\C i j/\Q (g i j) H
def rI0 (g:Int->Int->V):R2:=fun x y H Q=>∃i j,x=.int i/\y=.int j/\Q (g i j) H
def rU (g:Int->V):V->Hp->VK->Prop:=fun x H Q=>∃i,x=.int i/\Q (g i) H
section
variable {X:Cx} {a b c:Expr} {ta tb tc:TE} {pos:Pos}
theorem binT (ha:PE X a ta) (hb:PE X b tb) {pins:List (Addr×Obj)} {s:y04} {σ:St} {H:Hp} {R:V->V->Hp->Prop} (I:Inv X pins σ H s)
  (h:ta σ H fun x H1=>tb σ H1 fun y H2=>R x y H2) {Q:Value->y04->Prop} {f:Value->Value->Sem Value}
  (hf:∀v u s2 x y H2,Inv X pins σ H2 s2->RelV x v->RelV y u->R x y H2->y0u (model X.prog X.w) X.A (f v u) Q X.xe s2) :
  y0u (model X.prog X.w) X.A (eval a X.env) (fun v s₁=>y0u (model X.prog X.w) X.A (eval b X.env) (fun u s₂=>y0u (model X.prog X.w) X.A (f v u) Q X.xe s₂) X.xe s₁) X.xe s:=by
 refine thn (ha pins s σ H _ I h) fun v s1 ⟨x,H1,I1,r1,q1⟩=>?_
 refine thn (hb pins s1 σ H1 _ I1 q1) fun u s2 ⟨y,H2,I2,r2,q2⟩=>?_
 exact hf v u s2 x y H2 I2 r1 r2 q2
theorem znk {op:Operator} {r:R2} (ho:OpR X (binaryOp op) r) (ha:PE X a ta) (hb:PE X b tb):PE X (.BinOp a op b pos) (tOp r ta tb):=by
 intro pins s σ H Q I h
 exact wpAny_BinOp (binT ha hb I h fun v u s2 x y H2 I2 rx ry q=>ho pins s2 σ H2 x y v u Q I2 rx ry q)
theorem zwg {op:UnaryOp} {r:V->Hp->VK->Prop} (ho:UnR X (unaryOp op) r) (ha:PE X a ta):PE X (.UnaryOp op a pos) (tUn r ta):=by
 intro pins s σ H Q I h
 exact UnaryOp_ (thn (ha pins s σ H _ I h) fun v s1 ⟨x,H1,I1,r1,q1⟩=>ho pins s1 σ H1 x v Q I1 r1 q1)
theorem opI {f:Value->Value->Sem Value} {C:Int->Int->Prop} {g:Int->Int->Int}
  (rule:∀(i j:Int) (t u:Tok) (s:y04) (Q:Value->y04->Prop) (E:Value->y04->Prop),C i j->Q (.int (g i j) s.toks) { s with toks:=s.toks+1 }->y0u (model X.prog X.w) X.A (f (.int i t) (.int j u)) Q E s) :
  OpR X f (rI C fun i j=>.int (g i j)):=by
 intro pins s σ H x y v u Q I rx ry h
 obtain⟨i,j,rfl,rfl,hc,q⟩:=h
 obtain⟨t,rfl⟩:=rx
 obtain⟨t',rfl⟩:=ry
 exact rule i j t t' s _ _ hc ⟨.int (g i j),H,I.tok _,⟨_,rfl⟩,q⟩
theorem opI0 {f:Value->Value->Sem Value} {g:Int->Int->Int}
  (rule:∀(i j:Int) (t u:Tok) (s:y04) (Q:Value->y04->Prop) (E:Value->y04->Prop),Q (.int (g i j) s.toks) { s with toks:=s.toks+1 }->y0u (model X.prog X.w) X.A (f (.int i t) (.int j u)) Q E s) :
  OpR X f (rI0 fun i j=>.int (g i j)):=by
 intro pins s σ H x y v u Q I rx ry h
 obtain⟨i,j,rfl,rfl,q⟩:=h
 obtain⟨t,rfl⟩:=rx
 obtain⟨t',rfl⟩:=ry
 exact rule i j t t' s _ _ ⟨.int (g i j),H,I.tok _,⟨_,rfl⟩,q⟩
theorem opB0 {f:Value->Value->Sem Value} {g:Int->Int->Bool}
  (rule:∀(i j:Int) (t u:Tok) (s:y04) (Q:Value->y04->Prop) (E:Value->y04->Prop),Q (.bool (g i j)) s->y0u (model X.prog X.w) X.A (f (.int i t) (.int j u)) Q E s) :
  OpR X f (rI0 fun i j=>.bl (g i j)):=by
 intro pins s σ H x y v u Q I rx ry h
 obtain⟨i,j,rfl,rfl,q⟩:=h
 obtain⟨t,rfl⟩:=rx
 obtain⟨t',rfl⟩:=ry
 exact rule i j t t' s _ _ ⟨.bl (g i j),H,I,rfl,q⟩
def CDiv (i j:Int):Prop:=0<j/\j<1073741824
def CMul (i j:Int):Prop:=(-(2 ^ 64)<i/\i<2 ^ 64)\/(-(2 ^ 64)<j/\j<2 ^ 64)
theorem CMul.ok {i j:Int} (h:CMul i j):IntMulOk i j:=by
 rcases h with ⟨h1,h2⟩|⟨h1,h2⟩
 ·exact .of_left (intBits_le_64 h1 h2)
 ·exact .of_right (intBits_le_64 h1 h2)
theorem zwo:OpR X (binaryOp .Add) (rI0 fun i j=>.int (i+j)):=opI0 fun _ _ _ _ _ _ _ q=>add_int q
theorem zwk:OpR X (binaryOp .Sub) (rI0 fun i j=>.int (i - j)):=opI0 fun _ _ _ _ _ _ _ q=>sub_int q
theorem zwl:OpR X (binaryOp .Mult) (rI CMul fun i j=>.int (i*j)):=opI fun _ _ _ _ _ _ _ hc q=>mul_int q hc.ok
theorem zu9:OpR X (binaryOp .FloorDiv) (rI CDiv fun i j=>.int (i / j)):=opI fun i j _ _ _ _ _ hc q=>by
 have h1:(0:Int)<j:=hc.1
 have h2:j<1073741824:=hc.2
 exact floordiv_int (by omega) (by rw[Int.fdiv_eq_ediv_of_nonneg i (by omega)];exact q) (.inl (PyProof.noPylong_small (by omega)))
theorem zwm:OpR X (binaryOp .Mod) (rI (fun _ j=>0<j) fun i j=>.int (i % j)):=opI fun i j _ _ _ _ _ hc q=>by
 have h1:(0:Int)<j:=hc
 exact mod_int' (by omega) (by rw[Int.fmod_eq_emod_of_nonneg i (by omega)];exact q)
theorem unI {f:Value->Sem Value} {g:Int->Int}
  (rule:∀(i:Int) (t:Tok) (s:y04) (Q:Value->y04->Prop) (E:Value->y04->Prop),Q (.int (g i) s.toks) { s with toks:=s.toks+1 }->y0u (model X.prog X.w) X.A (f (.int i t)) Q E s) :
  UnR X f (rU fun i=>.int (g i)):=by
 intro pins s σ H x v Q I rx h
 obtain⟨i,rfl,q⟩:=h
 obtain⟨t,rfl⟩:=rx
 exact rule i t s _ _ ⟨.int (g i),H,I.tok _,⟨_,rfl⟩,q⟩
theorem zrz:UnR X (unaryOp .USub) (rU fun i=>.int (-i)):=unI fun _ _ _ _ _ q=>neg_int q
end
noncomputable def scal:V->V->Bool
 | .non,.non=>true|.non,.int _=>true|.int _,.non=>true|.non,.bl _=>true|.bl _,.non=>true|.non,.str _=>true|.str _,.non=>true
 | .int _,.int _=>true|.bl _,.bl _=>true|.str _,.str _=>true|.byt _,.byt _=>true
 | .int _,.str _=>true|.str _,.int _=>true|.bl _,.str _=>true|.str _,.bl _=>true
 | _,_=>false
def rEq:R2:=fun x y H Q=>scal x y=true/\Q (.bl (decide (x=y))) H
theorem zv3 {i j:Int}:decide (V.int i=V.int j)=(i == j):=by
 rw[Bool.eq_iff_iff]
 simp
theorem zx9 {i j:Bool}:decide (V.bl i=V.bl j)=(i == j):=by
 rw[Bool.eq_iff_iff]
 simp
theorem zv2 {i j:Str}:decide (V.str i=V.str j)=(i == j):=by
 rw[Bool.eq_iff_iff]
 simp
theorem zv4 {i j:Array UInt8}:decide (V.byt i=V.byt j)=(i.toList == j.toList):=by
 rw[Bool.eq_iff_iff]
 cases i
 cases j
 simp
section
variable {X:Cx} {a b c:Expr} {ta tb tc:TE} {pos:Pos}
theorem z45 {pins:List (Addr×Obj)} {σ:St} {H:Hp} {s:y04} {Q:VK} {k k':Bool} (I:Inv X pins σ H s) (q:Q (.bl k) H) (e:k=k'):EP X pins σ Q (.bool k') s:=by
 subst e
 exact⟨.bl k,H,I,rfl,q⟩
theorem zyd:OpR X (compareOp .Eq) rEq:=by
 intro pins s σ H x y v u Q I rx ry h
 obtain⟨hs,q⟩:=h
 cases x with
 | non =>
  cases rx
  cases y with
  | non=>cases ry;exact PySem.EqNone.eq_none_none (z45 I q (by simp))
  | bl j=>cases ry;exact PySem.EqNone.eq_none_bool (z45 I q (by simp))
  | int j=>obtain⟨t',rfl⟩:=ry;exact PySem.EqNone.eq_none_int (z45 I q (by simp))
  | str j=>obtain⟨t',rfl⟩:=ry;exact PySem.EqNone.eq_none_str (z45 I q (by simp))
  | _=>exact absurd (show false=true from hs) y27
 | bl i =>
  cases rx
  cases y with
  | non=>cases ry;exact PySem.EqNone.eq_bool_none (z45 I q (by simp))
  | bl j=>cases ry;exact eq_bool (z45 I q zx9)
  | str j=>obtain⟨t',rfl⟩:=ry;exact PySem.EqMixed.eq_bool_str (z45 I q (by simp))
  | _=>exact absurd (show false=true from hs) y27
 | int i =>
  obtain⟨t,rfl⟩:=rx
  cases y with
  | non=>cases ry;exact PySem.EqNone.eq_int_none (z45 I q (by simp))
  | int j=>obtain⟨t',rfl⟩:=ry;exact eq_int (z45 I q zv3)
  | str j=>obtain⟨t',rfl⟩:=ry;exact PySem.EqMixed.eq_int_str (z45 I q (by simp))
  | _=>exact absurd (show false=true from hs) y27
 | str i =>
  obtain⟨t,rfl⟩:=rx
  cases y with
  | non=>cases ry;exact PySem.EqNone.eq_str_none (z45 I q (by simp))
  | bl j=>cases ry;exact PySem.EqMixed.eq_str_bool (z45 I q (by simp))
  | int j=>obtain⟨t',rfl⟩:=ry;exact PySem.EqMixed.eq_str_int (z45 I q (by simp))
  | str j=>obtain⟨t',rfl⟩:=ry;exact eq_str (z45 I q zv2)
  | _=>exact absurd (show false=true from hs) y27
 | byt i =>
  obtain⟨t,rfl⟩:=rx
  cases y with
  | byt j=>obtain⟨t',rfl⟩:=ry;exact PySem.W.eq_bytes (z45 I q zv4)
  | _=>exact absurd (show false=true from hs) y27
 | _=>cases y <;> exact absurd (show false=true from hs) y27
theorem znm:OpR X (compareOp .Lt) (rI0 fun i j=>.bl (decide (i<j))):=opB0 fun _ _ _ _ _ _ _ q=>lt_int q
theorem zu8:OpR X (compareOp .LtE) (rI0 fun i j=>.bl (decide (i<=j))):=opB0 fun _ _ _ _ _ _ _ q=>le_int q
theorem znn:OpR X (compareOp .Gt) (rI0 fun i j=>.bl (decide (j<i))):=opB0 fun _ _ _ _ _ _ _ q=>gt_int q
theorem zwn:OpR X (compareOp .GtE) (rI0 fun i j=>.bl (decide (j<=i))):=opB0 fun _ _ _ _ _ _ _ q=>ge_int q
theorem z89:OpR X (compareOp .Lt) (fun x y H Q=>∃i j,x=.str i/\y=.str j/\Q (.bl (decide (i.cps.toList<j.cps.toList))) H):=by
 intro pins s σ H x y v u Q I rx ry h
 obtain⟨i,j,rfl,rfl,q⟩:=h
 obtain⟨t,rfl⟩:=rx
 obtain⟨t',rfl⟩:=ry
 exact lt_str (z45 I q rfl)
theorem OpR.or {f:Value->Value->Sem Value} {r r':R2} (h:OpR X f r) (h':OpR X f r'):OpR X f (fun x y H Q=>r x y H Q\/r' x y H Q):=by
 intro pins s σ H x y v u Q I rx ry q
 rcases q with q|q
 ·exact h pins s σ H x y v u Q I rx ry q
 ·exact h' pins s σ H x y v u Q I rx ry q
theorem zkt (b:Expr) {op:CmpOp} (h:op≠.In:=by decide) (h2:op≠.NotIn:=by decide):behindInMarks op b=false:=by
 have e1:(op == CmpOp.In)=false:=by cases op <;> first|rfl|exact absurd rfl h
 have e2:(op == CmpOp.NotIn)=false:=by cases op <;> first|rfl|exact absurd rfl h2
 cases b <;> simp[behindInMarks,e1,e2]
theorem zu3 {op:CmpOp} {r:R2} (ho:OpR X (compareOp op) r) (ha:PE X a ta) (hb:PE X b tb) (hm:behindInMarks op b=false):PE X (.Compare a [op] [b] pos) (tOp r ta tb):=by
 intro pins s σ H Q I h
 exact wpAny_Compare1 (binT ha hb I h fun v u s2 x y H2 I2 rx ry q=>ho pins s2 σ H2 x y v u Q I2 rx ry q) hm
def zvj (t:TE):TT:=fun σ H Q=>t σ H fun x H'=>∃k,x=.bl k/\Q k H'
theorem zjj {op:CmpOp} {r:R2} (ho:OpR X (compareOp op) r) (ha:PE X a ta) (hb:PE X b tb) (hm:behindInMarks op b=false):PT X (.Compare a [op] [b] pos) (zvj (tOp r ta tb)):=by
 intro pins s σ H Q I h
 refine wpAny_isTrue_Compare1 (thn (ha pins s σ H _ I h) fun v s1 ⟨x,H1,I1,r1,q1⟩=>thn (hb pins s1 σ H1 _ I1 q1) fun u s2 ⟨y,H2,I2,r2,q2⟩ =>
  thn (ho pins s2 σ H2 x y v u _ I2 r1 r2 q2) fun c s3 ⟨z,H3,I3,r3,k,e,q3⟩=>?_) hm
 subst e
 cases r3
 exact wpAny_truthy_bool ⟨H3,I3,q3⟩
noncomputable def TruV (K:y00) (x:V) (H:Hp) (k:Bool):Prop :=
 match x with
 | .non=>k=false
 | .bl b=>k=b
 | .int i=>k=(i != 0)
 | .str y=>y.length<=y0k/\k=((y.length:Int) != 0)
 | .byt y=>y.size<=y0k/\k=((y.size:Int) != 0)
 | .ref p=>(∃xs,SqL K H p xs/\k=!xs.isEmpty)\/(∃xs,SqT K H p xs/\k=!xs.isEmpty)\/∃kvs,H p=some (.dK kvs)/\k=!kvs.isEmpty
 | _=>False
theorem zly {κ:Type} {kvs:List (κ×V)} {vs:List (κ×Value)} (r:KV kvs vs):(!vs.isEmpty)=!kvs.isEmpty:=by
 cases r <;> rfl
theorem zfd {xs:List V} {its:List Value} (r:Vals xs its):(!its.toArray.isEmpty)=!xs.isEmpty:=by
 cases r <;> simp
theorem zfc:(y0k:Nat)<2 ^ 63:=by rw[sizeLine_eq];decide
theorem zvf:TruR X (fun x H Q=>∃k,TruV X.K x H k/\Q k H):=by
 intro pins s σ H x v Q I rx h
 obtain⟨k,e,q⟩:=h
 have hl:=zfc
 have hs:y0k=16777216:=sizeLine_eq
 cases x with
 | non =>
  cases rx
  have e':k=false:=e
  subst e'
  exact truthy_none ⟨H,I,q⟩
 | bl b =>
  cases rx
  have e':k=b:=e
  subst e'
  exact wpAny_truthy_bool ⟨H,I,q⟩
 | int i =>
  obtain⟨t,rfl⟩:=rx
  have e':k=(i != 0):=e
  subst e'
  exact PySem.P.truthy_int ⟨H,I,q⟩
 | str y =>
  obtain⟨t,rfl⟩:=rx
  obtain⟨hy,e'⟩:y.length<=y0k/\k=((y.length:Int) != 0):=e
  subst e'
  exact PySem.P.truthy_str (by omega) ⟨H,I.tok _,q⟩
 | byt y =>
  obtain⟨t,rfl⟩:=rx
  obtain⟨hy,e'⟩:y.size<=y0k/\k=((y.size:Int) != 0):=e
  subst e'
  exact PySem.W.truthy_bytes (by omega) ⟨H,I.tok _,q⟩
 | ref p =>
  cases rx
  have e':(∃xs,SqL X.K H p xs/\k=!xs.isEmpty)\/(∃xs,SqT X.K H p xs/\k=!xs.isEmpty)\/∃kvs,H p=some (.dK kvs)/\k=!kvs.isEmpty:=e
  rcases e' with ⟨xs,hx,e'⟩|⟨xs,hx,e'⟩|⟨kvs,hx,e'⟩
  ·subst e'
   obtain⟨its,r,pl,hz⟩:=I.list hx
   have hlen:=r.length
   exact wpAny_truthy_list pl.isList (by simp only[y0i];omega) ⟨H,I.tok _,by rw[zfd r];exact q⟩
  ·subst e'
   obtain⟨its,r,pl,hz⟩:=I.tuple hx
   have hlen:=r.length
   exact truthy_tuple pl (by simp only[y0i];omega) ⟨H,I.tok _,by rw[zfd r];exact q⟩
  ·subst e'
   obtain⟨hz,hS,vs,r,m⟩:kvs.length<=y0k/\(p == sysModules)=false/\∃vs,KV kvs vs/\s.heap.DictOf (z1g X.prog X.w) p vs:=I.hok p _ hx
   have hlen:kvs.length=vs.length:=Paired.length r
   exact wpAny_truthy_dict hS m (by omega) ⟨H,I.tok _,by rw[zly r];exact q⟩
 | _=>exact (show False from e).elim
theorem zqe (ha:PE X a ta) (he:∀whole,isTrue a X.env whole=(do let v <- whole;standAt a.pos;holding [v] (truthy v))) :
  PT X a (fun σ H Q=>ta σ H fun x H'=>∃k,TruV X.K x H' k/\Q k H'):=by
 intro pins s σ H Q I h
 exact isTrue_plain (thn (ha pins s σ H _ I h) fun v s1 ⟨x,H1,I1,r1,q1⟩=>zvf pins s1 σ H1 x v Q I1 r1 q1) (he _)
theorem zlq:OpR X (binaryOp .Add) (fun x y H Q=>∃i j,x=.str i/\y=.str j/\i.length+j.length<=y0k/\Q (.str (i++j)) H):=by
 intro pins s σ H x y v u Q I rx ry h
 obtain⟨i,j,rfl,rfl,hz,q⟩:=h
 obtain⟨t,rfl⟩:=rx
 obtain⟨t',rfl⟩:=ry
 exact add_str (fun t' tk=>⟨.str (i++j),H,I.tok _,⟨_,rfl⟩,q⟩) hz
theorem zgu {x:V} {us:List Value} (r:Vals [x] us):∃u,us=[u]/\RelV x u:=by
 cases r with
 | cons r1 r2=>cases r2;exact⟨_,rfl,r1⟩
theorem zxm {x y:V} {us:List Value} (r:Vals [x,y] us):∃u w',us=[u,w']/\RelV x u/\RelV y w':=by
 cases r with
 | cons r1 r2 =>
  cases r2 with
  | cons r3 r4=>cases r4;exact⟨_,_,rfl,r1,r3⟩
theorem zp6 (hc:X.calm=true):za6 X (.builtin "max") (fun xs H Q=>∃i j,xs=[.int i,.int j]/\Q (.int (if j > i then j else i)) H):=by
 intro pins s σ H xs us Q I r h
 obtain⟨i,j,rfl,q⟩:=h
 obtain⟨u,w',rfl,⟨t,rfl⟩,⟨t',rfl⟩⟩:=zxm r
 refine max_two_ints (I.ok.hd hc) fun h' tk k=>⟨_,H,I.kept k,?_,q⟩
 by_cases hj:j > i
 ·rw[if_pos hj,if_pos hj];exact⟨_,rfl⟩
 ·rw[if_neg hj,if_neg hj];exact⟨_,rfl⟩
theorem zp7:za6 X (.type "int") (fun xs H Q=>(∃i,xs=[.int i]/\Q (.int i) H)\/∃k,xs=[.bl k]/\Q (.int (if k then 1 else 0)) H):=by
 intro pins s σ H xs us Q I r h
 rcases h with ⟨i,rfl,q⟩|⟨k,rfl,q⟩
 ·obtain⟨u,rfl,t,rfl⟩:=zgu r
  exact call_int_int ⟨.int i,H,I,⟨_,rfl⟩,q⟩
 ·obtain⟨u,rfl,r1⟩:=zgu r
  cases r1
  exact call_int_bool ⟨.int (if k then 1 else 0),H,I.tok _,⟨_,rfl⟩,q⟩
end
end L2
namespace L2
open PySem PySem.Spec PyProof.Rows
structure ObjM (h:Heap) (x dx C:Addr) (mA:Str->Option Value):Prop where
 obj:h.get? x=some (y21 C dx)
 ns:h.Ns1 dx mA
 ne:dx≠x
theorem zny {h:Heap} {dx:Addr} {mA:Str->Option Value} (n:h.Ns1 dx mA):∃od,h.get? dx=some od/\∀name,PySem.W.lookIn name od=some (mA name):=by
 obtain⟨o,es,ep,ho,hd,hk,_,hm⟩:=n
 refine⟨o,ho,fun name=>?_⟩
 have e:=hm name
 unfold nsFind findBy at e
 rw[<- Array.find?_toList] at e
 unfold PySem.W.lookIn
 rw[hd]
 dsimp only
 split
 ·rename_i y q
  rw[q] at e
  exact congrArg some e
 ·rename_i q
  rw[q] at e
  have a:es.toList.any (·.refKey)=false:=by
   rw[List.any_eq_false]
   intro y hy
   obtain⟨z,t,hkey⟩:=hk y (Array.mem_toList_iff.mp hy)
   simp[DictEntry.refKey,hkey]
  have a':¬es.toList.any (·.refKey)=true:=by rw[a];exact y27
  rw[if_neg a']
  exact congrArg some e
theorem ObjM.look {h:Heap} {x dx C:Addr} {mA:Str->Option Value} (I:ObjM h x dx C mA):∃od,PySem.W.InstAt h x (y21 C dx) C (some od)/\∀name,PySem.W.lookIn name od=some (mA name) :=
 let ⟨od,ho,hl⟩:=zny I.ns
 ⟨od,⟨I.obj,rfl,rfl,ho⟩,hl⟩
section
variable {prog:y0r} {w:World} {A:Around} {E:Value->y04->Prop} {s:y04} {K:y00} {x dx C f:Addr} {mA:Str->Option Value} {name:Str} {v:Value}
theorem zus {expr:Bool} {Q:Value->y04->Prop} (X:K.In s.heap) (I:ObjM s.heap x dx C mA) (hg:PySem.W.plainGet K C name=true) (hh:PySem.W.hasDictIn K C=true)
  (ha:y0d K (.ref C) name=some none) (hv:mA name=some v) (hv':PySem.W.handedIn v=true) (h:Q v { s with toks:=s.toks+1 }) :
  y0u (model prog w) A (getAttr (.ref x) name expr) Q E s:=by
 obtain⟨od,J,hl⟩:=I.look
 exact PySem.W.get_value X J (PySem.W.plainGet_of hg).1 (PySem.W.findObj_own hh ha rfl (by rw[hl,hv])) hv' h
theorem zrc {pl:Sem Bool} {Q:Value×List Value->y04->Prop} (X:K.In s.heap) (I:ObjM s.heap x dx C mA) (hg:PySem.W.plainGet K C name=true)
  (hf:y0d K (.ref C) name=some (some (.ref f))) (ht:PySem.W.isFn K (.ref f)=true) (hv:mA name=none) (h:Q (.ref f,[.ref x]) s) :
  y0u (model prog w) A (getMethod (.ref x) name pl) Q E s:=by
 obtain⟨od,J,hl⟩:=I.look
 exact PySem.W.method_fn X J (PySem.W.plainGet_of hg).1 (PySem.W.plainGet_of hg).2 hf (beq_iff_eq.mp ht) (by show (PySem.W.lookIn name od).map (·.isSome)=some false;rw[hl,hv];rfl) h
theorem ztg {ns:List Str} {Q:Unit->y04->Prop} (X:K.In s.heap) (I:ObjM s.heap x dx C mA)
  (hs:y0d K (.ref C) "__setattr__"=some (some (.builtin "object.__setattr__"))) (hp:PySem.W.plainOver K C=true) (ht:PySem.W.takerIn K C name=some none) (hh:PySem.W.hasDictIn K C=true)
  (hw:PySem.Within mA ns) (hsz:ns.length<=y0k)
  (h:∀h',ObjM h' x dx C (fun y=>if y=name then some v else mA y)->Heap.SameBut dx s.heap h'->Q () { s with heap:=h',toks:=s.toks+2 }) :
  y0u (model prog w) A (setAttr (.ref x) name v) Q E s:=by
 obtain⟨od,J,hl⟩:=I.look
 refine PySem.W.set_plain X J hs (PySem.W.osa_open (s:={ s with toks:=s.toks+1 }) (r:=none) X J hp ht fun b=>?_)
 obtain⟨cd,hc,hd'⟩:=PySem.W.any_some hh
 have hx:s.heap.get? x=some ⟨.ref C,some dx,.plain,#[]⟩:=I.obj
 refine y02 (y06 (y02 (y02 (wpAny_loadPart hx (y02 (PySem.W.Looks.here (s:={ s with toks:=s.toks+1 }) (PySem.W.looks_clsIn X hc) ?_))))))
 rw[hd']
 refine y06 (a:=some dx) (y02 (y06 (y02 ?_)))
 refine wpAny_nsSet1 (s:={ s with toks:=s.toks+1 }) I.ns fun h' hn2 hs2=>?_
 obtain⟨oD,esD,epD,hoD,hdD,hcD⟩:=hn2.count (PySem.Within.cons name v hw)
 refine y02 (wpAny_lookBehind hoD (by rw[hdD];exact pastItsLine_dict (y1s hcD (by rw[y0w];omega))) ?_)
 exact y06 (h _ ⟨(hs2.2 _ (Ne.symm I.ne)).trans I.obj,hn2,I.ne⟩ hs2)
theorem zqy {R:Result->y04->Prop} {vs:List Value} {kw:List (Str×Value)} (X:K.In s.heap) (hm:PySem.W.makesIn K C=true)
  (hi:y0d K (.ref C) "__init__"=some (some (.ref f))) (hf:PySem.W.typeIn K (.ref f)=some (.type "function"))
  (h:codeAny (model prog w) (A.under (.builtin "type.__call__" ⟨.ref C::vs,kw⟩)) (.call (.ref f) ⟨.ref (s.heap.objs.size+1)::vs,kw⟩) (PySem.W.InitBack (s.heap.objs.size+1) R)
   { s with heap:=(s.heap.push y1o).push (y21 C s.heap.objs.size) }) :
  codeAny (model prog w) A (.call (.ref C) ⟨vs,kw⟩) R s:=by
 obtain⟨hh,g,d,t,os⟩:=s
 exact PySem.W.make_core (PySem.W.makes_of X hm) (PySem.W.looks_findIn X hi) (fun self=>PySem.W.bind_fn X self hf) (.inl rfl) h
end
def putF (f:Str) (v:V):List (Str×V)->List (Str×V)
  | []=>[(f,v)]
  | (g,x)::r=>if g=f then (g,v)::r else (g,x)::putF f v r
theorem zdk (f g:Str) (v:V):∀fs:List (Str×V),(putF f v fs).lookup g=if g=f then some v else fs.lookup g
  | []=>by
    show y1l g [(f,v)]=_
    by_cases h:g=f
    · have hb:(g == f)=true:=beq_iff_eq.mpr h
      simp only[y1l,hb,if_pos h]
    · have hb:(g == f)=false:=beq_eq_false_iff_ne.mpr h
      simp only[y1l,hb,if_neg h]
  | (k,x)::r=>by
    have ih:=zdk f g v r
    rw[show putF f v ((k,x)::r)=(if k=f then (k,v)::r else (k,x)::putF f v r) from rfl]
    by_cases hk:k=f
    · rw[if_pos hk]
      by_cases h:g=k
      · have hb:(g == k)=true:=beq_iff_eq.mpr h
        simp only[y1l,hb,if_pos (h.trans hk)]
      · have hb:(g == k)=false:=beq_eq_false_iff_ne.mpr h
        simp only[y1l,hb,if_neg (fun e:g=f=>h (e.trans hk.symm))]
    · rw[if_neg hk]
      by_cases h:g=k
      · have hb:(g == k)=true:=beq_iff_eq.mpr h
        simp only[y1l,hb,if_neg (fun e:g=f=>hk (h.symm.trans e))]
      · have hb:(g == k)=false:=beq_eq_false_iff_ne.mpr h
        simp only[y1l,hb]
        exact ih
theorem zdp (f:Str) (v:V):∀fs:List (Str×V),f∈(putF f v fs).map (·.1)/\∀g,g∈fs.map (·.1)->g∈(putF f v fs).map (·.1)
  | []=>⟨by simp[putF],fun g h=>by simp at h⟩
  | (k,x)::r=>by
    obtain⟨i1,i2⟩:=zdp f v r
    rw[show putF f v ((k,x)::r)=(if k=f then (k,v)::r else (k,x)::putF f v r) from rfl]
    by_cases hk:k=f
    · rw[if_pos hk]
      subst hk
      exact⟨by simp,fun g h=>by simpa using h⟩
    · rw[if_neg hk]
      refine⟨?_,fun g h=>?_⟩
      · rw[y0e]
        exact y05 _ i1
      · rw[y0e] at h ⊢
        rcases y09.mp h with e|e
        · exact y09.mpr (.inl e)
        · exact y05 _ (i2 g e)
theorem zdn (f:Str) (v:V):∀fs:List (Str×V),(putF f v fs).length<=fs.length+1
  | []=>by simp[putF]
  | (k,x)::r=>by
    have ih:=zdn f v r
    rw[show putF f v ((k,x)::r)=(if k=f then (k,v)::r else (k,x)::putF f v r) from rfl]
    by_cases hk:k=f
    · rw[if_pos hk,y0w,y0w];omega
    · rw[if_neg hk,y0w,y0w];omega
theorem RelO.some_of {v:V} {o:Option Value} (r:RelO (some v) o):∃u,o=some u/\RelV v u:=by
 cases o with
 | none=>exact (show False from r).elim
 | some u=>exact⟨u,rfl,r⟩
theorem RelO.none_of {o:Option Value} (r:RelO none o):o=none:=by
 cases o with
 | none=>rfl
 | some u=>exact (show False from r).elim
theorem zol {v:V} {u:Value} (r:RelV v u):PySem.W.handedIn u=true:=by
 cases v with
 | non=>cases (show u=Value.none from r);rfl
 | bl b=>cases (show u=Value.bool b from r);rfl
 | int i=>obtain⟨t,e⟩:=(show ∃t,u=Value.int i t from r);cases e;rfl
 | str x=>obtain⟨t,e⟩:=(show ∃t,u=Value.str x t from r);cases e;rfl
 | byt b=>obtain⟨t,e⟩:=(show ∃t,u=Value.bytes b t from r);cases e;rfl
 | flt b=>obtain⟨t,e⟩:=(show ∃t,u=Value.float b t from r);cases e;rfl
 | ref a=>cases (show u=Value.ref a from r);rfl
 | ty n=>cases (show u=Value.type n from r);rfl
section
variable {P:y0r} {w:World} {H H':Hp} {h h':Heap} {a C dx:Addr} {fs fs':List (Str×V)}
theorem zjo (hok:HOk P w H h) (e:H a=some (.ins C dx fs)):∃mA,ObjM h a dx C mA/\(∀f,RelO (fs.lookup f) (mA f))/\PySem.Within mA (fs.map (·.1))/\fs.length<=1000/\H dx=some (.own a):=by
 obtain⟨d,z,ne,ob,mA,n,r,q⟩:=(show z5g P w H h a (.ins C dx fs) from hok a _ e)
 exact⟨mA,⟨ob,n,ne⟩,r,q,z,d⟩
end
structure Cls (K:y00) (C:Addr):Prop where
 pg:PySem.W.plainGet K C Str.empty=true
 hd:PySem.W.hasDictIn K C=true
 po:PySem.W.plainOver K C=true
 sa:y0d K (.ref C) "__setattr__"=some (some (.builtin "object.__setattr__"))
theorem Cls.get {K:y00} {C:Addr} (c:Cls K C) (f:Str):PySem.W.plainGet K C f=true:=c.pg
def zb3 (K:y00) (C:Addr) (f:Str):Prop:=y0d K (.ref C) f=some none
theorem zb3.taker {K:y00} {C:Addr} {f:Str} (n:zb3 K C f):PySem.W.takerIn K C f=some none:=by
 unfold PySem.W.takerIn
 rw[show y0d K (.ref C) f=some none from n]
 rfl
structure Meth (K:y00) (C:Addr) (m:Str) (f:Addr):Prop where
 at_:y0d K (.ref C) m=some (some (.ref f))
 fn:PySem.W.isFn K (.ref f)=true
 kp:y08 K (.ref f)=true
section
variable {X:Cx} {pins:List (Addr×Obj)} {σ:St} {H:Hp} {s:y04} {a C dx:Addr} {fs:List (Str×V)} {f:Str} {v:V} {A:Around} {E:Value->y04->Prop}
theorem zfi {b:Bool} {Q:Value->y04->Prop} (I:Inv X pins σ H s) (e:H a=some (.ins C dx fs)) (c:Cls X.K C) (n:zb3 X.K C f) (l:fs.lookup f=some v)
  (h:∀u s',Inv X pins σ H s'->RelV v u->Q u s'):y0u (model X.prog X.w) A (getAttr (.ref a) f b) Q E s:=by
 obtain⟨mA,O,r,_,_,_⟩:=zjo I.hok e
 obtain⟨u,hu,ru⟩:=RelO.some_of (v:=v) (o:=mA f) (by rw[<- l];exact r f)
 exact zus I.kIn O (c.get f) c.hd n hu (zol ru) (h u _ (I.tok _) ru)
theorem zfh {m:Str} {g:Addr} {pl:Sem Bool} {Q:Value×List Value->y04->Prop} (I:Inv X pins σ H s) (e:H a=some (.ins C dx fs)) (c:Cls X.K C) (k:Meth X.K C m g) (l:fs.lookup m=none)
  (h:Q (.ref g,[.ref a]) s):y0u (model X.prog X.w) A (getMethod (.ref a) m pl) Q E s:=by
 obtain⟨mA,O,r,_,_,_⟩:=zjo I.hok e
 have hn:mA m=none:=RelO.none_of (by rw[<- l];exact r m)
 exact zrc I.kIn O (c.get m) k.at_ k.fn hn h
theorem zep {y:V} {u:Value} {Q:Unit->y04->Prop} (I:Inv X pins σ H s) (e:H a=some (.ins C dx fs)) (c:Cls X.K C) (n:zb3 X.K C f) (hl:fs.length<1000) (ry:RelV y u)
  (h:∀s',Inv X pins σ (upd H a (.ins C dx (putF f y fs))) s'->Q () s'):y0u (model X.prog X.w) A (setAttr (.ref a) f u) Q E s:=by
 obtain⟨mA,O,r,wi,_,ho⟩:=zjo I.hok e
 have hz:(fs.map (·.1)).length<=y0k:=by rw[y14,sizeLine_eq];omega
 refine ztg I.kIn O c.sa c.po n.taker c.hd wi hz fun h' O' sb=>h _ ?_
 have hd:∃o,h'.get? dx=some o:=let ⟨o,_,_,e',_⟩:=O'.ns;⟨o,e'⟩
 refine I.write (x:=a) (e:=dx) (by rw[e];exact True.intro) (.inr ho) (fun b q hb z=>(sb.2 b hb).trans z) hd ?_
 refine⟨by rw[z0c O.ne];exact ho,?_,O.ne,O'.obj,_,O'.ns,fun g=>?_,fun g hg=>?_⟩
 ·have:=zdn f y fs;omega
 ·show RelO ((putF f y fs).lookup g) (if g=f then some u else mA g)
  rw[zdk]
  by_cases q:g=f
  ·rw[if_pos q,if_pos q];exact ry
  ·rw[if_neg q,if_neg q];exact r g
 ·by_cases q:g=f
  ·rw[q];exact (zdp f y fs).1
  ·refine (zdp f y fs).2 g (wi g fun z=>hg ?_)
   show (if g=f then some u else mA g)=none
   rw[if_neg q];exact z
theorem Inv.made (I:Inv X pins σ H s):Inv X pins σ (upd (upd H s.heap.objs.size (.own (s.heap.objs.size+1))) (s.heap.objs.size+1) (.ins C s.heap.objs.size []))
  { s with heap:=(s.heap.push y1o).push (y21 C s.heap.objs.size) }:=by
 have e1:(s.heap.push y1o).get? s.heap.objs.size=some y1o:=y0m s.heap rfl
 have e2:((s.heap.push y1o).push (y21 C s.heap.objs.size)).get? (s.heap.objs.size+1)=some (y21 C s.heap.objs.size):=by
  have:=y0m (s.heap.push y1o) (o:=y21 C s.heap.objs.size) rfl
  rwa [y18] at this
 have e3:(s.heap.push y1o).Ns s.heap.objs.size (fun _=>none):=⟨y1o,#[],_,e1,rfl,(fun e he=>absurd he (by simp)),fun _=>rfl⟩
 have I1:=I.laid (a:=s.heap.objs.size) (o:=.own (s.heap.objs.size+1)) (h':=s.heap.push y1o) (t':=s.toks) (fun b u q=>y03 _ q) (y0p _) ⟨_,e1⟩
 refine I1.laid (a:=s.heap.objs.size+1) (o:=.ins C s.heap.objs.size []) (t':=s.toks) (fun b u q=>y03 _ q) (Nat.le_of_eq (y18 _ _)) ?_
 have ne:s.heap.objs.size≠s.heap.objs.size+1:=y0y (Nat.lt_succ_self _)
 refine⟨by rw[z0c ne,z0e],y28 _,ne,e2,fun _=>none,(Heap.Ns1.of_empty e3).at fun o q=>y03 _ q,fun _=>True.intro,fun y hy=>absurd rfl hy⟩
theorem zva {prog:y0r} {w:World} {env:Env} {e:Expr} {f:Str} {pos:Pos} {s:y04} {Q:Value->y04->Prop} (hb:attributeBase e f env (eval e env)=eval e env)
  (h:y0u (model prog w) A (eval e env) (fun o s₁=>y0u (model prog w) A (getAttr o f true) Q E s₁) E s):y0u (model prog w) A (eval (.Attribute e f pos) env) Q E s :=
 Attribute_any_ h (by rw[arm_eval_Attribute,hb])
end
def tFld (K:y00) (ta:TE) (f:Str):TE:=fun σ H Q=>ta σ H fun x H1=>∃a C dx fs v,x=.ref a/\H1 a=some (.ins C dx fs)/\Cls K C/\zb3 K C f/\fs.lookup f=some v/\Q v H1
noncomputable def sFld (K:y00) (ta tv:TE) (f:Str):TS:=fun D σ H=>tv σ H fun y H1=>ta σ H1 fun x H2=>∃a C dx fs,x=.ref a/\H2 a=some (.ins C dx fs)/\Cls K C/\zb3 K C f/\fs.length<1000 /\
 D.nx σ (upd H2 a (.ins C dx (putF f y fs)))
noncomputable def InOp (X:Cx) (op:Operator) (rd:V->V->Hp->VK->Prop):Prop :=
 ∀(pins:List (Addr×Obj)) (s:y04) (σ:St) (H:Hp) (x y:V) (u v:Value) (Q:VK),Inv X pins σ H s->RelV x u->RelV y v->rd x y H Q->y0u (model X.prog X.w) X.A (inplaceOp op u v) (EP X pins σ Q) X.xe s
noncomputable def ztl (K:y00) (ta tv:TE) (rd:V->V->Hp->VK->Prop) (f:Str):TS:=fun D σ H=>ta σ H fun x H1=>∃a C dx fs v,x=.ref a/\H1 a=some (.ins C dx fs)/\Cls K C/\zb3 K C f/\fs.lookup f=some v /\
 tv σ H1 fun y H2=>rd v y H2 fun z H3=>∃dx' fs',H3 a=some (.ins C dx' fs')/\fs'.length<1000/\D.nx σ (upd H3 a (.ins C dx' (putF f z fs')))
section
variable {X:Cx} {o e value:Expr} {f:Str} {pos pos' tpos:Pos} {ta tv:TE}
theorem z9g (he:PE X e ta) (hb:attributeBase e f X.env (eval e X.env)=eval e X.env):PE X (.Attribute e f pos) (tFld X.K ta f):=by
 intro pins s σ H Q I h
 refine zva hb (thn (he pins s σ H _ I h) fun u s1 ⟨x,H1,I1,rx,a,C,dx,fs,v,ex,ea,c,n,l,q⟩=>?_)
 subst ex
 obtain rfl:u=Value.ref a:=rx
 exact zfi I1 ea c n l fun u' s2 I2 ru=>⟨v,H1,I2,ru,q⟩
theorem znh (ha:PE X o ta) (hv:PE X value tv) (hs:swapsWith value (some (.Attribute o f pos')) pos.line X.env=pure false):PS X (.Assign [.Attribute o f pos'] value pos) (sFld X.K ta tv f):=by
 intro pins s σ H D I h
 refine plainObj_wpAny_Assign_Attribute (thn (hv pins s σ H _ I h) fun u s1 ⟨y,H1,I1,ry,q⟩=>thn (ha pins s1 σ H1 _ I1 q) fun ov s2 ⟨x,H2,I2,rx,a,C,dx,fs,ex,ea,c,n,l,q2⟩=>?_) hs
 subst ex
 obtain rfl:ov=Value.ref a:=rx
 exact zep I2 ea c n l ry fun s3 I3=>⟨σ,_,I3,q2⟩
theorem zng {op:Operator} {rd:V->V->Hp->VK->Prop} (ha:PE X o ta) (hv:PE X value tv) (hop:InOp X op rd):PS X (.AugAssign (.Attribute o f tpos) op value pos) (ztl X.K ta tv rd f):=by
 intro pins s σ H D I h
 refine wpAny_AugAssign_AttributeAny (thn (ha pins s σ H _ I h) fun ov s1 ⟨x,H1,I1,rx,a,C,dx,fs,v,ex,ea,c,n,l,q⟩=>?_)
 subst ex
 obtain rfl:ov=Value.ref a:=rx
 refine zfi I1 ea c n l fun u s2 I2 ru=>thn (hv pins s2 σ H1 _ I2 q) fun w3 s3 ⟨y,H2,I3,ry,q3⟩=>thn (hop pins s3 σ H2 v y u w3 _ I3 ru ry q3) fun w4 s4 ⟨z,H3,I4,rz,dx',fs',ea',l',q4⟩=>?_
 exact zep I4 ea' c n l' rz fun s5 I5=>⟨σ,_,I5,q4⟩
def rAdd:V->V->Hp->VK->Prop:=fun x y H Q=>∃i j,x=.int i/\y=.int j/\Q (.int (i+j)) H
theorem zss:InOp X .Add rAdd:=by
 rintro pins s σ H x y u v Q I rx ry ⟨i,j,rfl,rfl,q⟩
 obtain⟨t,rfl⟩:=(show ∃t,u=Value.int i t from rx)
 obtain⟨t',rfl⟩:=(show ∃t',v=Value.int j t' from ry)
 exact PyProof.Rows.iadd_int ⟨.int (i+j),H,I.tok _,⟨_,rfl⟩,q⟩
end
section
variable {X:Cx} {pins:List (Addr×Obj)} {σ:St} {H:Hp} {s:y04} {A:Around} {E:Value->y04->Prop} {Q:Value->y04->Prop} {c:Value} {b:Bool}
end
end L2
namespace L2
open PySem PySem.Spec PyProof.Rows
structure Room (k:Nat) (A:Around):Prop where
 hd:A.handled=none
 dp:A.depth+3*k+5<recursionLimit
 un:A.units+16*k+200<cLine
theorem Room.mono {j k:Nat} {A:Around} (r:Room k A) (h:j<=k):Room j A:=⟨r.hd,by have:=r.dp;omega,by have:=r.un;omega⟩
theorem Room.deeper {k:Nat} {A:Around} (r:Room (k+1) A) (env:Env):Room k (A.deeper env) :=
 ⟨r.hd,by have:=r.dp;show A.depth+1+3*k+5<_;omega,by have:=r.un;show A.units+3+16*k+200<_;omega⟩
theorem zlw {A:Around} {C:Addr} {us:List Value} {kw:List (Str×Value)}:(A.under (.builtin "type.__call__" ⟨.ref C::us,kw⟩)).depth=A.depth+1:=by
 first|rfl|simp[Around.under,Code.weight,Code.isCreation,Code.isGuard,Code.isCaller,Code.frames,Code.isFrame,guardIds]
theorem zlv {A:Around} {C:Addr} {us:List Value} {kw:List (Str×Value)}:(A.under (.builtin "type.__call__" ⟨.ref C::us,kw⟩)).units=A.units+1:=by
 first|rfl|simp[Around.under,Code.cUnits,Code.frames,Code.isFrame]
theorem Room.make {k:Nat} {A:Around} (r:Room (k+1) A) (C:Addr) (us:List Value) (kw:List (Str×Value)):Room k (A.under (.builtin "type.__call__" ⟨.ref C::us,kw⟩)) :=
 ⟨r.hd,by have:=r.dp;rw[zlw];omega,by have:=r.un;rw[zlv];omega⟩
theorem Room.depth {k:Nat} {A:Around} (r:Room k A):A.depth<recursionLimit:=by have:=r.dp;omega
theorem Room.units {k:Nat} {A:Around} (r:Room k A):A.units+64<cLine:=by have:=r.un;omega
def tNil:TA:=fun _ H Q=>Q [] H
def z6h (ta:TE) (tr:TA):TA:=fun σ H Q=>ta σ H fun x H1=>tr σ H1 fun xs H2=>Q (x::xs) H2
section
variable {X:Cx} {e:Expr} {es:List Expr} {te:TE} {t:TA} {pos:Pos}
theorem z38:PA X [] tNil:=fun _ _ _ _ H Q I h=>Calls.spliced_nil ⟨[],H,I,.nil,h⟩
theorem z0r (ha:PE X e te) (hr:PA X es t) (hs:y0a (e::es) X.env=(false,eval e X.env)::y0a es X.env:=by rfl):PA X (e::es) (z6h te t):=by
 intro pos pins s σ H Q I h
 rw[hs]
 show y0u _ _ (spliced ((false,eval e X.env)::backTo pos (y0a es X.env))) _ _ s
 refine Calls.spliced_cons (thn (ha pins s σ H _ I h) fun u s1 ⟨x,H1,I1,r1,q1⟩=>?_)
 exact thn (hr pos pins s1 σ H1 _ I1 q1) fun us s2 ⟨xs,H2,I2,r2,q2⟩=>⟨x::xs,H2,I2,.cons r1 r2,q2⟩
def tTup (t:TA):TE:=fun σ H Q=>t σ H fun xs H1=>xs.length<=y0k/\∀p,H1 p=none->Q (.ref p) (upd H1 p (.tup xs))
def tLst (t:TA):TE:=fun σ H Q=>t σ H fun xs H1=>xs.length<=y0k/\∀p,H1 p=none->Q (.ref p) (upd H1 p (.lst xs))
theorem zhf {x1} (h:PA X es t):PE X (.Tuple es x1 pos) (tTup t):=by
 intro pins s σ H Q I hq
 refine wpAny_Tuple_spliced (thn (h pos pins s σ H _ I hq) fun us s1 ⟨xs,H1,I1,r,z,q⟩=>⟨by rw[<- r.length];exact z,?_⟩)
 have hf:H1 s1.heap.objs.size=none:=I1.hok.fresh (y0p _)
 refine⟨.ref s1.heap.objs.size,upd H1 s1.heap.objs.size (.tup xs),I1.laid (t':=s1.toks) (fun b u e=>y03 _ e) (y0p _) ?_,rfl,q _ hf⟩
 exact⟨z,us,r,⟨_,y0m _ rfl,rfl,_,rfl⟩⟩
theorem zsd (h:PA X es t):PE X (.List es pos) (tLst t):=by
 intro pins s σ H Q I hq
 refine wpAny_List_spliced (thn (h pos pins s σ H _ I hq) fun us s1 ⟨xs,H1,I1,r,z,q⟩=>⟨by rw[<- r.length];exact z,?_⟩)
 have hf:H1 s1.heap.objs.size=none:=I1.hok.fresh (y0p _)
 refine⟨.ref s1.heap.objs.size,upd H1 s1.heap.objs.size (.lst xs),I1.laid (t':=s1.toks) (fun b u e=>y03 _ e) (y0p _) ?_,rfl,q _ hf⟩
 exact⟨z,us,0,r,y0m _ rfl⟩
end
abbrev Sp:=List V->Hp->VK->XK->Prop
abbrev CXT:=List Env->Hp->y04->XK->Value->y04->Prop
structure Env0 (P:y0r) (w:World) (K:y00) (mg:Str->Option Value) (base:Heap) (A:Around) (outer:List Env) (s:y04) (H:Hp):Prop where
 frames:A.frames=some outer
 mod:Mod K mg base
 bs:∀b o,base.get? b=some o->s.heap.get? b=some o/\H b=none
 bsz:base.objs.size<=s.heap.objs.size
 funs:s.heap.FunFrames base outer
 frf:∀b∈frs outer,H b=none
 hok:HOk P w H s.heap
 bare:AllBare s.gens
noncomputable def CE (outer:List Env) (P:y0r) (w:World) (H:Hp) (s:y04) (Q:VK) (u:Value) (s':y04):Prop :=
 ∃v H',s'.os=s.os/\AllBare s'.gens/\Un (frs outer) [] H H' s.heap s'.heap/\HOk P w H' s'.heap/\RelV v u/\Q v H'
noncomputable def CR (CX:CXT) (outer:List Env) (P:y0r) (w:World) (H:Hp) (s:y04) (Q:VK) (E:XK) (r:Result) (s':y04):Prop :=
 match r with
 | .ok (.ret u)=>CE outer P w H s Q u s'
 | .ok _=>False
 | .error e=>CX outer H s E e s'
structure FnOk (P:y0r) (w:World) (K:y00) (mg:Str->Option Value) (base:Heap) (CX:CXT) (k:Nat) (f:Addr) (fd:y0b) (ps:List Str) (sp:Sp):Prop where
 len:∀vs H Q E,sp vs H Q E->vs.length=ps.length
 run:∀(A:Around) (outer:List Env) (s:y04) (H:Hp) (args:Args) (us:List Value) (vs:List V) (Q:VK) (E:XK),Room k A->Env0 P w K mg base A outer s H->BindsTo s fd args (ps.zip us)->Vals vs us->sp vs H Q E ->
  codeAny (model P w) A (.call (.ref f) args) (CR CX outer P w H s Q E) s
theorem FnOk.mono {P:y0r} {w:World} {K:y00} {mg:Str->Option Value} {base:Heap} {CX:CXT} {j k:Nat} {f:Addr} {fd:y0b} {ps:List Str} {sp:Sp} (F:FnOk P w K mg base CX j f fd ps sp) (h:j<=k) :
  FnOk P w K mg base CX k f fd ps sp:=⟨F.len,fun A outer s H args us vs Q E hr=>F.run A outer s H args us vs Q E (hr.mono h)⟩
theorem FnOk.imp {P:y0r} {w:World} {K:y00} {mg:Str->Option Value} {base:Heap} {CX:CXT} {k:Nat} {f:Addr} {fd:y0b} {ps:List Str} {sp sp':Sp} (F:FnOk P w K mg base CX k f fd ps sp)
  (h:∀vs H Q E,sp' vs H Q E->sp vs H Q E):FnOk P w K mg base CX k f fd ps sp' :=
 ⟨fun vs H Q E q=>F.len vs H Q E (h _ _ _ _ q),fun A outer s H args us vs Q E hr he hb hv hs=>F.run A outer s H args us vs Q E hr he hb hv (h _ _ _ _ hs)⟩
theorem Env0.make {P:y0r} {w:World} {K:y00} {mg:Str->Option Value} {base:Heap} {A:Around} {outer:List Env} {s:y04} {H:Hp} (e:Env0 P w K mg base A outer s H) (C:Addr) (us:List Value) (kw:List (Str×Value)) :
  Env0 P w K mg base (A.under (.builtin "type.__call__" ⟨.ref C::us,kw⟩)) outer s H:=⟨by first|exact e.frames|(simpa [Around.under,Code.envs,Code.isFrame,pushEnvs] using e.frames),e.mod,e.bs,e.bsz,e.funs,e.frf,e.hok,e.bare⟩
section
variable {X:Cx} {pins:List (Addr×Obj)} {σ:St} {H:Hp} {s s':y04}
theorem Inv.env0 (I:Inv X pins σ H s):Env0 X.prog X.w X.K X.mg X.base X.A X.stack s H :=
 ⟨I.ok.frames,I.ok.mod,I.bs,y1s I.ok.bsz I.sz,I.stack,I.stkFree,I.hok,I.bare⟩
theorem Inv.after {Q:VK} {u:Value} (I:Inv X pins σ H s) (h:CE X.stack X.prog X.w H s Q u s'):EP X pins σ Q u s':=by
 obtain⟨v,H',os,bare,un,hok,r,q⟩:=h
 obtain⟨hh,g,d,t,os'⟩:=s'
 obtain rfl:os'=s.os:=os
 exact⟨v,H',I.call (h':=hh) (g':=g) (d':=d) (t':=t) (ch:=[]) un hok bare (fun b z=>absurd z (by simp)),r,q⟩
end
def zxw (sp:Sp) (dvs:List V) (E:XK) (t:TA):TE:=fun σ H Q=>t σ H fun vs H1=>sp (vs++dvs) H1 Q E
noncomputable def zvl (C:Addr) (m:Str) (sp:Sp) (dvs:List V) (E:XK) (ta:TE) (t:TA):TE:=fun σ H Q=>ta σ H fun x H1=>∃a dx fs,x=.ref a/\H1 a=some (.ins C dx fs)/\fs.lookup m=none /\
 t σ H1 fun vs H2=>sp (x::(vs++dvs)) H2 Q E
noncomputable def zxt (C:Addr) (sp:Sp) (dvs:List V) (E:XK) (t:TA):TE:=fun σ H Q=>t σ H fun vs H1=>∀x dx,H1 x=none->H1 dx=none->dx≠x ->
 sp (.ref x::(vs++dvs)) (upd (upd H1 dx (.own x)) x (.ins C dx [])) (fun v H2=>v=.non/\Q (.ref x) H2) E
def z3d (K:y00) (fd:y0b) (ps:List Str) (ds:List Value):Prop :=
 ∀(s:y04) (us:List Value),K.In s.heap->(us++ds).length=ps.length->BindsTo s fd ⟨us,[]⟩ (ps.zip (us++ds))
theorem z3d.all {K:y00} {fd:y0b} {ps:List Str} (h:∀us:List Value,us.length=ps.length->bindArgs fd ⟨us,[]⟩=pure (ps.zip us)):z3d K fd ps []:=fun s us _ hl=>by
 rw[y22] at hl ⊢
 exact .of_eq (h us hl)
def zc4 (CX:CXT) (X:Cx) (E:XK):Prop:=∀(pins:List (Addr×Obj)) (σ:St) (H:Hp) (s:y04) (e:Value) (s':y04),Inv X pins σ H s->CX X.stack H s E e s'->X.xe e s'
section
variable {X:Cx} {CX:CXT} {k:Nat} {f C:Addr} {fd:y0b} {ps:List Str} {sp:Sp} {dvs:List V} {ds:List Value} {E:XK} {x m:Str} {p pos apos:Pos} {e o:Expr} {es:List Expr} {ta:TE} {t:TA}
theorem zn5 {pins:List (Addr×Obj)} {σ:St} {H:Hp} {s:y04} {Q:VK} {us:List Value} {vs:List V} (F:FnOk X.prog X.w X.K X.mg X.base CX k f fd ps sp) (hr:Room k X.A) (hb:z3d X.K fd ps ds) (hd:Vals dvs ds) (hx:zc4 CX X E)
  (I:Inv X pins σ H s) (r:Vals vs us) (h:sp (vs++dvs) H Q E):y0u (model X.prog X.w) X.A (call (.ref f) us) (EP X pins σ Q) X.xe s:=by
 have r2:Vals (vs++dvs) (us++ds):=r.append hd
 have hl:(us++ds).length=ps.length:=by rw[<- r2.length];exact F.len _ _ _ _ h
 refine wpAny_call (codeAny_mono (F.run X.A X.stack s H ⟨us,[]⟩ (us++ds) (vs++dvs) Q E hr I.env0 (hb s us I.kIn hl) r2 h) fun r s' hq=>?_)
 cases r with
 | error e=>exact hx pins σ H s e s' I hq
 | ok fl =>
  cases fl with
  | ret u=>exact I.after hq
  | next=>exact y20 hq
  | brk=>exact y20 hq
  | cont=>exact y20 hq
theorem zg6 (F:FnOk X.prog X.w X.K X.mg X.base CX k f fd ps sp) (hr:Room k X.A) (hg:Gl X x) (hm:X.mg x=some (.ref f)) (hk:y08 X.K (.ref f)=true) (hb:z3d X.K fd ps ds) (hd:Vals dvs ds) (hx:zc4 CX X E)
  (ha:PA X (e::es) t) (hdb:(x == ("__debug__":Str))=false:=by decide) (he:y0a (e::es) X.env=(false,eval e X.env)::y0a es X.env:=by rfl) (hpl:(backTo pos (y0a es X.env)).any (·.1)=false:=by rfl) :
  PE X (.Call (.Name x p) (e::es) [] pos) (zxw sp dvs E t):=by
 intro pins s σ H Q I h
 refine wpAny_Call_Name_kw (z9y I hg hm ?_ hdb)
 refine PySem.W.callWith_K (h₀:=X.base) I.ok.mod.kin hk (thn (ha pos pins s σ H _ I h) fun us s1 ⟨vs,H1,I1,r,q⟩=>⟨I1.kIn,?_⟩) he hpl
 exact zn5 F hr hb hd hx I1 r q
theorem zjk {pl:Sem Bool} (he:PE X o ta) (c:Cls X.K C) (hm:Meth X.K C m f) (F:FnOk X.prog X.w X.K X.mg X.base CX k f fd ps sp) (hr:Room k X.A) (hb:z3d X.K fd ps ds) (hd:Vals dvs ds) (hx:zc4 CX X E) (ha:PA X (e::es) t)
  (hst:y0a (e::es) X.env=(false,eval e X.env)::y0a es X.env:=by rfl) (hpl:(backTo pos (y0a es X.env)).any (·.1)=false:=by rfl)
  (ht:eval (.Call (.Attribute o m apos) (e::es) [] pos) X.env=(do
   let ov <- eval o X.env
   standAt apos.atName
   let (f,first) <- holding [ov] (getMethod ov m pl)
   callWith pos f first (backTo pos (y0a (e::es) X.env)) (backToKw pos (keywordEach [] X.env))):=by rfl) :
  PE X (.Call (.Attribute o m apos) (e::es) [] pos) (zvl C m sp dvs E ta t):=by
 intro pins s σ H Q I h
 refine PySem.W.methodCall_KW (pl:=pl) (thn (he pins s σ H _ I h) fun u s1 ⟨x,H1,I1,rx,a,dx,fs,ex,ea,l,q⟩=>?_) ht
 subst ex
 obtain rfl:u=Value.ref a:=rx
 refine zfh I1 ea c hm l ?_
 refine PySem.W.callWith_K (first:=[.ref a]) (h₀:=X.base) I.ok.mod.kin hm.kp (thn (ha pos pins s1 σ H1 _ I1 q) fun us s2 ⟨vs,H2,I2,r,q2⟩=>⟨I2.kIn,?_⟩) hst hpl
 exact zn5 (us:=.ref a::us) (vs:=.ref a::vs) F hr hb hd hx I2 (.cons rfl r) q2
theorem zc9 {pl:Sem Bool} (he:PE X o ta) (c:Cls X.K C) (hm:Meth X.K C m f) (F:FnOk X.prog X.w X.K X.mg X.base CX k f fd ps sp) (hr:Room k X.A) (hb:z3d X.K fd ps ds) (hd:Vals dvs ds) (hx:zc4 CX X E)
  (ht:eval (.Call (.Attribute o m apos) [] [] pos) X.env=(do
   let ov <- eval o X.env
   standAt apos.atName
   let (f,first) <- holding [ov] (getMethod ov m pl)
   callWith pos f first (backTo pos (y0a [] X.env)) (backToKw pos (keywordEach [] X.env))):=by rfl) :
  PE X (.Call (.Attribute o m apos) [] [] pos) (zvl C m sp dvs E ta tNil):=by
 intro pins s σ H Q I h
 refine PySem.W.methodCall_KW (pl:=pl) (thn (he pins s σ H _ I h) fun u s1 ⟨x,H1,I1,rx,a,dx,fs,ex,ea,l,q⟩=>?_) ht
 subst ex
 obtain rfl:u=Value.ref a:=rx
 refine zfh I1 ea c hm l ?_
 exact PySem.W.callWith_K0 (first:=[.ref a]) I1.kIn hm.kp (zn5 (us:=[.ref a]) (vs:=[.ref a]) F hr hb hd hx I1 (.cons rfl .nil) q)
structure Mk (K:y00) (C f:Addr):Prop where
 makes:PySem.W.makesIn K C=true
 init:y0d K (.ref C) "__init__"=some (some (.ref f))
 fn:PySem.W.isFn K (.ref f)=true
 kp:y08 K (.ref C)=true
theorem zq8 {pins:List (Addr×Obj)} {σ:St} {H:Hp} {s:y04} {Q:VK} {us:List Value} {vs:List V} (M:Mk X.K C f) (F:FnOk X.prog X.w X.K X.mg X.base CX k f fd ps sp) (hr:Room (k+1) X.A) (hb:z3d X.K fd ps ds) (hd:Vals dvs ds)
  (hx:zc4 CX X E) (I:Inv X pins σ H s) (r:Vals vs us)
  (h:∀x dx,H x=none->H dx=none->dx≠x->sp (.ref x::(vs++dvs)) (upd (upd H dx (.own x)) x (.ins C dx [])) (fun v H2=>v=.non/\Q (.ref x) H2) E) :
  y0u (model X.prog X.w) X.A (call (.ref C) us) (EP X pins σ Q) X.xe s:=by
 have hq:=h (s.heap.objs.size+1) s.heap.objs.size (I.hok.fresh (y2k _)) (I.hok.fresh (y0p _)) (y0y (Nat.lt_succ_self _))
 have I2:=Inv.made (C:=C) I
 have r2:Vals (V.ref (s.heap.objs.size+1)::(vs++dvs)) (Value.ref (s.heap.objs.size+1)::(us++ds)):=.cons rfl (r.append hd)
 have hl:(Value.ref (s.heap.objs.size+1)::us++ds).length=ps.length:=by
  have e:=r2.length
  rw[F.len _ _ _ _ hq] at e
  exact e.symm
 refine wpAny_call (zqy (f:=f) I.kIn M.makes M.init (beq_iff_eq.mp M.fn) (codeAny_mono (F.run _ X.stack _ _ ⟨Value.ref (s.heap.objs.size+1)::us,[]⟩ (Value.ref (s.heap.objs.size+1)::(us++ds)) _ _ E (hr.make C us [])
  (I2.env0.make C us []) (hb _ (Value.ref (s.heap.objs.size+1)::us) I2.kIn hl) r2 hq) fun r s' hq'=>?_))
 cases r with
 | error e=>exact hx pins σ _ _ e s' I2 hq'
 | ok fl =>
  cases fl with
  | ret u =>
   obtain⟨v,H',I3,rv,ev,q3⟩:=I2.after hq'
   subst ev
   exact⟨rv,⟨V.ref (s.heap.objs.size+1),H',I3,rfl,q3⟩⟩
  | next=>exact y20 hq'
  | brk=>exact y20 hq'
  | cont=>exact y20 hq'
theorem zu0 (M:Mk X.K C f) (F:FnOk X.prog X.w X.K X.mg X.base CX k f fd ps sp) (hr:Room (k+1) X.A) (hg:Gl X x) (hm:X.mg x=some (.ref C)) (hb:z3d X.K fd ps ds) (hd:Vals dvs ds) (hx:zc4 CX X E)
  (ha:PA X (e::es) t) (hdb:(x == ("__debug__":Str))=false:=by decide) (he:y0a (e::es) X.env=(false,eval e X.env)::y0a es X.env:=by rfl) (hpl:(backTo pos (y0a es X.env)).any (·.1)=false:=by rfl) :
  PE X (.Call (.Name x p) (e::es) [] pos) (zxt C sp dvs E t):=by
 intro pins s σ H Q I h
 refine wpAny_Call_Name_kw (z9y I hg hm ?_ hdb)
 refine PySem.W.callWith_K (h₀:=X.base) I.ok.mod.kin M.kp (thn (ha pos pins s σ H _ I h) fun us s1 ⟨vs,H1,I1,r,q⟩=>⟨I1.kIn,?_⟩) he hpl
 exact zq8 M F hr hb hd hx I1 r q
end
section
variable {X:Cx} {CX:CXT} {k:Nat} {f C:Addr} {fd:y0b} {ps ks:List Str} {sp:Sp} {E:XK} {x m:Str} {p pos apos kpos:Pos} {e o:Expr} {es:List Expr} {kws:List Keyword} {te ta:TE} {t tk:TA} {nm:Option Str}
variable {g:List Value->List Value->List Value} {gV:List V->List V->List V}
end
structure FnScope (N P:List Str) (sc:Scope):Prop where
 kind:sc.kind=.function
 co:sc.isCoroutine=false
 gen:sc.isGenerator=false
 nd:N.Nodup
 pre:N.take P.length=P
 par:∀x∈P,sc.names.lookup x=some .local\/sc.names.lookup x=some .cell
 nofree:∀y∈sc.names,y.2≠.free
theorem zis {kindOf:Str->Option NameKind} {x:Str}:∀{binds:List (Str×Value)} {m:Str->Option Value},(∀v,(x,v)∉binds)->bindL kindOf binds m x=m x
  | [],_,_=>rfl
  | (n,v)::r,m,h=>by
    unfold bindL
    rw[zis fun w hw=>h w (y05 _ hw)]
    split
    · have:x≠n:=by rintro rfl;exact h v y0f
      simp[this]
    · rfl
theorem ziu {kindOf:Str->Option NameKind} {x:Str}:∀{binds:List (Str×Value)} {m:Str->Option Value},(∀v,(x,v)∉binds)->bindC kindOf binds m x=m x
  | [],_,_=>rfl
  | (n,v)::r,m,h=>by
    unfold bindC
    rw[ziu fun w hw=>h w (y05 _ hw)]
    split
    · rfl
    · have:x≠n:=by rintro rfl;exact h v y0f
      simp[this]
theorem zit {kindOf:Str->Option NameKind} {x:Str} {v:Value}:∀{P:List Str} {vs:List Value} {i:Nat} {m:Str->Option Value},P.Nodup->P[i]?=some x->vs[i]?=some v->kindOf x=some .local ->
  bindL kindOf (P.zip vs) m x=some v
 | [],_,_,_,_,h,_,_=>by simp at h
 | _::_,[],_,_,_,_,h,_=>by simp at h
 | p::P,w::vs,0,m,nd,h1,h2,hk=>by
  simp at h1 h2;subst h1;subst h2
  show bindL kindOf ((p,w)::P.zip vs) m p=_
  unfold bindL
  rw[zis fun v hv=>(y0s.mp nd).1 (List.of_mem_zip hv).1,if_pos hk]
  simp
 | p::P,w::vs,i+1,m,nd,h1,h2,hk=>by
  show bindL kindOf ((p,w)::P.zip vs) m x=_
  unfold bindL
  exact zit (i:=i) (y0s.mp nd).2 (by simpa using h1) (by simpa using h2) hk
theorem ziv {kindOf:Str->Option NameKind} {x:Str} {v:Value}:∀{P:List Str} {vs:List Value} {i:Nat} {m:Str->Option Value},P.Nodup->P[i]?=some x->vs[i]?=some v->kindOf x≠some .local ->
  bindC kindOf (P.zip vs) m x=some v
 | [],_,_,_,_,h,_,_=>by simp at h
 | _::_,[],_,_,_,_,h,_=>by simp at h
 | p::P,w::vs,0,m,nd,h1,h2,hk=>by
  simp at h1 h2;subst h1;subst h2
  show bindC kindOf ((p,w)::P.zip vs) m p=_
  unfold bindC
  rw[ziu fun v hv=>(y0s.mp nd).1 (List.of_mem_zip hv).1,if_neg hk]
  simp
 | p::P,w::vs,i+1,m,nd,h1,h2,hk=>by
  show bindC kindOf ((p,w)::P.zip vs) m x=_
  unfold bindC
  exact ziv (i:=i) (y0s.mp nd).2 (by simpa using h1) (by simpa using h2) hk
def start (N:List Str) (vs:List V):St:=vs.map some++y0h (N.length - vs.length) none
noncomputable def cxOf (CX:CXT) (P:y0r) (w:World) (K:y00) (mg:Str->Option Value) (base:Heap) (N:List Str) (qual:Str) (scope:Scope) (f:Addr) (cd:Value) (A:Around) (outer:List Env) (s:y04) (H:Hp) (E:XK):Cx where
 prog:=P
 w:=w
 K:=K
 mg:=mg
 base:=base
 A:=A.deeper (envOfC qual scope s.heap.objs.size f cd)
 N:=N
 s₀:=s
 H₀:=H
 env:=envOfC qual scope s.heap.objs.size f cd
 outer:=outer
 stack:=envOfC qual scope s.heap.objs.size f cd::outer
 ex:=[]
 calm:=true
 fn:=fun _=>true
 pn:=[]
 xe:=fun e s'=>y0u (model P w) (A.deeper (envOfC qual scope s.heap.objs.size f cd)) (leaving (envOfC qual scope s.heap.objs.size f cd) e) (fun _ s''=>CX outer H s E e s'') (fun e' s''=>CX outer H s E e' s'') s'
theorem zl7 {sc:Scope} {n:Nat} {x:Str} (h:sc.names.lookup x=some .cell):∃c,(cellsFrom n sc.names []).lookup x=some c:=by
 have q:=PySem.W.cellsFrom_some sc.names n [] (.inl h)
 exact Option.isSome_iff_exists.mp q
theorem zi2 {CX:CXT} {P:y0r} {w:World} {K:y00} {mg:Str->Option Value} {base:Heap} {N ps:List Str} {qual:Str} {scope:Scope} {f:Addr} {cd:Value} {A:Around} {outer:List Env} {s s1:y04} {H:Hp} {E:XK} {us:List Value} {vs:List V}
  (S:FnScope N ps scope) (hd:A.handled=none) (e0:Env0 P w K mg base A outer s H) (hl:vs.length=ps.length) (r:Vals vs us)
  (x:InCallC s s.heap.objs.size (bindL (envOfC qual scope s.heap.objs.size f cd).kindOf (ps.zip us) fun _=>none) (cellsFrom (s.heap.objs.size+1) scope.names []) (bindC (envOfC qual scope s.heap.objs.size f cd).kindOf (ps.zip us) fun _=>none) s1) :
  Inv (cxOf CX P w K mg base N qual scope f cd A outer s H E) [] (start N vs) H s1:=by
 have hpl:ps.length<=N.length:=by have:=congrArg List.length S.pre;rw[List.length_take] at this;omega
 obtain⟨h1,tk,rfl,hk⟩:=x.done
 have noA:∀b:Addr,b∉(cxOf CX P w K mg base N qual scope f cd A outer s H E).ex:=fun b z=>absurd (show b∈([]:List Addr) from z) (by simp)
 refine⟨⟨e0.mod,S.kind,rfl,rfl,y0p _,fun y z c h1 h2=>?_,fun y hy=>?_,fun y c _ h=>?_,fun _=>hd,Around.frames_deeper e0.frames,.inr ⟨rfl,rfl⟩,fun b z=>absurd z (noA b),e0.bs,e0.bsz,fun b _ _=>noA b,fun b z=>absurd z (noA b),e0.funs,e0.frf⟩,
  rfl,e0.bare,Un.kept hk,⟨_,x.toInCall.ns,fun i y v h1 h2 h3=>?_⟩,fun y c h=>⟨_,x.cell y c h⟩,e0.hok.fresh (y0p _),fun y c h=>?_,fun p hp=>absurd (show p∈([]:List (Addr×Obj)) from hp) (by simp),e0.hok.kept hk,?_⟩
 ·exact name_of_addr x.apart (y2f h1) (y2f h2)
 ·have hy:scope.names.lookup y=some .cell\/scope.names.lookup y=some .free:=hy
  rcases hy with hy|hy
  ·exact zl7 hy
  ·exact absurd rfl (S.nofree _ (y2f hy))
 ·exact Nat.le_of_lt (x.above y c (y2f h))
 ·have hi:i<vs.length:=by
   unfold start at h2
   by_cases hi:i<vs.length
   ·exact hi
   ·rw[y1n (by simpa using hi)] at h2
    rw[List.getElem?_replicate] at h2
    split at h2 <;> cases h2
  have ha:vs[i]?=some v:=by
   unfold start at h2
   rw[y1q (by simpa using hi),y15] at h2
   cases e:vs[i]? with
   | none=>rw[e] at h2;cases h2
   | some a=>rw[e] at h2;cases h2;rfl
  obtain⟨u,hu,rv⟩:=r.get ha
  have hp:ps[i]?=some y:=by
   rw[<- S.pre,List.getElem?_take_of_lt (by omega)];exact h1
  have ndP:ps.Nodup:=by rw[<- S.pre];exact S.nd.sublist (List.take_sublist _ _)
  refine⟨u,rv,?_⟩
  rcases S.par y (y1x hp) with k|k
  ·exact .inl ⟨k,zit ndP hp hu k⟩
  ·obtain⟨c,e⟩:=zl7 (n:=s.heap.objs.size+1) k
   refine .inr ⟨.inl k,c,e,?_⟩
   have q:=x.cell y c e
   rw[ziv ndP hp hu (by show scope.names.lookup y≠_;rw[k];decide)] at q
   exact q
 ·exact e0.hok.fresh (Nat.le_of_lt (x.above y c (y2f h)))
 ·unfold start
  show _=N.length
  rw[y26,y14,List.length_replicate]
  omega
theorem zux {CX:CXT} {P:y0r} {w:World} {K:y00} {mg:Str->Option Value} {base:Heap} {k:Nat} {f:Addr} {name qual:Str} {params:Arguments} {body:List Stmt} {scope:Scope} {dV kV doc pm cdv ct oc:Value} {an od:Option Addr}
  {osl:Array (Option Value)} {N ps:List Str} {sp:Sp} (lk:K.lookup f=some ⟨oc,od,.func (y0j name qual params body scope dV kV doc pm an cdv ct),osl⟩) (hcd:y0g K cdv qual=true) (S:FnScope N ps scope)
  (len:∀vs H Q E,sp vs H Q E->vs.length=ps.length)
  (hbody:∀(A:Around) (outer:List Env) (s:y04) (H:Hp) (vs:List V) (Q:VK) (E:XK),Room k (A.deeper (envOfC qual scope s.heap.objs.size f cdv))->sp vs H Q E ->
   ∃t,PSs (cxOf CX P w K mg base N qual scope f cdv A outer s H E) body t/\t { nx:=fun _ H'=>Q .non H',rt:=Q } (start N vs) H) :
  FnOk P w K mg base CX (k+1) f (y0j name qual params body scope dV kV doc pm an cdv ct) ps sp:=by
 refine⟨len,fun A outer s H args us vs Q E hr e0 hb r hsp=>?_⟩
 have hl:=len _ _ _ _ hsp
 have KX:K.In s.heap:=e0.mod.kin.keeps fun b o e=>(e0.bs b o e).1
 have lim:s.heap.NoLimit:=e0.mod.nolimit.keeps fun b o e=>(e0.bs b o e).1
 have hkind:∀y∈ps.zip us,scope.names.lookup y.1=some .local\/(scope.names.lookup y.1=some .cell/\((cellsFrom (s.heap.objs.size+1) scope.names []).lookup y.1).isSome=true):=fun⟨n,v⟩ hy=>by
  rcases S.par n (List.of_mem_zip hy).1 with q|q
  ·exact .inl q
  ·exact .inr ⟨q,PySem.W.cellsFrom_some _ _ _ (.inl q)⟩
 refine codeAny_call_function hr.depth (KX _ _ lk) rfl S.co S.gen rfl (PySem.W.codeRec_of KX hcd) (hb _ _ _ _ ?_)
 refine wpAny_newFunctionEnv_cells S.kind hkind fun env he s1 x=>?_
 subst he
 refine⟨lim.keeps x.toInCall.keep,codeAny_func ?_⟩
 obtain⟨t,ht,hq⟩:=hbody A outer s H vs Q E (hr.deeper _) hsp
 have I:Inv (cxOf CX P w K mg base N qual scope f cdv A outer s H E) [] (start N vs) H s1:=zi2 S hr.hd e0 hl r x
 refine y1e (ht [] s1 (start N vs) H _ I hq) (fun fl s' hs=>?_) fun e s' hs=>hs
 have fin:∀{σ':St} {H':Hp} {v:V} {u:Value},Inv (cxOf CX P w K mg base N qual scope f cdv A outer s H E) [] σ' H' s'->RelV v u->Q v H'->CE outer P w H s Q u s' :=
  fun {σ' H' v u} J rv q=>⟨v,H',J.os,J.bare,J.base,J.hok,rv,q⟩
 cases fl with
 | ret u =>
  obtain⟨v,σ',H',J,rv,q⟩:=hs
  exact fin J rv q
 | next =>
  obtain⟨σ',H',J,q⟩:=hs
  exact fin (v:=V.non) (u:=Value.none) J rfl q
 | brk =>
  obtain⟨_,_,_,q⟩:=hs
  exact y20 q
 | cont =>
  obtain⟨_,_,_,q⟩:=hs
  exact y20 q
end L2
namespace L2
open PySem PySem.Spec PyProof.Rows
section
variable {X:Cx} {x:Str} {p pos:Pos} {e:Expr} {es:List Expr} {t:TA} {id T:String} {r:List V->Hp->VK->Prop}
def tCB (r:List V->Hp->VK->Prop) (t:TA):TE:=fun σ H Q=>t σ H fun vs H1=>r vs H1 Q
theorem zca (hc:za6 X (.builtin id) r) (hg:Gl X x) (hm:X.mg x=none) (hv:bootBuiltins x=some (.builtin id)) (ha:PA X (e::es) t) (hn:x≠"__name__":=by decide) (hdb:(x == ("__debug__":Str))=false:=by decide)
  (he:y0a (e::es) X.env=(false,eval e X.env)::y0a es X.env:=by rfl) (hpl:(backTo pos (y0a es X.env)).any (·.1)=false:=by rfl):PE X (.Call (.Name x p) (e::es) [] pos) (tCB r t):=by
 intro pins s σ H Q I h
 refine wpAny_Call_Name_kw (zc1 I hg hm hv ?_ hn hdb)
 exact PyProof.Rows.callWith_builtin1 (thn (ha pos pins s σ H _ I h) fun us s1 ⟨vs,H1,I1,r1,q1⟩=>hc pins s1 σ H1 vs us Q I1 r1 q1) he hpl
theorem zao (hc:za6 X (.type T) r) (hg:Gl X x) (hm:X.mg x=none) (hv:bootBuiltins x=some (.type T)) (ha:PA X (e::es) t) (hn:x≠"__name__":=by decide) (hdb:(x == ("__debug__":Str))=false:=by decide)
  (he:y0a (e::es) X.env=(false,eval e X.env)::y0a es X.env:=by rfl) (hpl:(backTo pos (y0a es X.env)).any (·.1)=false:=by rfl):PE X (.Call (.Name x p) (e::es) [] pos) (tCB r t):=by
 intro pins s σ H Q I h
 refine wpAny_Call_Name_kw (zc1 I hg hm hv ?_ hn hdb)
 exact y1v (thn (ha pos pins s σ H _ I h) fun us s1 ⟨vs,H1,I1,r1,q1⟩=>hc pins s1 σ H1 vs us Q I1 r1 q1) he hpl
end
end L2
namespace HT
open PySem PyProof.Rows
section
open PySem.SeqAt
open PySem.AutoSeq1 (wpAny_loadPart')
open PySem.MeetsSeq PySem.MeetsSeq2 PySem.MeetsSeq3
end
section
variable {prog:y0r} {w:World} {A:Around} {E:Value->y04->Prop} {s:y04}
theorem cat_tup {t b:Addr} {vs ws:List Value} {Q:Value->y04->Prop} (ht:IsTup s.heap t vs.toArray) (hb:IsTup s.heap b ws.toArray) (hv:vs≠[])
  (h1:ws=[]->Q (.ref t) s) (h2:ws≠[]->Q (.ref s.heap.objs.size) { s with heap:=s.heap.push { cls:=.type "tuple",data:=.seq (vs++ws).toArray } })
  (hsz:vs.length+ws.length<=y0k):y0u (model prog w) A (binaryOp .Add (.ref t) (.ref b)) Q E s:=by
 obtain⟨⟨cls,dd,data,sl⟩,ho,hc,n,hd⟩:=id ht
 obtain⟨⟨cls2,dd2,data2,sl2⟩,ho2,hc2,n2,hd2⟩:=id hb
 simp only at hc hd hc2 hd2
 subst hc hd hc2 hd2
 have e:vs.toArray++ws.toArray=(vs++ws).toArray:=by simp
 by_cases hw:ws=[]
 ·exact concat_meets ⟨_,ho,rfl⟩ ⟨_,ho2,rfl⟩ noFill_tuple_add seq_tuple_add PySem.F.slot_tuple_add PySem.F.entry_tuple_add (PySem.F.args_tuple_add_2 _ _)
   (tuple_addW1 t b vs.toArray ws.toArray n n2 dd dd2 sl sl2 (by simpa using hv) (by simp[hw])) ⟨ho,ho2,h1 hw⟩
 ·refine concat_meets ⟨_,ho,rfl⟩ ⟨_,ho2,rfl⟩ noFill_tuple_add seq_tuple_add PySem.F.slot_tuple_add PySem.F.entry_tuple_add (PySem.F.args_tuple_add_2 _ _)
   (tuple_addW2 t b vs.toArray ws.toArray n n2 dd dd2 sl sl2 (by simpa using hv) (by simpa using hw) (by rw[y0i,y0i];exact hsz)) ⟨ho,ho2,?_⟩
  rw[e]
  exact h2 hw
def sIx (n d:Nat):Option Int->Nat
 | none=>d
 | some v=>if v<0 then (v+(n:Int)).toNat else min v.toNat n
theorem zvs (n d:Nat) (hd:d<=n) (o:Option Int):sIx n d o<=n:=by
 cases o with
 | none=>exact hd
 | some v =>
  show (if v<0 then (v+(n:Int)).toNat else min v.toNat n)<=n
  by_cases hv:v<0
  ·rw[if_pos hv];omega
  ·rw[if_neg hv];exact Nat.min_le_right _ _
theorem zp4 (v:Int) (n d:Nat):(if v<0 then max (v+(n:Int)) 0 else min v (n:Int))=((sIx n d (some v):Nat):Int):=by
 show (if v<0 then max (v+(n:Int)) 0 else min v (n:Int))=(((if v<0 then (v+(n:Int)).toNat else min v.toNat n):Nat):Int)
 by_cases hv:v<0
 ·simp only[if_pos hv];omega
 ·simp only[if_neg hv];omega
theorem zmi (lo hi:Option Int) (n:Nat):Builtin.Slice.sliceAdjust lo hi 1 (n:Int)=(((sIx n 0 lo:Nat):Int),((sIx n n hi:Nat):Int)):=by
 have h1:¬((1:Int)<0):=by omega
 unfold Builtin.Slice.sliceAdjust
 simp only[h1,if_false]
 refine Prod.ext ?_ ?_
 ·cases lo with
  | none=>rfl
  | some v=>exact zp4 v n 0
 ·cases hi with
  | none=>rfl
  | some v=>exact zp4 v n n
theorem zln (i j:Nat):y1k (i:Int) (j:Int) 1=j - i:=by
 unfold y1k
 have h1:(1:Int) > 0:=by omega
 simp only[h1,if_true,Int.ediv_one]
 split <;> omega
theorem zeo {v:Value} {o:Option Int} {Q:Option Int->y04->Prop} (p:IsPart v o) (h:Q o s):y0u (model prog w) A (Builtin.Slice.slicePartIndex v) Q E s:=by
 cases p with
 | none=>exact slicePart_none h
 | int i t=>exact slicePart_int h
theorem sliceApplied_gen {sl:Addr} {vl vu:Value} {lo hi:Option Int} {n:Nat} {Q:Int×Int×Nat->y04->Prop} (hs:s.heap.IsSliceOf sl vl vu .none) (pl:IsPart vl lo) (pu:IsPart vu hi)
  (h:Q (((sIx n 0 lo:Nat):Int),1,sIx n n hi - sIx n 0 lo) s):y0u (model prog w) A (Builtin.Slice.sliceApplied (.ref sl) (pure (n:Int))) Q E s:=by
 obtain⟨os,hos,hcs,hds⟩:=id hs
 unfold Builtin.Slice.sliceApplied Builtin.Slice.sliceFields
 refine y02 (y02 (wpAny_field hos hds (x:=vl) rfl (y02 (wpAny_field hos hds (x:=vu) rfl (y02 (wpAny_field hos hds (x:=.none) rfl (y06 ?_)))))))
 refine y02 (slicePart_none ?_)
 show y0u _ _ (if ((1:Int) == 0)=true then _ else _) _ _ s
 rw[if_neg (by decide)]
 refine y02 (zeo pl (y02 (zeo pu (y02 (y06 ?_)))))
 show y0u _ _ (match Builtin.Slice.sliceAdjust lo hi 1 (n:Int) with|(lo,hi)=>pure (lo,(1:Int),y1k lo hi 1)) _ _ s
 rw[zmi lo hi n]
 show y0u _ _ (pure (((sIx n 0 lo:Nat):Int),(1:Int),y1k ((sIx n 0 lo:Nat):Int) ((sIx n n hi:Nat):Int) 1)) _ _ s
 rw[zln]
 exact y06 h
theorem zqh (xs:Array Value) (i k:Nat):((List.range k).filterMap fun (m:Nat)=>xs[((i:Int)+(m:Int)*1).toNat]?).toArray=((xs.toList.drop i).take k).toArray:=by
 have e:(fun (m:Nat)=>xs[((i:Int)+(m:Int)*1).toNat]?)=fun m=>xs[i+m]?:=by
  funext m
  have:((i:Int)+(m:Int)*1).toNat=i+m:=by omega
  rw[this]
 rw[e]
 have:=pick_run xs i k
 rw[List.filterMap_map] at this
 have e2:((fun x=>xs[x]?) ∘ fun x=>i+x)=fun m=>xs[i+m]?:=rfl
 rw[e2] at this
 rw[this]
theorem getItem_tuple_cut {t sl:Addr} {items:Array Value} {vl vu:Value} {lo hi:Option Int} {Q:Value->y04->Prop} (ht:IsTup s.heap t items) (hs:s.heap.IsSliceOf sl vl vu .none) (pl:IsPart vl lo) (pu:IsPart vu hi)
  (hw:¬(sIx items.size 0 lo=0/\sIx items.size items.size hi=items.size))
  (h:Q (.ref s.heap.objs.size) { s with heap:=s.heap.push { cls:=.type "tuple",data:=.seq ((items.toList.drop (sIx items.size 0 lo)).take (sIx items.size items.size hi - sIx items.size 0 lo)).toArray } })
  (hsz:items.size<=y0k):y0u (model prog w) A (getItem (.ref t) (.ref sl)) Q E s:=by
 have htake:sizeOk (.seq ((items.toList.drop (sIx items.size 0 lo)).take (sIx items.size items.size hi - sIx items.size 0 lo)).toArray):=by
  show ((items.toList.drop (sIx items.size 0 lo)).take (sIx items.size items.size hi - sIx items.size 0 lo)).toArray.size<=y0k
  rw[y0i,List.length_take,List.length_drop,y23]
  omega
 have hj:sIx items.size items.size hi<=items.size:=zvs _ _ (y0p _) hi
 obtain⟨os,hos,hcs,hds⟩:=id hs
 have hTs:s.TypeIs (.ref sl) "slice":=⟨os,hos,hcs⟩
 unfold getItem
 try with_reducible refine wpAny_holding ?_
 first|refine y02 (y06 ?_)|skip
 refine y02 (wpAny_sequenceKey ht.typeIs (by decide) ?_)
 refine y02 (wpAny_callSpecial?_slot (name:=Str.ofString "__getitem__") ht.typeIs y1i
  (wpAny_call_entry y1i ht.typeIs entry_tuple_getitem ?_ (args_tuple_getitem _ _)))
 show y0u _ _ (Builtin.Tuple.tupleItemsOf (.ref t) >>= _) _ _ s
 refine y02 (tupleItemsOf_ ht ?_)
 refine y02 (wpAny_typeOf hTs ?_)
 rw[if_pos (by decide)]
 refine y02 (sliceApplied_gen hs pl pu ?_)
 have hno:¬((((sIx items.size 0 lo:Nat):Int) == 0 && (1:Int) == 1 && (sIx items.size items.size hi - sIx items.size 0 lo) == items.size)=true):=by
  intro q
  rw[y1c,y1c] at q
  have q1:((sIx items.size 0 lo:Nat):Int)=0:=eq_of_beq q.1.1
  have q2:sIx items.size items.size hi - sIx items.size 0 lo=items.size:=eq_of_beq q.2
  exact hw ⟨by omega,by omega⟩
 show y0u _ _ (if (((sIx items.size 0 lo:Nat):Int) == 0 && (1:Int) == 1 && (sIx items.size items.size hi - sIx items.size 0 lo) == items.size)=true then _ else _) _ _ s
 rw[if_neg hno,zqh]
 first
  | exact y02 (m:=y13 _) (wpAny_newObj_type (y06 ⟨_,rfl,y06 h⟩) htake)
  | exact y02 (m:=y13 _) (wpAny_newObj_type (y02 (y06 (y06 ⟨_,rfl,y06 h⟩))) htake)
  | exact y02 (y02 (m:=y13 _) (wpAny_newObj_type (y06 (y06 ⟨_,rfl,y06 h⟩)) htake))
  | exact y02 (y02 (m:=y13 _) (wpAny_newObj_type (y06 ⟨_,rfl,y06 h⟩) htake))
end
end HT
namespace L2
open PySem PySem.Spec PyProof.Rows
abbrev TO:=St->Hp->(Option Int->Hp->Prop)->Prop
noncomputable def PO (X:Cx) (e:Option Expr) (t:TO):Prop :=
 ∀(pins:List (Addr×Obj)) (s:y04) (σ:St) (H:Hp) (Q:Option Int->Hp->Prop),Inv X pins σ H s->t σ H Q ->
  y0u (model X.prog X.w) X.A (evalPart e X.env) (fun u s'=>∃o H',Inv X pins σ H' s'/\IsPart u o/\Q o H') X.xe s
def ztd:TO:=fun _ H Q=>Q none H
def zxr (t:TE):TO:=fun σ H Q=>t σ H fun x H1=>∃i,x=.int i/\Q (some i) H1
section
variable {X:Cx} {e:Expr} {te:TE} {lo hi:Option Expr} {tl th:TO} {pos p2:Pos}
theorem ztv:PO X none ztd:=by
 intro pins s σ H Q I h
 rw[evalPart_none]
 exact y06 ⟨none,H,I,.none,h⟩
theorem ztu (h:PE X e te):PO X (some e) (zxr te):=by
 intro pins s σ H Q I hw
 rw[evalPart_some]
 refine thn (h pins s σ H _ I hw) fun u s1 ⟨x,H1,I1,r1,q1⟩=>?_
 obtain⟨i,rfl,q⟩:=q1
 obtain⟨t,rfl⟩:=r1
 exact⟨some i,H1,I1,.int i t,q⟩
noncomputable def SlR (X:Cx) (r:V->Option Int->Option Int->Hp->VK->Prop):Prop :=
 ∀(pins:List (Addr×Obj)) (s:y04) (σ:St) (H:Hp) (x:V) (v vl vu:Value) (lo hi:Option Int) (sl:Addr) (Q:VK),Inv X pins σ H s->RelV x v->s.heap.IsSliceOf sl vl vu .none->IsPart vl lo->IsPart vu hi->r x lo hi H Q ->
  ∃T id,typeLookup (.type T) "__getitem__"=pure (some (.builtin id))/\s.TypeIs v T/\y0u (model X.prog X.w) X.A (getItem v (.ref sl)) (EP X pins σ Q) X.xe s
theorem SlR.or {r r':V->Option Int->Option Int->Hp->VK->Prop} (h:SlR X r) (h':SlR X r'):SlR X (fun x lo hi H Q=>r x lo hi H Q\/r' x lo hi H Q):=by
 intro pins s σ H x v vl vu lo hi sl Q I rx hs pl pu q
 rcases q with q|q
 ·exact h pins s σ H x v vl vu lo hi sl Q I rx hs pl pu q
 ·exact h' pins s σ H x v vl vu lo hi sl Q I rx hs pl pu q
def tSl (r:V->Option Int->Option Int->Hp->VK->Prop) (te:TE) (tl th:TO):TE:=fun σ H Q=>te σ H fun x H1=>tl σ H1 fun l H2=>th σ H2 fun u H3=>r x l u H3 Q
theorem zqj {r:V->Option Int->Option Int->Hp->VK->Prop} (hr:SlR X r) (he:PE X e te) (hl:PO X lo tl) (hu:PO X hi th):PE X (.Subscript e (.Slice lo hi none p2) pos) (tSl r te tl th):=by
 intro pins s σ H Q I h
 refine Subscript_ (thn (he pins s σ H _ I h) fun v s1 ⟨x,H1,I1,r1,q1⟩=>?_)
 refine wpAny_Slice (thn (hl pins s1 σ H1 _ I1 q1) fun vl s2 ⟨l,H2,I2,pl,q2⟩=>thn (hu pins s2 σ H2 _ I2 q2) fun vu s3 ⟨u,H3,I3,pu,q3⟩=>?_)
 rw[evalPart_none]
 refine y06 ?_
 have I4:Inv X pins σ H3 { s3 with heap:=s3.heap.push { cls:=.type "slice",data:=.fields #[vl,vu,.none] } }:=I3.kept (t':=s3.toks) fun b ob q=>y03 _ q
 obtain⟨T,id,hT,ht,hg⟩:=hr pins { s3 with heap:=s3.heap.push { cls:=.type "slice",data:=.fields #[vl,vu,.none] } } σ H3 x v vl vu l u s3.heap.objs.size Q I4 r1 (Heap.IsSliceOf.new ..) pl pu q3
 show y0u (model X.prog X.w) X.A (subscriptTail e (.Slice lo hi none p2) v (.ref s3.heap.objs.size)) (EP X pins σ Q) X.xe { s3 with heap:=s3.heap.push { cls:=.type "slice",data:=.fields #[vl,vu,.none] } }
 exact tail_any (ops:=[.ref s3.heap.objs.size,v]) ht hT hg (by with_unfolding_all rfl)
def cutV (xs:List V) (lo hi:Option Int):List V:=(xs.drop (HT.sIx xs.length 0 lo)).take (HT.sIx xs.length xs.length hi - HT.sIx xs.length 0 lo)
theorem ze2 (xs:List V) (lo hi:Option Int):(cutV xs lo hi).length<=xs.length:=by
 unfold cutV
 rw[List.length_take,List.length_drop]
 omega
noncomputable def rSlT (K:y00):V->Option Int->Option Int->Hp->VK->Prop:=fun x lo hi H Q=>∃a xs,x=.ref a/\SqT K H a xs /\
 ¬(HT.sIx xs.length 0 lo=0/\HT.sIx xs.length xs.length hi=xs.length)/\∀p,H p=none->Q (.ref p) (upd H p (.tup (cutV xs lo hi)))
theorem zvn:SlR X (rSlT X.K):=by
 intro pins s σ H x v vl vu lo hi sl Q I rx hs pl pu h
 obtain⟨a,xs,rfl,hx,hw,q⟩:=h
 cases rx
 obtain⟨its,r,ht,hz⟩:=I.tuple hx
 have hlen:its.toArray.size=xs.length:=by rw[y0i];exact r.length.symm
 refine⟨"tuple",_,PyProof.Rows.slot_tuple_getitem.lookup,ht.typeIs,?_⟩
 refine HT.getItem_tuple_cut ht hs pl pu (by rw[hlen];exact hw) ?_ (by rw[hlen];exact hz)
 rw[hlen]
 refine⟨.ref s.heap.objs.size,_,I.laid (t':=s.toks) (o:=.tup (cutV xs lo hi)) (fun b ob q=>y03 _ q) (y0p _) ?_,rfl,q _ (I.hok.fresh (y0p _))⟩
 exact⟨y1s (ze2 xs lo hi) hz,_,(r.drop (HT.sIx xs.length 0 lo)).take (HT.sIx xs.length xs.length hi - HT.sIx xs.length 0 lo),IsTup.new _ _⟩
noncomputable def zy4 (K:y00):R2:=fun x y H Q=>∃a b xs ys,x=.ref a/\y=.ref b/\SqT K H a xs/\SqT K H b ys/\xs≠[]/\xs.length+ys.length<=y0k /\
 (ys=[]->Q (.ref a) H)/\(ys≠[]->∀p,H p=none->Q (.ref p) (upd H p (.tup (xs++ys))))
theorem Vals.nil_iff {xs:List V} {us:List Value} (r:Vals xs us):us=[] <-> xs=[]:=by
 cases r with
 | nil=>simp
 | cons _ _=>simp
theorem zua:OpR X (binaryOp .Add) (zy4 X.K):=by
 intro pins s σ H x y v u Q I rx ry h
 obtain⟨a,b,xs,ys,rfl,rfl,ha,hb,hx,hz,q1,q2⟩:=h
 cases rx
 cases ry
 obtain⟨its,r1,p1,_⟩:=I.tuple ha
 obtain⟨its2,r2,p2,_⟩:=I.tuple hb
 refine HT.cat_tup p1 p2 (fun z=>hx (r1.nil_iff.mp z)) (fun z=>⟨.ref a,H,I,rfl,q1 (r2.nil_iff.mp z)⟩) (fun z=>?_) (by rw[<- r1.length,<- r2.length];exact hz)
 refine⟨.ref s.heap.objs.size,_,I.laid (t':=s.toks) (o:=.tup (xs++ys)) (fun b ob q=>y03 _ q) (y0p _) ?_,rfl,q2 (fun w=>z (r2.nil_iff.mpr w)) _ (I.hok.fresh (y0p _))⟩
 exact⟨by rw[y26];exact hz,_,r1.append r2,IsTup.new _ _⟩
end
end L2
namespace L2
open PySem PySem.Spec PyProof.Rows
def ixN (n:Nat) (i:Int):Option Nat:=if 0<=i then (if i<n then some i.toNat else none) else if -(n:Int)<=i then some (i+n).toNat else none
def atI {α:Type} (xs:List α) (i:Int):Option α:=(ixN xs.length i).bind fun j=>xs[j]?
theorem zun {n:Nat} {i:Int} {j:Nat} (h:ixN n i=some j):seqIndex? i n=some j/\j<n/\-(n:Int)<=i/\i<n:=by
 unfold ixN at h
 by_cases h0:0<=i
 ·rw[if_pos h0] at h
  by_cases h1:i<n
  ·rw[if_pos h1] at h
   have e:i.toNat=j:=y2i h
   exact⟨by rw[seqIndex_of h0 h1,e],by omega,by omega,h1⟩
  ·rw[if_neg h1] at h;cases h
 ·rw[if_neg h0] at h
  by_cases h1:-(n:Int)<=i
  ·rw[if_pos h1] at h
   have e:(i+n).toNat=j:=y2i h
   exact⟨by rw[seqIndex_neg (by omega) h1,e],by omega,h1,by omega⟩
  ·rw[if_neg h1] at h;cases h
theorem zk0 {α:Type} {xs:List α} {i:Int} {v:α} (h:atI xs i=some v):∃j,seqIndex? i xs.length=some j/\xs[j]?=some v/\j<xs.length/\-(xs.length:Int)<=i/\i<xs.length:=by
 unfold atI at h
 cases e:ixN xs.length i with
 | none=>rw[e] at h;cases h
 | some j =>
  rw[e] at h
  obtain⟨h1,h2,h3,h4⟩:=zun e
  exact⟨j,h1,h,h2,h3,h4⟩
def zpn (b:Expr):Prop:=∀o i,subscripted b false o i=operate [o,i] (getItem o i)
noncomputable def IxR (X:Cx) (r:R2):Prop :=
 ∀(value slice:Expr) (pins:List (Addr×Obj)) (s:y04) (σ:St) (H:Hp) (x y:V) (v u:Value) (Q:VK),Inv X pins σ H s->RelV x v->RelV y u->r x y H Q ->
  subscripted slice false v u=operate [v,u] (getItem v u)->y0u (model X.prog X.w) X.A (subscriptTail value slice v u) (EP X pins σ Q) X.xe s
noncomputable def MtR (X:Cx) (id:String) (r:V->List V->Hp->VK->Prop):Prop :=
 ∀(pins:List (Addr×Obj)) (s:y04) (σ:St) (H:Hp) (x:V) (xs:List V) (v:Value) (us:List Value) (Q:VK),Inv X pins σ H s->RelV x v->Vals xs us->r x xs H Q ->
  y0u (model X.prog X.w) X.A (call (.builtin id) (v::us)) (EP X pins σ Q) X.xe s
section
variable {X:Cx} {a b:Expr} {ta tb:TE} {pos:Pos}
theorem IxR.or {r r':R2} (h:IxR X r) (h':IxR X r'):IxR X (fun x y H Q=>r x y H Q\/r' x y H Q):=by
 intro value slice pins s σ H x y v u Q I rx ry q hs
 rcases q with q|q
 ·exact h value slice pins s σ H x y v u Q I rx ry q hs
 ·exact h' value slice pins s σ H x y v u Q I rx ry q hs
theorem zyc {r:R2} (hr:IxR X r) (ha:PE X a ta) (hb:PE X b tb) (hs:zpn b):PE X (.Subscript a b pos) (tOp r ta tb):=by
 intro pins s σ H Q I h
 exact Subscript_ (binT ha hb I h fun v u s2 x y H2 I2 rx ry q=>hr a b pins s2 σ H2 x y v u Q I2 rx ry q (hs _ _))
def rIxL (K:y00):R2:=fun x y H Q=>∃p xs i v,x=.ref p/\y=.int i/\SqL K H p xs/\atI xs i=some v/\Q v H
def rIxT (K:y00):R2:=fun x y H Q=>∃p xs i v,x=.ref p/\y=.int i/\SqT K H p xs/\atI xs i=some v/\Q v H
def rIxS:R2:=fun x y H Q=>∃z i c,x=.str z/\y=.int i/\z.length<=y0k/\atI z.cps.toList i=some c/\Q (.str ⟨#[c]⟩) H
theorem zul:IxR X (rIxL X.K):=by
 intro value slice pins s σ H x y v u Q I rx ry h hs
 obtain⟨p,xs,i,z,rfl,rfl,hq,he,q⟩:=h
 cases rx
 obtain⟨t,rfl⟩:=ry
 obtain⟨its,r,pl,hz⟩:=I.list hq
 obtain⟨j,h1,h2,h3,h4,h5⟩:=zk0 he
 obtain⟨w,ew,rw'⟩:=r.get h2
 have hl:=r.length
 have hn:=zfc
 have fin:EP X pins σ Q w s:=⟨z,H,I,rw',q⟩
 by_cases h0:0<=i
 ·have hj:i.toNat=j:=by
   rw[seqIndex_of h0 h5] at h1
   exact y2i h1
  exact item_listR pl.isList h0 (by omega) (by rw[hj];simpa using ew) fin hs
 ·have hj:(i+(its.toArray.size:Int)).toNat=j:=by
   rw[seqIndex_neg (by omega) h4] at h1
   rw[y0i,<- hl]
   exact y2i h1
  exact subscriptTail_builtinR (x:=w) pl.isList.typeIs slot_list_getitem.lookup
   (wpAny_getItem_list_neg (Q:=fun r s'=>r=w/\EP X pins σ Q r s') pl.isList (by omega) (by rw[y0i] <;> omega) (by omega) (by rw[hj];simpa using ew) ⟨rfl,fin⟩) hs
theorem zx2:IxR X (rIxT X.K):=by
 intro value slice pins s σ H x y v u Q I rx ry h hs
 obtain⟨p,xs,i,z,rfl,rfl,hq,he,q⟩:=h
 cases rx
 obtain⟨t,rfl⟩:=ry
 obtain⟨its,r,pl,hz⟩:=I.tuple hq
 obtain⟨j,h1,h2,h3,h4,h5⟩:=zk0 he
 obtain⟨w,ew,rw'⟩:=r.get h2
 have hl:=r.length
 have hn:=zfc
 have fin:EP X pins σ Q w s:=⟨z,H,I,rw',q⟩
 exact subscriptTail_builtinR (x:=w) pl.typeIs slot_tuple_getitem.lookup
  (getItem_tuple (j:=j) (Q:=fun r s'=>r=w/\EP X pins σ Q r s') pl (by omega) (by omega) (by rw[y0i,<- hl];exact h1) (by simpa using ew) ⟨rfl,fin⟩) hs
theorem zx3:IxR X rIxS:=by
 intro value slice pins s σ H x y v u Q I rx ry h hs
 obtain⟨z,i,c,rfl,rfl,hz,he,q⟩:=h
 obtain⟨t,rfl⟩:=rx
 obtain⟨t',rfl⟩:=ry
 obtain⟨j,h1,h2,h3,h4,h5⟩:=zk0 he
 have hl:z.cps.toList.length=z.length:=by simp[Str.length]
 rw[hl] at h1 h4 h5
 have hn:=zfc
 exact tail_any (typeIs_str s z t) slot_str_getitem.lookup (getItem_str (c:=c) (by
  have e1:decide (i < -(2 ^ 63:Int))=false:=decide_eq_false (by omega)
  have e2:decide (i >= 2 ^ 63)=false:=decide_eq_false (by omega)
  rw[e1,e2,Bool.or_false]) (by rw[h1];simpa using h2) ⟨.str ⟨#[c]⟩,H,I.tok _,⟨_,rfl⟩,q⟩) hs
def rIx (K:y00):R2:=fun x y H Q=>rIxL K x y H Q\/rIxT K x y H Q\/rIxS x y H Q
theorem zx4:IxR X (rIx X.K):=zul.or (zx2.or zx3)
theorem zh2 (lo hi:Option Int) (n:Nat):(sliceBounds lo hi none n).1=((HT.sIx n 0 lo:Nat):Int)/\(sliceBounds lo hi none n).2.1=((HT.sIx n n hi:Nat):Int)/\(sliceBounds lo hi none n).2.2=1:=by
 refine⟨?_,?_,rfl⟩
 ·cases lo with
  | none=>simp[sliceBounds,HT.sIx]
  | some i =>
   simp only[sliceBounds,HT.sIx,Option.getD_none,show (1:Int) > 0 by decide,if_true]
   by_cases h:i<0
   ·simp only[h,if_true] <;> omega
   ·simp only[h,if_false] <;> omega
 ·cases hi with
  | none=>simp[sliceBounds,HT.sIx]
  | some i =>
   simp only[sliceBounds,HT.sIx,Option.getD_none,show (1:Int) > 0 by decide,if_true]
   by_cases h:i<0
   ·simp only[h,if_true] <;> omega
   ·simp only[h,if_false] <;> omega
theorem zfy (its:List Value) (lo hi:Option Int):slicePick its.toArray lo hi none=((its.drop (HT.sIx its.length 0 lo)).take (HT.sIx its.length its.length hi - HT.sIx its.length 0 lo)).toArray:=by
 obtain⟨h1,h2,h3⟩:=zh2 lo hi its.toArray.size
 unfold slicePick
 rw[h1,h2,h3]
 simp only[sliceRange_one,pick_run,y0i] <;> rfl
def rSlL (K:y00):V->Option Int->Option Int->Hp->VK->Prop:=fun x lo hi H Q=>∃a xs,x=.ref a/\SqL K H a xs/\∀p,H p=none->Q (.ref p) (upd H p (.lst (cutV xs lo hi)))
theorem ztf:SlR X (rSlL X.K):=by
 intro pins s σ H x v vl vu lo hi sl Q I rx hs pl pu h
 obtain⟨a,xs,rfl,hx,q⟩:=h
 cases rx
 obtain⟨its,r,ht,hz⟩:=I.list hx
 have hlen:=r.length
 refine⟨"list",_,slot_list_getitem.lookup,ht.isList.typeIs,?_⟩
 refine wpAny_getItem_list_slice ht.isList hs pl pu .none (by simp) ?_ (by rw[y0i] <;> omega)
 rw[zfy,<- hlen]
 refine⟨.ref s.heap.objs.size,_,I.laid (t':=s.toks) (o:=.lst (cutV xs lo hi)) (fun b ob q=>y03 _ q) (y0p _) ?_,rfl,q _ (I.hok.fresh (y0p _))⟩
 exact⟨y1s (ze2 xs lo hi) hz,_,0,(r.drop (HT.sIx xs.length 0 lo)).take (HT.sIx xs.length xs.length hi - HT.sIx xs.length 0 lo),y0m _ rfl⟩
theorem zir:za6 X (.builtin "len") (fun xs H Q=>∃p ys,xs=[.ref p]/\(SqL X.K H p ys\/SqT X.K H p ys)/\Q (.int ys.length) H):=by
 intro pins s σ H xs us Q I r h
 obtain⟨p,ys,rfl,hq,q⟩:=h
 obtain⟨u,rfl,rx⟩:=zgu r
 cases rx
 have hn:=zfc
 rcases hq with hq|hq
 ·obtain⟨its,r',pl,hz⟩:=I.list hq
  have hlen:=r'.length
  exact Calls.call_len_list pl.isList (by simp only[y0i] <;> omega) ⟨.int ys.length,H,I.tok _,⟨s.toks+1,by rw[y0i,hlen]⟩,q⟩
 ·obtain⟨its,r',pl,hz⟩:=I.tuple hq
  have hlen:=r'.length
  exact len_tuple pl (by simp only[y0i] <;> omega) ⟨.int ys.length,H,I.tok _,⟨s.toks+1,by rw[y0i,hlen]⟩,q⟩
theorem ziq:za6 X (.builtin "len") (fun xs H Q=>∃z,xs=[.str z]/\z.length<=y0k/\Q (.int z.length) H):=by
 intro pins s σ H xs us Q I r h
 obtain⟨z,rfl,hz,q⟩:=h
 obtain⟨u,rfl,t,rfl⟩:=zgu r
 have hn:=zfc
 exact len_str (by omega) ⟨.int z.length,H,I.tok _,⟨_,rfl⟩,q⟩
theorem za6.or {f:Value} {r r':List V->Hp->VK->Prop} (h:za6 X f r) (h':za6 X f r'):za6 X f (fun xs H Q=>r xs H Q\/r' xs H Q):=by
 intro pins s σ H xs us Q I rs q
 rcases q with q|q
 ·exact h pins s σ H xs us Q I rs q
 ·exact h' pins s σ H xs us Q I rs q
theorem zio:za6 X (.type "list") (fun xs H Q=>∃p ys,xs=[.ref p]/\(SqL X.K H p ys\/SqT X.K H p ys)/\∀l,H l=none->Q (.ref l) (upd H l (.lst ys))):=by
 intro pins s σ H xs us Q I r h
 obtain⟨p,ys,rfl,hq,q⟩:=h
 obtain⟨u,rfl,rx⟩:=zgu r
 cases rx
 have fin:∀(its:List Value),Vals ys its->ys.length<=y0k->∀(h':Heap) (c':Nat),(∀b o',s.heap.get? b=some o'->h'.get? b=some o') ->
   h'.get? s.heap.objs.size=some { cls:=.type "list",dict:=none,data:=.seq its.toArray c',slots:=#[] }->EP X pins σ Q (.ref s.heap.objs.size) { s with heap:=h' }:=fun its r' hz h' c' kp e =>
  ⟨.ref s.heap.objs.size,_,I.laid (t':=s.toks) kp (y0p _) (show z5g X.prog X.w _ h' _ (.lst ys) from ⟨hz,its,c',r',e⟩),rfl,q _ (I.hok.fresh (y0p _))⟩
 rcases hq with hq|hq
 ·obtain⟨its,r',pl,hz⟩:=I.list hq
  have hlen:=r'.length
  obtain⟨o,ho,hc,n,hd⟩:=pl.isList
  exact call_list_seq p (.inl rfl) ho hc hd (fun h' c' kp e=>fin its r' hz h' c' kp e) (by simp only[y0i] <;> omega)
 ·obtain⟨its,r',pl,hz⟩:=I.tuple hq
  have hlen:=r'.length
  obtain⟨o,ho,hc,n,hd⟩:=pl
  exact call_list_seq p (.inr rfl) ho hc hd (fun h' c' kp e=>fin its r' hz h' c' kp e) (by simp only[y0i] <;> omega)
theorem zgm:za6 X (.type "tuple") (fun xs H Q=>∃p ys,xs=[.ref p]/\((SqL X.K H p ys/\∀l,H l=none->Q (.ref l) (upd H l (.tup ys)))\/(SqT X.K H p ys/\Q (.ref p) H))):=by
 intro pins s σ H xs us Q I r h
 obtain⟨p,ys,rfl,h⟩:=h
 obtain⟨u,rfl,rx⟩:=zgu r
 cases rx
 rcases h with ⟨hq,q⟩|⟨hq,q⟩
 ·obtain⟨its,r',pl,hz⟩:=I.list hq
  have hlen:=r'.length
  refine call_tuple_list pl.isList (fun h' kp=>?_) (by simp only[y0i] <;> omega)
  have I1:Inv X pins σ H { s with heap:=h' }:=I.kept (t':=s.toks) kp
  have I2:Inv X pins σ (upd H h'.objs.size (.tup ys)) { s with heap:=h'.push { cls:=.type "tuple",data:=.seq its.toArray } } :=
   I1.laid (t':=s.toks) (fun b o e=>y03 _ e) (y0p _) (show z5g X.prog X.w _ _ _ (.tup ys) from ⟨hz,its,r',IsTup.new _ _⟩)
  exact⟨.ref h'.objs.size,_,I2,rfl,q _ (I1.hok.fresh (y0p _))⟩
 ·obtain⟨its,r',pl,hz⟩:=I.tuple hq
  exact call_tuple_same pl ⟨.ref p,H,I,rfl,q⟩
noncomputable def tyV (K:y00) (T:String) (x:V) (H:Hp):Prop:=match x with
 | .str _=>T="str"
 | .int _=>T="int"
 | .ref p=>(T="list"/\∃xs,SqL K H p xs)\/(T="tuple"/\∃o,K.lookup p=some o/\o.cls=.type "tuple"/\o.dict=none) \/
   (T="dict"/\((∃kvs,H p=some (.dK kvs))\/∃kvs,H p=some (.dT kvs)))\/(T="set"/\∃S n,H p=some (.set S n))
 | _=>False
theorem zs0 {pins:List (Addr×Obj)} {σ:St} {H:Hp} {s:y04} {T:String} {x:V} {v:Value} (I:Inv X pins σ H s) (r:RelV x v) (ty:tyV X.K T x H) :
  s.TypeIs v T/\∀a,v=.ref a->∃ob,s.heap.get? a=some ob/\ob.dict=none:=by
 cases x with
 | str z =>
  obtain⟨t,rfl⟩:=r
  cases (show T="str" from ty)
  exact⟨typeIs_str s z t,fun _ e=>nomatch e⟩
 | int i =>
  obtain⟨t,rfl⟩:=r
  cases (show T="int" from ty)
  exact⟨typeIs_int s i t,fun _ e=>nomatch e⟩
 | ref p =>
  cases r
  rcases ty with ⟨rfl,xs,hq⟩|⟨rfl,o,hk,hc,hd⟩|⟨rfl,hk⟩|⟨rfl,S,n,hk⟩
  ·obtain⟨its,_,pl,_⟩:=I.list hq
   refine⟨pl.isList.typeIs,fun a e=>?_⟩
   cases e
   obtain⟨o,n,e,c,hd,_⟩:=pl
   exact⟨o,e,hd⟩
  ·refine⟨⟨o,I.kIn p o hk,hc⟩,fun a e=>?_⟩
   cases e
   exact⟨o,I.kIn _ o hk,hd⟩
  ·have z:∃o,s.heap.get? p=some o/\o.ExactDict:=by
    rcases hk with ⟨kvs,hk⟩|⟨kvs,hk⟩
    ·obtain⟨_,_,_,_,o,_,_,e,ex,_⟩:=I.hok p _ hk
     exact⟨o,e,ex⟩
    ·obtain⟨_,_,_,_,o,_,_,e,ex,_⟩:=I.hok p _ hk
     exact⟨o,e,ex⟩
   obtain⟨o,e,ex⟩:=z
   refine⟨⟨o,e,ex.1⟩,fun a e2=>?_⟩
   cases e2
   exact⟨o,e,ex.2.1⟩
  ·obtain⟨o,_,_,_,e,ex,_⟩:=I.hok p _ hk
   refine⟨⟨o,e,ex.1⟩,fun a e2=>?_⟩
   cases e2
   exact⟨o,e,ex.2.1⟩
 | _=>exact y20 ty
def tBM0 (K:y00) (T:String) (r:V->List V->Hp->VK->Prop) (to:TE):TE:=fun σ H Q=>to σ H fun x H1=>tyV K T x H1/\r x [] H1 Q
def tBM (K:y00) (T:String) (r:V->List V->Hp->VK->Prop) (to:TE) (t:TA):TE:=fun σ H Q=>to σ H fun x H1=>tyV K T x H1/\t σ H1 fun xs H2=>r x xs H2 Q
variable {o e:Expr} {es:List Expr} {to:TE} {t:TA} {name:Str} {apos cpos:Pos} {T id:String} {r:V->List V->Hp->VK->Prop}
theorem zse (pa:PlainAttrs T) (slot:Slot T name id) (hty:typeOf (.builtin id)=pure (.type "method_descriptor")) (hm:MtR X id r) (ho:PE X o to)
  (hbase:attributeBase o name X.env (eval o X.env)=eval o X.env:=by rfl) (hline:(apos.endLine == cpos.line)=true:=by rfl):PE X (.Call (.Attribute o name apos) [] [] cpos) (tBM0 X.K T r to):=by
 intro pins s σ H Q I h
 refine wpAny_Call_method0_late hbase hline (thn (ho pins s σ H _ I h) fun v s1 ⟨x,H1,I1,r1,ty,q1⟩=>?_)
 obtain⟨h1,h2⟩:=zs0 I1 r1 ty
 exact⟨T,id,pa,slot,hty,h1,h2,Calls.callWith_builtin rfl (PySem.evalArgs_none (hm pins s1 σ H1 x [] v [] Q I1 r1 .nil q1))⟩
theorem zqm (pa:PlainAttrs T) (slot:Slot T name id) (hty:typeOf (.builtin id)=pure (.type "method_descriptor")) (hm:MtR X id r) (ho:PE X o to) (ha:PA X (e::es) t)
  (hbase:attributeBase o name X.env (eval o X.env)=eval o X.env:=by rfl)
  (hfew:((backTo cpos (y0a (e::es) X.env)).all (fun x=>!x.1) && (backToKw cpos (keywordEach [] X.env)).all (fun x=>x.1.isSome)
   && decide ((e::es).length+([]:List Keyword).length+(if ([]:List Keyword).isEmpty then 0 else 1)<30))=true:=by rfl)
  (hline:(apos.endLine == cpos.line)=true:=by rfl) (hs:y0a (e::es) X.env=(false,eval e X.env)::y0a es X.env:=by rfl) (hplain:(backTo cpos (y0a es X.env)).any (·.1)=false:=by rfl) :
  PE X (.Call (.Attribute o name apos) (e::es) [] cpos) (tBM X.K T r to t):=by
 intro pins s σ H Q I h
 refine wpAny_Call_method_late hbase hfew hline rfl (thn (ho pins s σ H _ I h) fun v s1 ⟨x,H1,I1,r1,ty,q1⟩=>?_)
 obtain⟨h1,h2⟩:=zs0 I1 r1 ty
 refine⟨T,id,pa,slot,hty,h1,h2,?_⟩
 have hA:=ha cpos pins s1 σ H1 _ I1 q1
 rw[hs] at hA ⊢
 refine Calls.callWith_builtin (by show (false || (backTo cpos (y0a es X.env)).any (·.1))=false;rw[hplain] <;> rfl) (Calls.evalArgs_plain ?_)
 exact thn hA fun us s2 ⟨vs,H2,I2,r2,q2⟩=>hm pins s2 σ H2 x vs v us Q I2 r1 r2 q2
end
end L2
namespace L2
open PySem PySem.Spec PyProof.Rows
noncomputable def MtM (X:Cx) (id:String) (r:V->List V->Hp->VK->Prop):Prop :=
 ∀(pins:List (Addr×Obj)) (s:y04) (σ:St) (H:Hp) (x:V) (xs:List V) (v:Value) (us:List Value) (Q:VK),Inv X pins σ H s->RelV x v->Vals xs us->r x xs H Q ->
  y0u (model X.prog X.w) X.A (call (.builtin id) (v::us)) (EP X pins σ Q) X.xe s
theorem Vals.one:∀{x:V} {us:List Value},Vals [x] us->∃u,us=[u]/\RelV x u
 | _,_,.cons r .nil=>⟨_,rfl,r⟩
theorem Vals.two:∀{x y:V} {us:List Value},Vals [x,y] us->∃u v,us=[u,v]/\RelV x u/\RelV y v
 | _,_,_,.cons r (.cons q .nil)=>⟨_,_,rfl,r,q⟩
theorem Vals.zero:∀{us:List Value},Vals [] us->us=[]
 | _,.nil=>rfl
theorem Vals.dropLast {xs:List V} {us:List Value} (h:Vals xs us):Vals xs.dropLast us.dropLast:=by
 induction h with
 | nil=>exact .nil
 | cons r t ih =>
  cases t with
  | nil=>exact .nil
  | cons q t'=>exact .cons r ih
theorem Vals.eraseIdx:∀{xs:List V} {us:List Value} (i:Nat),Vals xs us->Vals (xs.eraseIdx i) (us.eraseIdx i)
 | _,_,_,.nil=>.nil
 | _,_,0,.cons _ t=>t
 | _,_,i+1,.cons r t=>.cons r (Vals.eraseIdx i t)
theorem zm0 {α:Type} (l:List α):l.eraseIdx (l.length - 1)=l.dropLast:=by
 induction l with
 | nil=>rfl
 | cons a r ih =>
  cases r with
  | nil=>rfl
  | cons b r =>
   have e:(a::b::r).length - 1=((b::r).length - 1)+1:=by
    have h1:(a::b::r).length=r.length+2:=rfl
    have h2:(b::r).length=r.length+1:=rfl
    omega
   rw[e,List.eraseIdx_cons_succ,ih]
   all_goals rfl
theorem zhw {α:Type}:∀(l:List α) (i:Nat),(l.eraseIdx i).length<=l.length
 | [],_=>y0p _
 | _::_,0=>y2k _
 | _::r,i+1=>Nat.succ_le_succ (zhw r i)
section
variable {X:Cx} {pins:List (Addr×Obj)} {σ:St} {H:Hp} {s:y04} {l b:Addr} {xs ys zs:List V}
theorem Inv.lset {its its':List Value} {n:Nat} {f:Array Value->Array Value} {t':Nat} (I:Inv X pins σ H s) (hH:H l=some (.lst xs))
  (e:s.heap.get? l=some { cls:=.type "list",data:=.seq its.toArray n }) (hf:f its.toArray=its'.toArray) (hv:Vals ys its') (hz:ys.length<=y0k) :
  Inv X pins σ (upd H l (.lst ys)) { s with heap:=s.heap.update l (Obj.mapSeq f),toks:=t' }:=by
 have q:=PySem.IsL.update e f
 rw[hf] at q
 refine I.write (x:=l) (e:=l) (by rw[hH];exact trivial) (.inl rfl) (fun b' u hb hu=>(Heap.get?_update_other s.heap (Obj.mapSeq f) (Ne.symm hb)).trans hu) ⟨_,q⟩ ?_
 exact⟨hz,its',_,hv,q⟩
theorem Inv.lnew {its:List Value} {t':Nat} (I:Inv X pins σ H s) (hv:Vals ys its) (hz:ys.length<=y0k) :
  Inv X pins σ (upd H s.heap.objs.size (.lst ys)) { s with heap:=s.heap.push { cls:=.type "list",data:=.seq its.toArray },toks:=t' } :=
 I.laid (fun _ _ q=>y03 _ q) (y0p _) ⟨hz,its,0,hv,y0m _ rfl⟩
theorem Inv.fresh (I:Inv X pins σ H s):H s.heap.objs.size=none:=I.hok.fresh (y0p _)
theorem Inv.lstM (I:Inv X pins σ H s) (hH:H l=some (.lst xs)):xs.length<=y0k/\∃(its:List Value) (n:Nat),Vals xs its/\xs.length=its.length/\s.heap.get? l=some { cls:=.type "list",data:=.seq its.toArray n }:=by
 obtain⟨z,its,n,r,e⟩:=I.hok l _ hH
 exact⟨z,its,n,r,r.length,e⟩
end
section
variable {X:Cx}
def zto:V->List V->Hp->VK->Prop:=fun x vs H Q=>∃l xs y,x=.ref l/\vs=[y]/\H l=some (.lst xs)/\xs.length<y0k/\Q .non (upd H l (.lst (xs++[y])))
theorem zht:MtM X "list.append" zto:=by
 intro pins s σ H x vs v us Q I rx rv h
 obtain⟨l,xs,y,rfl,rfl,hH,hz,q⟩:=h
 cases rx
 obtain⟨u,rfl,ru⟩:=rv.one
 obtain⟨z,its,n,r,hl,e⟩:=I.lstM hH
 refine call_meets F.slot_list_append ⟨_,e,rfl⟩ F.entry_list_append (F.args_list_append_2 _ _) (PySem.list_append l its.toArray n u (by rw[y0i];omega)) ⟨e,?_⟩
 refine⟨.non,_,I.lset (its':=its++[u]) hH e (by simp) (r.append (.cons ru .nil)) ?_,rfl,q⟩
 rw[y26,List.length_singleton]
 omega
def rPop:V->List V->Hp->VK->Prop:=fun x vs H Q=>∃l xs y,x=.ref l/\vs=[]/\H l=some (.lst xs)/\xs[xs.length - 1]?=some y/\Q y (upd H l (.lst xs.dropLast))
theorem zwv:MtM X "list.pop" rPop:=by
 intro pins s σ H x vs v us Q I rx rv h
 obtain⟨l,xs,y,rfl,rfl,hH,hy,q⟩:=h
 cases rx
 have hus:=rv.zero
 subst hus
 obtain⟨z,its,n,r,hl,e⟩:=I.lstM hH
 obtain⟨u,hu,ru⟩:=r.get hy
 have hy':its.toArray[its.toArray.size - 1]?=some u:=by
  show its.toArray[its.length - 1]?=some u
  rw[<- Array.getElem?_toList,<- hl]
  exact hu
 refine call_meets F.slot_list_pop ⟨_,e,rfl⟩ F.entry_list_pop (F.args_list_pop_1 _) (MeetsSeq.list_pop_last l its.toArray n u hy' (by rw[y0i];omega)) ⟨e,?_⟩
 refine⟨y,_,I.lset (its':=its.dropLast) hH e ?_ r.dropLast ?_,ru,q⟩
 ·show its.toArray.eraseIdxIfInBounds (its.toArray.size - 1)=its.dropLast.toArray
  rw[y0i,List.eraseIdxIfInBounds_toArray,zm0]
 ·rw[List.length_dropLast]
  omega
end
section
variable {prog:y0r} {w:World} {A:Around} {E:Value->y04->Prop} {s:y04}
end
section
variable {X:Cx}
end
end L2
namespace Att
open PySem PySem.W PySem.Calls PyProof.Rows
theorem zdv {P:Params} {h:Heap}:∀(ns:List Int) (vs:List Value),WellAll P h vs (ns.map WData.int)->IntsAre vs ns:=by
 intro ns
 induction ns with
 | nil =>
  intro vs w
  rw[y1a] at w
  cases w
  exact .nil
 | cons n ns ih =>
  intro vs w
  rw[y0e] at w
  cases w with
  | cons a b =>
   cases a
   exact .cons _ _ (ih _ b)
theorem zmz {l:OpenLaw} {n:Nat} (hn:l.most=some n) {P:Params} {h:Heap} {args:List WData} {vals:List Value}
    (hpre:l.row.toRowW.claim.pre args=true) (hwl:WellAll P h vals args) :
    ∃a vs ns,vals=[Value.ref a]/\args=[WData.list (ns.map WData.int)]/\h.get? a=some { cls:=.type "list",data:=.seq vs.toArray }/\IntsAre vs ns/\ns.length<=n:=by
  have hsh:WShape.hasAll [] args [.list .int]=true:=(pre_splitW hpre).1
  have hc:l.pre.holds [] { args:=args }=true:=(pre_splitW hpre).2
  obtain⟨d,r,rfl,h1,h2⟩:=hasAllW_cons hsh
  obtain rfl:=hasAllW_nil h2
  obtain⟨xs,rfl,h3⟩:=hasW_list h1
  obtain⟨ns,rfl⟩:=items_int h3
  have hlen:ns.length<=n:=by
    unfold OpenLaw.pre at hc
    have h4:(WTm.not (.lt (.lit (.int (n:Int))) (.len (.arg 0)))).holds [] { args:=[.list (ns.map .int)] }=true:=by
      have h4:=(holds_andW hc).1
      rw[hn] at h4
      exact h4
    have h5:=condW_of h4 (w_not (w_lt w_lit (w_len_list (w_arg rfl))))
    rw[y14] at h5
    refine Nat.le_of_not_lt fun q=>?_
    have q':(n:Int)<((ns.length:Nat):Int):=by omega
    first
      | (rw[decide_eq_true q'] at h5;exact absurd h5 (by decide))
      | (simp at h5;omega)
  cases hwl with
  | cons w1 w2 =>
    cases w2
    cases w1 with
    | list ho hall=>exact⟨_,_,ns,rfl,rfl,ho,zdv ns _ hall,hlen⟩
theorem zni (l:OpenLaw) (args:List WData):l.row.toRowW.claim.post args (.bool true) args=true :=
 postW_of (r:=l.row.toRowW) (X:=(true == true))
  (show WShape.has [] (.bool true) .bool=true by first|rfl|decide|simp[WShape.has,WShape.arms,WShape.armsAll])
  (show (WTm.eq .res (.lit (.bool true))).value [] { args:=args,res:=some (.bool true),after:=args }=some (.bool (true == true)) from w_eq_bool (w_res rfl) w_lit) rfl
theorem attach_call {l:OpenLaw} {n:Nat} {q:y0r} {loose:List Str} {XP:(Str->Option Value)->Heap->Prop} {YP:World->Heap->Prop} {d:DefRec}
  (hn:l.most=some n) (hdf:d.params.defaults=[])
  (call:∀(w:World) (s₀ s₁:y04) (mg mb:Str->Option Value) (fa:Addr) (o:Obj) (pm cd doc:Value) (a:Addr) (vs:List Value) (ns:List Int),
   Ground q loose [] XP w s₀ mg mb s₁.heap->YP w s₁.heap ->
   s₁.heap.get? fa=some o->o.data=.func (docDef d.name d.params d.body d.scope pm cd doc)->s₁.heap.CodeRec cd d.name->mg d.name=some (.ref fa) ->
   s₁.heap.get? a=some { cls:=.type "list",data:=.seq vs.toArray }->IntsAre vs ns->ns.length<=n->s₁.gens=#[] ->
   codeAny (model l.prog w) callerA (.call (.ref fa) ⟨[.ref a],[]⟩) (fun r s'=>r=.ok (.ret (.bool true))/\OldK s₁.heap s'.heap/\s'.os=s₁.os/\AllBare s'.gens) s₁) :
  WalkO q loose XP YP l.row.toRowW d [] (fun f vs=>PySem.call f vs):=by
 intro w s₀ s₁ mg mb G Y fa o pm cd doc dV kV ho hd hcd hD hmg hg args vals as hpre hlay hrd hwl hlo
 obtain rfl:dV=.none:=Dflts.none hD hdf
 obtain rfl:kV=.none:=Dflts.noKw hD
 obtain⟨a,vs,ns,rfl,rfl,hobj,hints,hlen⟩:=zmz hn hpre hwl
 refine enter_call (codeAny_mono (call w s₀ s₁ mg mb fa o pm cd doc a vs ns G Y ho (fd_plain hd) hcd hmg hobj hints hlen hg) fun r s' hq=>?_)
 obtain⟨rfl,h2,h3,h4⟩:=hq
 exact⟨.inl ⟨.bool true,.bool true,[],rfl,fun _=>rfl,.bool true,zni l _,fun _=>⟨List.Pairwise.nil,fun _ hm=>(nomatch hm)⟩⟩,h2,h3,h4⟩
section
variable {prog:y0r} {w:World} {A:Around} {E:Value->y04->Prop} {s:y04} {K:Frag}
end
end Att
namespace L2
open PySem PySem.Spec PyProof.Rows
theorem zgt:∀{vs:List Value} {ns:List Int},IntsAre vs ns->Vals (ns.map V.int) vs
 | _,_,.nil=>.nil
 | _,_,.cons n t h=>.cons ⟨t,rfl⟩ (zgt h)
end L2
namespace L2
open PySem PySem.Spec PyProof.Rows
end L2
namespace L2
open PySem PySem.Spec PyProof.Rows
def z0m (s:Stmt) (j:Nat):Stmt:=match s with
 | .ClassDef _ _ _ body _ _ _ _ _ _ _=>body.getD j (.Pass ⟨0,0,0,0⟩)
 | _=>.Pass ⟨0,0,0,0⟩
noncomputable def z5p (s:Stmt):Arguments:=match s with
 | .FunctionDef _ a _ _ _ _ _ _ _ _=>a
 | _=>{ posonlyargs:=[],args:=[],vararg:=none,kwonlyargs:=[],kw_defaults:=[],kwarg:=none,defaults:=[] }
def z0o (s:Stmt):List Stmt:=match s with
 | .FunctionDef _ _ b _ _ _ _ _ _ _=>b
 | _=>[]
def z01 (s:Stmt):Scope:=match s with
 | .FunctionDef _ _ _ _ _ _ sc _ _ _=>sc
 | _=>{ kind:=.function,names:=[],isGenerator:=false,isCoroutine:=false }
abbrev CX0:CXT:=fun _ _ _ _ _ _=>False
abbrev E0:XK:=fun _ _ _=>False
theorem zg8 {X:Cx}:zc4 CX0 X E0:=fun _ _ _ _ _ _ _ h=>h.elim
structure Fun (K:y00) (x qual:Str) (st:Stmt) (f:Addr) (fd:y0b):Prop where
 ex:∃(oc:Value) (od:Option Addr) (kV doc pm:Value) (an:Option Addr) (cdv ct:Value) (osl:Array (Option Value)),
  fd=y0j x qual (z5p st) (z0o st) (z01 st) .none kV doc pm an cdv ct/\K.lookup f=some ⟨oc,od,.func fd,osl⟩/\y0g K cdv qual=true
 kp:y08 K (.ref f)=true
section
variable {P:y0r} {w:World} {K:y00} {mg:Str->Option Value} {base:Heap}
theorem Fun.ok {x qual:Str} {st:Stmt} {f:Addr} {fd:y0b} {N ps:List Str} {k:Nat} {sp:Sp} (F:Fun K x qual st f fd) (S:FnScope N ps (z01 st)) (len:∀vs H Q E,sp vs H Q E->vs.length=ps.length)
  (hbody:∀(cdv:Value) (A:Around) (outer:List Env) (s:y04) (H:Hp) (vs:List V) (Q:VK) (E:XK),Room k (A.deeper (envOfC qual (z01 st) s.heap.objs.size f cdv))->sp vs H Q E ->
   ∃t,PSs (cxOf CX0 P w K mg base N qual (z01 st) f cdv A outer s H E).nox (z0o st) t/\t { nx:=fun _ H'=>Q .non H',rt:=Q } (start N vs) H):FnOk P w K mg base CX0 (k+1) f fd ps sp:=by
 obtain⟨oc,od,kV,doc,pm,an,cdv,ct,osl,rfl,lk,hcd⟩:=F.ex
 refine zux lk hcd S len fun A outer s H vs Q E hr hsp=>?_
 obtain⟨t,h,q⟩:=hbody cdv A outer s H vs Q E hr hsp
 exact⟨t,h.nox,q⟩
theorem Fun.binds {x qual:Str} {st:Stmt} {f:Addr} {fd:y0b} {ps:List Str} (F:Fun K x qual st f fd)
  (h:∀(kV doc pm:Value) (an:Option Addr) (cdv ct:Value) (us:List Value),us.length=ps.length->bindArgs (y0j x qual (z5p st) (z0o st) (z01 st) .none kV doc pm an cdv ct) ⟨us,[]⟩=pure (ps.zip us)):z3d K fd ps []:=by
 obtain⟨oc,od,kV,doc,pm,an,cdv,ct,osl,rfl,lk,hcd⟩:=F.ex
 exact .all (h kV doc pm an cdv ct)
theorem z0i {x qual:Str} {st:Stmt} {f:Addr} {oc:Value} {od an:Option Addr} {osl:Array (Option Value)} {kV doc pm cdv ct:Value} (l:K.lookup f=some ⟨oc,od,.func (y0j x qual (z5p st) (z0o st) (z01 st) .none kV doc pm an cdv ct),osl⟩)
  (c:y0g K cdv qual=true) (k:y08 K (.ref f)=true):Fun K x qual st f (y0j x qual (z5p st) (z0o st) (z01 st) .none kV doc pm an cdv ct):=⟨⟨oc,od,kV,doc,pm,an,cdv,ct,osl,rfl,l,c⟩,k⟩
end
theorem zoh {A:Around} {k:Nat} (hr:Room k A):A.units+1<cLine:=Nat.lt_of_le_of_lt (Nat.add_le_add_left (by decide:1<=64) _) hr.units
section
variable {X:Cx}
theorem pv (i:Nat) {x:Str} {pos:Pos} (hN:X.N[i]?=some x:=by rfl) (hv:Vis X.env.scope x:=by first|exact Or.inl rfl|exact Or.inr (Or.inl rfl)|exact Or.inr (Or.inr rfl)) (hd:(x == ("__debug__":Str))=false:=by decide)
  (hcd:(x == ("__classdict__":Str))=false:=by decide):PE X (.Name x pos) (tVar i):=zwf hN hv hd hcd
end
theorem iteF {A B:Prop} (h:B):if false=true then A else B:=by
 rw[if_neg y27]
 exact h
theorem iteT {A B:Prop} (h:A):if true=true then A else B:=by
 rw[if_pos rfl]
 exact h
def Same (H H':Hp):Prop:=∀b o,H b=some o->H' b=some o
end L2
end
section
namespace D
open PySem
abbrev T:=PyData
def okT (a:T):Bool:=a.canLay0 && decide (a.depth<=60)
def okL (as:List T):Bool:=y1h as && decide (y1f as<=60)
abbrev Key:=Sum Int Str
inductive Md where
 | ro|own|lent
 deriving DecidableEq
inductive Sl where
 | imm (t:T)|own (ts:List T)|dic (kvs:List (Key×T))|obj (m:Md) (c:Nat) (fs:List Sl)
abbrev Ev:=List (Option Sl)
inductive Out where
 | nx (ε:Ev)|rt (t:T)|bk (ε:Ev)|ct (ε:Ev)|rtm (t:T) (ε:Ev)|rto (s:Sl)
abbrev Fe:=Ev->Option T
abbrev Ft:=Ev->Option Bool
abbrev Fs:=Ev->Option Out
abbrev Fi:=Ev->Option (List T)
abbrev Fg:=T->Ev->Option Ev
def big:Nat:=16777216
noncomputable def oAdd:T->T->Option T
 | .int i,.int j=>some (.int (i+j))
 | .str x,.str y=>if x.length+y.length<=big then some (.str (x++y)) else none
 | .tuple xs,.tuple ys=>if xs.length+ys.length<=big then some (.tuple (xs++ys)) else none
 | .list xs,.list ys=>if xs.length+ys.length<=big then some (.list (xs++ys)) else none
 | _,_=>none
def oSub:T->T->Option T
 | .int i,.int j=>some (.int (i - j))
 | _,_=>none
def zqv (i j:Int):Bool:=(decide (-(2 ^ 64)<i) && decide (i<2 ^ 64)) || (decide (-(2 ^ 64)<j) && decide (j<2 ^ 64))
def oMul:T->T->Option T
 | .int i,.int j=>if zqv i j then some (.int (i*j)) else none
 | _,_=>none
def oDiv:T->T->Option T
 | .int i,.int j=>if 0<j/\j<1073741824 then some (.int (i / j)) else none
 | _,_=>none
def oMod:T->T->Option T
 | .int i,.int j=>if 0<j then some (.int (i % j)) else none
 | _,_=>none
def oNeg:T->Option T
 | .int i=>some (.int (-i))
 | _=>none
def ixOf (n:Nat) (i:Int):Option Nat:=if 0<=i then (if i<n then some i.toNat else none) else if -(n:Int)<=i then some (i+n).toNat else none
def atZ {α:Type} (xs:List α) (i:Int):Option α:=(ixOf xs.length i).bind fun j=>xs[j]?
noncomputable def oIx:T->T->Option T
 | .tuple xs,.int i=>atZ xs i
 | .list xs,.int i=>atZ xs i
 | .str x,.int i=>if x.length<=big then (atZ x.cps.toList i).map fun c=>.str ⟨#[c]⟩ else none
 | _,_=>none
def oEq (a b:T):Option T:=if okT a && okT b then some (.bool (y24 a b)) else none
def oNe (a b:T):Option T:=if okT a && okT b then some (.bool (!PyData.eqv a b)) else none
def oIsN (a:T):Option T:=some (.bool (match a with|.none=>true|_=>false))
def z6d (a:T):Option T:=some (.bool (match a with|.none=>false|_=>true))
def z5z (x y:Str):Bool:=decide (x.cps.toList<y.cps.toList)
def oLt:T->T->Option T
 | .int i,.int j=>some (.bool (decide (i<j)))
 | .str x,.str y=>some (.bool (z5z x y))
 | _,_=>none
def oLe:T->T->Option T
 | .int i,.int j=>some (.bool (decide (i<=j)))
 | .str x,.str y=>some (.bool (!z5z y x))
 | _,_=>none
def oGt:T->T->Option T
 | .int i,.int j=>some (.bool (decide (j<i)))
 | .str x,.str y=>some (.bool (z5z y x))
 | _,_=>none
def oGe:T->T->Option T
 | .int i,.int j=>some (.bool (decide (j<=i)))
 | .str x,.str y=>some (.bool (!z5z x y))
 | _,_=>none
def hasT (x:T) (ts:List T):Bool:=ts.any fun y=>y24 y x
noncomputable def oIn (neg:Bool):T->T->Option T
 | x,.tuple ys=>if okT x && okL ys then some (.bool (if neg then !hasT x ys else hasT x ys)) else none
 | x,.list ys=>if okT x && okL ys then some (.bool (if neg then !hasT x ys else hasT x ys)) else none
 | _,_=>none
def oLen:List T->Option T
 | [.tuple xs]=>some (.int xs.length)
 | [.list xs]=>some (.int xs.length)
 | [.str x]=>if x.length<=big then some (.int x.length) else none
 | _=>none
def oMin:List T->Option T
 | [.int i,.int j]=>some (.int (if j<i then j else i))
 | _=>none
def oMax:List T->Option T
 | [.int i,.int j]=>some (.int (if j > i then j else i))
 | _=>none
def z31:List T->Option T
 | [.tuple xs]=>some (.tuple xs)
 | [.list xs]=>some (.tuple xs)
 | _=>none
def zwt:List T->Option T
 | [.tuple xs]=>some (.list xs)
 | [.list xs]=>some (.list xs)
 | _=>none
def oInt:List T->Option T
 | [.int i]=>some (.int i)
 | [.bool b]=>some (.int (if b then 1 else 0))
 | _=>none
def sIx (n d:Nat):Option Int->Nat
 | none=>d
 | some v=>(if v<0 then max (v+n) 0 else min v n).toNat
def cutZ {α:Type} (xs:List α) (lo hi:Option Int):List α:=(xs.drop (sIx xs.length 0 lo)).take (sIx xs.length xs.length hi - sIx xs.length 0 lo)
def oSl (t:T) (lo hi:Option Int):Option T:=match t with
 | .tuple xs=>some (.tuple (cutZ xs lo hi))
 | .list xs=>some (.list (cutZ xs lo hi))
 | _=>none
def zcp:List T->Option (List Str)
 | []=>some []
 | .str x::ts=>(zcp ts).map fun r=>x::r
 | _::_=>none
def insI (x:Int):List Int->List Int
 | []=>[x]
 | y::ys=>if x<=y then x::y::ys else y::insI x ys
def zh1:List Int->List Int
 | []=>[]
 | x::xs=>insI x (zh1 xs)
def insS (x:Str):List Str->List Str
 | []=>[x]
 | y::ys=>if !z5z y x then x::y::ys else y::insS x ys
def z81:List Str->List Str
 | []=>[]
 | x::xs=>insS x (z81 xs)
def z60:T->Option Key
 | .int i=>some (.inl i)
 | .str x=>some (.inr x)
 | _=>none
def putD (kvs:List (Key×T)) (k:Key) (v:T):List (Key×T):=if kvs.any (fun p=>decide (p.1=k)) then kvs.map fun p=>if p.1=k then (k,v) else p else kvs++[(k,v)]
def getD (kvs:List (Key×T)) (k:Key):Option T:=(kvs.find? fun p=>decide (p.1=k)).map (·.2)
def cst (t:T):Fe:=fun _=>some t
def nm (i:Nat):Fe:=fun ε=>match ε[i]? with
 | some (some (.imm t))=>some t
 | some (some (.own ts))=>some (.list ts)
 | _=>none
def nmV (i:Nat):Fe:=fun ε=>match ε[i]? with
 | some (some (.imm t))=>some t
 | _=>none
def op1 (o:T->Option T) (f:Fe):Fe:=fun ε=>(f ε).bind o
def op2 (o:T->T->Option T) (f g:Fe):Fe:=fun ε=>(f ε).bind fun x=>(g ε).bind fun y=>o x y
def args:List Fe->Ev->Option (List T)
 | [],_=>some []
 | f::fs,ε=>(f ε).bind fun t=>(args fs ε).map fun ts=>t::ts
def opN (o:List T->Option T) (fs:List Fe):Fe:=fun ε=>(args fs ε).bind o
def z09 (fs:List Fe):Fe:=fun ε=>(args fs ε).bind fun ts=>if ts.length<=big then some (.tuple ts) else none
def z3j (fs:List Fe):Fe:=fun ε=>(args fs ε).bind fun ts=>if ts.length<=big then some (.list ts) else none
def opt (f:Fe):Ev->Option (Option Int):=fun ε=>(f ε).bind fun t=>match t with|.int i=>some (some i)|_=>none
def optN:Ev->Option (Option Int):=fun _=>some none
def slice (f:Fe) (lo hi:Ev->Option (Option Int)):Fe:=fun ε=>(f ε).bind fun t=>(lo ε).bind fun l=>(hi ε).bind fun h=>oSl t l h
def andV (f g:Fe):Fe:=fun ε=>(f ε).bind fun t=>match t with|.bool true=>g ε|.bool false=>some (.bool false)|_=>none
def orV (f g:Fe):Fe:=fun ε=>(f ε).bind fun t=>match t with|.bool false=>g ε|.bool true=>some (.bool true)|_=>none
noncomputable def chain (o p:T->T->Option T) (f g h:Fe):Fe:=fun ε=>(f ε).bind fun x=>(g ε).bind fun y=>(o x y).bind fun r=>match r with
 | .bool true=>(h ε).bind fun z=>p y z
 | .bool false=>some (.bool false)
 | _=>none
def tstB (f:Fe):Ft:=fun ε=>(f ε).bind fun t=>match t with|.bool b=>some b|_=>none
def tstL (f:Fe):Ft:=fun ε=>(f ε).bind fun t=>match t with|.list ts=>some (!ts.isEmpty)|.tuple ts=>some (!ts.isEmpty)|_=>none
def andT (f g:Ft):Ft:=fun ε=>(f ε).bind fun b=>if b then g ε else some false
def orT (f g:Ft):Ft:=fun ε=>(f ε).bind fun b=>if b then some true else g ε
def notT (f:Ft):Ft:=fun ε=>(f ε).map fun b=>!b
def ifE (c:Ft) (f g:Fe):Fe:=fun ε=>(c ε).bind fun b=>if b then f ε else g ε
def cstT (b:Bool):Ft:=fun _=>some b
def ofT (c:Ft):Fe:=fun ε=>(c ε).map .bool
def z3v (f:Fe):Fi:=fun ε=>(f ε).bind fun t=>match t with|.tuple ts=>some ts|.list ts=>some ts|_=>none
def z7a (f:Fe):Fi:=fun ε=>(f ε).bind fun t=>match t with|.tuple ts=>some ts|_=>none
def rng (lo hi:Int):List T:=(List.range (hi - lo).toNat).map fun (k:Nat)=>.int (lo+(k:Int))
def zb6 (i:Int):Bool:=decide (-(2 ^ 62)<=i) && decide (i<2 ^ 62)
def z7u (f:Fe):Fi:=fun ε=>(f ε).bind fun t=>match t with|.int j=>if zb6 j then some (rng 0 j) else none|_=>none
def enum (ts:List T):List T:=ts.zipIdx.map fun p=>.tuple [.int p.2,p.1]
def z7v (f:Fi):Fi:=fun ε=>(f ε).map enum
def gNm (i:Nat):Fg:=fun t ε=>some (ε.set i (some (.imm t)))
def gAll:List Fg->List T->Ev->Option Ev
 | [],[],ε=>some ε
 | g::gs,t::ts,ε=>(g t ε).bind fun ε'=>gAll gs ts ε'
 | _,_,_=>none
def gTu (gs:List Fg):Fg:=fun t ε=>match t with|.tuple ts=>gAll gs ts ε|_=>none
noncomputable def z5r (g:Fg) (c:Ft) (e:Fe):List T->Ev->Option (List T)
 | [],_=>some []
 | t::ts,ε=>(g t ε).bind fun ε1=>(c ε1).bind fun b=>if b then (e ε1).bind fun y=>(z5r g c e ts ε1).map fun ys=>y::ys else z5r g c e ts ε1
def z4f (own:Nat) (caps:List Nat) (ε:Ev):Ev:=y0h own none++caps.map fun i=>(ε[i]?).join
def comp (own:Nat) (caps:List Nat) (it:Fi) (g:Fg) (c:Ft) (e:Fe):Fe:=fun ε=>(it ε).bind fun ts=>if ts.length<=big then (z5r g c e ts (z4f own caps ε)).map .list else none
def skip:Fs:=fun ε=>some (.nx ε)
def seq (a b:Fs):Fs:=fun ε=>(a ε).bind fun o=>match o with|.nx ε'=>b ε'|o=>some o
def asg (i:Nat) (f:Fe):Fs:=fun ε=>(f ε).map fun t=>.nx (ε.set i (some (.imm t)))
def asgN (i:Nat) (f:Fe):Fs:=fun ε=>(f ε).bind fun t=>match t with|.list ts=>some (.nx (ε.set i (some (.own ts))))|_=>none
def asgT (g:Fg) (f:Fe):Fs:=fun ε=>(f ε).bind fun t=>(g t ε).map .nx
def rtn (f:Fe):Fs:=fun ε=>(f ε).map .rt
def iff (c:Ft) (a b:Fs):Fs:=fun ε=>(c ε).bind fun x=>if x then a ε else b ε
def brk:Fs:=fun ε=>some (.bk ε)
noncomputable def forL (g:Fg) (b:Fs):List T->Ev->Option Out
 | [],ε=>some (.nx ε)
 | t::ts,ε=>(g t ε).bind fun ε1=>(b ε1).bind fun o=>match o with
  | .nx ε2=>forL g b ts ε2
  | .ct ε2=>forL g b ts ε2
  | .bk ε2=>some (.nx ε2)
  | .rt t=>some (.rt t)
  | .rtm t ε2=>some (.rtm t ε2)
  | .rto s=>some (.rto s)
def for_ (it:Fi) (g:Fg) (b:Fs):Fs:=fun ε=>(it ε).bind fun ts=>forL g b ts ε
noncomputable def app (i:Nat) (f:Fe):Fs:=fun ε=>match ε[i]? with
 | some (some (.own ts))=>(f ε).bind fun t=>if ts.length<big then some (.nx (ε.set i (some (.own (ts++[t]))))) else none
 | _=>none
noncomputable def ext (i:Nat) (f:Fe):Fs:=fun ε=>match ε[i]? with
 | some (some (.own ts))=>(f ε).bind fun t=>match t with
  | .list us=>if ts.length+us.length<=big then some (.nx (ε.set i (some (.own (ts++us))))) else none
  | _=>none
 | _=>none
noncomputable def pop (i j:Nat):Fs:=fun ε=>match ε[j]? with
 | some (some (.own ts))=>(ts.getLast?).bind fun t=>if i=j then none else some (.nx ((ε.set j (some (.own ts.dropLast))).set i (some (.imm t))))
 | _=>none
noncomputable def par (i j:Nat) (own:Bool) (f g:Fe):Fs:=fun ε=>(f ε).bind fun t=>(g ε).bind fun u=>if own then (match u with|.list us=>some (.nx ((ε.set i (some (.imm t))).set j (some (.own us))))|_=>none) else some (.nx ((ε.set i (some (.imm t))).set j (some (.imm u))))
noncomputable def runF (b:Fs) (n:Nat) (as:List T):Option T:=(b ((as.map fun t=>some (.imm t))++y0h (n - as.length) none)).bind fun o=>match o with
 | .rt t=>some t
 | .nx _=>some .none
 | _=>none
end D
end
section
namespace D
open PySem PySem.Spec PyProof.Rows L2
section
mutual
noncomputable def Rep (K:y00) (F:Addr->Prop) (H:Hp):T->V->Prop
 | .none,v=>v=.non
 | .bool b,v=>v=.bl b
 | .int i,v=>v=.int i
 | .str x,v=>v=.str x
 | .dict _,_=>False
 | .tuple ts,v=>∃a vs,v=.ref a/\SqT K H a vs/\RepL K F H ts vs
 | .list ts,v=>∃a vs,v=.ref a/\F a/\Rd H a (.lst vs)/\RepL K F H ts vs
noncomputable def RepL (K:y00) (F:Addr->Prop) (H:Hp):List T->List V->Prop
 | [],vs=>vs=[]
 | t::ts,vs=>∃v r,vs=v::r/\Rep K F H t v/\RepL K F H ts r
end
section
variable {K:y00} {F F':Addr->Prop} {H H':Hp}
mutual
theorem Rep.keep (h1:∀b xs,SqT K H b xs->SqT K H' b xs) (h2:∀b xs,F b->Rd H b (.lst xs)->F' b/\Rd H' b (.lst xs)):∀{t:T} {v:V},Rep K F H t v->Rep K F' H' t v
 | .none,v,h=>by simpa [Rep] using h
 | .bool _,v,h=>by simpa [Rep] using h
 | .dict _,v,h=>by simp[Rep] at h
 | .int _,v,h=>by simpa [Rep] using h
 | .str _,v,h=>by simpa [Rep] using h
 | .tuple ts,v,h=>by
  simp only[Rep] at h ⊢
  obtain⟨a,vs,e,q,r⟩:=h
  exact⟨a,vs,e,h1 _ _ q,RepL.keep h1 h2 r⟩
 | .list ts,v,h=>by
  simp only[Rep] at h ⊢
  obtain⟨a,vs,e,f,q,r⟩:=h
  exact⟨a,vs,e,(h2 _ _ f q).1,(h2 _ _ f q).2,RepL.keep h1 h2 r⟩
theorem RepL.keep (h1:∀b xs,SqT K H b xs->SqT K H' b xs) (h2:∀b xs,F b->Rd H b (.lst xs)->F' b/\Rd H' b (.lst xs)):∀{ts:List T} {vs:List V},RepL K F H ts vs->RepL K F' H' ts vs
 | [],vs,h=>by simpa [RepL] using h
 | t::ts,vs,h=>by
  simp only[RepL] at h ⊢
  obtain⟨v,r,e,q,z⟩:=h
  exact⟨v,r,e,Rep.keep h1 h2 q,RepL.keep h1 h2 z⟩
end
theorem RepL.nil:RepL K F H [] []:=by simp[RepL]
theorem RepL.cons {t:T} {v:V} {ts:List T} {vs:List V} (h:Rep K F H t v) (r:RepL K F H ts vs):RepL K F H (t::ts) (v::vs):=by
 simp only[RepL]
 exact⟨v,vs,rfl,h,r⟩
theorem RepL.length:∀{ts:List T} {vs:List V},RepL K F H ts vs->ts.length=vs.length
 | [],vs,h=>by
  simp only[RepL] at h
  subst h
  rfl
 | t::ts,vs,h=>by
  simp only[RepL] at h
  obtain⟨v,r,e,q,z⟩:=h
  subst e
  simp[RepL.length z]
theorem RepL.get:∀{ts:List T} {vs:List V} {i:Nat} {t:T},RepL K F H ts vs->ts[i]?=some t->∃v,vs[i]?=some v/\Rep K F H t v
 | [],vs,i,t,h,e=>by simp at e
 | x::ts,vs,0,t,h,e=>by
  simp only[RepL] at h
  obtain⟨v,r,rfl,q,z⟩:=h
  simp at e
  subst e
  exact⟨v,rfl,q⟩
 | x::ts,vs,i+1,t,h,e=>by
  simp only[RepL] at h
  obtain⟨v,r,rfl,q,z⟩:=h
  obtain⟨u,h1,h2⟩:=RepL.get (i:=i) (t:=t) z (by simpa using e)
  exact⟨u,by simpa using h1,h2⟩
theorem RepL.append:∀{ts us:List T} {vs ws:List V},RepL K F H ts vs->RepL K F H us ws->RepL K F H (ts++us) (vs++ws)
 | [],us,vs,ws,h,r=>by
  simp only[RepL] at h
  subst h
  exact r
 | t::ts,us,vs,ws,h,r=>by
  simp only[RepL] at h
  obtain⟨v,z,rfl,q,y⟩:=h
  exact RepL.cons q (RepL.append y r)
theorem RepL.take:∀{ts:List T} {vs:List V} (n:Nat),RepL K F H ts vs->RepL K F H (ts.take n) (vs.take n)
 | [],vs,n,h=>by
  simp only[RepL] at h
  subst h
  simpa using RepL.nil
 | t::ts,vs,0,h=>by simpa using RepL.nil
 | t::ts,vs,n+1,h=>by
  simp only[RepL] at h
  obtain⟨v,z,rfl,q,y⟩:=h
  simpa using RepL.cons q (RepL.take n y)
theorem RepL.drop:∀{ts:List T} {vs:List V} (n:Nat),RepL K F H ts vs->RepL K F H (ts.drop n) (vs.drop n)
 | [],vs,n,h=>by
  simp only[RepL] at h
  subst h
  simpa using RepL.nil
 | t::ts,vs,0,h=>by simpa using h
 | t::ts,vs,n+1,h=>by
  simp only[RepL] at h
  obtain⟨v,z,rfl,q,y⟩:=h
  simpa using RepL.drop n y
end
class Tbl where
 tb:List (Addr×Str)
 cn:Nat->List Str
 ck:Nat->Option Addr
noncomputable def TbG (H:Hp) (b:Addr) (q:Str):Prop:=∃ps:Array Value,H b=some (.tbl ps)/\TriplesOk ps.toList/\∀pos cv,codeAmong pos ps.toList=some cv->∃c,cv=.ref c/\H c=some (.ext fun h=>h.CodeRec (.ref c) q)
def TbS [t:Tbl] (H:Hp):Prop:=∀p∈t.tb,TbG H p.1 p.2
theorem TbG.keep {H H':Hp} {b:Addr} {q:Str} (h:TbG H b q) (k1:∀a ps,H a=some (.tbl ps)->H' a=some (.tbl ps)) (k2:∀a φ,H a=some (.ext φ)->H' a=some (.ext φ)):TbG H' b q:=by
 obtain⟨ps,h1,h2,h3⟩:=h
 refine⟨ps,k1 _ _ h1,h2,fun pos cv e=>?_⟩
 obtain⟨c,e1,e2⟩:=h3 pos cv e
 exact⟨c,e1,k2 _ _ e2⟩
variable [Tbl]
def HoM (u:HO):Prop:=(∃xs,u=.lst xs)\/(∃xs,u=.dK xs)\/∃C dx fs,u=.ins C dx fs
theorem HoM.cases {P:Prop} {u:HO} (h:HoM u) (h1:∀xs,u=.lst xs->P) (h2:∀xs,u=.dK xs->P) (h3:∀C dx fs,u=.ins C dx fs->P):P:=by
 rcases h with ⟨xs,e⟩|⟨xs,e⟩|⟨C,dx,fs,e⟩
 ·exact h1 xs e
 ·exact h2 xs e
 ·exact h3 C dx fs e
theorem TbS.updM {H:Hp} (h:TbS H) {p:Addr} {o:HO} (hp:∀u,H p=some u->HoM u):TbS (upd H p o):=fun b hb =>
 (h b hb).keep (fun a ps e=>by
  have nb:a≠p:=by
   rintro rfl
   exact (hp _ e).cases (fun _ z=>by cases z) (fun _ z=>by cases z) (fun _ _ _ z=>by cases z)
  rw[z0c nb];exact e) fun a φ e=>by
  have nb:a≠p:=by
   rintro rfl
   exact (hp _ e).cases (fun _ z=>by cases z) (fun _ z=>by cases z) (fun _ _ _ z=>by cases z)
  rw[z0c nb];exact e
theorem TbS.upd {H:Hp} (h:TbS H) {p:Addr} {o:HO} (hp:∀u,H p=some u->(∃xs,u=.lst xs)\/∃xs,u=.dK xs):TbS (upd H p o):=h.updM fun u e=>by
 rcases hp u e with z|z
 ·exact .inl z
 ·exact .inr (.inl z)
theorem TbS.new {H:Hp} (h:TbS H) {p:Addr} {o:HO} (hp:H p=none):TbS (L2.upd H p o):=h.upd fun u e=>by rw[hp] at e;cases e
structure Dom (F:Addr->Prop) (H:Hp):Prop where
 dm:∀a,F a->∃o,H a=some o
 tgs:TbS H
instance {F:Addr->Prop} {H:Hp}:CoeFun (Dom F H) fun _=>∀a,F a->∃o,H a=some o:=⟨Dom.dm⟩
def z7z (H H':Hp):Prop:=∀b o,H b=some o->H' b=some o\/∃ps ps',o=.tbl ps/\H' b=some (.tbl ps')
theorem z7z.refl (H:Hp):z7z H H:=fun _ _ h=>.inl h
theorem z7z.ne {H H':Hp} (s:z7z H H') {b:Addr} {o:HO} (e:H b=some o):∃u,H' b=some u:=by
 rcases s b o e with h|⟨_,_,_,h⟩
 ·exact⟨_,h⟩
 ·exact⟨_,h⟩
theorem z7z.none {H H':Hp} (s:z7z H H') {b:Addr} (e:H' b=none):H b=none:=by
 cases z:H b with
 | none=>rfl
 | some o =>
  obtain⟨u,q⟩:=s.ne z
  rw[e] at q
  cases q
theorem z7z.get {H H':Hp} (s:z7z H H') {b:Addr} {o:HO} (e:H b=some o) (n:∀ps,o≠.tbl ps:=by intro _ z;cases z):H' b=some o:=by
 rcases s b o e with h|⟨_,_,z,_⟩
 ·exact h
 ·exact absurd z (n _)
theorem z7z.trans {H H1 H2:Hp} (a:z7z H H1) (b:z7z H1 H2):z7z H H2:=fun c o h=>by
 rcases a c o h with q|⟨ps,ps1,z,q⟩
 ·exact b c o q
 ·rcases b c _ q with q2|⟨_,ps2,z2,q2⟩
  ·exact .inr ⟨ps,ps1,z,q2⟩
  ·exact .inr ⟨ps,ps2,z,q2⟩
structure Ext (F:Addr->Prop) (H:Hp) (F':Addr->Prop) (H':Hp):Prop where
 same:z7z H H'
 sub:∀a,F a->F' a
 new:∀a,F' a->F a\/H a=none
 dom:Dom F' H'
section
variable {K:y00} {F F1 F2:Addr->Prop} {H H1 H2:Hp}
theorem Ext.refl (d:Dom F H):Ext F H F H:=⟨z7z.refl H,fun _ h=>h,fun _ h=>.inl h,d⟩
theorem Ext.trans (a:Ext F H F1 H1) (b:Ext F1 H1 F2 H2):Ext F H F2 H2 :=
 ⟨a.same.trans b.same,fun x h=>b.sub x (a.sub x h),fun x h=>(b.new x h).elim (fun z=>a.new x z) fun z=>.inr (a.same.none z),b.dom⟩
theorem Rd.same {a:Addr} {u:HO} (s:z7z H H1) (r:Rd H a u) (n:∀ps,u≠.tbl ps:=by intro _ z;cases z):Rd H1 a u:=by
 rcases r with r|⟨o,r⟩
 ·exact .inl (s.get r n)
 ·exact .inr ⟨o,s.get r⟩
theorem SqT.same {a:Addr} {xs:List V} (s:z7z H H1) (r:SqT K H a xs):SqT K H1 a xs:=by
 rcases r with r|r
 ·exact .inl (Rd.same s r)
 ·exact .inr r
theorem Rep.ext {t:T} {v:V} (r:Rep K F H t v) (x:Ext F H F1 H1):Rep K F1 H1 t v:=r.keep (fun _ _ q=>SqT.same x.same q) fun b _ f q=>⟨x.sub b f,Rd.same x.same q⟩
theorem RepL.ext {t:List T} {v:List V} (r:RepL K F H t v) (x:Ext F H F1 H1):RepL K F1 H1 t v:=r.keep (fun _ _ q=>SqT.same x.same q) fun b _ f q=>⟨x.sub b f,Rd.same x.same q⟩
theorem Ext.laid {p:Addr} {o:HO} (d:Dom F H) (hp:H p=none):Ext F H F (upd H p o) :=
 ⟨fun b u q=>.inl (same_new' hp o b u q),fun _ h=>h,fun _ h=>.inl h,⟨fun a h=>by
  obtain⟨u,e⟩:=d a h
  exact⟨u,same_new' hp o a u e⟩,d.tgs.new hp⟩⟩
where same_new' {H:Hp} {p:Addr} (h:H p=none) (o:HO):Same H (upd H p o):=fun b u q=>by rw[z0c (z0l q h)];exact q
theorem Ext.laidF {p:Addr} {o:HO} (d:Dom F H) (hp:H p=none):Ext F H (fun a=>F a\/a=p) (upd H p o) :=
 ⟨fun b u q=>.inl (Ext.laid.same_new' hp o b u q),fun _ h=>.inl h,fun a h=>by
  rcases h with h|rfl
  ·exact .inl h
  ·exact .inr hp,⟨fun a h=>by
  rcases h with h|rfl
  ·obtain⟨u,e⟩:=d a h
   exact⟨u,Ext.laid.same_new' hp o a u e⟩
  ·exact⟨o,z0e⟩,d.tgs.new hp⟩⟩
end
structure Kp (K:y00) (F:Addr->Prop) (H:Hp) (F':Addr->Prop) (H':Hp):Prop where
 tup:∀b xs,SqT K H b xs->SqT K H' b xs
 lst:∀b xs,F b->Rd H b (.lst xs)->F' b/\Rd H' b (.lst xs)
section
variable {K:y00} {F F1 F2:Addr->Prop} {H H1 H2:Hp}
theorem Kp.refl:Kp K F H F H:=⟨fun _ _ h=>h,fun _ _ f h=>⟨f,h⟩⟩
theorem Kp.trans (a:Kp K F H F1 H1) (b:Kp K F1 H1 F2 H2):Kp K F H F2 H2:=⟨fun x xs h=>b.tup x xs (a.tup x xs h),fun x xs f h=>b.lst x xs (a.lst x xs f h).1 (a.lst x xs f h).2⟩
theorem Ext.kp (x:Ext F H F1 H1):Kp K F H F1 H1:=⟨fun _ _ q=>SqT.same x.same q,fun b _ f q=>⟨x.sub b f,Rd.same x.same q⟩⟩
theorem Rep.kp {t:T} {v:V} (r:Rep K F H t v) (x:Kp K F H F1 H1):Rep K F1 H1 t v:=r.keep x.tup x.lst
theorem RepL.kp {t:List T} {v:List V} (r:RepL K F H t v) (x:Kp K F H F1 H1):RepL K F1 H1 t v:=r.keep x.tup x.lst
end
def RepR (K:y00) (O F:Addr->Prop) (H:Hp) (t:T) (v:V):Prop :=
 Rep K F H t v\/∃ts a vs,t=.list ts/\v=.ref a/\H a=some (.lst vs)/\RepL K F H ts vs
section
variable {K:y00} {O F F1:Addr->Prop} {H H1:Hp} {v:V}
theorem RepR.ext {t:T} (r:RepR K O F H t v) (x:Ext F H F1 H1):RepR K O F1 H1 t v:=by
 rcases r with r|⟨ts,a,vs,e1,e2,e4,r⟩
 ·exact .inl (r.ext x)
 ·exact .inr ⟨ts,a,vs,e1,e2,x.same.get e4,r.ext x⟩
theorem RepR.non (r:RepR K O F H .none v):v=.non:=by
 rcases r with r|⟨ts,a,vs,e1,_⟩
 ·simpa [Rep] using r
 ·cases e1
theorem RepR.bl {b:Bool} (r:RepR K O F H (.bool b) v):v=.bl b:=by
 rcases r with r|⟨ts,a,vs,e1,_⟩
 ·simpa [Rep] using r
 ·cases e1
theorem RepR.int {i:Int} (r:RepR K O F H (.int i) v):v=.int i:=by
 rcases r with r|⟨ts,a,vs,e1,_⟩
 ·simpa [Rep] using r
 ·cases e1
theorem RepR.str {x:Str} (r:RepR K O F H (.str x) v):v=.str x:=by
 rcases r with r|⟨ts,a,vs,e1,_⟩
 ·simpa [Rep] using r
 ·cases e1
theorem RepR.tup {ts:List T} (r:RepR K O F H (.tuple ts) v):∃a vs,v=.ref a/\SqT K H a vs/\RepL K F H ts vs:=by
 rcases r with r|⟨ts,a,vs,e1,_⟩
 ·simpa [Rep] using r
 ·cases e1
theorem RepR.lst {ts:List T} (r:RepR K O F H (.list ts) v):∃a vs,v=.ref a/\Rd H a (.lst vs)/\RepL K F H ts vs:=by
 rcases r with r|⟨us,a,vs,e1,e2,e4,r⟩
 ·simp only[Rep] at r
  obtain⟨a,vs,e,_,q,z⟩:=r
  exact⟨a,vs,e,q,z⟩
 ·cases e1
  exact⟨a,vs,e2,.inl e4,r⟩
end
def RepD (K:y00) (F:Addr->Prop) (H:Hp):List (D.Key×T)->List (D.Key×V)->Prop
 | [],vs=>vs=[]
 | p::ts,vs=>∃v r,vs=(p.1,v)::r/\Rep K F H p.2 v/\RepD K F H ts r
theorem RepD.kp {K:y00} {F F':Addr->Prop} {H H':Hp} (x:Kp K F H F' H'):∀{ts:List (D.Key×T)} {vs:List (D.Key×V)},RepD K F H ts vs->RepD K F' H' ts vs
 | [],vs,h=>h
 | p::ts,vs,h=>by
  obtain⟨v,r,e,q,z⟩:=h
  exact⟨v,r,e,q.kp x,RepD.kp x z⟩
structure En where
 h:Hp
 la:Addr
def rf:V->List Addr
 | .ref a=>[a]
 | _=>[]
def fp0:Sl->V->List Addr
 | .imm _,_=>[]
 | _,v=>rf v
def fpF:List Sl->List V->List Addr
 | s::ss,v::vs=>fp0 s v++fpF ss vs
 | _,_=>[]
def zk9 (H:Hp):V->List V
 | .ref a=>(match H a with
  | some (.ins _ _ kvs)=>kvs.map (·.2)
  | some (.dK kvs)=>kvs.map (·.2)
  | _=>[])
 | _=>[]
def fpS (H:Hp):Sl->V->List Addr
 | .imm _,_=>[]
 | .own _,v=>rf v
 | .dic _,v=>rf v
 | .obj _ _ fs,v=>rf v++fpF fs (zk9 H v)
noncomputable def z61 (H:Hp) (a:Addr) (c:Nat) (vs:List V):Prop:=vs.length<=(Tbl.cn c).length/\match Tbl.ck c with
 | some C=>∃dx,H a=some (.ins C dx ((Tbl.cn c).zip vs))
 | none=>H a=some (.dK (((Tbl.cn c).zip vs).map fun p=>(.inr p.1,p.2)))
noncomputable def zb2 (K:y00) (F:Addr->Prop) (H:Hp):Sl->V->Prop
 | .imm t,v=>Rep K F H t v
 | .own ts,v=>∃b us,v=.ref b/\H b=some (.lst us)/\RepL K F H ts us
 | .dic kvs,v=>∃b us,v=.ref b/\H b=some (.dK us)/\RepD K F H kvs us
 | .obj _ _ _,_=>False
def RelF (K:y00) (F:Addr->Prop) (H:Hp):List Sl->List V->Prop
 | [],vs=>vs=[]
 | s::ss,vs=>∃v r,vs=v::r/\zb2 K F H s v/\RelF K F H ss r
def OwnM (E:En) (O F:Addr->Prop) (m:Md) (b:Addr):Prop:=¬F b/\match m with
 | .ro=>E.h b≠none
 | _=>O b
noncomputable def z1y (K:y00) (E:En) (O F:Addr->Prop) (H:Hp):Sl->V->Prop
 | .imm t,v=>Rep K F H t v
 | .own ts,v=>∃a vs,v=.ref a/\¬F a/\O a/\H a=some (.lst vs)/\RepL K F H ts vs
 | .dic kvs,v=>∃a vs,v=.ref a/\¬F a/\O a/\H a=some (.dK vs)/\RepD K F H kvs vs
 | .obj m c fs,v=>∃a vs,v=.ref a/\z61 H a c vs/\RelF K F H fs vs/\(a::fpF fs vs).Nodup/\(∀b∈a::fpF fs vs,OwnM E O F m b)/\(m=.lent->a=E.la)
def Sl.isOwn:Sl->Bool
 | .imm _=>false
 | .obj .ro _ _=>false
 | _=>true
section
variable {K:y00} {F F' O O':Addr->Prop} {H H':Hp} {E:En}
theorem zj5 {α β:Type}:∀{xs:List α} {ys:List β},ys.length<=xs.length->(xs.zip ys).map (·.2)=ys
 | xs,[],_=>by simp
 | [],y::ys,h=>by simp at h
 | x::xs,y::ys,h=>by simp[zj5 (xs:=xs) (ys:=ys) (by simpa using h)]
theorem z61.vals {a:Addr} {c:Nat} {vs:List V} (h:z61 H a c vs):zk9 H (.ref a)=vs:=by
 obtain⟨hl,h⟩:=h
 unfold zk9
 split at h
 ·obtain⟨dx,e⟩:=h
  simp only[e]
  exact zj5 hl
 ·simp only[h,y2p]
  exact zj5 hl
theorem z61.mem {a:Addr} {c:Nat} {vs:List V} (h:z61 H a c vs):∃o,H a=some o/\HoM o:=by
 obtain⟨hl,h⟩:=h
 split at h
 ·obtain⟨dx,e⟩:=h
  exact⟨_,e,.inr (.inr ⟨_,_,_,rfl⟩)⟩
 ·exact⟨_,h,.inr (.inl ⟨_,rfl⟩)⟩
theorem z61.keep {a:Addr} {c:Nat} {vs:List V} (h:z61 H a c vs) (e:H' a=H a):z61 H' a c vs:=by
 obtain⟨hl,h⟩:=h
 refine⟨hl,?_⟩
 rw[e]
 exact h
theorem zev {v:V} {b:Addr} (h:b∈rf v):v=.ref b:=by
 unfold rf at h
 split at h
 ·simp at h
  rw[h]
 ·simp at h
theorem zb2.at {s:Sl} {v:V} {b:Addr} (r:zb2 K F H s v) (h:b∈fp0 s v):∃o,H b=some o/\HoM o:=by
 cases s with
 | imm t=>simp[fp0] at h
 | own ts =>
  obtain⟨b',us,e,eh,_⟩:=r
  have:=zev h
  rw[e] at this
  cases this
  exact⟨_,eh,.inl ⟨_,rfl⟩⟩
 | dic ts =>
  obtain⟨b',us,e,eh,_⟩:=r
  have:=zev h
  rw[e] at this
  cases this
  exact⟨_,eh,.inr (.inl ⟨_,rfl⟩)⟩
 | obj m c fs=>exact r.elim
theorem RelF.at:∀{fs:List Sl} {vs:List V} {b:Addr},RelF K F H fs vs->b∈fpF fs vs->∃o,H b=some o/\HoM o
 | [],vs,b,r,h=>by simp[fpF] at h
 | s::ss,vs,b,r,h=>by
  obtain⟨v,z,rfl,r1,r2⟩:=r
  rw[show fpF (s::ss) (v::z)=fp0 s v++fpF ss z from rfl] at h
  rcases y11.mp h with h|h
  ·exact r1.at h
  ·exact RelF.at r2 h
theorem z32 {m:Md} {c:Nat} {fs:List Sl} {a:Addr} {vs:List V} (h:z61 H a c vs):fpS H (.obj m c fs) (.ref a)=a::fpF fs vs:=by
 show rf (.ref a)++fpF fs (zk9 H (.ref a))=_
 rw[h.vals]
 rfl
theorem z1y.at {s:Sl} {v:V} {b:Addr} (r:z1y K E O F H s v) (h:b∈fpS H s v):∃o,H b=some o/\HoM o:=by
 cases s with
 | imm t=>simp[fpS] at h
 | own ts =>
  obtain⟨b',us,e,_,_,eh,_⟩:=r
  have:=zev h
  rw[e] at this
  cases this
  exact⟨_,eh,.inl ⟨_,rfl⟩⟩
 | dic ts =>
  obtain⟨b',us,e,_,_,eh,_⟩:=r
  have:=zev h
  rw[e] at this
  cases this
  exact⟨_,eh,.inr (.inl ⟨_,rfl⟩)⟩
 | obj m c fs =>
  obtain⟨a,vs,rfl,ha,hf,_⟩:=r
  rw[z32 ha] at h
  rcases y09.mp h with rfl|h
  ·exact ha.mem
  ·exact hf.at h
theorem z1y.held {s:Sl} {v:V} {b:Addr} (r:z1y K E O F H s v) (h:b∈fpS H s v):¬F b/\(s.isOwn=true->O b)/\(s.isOwn=false->E.h b≠none):=by
 cases s with
 | imm t=>simp[fpS] at h
 | own ts =>
  obtain⟨b',us,e,n,o,eh,_⟩:=r
  have:=zev h
  rw[e] at this
  cases this
  exact⟨n,fun _=>o,fun z=>by cases z⟩
 | dic ts =>
  obtain⟨b',us,e,n,o,eh,_⟩:=r
  have:=zev h
  rw[e] at this
  cases this
  exact⟨n,fun _=>o,fun z=>by cases z⟩
 | obj m c fs =>
  obtain⟨a,vs,rfl,ha,hf,nd,ow,_⟩:=r
  rw[z32 ha] at h
  obtain⟨n,q⟩:=ow b h
  refine⟨n,fun z=>?_,fun z=>?_⟩
  ·cases m with
   | ro=>cases z
   | own=>exact q
   | lent=>exact q
  ·cases m with
   | ro=>exact q
   | own=>cases z
   | lent=>cases z
theorem zb2.keep {s:Sl} {v:V} (r:zb2 K F H s v) (kp:Kp K F H F' H') (hh:∀b∈fp0 s v,H' b=H b):zb2 K F' H' s v:=by
 cases s with
 | imm t=>exact Rep.kp r kp
 | own ts =>
  obtain⟨b,us,rfl,eh,z⟩:=r
  exact⟨b,us,rfl,by rw[hh b (by simp[fp0,rf])];exact eh,z.kp kp⟩
 | dic ts =>
  obtain⟨b,us,rfl,eh,z⟩:=r
  exact⟨b,us,rfl,by rw[hh b (by simp[fp0,rf])];exact eh,RepD.kp kp z⟩
 | obj m c fs=>exact r.elim
theorem RelF.keep:∀{fs:List Sl} {vs:List V},RelF K F H fs vs->Kp K F H F' H'->(∀b∈fpF fs vs,H' b=H b)->RelF K F' H' fs vs
 | [],vs,r,_,_=>r
 | s::ss,vs,r,kp,hh=>by
  obtain⟨v,z,rfl,r1,r2⟩:=r
  rw[show fpF (s::ss) (v::z)=fp0 s v++fpF ss z from rfl] at hh
  exact⟨v,z,rfl,r1.keep kp fun b h=>hh b (y11.mpr (.inl h)),RelF.keep r2 kp fun b h=>hh b (y11.mpr (.inr h))⟩
theorem z1y.keep {s:Sl} {v:V} (r:z1y K E O F H s v) (kp:Kp K F H F' H') (hh:∀b∈fpS H s v,H' b=H b) (hf:∀b∈fpS H s v,F' b->F b) (ho:∀b∈fpS H s v,O b->O' b) :
  z1y K E O' F' H' s v/\fpS H' s v=fpS H s v:=by
 cases s with
 | imm t=>exact⟨Rep.kp r kp,rfl⟩
 | own ts =>
  obtain⟨a,vs,rfl,n,o,eh,z⟩:=r
  have m:a∈fpS H (.own ts) (.ref a):=by simp[fpS,rf]
  exact⟨⟨a,vs,rfl,fun f=>n (hf a m f),ho a m o,by rw[hh a m];exact eh,z.kp kp⟩,rfl⟩
 | dic ts =>
  obtain⟨a,vs,rfl,n,o,eh,z⟩:=r
  have m:a∈fpS H (.dic ts) (.ref a):=by simp[fpS,rf]
  exact⟨⟨a,vs,rfl,fun f=>n (hf a m f),ho a m o,by rw[hh a m];exact eh,RepD.kp kp z⟩,rfl⟩
 | obj m c fs =>
  obtain⟨a,vs,rfl,ha,hr,nd,ow,la⟩:=r
  rw[z32 ha] at hh hf ho
  have ha':z61 H' a c vs:=ha.keep (hh a (by simp))
  refine⟨⟨a,vs,rfl,ha',hr.keep kp fun b h=>hh b (y05 _ h),nd,fun b h=>?_,la⟩,by rw[z32 ha,z32 ha']⟩
  obtain⟨n,q⟩:=ow b h
  refine⟨fun f=>n (hf b h f),?_⟩
  cases m with
  | ro=>exact q
  | own=>exact ho b h q
  | lent=>exact ho b h q
theorem z1y.extP {s:Sl} {v:V} (r:z1y K E O F H s v) (x:Ext F H F' H'):z1y K E O F' H' s v/\fpS H' s v=fpS H s v :=
 r.keep x.kp (fun b h=>by
  obtain⟨o,e,m⟩:=r.at h
  rw[e]
  exact x.same.get e fun ps z=>by subst z;exact m.cases (fun _ z=>by cases z) (fun _ z=>by cases z) (fun _ _ _ z=>by cases z)) (fun b h f=>by
  rcases x.new b f with z|z
  ·exact z
  ·obtain⟨o,e,_⟩:=r.at h
   rw[z] at e
   cases e) fun _ _ o=>o
theorem z1y.ext {s:Sl} {v:V} (r:z1y K E O F H s v) (x:Ext F H F' H'):z1y K E O F' H' s v:=(r.extP x).1
end
structure RelE (K:y00) (F₀:Addr->Prop) (E:En) (O F:Addr->Prop) (H:Hp) (ε:Ev) (σ:L2.St):Prop where
 len:ε.length=σ.length
 val:∀(i:Nat) (s:Sl),ε[i]?=some (some s)->∃v,σ[i]?=some (some v)/\z1y K E O F H s v
 ne:∀(i j:Nat) (s u:Sl) (v w:V),i≠j->ε[i]?=some (some s)->ε[j]?=some (some u)->s.isOwn=true->u.isOwn=true->σ[i]?=some (some v)->σ[j]?=some (some w)->∀a∈fpS H s v,a∉fpS H u w
 ent:Ext F₀ E.h F H
 o0:∀a,O a->E.h a=none
 fr:∀a,H a=none->O a
section
variable {K:y00} {F₀ O F F1:Addr->Prop} {E:En} {H H1:Hp} {ε:Ev} {σ:L2.St}
theorem RelE.dom (r:RelE K F₀ E O F H ε σ):Dom F H:=r.ent.dom
theorem RelE.ext (r:RelE K F₀ E O F H ε σ) (x:Ext F H F1 H1):RelE K F₀ E O F1 H1 ε σ :=
 ⟨r.len,fun i s e=>by
  obtain⟨v,h1,h2⟩:=r.val i s e
  exact⟨v,h1,h2.ext x⟩,fun i j s u v w hij e1 e2 o1 o2 h1 h2=>by
  obtain⟨v',h1',r1⟩:=r.val i s e1
  obtain⟨w',h2',r2⟩:=r.val j u e2
  rw[h1] at h1'
  rw[h2] at h2'
  cases h1'
  cases h2'
  rw[(r1.extP x).2,(r2.extP x).2]
  exact r.ne i j s u v w hij e1 e2 o1 o2 h1 h2,r.ent.trans x,r.o0,fun a e=>r.fr a (x.same.none e)⟩
theorem z54 {α:Type} {l:List (Option α)} {i j:Nat} {x:Option α} {y:α} (h:(l.set i x)[j]?=some (some y)):(i=j/\x=some y/\j<l.length)\/(i≠j/\l[j]?=some (some y)):=by
 rw[y2c] at h
 by_cases e:i=j
 ·subst e
  rw[if_pos rfl] at h
  split at h
  next hl=>exact .inl ⟨rfl,y2i h,hl⟩
  next=>cases h
 ·rw[if_neg e] at h
  exact .inr ⟨e,h⟩
theorem zjc {α:Type} {l:List (Option α)} {i:Nat} {x:Option α} (h:i<l.length):(l.set i x)[i]?=some x:=by
 rw[y2c,if_pos rfl,if_pos h]
theorem z8t {α:Type} {l:List (Option α)} {i j:Nat} {x:Option α} (h:i≠j):(l.set i x)[j]?=l[j]?:=by
 rw[y2c,if_neg h]
theorem RelE.setG {s:Sl} {v:V} (r:RelE K F₀ E O F H ε σ) (i:Nat) (h:z1y K E O F H s v) (fr:s.isOwn=true->∀(j:Nat) (u:Sl) (w:V),i≠j->ε[j]?=some (some u)->u.isOwn=true->σ[j]?=some (some w)->∀a∈fpS H s v,a∉fpS H u w) :
  RelE K F₀ E O F H (ε.set i (some s)) (σ.set i (some v)):=by
 refine⟨by simp[r.len],fun j u e=>?_,fun j k u w vu vw hjk e1 e2 o1 o2 h1 h2=>?_,r.ent,r.o0,r.fr⟩
 ·rcases z54 e with ⟨rfl,e',hl⟩|⟨ne,e'⟩
  ·cases e'
   exact⟨_,zjc (by rw[<- r.len];exact hl),h⟩
  ·obtain⟨w,h1,h2⟩:=r.val j u e'
   exact⟨w,by rw[z8t ne];exact h1,h2⟩
 ·rcases z54 e1 with ⟨rfl,e',hl⟩|⟨ne1,e1'⟩
  ·rcases z54 e2 with ⟨rfl,_,_⟩|⟨ne2,e2'⟩
   ·exact absurd rfl hjk
   ·rw[zjc (by rw[<- r.len];exact hl)] at h1
    rw[z8t ne2] at h2
    cases h1
    cases e'
    exact fr o1 k w vw ne2 e2' o2 h2
  ·rw[z8t ne1] at h1
   rcases z54 e2 with ⟨rfl,e',hl⟩|⟨ne2,e2'⟩
   ·rw[zjc (by rw[<- r.len];exact hl)] at h2
    cases h2
    cases e'
    intro a ha hb
    exact fr o2 j u vu ne1 e1' o1 h1 a hb ha
   ·rw[z8t ne2] at h2
    exact r.ne j k u w vu vw hjk e1' e2' o1 o2 h1 h2
theorem RelE.set {t:T} {v:V} (r:RelE K F₀ E O F H ε σ) (i:Nat) (h:Rep K F H t v):RelE K F₀ E O F H (ε.set i (some (.imm t))) (σ.set i (some v)):=r.setG (s:=.imm t) i h fun z=>by cases z
theorem RelE.setNew {s:Sl} {v:V} (r:RelE K F₀ E O F H ε σ) (i:Nat) (x:Ext F H F1 H1) (h:z1y K E O F1 H1 s v) (hn:∀a∈fpS H1 s v,H a=none):RelE K F₀ E O F1 H1 (ε.set i (some s)) (σ.set i (some v)) :=
 (r.ext x).setG i h fun _ j u w _ ej _ hj a ha hb=>by
  obtain⟨w',h1,h2⟩:=r.val j u ej
  rw[hj] at h1
  cases h1
  rw[(h2.extP x).2] at hb
  obtain⟨o,e,_⟩:=h2.at hb
  rw[hn a ha] at e
  cases e
theorem zo4 {x:Addr} {o o':HO} (hn:¬F x) (hx:H x=some o) (hm:HoM o):Kp K F H F (upd H x o'):=by
 refine⟨fun b xs q=>?_,fun b xs f q=>⟨f,?_⟩⟩
 ·rcases q with q|q
  ·refine .inl ?_
   have nb:b≠x:=by
    rintro rfl
    rcases q with q|⟨_,q⟩ <;> (rw[hx] at q;cases q;exact hm.cases (fun _ z=>by cases z) (fun _ z=>by cases z) (fun _ _ _ z=>by cases z))
   rcases q with q|⟨u,q⟩
   ·exact .inl (by rw[z0c nb];exact q)
   ·exact .inr ⟨u,by rw[z0c nb];exact q⟩
  ·exact .inr q
 ·have nb:b≠x:=by
   rintro rfl
   exact hn f
  rcases q with q|⟨u,q⟩
  ·exact .inl (by rw[z0c nb];exact q)
  ·exact .inr ⟨u,by rw[z0c nb];exact q⟩
theorem zl3 {x:Addr} {o o':HO} {h0:Hp} (e:Ext F₀ h0 F H) (h0x:h0 x=none) (hn:¬F x) (hx:H x=some o) (hm:HoM o):Ext F₀ h0 F (upd H x o'):=by
 refine⟨fun b u q=>?_,e.sub,e.new,⟨fun b f=>?_,e.dom.tgs.updM fun u z=>by rw[hx] at z;cases z;exact hm⟩⟩
 ·have nb:b≠x:=by
   rintro rfl
   rw[h0x] at q
   cases q
  rw[z0c nb]
  exact e.same b u q
 ·have nb:b≠x:=by
   rintro rfl
   exact hn f
  rw[z0c nb]
  exact e.dom b f
theorem RelE.mutG {s s':Sl} {v:V} {x:Addr} {o':HO} (r:RelE K F₀ E O F H ε σ) {i:Nat} (e:ε[i]?=some (some s)) (ho:s.isOwn=true) (hv:σ[i]?=some (some v)) (hx:x∈fpS H s v)
  (h:Kp K F H F (upd H x o')->z1y K E O F (upd H x o') s' v)
  (hp:∀b∈fpS (upd H x o') s' v,b∈fpS H s v\/∀(j:Nat) (u:Sl) (w:V),i≠j->ε[j]?=some (some u)->u.isOwn=true->σ[j]?=some (some w)->b∉fpS H u w) :
  Kp K F H F (upd H x o')/\RelE K F₀ E O F (upd H x o') (ε.set i (some s')) σ:=by
 obtain⟨v',hv',rs⟩:=r.val i s e
 rw[hv] at hv'
 cases hv'
 obtain⟨o,eo,hm⟩:=rs.at hx
 obtain⟨nF,hO,_⟩:=rs.held hx
 have hOx:=hO ho
 have kp:Kp K F H F (upd H x o'):=zo4 nF eo hm
 have h0:=r.o0 x hOx
 have keep:∀(j:Nat) (u:Sl) (w:V),i≠j->ε[j]?=some (some u)->σ[j]?=some (some w)->z1y K E O F H u w->z1y K E O F (upd H x o') u w/\fpS (upd H x o') u w=fpS H u w:=by
  intro j u w hij ej hj ru
  refine ru.keep kp (fun b hb=>z0c ?_) (fun _ _ f=>f) fun _ _ o=>o
  rintro rfl
  cases ou:u.isOwn with
  | true=>exact r.ne i j s u v w hij e ej ho ou hv hj b hx hb
  | false=>exact (ru.held hb).2.2 ou h0
 refine⟨kp,⟨by simp[r.len],fun j u e'=>?_,fun j k u w vu vw hjk e1 e2 o1 o2 h1 h2=>?_,zl3 r.ent h0 nF eo hm,r.o0,fun b e'=>r.fr b ?_⟩⟩
 ·rcases z54 e' with ⟨rfl,e'',hl⟩|⟨ne,e''⟩
  ·cases e''
   exact⟨_,hv,h kp⟩
  ·obtain⟨w,h1,h2⟩:=r.val j u e''
   exact⟨w,h1,(keep j u w ne e'' h1 h2).1⟩
 ·rcases z54 e1 with ⟨rfl,e',hl⟩|⟨ne1,e1'⟩
  ·rcases z54 e2 with ⟨rfl,_,_⟩|⟨ne2,e2'⟩
   ·exact absurd rfl hjk
   ·cases e'
    rw[hv] at h1
    cases h1
    obtain⟨w',h2',r2⟩:=r.val k w e2'
    rw[h2] at h2'
    cases h2'
    rw[(keep k w vw ne2 e2' h2 r2).2]
    intro a ha hb
    rcases hp a ha with z|z
    ·exact r.ne i k s w v vw ne2 e e2' ho o2 hv h2 a z hb
    ·exact z k w vw ne2 e2' o2 h2 hb
  ·obtain⟨v1,h1',r1⟩:=r.val j u e1'
   rw[h1] at h1'
   cases h1'
   rw[(keep j u vu ne1 e1' h1 r1).2]
   rcases z54 e2 with ⟨rfl,e',hl⟩|⟨ne2,e2'⟩
   ·cases e'
    rw[hv] at h2
    cases h2
    intro a ha hb
    rcases hp a hb with z|z
    ·exact r.ne i j s u v vu ne1 e e1' ho o1 hv h1 a z ha
    ·exact z j u vu ne1 e1' o1 h1 ha
   ·obtain⟨w',h2',r2⟩:=r.val k w e2'
    rw[h2] at h2'
    cases h2'
    rw[(keep k w vw ne2 e2' h2 r2).2]
    exact r.ne j k u w vu vw hjk e1' e2' o1 o2 h1 h2
 ·by_cases nb:b=x
  ·subst nb
   rw[z0e] at e'
   cases e'
  ·rwa [z0c nb] at e'
end
def tR (K:y00) (f:Fe):TE:=fun σ H Q=>∃F₀ H₀ O F ε t,RelE K F₀ H₀ O F H ε σ/\f ε=some t/\∀v F' H',Ext F H F' H'->RepR K O F' H' t v->Q v H'
def tV (K:y00) (f:Fe):TE:=fun σ H Q=>∃F₀ H₀ O F ε t,RelE K F₀ H₀ O F H ε σ/\f ε=some t/\∀v F' H',Ext F H F' H'->Rep K F' H' t v->Q v H'
noncomputable def tN (K:y00) (f:Fe):TE:=fun σ H Q=>∃F₀ H₀ O F ε ts,RelE K F₀ H₀ O F H ε σ/\f ε=some (.list ts)/\∀a vs F' H',Ext F H F' H'->H a=none->¬F' a->H' a=some (.lst vs)->RepL K F' H' ts vs->Q (.ref a) H'
def tT (K:y00) (f:Ft):TT:=fun σ H Q=>∃F₀ H₀ O F ε b,RelE K F₀ H₀ O F H ε σ/\f ε=some b/\∀F' H',Ext F H F' H'->Q b H'
def tAR (K:y00) (fs:List Fe):TA:=fun σ H Q=>∃F₀ H₀ O F ε ts,RelE K F₀ H₀ O F H ε σ/\args fs ε=some ts/\∀vs F' H',Ext F H F' H'->Paired (RepR K O F' H') ts vs->Q vs H'
def tAV (K:y00) (fs:List Fe):TA:=fun σ H Q=>∃F₀ H₀ O F ε ts,RelE K F₀ H₀ O F H ε σ/\args fs ε=some ts/\∀vs F' H',Ext F H F' H'->RepL K F' H' ts vs->Q vs H'
abbrev PEr (X:Cx) (e:Expr) (f:Fe):Prop:=PE X e (tR X.K f)
abbrev PEv (X:Cx) (e:Expr) (f:Fe):Prop:=PE X e (tV X.K f)
abbrev PEn (X:Cx) (e:Expr) (f:Fe):Prop:=PE X e (tN X.K f)
abbrev PTt (X:Cx) (e:Expr) (f:Ft):Prop:=PT X e (tT X.K f)
abbrev PWt (X:Cx) (e:Expr) (f:Ft):Prop:=PW X e (tT X.K f)
abbrev PAr (X:Cx) (es:List Expr) (fs:List Fe):Prop:=PA X es (tAR X.K fs)
abbrev PAv (X:Cx) (es:List Expr) (fs:List Fe):Prop:=PA X es (tAV X.K fs)
theorem z0t {X:Cx} {e:Expr} {t t':TE} (h:PE X e t) (k:∀σ H Q,t' σ H Q->t σ H Q):PE X e t':=fun pins s σ H Q I q=>h pins s σ H Q I (k σ H Q q)
theorem zec {X:Cx} {e:Expr} {t t':TT} (h:PT X e t) (k:∀σ H Q,t' σ H Q->t σ H Q):PT X e t':=fun pins s σ H Q I q=>h pins s σ H Q I (k σ H Q q)
theorem zt4 {X:Cx} {e:Expr} {t t':TT} (h:PW X e t) (k:∀σ H Q,t' σ H Q->t σ H Q):PW X e t':=fun w pins s σ H Q I q=>h w pins s σ H Q I (k σ H Q q)
theorem zj4 {X:Cx} {e:List Expr} {t t':TA} (h:PA X e t) (k:∀σ H Q,t' σ H Q->t σ H Q):PA X e t':=fun pos pins s σ H Q I q=>h pos pins s σ H Q I (k σ H Q q)
theorem z2r {X:Cx} {e:Stmt} {t t':TS} (h:PS X e t) (k:∀D σ H,t' D σ H->t D σ H):PS X e t':=fun pins s σ H D I q=>h pins s σ H D I (k D σ H q)
theorem zed {X:Cx} {e:List Stmt} {t t':TS} (h:PSs X e t) (k:∀D σ H,t' D σ H->t D σ H):PSs X e t':=fun pins s σ H D I q=>h pins s σ H D I (k D σ H q)
section
variable {X:Cx} {e:Expr} {f:Fe}
theorem v2r (h:PEv X e f):PEr X e f:=z0t h fun σ H Q ⟨F₀,H₀,O,F,ε,t,r,e,k⟩=>⟨F₀,H₀,O,F,ε,t,r,e,fun v F' H' x q=>k v F' H' x (.inl q)⟩
theorem n2v (h:PEn X e f) (hf:∀ε t,f ε=some t->∃ts,t=.list ts):PEv X e f:=z0t h fun σ H Q ⟨F₀,H₀,O,F,ε,t,r,e,k⟩=>by
 obtain⟨ts,rfl⟩:=hf _ _ e
 refine⟨F₀,H₀,O,F,ε,ts,r,e,fun a vs F' H' x hn nf ha q=>?_⟩
 have y:Ext F H (fun b=>F' b\/b=a) H':=⟨x.same,fun b z=>.inl (x.sub b z),fun b z=>by
  rcases z with z|rfl
  ·exact x.new b z
  ·exact .inr hn,⟨fun b z=>by
  rcases z with z|rfl
  ·exact x.dom b z
  ·exact⟨_,ha⟩,x.dom.tgs⟩⟩
 refine k (.ref a) _ H' y ?_
 simp only[Rep]
 exact⟨a,vs,rfl,.inr rfl,.inl ha,q.keep (fun _ _ z=>z) fun b _ z w=>⟨.inl z,w⟩⟩
end
end
section
variable [Tbl]
section
variable {X:Cx} {a b c e:Expr} {f g h:Fe} {pos:Pos}
theorem zlm {t:T} {v:V} (he:PE X e (tC v)) (hr:∀F H,Rep X.K F H t v):PEv X e (cst t):=z0t he fun σ H Q ⟨F₀,H₀,O,F,ε,t',r,e,k⟩=>by
 cases e
 exact k v F H (Ext.refl r.dom) (hr _ _)
theorem z04 {i j}:PEv X (.Constant (.int i) j pos) (cst (.int i)):=zlm znl fun _ _=>by simp[Rep]
theorem q_bl {i j}:PEv X (.Constant (.bool i) j pos) (cst (.bool i)):=zlm zu5 fun _ _=>by simp[Rep]
theorem z0d {i j}:PEv X (.Constant (.str i) j pos) (cst (.str i)):=zlm zhg fun _ _=>by simp[Rep]
theorem zd0 {j}:PEv X (.Constant .none j pos) (cst .none):=zlm zwh fun _ _=>by simp[Rep]
theorem q_nm (i:Nat) {x:Str} (hN:X.N[i]?=some x:=by rfl) (hv:Vis X.env.scope x:=by first|exact Or.inl rfl|exact Or.inr (Or.inl rfl)|exact Or.inr (Or.inr rfl)) (hd:(x == ("__debug__":Str))=false:=by decide)
  (hcd:(x == ("__classdict__":Str))=false:=by decide):PEr X (.Name x pos) (nm i):=z0t (pv i hN hv hd hcd) fun σ H Q ⟨F₀,H₀,O,F,ε,t,r,e,k⟩=>by
 unfold nm at e
 split at e
 next t' he =>
  cases e
  obtain⟨v,h1,h2⟩:=r.val _ _ he
  exact⟨v,h1,k v F H (Ext.refl r.dom) (.inl h2)⟩
 next ts he =>
  cases e
  obtain⟨v,h1,a,vs,rfl,n,h0,hh,hr⟩:=r.val _ _ he
  exact⟨_,h1,k _ F H (Ext.refl r.dom) (.inr ⟨ts,a,vs,rfl,rfl,hh,hr⟩)⟩
 next=>cases e
theorem z08 (i:Nat) {x:Str} (hN:X.N[i]?=some x:=by rfl) (hv:Vis X.env.scope x:=by first|exact Or.inl rfl|exact Or.inr (Or.inl rfl)|exact Or.inr (Or.inr rfl)) (hd:(x == ("__debug__":Str))=false:=by decide)
  (hcd:(x == ("__classdict__":Str))=false:=by decide):PEv X (.Name x pos) (nmV i):=z0t (pv i hN hv hd hcd) fun σ H Q ⟨F₀,H₀,O,F,ε,t,r,e,k⟩=>by
 unfold nmV at e
 split at e
 next t' he =>
  cases e
  obtain⟨v,h1,h2⟩:=r.val _ _ he
  exact⟨v,h1,k v F H (Ext.refl r.dom) h2⟩
 next=>cases e
noncomputable def Op2 (K:y00) (o:T->T->Option T) (R:R2):Prop :=
 ∀(O F:Addr->Prop) (H:Hp) (x y t:T) (vx vy:V) (Q:VK),Dom F H->RepR K O F H x vx->RepR K O F H y vy->o x y=some t ->
  (∀v F' H',Ext F H F' H'->Rep K F' H' t v->Q v H')->R vx vy H Q
theorem z8c {o:T->T->Option T} {R:R2} (h:Op2 X.K o R):∀σ H Q,tV X.K (op2 o f g) σ H Q->tOp R (tR X.K f) (tR X.K g) σ H Q:=by
 rintro σ H Q ⟨F₀,H₀,O,F,ε,t,r,e,k⟩
 simp only[op2,y01] at e
 obtain⟨x,ex,y,ey,eo⟩:=e
 refine⟨F₀,H₀,O,F,ε,x,r,ex,fun vx F1 H1 x1 rx=>⟨F₀,H₀,O,F1,ε,y,r.ext x1,ey,fun vy F2 H2 x2 ry=>?_⟩⟩
 exact h O F2 H2 x y t vx vy Q x2.dom (rx.ext x2) ry eo fun v F' H' x3 q3=>k v F' H' ((x1.trans x2).trans x3) q3
theorem Inv.lstR {pins:List (Addr×Obj)} {σ:L2.St} {H:Hp} {s:y04} {l:Addr} {xs:List V} (I:Inv X pins σ H s) (hH:Rd H l (.lst xs)) :
  xs.length<=y0k/\∃(its:List Value) (n:Nat),Vals xs its/\xs.length=its.length/\s.heap.get? l=some { cls:=.type "list",data:=.seq its.toArray n }:=by
 obtain⟨z,its,n,r,e⟩:=hH.ok I.hok
 exact⟨z,its,n,r,r.length,e⟩
noncomputable def zy5:R2:=fun x y H Q=>∃l b xs zs,x=.ref l/\y=.ref b/\Rd H l (.lst xs)/\Rd H b (.lst zs)/\xs.length+zs.length<=y0k/\∀p,H p=none->Q (.ref p) (upd H p (.lst (xs++zs)))
theorem zub:OpR X (binaryOp .Add) zy5:=by
 intro pins s σ H x y v u Q I rx ry h
 obtain⟨l,b,xs,zs,rfl,rfl,hH,hB,hz,q⟩:=h
 cases rx
 cases ry
 obtain⟨z,its,n,r,hl,e⟩:=Inv.lstR I hH
 obtain⟨z2,its2,n2,r2,hl2,e2⟩:=Inv.lstR I hB
 refine PySem.P.add_list e e2 ?_ (by rw[y0i,y0i];omega)
 have ea:its.toArray++its2.toArray=(its++its2).toArray:=by simp
 rw[ea]
 exact⟨.ref _,_,I.lnew (t':=s.toks) (r.append r2) (by rw[y26];omega),rfl,q _ I.fresh⟩
def zvz (K:y00):R2:=fun x y H Q=>∃a b ys,x=.ref a/\y=.ref b/\SqT K H a []/\SqT K H b ys/\Q (.ref b) H
theorem zqn:OpR X (binaryOp .Add) (zvz X.K):=by
 intro pins s σ H x y v u Q I rx ry h
 obtain⟨a,b,ys,rfl,rfl,ha,hb,q⟩:=h
 cases rx
 cases ry
 obtain⟨its,r1,p1,_⟩:=I.tuple ha
 obtain⟨its2,r2,p2,_⟩:=I.tuple hb
 have ei:its=[]:=r1.nil_iff.mpr rfl
 subst ei
 obtain⟨⟨cls,dd,data,sl⟩,ho,hc,n,hd⟩:=id p1
 obtain⟨⟨cls2,dd2,data2,sl2⟩,ho2,hc2,n2,hd2⟩:=id p2
 simp only at hc hd hc2 hd2
 subst hc hd hc2 hd2
 exact concat_meets ⟨_,ho,rfl⟩ ⟨_,ho2,rfl⟩ noFill_tuple_add seq_tuple_add PySem.F.slot_tuple_add PySem.F.entry_tuple_add (PySem.F.args_tuple_add_2 _ _)
   (tuple_addW0 a b ([]:List Value).toArray its2.toArray n n2 dd dd2 sl sl2 (by simp)) ⟨ho,ho2,⟨.ref b,H,I,rfl,q⟩⟩
theorem zcq:y0k=big:=by rw[sizeLine_eq];rfl
theorem z9a (ha:PEr X a f) (hb:PEr X b g):PEv X (.BinOp a .Add b pos) (op2 oAdd f g) :=
 z0t (znk (zwo.or (zlq.or (zqn.or (zua.or zub)))) ha hb) (z8c (by
  intro O F H x y t vx vy Q d rx ry e k
  unfold oAdd at e
  split at e
  ·cases e
   rw[rx.int,ry.int]
   exact .inl ⟨_,_,rfl,rfl,k _ F H (Ext.refl d) (by simp[Rep])⟩
  ·split at e
   next hz =>
    cases e
    rw[rx.str,ry.str]
    exact .inr (.inl ⟨_,_,rfl,rfl,by rw[zcq];exact hz,k _ F H (Ext.refl d) (by simp[Rep])⟩)
   next=>cases e
  ·split at e
   next xs ys hz =>
    cases e
    obtain⟨ax,vs,rfl,hs,hr⟩:=rx.tup
    obtain⟨ay,ws,rfl,hs',hr'⟩:=ry.tup
    cases xs with
    | nil =>
     simp only[RepL] at hr
     subst hr
     refine .inr (.inr (.inl ⟨_,_,_,rfl,rfl,hs,hs',k _ F H (Ext.refl d) ?_⟩))
     simp only[Rep]
     exact⟨_,_,rfl,hs',by simpa using hr'⟩
    | cons x0 xr =>
     refine .inr (.inr (.inr (.inl ⟨_,_,_,_,rfl,rfl,hs,hs',?_,?_,fun e0=>?_,fun e0 p hp=>?_⟩)))
     ·intro z
      subst z
      have:=hr.length
      simp at this
     ·rw[zcq,<- hr.length,<- hr'.length]
      exact hz
     ·refine k _ F H (Ext.refl d) ?_
      subst e0
      have e1:ys=[]:=List.eq_nil_of_length_eq_zero (by rw[hr'.length];rfl)
      subst e1
      simp only[Rep]
      exact⟨_,_,rfl,hs,by simpa using hr⟩
     ·have x1:=Ext.laid (o:=.tup (vs++ws)) d hp
      refine k _ F _ x1 ?_
      simp only[Rep]
      exact⟨p,_,rfl,SqT.of z0e,(hr.append hr').ext x1⟩
   next=>cases e
  ·split at e
   next xs ys hz =>
    cases e
    obtain⟨ax,vs,rfl,hs,hr⟩:=rx.lst
    obtain⟨ay,ws,rfl,hs',hr'⟩:=ry.lst
    refine .inr (.inr (.inr (.inr ⟨_,_,_,_,rfl,rfl,hs,hs',by rw[zcq,<- hr.length,<- hr'.length];exact hz,fun p hp=>?_⟩)))
    have x1:=Ext.laidF (o:=.lst (vs++ws)) d hp
    refine k _ _ _ x1 ?_
    simp only[Rep]
    exact⟨p,_,rfl,.inr rfl,.inl z0e,(hr.append hr').ext x1⟩
   next=>cases e
  ·cases e))
theorem zw0 (ha:PEr X a f) (hb:PEr X b g):PEv X (.BinOp a .Sub b pos) (op2 oSub f g) :=
 z0t (znk zwk ha hb) (z8c (by
  intro O F H x y t vx vy Q d rx ry e k
  unfold oSub at e
  split at e
  ·cases e
   rw[rx.int,ry.int]
   exact⟨_,_,rfl,rfl,k _ F H (Ext.refl d) (by simp[Rep])⟩
  ·cases e))
theorem zhb (ha:PEr X a f) (hb:PEr X b g):PEv X (.BinOp a .Mult b pos) (op2 oMul f g) :=
 z0t (znk zwl ha hb) (z8c (by
  intro O F H x y t vx vy Q d rx ry e k
  unfold oMul at e
  split at e
  ·split at e
   next hm =>
    cases e
    rw[rx.int,ry.int]
    refine⟨_,_,rfl,rfl,?_,k _ F H (Ext.refl d) (by simp[Rep])⟩
    simpa [zqv,CMul] using hm
   next=>cases e
  ·cases e))
theorem z6c (ha:PEr X a f) (hb:PEr X b g):PEv X (.BinOp a .FloorDiv b pos) (op2 oDiv f g) :=
 z0t (znk zu9 ha hb) (z8c (by
  intro O F H x y t vx vy Q d rx ry e k
  unfold oDiv at e
  split at e
  ·split at e
   next hm =>
    cases e
    rw[rx.int,ry.int]
    exact⟨_,_,rfl,rfl,hm,k _ F H (Ext.refl d) (by simp[Rep])⟩
   next=>cases e
  ·cases e))
theorem z42 (ha:PEr X a f) (hb:PEr X b g):PEv X (.BinOp a .Mod b pos) (op2 oMod f g) :=
 z0t (znk zwm ha hb) (z8c (by
  intro O F H x y t vx vy Q d rx ry e k
  unfold oMod at e
  split at e
  ·split at e
   next hm =>
    cases e
    rw[rx.int,ry.int]
    exact⟨_,_,rfl,rfl,hm,k _ F H (Ext.refl d) (by simp[Rep])⟩
   next=>cases e
  ·cases e))
theorem q_ix (ha:PEr X a f) (hb:PEr X b g) (hs:zpn b:=by intro _ _;rfl):PEv X (.Subscript a b pos) (op2 oIx f g) :=
 z0t (zyc zx4 ha hb hs) (z8c (by
  intro O F H x y t vx vy Q d rx ry e k
  unfold oIx at e
  split at e
  ·obtain⟨ax,vs,rfl,hs,hr⟩:=rx.tup
   rw[ry.int]
   simp only[atZ,y01] at e
   obtain⟨j,hj,et⟩:=e
   obtain⟨v,hv,rv⟩:=hr.get et
   refine .inr (.inl ⟨_,_,_,v,rfl,rfl,hs,?_,k _ F H (Ext.refl d) rv⟩)
   rw[hr.length] at hj
   show (ixN _ _).bind _=_
   rw[show ixN vs.length _=some j from hj]
   exact hv
  ·obtain⟨ax,vs,rfl,hs,hr⟩:=rx.lst
   rw[ry.int]
   simp only[atZ,y01] at e
   obtain⟨j,hj,et⟩:=e
   obtain⟨v,hv,rv⟩:=hr.get et
   refine .inl ⟨_,_,_,v,rfl,rfl,.inl hs,?_,k _ F H (Ext.refl d) rv⟩
   rw[hr.length] at hj
   show (ixN _ _).bind _=_
   rw[show ixN vs.length _=some j from hj]
   exact hv
  ·split at e
   next hz =>
    rw[rx.str,ry.int]
    simp only[y07] at e
    obtain⟨c,hc,rfl⟩:=e
    exact .inr (.inr ⟨_,_,c,rfl,rfl,by rw[zcq];exact hz,hc,k _ F H (Ext.refl d) (by simp[Rep])⟩)
   next=>cases e
  ·cases e))
end
end
section
variable [Tbl]
noncomputable def DO (K:y00) (F₀:Addr->Prop) (H₀:En) (O F:Addr->Prop) (H:Hp) (D:Ends):Out->Prop
 | .nx ε'=>∀σ' F' H',Kp K F H F' H'->RelE K F₀ H₀ O F' H' ε' σ'->D.nx σ' H'
 | .rt t=>∀v F' H',Ext F₀ H₀.h F' H'->Rep K F' H' t v->D.rt v H'
 | .rtm t ε'=>∀v σ' F' H',RelE K F₀ H₀ O F' H' ε' σ'->Rep K F' H' t v->D.rt v H'
 | .rto s=>∀a F' H',Ext F₀ H₀.h F' H'->z1y K H₀ O F' H' s (.ref a)->D.rt (.ref a) H'
 | .bk ε'=>∀σ' F' H',Kp K F H F' H'->RelE K F₀ H₀ O F' H' ε' σ'->D.bk σ' H'
 | .ct ε'=>∀σ' F' H',Kp K F H F' H'->RelE K F₀ H₀ O F' H' ε' σ'->D.ct σ' H'
def tS (K:y00) (g:Fs):TS:=fun D σ H=>∃F₀ H₀ O F ε o,RelE K F₀ H₀ O F H ε σ/\g ε=some o/\DO K F₀ H₀ O F H D o
abbrev PSt (X:Cx) (s:Stmt) (g:Fs):Prop:=PS X s (tS X.K g)
abbrev PBt (X:Cx) (s:List Stmt) (g:Fs):Prop:=PSs X s (tS X.K g)
theorem DO.kp {K:y00} {F₀ O F F1:Addr->Prop} {H₀:En} {H H1:Hp} {D:Ends} {o:Out} (h:DO K F₀ H₀ O F H D o) (x:Kp K F H F1 H1):DO K F₀ H₀ O F1 H1 D o:=by
 cases o with
 | nx ε=>exact fun σ' F' H' k r=>h σ' F' H' (x.trans k) r
 | rt t=>exact h
 | bk ε=>exact fun σ' F' H' k r=>h σ' F' H' (x.trans k) r
 | ct ε=>exact fun σ' F' H' k r=>h σ' F' H' (x.trans k) r
 | rtm t ε=>exact h
 | rto s=>exact h
section
variable {X:Cx} {e a b c:Expr} {f:Fe} {g g':Fs} {ft:Ft} {st:Stmt} {rest:List Stmt} {pos:Pos}
theorem z2s:PBt X [] skip:=zed znf fun D σ H ⟨F₀,H₀,O,F,ε,o,r,e,k⟩=>by
 cases e
 exact k σ F H Kp.refl r
theorem z0b (h:PSt X st g):PBt X [st] g:=z9u h
theorem z05 (h1:PSt X st g) (h2:PBt X rest g'):PBt X (st::rest) (seq g g'):=zed (z73 h1 h2) fun D σ H ⟨F₀,H₀,O,F,ε,o,r,e,k⟩=>by
 simp only[seq,y01] at e
 obtain⟨o1,e1,e2⟩:=e
 refine⟨F₀,H₀,O,F,ε,o1,r,e1,?_⟩
 cases o1 with
 | nx ε'=>exact fun σ' F' H' x r'=>⟨F₀,H₀,O,F',ε',o,r',e2,k.kp x⟩
 | rt t =>
  cases e2
  exact k
 | bk ε' =>
  cases e2
  exact k
 | ct ε' =>
  cases e2
  exact k
 | rtm t ε' =>
  cases e2
  exact k
 | rto s =>
  cases e2
  exact k
theorem z1z (h:PEv X e f):PSt X (.Return (some e) pos) (rtn f):=z2r (zd2 h) fun D σ H ⟨F₀,H₀,O,F,ε,o,r,e,k⟩=>by
 simp only[rtn,y07] at e
 obtain⟨t,et,rfl⟩:=e
 exact⟨F₀,H₀,O,F,ε,t,r,et,fun v F' H' x q=>k v F' H' (r.ent.trans x) q⟩
theorem zvp (i:Nat) {x:Str} {npos:Pos} (hN:X.N[i]?=some x:=by rfl) (hv:Vis X.env.scope x:=by first|exact Or.inl rfl|exact Or.inr (Or.inl rfl)|exact Or.inr (Or.inr rfl)) (hd:(x == ("__debug__":Str))=false:=by decide)
  (hcd:(x == ("__classdict__":Str))=false:=by decide):PSt X (.Return (some (.Name x npos)) pos) (rtn (nm i)):=z2r (zd2 (pv i hN hv hd hcd)) fun D σ H ⟨F₀,H₀,O,F,ε,o,r,e,k⟩=>by
 simp only[rtn,y07] at e
 obtain⟨t,et,rfl⟩:=e
 unfold nm at et
 split at et
 next t' he =>
  cases et
  obtain⟨v,h1,h2⟩:=r.val _ _ he
  exact⟨v,h1,k v F H r.ent h2⟩
 next ts he =>
  cases et
  obtain⟨v,h1,a,vs,rfl,n,h0,ha,q⟩:=r.val _ _ he
  have x2:=r.ent
  have y:Ext F₀ H₀.h (fun b=>F b\/b=a) H:=⟨x2.same,fun b z=>.inl (x2.sub b z),fun b z=>by
   rcases z with z|rfl
   ·exact x2.new b z
   ·exact .inr (r.o0 _ h0),⟨fun b z=>by
   rcases z with z|rfl
   ·exact x2.dom b z
   ·exact⟨_,ha⟩,x2.dom.tgs⟩⟩
  refine⟨_,h1,k _ _ H y ?_⟩
  simp only[Rep]
  exact⟨a,vs,rfl,.inr rfl,.inl ha,q.keep (fun _ _ z=>z) fun b _ z w=>⟨.inl z,w⟩⟩
 next=>cases et
theorem s_if (hc:PTt X c ft) (ha:PBt X rest g) {els:List Stmt} (hb:PBt X els g'):PSt X (.If c rest els pos) (iff ft g g'):=z2r (zqg hc ha hb) fun D σ H ⟨F₀,H₀,O,F,ε,o,r,e,k⟩=>by
 simp only[iff,y01] at e
 obtain⟨b,eb,e⟩:=e
 refine⟨F₀,H₀,O,F,ε,b,r,eb,fun F' H' x=>?_⟩
 cases b with
 | true=>exact iteT ⟨F₀,H₀,O,F',ε,o,r.ext x,by simpa using e,k.kp x.kp⟩
 | false=>exact iteF ⟨F₀,H₀,O,F',ε,o,r.ext x,by simpa using e,k.kp x.kp⟩
theorem z20 (i:Nat) {x:Str} {pos':Pos} (hN:X.N.Nodup) (he:PEv X e f) (hi:X.N[i]?=some x:=by rfl) (hx:Loc X.env.scope x:=by first|exact Or.inl rfl|exact Or.inr rfl)
  (hs:swapsWith e (some (.Name x pos')) pos.line X.env=pure false:=by rfl) (hf:X.fn x=true\/X.env.scope.names.lookup x=some .local:=by first|exact .inl rfl|exact .inr rfl) :
  PSt X (.Assign [.Name x pos'] e pos) (asg i f):=z2r (zd1 hN hi hx he hs hf) fun D σ H ⟨F₀,H₀,O,F,ε,o,r,e,k⟩=>by
 simp only[asg,y07] at e
 obtain⟨t,et,rfl⟩:=e
 refine⟨F₀,H₀,O,F,ε,t,r,et,fun v F' H' x q=>?_⟩
 exact k _ F' H' x.kp ((r.ext x).set i q)
def tG (K:y00) (g:Fg):TG:=fun v σ H Q=>∃F₀ H₀ O F ε t ε',RelE K F₀ H₀ O F H ε σ/\Rep K F H t v/\g t ε=some ε'/\∀σ',RelE K F₀ H₀ O F H ε' σ'->Q σ' H
def tGs (K:y00) (gs:List Fg):TGs:=fun vs σ H Q=>∃F₀ H₀ O F ε ts ε',RelE K F₀ H₀ O F H ε σ/\RepL K F H ts vs/\gAll gs ts ε=some ε'/\∀σ',RelE K F₀ H₀ O F H ε' σ'->Q σ' H
abbrev PGt (X:Cx) (e:Expr) (g:Fg):Prop:=PG X e (tG X.K g)
abbrev PGst (X:Cx) (es:List Expr) (gs:List Fg):Prop:=PGs X es (tGs X.K gs)
theorem zt6 {X:Cx} {e:Expr} {t t':TG} (h:PG X e t) (k:∀v σ H Q,t' v σ H Q->t v σ H Q):PG X e t':=fun pins s σ H v u Q I r q=>h pins s σ H v u Q I r (k v σ H Q q)
theorem zpo {X:Cx} {e:List Expr} {t t':TGs} (h:PGs X e t) (k:∀v σ H Q,t' v σ H Q->t v σ H Q):PGs X e t':=fun pins s σ H v u Q I r q=>h pins s σ H v u Q I r (k v σ H Q q)
theorem g_nm (i:Nat) {x:Str} (hN:X.N.Nodup) (hi:X.N[i]?=some x:=by rfl) (hx:Loc X.env.scope x:=by first|exact Or.inl rfl|exact Or.inr rfl)
  (hf:X.fn x=true\/X.env.scope.names.lookup x=some .local:=by first|exact .inl rfl|exact .inr rfl):PGt X (.Name x pos) (gNm i):=zt6 (ztz hN hi hx hf) fun v σ H Q ⟨F₀,H₀,O,F,ε,t,ε',r,q,e,k⟩=>by
 cases e
 exact k _ (r.set i q)
theorem zoo:PGst X [] []:=zpo zty fun vs σ H Q ⟨F₀,H₀,O,F,ε,ts,ε',r,q,e,k⟩=>by
 cases ts with
 | nil =>
  cases e
  simp only[RepL] at q
  exact⟨q,k σ r⟩
 | cons t ts=>cases e
theorem z8e {es:List Expr} {g:Fg} {gs:List Fg} (h1:PGt X e g) (h2:PGst X es gs) (hs:(assignEach (e::es) X.env).map (·.2)=assign e X.env::(assignEach es X.env).map (·.2):=by rfl):PGst X (e::es) (g::gs) :=
 zpo (zqi h1 h2 hs) fun vs σ H Q ⟨F₀,H₀,O,F,ε,ts,ε',r,q,e,k⟩=>by
 cases ts with
 | nil=>cases e
 | cons t ts =>
  simp only[gAll,y01] at e
  obtain⟨ε1,e1,e2⟩:=e
  simp only[RepL] at q
  obtain⟨v,vr,rfl,q1,q2⟩:=q
  exact⟨v,vr,rfl,F₀,H₀,O,F,ε,t,ε1,r,q1,e1,fun σ1 r1=>⟨F₀,H₀,O,F,ε1,ts,ε',r1,q2,e2,k⟩⟩
theorem zl1:∀{gs:List Fg} {ts:List T} {ε ε':Ev},gAll gs ts ε=some ε'->ts.length=gs.length
 | [],[],_,_,_=>rfl
 | [],_::_,_,_,h=>by cases h
 | _::_,[],_,_,h=>by cases h
 | g::gs,t::ts,ε,ε',h=>by
  simp only[gAll,y01] at h
  obtain⟨ε1,_,h⟩:=h
  simp[zl1 h]
theorem zon {es:List Expr} {k:Nat} {gs:List Fg} (h:PGst X es gs) (hc:X.calm=true:=by rfl) (hn:(assignEach es X.env).length=gs.length:=by rfl) (hst:(assignEach es X.env).findIdx? (·.1)=none:=by rfl) :
  PGt X (.Tuple es k pos) (gTu gs):=zt6 (zwe hc h hn hst) fun v σ H Q ⟨F₀,H₀,O,F,ε,t,ε',r,q,e,k⟩=>by
 unfold gTu at e
 split at e
 next ts =>
  simp only[Rep] at q
  obtain⟨a,vs,rfl,hs,hr⟩:=q
  exact⟨a,vs,rfl,hs,by rw[<- hr.length];exact zl1 e,F₀,H₀,O,F,ε,ts,ε',r,hr,e,k⟩
 next=>cases e
structure ItOk (K:y00) (J:It) (F1:Addr->Prop) (H1:Hp) (ts:List T):Prop where
 go:∀i F H t,Kp K F1 H1 F H->Dom F H->ts[i]?=some t->J.go i H
 yld:∀i F H t x H',Kp K F1 H1 F H->Dom F H->ts[i]?=some t->J.yld i H x H'->∃F',Ext F H F' H'/\Rep K F' H' t x
 stop:∀i F H,Kp K F1 H1 F H->ts.length<=i->J.stop i H
def tI (K:y00) (f:Fi):TI:=fun σ H R=>∃F₀ H₀ O F ε ts,RelE K F₀ H₀ O F H ε σ/\f ε=some ts/\∀J F' H',Ext F H F' H'->ItOk K J F' H' ts->R J H'
abbrev PIt (X:Cx) (tg e:Expr) (f:Fi):Prop:=PI X tg e (tI X.K f)
theorem zl9 {X:Cx} {tg e:Expr} {t t':TI} (h:PI X tg e t) (k:∀σ H R,t' σ H R->t σ H R):PI X tg e t':=fun pins s σ H R I q=>h pins s σ H R I (k σ H R q)
theorem zo9 {K:y00} {a:Addr} {F1:Addr->Prop} {H1:Hp} {ts:List T} {vs:List V} (fa:F1 a) (hr:Rd H1 a (.lst vs)) (q:RepL K F1 H1 ts vs):ItOk K (Itl K a) F1 H1 ts where
 go:=fun i F H t kp d e=>by
  obtain⟨v,h1,_⟩:=q.get e
  exact⟨vs,v,.inl (kp.lst _ _ fa hr).2,h1⟩
 yld:=fun i F H t x H' kp d e y=>by
  obtain⟨rfl,y⟩:=y
  obtain⟨v,h1,h2⟩:=(q.kp kp).get e
  have:=y vs (.inl (kp.lst _ _ fa hr).2)
  rw[h1] at this
  cases this
  exact⟨F,Ext.refl d,h2⟩
 stop:=fun i F H kp hl=>⟨vs,.inl (kp.lst _ _ fa hr).2,by rw[<- q.length];exact hl⟩
theorem zr7 {K:y00} {a:Addr} {F1:Addr->Prop} {H1:Hp} {ts:List T} {vs:List V} (hr:SqT K H1 a vs) (q:RepL K F1 H1 ts vs):ItOk K (Itt K a) F1 H1 ts where
 go:=fun i F H t kp d e=>by
  obtain⟨v,h1,_⟩:=q.get e
  exact⟨vs,v,kp.tup _ _ hr,h1⟩
 yld:=fun i F H t x H' kp d e y=>by
  obtain⟨rfl,y⟩:=y
  obtain⟨v,h1,h2⟩:=(q.kp kp).get e
  have:=y vs (kp.tup _ _ hr)
  rw[h1] at this
  cases this
  exact⟨F,Ext.refl d,h2⟩
 stop:=fun i F H kp hl=>⟨vs,kp.tup _ _ hr,by rw[<- q.length];exact hl⟩
theorem zjf (lo hi:Int):(rng lo hi).length=(hi - lo).toNat:=by simp[rng]
theorem zr8 {K:y00} {F1:Addr->Prop} {H1:Hp} (lo hi:Int):ItOk K (Itr lo (hi - lo).toNat) F1 H1 (rng lo hi) where
 go:=fun i F H t kp d e=>by
  have h:=(y0l.mp e).1
  rw[zjf] at h
  exact h
 yld:=fun i F H t x H' kp d e y=>by
  obtain⟨rfl,rfl⟩:=y
  refine⟨F,Ext.refl d,?_⟩
  have h:=(y0l.mp e).1
  rw[zjf] at h
  unfold rng at e
  rw[y15,List.getElem?_range h] at e
  simp at e
  subst e
  simp[Rep]
 stop:=fun i F H kp hl=>by
  rw[zjf] at hl
  exact hl
def iSq (K:y00) (tl:TE):TI:=fun σ H R=>tl σ H fun x H1=>∃a,x=.ref a/\(((∃xs,SqL K H1 a xs)/\R (Itl K a) H1)\/((∃xs,SqT K H1 a xs)/\R (Itt K a) H1))
theorem zya {tg l:Expr} {tl:TE} (hl:PE X l tl):PI X tg l (iSq X.K tl):=by
 intro pins s σ H R I h
 refine thn (hl pins s σ H _ I h) fun v s1 ⟨x,H1,I1,r1,a,e1,q⟩=>?_
 subst e1
 cases r1
 have fp:∀b∈[s1.heap.objs.size],FpOk X pins H1 b:=fun b hb=>by
  have e:b=s1.heap.objs.size:=by simpa using hb
  subst e
  exact I1.fpOk (y0p _) (I1.hok.fresh (y0p _))
 rcases q with ⟨⟨xs,hq⟩,q⟩|⟨⟨xs,hq⟩,q⟩
 ·obtain⟨its,rv,p,hz⟩:=I1.list hq
  refine wpAny_pyIter_list p.isList ?_
  exact⟨s1.heap.objs.size,[s1.heap.objs.size],_,_,H1,rfl,I1.kept (t':=s1.toks) fun b o e=>y03 _ e,zmo a _,⟨_,y0m _ rfl,rfl,rfl⟩,fp,q⟩
 ·obtain⟨its,rv,p,hz⟩:=I1.tuple hq
  refine wpAny_pyIter_tuple (show s1.heap.IsTuple a its.toArray from p) ?_
  exact⟨s1.heap.objs.size,[s1.heap.objs.size],_,_,H1,rfl,I1.kept (t':=s1.toks) fun b o e=>y03 _ e,zld a _,⟨_,y0m _ rfl,rfl,rfl⟩,fp,q⟩
theorem zc7 {tg l:Expr} {f:Fe} (hl:PEv X l f):PIt X tg l (z3v f):=zl9 (zya hl) fun σ H R ⟨F₀,H₀,O,F,ε,ts,r,e,k⟩=>by
 simp only[z3v,y01] at e
 obtain⟨t,et,e⟩:=e
 split at e
 ·cases e
  refine⟨F₀,H₀,O,F,ε,_,r,et,fun v F' H' x q=>?_⟩
  simp only[Rep] at q
  obtain⟨a,vs,rfl,hs,hr⟩:=q
  exact⟨a,rfl,.inr ⟨⟨vs,hs⟩,k _ F' H' x (zr7 hs hr)⟩⟩
 ·cases e
  refine⟨F₀,H₀,O,F,ε,_,r,et,fun v F' H' x q=>?_⟩
  simp only[Rep] at q
  obtain⟨a,vs,rfl,fa,hs,hr⟩:=q
  exact⟨a,rfl,.inl ⟨⟨vs,.inl hs⟩,k _ F' H' x (zo9 fa hs hr)⟩⟩
 ·cases e
theorem zst {tg a:Expr} {f:Fe} {p pos:Pos} (hm:X.mg "range"=none) (ha:PEr X a f) (hg:Gl X "range":=by rfl) (hs:y0a [a] X.env=[(false,eval a X.env)]:=by rfl) (hs2:y0a [a] X.env=(false,eval a X.env)::y0a [] X.env:=by rfl) :
  PIt X tg (.Call (.Name "range" p) [a] [] pos) (z7u f):=zl9 (znj hg hm (z0r ha z38 hs2) hs) fun σ H R ⟨F₀,H₀,O,F,ε,ts,r,e,k⟩=>by
 simp only[z7u,y01] at e
 obtain⟨t,et,e⟩:=e
 split at e
 next j =>
  split at e
  next hz =>
   cases e
   refine⟨F₀,H₀,O,F,ε,_,r,et,fun v F' H' x q=>⟨j,by rw[q.int],?_,?_,k _ F' H' x (by simpa using zr8 0 j)⟩⟩
   ·simp[zb6] at hz
    omega
   ·simp[zb6] at hz
    omega
  next=>cases e
 next=>cases e
theorem zh7 {tg iter:Expr} {body:List Stmt} {it:Fi} {gg:Fg} {bb:Fs} (hp:PassesOwn (model X.prog X.w) X.A X.env X.xe) (hi:PIt X tg iter it) (hg:PGt X tg gg) (hb:PBt X body bb) (hc:X.calm=true:=by rfl)
  (hs:∀x,foldedSetIterable iter X.env x=pure x:=by intro _;rfl):PSt X (.For tg iter body [] pos) (for_ it gg bb):=z2r (zwc hp hc hi hg hb hs) fun D σ H ⟨F₀,H₀,O,F,ε,o,r,e,k⟩=>by
 simp only[for_,y01] at e
 obtain⟨ts,et,e⟩:=e
 refine⟨F₀,H₀,O,F,ε,ts,r,et,fun J F1 H1 x1 ok=>?_⟩
 refine⟨fun i m σ' H'=>m=ts.length - i/\i<=ts.length/\∃F' ε' ,Kp X.K F1 H1 F' H'/\RelE X.K F₀ H₀ O F' H' ε' σ'/\forL gg bb (ts.drop i) ε'=some o,⟨_,rfl,y28 _,F1,ε,Kp.refl,r.ext x1,by simpa using e⟩,?_⟩
 rintro i m σ' H' ⟨rfl,hi',F',ε',kp,r',e'⟩
 by_cases hlt:i<ts.length
 ·have hd:ts.drop i=ts[i]::ts.drop (i+1):=List.drop_eq_getElem_cons hlt
  have hg':ts[i]?=some ts[i]:=y0v hlt
  rw[hd] at e'
  simp only[forL,y01] at e'
  obtain⟨ε1,eg,o1,eb,e'⟩:=e'
  refine .inr ⟨ok.go i F' H' _ kp r'.dom hg',fun σ2 H2=>∃m',m'<ts.length - i/\(m'=ts.length - (i+1)/\i+1<=ts.length/\∃F2 ε2,Kp X.K F1 H1 F2 H2/\RelE X.K F₀ H₀ O F2 H2 ε2 σ2/\forL gg bb (ts.drop (i+1)) ε2=some o),fun _ _ z=>z,fun x H2 y=>?_⟩
  obtain⟨F2,x2,rx⟩:=ok.yld i F' H' _ x H2 kp r'.dom hg' y
  refine⟨F₀,H₀,O,F2,ε',_,ε1,r'.ext x2,rx,eg,fun σ3 r3=>⟨F₀,H₀,O,F2,ε1,o1,r3,eb,?_⟩⟩
  have kp2:Kp X.K F1 H1 F2 H2:=kp.trans x2.kp
  cases o1 with
  | nx ε2=>exact fun σ4 F4 H4 k4 r4=>⟨_,by omega,rfl,hlt,F4,ε2,kp2.trans k4,r4,e'⟩
  | ct ε2=>exact fun σ4 F4 H4 k4 r4=>⟨_,by omega,rfl,hlt,F4,ε2,kp2.trans k4,r4,e'⟩
  | bk ε2 =>
   cases e'
   exact fun σ4 F4 H4 k4 r4=>k σ4 F4 H4 ((x1.kp.trans kp2).trans k4) r4
  | rt t =>
   cases e'
   exact k
  | rtm t ε2 =>
   cases e'
   exact k
  | rto s =>
   cases e'
   exact k
 ·have hd:ts.drop i=[]:=List.drop_eq_nil_of_le (by omega)
  rw[hd] at e'
  cases e'
  exact .inl ⟨ok.stop i F' H' kp (by omega),k σ' F' H' (x1.kp.trans kp) r'⟩
end
end
section
variable [Tbl]
section
variable {X:Cx} {a b c e:Expr} {es:List Expr} {f g h:Fe} {fs:List Fe} {ft gt:Ft} {pos p:Pos}
theorem z5y:PAr X [] []:=zj4 z38 fun σ H Q ⟨F₀,H₀,O,F,ε,ts,r,e,k⟩=>by
 cases e
 exact k [] F H (Ext.refl r.dom) .nil
theorem z35 (ha:PEr X e f) (hr:PAr X es fs) (hs:y0a (e::es) X.env=(false,eval e X.env)::y0a es X.env:=by rfl):PAr X (e::es) (f::fs):=zj4 (z0r ha hr hs) fun σ H Q ⟨F₀,H₀,O,F,ε,ts,r,e,k⟩=>by
 simp only[args,y01,y07] at e
 obtain⟨t,et,us,eu,rfl⟩:=e
 refine⟨F₀,H₀,O,F,ε,t,r,et,fun v F1 H1 x1 q1=>⟨F₀,H₀,O,F1,ε,us,r.ext x1,eu,fun vs F2 H2 x2 q2=>?_⟩⟩
 exact k _ F2 H2 (x1.trans x2) (.cons (q1.ext x2) q2)
theorem z03:PAv X [] []:=zj4 z38 fun σ H Q ⟨F₀,H₀,O,F,ε,ts,r,e,k⟩=>by
 cases e
 exact k [] F H (Ext.refl r.dom) RepL.nil
theorem z00 (ha:PEv X e f) (hr:PAv X es fs) (hs:y0a (e::es) X.env=(false,eval e X.env)::y0a es X.env:=by rfl):PAv X (e::es) (f::fs):=zj4 (z0r ha hr hs) fun σ H Q ⟨F₀,H₀,O,F,ε,ts,r,e,k⟩=>by
 simp only[args,y01,y07] at e
 obtain⟨t,et,us,eu,rfl⟩:=e
 refine⟨F₀,H₀,O,F,ε,t,r,et,fun v F1 H1 x1 q1=>⟨F₀,H₀,O,F1,ε,us,r.ext x1,eu,fun vs F2 H2 x2 q2=>?_⟩⟩
 exact k _ F2 H2 (x1.trans x2) (RepL.cons (q1.ext x2) q2)
theorem z14 {x1} (h:PAv X es fs):PEv X (.Tuple es x1 pos) (z09 fs):=z0t (zhf h) fun σ H Q ⟨F₀,H₀,O,F,ε,t,r,e,k⟩=>by
 simp only[z09,y01] at e
 obtain⟨ts,et,e⟩:=e
 split at e
 next hz =>
  cases e
  refine⟨F₀,H₀,O,F,ε,ts,r,et,fun vs F1 H1 x1 q1=>⟨by rw[zcq,<- q1.length];exact hz,fun p hp=>?_⟩⟩
  have x2:=Ext.laid (o:=.tup vs) x1.dom hp
  refine k _ F1 _ (x1.trans x2) ?_
  simp only[Rep]
  exact⟨p,vs,rfl,SqT.of z0e,q1.ext x2⟩
 next=>cases e
theorem zll (h:PAv X es fs):PEn X (.List es pos) (z3j fs):=z0t (zsd h) fun σ H Q ⟨F₀,H₀,O,F,ε,us,r,e,k⟩=>by
 simp only[z3j,y01] at e
 obtain⟨ts,et,e⟩:=e
 split at e
 next hz =>
  cases e
  refine⟨F₀,H₀,O,F,ε,_,r,et,fun vs F1 H1 x1 q1=>⟨by rw[zcq,<- q1.length];exact hz,fun p hp=>?_⟩⟩
  have x2:=Ext.laid (o:=.lst vs) x1.dom hp
  refine k p vs F1 _ (x1.trans x2) ?_ ?_ z0e (q1.ext x2)
  ·exact x1.same.none hp
  ·intro fp
   obtain⟨o,eo⟩:=x1.dom p fp
   rw[hp] at eo
   cases eo
 next=>cases e
theorem zs8 (h:PAv X es fs):PEv X (.List es pos) (z3j fs):=n2v (zll h) fun ε t e=>by
 simp only[z3j,y01] at e
 obtain⟨ts,et,e⟩:=e
 split at e
 ·cases e
  exact⟨_,rfl⟩
 ·cases e
mutual
theorem zkn {F:Addr->Prop} {pins:List (Addr×Obj)} {σ:L2.St} {H:Hp} {s:y04} (I:Inv X pins σ H s):∀{t:T} {v:V} {u:Value},Rep X.K F H t v->RelV v u->∃as,Reads s.heap u t as
 | .none,v,u,h,r=>by
  simp only[Rep] at h
  subst h
  cases r
  exact⟨_,.none⟩
 | .bool b,v,u,h,r=>by
  simp only[Rep] at h
  subst h
  cases r
  exact⟨_,.bool b⟩
 | .int i,v,u,h,r=>by
  simp only[Rep] at h
  subst h
  obtain⟨t,rfl⟩:=r
  exact⟨_,.int i t⟩
 | .str x,v,u,h,r=>by
  simp only[Rep] at h
  subst h
  obtain⟨t,rfl⟩:=r
  exact⟨_,.str x t⟩
 | .dict _,v,u,h,r=>by simp[Rep] at h
 | .tuple ts,v,u,h,r=>by
  simp only[Rep] at h
  obtain⟨a,vs,rfl,hs,hr⟩:=h
  cases r
  obtain⟨its,rv,⟨o,h1,h2,n,h3⟩,hz⟩:=I.tuple hs
  obtain⟨as,ra⟩:=zal I hr rv
  exact⟨_,.tuple h1 h2 h3 (by simpa using ra)⟩
 | .list ts,v,u,h,r=>by
  simp only[Rep] at h
  obtain⟨a,vs,rfl,fa,hs,hr⟩:=h
  cases r
  obtain⟨z,its,n,rv,hl,e⟩:=Inv.lstR I hs
  obtain⟨as,ra⟩:=zal I hr rv
  exact⟨_,.list e rfl rfl (by simpa using ra)⟩
theorem zal {F:Addr->Prop} {pins:List (Addr×Obj)} {σ:L2.St} {H:Hp} {s:y04} (I:Inv X pins σ H s):∀{ts:List T} {vs:List V} {us:List Value},RepL X.K F H ts vs->Vals vs us->∃as,ReadsAll s.heap us ts as
 | [],vs,us,h,r=>by
  simp only[RepL] at h
  subst h
  cases r
  exact⟨_,.nil⟩
 | t::ts,vs,us,h,r=>by
  simp only[RepL] at h
  obtain⟨v,vr,rfl,h1,h2⟩:=h
  cases r with
  | cons r1 r2 =>
   obtain⟨as,q1⟩:=zkn I h1 r1
   obtain⟨bs,q2⟩:=zal I h2 r2
   exact⟨_,.cons q1 q2⟩
end
theorem z36 {O F:Addr->Prop} {pins:List (Addr×Obj)} {σ:L2.St} {H:Hp} {s:y04} (I:Inv X pins σ H s) {t:T} {v:V} {u:Value} (h:RepR X.K O F H t v) (r:RelV v u):∃as,Reads s.heap u t as:=by
 rcases h with h|⟨ts,a,vs,rfl,rfl,ha,h⟩
 ·exact zkn I h r
 ·cases r
  obtain⟨z,its,n,rv,hl,e⟩:=Inv.lstR I (.inl ha)
  obtain⟨as,ra⟩:=zal I h rv
  exact⟨_,.list e rfl rfl (by simpa using ra)⟩
theorem zf0 {t:T} (h:okT t=true):t.canLay0=true/\t.depth<=60:=by
 simp only[okT,y1c,decide_eq_true_eq] at h
 exact h
theorem zsk {t:List T} (h:okL t=true):y1h t=true/\y1f t<=60:=by
 simp only[okL,y1c,decide_eq_true_eq] at h
 exact h
noncomputable def zqc (K:y00) (n:Bool):R2:=fun x y H Q=>∃(O F:Addr->Prop) (s t:T),RepR K O F H s x/\RepR K O F H t y/\okT s=true/\okT t=true/\Q (.bl (if n then !PyData.eqv s t else y24 s t)) H
theorem zsg (hu:X.A.units+64<cLine):OpR X (compareOp .Eq) (zqc X.K false):=by
 intro pins s σ H x y v u Q I rx ry ⟨O,F,d,t,h1,h2,o1,o2,q⟩
 obtain⟨as,ra⟩:=z36 I h1 rx
 obtain⟨bs,rb⟩:=z36 I h2 ry
 obtain⟨c1,l1⟩:=zf0 o1
 obtain⟨c2,l2⟩:=zf0 o2
 refine SeqAt.compareEq_reads ra rb c1 c2 (by have:=Nat.min_le_left d.depth t.depth;omega) ?_
 exact⟨.bl _,H,I,rfl,q⟩
theorem zex (hu:X.A.units+64<cLine):OpR X (compareOp .NotEq) (zqc X.K true):=by
 intro pins s σ H x y v u Q I rx ry ⟨O,F,d,t,h1,h2,o1,o2,q⟩
 obtain⟨as,ra⟩:=z36 I h1 rx
 obtain⟨bs,rb⟩:=z36 I h2 ry
 obtain⟨c1,l1⟩:=zf0 o1
 obtain⟨c2,l2⟩:=zf0 o2
 refine SeqAt.compareNe_reads ra rb c1 c2 (by have:=Nat.min_le_left d.depth t.depth;omega) ?_
 exact⟨.bl _,H,I,rfl,q⟩
theorem zji {op:CmpOp} {R:R2} {o:T->T->Option T} (ho:OpR X (compareOp op) R) (h2:Op2 X.K o R) (ha:PEr X a f) (hb:PEr X b g) (hm:behindInMarks op b=false:=by first|exact zkt _|rfl):PEv X (.Compare a [op] [b] pos) (op2 o f g):=z0t (zu3 ho ha hb hm) (z8c h2)
theorem z5k {op:CmpOp} {R:R2} {o:T->T->Option T} (ho:OpR X (compareOp op) R) (h2:Op2 X.K o R) (ha:PEr X a f) (hb:PEr X b g) (hm:behindInMarks op b=false:=by first|exact zkt _|rfl):PTt X (.Compare a [op] [b] pos) (tstB (op2 o f g)) :=
 zec (zjj ho ha hb hm) fun σ H Q ⟨F₀,H₀,O,F,ε,b,r,e,k⟩=>by
 simp only[tstB,y01] at e
 obtain⟨t,et,e⟩:=e
 split at e
 ·cases e
  refine z8c h2 σ H _ ⟨F₀,H₀,O,F,ε,_,r,et,fun v F' H' x q=>?_⟩
  simp only[Rep] at q
  exact⟨_,q,k F' H' x⟩
 ·cases e
theorem zsi:Op2 X.K oEq (zqc X.K false):=by
  intro O F H x y t vx vy Q d rx ry e k
  unfold oEq at e
  split at e
  next hz =>
   cases e
   rw[y1c] at hz
   exact⟨O,F,x,y,rx,ry,hz.1,hz.2,k _ F H (Ext.refl d) (by simp[Rep])⟩
  next=>cases e
theorem zez:Op2 X.K oNe (zqc X.K true):=by
  intro O F H x y t vx vy Q d rx ry e k
  unfold oNe at e
  split at e
  next hz =>
   cases e
   rw[y1c] at hz
   exact⟨O,F,x,y,rx,ry,hz.1,hz.2,k _ F H (Ext.refl d) (by simp[Rep])⟩
  next=>cases e
noncomputable def rInT (K:y00) (n:Bool):R2:=fun x y H Q=>∃(O F:Addr->Prop) (s:T) (ts:List T),RepR K O F H s x/\(RepR K O F H (.tuple ts) y\/RepR K O F H (.list ts) y)/\okT s=true/\okL ts=true/\Q (.bl (if n then !hasT s ts else hasT s ts)) H
theorem zey (hu:X.A.units+64<cLine):OpR X (compareOp .In) (rInT X.K false):=by
 intro pins s σ H x y v u Q I rx ry ⟨O,F,d,ts,h1,h2,o1,o2,q⟩
 obtain⟨as,ra⟩:=z36 I h1 rx
 obtain⟨c1,l1⟩:=zf0 o1
 obtain⟨c2,l2⟩:=zsk o2
 have hm:=Nat.min_le_left (y1f ts) d.depth
 rcases h2 with h2|h2
 ·obtain⟨bs,rb⟩:=z36 I h2 ry
  exact SeqAt.in_tuple_reads rb ra c2 c1 (by omega) ⟨.bl _,H,I,rfl,q⟩
 ·obtain⟨bs,rb⟩:=z36 I h2 ry
  exact SeqAt.in_list_reads rb ra c2 c1 (by omega) ⟨.bl _,H,I,rfl,q⟩
theorem z88 (hu:X.A.units+64<cLine):OpR X (compareOp .NotIn) (rInT X.K true):=by
 intro pins s σ H x y v u Q I rx ry ⟨O,F,d,ts,h1,h2,o1,o2,q⟩
 obtain⟨as,ra⟩:=z36 I h1 rx
 obtain⟨c1,l1⟩:=zf0 o1
 obtain⟨c2,l2⟩:=zsk o2
 have hm:=Nat.min_le_left (y1f ts) d.depth
 rcases h2 with h2|h2
 ·obtain⟨bs,rb⟩:=z36 I h2 ry
  exact SeqAt.notIn_tuple_reads rb ra c2 c1 (by omega) ⟨.bl _,H,I,rfl,q⟩
 ·obtain⟨bs,rb⟩:=z36 I h2 ry
  exact SeqAt.notIn_list_reads rb ra c2 c1 (by omega) ⟨.bl _,H,I,rfl,q⟩
theorem z8b {n:Bool}:Op2 X.K (oIn n) (rInT X.K n):=by
 intro O F H x y t vx vy Q d rx ry e k
 unfold oIn at e
 split at e
 ·split at e
  next hz =>
   cases e
   rw[y1c] at hz
   exact⟨O,F,x,_,rx,.inl ry,hz.1,hz.2,k _ F H (Ext.refl d) (by simp[Rep])⟩
  next=>cases e
 ·split at e
  next hz =>
   cases e
   rw[y1c] at hz
   exact⟨O,F,x,_,rx,.inr ry,hz.1,hz.2,k _ F H (Ext.refl d) (by simp[Rep])⟩
  next=>cases e
 ·cases e
theorem zhk:Op2 X.K oLt (fun x y H Q=>rI0 (fun i j=>.bl (decide (i<j))) x y H Q\/∃i j,x=.str i/\y=.str j/\Q (.bl (decide (i.cps.toList<j.cps.toList))) H):=by
  intro O F H x y t vx vy Q d rx ry e k
  unfold oLt at e
  split at e
  ·cases e
   rw[rx.int,ry.int]
   exact .inl ⟨_,_,rfl,rfl,k _ F H (Ext.refl d) (by simp[Rep])⟩
  ·cases e
   rw[rx.str,ry.str]
   exact .inr ⟨_,_,rfl,rfl,k _ F H (Ext.refl d) (by simp[Rep,z5z])⟩
  ·cases e
theorem zd3:OpR X (compareOp .LtE) (fun x y H Q=>∃i j,x=.str i/\y=.str j/\Q (.bl (!z5z j i)) H):=by
 intro pins s σ H x y v u Q I rx ry ⟨i,j,e1,e2,q⟩
 subst e1 e2
 obtain⟨t,rfl⟩:=rx
 obtain⟨t',rfl⟩:=ry
 exact PySem.P.le_str (z45 I q (by simp[z5z]))
theorem zhj:OpR X (compareOp .GtE) (fun x y H Q=>∃i j,x=.str i/\y=.str j/\Q (.bl (!z5z i j)) H):=by
 intro pins s σ H x y v u Q I rx ry ⟨i,j,e1,e2,q⟩
 subst e1 e2
 obtain⟨t,rfl⟩:=rx
 obtain⟨t',rfl⟩:=ry
 exact PySem.P.ge_str (z45 I q (by simp[z5z]))
theorem z8a:OpR X (compareOp .Gt) (fun x y H Q=>∃i j,x=.str i/\y=.str j/\Q (.bl (z5z j i)) H):=by
 intro pins s σ H x y v u Q I rx ry ⟨i,j,e1,e2,q⟩
 subst e1 e2
 obtain⟨t,rfl⟩:=rx
 obtain⟨t',rfl⟩:=ry
 exact PySem.P.gt_str (z45 I q (by simp[z5z]))
theorem zno:Op2 X.K oLe (fun x y H Q=>rI0 (fun i j=>.bl (decide (i<=j))) x y H Q\/∃i j,x=.str i/\y=.str j/\Q (.bl (!z5z j i)) H):=by
 intro O F H x y t vx vy Q d rx ry e k
 unfold oLe at e
 split at e
 ·cases e
  rw[rx.int,ry.int]
  exact .inl ⟨_,_,rfl,rfl,k _ F H (Ext.refl d) (by simp[Rep])⟩
 ·cases e
  rw[rx.str,ry.str]
  exact .inr ⟨_,_,rfl,rfl,k _ F H (Ext.refl d) (by simp[Rep])⟩
 ·cases e
theorem zhl:Op2 X.K oGt (fun x y H Q=>rI0 (fun i j=>.bl (decide (j<i))) x y H Q\/∃i j,x=.str i/\y=.str j/\Q (.bl (z5z j i)) H):=by
 intro O F H x y t vx vy Q d rx ry e k
 unfold oGt at e
 split at e
 ·cases e
  rw[rx.int,ry.int]
  exact .inl ⟨_,_,rfl,rfl,k _ F H (Ext.refl d) (by simp[Rep])⟩
 ·cases e
  rw[rx.str,ry.str]
  exact .inr ⟨_,_,rfl,rfl,k _ F H (Ext.refl d) (by simp[Rep])⟩
 ·cases e
theorem zsh:Op2 X.K oGe (fun x y H Q=>rI0 (fun i j=>.bl (decide (j<=i))) x y H Q\/∃i j,x=.str i/\y=.str j/\Q (.bl (!z5z i j)) H):=by
 intro O F H x y t vx vy Q d rx ry e k
 unfold oGe at e
 split at e
 ·cases e
  rw[rx.int,ry.int]
  exact .inl ⟨_,_,rfl,rfl,k _ F H (Ext.refl d) (by simp[Rep])⟩
 ·cases e
  rw[rx.str,ry.str]
  exact .inr ⟨_,_,rfl,rfl,k _ F H (Ext.refl d) (by simp[Rep])⟩
 ·cases e
theorem zw2 (ha:PEr X a f):PEv X (.UnaryOp .USub a pos) (op1 oNeg f):=z0t (zwg zrz ha) fun σ H Q ⟨F₀,H₀,O,F,ε,t,r,e,k⟩=>by
 simp only[op1,y01] at e
 obtain⟨x,ex,e⟩:=e
 unfold oNeg at e
 split at e
 ·cases e
  exact⟨F₀,H₀,O,F,ε,_,r,ex,fun v F1 H1 x1 rx=>⟨_,rx.int,k _ F1 H1 x1 (by simp[Rep])⟩⟩
 ·cases e
noncomputable def OpN (K:y00) (o:List T->Option T) (R:List V->Hp->VK->Prop):Prop :=
 ∀(O F:Addr->Prop) (H:Hp) (ts:List T) (t:T) (vs:List V) (Q:VK),Dom F H->Paired (RepR K O F H) ts vs->o ts=some t ->
  (∀v F' H',Ext F H F' H'->Rep K F' H' t v->Q v H')->R vs H Q
theorem zg9 {o:List T->Option T} {R:List V->Hp->VK->Prop} (hR:OpN X.K o R):∀σ H Q,tV X.K (opN o fs) σ H Q->tCB R (tAR X.K fs) σ H Q:=by
 rintro σ H Q ⟨F₀,H₀,O,F,ε,t,r,e,k⟩
 simp only[opN,y01] at e
 obtain⟨ts,et,eo⟩:=e
 exact⟨F₀,H₀,O,F,ε,ts,r,et,fun vs F1 H1 x1 q=>hR O F1 H1 ts t vs Q x1.dom q eo fun v F' H' x3 q3=>k v F' H' (x1.trans x3) q3⟩
theorem ztq (hm:X.mg "len"=none) (ha:PAr X (e::es) fs) (hg:Gl X "len":=by rfl) (he:y0a (e::es) X.env=(false,eval e X.env)::y0a es X.env:=by rfl) (hpl:(backTo pos (y0a es X.env)).any (·.1)=false:=by rfl) :
  PEv X (.Call (.Name "len" p) (e::es) [] pos) (opN oLen fs):=z0t (zca (zir.or ziq) hg hm PySem.boot_len ha (he:=he) (hpl:=hpl)) (zg9 (by
 intro O F H ts t vs Q d q e k
 unfold oLen at e
 split at e
 ·cases e
  cases q with
  | cons q1 q2 =>
   cases q2
   obtain⟨a,ws,rfl,hs,hr⟩:=q1.tup
   exact .inl ⟨a,ws,rfl,.inr hs,k _ F H (Ext.refl d) (by simp[Rep,hr.length])⟩
 ·cases e
  cases q with
  | cons q1 q2 =>
   cases q2
   obtain⟨a,ws,rfl,hs,hr⟩:=q1.lst
   exact .inl ⟨a,ws,rfl,.inl (.inl hs),k _ F H (Ext.refl d) (by simp[Rep,hr.length])⟩
 ·split at e
  next hz =>
   cases e
   cases q with
   | cons q1 q2 =>
    cases q2
    exact .inr ⟨_,by rw[q1.str],by rw[zcq];exact hz,k _ F H (Ext.refl d) (by simp[Rep])⟩
  next=>cases e
 ·cases e))
theorem zy7 (hm:X.mg "max"=none) (ha:PAr X (e::es) fs) (hc:X.calm=true:=by rfl) (hg:Gl X "max":=by rfl) (he:y0a (e::es) X.env=(false,eval e X.env)::y0a es X.env:=by rfl) (hpl:(backTo pos (y0a es X.env)).any (·.1)=false:=by rfl) :
  PEv X (.Call (.Name "max" p) (e::es) [] pos) (opN oMax fs):=z0t (zca (zp6 hc) hg hm (by decide +kernel) ha (he:=he) (hpl:=hpl)) (zg9 (by
 intro O F H ts t vs Q d q e k
 unfold oMax at e
 split at e
 ·cases e
  cases q with
  | cons q1 q2 =>
   cases q2 with
   | cons q2 q3 =>
    cases q3
    exact⟨_,_,by rw[q1.int,q2.int],k _ F H (Ext.refl d) (by simp[Rep])⟩
 ·cases e))
theorem z6b (hm:X.mg "tuple"=none) (ha:PAr X (e::es) fs) (hg:Gl X "tuple":=by rfl) (he:y0a (e::es) X.env=(false,eval e X.env)::y0a es X.env:=by rfl) (hpl:(backTo pos (y0a es X.env)).any (·.1)=false:=by rfl) :
  PEv X (.Call (.Name "tuple" p) (e::es) [] pos) (opN z31 fs):=z0t (zao zgm hg hm (by decide +kernel) ha (he:=he) (hpl:=hpl)) (zg9 (by
 intro O F H ts t vs Q d q e k
 unfold z31 at e
 split at e
 ·cases e
  cases q with
  | cons q1 q2 =>
   cases q2
   obtain⟨a,ws,rfl,hs,hr⟩:=q1.tup
   refine⟨a,ws,rfl,.inr ⟨hs,k _ F H (Ext.refl d) ?_⟩⟩
   simp only[Rep]
   exact⟨a,ws,rfl,hs,hr⟩
 ·cases e
  cases q with
  | cons q1 q2 =>
   cases q2
   obtain⟨a,ws,rfl,hs,hr⟩:=q1.lst
   refine⟨a,ws,rfl,.inl ⟨.inl hs,fun l hl=>?_⟩⟩
   have x1:=Ext.laid (o:=.tup ws) d hl
   refine k _ F _ x1 ?_
   simp only[Rep]
   exact⟨l,ws,rfl,SqT.of z0e,hr.ext x1⟩
 ·cases e))
theorem zw3 (hm:X.mg "int"=none) (ha:PAr X (e::es) fs) (hg:Gl X "int":=by rfl) (he:y0a (e::es) X.env=(false,eval e X.env)::y0a es X.env:=by rfl) (hpl:(backTo pos (y0a es X.env)).any (·.1)=false:=by rfl) :
  PEv X (.Call (.Name "int" p) (e::es) [] pos) (opN oInt fs):=z0t (zao zp7 hg hm (by decide +kernel) ha (he:=he) (hpl:=hpl)) (zg9 (by
 intro O F H ts t vs Q d q e k
 unfold oInt at e
 split at e
 ·cases e
  cases q with
  | cons q1 q2 =>
   cases q2
   exact .inl ⟨_,by rw[q1.int],k _ F H (Ext.refl d) (by simp[Rep])⟩
 ·cases e
  cases q with
  | cons q1 q2 =>
   cases q2
   exact .inr ⟨_,by rw[q1.bl],k _ F H (Ext.refl d) (by simp[Rep])⟩
 ·cases e))
theorem zs2 (h:PEr X e f) (he:∀whole,isTrue e X.env whole=(do let v <- whole;standAt e.pos;holding [v] (truthy v)):=by intro _;rfl):PTt X e (tstB f):=zec (zsa h he) fun σ H Q ⟨F₀,H₀,O,F,ε,b,r,e,k⟩=>by
 simp only[tstB,y01] at e
 obtain⟨t,et,e⟩:=e
 split at e
 ·cases e
  exact⟨F₀,H₀,O,F,ε,_,r,et,fun v F1 H1 x1 rx=>⟨_,rx.bl,k F1 H1 x1⟩⟩
 ·cases e
theorem zvi {j pos'} (ha:PEr X a f):PTt X (.Compare a [.Is] [.Constant .none j pos'] pos) (tstB (op1 oIsN f)):=zec (zsb (zwj ha)) fun σ H Q ⟨F₀,H₀,O,F,ε,t,r,e,k⟩=>by
 simp only[tstB,op1,oIsN,y01] at e
 obtain⟨_,⟨x,ex,e1⟩,e⟩:=e
 cases e1
 cases e
 refine⟨F₀,H₀,O,F,ε,x,r,ex,fun v F1 H1 x1 rx=>⟨_,?_,k F1 H1 x1⟩⟩
 cases x with
 | none=>rw[rx.non];simp
 | bool b=>rw[rx.bl];simp
 | int b=>rw[rx.int];simp
 | str b=>rw[rx.str];simp
 | tuple b=>obtain⟨_,_,e,_⟩:=rx.tup;rw[e];simp
 | list b=>obtain⟨_,_,e,_⟩:=rx.lst;rw[e];simp
 | dict b=>rcases rx with rx|⟨_,_,_,z,_⟩;simp[Rep] at rx;cases z
theorem zs1 {j pos'} (ha:PEr X a f):PTt X (.Compare a [.IsNot] [.Constant .none j pos'] pos) (tstB (op1 z6d f)):=zec (zsb (zu6 ha)) fun σ H Q ⟨F₀,H₀,O,F,ε,t,r,e,k⟩=>by
 simp only[tstB,op1,z6d,y01] at e
 obtain⟨_,⟨x,ex,e1⟩,e⟩:=e
 cases e1
 cases e
 refine⟨F₀,H₀,O,F,ε,x,r,ex,fun v F1 H1 x1 rx=>⟨_,?_,k F1 H1 x1⟩⟩
 cases x with
 | none=>rw[rx.non];simp
 | bool b=>rw[rx.bl];simp
 | int b=>rw[rx.int];simp
 | str b=>rw[rx.str];simp
 | tuple b=>obtain⟨_,_,e,_⟩:=rx.tup;rw[e];simp
 | list b=>obtain⟨_,_,e,_⟩:=rx.lst;rw[e];simp
 | dict b=>rcases rx with rx|⟨_,_,_,z,_⟩;simp[Rep] at rx;cases z
theorem zmr (h:PEr X e f) (he:∀whole,isTrue e X.env whole=(do let v <- whole;standAt e.pos;holding [v] (truthy v)):=by intro _;rfl):PTt X e (tstL f):=zec (zqe h he) fun σ H Q ⟨F₀,H₀,O,F,ε,b,r,e,k⟩=>by
 simp only[tstL,y01] at e
 obtain⟨t,et,e⟩:=e
 have emp:∀{ts:List T} {vs:List V} {F1:Addr->Prop} {H1:Hp},RepL X.K F1 H1 ts vs->ts.isEmpty=vs.isEmpty:=fun {ts vs F1 H1} q=>by
  have:=q.length
  cases ts <;> cases vs <;> simp_all
 split at e
 ·cases e
  refine⟨F₀,H₀,O,F,ε,_,r,et,fun v F1 H1 x1 rx=>?_⟩
  obtain⟨a,vs,rfl,hs,hr⟩:=rx.lst
  exact⟨_,.inl ⟨vs,.inl hs,by rw[emp hr]⟩,k F1 H1 x1⟩
 ·cases e
  refine⟨F₀,H₀,O,F,ε,_,r,et,fun v F1 H1 x1 rx=>?_⟩
  obtain⟨a,vs,rfl,hs,hr⟩:=rx.tup
  exact⟨_,.inr (.inl ⟨vs,hs,by rw[emp hr]⟩),k F1 H1 x1⟩
 ·cases e
theorem zvh (h:PTt X e ft):PTt X (.UnaryOp .Not e pos) (notT ft):=zec (zwa h) fun σ H Q ⟨F₀,H₀,O,F,ε,b,r,e,k⟩=>by
 simp only[notT,y07] at e
 obtain⟨c,ec,rfl⟩:=e
 exact⟨F₀,H₀,O,F,ε,c,r,ec,fun F1 H1 x1=>k F1 H1 x1⟩
theorem zmn (h:PTt X e ft):PWt X (.BoolOp .And [e] pos) ft:=zne h
theorem zgs (h:PTt X e ft):PWt X (.BoolOp .Or [e] pos) ft:=zw7 h
theorem zt9 (h:PTt X a ft) (h2:PWt X (.BoolOp .And (b::es) pos) gt):PWt X (.BoolOp .And (a::b::es) pos) (andT ft gt):=zt4 (zs9 h h2) fun σ H Q ⟨F₀,H₀,O,F,ε,b,r,e,k⟩=>by
 simp only[andT,y01] at e
 obtain⟨c,ec,e⟩:=e
 refine⟨F₀,H₀,O,F,ε,c,r,ec,fun F1 H1 x1=>?_⟩
 cases c with
 | true=>exact iteT ⟨F₀,H₀,O,F1,ε,b,r.ext x1,by simpa using e,fun F2 H2 x2=>k F2 H2 (x1.trans x2)⟩
 | false =>
  have:b=false:=by simpa using e.symm
  subst this
  exact iteF (k F1 H1 x1)
theorem w_or (h:PTt X a ft) (h2:PWt X (.BoolOp .Or (b::es) pos) gt):PWt X (.BoolOp .Or (a::b::es) pos) (orT ft gt):=zt4 (zy9 h h2) fun σ H Q ⟨F₀,H₀,O,F,ε,b,r,e,k⟩=>by
 simp only[orT,y01] at e
 obtain⟨c,ec,e⟩:=e
 refine⟨F₀,H₀,O,F,ε,c,r,ec,fun F1 H1 x1=>?_⟩
 cases c with
 | true =>
  have:b=true:=by simpa using e.symm
  subst this
  exact iteT (k F1 H1 x1)
 | false=>exact iteF ⟨F₀,H₀,O,F1,ε,b,r.ext x1,by simpa using e,fun F2 H2 x2=>k F2 H2 (x1.trans x2)⟩
theorem w_t (h:PWt X e ft):PTt X e ft:=h.pt
end
end
section
variable [Tbl]
noncomputable def spT (K:y00) (n:Nat) (d:List T->Option T):Sp:=fun vs H Q _=>vs.length=n/\∃F ts t,Dom F H/\RepL K F H ts vs/\d ts=some t/\∀v F' H',Ext F H F' H'->Rep K F' H' t v->Q v H'
section
variable {X:Cx} {k n:Nat} {fa:Addr} {fd:y0b} {ps:List Str} {d:List T->Option T} {x:Str} {p pos:Pos} {e:Expr} {es:List Expr} {fs:List Fe}
theorem zw6 (F:FnOk X.prog X.w X.K X.mg X.base CX0 k fa fd ps (spT X.K n d)) (hr:Room k X.A) (hg:Gl X x) (hm:X.mg x=some (.ref fa)) (hk:y08 X.K (.ref fa)=true) (hb:z3d X.K fd ps [])
  (ha:PAv X (e::es) fs) (hn:fs.length=n:=by rfl) (hdb:(x == ("__debug__":Str))=false:=by decide) (he:y0a (e::es) X.env=(false,eval e X.env)::y0a es X.env:=by rfl) (hpl:(backTo pos (y0a es X.env)).any (·.1)=false:=by rfl) :
  PEv X (.Call (.Name x p) (e::es) [] pos) (opN d fs):=z0t (zg6 F hr hg hm hk hb .nil zg8 ha hdb he hpl) fun σ H Q ⟨F₀,H₀,O,F,ε,t,r,e,k⟩=>by
 simp only[opN,y01] at e
 obtain⟨ts,et,ed⟩:=e
 have hl:∀(gs:List Fe) (us:List T),args gs ε=some us->us.length=gs.length:=by
  intro gs
  induction gs with
  | nil=>intro us e;cases e;rfl
  | cons g gs ih =>
   intro us e
   simp only[args,y01,y07] at e
   obtain⟨t,_,vs,ev,rfl⟩:=e
   simp[ih vs ev]
 refine⟨F₀,H₀,O,F,ε,ts,r,et,fun vs F1 H1 x1 q=>⟨?_,F1,ts,t,x1.dom,by simpa using q,ed,fun v F' H' x2 q2=>k v F' H' (x1.trans x2) q2⟩⟩
 rw[y22,<- q.length,hl fs ts et,hn]
end
section
variable {P:y0r} {w:World} {K:y00} {mg:Str->Option Value} {base:Heap}
theorem zbc {F:Addr->Prop} {H:Hp} {ts:List T} {vs:List V} {N:List Str} (dom:Dom F H) (q:RepL K F H ts vs) (n:Nat) :
  RelE K F ⟨H,0⟩ (fun a=>H a=none) F H ((ts.map fun t=>some (.imm t))++y0h n none) (vs.map some++y0h n none):=by
 have imm:∀(i:Nat) (s:Sl),((ts.map fun t=>some (Sl.imm t))++y0h n none)[i]?=some (some s)->∃t,s=.imm t/\ts[i]?=some t:=by
  intro i s e
  by_cases hi:i<ts.length
  ·rw[y1q (by simpa using hi),y15] at e
   rw[y0v hi] at e ⊢
   simp at e
   exact⟨_,e.symm,rfl⟩
  ·rw[y1n (by simpa using hi),List.getElem?_replicate] at e
   split at e <;> cases e
 refine⟨by simp[q.length],fun i s e=>?_,fun i j s u v w hij e1 e2 o1=>?_,Ext.refl dom,fun _ h=>h,fun _ h=>h⟩
 ·obtain⟨t,rfl,ht⟩:=imm i s e
  obtain⟨v,hv,rv⟩:=q.get ht
  refine⟨v,?_,rv⟩
  rw[y1q (by have:=(y0l.mp hv).1;simpa using this),y15,hv]
  rfl
 ·obtain⟨t,rfl,_⟩:=imm i s e1
  cases o1
theorem zsw {x qual:Str} {st:Stmt} {f:Addr} {fd:y0b} {N ps:List Str} {k:Nat} {b:Fs} (F:Fun K x qual st f fd) (S:FnScope N ps (z01 st))
  (hb:∀(cdv:Value) (A:Around) (outer:List Env) (s:y04) (H:Hp) (E:XK),Room k (A.deeper (envOfC qual (z01 st) s.heap.objs.size f cdv)) ->
   PBt (cxOf CX0 P w K mg base N qual (z01 st) f cdv A outer s H E).nox (z0o st) b) :
  FnOk P w K mg base CX0 (k+1) f fd ps (spT K ps.length (runF b N.length)):=by
 refine F.ok S (fun vs H Q E h=>h.1) fun cdv A outer s H vs Q E hr h=>⟨_,hb cdv A outer s H E hr,?_⟩
 obtain⟨hl,F,ts,t,dom,q,e,kq⟩:=h
 simp only[runF,y01] at e
 obtain⟨o,eo,e⟩:=e
 refine⟨F,⟨H,0⟩,fun a=>H a=none,F,_,o,?_,eo,?_⟩
 ·have:=zbc (N:=N) dom q (N.length - ts.length)
  unfold L2.start
  rw[q.length] at this ⊢
  exact this
 ·cases o with
  | rt t' =>
   cases e
   exact fun v F' H' x q=>kq v F' H' x q
  | nx ε' =>
   cases e
   exact fun σ' F' H' _ r=>kq _ F' H' r.ent (by simp[Rep])
  | bk _=>cases e
  | ct _=>cases e
  | rtm _ _=>cases e
  | rto _=>cases e
end
end
section
variable [Tbl]
noncomputable def clos (env:Env):List (Str×NameKind)->List (Str×Addr)->List (Str×Addr)
 | [],cs=>cs
 | x::r,cs=>if x.2 == .free then clos env r ((x.1,(env.cells.lookup x.1).getD 0)::cs) else clos env r cs
theorem z7i {scope:Scope} {env:Env} (h:∀x∈scope.names,x.2=.free->∃c,env.cells.lookup x.1=some c):closureFor scope env=pure (clos env scope.names []):=by
 have go:∀(l:List (Str×NameKind)) (cs:List (Str×Addr)),(∀x∈l,x.2=.free->∃c,env.cells.lookup x.1=some c) ->
   (forIn l cs (fun x r=>(if (x.2 == NameKind.free)=true then do let a <- cellOf env x.1;pure (ForInStep.yield ((x.1,a)::r)) else pure (ForInStep.yield r)):_->_->Sem (ForInStep (List (Str×Addr)))):Sem (List (Str×Addr)))=pure (clos env l cs):=by
  intro l
  induction l with
  | nil=>intro cs _;rfl
  | cons x r ih =>
   intro cs hl
   rw[List.forIn_cons]
   have hr:=fun y hy=>hl y (y05 _ hy)
   by_cases k:x.2=.free
   ·obtain⟨c,hc⟩:=hl x y0f k
    have e1:(x.2 == NameKind.free)=true:=by simp[k]
    simp only[e1,if_true,cellOf,hc,clos,Option.getD_some]
    exact ih _ hr
   ·have e1:(x.2 == NameKind.free)=false:=by simpa using k
    simp only[e1,y1w,if_false,clos]
    exact ih _ hr
 have:=go scope.names [] h
 simp only[closureFor]
 exact congrArg (fun m=>m >>= fun cs=>pure cs) this
theorem z8l {env:Env}:∀{l:List (Str×NameKind)} {cs:List (Str×Addr)},(∀x∈l,x.2=.free->∃c,env.cells.lookup x.1=some c)->(∀x c,cs.lookup x=some c->env.cells.lookup x=some c)->∀x c,(clos env l cs).lookup x=some c->env.cells.lookup x=some c
 | [],cs,_,h,x,c,e=>h x c e
 | y::r,cs,hl,h,x,c,e=>by
  unfold clos at e
  have hr:=fun z hz=>hl z (y05 _ hz)
  split at e
  next k =>
   refine z8l hr (fun x c e=>?_) x c e
   rw[y1g] at e
   split at e
   next hb =>
    obtain⟨c',hc⟩:=hl y y0f (by simpa using k)
    have:x=y.1:=by simpa using hb
    subst this
    rw[hc] at e ⊢
    simpa using e
   next=>exact h x c e
  next=>exact z8l hr h x c e
theorem z91 {env:Env}:∀{l:List (Str×NameKind)} {cs:List (Str×Addr)} {x:Str},((∃y∈l,y.2=.free/\y.1=x)\/∃c,cs.lookup x=some c)->∃c,(clos env l cs).lookup x=some c
 | [],cs,x,h=>by
  rcases h with ⟨y,hy,_⟩|h
  ·cases hy
  ·exact h
 | y::r,cs,x,h=>by
  unfold clos
  split
  next k =>
   refine z91 ?_
   rcases h with ⟨z,hz,k',e⟩|⟨c,h⟩
   ·rcases y09.mp hz with rfl|hz
    ·refine .inr ?_
     subst e
     rw[y1g]
     simp
    ·exact .inl ⟨z,hz,k',e⟩
   ·refine .inr ?_
    rw[y1g]
    split
    ·exact⟨_,rfl⟩
    ·exact⟨c,h⟩
  next k =>
   refine z91 ?_
   rcases h with ⟨z,hz,k',e⟩|h
   ·rcases y09.mp hz with rfl|hz
    ·exact absurd (by simpa using k') k
    ·exact .inl ⟨z,hz,k',e⟩
   ·exact .inr h
noncomputable def z48 (X:Cx) (N':List Str) (scope:Scope) (cl:List (Str×Addr)) (C:Addr) (s₀:y04) (H₀:Hp) (fp:List Addr) (pn:List (Addr×Obj)):Cx where
 prog:=X.prog
 w:=X.w
 K:=X.K
 mg:=X.mg
 base:=X.base
 A:=X.A
 N:=N'
 s₀:=s₀
 H₀:=H₀
 env:=compEnvC scope cl C X.env
 outer:=X.stack
 stack:=X.stack
 ex:=fp
 fn:=fun _=>false
 calm:=X.calm
 pn:=pn
 xe:=fun _ _=>False
noncomputable def PTs (X:Cx) (ifs:List Expr) (cc:Ft):Prop:=∀(pins:List (Addr×Obj)) (s:y04) (σ:L2.St) (H:Hp) (Q:Bool->Hp->Prop),L2.Inv X pins σ H s->tT X.K cc σ H Q ->
 y0u (model X.prog X.w) X.A (forIn ifs true fun c r=>if r=true then do let ok <- isTrue c X.env (eval c X.env);pure (ForInStep.yield ok) else pure (ForInStep.yield r)) (TP X pins σ Q) X.xe s
theorem zgx {X:Cx}:PTs X [] (cstT true):=fun pins s σ H Q I ⟨F₀,H₀,O,F,ε,b,r,e,k⟩=>by
 cases e
 exact wpAny_tests_nil ⟨H,I,k F H (Ext.refl r.dom)⟩
theorem zgw {X:Cx} {c:Expr} {cc:Ft} (h:PTt X c cc):PTs X [c] cc:=fun pins s σ H Q I q=>wpAny_tests_one (h pins s σ H Q I q)
section
variable {prog:y0r} {w:World} {A:Around} {R:Result->y04->Prop} {s:y04}
theorem zij {elt target iter:Expr} {ifs:List Expr} {scope:Scope} {pos:Pos} {it acc:Value} {env:Env} (I:Nat->y04->Prop)
  (turn:∀n s,I n s->y0u (model prog w) A (pyNext it) (fun r s₁=>match r with
   | none=>R (.ok .next) s₁
   | some v=>y0u (model prog w) A (letOwnedTupleGo target it v) (fun _ s₁'=>y0u (model prog w) A (assign target env v) (fun _ s₂ =>
     y0u (model prog w) A (forIn ifs true fun c r=>if r=true then do let ok <- isTrue c env (eval c env);pure (ForInStep.yield ok) else pure (ForInStep.yield r)) (fun ok s₃ =>
      if ok=true then y0u (model prog w) A (eval elt env) (fun x s₄ =>
       y0u (model prog w) A (call (.builtin "list.append") [acc,x]) (fun _ s₅=>∃m,m<n/\I m s₅) (fun _ _=>False) s₄) (fun _ _=>False) s₃
      else ∃m,m<n/\I m s₃) (fun _ _=>False) s₂) (fun _ _=>False) s₁') (fun _ _=>False) s₁) (fun _ _=>False) s)
  (n:Nat) (h:I n s):codeAny (model prog w) A (.compLoop (.ListComp elt [⟨target,iter,ifs,0⟩] scope pos) 0 it acc env) R s:=by
 refine codeAny_loop rfl I (fun n s hI=>?_) n h
 show y0u _ A ((compTurn (.ListComp elt [⟨target,iter,ifs,0⟩] scope pos) 0 it acc env).onRaise (fun x=>do noteFrame x env;theTreesLotGoes x)) _ _ s
 refine wpAny_noted ?_
 rw[compTurn_list]
 refine y02 (wpAny_standAt (y02 (y1e (turn n s hI) (fun r s₁ h₁=>?_) fun _ _ h'=>h'.elim)))
 cases r with
 | none=>exact y06 h₁
 | some v =>
  refine y02 (y1e h₁ (fun _ s₁' h₁'=>?_) fun _ _ h'=>h'.elim)
  refine y02 (y1e h₁' (fun _ s₂ h₂=>y02 (y1e h₂ (fun ok s₃ h₃=>?_) fun _ _ h'=>h'.elim)) fun _ _ h'=>h'.elim)
  cases ok with
  | false=>exact y06 ⟨rfl,h₃⟩
  | true =>
   exact y02 (y02 (y1e h₃ (fun x s₄ h₄=>y02 (y1e h₄ (fun _ s₅ h₅=>y06 (y06 ⟨rfl,h₅⟩)) fun _ _ h'=>h'.elim)) fun _ _ h'=>h'.elim))
end
end
section
variable [Tbl]
theorem z9i {env:Env} {k:NameKind}:∀{names:List (Str×NameKind)} {x:Str},names.lookup x=some k->∃k',(names.map fun (n,k)=>if (k == NameKind.free && env.scope.kind == .function && env.kindOf n == some .cell) then (n,NameKind.cell) else (n,k)).lookup x=some k'/\(k'=k\/(k=.free/\k'=.cell))
  | [],x,h=>by simp at h
  | (n,j)::r,x,h=>by
    have ih:=@z9i env k r x
    show ∃k',y1l x ((if (j == NameKind.free && env.scope.kind == .function && env.kindOf n == some .cell)=true then (n,NameKind.cell) else (n,j))::_)=some k'/\_
    cases hx:x == n with
    | true =>
      simp only[y1g,hx] at h
      cases h
      by_cases hc:(k == NameKind.free && env.scope.kind == .function && env.kindOf n == some .cell)=true
      · rw[if_pos hc]
        refine⟨.cell,by simp[y1g,hx],.inr ⟨?_,rfl⟩⟩
        simp only[y1c] at hc
        simpa using hc.1.1
      · rw[if_neg hc]
        exact⟨k,by simp[y1g,hx],.inl rfl⟩
    | false =>
      simp only[y1g,hx] at h
      obtain⟨k',h1,h2⟩:=ih h
      refine⟨k',?_,h2⟩
      by_cases hc:(j == NameKind.free && env.scope.kind == .function && env.kindOf n == some .cell)=true
      · rw[if_pos hc];simp only[y1g,hx];exact h1
      · rw[if_neg hc];simp only[y1g,hx];exact h1
theorem z4i {names:List (Str×NameKind)} {x:Str} {k:NameKind} (h:names.lookup x=some k):∃y∈names,y.2=k/\y.1=x:=by
 induction names with
 | nil=>simp at h
 | cons y r ih =>
  rw[y1g] at h
  split at h
  next hb =>
   cases h
   exact⟨y,y0f,rfl,by simpa using (beq_iff_eq.mp hb).symm⟩
  next =>
   obtain⟨z,hz,h1,h2⟩:=ih h
   exact⟨z,y05 _ hz,h1,h2⟩
theorem zha {scope:Scope} {env:Env} (hcell:∀y∈scope.names,y.2≠.cell) {x:Str} (h:(relabel scope env).names.lookup x=some .cell\/(relabel scope env).names.lookup x=some .free):∃y∈scope.names,y.2=.free/\y.1=x:=by
 have go:∀{k:NameKind},(relabel scope env).names.lookup x=some k->(k=.cell\/k=.free)->∃y∈scope.names,y.2=.free/\y.1=x:=fun {k} e hk=>by
  obtain⟨y,hy,h1,h2⟩:=z4i e
  obtain⟨⟨n,j⟩,hz,e2⟩:=y0n.mp (show y∈scope.names.map _ from hy)
  by_cases hc:(j == NameKind.free && env.scope.kind == .function && env.kindOf n == some .cell)=true
  ·have e3:(n,NameKind.cell)=y:=by
    have e4:(if (j == NameKind.free && env.scope.kind == .function && env.kindOf n == some .cell)=true then (n,NameKind.cell) else (n,j))=y:=e2
    rwa [if_pos hc] at e4
   subst e3
   simp only[y1c] at hc
   exact⟨(n,j),hz,by simpa using hc.1.1,h2⟩
  ·have e3:(n,j)=y:=by
    have e4:(if (j == NameKind.free && env.scope.kind == .function && env.kindOf n == some .cell)=true then (n,NameKind.cell) else (n,j))=y:=e2
    rwa [if_neg hc] at e4
   subst e3
   rcases hk with rfl|rfl
   ·exact absurd h1 (hcell _ hz)
   ·exact⟨(n,j),hz,h1,h2⟩
 rcases h with h|h
 ·exact go h (.inl rfl)
 ·exact go h (.inr rfl)
theorem RelE.other {K:y00} {F₀ O F:Addr->Prop} {E:En} {H:Hp} {ε:Ev} {σ:L2.St} {a:Addr} {xs ys:List V} (r:RelE K F₀ E O F H ε σ) (hn:¬F a) (ho:¬O a) (h0:E.h a=none) (ha:H a=some (.lst xs)) :
  Kp K F H F (upd H a (.lst ys))/\RelE K F₀ E O F (upd H a (.lst ys)) ε σ:=by
 have hm:HoM (.lst xs):=.inl ⟨_,rfl⟩
 have kp:Kp K F H F (upd H a (.lst ys)):=zo4 hn ha hm
 have keep:∀(u:Sl) (w:V),z1y K E O F H u w->z1y K E O F (upd H a (.lst ys)) u w/\fpS (upd H a (.lst ys)) u w=fpS H u w:=by
  intro u w ru
  refine ru.keep kp (fun b hb=>z0c ?_) (fun _ _ f=>f) fun _ _ o=>o
  rintro rfl
  cases ou:u.isOwn with
  | true=>exact ho ((ru.held hb).2.1 ou)
  | false=>exact (ru.held hb).2.2 ou h0
 refine⟨kp,⟨r.len,fun j u e=>?_,fun i j s u v w hij e1 e2 o1 o2 h1 h2=>?_,zl3 r.ent h0 hn ha hm,r.o0,fun b e=>r.fr b ?_⟩⟩
 ·obtain⟨v,h1,h2⟩:=r.val j u e
  exact⟨v,h1,(keep u v h2).1⟩
 ·obtain⟨v',h1',r1⟩:=r.val i s e1
  obtain⟨w',h2',r2⟩:=r.val j u e2
  rw[h1] at h1'
  rw[h2] at h2'
  cases h1'
  cases h2'
  rw[(keep s v r1).2,(keep u w r2).2]
  exact r.ne i j s u v w hij e1 e2 o1 o2 h1 h2
 ·by_cases nb:b=a
  ·subst nb
   rw[z0e] at e
   cases e
  ·rwa [z0c nb] at e
def zrl (n:Nat) (caps:List Nat) (σ:L2.St):L2.St:=y0h n none++caps.map fun i=>(σ[i]?).join
theorem join_some {α:Type} {o:Option (Option α)} {x:α} (h:o.join=some x):o=some (some x):=by
 cases o with
 | none=>cases h
 | some o=>exact congrArg some h
theorem zbm {α:Type} {n:Nat} {caps:List Nat} {l:List (Option α)} {i:Nat} {x:α} (h:(y0h n none++caps.map fun i=>(l[i]?).join)[i]?=some (some x)):∃j,n<=i/\caps[i - n]?=some j/\l[j]?=some (some x):=by
 by_cases hi:i<n
 ·rw[y1q (by simpa using hi),List.getElem?_replicate] at h
  rw[if_pos hi] at h
  cases h
 ·rw[y1n (by simpa using hi),List.length_replicate,y15] at h
  cases e:caps[i - n]? with
  | none =>
   rw[e] at h
   cases h
  | some j =>
   rw[e] at h
   exact⟨j,by omega,rfl,join_some (y2i h)⟩
theorem zut {α:Type} {n:Nat} {caps:List Nat} {l:List (Option α)} {i j:Nat} {x:α} (hi:n<=i) (hc:caps[i - n]?=some j) (h:l[j]?=some (some x)):(y0h n none++caps.map fun i=>(l[i]?).join)[i]?=some (some x):=by
 rw[y1n (by simpa using hi),List.length_replicate,y15,hc]
 simp[h]
theorem RelE.cap {K:y00} {F₀ O F:Addr->Prop} {E:En} {H:Hp} {ε:Ev} {σ:L2.St} {D:Addr} (r:RelE K F₀ E O F H ε σ) (n:Nat) {caps:List Nat} (nd:caps.Nodup) (hD:H D=none) :
  RelE K F₀ E (fun a=>O a/\a≠D) F (upd H D (.lst [])) (z4f n caps ε) (zrl n caps σ):=by
 have x:=Ext.laid (o:=.lst []) r.dom hD
 have keep:∀(u:Sl) (w:V),z1y K E O F H u w->z1y K E (fun a=>O a/\a≠D) F (upd H D (.lst [])) u w/\fpS (upd H D (.lst [])) u w=fpS H u w:=by
  intro u w ru
  have nb:∀b∈fpS H u w,b≠D:=fun b hb z=>by
   obtain⟨o,e,_⟩:=ru.at hb
   rw[z,hD] at e
   cases e
  exact ru.keep x.kp (fun b hb=>z0c (nb b hb)) (fun _ _ f=>f) fun b hb o=>⟨o,nb b hb⟩
 refine⟨by simp[z4f,zrl],fun i s e=>?_,fun i j s u v w hij e1 e2 o1 o2 h1 h2=>?_,r.ent.trans x,fun a h=>r.o0 a h.1,fun a h=>?_⟩
 ·obtain⟨j,hn,hc,e'⟩:=zbm e
  obtain⟨v,h1,h2⟩:=r.val j s e'
  exact⟨v,zut hn hc h1,(keep s v h2).1⟩
 ·obtain⟨i',hi,ci,e1'⟩:=zbm e1
  obtain⟨j',hj,cj,e2'⟩:=zbm e2
  obtain⟨i2,_,ci2,h1'⟩:=zbm (l:=σ) h1
  obtain⟨j2,_,cj2,h2'⟩:=zbm (l:=σ) h2
  rw[ci] at ci2
  rw[cj] at cj2
  cases ci2
  cases cj2
  obtain⟨v',q1,r1⟩:=r.val i' s e1'
  obtain⟨w',q2,r2⟩:=r.val j' u e2'
  rw[h1'] at q1
  rw[h2'] at q2
  cases q1
  cases q2
  rw[(keep s v r1).2,(keep u w r2).2]
  refine r.ne i' j' s u v w (fun z=>?_) e1' e2' o1 o2 h1' h2'
  subst z
  obtain⟨l1,m1⟩:=y0l.mp ci
  obtain⟨l2,m2⟩:=y0l.mp cj
  have ne:i - n≠j - n:=by omega
  rcases Nat.lt_or_gt_of_ne ne with q|q
  ·exact (List.pairwise_iff_getElem.mp nd _ _ l1 l2 q) (m1.trans m2.symm)
  ·exact (List.pairwise_iff_getElem.mp nd _ _ l2 l1 q) (m2.trans m1.symm)
 ·have nd:a≠D:=by
   rintro rfl
   rw[z0e] at h
   cases h
  rw[z0c nd] at h
  exact⟨r.fr a h,nd⟩
end
section
variable [Tbl]
structure CompOk (X:Cx) (scope:Scope) (own:List Str) (caps:List (Nat×Str)):Prop where
 kind:scope.kind=.function
 names:∀y∈scope.names,y.2=.local->scope.names.lookup y.1=some .local
 cell:∀y∈scope.names,y.2≠.cell
 free:∀y∈scope.names,y.2=.free->X.env.kindOf y.1=some .cell\/X.env.kindOf y.1=some .free
 cap:∀p∈caps,X.N[p.1]?=some p.2/\scope.names.lookup p.2=some .free
 nd:(caps.map (·.1)).Nodup
 calm:X.calm=true
section
variable {X:Cx} {tg iter elt:Expr} {ifs:List Expr} {scope:Scope} {it:Fi} {gg:Fg} {cc:Ft} {ee:Fe} {pos:Pos} {own:List Str} {caps:List (Nat×Str)}
theorem zoz {pins:List (Addr×Obj)} {σ:L2.St} {H2:Hp} {s2:y04} {fp:List Addr} (S:CompOk X scope own caps) (I2:L2.Inv X pins σ H2 s2) (f2:∀b∈fp,FpOk X pins H2 b) (hfp:∀b∈fp,b<s2.heap.objs.size) (N':List Str) :
  (z48 X N' scope (clos X.env scope.names []) (s2.heap.push { cls:=.type "list",data:=.seq ([]:List Value).toArray }).objs.size { s2 with heap:=s2.heap.push { cls:=.type "list",data:=.seq ([]:List Value).toArray } } (upd H2 s2.heap.objs.size (.lst [])) fp (X.pn++pins)).Ok:=by
 have hcl:∀x∈scope.names,x.2=.free->∃c,X.env.cells.lookup x.1=some c:=fun x hx hk=>I2.ok.has x.1 (S.free x hx hk)
 have cf:∀x c,(clos X.env scope.names []).lookup x=some c->X.env.cells.lookup x=some c:=z8l hcl (fun x c e=>by simp at e)
 have I3:=I2.lnew (its:=[]) (ys:=[]) (t':=s2.toks) .nil (y28 _)
 have sz:(s2.heap.push { cls:=.type "list",data:=.seq ([]:List Value).toArray }).objs.size=s2.heap.objs.size+1:=y18 ..
 refine⟨I2.ok.mod,S.kind,I2.ok.glob,I2.ok.blt,y0p _,fun x y c e1 e2=>I2.ok.inj x y c (cf x c e1) (cf y c e2),fun x hx=>?_,fun x c h=>(by cases h),I2.ok.hd,I2.ok.frames,.inl rfl,fun b hb=>⟨?_,fun x c e=>(f2 b hb).2.2.2.2.1 x c (cf x c e)⟩,fun b o e=>?_,?_,fun b o e hb=>?_,fun b hb hf=>?_,I3.stack,I3.stkFree⟩
 ·exact z91 (.inl (zha S.cell hx))
 ·show b≠(s2.heap.push { cls:=.type "list",data:=.seq ([]:List Value).toArray }).objs.size
  have h:=hfp b hb
  rw[sz]
  exact y0y (Nat.lt_succ_of_lt h)
 ·obtain⟨h1,h2⟩:=I3.bs b o e
  exact⟨h1,h2⟩
 ·have h1:=y1s I2.ok.bsz I2.sz
  show X.base.objs.size<=(s2.heap.push { cls:=.type "list",data:=.seq ([]:List Value).toArray }).objs.size
  omega
 ·rcases (f2 b hb).2.2.2.1 with q|q
  ·exact I2.ok.noex b o e q
  ·exact absurd (y0x (y0c (I2.ok.bs b o e).1) q) (Nat.lt_irrefl _)
 ·rcases y09.mp (I2.stkSub b hf) with q|q
  ·exact (f2 b hb).2.1 q
  ·exact (f2 b hb).2.2.1 q
theorem zrj {pins:List (Addr×Obj)} {σ:L2.St} {H2:Hp} {s2:y04} {fp:List Addr} (S:CompOk X scope own caps) (I2:L2.Inv X pins σ H2 s2) (f2:∀b∈fp,FpOk X pins H2 b) (hfp:∀b∈fp,b<s2.heap.objs.size) {h₁:Heap} {m:Str->Option Value} {tk:Nat}
  (hns:h₁.Ns (s2.heap.push { cls:=.type "list",data:=.seq ([]:List Value).toArray }).objs.size m) (keep:∀b u,(s2.heap.push { cls:=.type "list",data:=.seq ([]:List Value).toArray }).get? b=some u->h₁.get? b=some u) :
  L2.Inv (z48 X (own++caps.map (·.2)) scope (clos X.env scope.names []) (s2.heap.push { cls:=.type "list",data:=.seq ([]:List Value).toArray }).objs.size { s2 with heap:=s2.heap.push { cls:=.type "list",data:=.seq ([]:List Value).toArray } } (upd H2 s2.heap.objs.size (.lst [])) fp (X.pn++pins)) []
   (zrl own.length (caps.map (·.1)) σ) (upd H2 s2.heap.objs.size (.lst [])) { s2 with heap:=h₁,toks:=tk }:=by
 have hcl:∀x∈scope.names,x.2=.free->∃c,X.env.cells.lookup x.1=some c:=fun x hx hk=>I2.ok.has x.1 (S.free x hx hk)
 have cf:∀x c,(clos X.env scope.names []).lookup x=some c->X.env.cells.lookup x=some c:=z8l hcl (fun x c e=>by simp at e)
 have I3:=I2.lnew (its:=[]) (ys:=[]) (t':=s2.toks) .nil (y28 _)
 refine⟨zoz S I2 f2 hfp _,rfl,I2.bare,Un.kept keep,⟨m,hns,fun i x v h1 h2 hv=>?_⟩,fun x c e=>?_,?_,fun x c e=>I3.freeC x c (cf x c e),fun p hp=>?_,I3.hok.kept keep,by simp[zrl,z48]⟩
 ·obtain⟨j,hn,hc,hj⟩:=zbm (l:=σ) h2
  have hx:(caps.map (·.2))[i - own.length]?=some x:=by
   have:(own++caps.map (·.2))[i]?=some x:=h1
   rwa [y1n hn] at this
  rw[y15] at hc hx
  cases ep:caps[i - own.length]? with
  | none=>rw[ep] at hc;cases hc
  | some p =>
   rw[ep] at hc hx
   cases hc
   cases hx
   obtain⟨hN,hf⟩:=S.cap p (y1x ep)
   obtain⟨y,hy,k1,k2⟩:=z4i hf
   have hk:=S.free y hy k1
   rw[k2] at hk
   obtain⟨m3,hn3,hl3⟩:=I3.loc
   have vis:Vis X.env.scope p.2:=by
    rcases hk with hk|hk
    ·exact .inr (.inl hk)
    ·exact .inr (.inr hk)
   obtain⟨u,ru,lu⟩:=hl3 p.1 p.2 v hN hj vis
   refine⟨u,ru,.inr ⟨?_,?_⟩⟩
   ·obtain⟨k',e1,e2⟩:=z9i (env:=X.env) hf
    rcases e2 with rfl|⟨_,rfl⟩
    ·exact .inr e1
    ·exact .inl e1
   ·rcases lu with ⟨q,_⟩|⟨_,c,hc,hcell⟩
    ·rcases hk with hk|hk
     ·rw[hk] at q;cases q
     ·rw[hk] at q;cases q
    ·obtain⟨c',hc'⟩:=z91 (env:=X.env) (l:=scope.names) (cs:=[]) (x:=p.2) (.inl ⟨y,hy,k1,k2⟩)
     have:=cf _ _ hc'
     rw[hc] at this
     cases this
     obtain⟨oc,ho,hd⟩:=hcell
     exact⟨c,hc',oc,keep _ _ ho,hd⟩
 ·obtain⟨v,oc,ho,hd⟩:=I3.cell x c (cf x c e)
  exact⟨v,oc,keep _ _ ho,hd⟩
 ·exact I3.hok.fresh (y0p _)
 ·have hp':p∈X.pn++pins:=by simpa [z48] using hp
  obtain⟨h1,h2,h3,h4,h5⟩:=I3.pin p hp'
  refine⟨keep _ _ h1,h2,y0y (y0c h1),fun z=>?_,h5⟩
  rcases y09.mp (I2.stkSub p.1 z) with q|q
  ·exact h3 q
  ·exact h4 q
theorem zm9 {pins:List (Addr×Obj)} {σ σ':L2.St} {H2 H':Hp} {s2 s':y04} {fp:List Addr} {N':List Str} (I2:L2.Inv X pins σ H2 s2) (f2:∀b∈fp,FpOk X pins H2 b)
  (J:L2.Inv (z48 X N' scope (clos X.env scope.names []) (s2.heap.push { cls:=.type "list",data:=.seq ([]:List Value).toArray }).objs.size { s2 with heap:=s2.heap.push { cls:=.type "list",data:=.seq ([]:List Value).toArray } } (upd H2 s2.heap.objs.size (.lst [])) fp (X.pn++pins)) [] σ' H' s')
  {h':Heap} (sb:Heap.SameBut (s2.heap.push { cls:=.type "list",data:=.seq ([]:List Value).toArray }).objs.size s'.heap h'):L2.Inv X pins σ H' { s' with heap:=h' }:=by
 have I3:=I2.lnew (its:=[]) (ys:=[]) (t':=s2.toks) .nil (y28 _)
 have u:=J.base
 have free:H' (s2.heap.push { cls:=.type "list",data:=.seq ([]:List Value).toArray }).objs.size=none:=J.free
 have old:∀b o,(s2.heap.push { cls:=.type "list",data:=.seq ([]:List Value).toArray }).get? b=some o->b≠(s2.heap.push { cls:=.type "list",data:=.seq ([]:List Value).toArray }).objs.size:=fun b o e=>y0y (y0c e)
 have eqh:∀b,b≠(s2.heap.push { cls:=.type "list",data:=.seq ([]:List Value).toArray }).objs.size->∀o,s'.heap.get? b=some o->h'.get? b=some o:=fun b hb o e=>sb.extBut b o hb e
 have u2:Un (frs X.stack) fp (upd H2 s2.heap.objs.size (.lst [])) H' (s2.heap.push { cls:=.type "list",data:=.seq ([]:List Value).toArray }) h':=by
  refine⟨fun b o e n hf hx=>eqh b (old b o e) _ (u.keep b o e n hf hx),fun b o e n hf hx=>?_,u.free,fun b o e hx=>?_,u.tups,u.frzs,u.tbls⟩
  ·obtain⟨sl,q⟩:=u.slot b o e n hf hx
   exact⟨sl,eqh b (old b o e) _ q⟩
  ·obtain⟨o',q⟩:=u.there b o e hx
   exact⟨o',eqh b (old b o e) _ q⟩
 have hok:HOk X.prog X.w H' h':=fun b o e=>by
  refine (J.hok b o e).stay (fun c v hc q=>eqh c (fun z=>?_) v q) (fun _ q=>q) fun _ _ q=>q
  rcases hc with rfl|hc
  ·rw[z,free] at e
   cases e
  ·rw[z,free] at hc
   cases hc
 have hos:=J.os
 have hbare:=J.bare
 obtain⟨hh,g,d,t,os⟩:=s'
 obtain rfl:os=s2.os:=hos
 have fin:=I3.call (h':=h') (g':=g) (d':=d) (t':=t) (ch:=fp) u2 hok hbare fun b hb=>⟨(f2 b hb).2.2.2.1,(f2 b hb).2.1,(f2 b hb).2.2.2.2.1,(f2 b hb).2.2.2.2.2⟩
 exact fin
theorem zp0 {X':Cx} {R:Result->y04->Prop} {J:It} {fp:List Addr} {it' D:Addr} {tn:Nat->Heap->Prop} {F₀ O F1:Addr->Prop} {H₀:En} {H2:Hp} {ts ys:List T} (hx:X'.xe=fun _ _=>False) (hc:X'.calm=true) (hg:PGt X' tg gg) (ht:PTs X' ifs cc) (he:PEv X' elt ee)
  (T:Turn X'.prog X'.w X'.K tg J fp it' tn) (stat:∀H':Hp,(∀b∈fp,H' b=none)->∀b∈fp,FpOk X' [] H' b) (ok:ItOk X'.K J F1 H2 ts) (hbig:ts.length<=big) (hD2:H2 D=none) (hO:¬O D) (hH0:H₀.h D=none)
  (fin:∀σ' H' F' s1 vs,L2.Inv X' [] σ' H' s1->Ext F1 H2 F' H'->H' D=some (.lst vs)->¬F' D->RepL X'.K F' H' ys vs->R (.ok .next) s1)
  {s:y04} {σ:L2.St} {H:Hp} {F:Addr->Prop} {ε:Ev} (I:L2.Inv X' [] σ H s) (st:tn 0 s.heap) (fr:∀b∈fp,H b=none) (x:Ext F1 H2 F H) (r:RelE X'.K F₀ H₀ O F H ε σ) (hD:H D=some (.lst [])) (nD:¬F D) (ey:z5r gg cc ee ts ε=some ys) :
  codeAny (model X'.prog X'.w) X'.A (.compLoop (.ListComp elt [⟨tg,iter,ifs,0⟩] scope pos) 0 (.ref it') (.ref D) X'.env) R s:=by
 refine zij (fun n s'=>∃i σ' H' F' ε' dn vs,n=ts.length - i/\i<=ts.length/\L2.Inv X' [] σ' H' s'/\tn i s'.heap/\(∀b∈fp,H' b=none)/\Ext F1 H2 F' H'/\RelE X'.K F₀ H₀ O F' H' ε' σ'/\H' D=some (.lst vs)/\¬F' D/\RepL X'.K F' H' dn vs/\dn.length<=i /\
  ∃rest,z5r gg cc ee (ts.drop i) ε'=some rest/\ys=dn++rest) ?_ ts.length ⟨0,σ,H,F,ε,[],[],rfl,y28 _,I,st,fr,x,r,hD,nD,RepL.nil,y0p _,ys,by simpa using ey,by simp⟩
 rintro n s3 ⟨i,σ3,H3,F3,ε3,dn,vs,rfl,hi,I3,st3,fr3,x3,r3,hD3,nD3,q3,hl3,rest,er,es⟩
 have nf:∀{F4:Addr->Prop} {H4:Hp} {F5:Addr->Prop} {H5:Hp} {o:HO},Ext F4 H4 F5 H5->H4 D=some o->¬F4 D->¬F5 D:=fun y e n z=>by
  rcases y.new D z with q|q
  ·exact n q
  ·rw[e] at q
   cases q
 by_cases hlt:i<ts.length
 ·have hd:ts.drop i=ts[i]::ts.drop (i+1):=List.drop_eq_getElem_cons hlt
  have hg':ts[i]?=some ts[i]:=y0v hlt
  rw[hd] at er
  simp only[z5r,y01] at er
  obtain⟨ε4,eg,b,eb,er⟩:=er
  refine y1e (T.item X' rfl rfl rfl hc i [] s3 σ3 H3 (fun _ _=>False) I3 (stat H3 fr3) st3 (ok.go i F3 H3 _ x3.kp r3.dom hg')) (fun rv s4 ⟨u,hr,h4⟩=>?_) fun _ _ z=>z
  subst hr
  refine y1e h4 (fun _ s5 ⟨x',H5,I5,r5,y5,st5,fr5⟩=>?_) fun _ _ z=>z
  obtain⟨F5,x5,rx⟩:=ok.yld i F3 H3 _ x' H5 x3.kp r3.dom hg' y5
  have I5':=I5.pinned (stat H5 fr5) (T.obj _ _ st5)
  have hg2:=hg _ s5 σ3 H5 x' u (fun σ6 H6=>H6=H5/\RelE X'.K F₀ H₀ O F5 H5 ε4 σ6) I5' r5 ⟨F₀,H₀,O,F5,ε3,_,ε4,r3.ext x5,rx,eg,fun σ6 r6=>⟨rfl,r6⟩⟩
  rw[hx] at hg2
  refine y1e hg2 (fun _ s6 ⟨σ6,H6,I6,e6,r6⟩=>?_) fun _ _ z=>z
  subst e6
  have again:∀{σ7:L2.St} {H7:Hp} {s7:y04},L2.Inv X' ([]++zhe fp s5.heap) σ7 H7 s7->tn (i+1) s7.heap/\(∀b∈fp,H7 b=none)/\L2.Inv X' [] σ7 H7 s7:=fun {σ7 H7 s7} I7=>by
   refine⟨T.keep _ _ _ st5 fun b hb o e=>(I7.pin (b,o) (y1b _ (y1b _ (z8y hb e)))).1,fun b hb=>?_,I7.unpinned⟩
   obtain⟨o,e,d⟩:=T.obj _ _ st5 b hb
   exact (I7.pin (b,o) (y1b _ (y1b _ (z8y hb e)))).2.1
  have ht2:=ht _ s6 σ6 H6 (fun b' H7=>b'=b/\∃F7,Ext F5 H6 F7 H7) I6 ⟨F₀,H₀,O,F5,ε4,b,r6,eb,fun F7 H7 x7=>⟨rfl,F7,x7⟩⟩
  rw[hx] at ht2
  refine y1e ht2 (fun ok' s7 ⟨H7,I7,e7,F7,x7⟩=>?_) fun _ _ z=>z
  subst e7
  have x37:=x5.trans x7
  have r7:=r6.ext x7
  cases ok' with
  | false =>
   simp only[y1w,if_false] at er ⊢
   obtain⟨a1,a2,a3⟩:=again I7
   exact⟨_,by omega,i+1,σ6,H7,F7,ε4,dn,vs,rfl,hlt,a3,a1,a2,x3.trans x37,r7,x37.same.get hD3,nf x37 hD3 nD3,q3.ext x37,by omega,rest,er,es⟩
  | true =>
   simp only[if_true,y01,y07] at er ⊢
   obtain⟨y,ey',rest',er',rfl⟩:=er
   have he2:=he _ s7 σ6 H7 (fun v H8=>∃F8,Ext F7 H7 F8 H8/\Rep X'.K F8 H8 y v) I7 ⟨F₀,H₀,O,F7,ε4,y,r7,ey',fun v F8 H8 x8 q8=>⟨F8,x8,q8⟩⟩
   rw[hx] at he2
   refine y1e he2 (fun u8 s8 ⟨v8,H8,I8,r8,F8,x8,q8⟩=>?_) fun _ _ z=>z
   have x38:=x37.trans x8
   have hD8:=x38.same.get hD3
   have nD8:=nf x38 hD3 nD3
   obtain⟨kp9,r9⟩:=(r7.ext x8).other (ys:=vs++[v8]) nD8 hO hH0 hD8
   have ha:=zht (X:=X') _ s8 σ6 H8 (.ref D) [v8] (.ref D) [u8] (fun _ H9=>H9=upd H8 D (.lst (vs++[v8]))) I8 rfl (.cons r8 .nil) ⟨D,vs,v8,rfl,rfl,hD8,by rw[zcq,<- q3.length];omega,rfl⟩
   rw[hx] at ha
   refine y1e ha (fun u9 s9 ⟨v9,H9,I9,r9',e9⟩=>?_) fun _ _ z=>z
   subst e9
   obtain⟨a1,a2,a3⟩:=again I9
   have x9:Ext F1 H2 F8 (upd H8 D (.lst (vs++[v8]))):=by
    have y:=x3.trans x38
    refine⟨fun b o e=>?_,y.sub,y.new,⟨fun b f=>?_,y.dom.tgs.upd fun u e=>.inl ⟨_,y2i (e.symm.trans hD8)⟩⟩⟩
    ·have nb:b≠D:=by
      rintro rfl
      rw[hD2] at e
      cases e
     rw[z0c nb]
     exact y.same b o e
    ·have nb:b≠D:=by
      rintro rfl
      exact nD8 f
     rw[z0c nb]
     exact y.dom b f
   refine⟨_,by omega,i+1,σ6,_,F8,ε4,dn++[y],vs++[v8],rfl,hlt,a3,a1,a2,x9,r9,z0e,nD8,((q3.ext x38).append (RepL.cons q8 RepL.nil)).kp kp9,by simp;omega,rest',er',by rw[es];simp⟩
 ·have hd:ts.drop i=[]:=List.drop_eq_nil_of_le (by omega)
  rw[hd] at er
  cases er
  refine y1e (T.done X' rfl rfl rfl hc i [] s3 σ3 H3 (fun _ _=>False) I3 (stat H3 fr3) st3 (ok.stop i F3 H3 x3.kp (by omega))) (fun rv s4 ⟨hr,I4⟩=>?_) fun _ _ z=>z
  subst hr
  exact fin σ3 H3 F3 s4 vs I4 x3 hD3 nD3 (by rw[es,y22];exact q3)
structure After (X:Cx) (pins:List (Addr×Obj)) (σ:L2.St) (F:Addr->Prop) (H:Hp) (ys:List T) (D C:Addr) (H':Hp) (F':Addr->Prop) (s1:y04) (vs:List V):Prop where
 inv:∀h',Heap.SameBut C s1.heap h'->L2.Inv X pins σ H' { s1 with heap:=h' }
 ns:∃m,s1.heap.Ns C m
 free:H' C=none
 above:X.s₀.heap.objs.size<=C
 cells:∀x c,X.env.cells.lookup x=some c->c≠C
 pin:∀p∈X.pn++pins,p.1≠C
 loc:C≠X.env.locals
 new:H D=none
 ext:Ext F H F' H'
 nf:¬F' D
 lst:H' D=some (.lst vs)
 rep:RepL X.K F' H' ys vs
theorem zl5 {use:Option (Value->Sem Unit)} {Q:Value->y04->Prop} {p2:Pos} (S:CompOk X scope own caps) (hi:PIt X tg iter it)
  (hg:∀cl C s₀ H₀ fp pn,PGt (z48 X (own++caps.map (·.2)) scope cl C s₀ H₀ fp pn) tg gg)
  (ht:∀cl C s₀ H₀ fp pn,PTs (z48 X (own++caps.map (·.2)) scope cl C s₀ H₀ fp pn) ifs cc)
  (he:∀cl C s₀ H₀ fp pn,PEv (z48 X (own++caps.map (·.2)) scope cl C s₀ H₀ fp pn) elt ee)
  (hs:∀x,foldedSetIterable iter X.env x=pure x) {pins:List (Addr×Obj)} {s:y04} {σ:L2.St} {H:Hp} {F₀ O F:Addr->Prop} {H₀:En} {ε:Ev} {ys:List T} (I:L2.Inv X pins σ H s) (r:RelE X.K F₀ H₀ O F H ε σ)
  (e:comp own.length (caps.map (·.1)) it gg cc ee ε=some (.list ys)) (fin:∀D C H' F' s1 vs,After X pins σ F H ys D C H' F' s1 vs->compPost (model X.prog X.w) X.A X.xe use Q (.ref D) C (.ok .next) s1) :
  y0u (model X.prog X.w) X.A (comprehension (.ListComp elt [⟨tg,iter,ifs,0⟩] scope pos) scope X.env p2 (newList []) false (eval iter X.env) use) Q X.xe s:=by
 simp only[comp,y01] at e
 obtain⟨ts,et,e⟩:=e
 split at e
 case isFalse=>cases e
 next hbig =>
 simp only[y07] at e
 obtain⟨ys',ey,e⟩:=e
 cases e
 have hcl:∀x∈scope.names,x.2=.free->∃c,X.env.cells.lookup x.1=some c:=fun x hx hk=>I.ok.has x.1 (S.free x hx hk)
 refine wpAny_comprehension_free rfl hs (z7i hcl) S.kind S.names (thn (hi pins s σ H (fun J H1=>∃F1,Ext F H F1 H1/\ItOk X.K J F1 H1 ts) I ⟨F₀,H₀,O,F,ε,ts,r,et,fun J F1 H1 x1 ok=>⟨F1,x1,ok⟩⟩) fun v s1 h1=>thn h1 fun itv s2 h2=>?_)
 obtain⟨it',fp,tn,J,H2,rfl,I2,T,st2,f2,F1,x1,ok⟩:=h2
 have hfp:∀b∈fp,b<s2.heap.objs.size:=fun b hb=>by
  obtain⟨o,ho,_⟩:=T.obj 0 _ st2 b hb
  exact y0c ho
 have hD2:H2 s2.heap.objs.size=none:=I2.fresh
 have hD:H s2.heap.objs.size=none:=x1.same.none hD2
 have sz:(s2.heap.push { cls:=.type "list",data:=.seq ([]:List Value).toArray }).objs.size=s2.heap.objs.size+1:=y18 ..
 refine wpAny_newList ?_ (y28 _)
 refine wpAny_newFunctionEnv S.cell (by intro y hy;simp at hy) (fun h₁ hns₁ hsb₁=>?_) S.kind
 have keep:∀b u,(s2.heap.push { cls:=.type "list",data:=.seq ([]:List Value).toArray }).get? b=some u->h₁.get? b=some u:=fun b u e=>hsb₁.extBut b u (y0y (y0c e)) (y03 _ e)
 have I4:=zrj (tk:=s2.toks+0) S I2 f2 hfp hns₁ keep
 have r4:=(r.ext x1).cap (D:=s2.heap.objs.size) own.length S.nd hD2
 refine codeAny_compStart_list ?loop (T.self _ 0 _ _ _ (T.keep 0 _ _ st2 fun b hb o e=>keep b o (y03 _ e)) ?loop)
 refine zp0 (X':=z48 X (own++caps.map (·.2)) scope (clos X.env scope.names []) (s2.heap.push { cls:=.type "list",data:=.seq ([]:List Value).toArray }).objs.size { s2 with heap:=s2.heap.push { cls:=.type "list",data:=.seq ([]:List Value).toArray } } (upd H2 s2.heap.objs.size (.lst [])) fp (X.pn++pins))
  rfl S.calm (hg _ _ _ _ _ _) (ht _ _ _ _ _ _) (he _ _ _ _ _ _) T (fun H' hn b hb=>?_) ok hbig hD2 (fun z=>z.2 rfl) (r.o0 _ (r.fr _ hD)) (fun σ' H' F' s1 vs J1 x' hD' nD' q'=>?_) I4 (T.keep 0 _ _ st2 fun b hb o e=>keep b o (y03 _ e)) (fun b hb=>?_) (Ext.laid x1.dom hD2) r4 z0e ?_ ey
 ·have okX:=zoz S I2 f2 hfp (own++caps.map (·.2))
  refine⟨hn b hb,(okX.exf b hb).1,okX.exfs b hb,.inl hb,fun x c e=>(okX.exf b hb).2 x c e,fun p hp=>?_⟩
  have hp':p∈X.pn++pins:=by simpa [z48] using hp
  exact (f2 b hb).2.2.2.2.2 p hp'
 ·obtain⟨m,hn,_⟩:=id J1.loc
  refine fin s2.heap.objs.size _ H' F' s1 vs ⟨fun h' sb=>zm9 I2 f2 J1 sb,⟨m,hn⟩,J1.free,?_,fun x c e z=>?_,fun p hp z=>?_,?_,hD,x1.trans x',nD',hD',q'⟩
  ·rw[sz]
   exact Nat.le_succ_of_le I2.sz
  ·obtain⟨v,q⟩:=I2.cell x c e
   have:=q.lt
   rw[z,sz] at this
   exact absurd this (Nat.not_lt.mpr (y2k _))
  ·have:=y0c (I2.pin p hp).1
   rw[z,sz] at this
   exact absurd this (Nat.not_lt.mpr (y2k _))
  ·have:=I2.lt
   rw[sz]
   exact y16 (Nat.lt_succ_of_lt this)
 ·have:=(f2 b hb).1
  rw[z0c (y0y (hfp b hb))]
  exact this
 ·intro z
  obtain⟨o,e⟩:=x1.dom _ z
  rw[hD2] at e
  cases e
theorem zw5 (S:CompOk X scope own caps) (hi:PIt X tg iter it)
  (hg:∀cl C s₀ H₀ fp pn,PGt (z48 X (own++caps.map (·.2)) scope cl C s₀ H₀ fp pn) tg gg)
  (ht:∀cl C s₀ H₀ fp pn,PTs (z48 X (own++caps.map (·.2)) scope cl C s₀ H₀ fp pn) ifs cc)
  (he:∀cl C s₀ H₀ fp pn,PEv (z48 X (own++caps.map (·.2)) scope cl C s₀ H₀ fp pn) elt ee)
  (hs:∀x,foldedSetIterable iter X.env x=pure x:=by intro _;rfl):PEn X (.ListComp elt [⟨tg,iter,ifs,0⟩] scope pos) (comp own.length (caps.map (·.1)) it gg cc ee):=by
 intro pins s σ H Q I ⟨F₀,H₀,O,F,ε,ys,r,e,k⟩
 rw[eval_ListComp]
 refine zl5 S hi hg ht he hs I r e fun D C H' F' s1 vs a=>?_
 obtain⟨m,hn⟩:=a.ns
 exact⟨m,hn,fun h' sb=>⟨.ref D,H',a.inv h' sb,rfl,k D vs F' H' a.ext a.new a.nf a.lst a.rep⟩⟩
theorem zii {ε:Ev} {n:Nat} {cs:List Nat} {t:T} (e:comp n cs it gg cc ee ε=some t):∃ts,t=.list ts:=by
 simp only[comp,y01] at e
 obtain⟨ts,_,e⟩:=e
 split at e
 ·simp only[y07] at e
  obtain⟨ys,_,e⟩:=e
  exact⟨ys,e.symm⟩
 ·cases e
theorem z9t (S:CompOk X scope own caps) (hi:PIt X tg iter it)
  (hg:∀cl C s₀ H₀ fp pn,PGt (z48 X (own++caps.map (·.2)) scope cl C s₀ H₀ fp pn) tg gg)
  (ht:∀cl C s₀ H₀ fp pn,PTs (z48 X (own++caps.map (·.2)) scope cl C s₀ H₀ fp pn) ifs cc)
  (he:∀cl C s₀ H₀ fp pn,PEv (z48 X (own++caps.map (·.2)) scope cl C s₀ H₀ fp pn) elt ee)
  (hs:∀x,foldedSetIterable iter X.env x=pure x:=by intro _;rfl):PEv X (.ListComp elt [⟨tg,iter,ifs,0⟩] scope pos) (comp own.length (caps.map (·.1)) it gg cc ee) :=
 n2v (zw5 S hi hg ht he hs) fun ε t e=>zii e
theorem zn3 (i:Nat) {x:Str} {px spos:Pos} (hN:X.N.Nodup) (S:CompOk X scope own caps) (hit:PIt X tg iter it)
  (hg:∀cl C s₀ H₀ fp pn,PGt (z48 X (own++caps.map (·.2)) scope cl C s₀ H₀ fp pn) tg gg)
  (ht:∀cl C s₀ H₀ fp pn,PTs (z48 X (own++caps.map (·.2)) scope cl C s₀ H₀ fp pn) ifs cc)
  (he:∀cl C s₀ H₀ fp pn,PEv (z48 X (own++caps.map (·.2)) scope cl C s₀ H₀ fp pn) elt ee)
  (hi:X.N[i]?=some x:=by rfl) (hx:Loc X.env.scope x:=by first|exact Or.inl rfl|exact Or.inr rfl)
  (hsw:swapsWith (.ListComp elt [⟨tg,iter,ifs,0⟩] scope pos) (some (.Name x px)) spos.line X.env=pure true:=by rfl)
  (hf:X.fn x=true\/X.env.scope.names.lookup x=some .local:=by first|exact .inl rfl|exact .inr rfl)
  (hs:∀x,foldedSetIterable iter X.env x=pure x:=by intro _;rfl) :
  PSt X (.Assign [.Name x px] (.ListComp elt [⟨tg,iter,ifs,0⟩] scope pos) spos) (asg i (comp own.length (caps.map (·.1)) it gg cc ee)):=by
 intro pins s σ H D I ⟨F₀,H₀,O,F,ε,o,r,e,k⟩
 simp only[asg,y07] at e
 obtain⟨t,et,rfl⟩:=e
 obtain⟨ys,rfl⟩:=zii et
 rw[exec_Assign_Name_used _ _ _ _ hsw]
 refine y02 (wpAny_standAt (y02 ?_))
 show y0u _ X.A (do let _ <- comprehension (.ListComp elt [⟨tg,iter,ifs,0⟩] scope pos) scope X.env _ (newList []) false (eval iter X.env) (some (assign (.Name x px) X.env))) _ _ s
 refine y02 (thn (zl5 (use:=some (assign (.Name x px) X.env)) (Q:=fun _ s'=>SP X pins D .next s') S hit hg ht he hs I r et fun D' C H' F' s1 vs a=>?_) fun _ s' hq=>y06 (y06 hq))
 have IX:=a.inv s1.heap (Heap.SameBut.refl ..)
 have IX':L2.Inv X pins σ H' s1:=IX
 show y0u _ X.A (assign (.Name x px) X.env (.ref D')) _ _ _
 refine wpAny_assign_Name (zgz (v:=.ref D') IX' hN hi hx rfl (fun s2 I2 ⟨b,sb,hb⟩=>?_) hf)
 obtain⟨m,hn⟩:=a.ns
 have nb:C≠b:=by
  rcases hb with rfl|hb
  ·exact a.loc
  ·exact (a.cells x b hb).symm
 refine⟨m,hn.sameBut sb nb,fun h' sb'=>?_⟩
 have I3:L2.Inv X pins (σ.set i (some (.ref D'))) H' { s2 with heap:=h' }:=I2.turned (t':=s2.toks) (it:=C) (fun b o hb e=>sb'.extBut b o hb e) a.free a.loc (.inr a.above) a.cells a.pin
 refine⟨_,H',I3,?_⟩
 have y:Ext F H (fun b=>F' b\/b=D') H':=⟨a.ext.same,fun b z=>.inl (a.ext.sub b z),fun b z=>by
  rcases z with z|rfl
  ·exact a.ext.new b z
  ·exact .inr a.new,⟨fun b z=>by
  rcases z with z|rfl
  ·exact a.ext.dom b z
  ·exact⟨_,a.lst⟩,a.ext.dom.tgs⟩⟩
 refine k _ _ H' y.kp ((r.ext y).set i ?_)
 simp only[Rep]
 exact⟨D',vs,rfl,.inr rfl,.inl a.lst,a.rep.keep (fun _ _ z=>z) fun b _ z w=>⟨.inl z,w⟩⟩
end
end
section
variable [Tbl]
open AutoSeq1 (wpAny_loadPart')
theorem z9c (l:Addr) (items:Array Value) (n:Nat) (dct:Option Addr) (sl:Array (Option Value)) :
  Meets (Builtin.«enumerate.__new__» ⟨[.type "enumerate",.ref l],[]⟩) (fun _ R s=>s.heap.get? l=some { cls:=.type "tuple",dict:=dct,data:=.seq items n,slots:=sl } /\
   R (.ok (.ret (.ref (s.heap.push { cls:=.type "tuple_iterator",data:=.fields #[.ref l,.int 0 0] }).objs.size)))
    { s with heap:=(s.heap.push { cls:=.type "tuple_iterator",data:=.fields #[.ref l,.int 0 0] }).push { cls:=.type "enumerate",data:=.fields #[.none,.bool false,.ref s.heap.objs.size,rawInt 0,.none,.none] } }) :=
 .of_wp fun prog w A R s h=>by
  obtain⟨hp,g,d,tk,os⟩:=s;obtain⟨hl,h⟩:=h
  have hsub:=sub_enumerate
  have hL:Heap.IsTuple (Shared.heap ⟨hp,g,d,tk,os⟩) l items:=⟨_,hl,rfl,n,rfl⟩
  wp_walk using wpAny_loadPart' hl
  refine wpAny_stack_any fun st=>y06 ?_
  split
  ·rename_i c _ _ _ _ _
   cases (c == Value.type "enumerate")
   ·wp_walk using wpAny_loadPart' hl,wpAny_pyIter_tuple hL
    exact⟨_,rfl,h⟩
   ·wp_walk using wpAny_loadPart' hl,wpAny_pyIter_tuple hL
    exact⟨_,rfl,h⟩
  ·wp_walk using wpAny_loadPart' hl,wpAny_pyIter_tuple hL
   exact⟨_,rfl,h⟩
section
variable {prog:y0r} {w:World} {A:Around} {E:Value->y04->Prop} {s:y04}
theorem z9d {l:Addr} {items:Array Value} {Q:Value->y04->Prop} (hL:s.heap.IsTuple l items)
  (h:∀h',IsEnum h' (s.heap.objs.size+1) s.heap.objs.size 0 .none->h'.IsTupleIter s.heap.objs.size l 0->h'.objs.size=s.heap.objs.size+2 ->
   (∀b o,s.heap.get? b=some o->h'.get? b=some o)->Q (.ref (s.heap.objs.size+1)) { s with heap:=h' }) :
  y0u (model prog w) A (call (.type "enumerate") [.ref l]) Q E s:=by
 obtain⟨⟨c,dct,dt,sl⟩,hl,hc,n,hd⟩:=hL
 replace hc:c=.type "tuple":=hc
 replace hd:dt=.seq items n:=hd
 subst hc hd
 refine callType_new F.called_enumerate (by decide) (F.typeCall_enumerate_1 _) (F.newCall_enumerate_1 _) (fun obj=>F.args_object_init_2 obj _) F.entry_enumerate_new
  (z9c l items n dct sl) ⟨hl,?_⟩
 have hz:(s.heap.push { cls:=.type "tuple_iterator",data:=.fields #[.ref l,.int 0 0] }).objs.size=s.heap.objs.size+1:=y18 ..
 show _/\_
 rw[hz]
 have he:IsEnum ((s.heap.push { cls:=.type "tuple_iterator",data:=.fields #[.ref l,.int 0 0] }).push
   { cls:=.type "enumerate",data:=.fields #[.none,.bool false,.ref s.heap.objs.size,rawInt 0,.none,.none] }) (s.heap.objs.size+1) s.heap.objs.size 0 .none:=by
  have:=y0m (s.heap.push { cls:=.type "tuple_iterator",data:=.fields #[.ref l,.int 0 0] })
   (o:={ cls:=.type "enumerate",data:=.fields #[.none,.bool false,.ref s.heap.objs.size,rawInt 0,.none,.none] }) rfl
  rw[hz] at this;exact this
 refine⟨⟨_,he,rfl⟩,h _ he ⟨_,y03 _ (y0m _ rfl),rfl,rfl⟩ (by rw[y18,hz]) fun b o x=>y03 _ (y03 _ x)⟩
theorem zbh {it l:Addr} {i:Nat} {items} {x:Value} {Q:Value->y04->Prop} (hit:s.heap.IsTupleIter it l i)
  (hl:s.heap.IsTuple l items) (hx:items[i]?=some x)
  (hQ:∀h',h'.IsTupleIter it l (i+1)->Heap.SameBut it s.heap h'->Q x { s with heap:=h' }) :
  y0u (model prog w) A (y0t (.ref it)) Q E s:=by
 obtain⟨o,ho,hc,hd⟩:=id hit
 obtain⟨ol,hol,_,nl,hdl⟩:=hl
 unfold y0t
 refine y02 (wpAny_callSpecial?_slot (name:=Str.ofString "__next__") hit.typeIs y2d
  (wpAny_call_entry y2d hit.typeIs F.entry_tuple_iterator_next ?_ (F.args_tuple_iterator_next_1 _)))
 show y0u _ _ (field (.ref it) 0 >>= _) _ _ s
 refine y02 (wpAny_field ho hd (x:=.ref l) rfl ?_)
 show y0u _ _ (if (Value.ref l == Value.none)=true then _ else _) _ _ s
 rw[if_neg (show ¬((Value.ref l == Value.none)=true) from y27)]
 show y0u _ _ (field (.ref it) 1 >>= _) _ _ s
 refine y02 (wpAny_field ho hd (x:=.int i 0) rfl ?_)
 show y0u _ _ (seqItems? (.ref l) >>= _) _ _ s
 refine y02 (wpAny_seqItems hol hdl ?_)
 simp only[Int.toNat_natCast,hx]
 refine y02 (wpAny_setField ho hd (by simp) (y06 ⟨x,rfl,y06 (hQ _ ?_ (Heap.SameBut.update ..))⟩))
 exact⟨_,Heap.get?_update_self _ ho (Obj.isFreed_of_fields (Obj.data_mapFields hd _)),(Obj.cls_mapFields ..).trans hc,by
  rw[Obj.data_mapFields hd];simp[rawInt]⟩
theorem z7s {it l:Addr} {i:Nat} {items} {Q:Value->y04->Prop} (hh:A.handled=none)
  (hit:s.heap.IsTupleIter it l i) (hl:s.heap.IsTuple l items) (hx:items[i]?=none)
  (hE:∀h' e,Heap.ExtBut it s.heap h'->(∃o,h'.get? e=some o/\o.cls=.type "StopIteration")->E (.ref e) { s with heap:=h' }) :
  y0u (model prog w) A (y0t (.ref it)) Q E s:=by
 obtain⟨o,ho,hc,hd⟩:=id hit
 obtain⟨ol,hol,_,nl,hdl⟩:=hl
 unfold y0t
 refine y02 (wpAny_callSpecial?_slot (name:=Str.ofString "__next__") hit.typeIs y2d
  (wpAny_call_entry y2d hit.typeIs F.entry_tuple_iterator_next ?_ (F.args_tuple_iterator_next_1 _)))
 show y0u _ _ (field (.ref it) 0 >>= _) _ _ s
 refine y02 (wpAny_field ho hd (x:=.ref l) rfl ?_)
 show y0u _ _ (if (Value.ref l == Value.none)=true then _ else _) _ _ s
 rw[if_neg (show ¬((Value.ref l == Value.none)=true) from y27)]
 show y0u _ _ (field (.ref it) 1 >>= _) _ _ s
 refine y02 (wpAny_field ho hd (x:=.int i 0) rfl ?_)
 show y0u _ _ (seqItems? (.ref l) >>= _) _ _ s
 refine y02 (wpAny_seqItems hol hdl ?_)
 simp only[Int.toNat_natCast,hx]
 refine y02 (wpAny_rule (y02 (wpAny_setField ho hd (by simp) ?_)))
 show y0u _ _ (newExc (.type "StopIteration") [] >>= _) _ _ _
 refine y02 ?_
 simp only[newExc,newTuple]
 refine y02 (wpAny_newObj_type ?_ (by size_fits))
 refine y02 (m:=firstArgMember _ _) (wpAny_of_eq (a:=Value.none) (by first|rfl|(simp only[firstArgMember];rfl)) ?_)
 refine wpAny_newObj_type ?_ (by size_fits)
 simp only[raiseNew]
 refine y02 (wpAny_handled ?_)
 first|rw[show A.in1.handled=none from hh]|rw[hh]
 refine y02 (y06 (wpAny_throw ?_))
 exact hE _ _ (((Heap.SameBut.update ..).extBut.push _).push _) ⟨_,y0m _ rfl,rfl⟩
end
theorem z4j {prog:y0r} {w:World} {A:Around} (hh:A.handled=none) (it l:Addr) (hne:l≠it) (items:Array Value) :
  Draws prog w A it [it,l] items.size (fun i v=>items[i]?=some v) (fun i h=>h.IsTupleIter it l i/\h.IsTuple l items) where
 live:=fun _ _ st=>let ⟨o,ho,_⟩:=st.1;⟨o,ho⟩
 frame:=fun _ _ _ st hk=>⟨st.1.at fun o e=>hk it (by simp) o e,let ⟨o,ho,r⟩:=st.2;⟨o,hk l (by simp) o ho,r⟩⟩
 item:=fun i s Q E hi st hQ=>by
  refine zbh st.1 st.2 (x:=items[i]) (by simp[hi]) fun h' hit' hs'=>?_
  exact hQ _ h' s.toks (by simp[hi]) ⟨hit',st.2.extBut hs'.extBut hne⟩ hs'
 done:=fun s Q E st hE=>z7s hh st.1 st.2 (by simp) hE
noncomputable def Ite (K:y00) (a:Addr):It :=
 ⟨fun i H=>∃xs x,SqT K H a xs/\xs[i]?=some x,fun i H x H'=>∃p v,H p=none/\x=.ref p/\H'=upd H p (.tup [.int i,v])/\∀xs,SqT K H a xs->xs[i]?=some v,fun i H=>∃xs,SqT K H a xs/\xs.length<=i⟩
theorem zmp {P:y0r} {w:World} {K:y00} {es:List Expr} {k:Nat} {pos:Pos} (a it e:Addr) (hne:e≠it) (hai:a≠it) (hae:a≠e):Turn P w K (.Tuple es k pos) (Ite K a) [e,it] e (fun i h=>(∃old,IsEnum h e it i old)/\h.IsTupleIter it a i) where
 mem:=by simp
 obj:=fun i h st b hb=>by
  obtain⟨⟨old,he⟩,o,ho,hc,hd⟩:=st
  rcases y09.mp hb with rfl|hb
  ·exact⟨_,he,fun v z=>by
    have z':Data.fields _=Data.cell v:=z
    cases z'⟩
  ·have e1:b=it:=by simpa using hb
   subst e1
   exact⟨o,ho,fun v z=>by rw[hd] at z;cases z⟩
 keep:=fun i h h' st kk=>by
  obtain⟨⟨old,he⟩,st2⟩:=st
  exact⟨⟨old,kk e (by simp) _ he⟩,st2.at fun o q=>kk it (by simp) o q⟩
 item:=by
  intro X hP hw hK hc i pins s σ H E I hf st hg
  subst hP hw hK
  obtain⟨xs,x,hq,hx⟩:=hg
  obtain⟨its,rv,p,hz⟩:=I.tuple hq
  obtain⟨u,hu,ru⟩:=rv.get hx
  obtain⟨⟨old,he⟩,hit⟩:=st
  obtain⟨f0,f1,f2,f3,f4,f5⟩:=hf e (by simp)
  obtain⟨g0,g1,g2,g3,g4,g5⟩:=hf it (by simp)
  have hi:i<its.toArray.size:=by
   rw[y0i]
   exact (y0l.mp hu).1
  have hnf:e∉[it,a]:=by
   intro z
   rcases y09.mp z with z|z
   ·exact hne z
   ·have z':e=a:=by simpa using z
    exact hae z'.symm
  refine wpAny_pyNext_enum_itemD (z4j (A:=X.A.in1) (I.ok.hd hc) it a hai its.toArray) he ⟨hit,p⟩ hi hne hnf fun x' h' tk hP' ho hs' hT hsz hk=>?_
  have ex:x'=u:=by
   have:=hP'
   rw[<- Array.getElem?_toList] at this
   rw[show (its.toArray).toList=its from rfl,hu] at this
   exact (y2i this).symm
  subst ex
  refine⟨_,rfl,wpAny_letOwnedTupleGo_enum ho fun h2 he2 hs2=>?_⟩
  have helt:e<s.heap.objs.size:=y0c he
  have hilt:it<s.heap.objs.size:=by obtain⟨o,ho',_⟩:=hit;exact y0c ho'
  have k2:∀b o,b≠e->b≠it->s.heap.get? b=some o->h2.get? b=some o:=fun b o h1 h3 q=>hs2.extBut b o h1 (hk b o h1 h3 q)
  have fr:H s.heap.objs.size=none:=I.hok.fresh (y0p _)
  have hT2:h2.get? s.heap.objs.size=some { cls:=.type "tuple",data:=.seq #[.int i tk,x'] }:=hs2.extBut _ _ (y16 helt) hT
  have nH:∀b o,H b=some o->b≠e/\b≠it:=fun b o q=>⟨fun z=>(by rw[z,f0] at q;cases q),fun z=>(by rw[z,g0] at q;cases q)⟩
  have hok2:HOk X.prog X.w (upd H s.heap.objs.size (.tup [.int i,x])) h2:=by
   intro b o q
   by_cases hb:b=s.heap.objs.size
   ·subst hb
    rw[z0e] at q
    cases q
    exact⟨by show 2<=y0k;decide,[.int i tk,x'],.cons ⟨tk,rfl⟩ (.cons ru .nil),⟨_,hT2,rfl,_,rfl⟩⟩
   ·rw[z0c hb] at q
    refine (I.hok b o q).stay (fun c v hc' q'=>k2 c v ?_ ?_ q') (fun c q'=>?_) fun c ys q'=>?_
    ·rcases hc' with rfl|hc'
     ·exact (nH _ _ q).1
     ·exact (nH _ _ hc').1
    ·rcases hc' with rfl|hc'
     ·exact (nH _ _ q).2
     ·exact (nH _ _ hc').2
    ·rw[z0c (z0l q' fr)]
     exact q'
    ·rw[z0c (z0l q' fr)]
     exact q'
  have I2:L2.Inv X pins σ (upd H s.heap.objs.size (.tup [.int i,x])) { s with heap:=h2,toks:=tk+1 }:=by
   refine I.step (g':=s.gens) (d':=s.drawn) (ch:=[e,it]) (fun b hb=>?_) (fun b o _ _ hc' q _=>k2 b o (fun z=>hc' (by simp[z])) (fun z=>hc' (by simp[z])) q) (fun b o _ _ hc' q _=>⟨o.slots,k2 b o (fun z=>hc' (by simp[z])) (fun z=>hc' (by simp[z])) q⟩) (fun b o _ q n=>?_)
    (fun b o hc' q=>⟨o,k2 b o (fun z=>hc' (by simp[z])) (fun z=>hc' (by simp[z])) q⟩) (fun b ys q=>by rw[z0c (z0l q fr)];exact q) (fun b o u q=>by rw[z0c (z0l q fr)];exact q) (fun b ps q=>⟨#[],by rw[z0c (z0l q fr),q];simp⟩) (fun m hm=>?_) hok2 I.bare
   ·rcases y09.mp hb with rfl|hb
    ·exact⟨f3,f1,f4,f5⟩
    ·have:b=it:=by simpa using hb
     subst this
     exact⟨g3,g1,g4,g5⟩
   ·rw[z0c (y0y (y0c q))]
    exact n
   ·obtain⟨o,es',ep,ho',r⟩:=hm
    exact⟨o,es',ep,k2 _ o (Ne.symm f1) (Ne.symm g1) ho',r⟩
  refine⟨.ref s.heap.objs.size,_,I2,rfl,⟨s.heap.objs.size,x,fr,rfl,rfl,fun ys hy=>by rw[I.tuple_inj hy hq];exact hx⟩,⟨⟨_,by simpa using he2⟩,hs'.1.at fun o q=>(hs2.2 it hne.symm).trans q⟩,fun b hb=>?_⟩
  rcases y09.mp hb with rfl|hb
  ·rw[z0c (y0y helt)]
   exact f0
  ·have:b=it:=by simpa using hb
   subst this
   rw[z0c (y0y hilt)]
   exact g0
 done:=by
  intro X hP hw hK hc i pins s σ H E I hf st hg
  subst hP hw hK
  obtain⟨xs,hq,hx⟩:=hg
  obtain⟨its,rv,p,hz⟩:=I.tuple hq
  obtain⟨⟨old,he⟩,hit⟩:=st
  obtain⟨g0,g1,g2,g3,g4,g5⟩:=hf it (by simp)
  have hT:s.TypeIs (.ref e) "enumerate":=⟨_,he,rfl⟩
  have hl:=rv.length
  unfold pyNext
  refine y02 (wpAny_attempt (wpAny_callSpecial?_slot (name:=Str.ofString "__next__") hT F.slot_enumerate_next
   (wpAny_call_entry F.slot_enumerate_next hT F.entry_enumerate_next ?_ (F.args_enumerate_next_1 _))))
  show y0u _ _ (field (.ref e) 2 >>= _) _ _ _
  refine y02 (wpAny_field he rfl (x:=.ref it) rfl ?_)
  refine y02 (z7s (I.ok.hd hc) hit (show s.heap.IsTuple a its.toArray from p) (by simp;omega) fun h' x he' hx'=>?_)
  obtain⟨o,ho,hc'⟩:=hx'
  refine y02 (wpAny_isInstance (T:="StopIteration") (b:=true) ⟨o,ho,hc'⟩ isSubtype_stop ?_)
  exact y06 ⟨rfl,I.turned (t':=s.toks) (fun b o hb q=>he' b o hb q) g0 g1 g3 g4 g5⟩
 self:=fun _ _ _ _ _ st h=>by
  obtain⟨⟨old,he⟩,_⟩:=st
  exact wpAny_pyIter_enum he h
def iEn (K:y00) (ta:TA):TI:=fun σ H R=>ta σ H fun vs H1=>∃a xs,vs=[.ref a]/\SqT K H1 a xs/\R (Ite K a) H1
section
variable {X:Cx} {es:List Expr} {k:Nat} {p pos p2:Pos} {a:Expr} {f:Fe}
theorem ztx {ta:TA} (hg:Gl X "enumerate") (hm:X.mg "enumerate"=none) (ha:PA X [a] ta) (hs:y0a [a] X.env=[(false,eval a X.env)]:=by rfl):PI X (.Tuple es k p2) (.Call (.Name "enumerate" p) [a] [] pos) (iEn X.K ta):=by
 intro pins s σ H R I h
 refine Call_ (zc1 I hg hm PyProof.Rows.boot_enumerate (y1v (thn (ha pos pins s σ H _ I h) fun us s1 ⟨vs,H1,I1,r1,q1⟩=>?_) hs rfl))
 obtain⟨a,xs,rfl,hq,q⟩:=q1
 cases r1 with
 | cons r rr =>
  cases rr
  cases r
  obtain⟨its,rv,pl,hz⟩:=I1.tuple hq
  have hal:a<s1.heap.objs.size:=by obtain⟨o,ho,_⟩:=pl;exact y0c ho
  refine z9d (show s1.heap.IsTuple a its.toArray from pl) fun h' he hit hsz hk=>wpAny_pyIter_enum he ?_
  refine⟨s1.heap.objs.size+1,[s1.heap.objs.size+1,s1.heap.objs.size],_,_,H1,rfl,I1.kept (t':=s1.toks) hk,zmp a s1.heap.objs.size (s1.heap.objs.size+1) (Nat.succ_ne_self _) (y0y hal) (y0y (Nat.lt_succ_of_lt hal)),⟨⟨_,he⟩,hit⟩,fun b hb=>?_,q⟩
  have hb':s1.heap.objs.size<=b:=by
   rcases y09.mp hb with rfl|hb
   ·exact y2k _
   ·have:b=s1.heap.objs.size:=by simpa using hb
    rw[this]
    exact y0p _
  exact I1.fpOk hb' (I1.hok.fresh hb')
theorem zoa {K:y00} {a:Addr} {F1:Addr->Prop} {H1:Hp} {ts:List T} {vs:List V} (hr:SqT K H1 a vs) (q:RepL K F1 H1 ts vs):ItOk K (Ite K a) F1 H1 (enum ts) where
 go:=fun i F H t kp d e=>by
  have hi:=(y0l.mp e).1
  simp only[enum,y14,List.length_zipIdx] at hi
  obtain⟨v,h1,_⟩:=q.get (y0v hi)
  exact⟨vs,v,kp.tup _ _ hr,h1⟩
 yld:=fun i F H t x H' kp d e y=>by
  obtain⟨p,v,hp,rfl,rfl,y⟩:=y
  have hi:=(y0l.mp e).1
  simp only[enum,y14,List.length_zipIdx] at hi
  obtain⟨v',h1,h2⟩:=(q.kp kp).get (y0v hi)
  have h3:=y vs (kp.tup _ _ hr)
  rw[h1] at h3
  cases h3
  have x1:=Ext.laid (o:=.tup [.int i,v]) d hp
  refine⟨F,x1,?_⟩
  have et:t=.tuple [.int i,ts[i]]:=by
   simp only[enum,y15,List.getElem?_zipIdx,y0v hi] at e
   simpa using e.symm
  subst et
  simp only[Rep]
  exact⟨p,_,rfl,SqT.of z0e,RepL.cons (by simp[Rep]) (RepL.cons (h2.ext x1) RepL.nil)⟩
 stop:=fun i F H kp hl=>⟨vs,kp.tup _ _ hr,by
  simp only[enum,y14,List.length_zipIdx] at hl
  rw[<- q.length]
  exact hl⟩
theorem zsu (hm:X.mg "enumerate"=none) (ha:PEv X a f) (hg:Gl X "enumerate":=by rfl) (hs:y0a [a] X.env=[(false,eval a X.env)]:=by rfl) (hs2:y0a [a] X.env=(false,eval a X.env)::y0a [] X.env:=by rfl) :
  PIt X (.Tuple es k p2) (.Call (.Name "enumerate" p) [a] [] pos) (z7v (z7a f)):=zl9 (ztx hg hm (z0r ha z38 hs2) hs) fun σ H R ⟨F₀,H₀,O,F,ε,ts,r,e,k⟩=>by
 simp only[z7v,z7a,y07,y01] at e
 obtain⟨us,⟨t,et,e⟩,rfl⟩:=e
 split at e
 ·cases e
  refine⟨F₀,H₀,O,F,ε,_,r,et,fun v F' H' x q=>?_⟩
  simp only[Rep] at q
  obtain⟨a,vs,rfl,hs,hr⟩:=q
  exact⟨a,vs,rfl,hs,k _ F' H' x (zoa hs hr)⟩
 ·cases e
end
end
section
variable [Tbl]
structure Cl (P:y0r) (w:World) (K:y00) (mg:Str->Option Value) (base:Heap) (x:Str) (k n:Nat) (d:List T->Option T):Prop where
 ex:∃fa fd ps,FnOk P w K mg base CX0 k fa fd ps (spT K n d)/\mg x=some (.ref fa)/\y08 K (.ref fa)=true/\z3d K fd ps []
section
variable {P:y0r} {w:World} {K:y00} {mg:Str->Option Value} {base:Heap} {x:Str} {k n:Nat} {d:List T->Option T}
theorem Cl.mono {j:Nat} (c:Cl P w K mg base x j n d) (h:j<=k):Cl P w K mg base x k n d:=by
 obtain⟨fa,fd,ps,F,r⟩:=c.ex
 exact⟨fa,fd,ps,F.mono h,r⟩
theorem Cl.mk' {fa:Addr} {fd:y0b} {ps:List Str} (F:FnOk P w K mg base CX0 k fa fd ps (spT K n d)) (m:mg x=some (.ref fa)) (kp:y08 K (.ref fa)=true) (b:z3d K fd ps []):Cl P w K mg base x k n d:=⟨fa,fd,ps,F,m,kp,b⟩
end
section
variable {X:Cx} {k n:Nat} {d:List T->Option T} {x:Str} {p pos:Pos} {e:Expr} {es:List Expr} {fs:List Fe}
theorem z0y (C:Cl X.prog X.w X.K X.mg X.base x k n d) (hr:Room k X.A) (ha:PAv X (e::es) fs) (hg:Gl X x:=by rfl) (hn:fs.length=n:=by rfl) (hdb:(x == ("__debug__":Str))=false:=by decide)
  (he:y0a (e::es) X.env=(false,eval e X.env)::y0a es X.env:=by rfl) (hpl:(backTo pos (y0a es X.env)).any (·.1)=false:=by rfl):PEv X (.Call (.Name x p) (e::es) [] pos) (opN d fs):=by
 obtain⟨fa,fd,ps,F,m,kp,b⟩:=C.ex
 exact zw6 F hr hg m kp b ha hn hdb he hpl
theorem q_gI {i:Int} {t:Tok} (hm:X.mg x=some (.int i t)) (hg:Gl X x:=by rfl) (hd:(x == ("__debug__":Str))=false:=by decide):PEv X (.Name x pos) (cst (.int i)):=zlm (v:=.int i) (zbf (v:=.int i) hg hm ⟨t,rfl⟩ hd) fun _ _=>by simp[Rep]
noncomputable def zxc (scope sc:Scope) (N:List Str) (caps:List (Nat×Str)):Bool :=
 decide (scope.kind=.function) && scope.names.all (fun y=>(decide (y.2≠.local) || decide (scope.names.lookup y.1=some .local)) && decide (y.2≠.cell) && (decide (y.2≠.free) || decide (sc.names.lookup y.1=some .cell) || decide (sc.names.lookup y.1=some .free)))
  && caps.all (fun q=>decide (N[q.1]?=some q.2) && decide (scope.names.lookup q.2=some .free)) && decide ((caps.map (·.1)).Nodup)
theorem zxb {scope sc:Scope} {own:List Str} {caps:List (Nat×Str)} (N:List Str) (hsc:X.env.scope=sc) (hN:X.N=N) (hc:X.calm=true) (h:zxc scope sc N caps=true):CompOk X scope own caps:=by
 simp only[zxc,y1c,List.all_eq_true,decide_eq_true_eq,Bool.or_eq_true] at h
 obtain⟨⟨⟨h1,h2⟩,h3⟩,h4⟩:=h
 refine⟨h1,fun y hy hl=>?_,fun y hy=>(h2 y hy).1.2,fun y hy hf=>?_,fun q hq=>by rw[hN];exact h3 q hq,h4,hc⟩
 ·rcases (h2 y hy).1.1 with z|z
  ·exact absurd hl z
  ·exact z
 ·have hk:X.env.kindOf y.1=sc.names.lookup y.1:=by rw[<- hsc];rfl
  rw[hk]
  rcases (h2 y hy).2 with (z|z)|z
  ·exact absurd hf z
  ·exact .inl z
  ·exact .inr z
end
theorem zaw {P:y0r} {w:World} {K:y00} {mg:Str->Option Value} {base:Heap} {x:Str} {st:Stmt} {f:Addr} {fd:y0b} {N ps:List Str} {k:Nat} {b:Fs} (F:Fun K x x st f fd) (S:FnScope N ps (z01 st)) (bd:z3d K fd ps []) (m:mg x=some (.ref f))
  (hb:∀(cdv:Value) (A:Around) (outer:List Env) (s:y04) (H:Hp) (E:XK),Room k (A.deeper (envOfC x (z01 st) s.heap.objs.size f cdv)) ->
   PBt (cxOf CX0 P w K mg base N x (z01 st) f cdv A outer s H E).nox (z0o st) b):Cl P w K mg base x (k+1) ps.length (runF b N.length):=.mk' (zsw F S hb) m F.kp bd
end
end D
end
section
namespace L2
open PySem PySem.Spec PyProof.Rows
section
variable {κ:Type} [DecidableEq κ]
def valV (kvs:List (κ×V)) (k:κ):Option V:=(kvs.find? fun kv=>decide (kv.1=k)).map (·.2)
def putK (kvs:List (κ×V)) (k:κ) (v:V):List (κ×V) :=
 if (kvs.any fun kv=>decide (kv.1=k))=true then kvs.map (fun kv=>if kv.1=k then (kv.1,v) else kv) else kvs++[(k,v)]
theorem zfq {p:κ×V} {r:List (κ×V)} {k:κ} (e:p.1=k):valV (p::r) k=some p.2:=by simp[valV,y1u,e]
theorem zfr {p:κ×V} {r:List (κ×V)} {k:κ} (e:¬p.1=k):valV (p::r) k=valV r k:=by simp[valV,y1u,e]
theorem zka (k:κ):∀kvs:List (κ×V),(kvs.any fun kv=>decide (kv.1=k))=(valV kvs k).isSome
 | []=>rfl
 | p::r=>by
  rw[List.any_cons]
  by_cases e:p.1=k
  ·simp only[zfq e,decide_eq_true e,Bool.true_or,Option.isSome_some]
  ·rw[zfr e,decide_eq_false e,Bool.false_or];exact zka k r
theorem zdm (kvs:List (κ×V)) (k:κ) (v:V):(putK kvs k v).length<=kvs.length+1:=by
 unfold putK
 split
 ·rw[y14];omega
 ·rw[y26,y0w,y2j];omega
theorem RelO.isSome_eq {o:Option V} {u:Option Value} (r:RelO o u):o.isSome=u.isSome:=by
 cases o with
 | none=>cases u with
  | none=>rfl
  | some _=>exact (show False from r).elim
 | some _=>cases u with
  | none=>exact (show False from r).elim
  | some _=>rfl
theorem KV.val {kvs:List (κ×V)} {vs:List (κ×Value)} (r:KV kvs vs) (k:κ):RelO (valV kvs k) (valueAt vs k):=by
 unfold KV at r
 induction r with
 | nil=>exact True.intro
 | @cons p q ps qs h t ih =>
  obtain⟨h1,h2⟩:=h
  by_cases e:p.1=k
  ·have e':q.1=k:=h1.symm.trans e
   have b:valueAt (q::qs) k=some q.2:=by simp[valueAt,y1u,e']
   rw[zfq e,b];exact h2
  ·have e':¬q.1=k:=fun z=>e (h1.trans z)
   have b:valueAt (q::qs) k=valueAt qs k:=by simp[valueAt,y1u,e']
   rw[zfr e,b];exact ih
theorem KV.any {kvs:List (κ×V)} {vs:List (κ×Value)} (r:KV kvs vs) (k:κ):(kvs.any fun kv=>decide (kv.1=k))=vs.any fun kv=>decide (kv.1=k):=by
 unfold KV at r
 induction r with
 | nil=>rfl
 | cons h t ih=>rw[List.any_cons,List.any_cons,ih,h.1]
theorem KV.repl {kvs:List (κ×V)} {vs:List (κ×Value)} (r:KV kvs vs) (k:κ) {y:V} {u:Value} (ry:RelV y u) :
  KV (kvs.map fun kv=>if kv.1=k then (kv.1,y) else kv) (vs.map fun kv=>if kv.1=k then (kv.1,u) else kv):=by
 unfold KV at r ⊢
 induction r with
 | nil=>exact .nil
 | @cons p q ps qs h t ih =>
  rw[y0e,y0e]
  refine .cons ?_ ih
  obtain⟨h1,h2⟩:=h
  by_cases e:p.1=k
  ·rw[if_pos e,if_pos (h1.symm.trans e)];exact⟨h1,ry⟩
  ·rw[if_neg e,if_neg (fun z=>e (h1.trans z))];exact⟨h1,h2⟩
theorem KV.put {kvs:List (κ×V)} {vs:List (κ×Value)} (r:KV kvs vs) (k:κ) {y:V} {u:Value} (ry:RelV y u):KV (putK kvs k y) (stored vs k u):=by
 unfold putK stored
 rw[r.any k]
 by_cases e:(vs.any fun kv=>decide (kv.1=k))=true
 ·rw[if_pos e,if_pos e];exact r.repl k ry
 ·rw[if_neg e,if_neg e];exact Paired.snoc r ⟨rfl,ry⟩
theorem KV.length {kvs:List (κ×V)} {vs:List (κ×Value)} (r:KV kvs vs):kvs.length=vs.length:=Paired.length r
end
theorem zr3 {P:y0r} {w:World} {k:Key} {u:Value} (r:RelV (kV k) u):(z1g P w).is k u=true:=by
 cases k with
 | inl i=>obtain⟨t,e⟩:=(show ∃t,u=Value.int i t from r);subst e;exact zdh P w i t
 | inr x=>obtain⟨t,e⟩:=(show ∃t,u=Value.str x t from r);subst e;exact zdg P w x t
theorem zi0 {P:y0r} {w:World}:∀{ks:List Key} {us:List Value},Vals (ks.map kV) us->ItemsAre (z1g P w) ks us
 | [],_,r=>by rw[y1a] at r;cases r;exact .nil
 | k::ks,_,r=>by
  rw[y0e] at r
  cases r with
  | cons h t=>exact .cons (zr3 h) (zi0 t)
abbrev KT (H:Hp):List (List Key×V)->List (List Key×Addr×Value)->Prop:=Paired fun p q=>p.1=q.1/\H q.2.1=some (.tup (p.1.map kV))/\RelV p.2 q.2.2
theorem KT.val {H:Hp} {kvs:List (List Key×V)} {xs:List (List Key×Addr×Value)} (r:KT H kvs xs) (k:List Key):RelO (valV kvs k) ((atKey xs k).map (·.2)):=by
 induction r with
 | nil=>exact True.intro
 | @cons p q ps qs h t ih =>
  obtain⟨h1,_,h2⟩:=h
  by_cases e:p.1=k
  ·have e':q.1=k:=h1.symm.trans e
   have b:atKey (q::qs) k=some q.2:=by simp[atKey,y1u,e']
   rw[zfq e,b];exact h2
  ·have e':¬q.1=k:=fun z=>e (h1.trans z)
   have b:atKey (q::qs) k=atKey qs k:=by simp[atKey,y1u,e']
   rw[zfr e,b];exact ih
theorem KT.repl {H:Hp} {kvs:List (List Key×V)} {xs:List (List Key×Addr×Value)} (r:KT H kvs xs) (k:List Key) {y:V} {u:Value} (ry:RelV y u) :
  KT H (kvs.map fun kv=>if kv.1=k then (kv.1,y) else kv) (xs.map (putAt k u)):=by
 induction r with
 | nil=>exact .nil
 | @cons p q ps qs h t ih =>
  rw[y0e,y0e]
  refine .cons ?_ ih
  obtain⟨h1,h2,h3⟩:=h
  unfold putAt
  by_cases e:p.1=k
  ·rw[if_pos e,if_pos (h1.symm.trans e)];exact⟨h1,h2,ry⟩
  ·rw[if_neg e,if_neg (fun z=>e (h1.trans z))];exact⟨h1,h2,h3⟩
theorem KT.put {H:Hp} {kvs:List (List Key×V)} {xs:List (List Key×Addr×Value)} (r:KT H kvs xs) (k:List Key) {b:Addr} {y:V} {u:Value} (hb:H b=some (.tup (k.map kV))) (ry:RelV y u) :
  KT H (putK kvs k y) (storedH xs k b u):=by
 have e:(kvs.any fun kv=>decide (kv.1=k))=(atKey xs k).isSome:=by
  rw[zka,(r.val k).isSome_eq,Option.isSome_map]
 unfold putK storedH
 rw[e]
 by_cases q:(atKey xs k).isSome=true
 ·rw[if_pos q,if_pos q];exact r.repl k ry
 ·rw[if_neg q,if_neg q];exact Paired.snoc r ⟨rfl,hb,ry⟩
theorem KT.keeps {H H':Hp} {kvs:List (List Key×V)} {xs:List (List Key×Addr×Value)} (r:KT H kvs xs) (ht:∀b ys,H b=some (.tup ys)->H' b=some (.tup ys)):KT H' kvs xs :=
 Paired.mapP r fun _ _ z=>⟨z.1,ht _ _ z.2.1,z.2.2⟩
section
variable {P:y0r} {w:World} {H:Hp} {h:Heap} {a:Addr}
theorem zvu {u:HO} (ok:HOk P w H h) (e:Rd H a u):z5g P w H h a u:=e.ok ok
theorem zv1 {kvs:List (Key×V)} (ok:HOk P w H h) (e:Rd H a (.dK kvs)):kvs.length<=y0k/\(a == sysModules)=false/\∃vs,KV kvs vs/\h.DictOf (z1g P w) a vs :=
 show z5g P w H h a (.dK kvs) from zvu ok e
theorem zym {kvs:List (Key×V)} (ok:HOk P w H h) (e:H a=some (.dK kvs)):kvs.length<=y0k/\(a == sysModules)=false/\∃vs,KV kvs vs/\h.DictOf (z1g P w) a vs:=zv1 ok (.inl e)
theorem zo5 {ks:List Key} (ok:HOk P w H h) (e:H a=some (.tup (ks.map kV))):(tupleKind (z1g P w)).is h ks a:=by
 obtain⟨_,its,r,o,h1,h2,n,h3⟩:=(show z5g P w H h a (.tup (ks.map kV)) from ok a _ e)
 exact⟨o,its.toArray,n,h1,h2,h3,by simpa using zi0 r⟩
theorem zv0 {kvs:List (List Key×V)} (ok:HOk P w H h) (e:Rd H a (.dT kvs)):kvs.length<=y0k/\(a == sysModules)=false /\
  ∃xs,KT H kvs xs/\h.DictOfH (tupleKind (z1g P w)) a xs:=by
 obtain⟨z,y,xs,r,o,es,ep,h1,h2,h3,h4,h5⟩:=(show z5g P w H h a (.dT kvs) from zvu ok e)
 refine⟨z,y,xs,r,o,es,ep,h1,h2,h3,h4,fun x hx=>?_,h5⟩
 have all:∀{l:List (List Key×V)} {m:List (List Key×Addr×Value)},KT H l m->∀x∈m,(tupleKind (z1g P w)).is h x.1 x.2.1:=by
  intro l m q
  induction q with
  | nil=>intro x hx;exact nomatch hx
  | @cons p q ps qs hq t ih =>
   intro x hx
   rcases y09.mp hx with e|hx
   ·subst e
    exact zo5 ok (by rw[<- hq.1];exact hq.2.1)
   ·exact ih x hx
 exact all r x hx
theorem zyk {kvs:List (List Key×V)} (ok:HOk P w H h) (e:H a=some (.dT kvs)):kvs.length<=y0k/\(a == sysModules)=false /\
  ∃xs,KT H kvs xs/\h.DictOfH (tupleKind (z1g P w)) a xs:=zv0 ok (.inl e)
end
noncomputable def DGet (H:Hp) (a:Addr) (y:V) (r:Option V):Prop :=
 (∃kvs k,Rd H a (.dK kvs)/\y=kV k/\r=valV kvs k)\/∃kvs k b,Rd H a (.dT kvs)/\y=.ref b/\H b=some (.tup (k.map kV))/\r=valV kvs k
noncomputable def DPut (H:Hp) (a:Addr) (y v:V) (H':Hp):Prop :=
 (∃kvs k,H a=some (.dK kvs)/\y=kV k/\kvs.length<y0k/\H'=upd H a (.dK (putK kvs k v))) \/
 ∃kvs k b,H a=some (.dT kvs)/\y=.ref b/\H b=some (.tup (k.map kV))/\kvs.length<y0k/\H'=upd H a (.dT (putK kvs k v))
theorem DGet.k {H:Hp} {a:Addr} {kvs:List (Key×V)} {k:Key} (e:H a=some (.dK kvs)):DGet H a (kV k) (valV kvs k):=.inl ⟨kvs,k,.inl e,rfl,rfl⟩
theorem DPut.k {H:Hp} {a:Addr} {kvs:List (Key×V)} {k:Key} {v:V} (e:H a=some (.dK kvs)) (hl:kvs.length<y0k):DPut H a (kV k) v (upd H a (.dK (putK kvs k v))):=.inl ⟨kvs,k,e,rfl,hl,rfl⟩
section
variable {X:Cx} {pins:List (Addr×Obj)} {σ:St} {H:Hp} {s:y04} {a:Addr} {y v:V} {u r:Value} {o:Option V} {A:Around} {E:Value->y04->Prop}
theorem Inv.big (I:Inv X pins σ H s):sysModules<s.heap.objs.size:=by
 have h:y0o<s.heap.objs.size:=(I.mod.glob.keeps I.bk).lt
 exact Nat.lt_trans (by decide) h
theorem zih {Q:Value->y04->Prop} (hu:A.units+1<cLine) (I:Inv X pins σ H s) (g:DGet H a y (some v)) (ry:RelV y u) (h:∀w' s',Inv X pins σ H s'->RelV v w'->Q w' s') :
  y0u (model X.prog X.w) A (getItem (.ref a) u) Q E s:=by
 rcases g with ⟨kvs,k,e,ey,l⟩|⟨kvs,k,b,e,ey,eb,l⟩
 ·subst ey
  obtain⟨z,hd,vs,rel,dd⟩:=zv1 I.hok e
  obtain⟨w',hw,rw'⟩:=RelO.some_of (v:=v) (o:=valueAt vs k) (by rw[l];exact rel.val k)
  exact wpAny_getItem_of (zr3 ry) dd.mapOf hw (h w' _ (I.tok _) rw')
 ·subst ey
  cases (show u=Value.ref b from ry)
  obtain⟨z,hd,xs,rel,dd⟩:=zv0 I.hok e
  obtain⟨w',hw,rw'⟩:=RelO.some_of (v:=v) (o:=(atKey xs k).map (·.2)) (by rw[l];exact rel.val k)
  obtain⟨p,hp,hp2⟩:=y07.mp hw
  refine wpAny_getItem_heap (tupleKind_room_in1 hu) (zo5 I.hok eb) dd hp ?_
  rw[hp2]
  exact h w' _ (I.tok _) rw'
theorem zoy {h':Heap} {t':Nat} {ob:HO} (I:Inv X pins σ H s) (mu:Mut (H a)) (hs:Heap.SameBut a s.heap h') (he:∃q,h'.get? a=some q) (new:z5g X.prog X.w (upd H a ob) h' a ob) :
  Inv X pins σ (upd H a ob) { s with heap:=h',toks:=t' } :=
 I.write (x:=a) (e:=a) mu (.inl rfl) (fun b q hb z=>(hs.2 b hb).trans z) he new
theorem zx7 {P:y0r} {w:World} {H':Hp} {h':Heap} {kvs:List (Key×V)} {vs:List (Key×Value)} (z:kvs.length<=y0k) (hd:(a == sysModules)=false) (rel:KV kvs vs) (dd:h'.DictOf (z1g P w) a vs) :
  z5g P w H' h' a (.dK kvs):=⟨z,hd,vs,rel,dd⟩
theorem zie {H':Hp} {Q:Unit->y04->Prop} (hu:A.units+1<cLine) (I:Inv X pins σ H s) (g:DPut H a y v H') (ry:RelV y u) (rv:RelV v r) (h:∀s',Inv X pins σ H' s'->Q () s') :
  y0u (model X.prog X.w) A (setItem (.ref a) u r) Q E s:=by
 rcases g with ⟨kvs,k,e,ey,l,eH⟩|⟨kvs,k,b,e,ey,eb,l,eH⟩
 ·subst ey eH
  obtain⟨z,hd,vs,rel,dd⟩:=zym I.hok e
  have hz:vs.length<=y0k:=by rw[<- rel.length];exact z
  have hl:(putK kvs k v).length<=y0k:=by have:=zdm kvs k v;omega
  refine wpAny_setItem_pairs (hsz:=hz) (zr3 ry) dd fun h' dd' hs=>h _ ?_
  have he:∃q,h'.get? a=some q:=let ⟨q,_,_,hq,_⟩:=dd';⟨q,hq⟩
  exact zoy I (by rw[e];exact True.intro) hs he (zx7 hl hd (rel.put k rv) dd')
 ·subst ey eH
  cases (show u=Value.ref b from ry)
  obtain⟨z,hd,xs,rel,dd⟩:=zyk I.hok e
  have hz:xs.length<=y0k:=by rw[<- Paired.length rel];exact z
  have hl:(putK kvs k v).length<=y0k:=by have:=zdm kvs k v;omega
  refine wpAny_setItem_heap (hsz:=hz) (tupleKind_room_in1 hu) (zo5 I.hok eb) dd fun h' dd' hs=>h _ ?_
  obtain⟨q,es,ep,hq,h2,h3,h4,_,h5⟩:=dd'
  refine zoy I (by rw[e];exact True.intro) hs ⟨q,hq⟩ ⟨hl,hd,_,(rel.put k eb rv).keeps fun c ys ec=>?_,q,es,ep,hq,h2,h3,h4,h5⟩
  rw[z0c (zyf ec e (fun z=>nomatch z))]
  exact ec
end
section
variable {X:Cx} {pins:List (Addr×Obj)} {σ:St} {H:Hp} {s:y04} {a:Addr} {kvs:List (Key×V)} {k:Key} {u:Value} {A:Around} {E:Value->y04->Prop}
end
def NoSl (i:Expr):Prop:=∀ov iv,subscripted i false ov iv=operate [ov,iv] (getItem ov iv)
theorem zte {prog:y0r} {w:World} {A:Around} {E:Value->y04->Prop} {s:y04} {env:Env} {value slice:Expr} {pos:Pos} {T id:String} {Q:Value->y04->Prop}
  (hl:typeLookup (.type T) "__getitem__"=pure (some (.builtin id))) (hs:NoSl slice)
  (h:y0u (model prog w) A (eval value env) (fun o s₁=>y0u (model prog w) A (eval slice env) (fun i s₂=>s₂.TypeIs o T/\y0u (model prog w) A (getItem o i) Q E s₂) E s₁) E s) :
  y0u (model prog w) A (eval (.Subscript value slice pos) env) Q E s:=by
 refine Subscript_ (y1e h (fun o s₁ h₁=>y1e h₁ (fun i s₂ h₂=>?_) fun _ _ x=>x) fun _ _ x=>x)
 obtain⟨hT,h₂⟩:=h₂
 unfold subscriptTail
 refine y02 ?_
 rw[getitemInPython_of_ne hT.not_modules]
 refine y02 (wpAny_specialOf hT hl ?_)
 have fin:y0u (model prog w) A (subscripted slice false o i) (fun r s₃=>y0u (model prog w) A (letTemporaryGo value o r >>= fun _=>pure r) Q E s₃) E s₂:=by
  rw[hs o i]
  exact wpAny_operating (y1e h₂ (fun r s₃ h₃=>y02 (wpAny_letTemporaryGo (y06 h₃))) fun _ _ x=>x)
 first
  | exact y06 (y02 fin)
  | exact y02 (y06 (y02 fin))
  | exact y02 fin
theorem zjv {X:Cx} {pins:List (Addr×Obj)} {σ:St} {H:Hp} {s:y04} {a:Addr} {y:V} {o:Option V} (I:Inv X pins σ H s) (g:DGet H a y o):s.TypeIs (.ref a) "dict":=by
 rcases g with ⟨kvs,k,e,_,_⟩|⟨kvs,k,b,e,_,_,_⟩
 ·obtain⟨_,_,vs,_,dd⟩:=zv1 I.hok e
  exact dd.typeIs
 ·obtain⟨_,_,xs,_,dd⟩:=zv0 I.hok e
  exact dd.typeIs
def zxv (td ty:TE):TE:=fun σ H Q=>td σ H fun x H1=>ty σ H1 fun y H2=>∃a v,x=.ref a/\DGet H2 a y (some v)/\Q v H2
def zy0 (td ty tv:TE):TS:=fun D σ H=>tv σ H fun v H1=>td σ H1 fun x H2=>ty σ H2 fun y H3=>∃a H4,x=.ref a/\DPut H3 a y v H4/\D.nx σ H4
noncomputable def zy1 (td ty tv:TE) (rd:V->V->Hp->VK->Prop):TS:=fun D σ H=>td σ H fun x H1=>ty σ H1 fun y H2=>∃a v,x=.ref a/\DGet H2 a y (some v) /\
 tv σ H2 fun y2 H3=>rd v y2 H3 fun z H4=>∃H5,DPut H4 a y z H5/\D.nx σ H5
section
variable {X:Cx} {o i e value:Expr} {pos pos' tpos:Pos} {td ty tv:TE}
theorem zu1 (hu:X.A.units+1<cLine) (ho:PE X o td) (hi:PE X i ty) (hs:NoSl i):PE X (.Subscript o i pos) (zxv td ty):=by
 intro pins s σ H Q I h
 refine zte PySem.F.slot_dict_getitem.lookup hs (thn (ho pins s σ H _ I h) fun u s1 ⟨x,H1,I1,rx,q1⟩=>thn (hi pins s1 σ H1 _ I1 q1) fun iv s2 ⟨y,H2,I2,ry,a,v,ex,g,q2⟩=>?_)
 subst ex
 obtain rfl:u=Value.ref a:=rx
 exact⟨zjv I2 g,zih hu I2 g ry fun w' s3 I3 rw'=>⟨v,H2,I3,rw',q2⟩⟩
theorem zts (hu:X.A.units+1<cLine) (ho:PE X o td) (hi:PE X i ty) (hv:PE X value tv) (hs:swapsWith value (some (.Subscript o i pos')) pos.line X.env=pure false) :
  PS X (.Assign [.Subscript o i pos'] value pos) (zy0 td ty tv):=by
 intro pins s σ H D I h
 refine wpAny_Assign_Subscript (thn (hv pins s σ H _ I h) fun r s1 ⟨v,H1,I1,rv,q1⟩=>thn (ho pins s1 σ H1 _ I1 q1) fun u s2 ⟨x,H2,I2,rx,q2⟩=>thn (hi pins s2 σ H2 _ I2 q2) fun iv s3 ⟨y,H3,I3,ry,a,H4,ex,g,q3⟩=>?_) hs
 subst ex
 obtain rfl:u=Value.ref a:=rx
 exact zie hu I3 g ry rv fun s4 I4=>⟨σ,H4,I4,q3⟩
theorem ztt {op:Operator} {rd:V->V->Hp->VK->Prop} (hu:X.A.units+1<cLine) (ho:PE X o td) (hi:PE X i ty) (hv:PE X value tv) (hop:InOp X op rd)
  (ha:∀ov iv new,augStore i ov iv new=(do holding [new,ov,iv] (setItem ov iv new);release [new,ov,iv] [];pure .next)):PS X (.AugAssign (.Subscript o i tpos) op value pos) (zy1 td ty tv rd):=by
 intro pins s σ H D I h
 refine wpAny_AugAssign_SubscriptAny (thn (ho pins s σ H _ I h) fun u s1 ⟨x,H1,I1,rx,q1⟩=>thn (hi pins s1 σ H1 _ I1 q1) fun iv s2 ⟨y,H2,I2,ry,a,v,ex,g,q2⟩=>?_) ha
 subst ex
 obtain rfl:u=Value.ref a:=rx
 refine zih hu I2 g ry fun w' s3 I3 rw'=>thn (hv pins s3 σ H2 _ I3 q2) fun w2 s4 ⟨y2,H3,I4,ry2,q3⟩=>thn (hop pins s4 σ H3 v y2 w' w2 _ I4 rw' ry2 q3) fun w3 s5 ⟨z,H4,I5,rz,H5,g5,q4⟩=>?_
 exact zie hu I5 g5 ry rz fun s6 I6=>⟨σ,H5,I6,q4⟩
end
section
variable {X:Cx} {pos:Pos}
end
section
variable {X:Cx} {pins:List (Addr×Obj)} {σ:St} {H:Hp} {s:y04} {a:Addr} {y d:V} {u r:Value} {o:Option V} {A:Around} {E:Value->y04->Prop}
end
section
variable {X:Cx} {o e f:Expr} {apos cpos:Pos} {td ty tx:TE}
end
section
variable {X:Cx} {pins:List (Addr×Obj)} {σ:St} {H:Hp} {s:y04} {a:Addr} {kvs:List (Key×V)} {A:Around} {E:Value->y04->Prop}
end
section
variable {X:Cx} {pins:List (Addr×Obj)} {σ:St} {H:Hp} {s:y04} {a:Addr} {y:V} {u:Value} {A:Around} {E:Value->y04->Prop}
end
end L2
end
section
namespace D
open PySem PySem.Spec PyProof.Rows L2
variable [Tbl]
section
variable {K:y00} {F:Addr->Prop} {H:Hp}
theorem RepD.get {k:D.Key} {t:T}:∀{kvs:List (D.Key×T)} {vs:List (D.Key×V)},RepD K F H kvs vs->D.getD kvs k=some t->∃v,valV vs k=some v/\Rep K F H t v
 | [],vs,h,e=>by cases e
 | p::r,vs,h,e=>by
  obtain⟨v,w,rfl,q,z⟩:=h
  simp only[D.getD,valV,y1u] at e ⊢
  by_cases e':p.1=k
  ·simp[e'] at e ⊢
   subst e
   exact q
  ·simp[e'] at e ⊢
   have:=RepD.get (k:=k) (t:=t) z (by simpa [D.getD] using e)
   simpa [valV] using this
theorem RepD.length:∀{kvs:List (D.Key×T)} {vs:List (D.Key×V)},RepD K F H kvs vs->kvs.length=vs.length
 | [],vs,h=>by
  have:vs=[]:=h
  subst this
  rfl
 | p::r,vs,h=>by
  obtain⟨v,w,rfl,q,z⟩:=h
  simp[RepD.length z]
theorem RepD.append:∀{kvs us:List (D.Key×T)} {vs ws:List (D.Key×V)},RepD K F H kvs vs->RepD K F H us ws->RepD K F H (kvs++us) (vs++ws)
 | [],us,vs,ws,h,r=>by
  have:vs=[]:=h
  subst this
  exact r
 | p::q,us,vs,ws,h,r=>by
  obtain⟨v,w,rfl,q',z⟩:=h
  exact⟨v,w++ws,rfl,q',RepD.append z r⟩
theorem RepD.mapPut {k:D.Key} {t:T} {v:V}:∀{kvs:List (D.Key×T)} {vs:List (D.Key×V)},RepD K F H kvs vs->Rep K F H t v->RepD K F H (kvs.map fun p=>if p.1=k then (k,t) else p) (vs.map fun kv=>if kv.1=k then (kv.1,v) else kv)
 | [],vs,h,q=>by
  have:vs=[]:=h
  subst this
  rfl
 | p::r,vs,h,q=>by
  obtain⟨v',w,rfl,q',z⟩:=h
  simp only[y0e]
  by_cases e:p.1=k
  ·rw[if_pos e,if_pos e]
   exact⟨v,_,by rw[e],q,RepD.mapPut z q⟩
  ·rw[if_neg e,if_neg e]
   exact⟨v',_,rfl,q',RepD.mapPut z q⟩
theorem RepD.put {k:D.Key} {t:T} {v:V} {kvs:List (D.Key×T)} {vs:List (D.Key×V)} (h:RepD K F H kvs vs) (q:Rep K F H t v):RepD K F H (putD kvs k t) (putK vs k v):=by
 have ha:(kvs.any fun p=>decide (p.1=k))=(vs.any fun kv=>decide (kv.1=k)):=by
  clear q
  induction kvs generalizing vs with
  | nil =>
   have:vs=[]:=h
   subst this
   rfl
  | cons p r ih =>
   obtain⟨v,w,rfl,q',z⟩:=h
   simp only[List.any_cons,ih z]
 unfold putD putK
 rw[ha]
 split
 ·exact RepD.mapPut h q
 ·exact h.append ⟨v,[],rfl,q,rfl⟩
theorem z9z {t:T} {k:D.Key} {v:V} {O:Addr->Prop} (e:z60 t=some k) (r:RepR K O F H t v):v=kV k:=by
 unfold z60 at e
 split at e
 ·cases e
  exact r.int
 ·cases e
  exact r.str
 ·cases e
end
section
variable {X:Cx} {a b e:Expr} {f g:Fe} {pos:Pos}
variable {x:Str} {px:Pos}
end
end D
end
section
namespace D
open PySem
variable [Tbl]
end D
end
section
namespace D
open PySem PySem.Spec PyProof.Rows L2
section
variable [Tbl]
theorem zsf {α β:Type} {R:α->β->Prop}:∀{l:List α} {ks:List β},Paired R l ks->l.length=ks.length
 | _,_,.nil=>rfl
 | _,_,.cons a b=>by simp[zsf b]
section
variable {prog:y0r} {w:World} {K:Type} [DecidableEq K] (knd:PySem.KeyKind prog w K)
variable {knd} {A:Around} {E:Value->y04->Prop} {s:y04}
def IsV (knd:PySem.KeyKind prog w K) (v:Value) (k:K):Prop:=knd.is k v=true/\v.scannable=true
section
variable {R:Result->y04->Prop} {I:Addr} {fp wr:List Addr} {G:Array GenState->Array GenState->Prop} {St:Nat->y04->Prop} {items:Array Value}
end
end
end
section
variable [Tbl]
section
variable {prog:y0r} {w:World} {A:Around} {E:Value->y04->Prop} {s:y04}
end
section
variable {prog:y0r} {w:World} {A:Around} {E:Value->y04->Prop} {s:y04}
variable {a I:Addr} {es:Array (Int×Value)} {ep:Nat} {t:SetTable}
end
end
section
variable [Tbl]
section
variable {prog:y0r} {w:World} {A:Around} {E:Value->y04->Prop} {s:y04}
variable {a I:Addr} {es:Array (Int×Value)} {ep:Nat} {t:SetTable}
end
end
section
variable [Tbl]
section
variable {prog:y0r} {w:World} {K:Type} [DecidableEq K] {knd:PySem.KeyKind prog w K} {A:Around} {E:Value->y04->Prop} {s:y04} {a:Addr} {ks:List K}
theorem zjx {R:List Value->y04->Prop} {T:String} {r d:Addr} {n:Nat} {P:Nat->Value->Prop} {OK:Heap->Prop} (W:PySem.W.KdlSrc prog w T r d n P OK) (hh:A.handled=none) (hok:OK s.heap) (hn:n<=y0k)
  (h:∀(h':Heap) (tk:Nat) (acc:Array Value),(∀b o,s.heap.get? b=some o->h'.get? b=some o)->s.heap.objs.size<=h'.objs.size->ItemsOf P acc n->R acc.toList { s with heap:=h',toks:=tk }) :
  y0u (model prog w) A (collect (.ref r)) R E s:=by
 have hlt:=W.there _ hok
 unfold collect
 refine y02 (wpAny_runValue (codeAny_builtin entry_proto_collect' ?_))
 rw[y1y PySem.F.plain_proto_collect _]
 show y0u _ A.in1 (newList [] >>= fun l=>again (.builtin "list.__iadd__" ⟨[l,.ref r],[]⟩)) _ _ s
 refine y02 (wpAny_newObj_type ?_)
 refine y06 ⟨plainId_quiet PySem.F.plain_list_iadd _,codeAny_builtin entry_list_iadd' ?_⟩
 rw[y1y PySem.F.plain_list_iadd _]
 have hS₁:(s.heap.push { cls:=.type "list",data:=.seq ([]:List Value).toArray }).get? s.heap.objs.size=some { cls:=.type "list",data:=.seq #[] }:=y0m _ rfl
 show y0u _ A.in1 (Builtin.List.listExtendWith (.ref s.heap.objs.size) (.ref r) (.ref s.heap.objs.size)) _ _ _
 have key:=PySem.W.kdl_extend (A:=A) (s:={ s with heap:=s.heap.push { cls:=.type "list",data:=.seq ([]:List Value).toArray } })
  (R:=fun (q:Result) (s':y04)=>∃(h':Heap) (tk:Nat) (acc':Array Value) (c':Nat),q=.ok (.ret (.ref s.heap.objs.size))/\s'={ s with heap:=h',toks:=tk } /\
   (∀b o,s.heap.get? b=some o->h'.get? b=some o)/\h'.get? s.heap.objs.size=some { cls:=.type "list",dict:=none,data:=.seq acc' c',slots:=#[] }/\ItemsOf P acc' n)
  W hh (W.keep _ _ hok fun b _ o e=>y03 _ e) s.heap.objs.size (y16 hlt.1) (y16 hlt.2) (.ref s.heap.objs.size) 0 hS₁
  (fun h' tk acc' c' hk hS' hacc=>⟨h',tk,acc',c',rfl,rfl,fun b o e=>hk b o (y0y (y0c e)) (y03 _ e),hS',hacc⟩) hn
 refine y1e key (fun fin s' x=>?_) fun e s' x=>?_
 ·cases fin with
  | done f =>
   obtain⟨h',tk,acc',c',e,rfl,hk,hS',hacc⟩:=x
   cases e
   show y0u _ A (load s.heap.objs.size >>= _) _ _ _
   refine y02 (wpAny_load hS' ?_)
   exact y06 (h h' tk acc' hk (Nat.le_of_lt (y0c hS')) hacc)
  | again c₁ =>
   refine⟨x.1,codeAny_mono x.2 fun q s₂ y=>?_⟩
   obtain⟨h',tk,acc',c',rfl,rfl,hk,hS',hacc⟩:=y
   show y0u _ A (load s.heap.objs.size >>= _) _ _ _
   refine y02 (wpAny_load hS' ?_)
   exact y06 (h h' tk acc' hk (Nat.le_of_lt (y0c hS')) hacc)
 ·obtain⟨_,_,_,_,e',_⟩:=x
  cases e'
end
end
section
variable [Tbl]
theorem z7d {α:Type} {r:α->α->Prop} (anti:∀a b,r a b->r b a->a=b):∀{l m:List α},l.Perm m->l.Pairwise r->m.Pairwise r->l=m
 | [],m,p,_,_=>(List.Perm.nil_eq p)
 | a::l,m,p,h1,h2=>by
  cases m with
  | nil=>exact absurd p.length_eq (by simp)
  | cons b m =>
   have hab:a=b:=by
    have ha:a∈b::m:=p.mem_iff.mp (by simp)
    have hb:b∈a::l:=p.mem_iff.mpr (by simp)
    rcases y09.mp ha with q|q
    ·exact q
    ·rcases y09.mp hb with z|z
     ·exact z.symm
     ·exact anti a b ((y19.mp h1).1 b z) ((y19.mp h2).1 a q)
   subst hab
   rw[z7d anti (List.perm_cons a |>.mp p) (y19.mp h1).2 (y19.mp h2).2]
theorem zdx (x:Int):∀l:List Int,(insI x l).Perm (x::l)
 | []=>.rfl
 | y::ys=>by
  unfold insI
  split
  ·exact .rfl
  ·exact ((zdx x ys).cons y).trans (.swap _ _ _)
theorem z8s:∀l:List Int,(zh1 l).Perm l
 | []=>.rfl
 | x::xs=>(zdx x _).trans ((z8s xs).cons x)
theorem zof (x:Int):∀{l:List Int},l.Pairwise (·<=·)->(insI x l).Pairwise (·<=·)
 | [],_=>by simp[insI]
 | y::ys,h=>by
  unfold insI
  have h':=y19.mp h
  split
  next q=>exact y19.mpr ⟨fun z hz=>by
   rcases y09.mp hz with rfl|hz
   ·exact q
   ·exact Int.le_trans q (h'.1 z hz),h⟩
  next q=>exact y19.mpr ⟨fun z hz=>by
   rcases y09.mp ((zdx x ys).mem_iff.mp hz) with rfl|hz
   ·omega
   ·exact h'.1 z hz,zof x h'.2⟩
theorem zfx:∀l:List Int,(zh1 l).Pairwise (·<=·)
 | []=>.nil
 | x::xs=>zof x (zfx xs)
theorem zkh {l m:List Int} (p:l.Perm m) (h:l.Pairwise (·<=·)):l=zh1 m:=z7d (fun a b h1 h2=>Int.le_antisymm h1 h2) (p.trans (z8s m).symm) h (zfx m)
theorem zjb {l m:List Int} (p:l.Perm m):zh1 l=zh1 m:=zkh ((z8s l).trans p) (zfx l)
abbrev sLe (x y:Str):Prop:=z5z y x=false
theorem zpx (x y:Str):z5z x y=ltCps x.cps.toList y.cps.toList:=(ltCps_eq _ _).symm
theorem zn4 {x y:Str} (h:z5z x y=true):sLe x y:=by
 unfold sLe z5z at *
 simp only[decide_eq_true_eq,decide_eq_false_iff_not] at *
 exact List.lt_asymm h
theorem zh8 {x y z:Str} (h1:sLe x y) (h2:sLe y z):sLe x z:=by
 unfold sLe z5z at *
 simp only[decide_eq_false_iff_not] at *
 exact List.not_lt.mpr (List.le_trans (List.not_lt.mp h1) (List.not_lt.mp h2))
theorem zq7 {x y:Str} (h1:sLe x y) (h2:sLe y x):x=y:=by
 unfold sLe z5z at *
 simp only[decide_eq_false_iff_not] at *
 have e:x.cps.toList=y.cps.toList:=List.le_antisymm (List.not_lt.mp h1) (List.not_lt.mp h2)
 cases x
 cases y
 simp only[Array.toList_inj] at e
 exact congrArg _ e
theorem zdw (x:Str):∀l:List Str,(insS x l).Perm (x::l)
 | []=>.rfl
 | y::ys=>by
  unfold insS
  split
  ·exact .rfl
  ·exact ((zdw x ys).cons y).trans (.swap _ _ _)
theorem z5h:∀l:List Str,(z81 l).Perm l
 | []=>.rfl
 | x::xs=>(zdw x _).trans ((z5h xs).cons x)
theorem zoe (x:Str):∀{l:List Str},l.Pairwise sLe->(insS x l).Pairwise sLe
 | [],_=>by simp[insS]
 | y::ys,h=>by
  unfold insS
  have h':=y19.mp h
  split
  next q =>
   have q':sLe x y:=by simpa [sLe] using q
   exact y19.mpr ⟨fun z hz=>by
    rcases y09.mp hz with rfl|hz
    ·exact q'
    ·exact zh8 q' (h'.1 z hz),h⟩
  next q =>
   have q':z5z y x=true:=by simpa using q
   exact y19.mpr ⟨fun z hz=>by
    rcases y09.mp ((zdw x ys).mem_iff.mp hz) with rfl|hz
    ·exact zn4 q'
    ·exact h'.1 z hz,zoe x h'.2⟩
theorem zfw:∀l:List Str,(z81 l).Pairwise sLe
 | []=>.nil
 | x::xs=>zoe x (zfw xs)
theorem zkg {l m:List Str} (p:l.Perm m) (h:l.Pairwise sLe):l=z81 m:=z7d (fun a b h1 h2=>zq7 h1 h2) (p.trans (z5h m).symm) h (zfw m)
theorem zja {l m:List Str} (p:l.Perm m):z81 l=z81 m:=zkg ((z5h l).trans p) (zfw l)
theorem zeu:∀(l:List Str) (p:Str),risingS p l=true->(p::l).Pairwise sLe
 | [],p,_=>by simp
 | x::r,p,h=>by
  simp only[risingS,y1c,Bool.not_eq_true'] at h
  have ih:=zeu r x h.2
  have hpx:sLe p x:=by
   unfold sLe
   rw[zpx]
   exact h.1
  refine y19.mpr ⟨fun z hz=>?_,ih⟩
  rcases y09.mp hz with rfl|hz
  ·exact hpx
  ·exact zh8 hpx ((y19.mp ih).1 z hz)
theorem zlh {l:List Str} (h:sortedS l=true):l.Pairwise sLe:=by
 cases l with
 | nil=>exact .nil
 | cons x r=>exact zeu r x h
section
variable {K:Type} [DecidableEq K]
end
end
section
variable [Tbl]
section
variable {prog:y0r} {w:World} {A:Around} {E:Value->y04->Prop} {s:y04}
inductive Srt:List Value->List Value->Prop where
 | ofI {vs out:List Value} {ns:List Int}:IntsAre vs ns->IntsAre out (zh1 ns)->Srt vs out
 | ofS {vs out:List Value} {ss:List Str}:StrsAre vs ss->StrsAre out (z81 ss)->Srt vs out
def zgr (vs:List Value):Prop:=vs.length<64/\((∃ns,IntsAre vs ns)\/∃ss,StrsAre vs ss)
theorem zfv {h:Heap} {a:Addr} {vs:List Value} {n:Nat} {out:Array Value} (ho:h.get? a=some (seqObj "list" vs.toArray n)) :
  (∃e,(sortedHeap h a vs out).get? a=some (seqObj "list" out e))/\∀b o,b≠a->h.get? b=some o->(sortedHeap h a vs out).get? b=some o:=by
 have hlt:=y0c ho
 unfold sortedHeap
 refine⟨?_,fun b o hb e=>?_⟩
 ·have h1:=get?_update_seq ho (fun _=>(#[]:Array Value))
  have h2:=y03 (seqObj "tuple" vs.toArray 0) h1
  have h3:=y03 (seqObj "list" #[] 0) h2
  exact⟨_,get?_update_seq h3 (fun _=>out)⟩
 ·rw[Heap.get?_update_other _ _ (Ne.symm hb)]
  exact y03 _ (y03 _ ((Heap.get?_update_other _ _ (Ne.symm hb)).trans e))
theorem zmv {a:Addr} {vs:List Value} {n:Nat} {P:Fin->y04->Prop} (ho:s.heap.get? a=some (seqObj "list" vs.toArray n)) (hs:zgr vs)
  (h:∀out:Array Value,Srt vs out.toList->P (.done (.ret .none)) { s with heap:=sortedHeap s.heap a vs out }):y0u (model prog w) A (Builtin.«list.sort» ⟨[.ref a],[]⟩) P E s:=by
 obtain⟨h64,⟨ns,hI⟩|⟨ss,hS⟩⟩:=hs
 ·refine list_sort_tree ho hI h64 fun out ns' a1 a2 a3=>h out (.ofI hI ?_)
  rw[<- zkh a2 a3]
  exact a1
 ·refine list_sort_treeK strKind_oneLt ho hS.keysOf (fun v₁ v₂ rest e=>keyKind_strs (by rw[<- e];exact hS)) h64 fun st' hp hs=>?_
  obtain⟨ss',h1,h2,h3⟩:=sorted_out_str hS hp hs
  refine h _ (.ofS hS ?_)
  rw[<- zkg h2 (zlh h3)]
  exact h1
theorem zj9 {r:Addr} {C:List Value->Prop} {Q:Value->y04->Prop}
  (hcol:∀(E':Value->y04->Prop) (R:List Value->y04->Prop),(∀h' tk d vs,(∀b o,s.heap.get? b=some o->h'.get? b=some o)->s.heap.objs.size<=h'.objs.size->C vs->R vs { s with heap:=h',toks:=tk,drawn:=d })->y0u (model prog w) A.in1 (collect (.ref r)) R E' s)
  (hC:∀vs,C vs->zgr vs)
  (h:∀h' tk d D e vs out,C vs->Srt vs out->(∀b o,s.heap.get? b=some o->h'.get? b=some o)->s.heap.objs.size<=D->h'.get? D=some (seqObj "list" out.toArray e)->Q (.ref D) { s with heap:=h',toks:=tk,drawn:=d }) :
  y0u (model prog w) A (call (.builtin "sorted") [.ref r]) Q E s:=by
 refine Calls.call_function_entry kind_sorted plain_sorted entry_sorted (args_sorted1 _) ?_
 unfold Builtin.«sorted»
 refine y02 (m:=checkCount "sorted" 1 1 _) (y06 ?_)
 refine y02 (hcol _ _ fun h' tk d vs kp hsz c=>?_)
 have hs:=hC vs c
 have hz:vs.length<=y0k:=by
  have:=hs.1
  rw[sizeLine_eq]
  omega
 refine y02 (wpAny_newList ?_ hz)
 have hoL:(h'.push (seqObj "list" vs.toArray 0)).get? h'.objs.size=some (seqObj "list" vs.toArray 0):=y0m _ rfl
 refine y02 (wpAny_holding (wpAny_call_entry slot_list_sort ⟨_,hoL,rfl⟩ entry_list_sort (zmv hoL hs fun out so=>⟨_,rfl,?_⟩) (args_list_sort _)))
 obtain⟨⟨e,he⟩,hk⟩:=zfv (out:=out) hoL
 refine y06 ⟨_,rfl,?_⟩
 exact h _ tk d h'.objs.size e vs out.toList c so (fun b o q=>hk b o (y0y (y0c (kp b o q))) (y03 _ (kp b o q))) hsz he
end
section
variable {X:Cx} {pins:List (Addr×Obj)} {σ:L2.St} {H:Hp} {s:y04}
theorem zdt {a:Addr} {o:HO} {t':Nat} {d':Drawn} {h':Heap} (I:Inv X pins σ H s) (k:∀b u,s.heap.get? b=some u->h'.get? b=some u) (hp:s.heap.objs.size<=a) (new:z5g X.prog X.w (upd H a o) h' a o) :
  Inv X pins σ (upd H a o) { s with heap:=h',toks:=t',drawn:=d' } :=
 I.call (ch:=[]) (g':=s.gens) (Un.laid k hp (I.hok.fresh hp)) (I.hok.laid k hp new) I.bare fun _ z=>nomatch z
theorem zdu:∀{us:List Value} {ns:List Int},IntsAre us ns->Vals (ns.map V.int) us
 | _,_,.nil=>.nil
 | _,_,.cons n t r=>.cons ⟨t,rfl⟩ (zdu r)
theorem zcn:∀{us:List Value} {ss:List Str},StrsAre us ss->Vals (ss.map V.str) us
 | _,_,.nil=>.nil
 | _,_,.cons n t r=>.cons ⟨t,rfl⟩ (zcn r)
theorem zcl:∀{us:List Value} {ks:List L2.Key},Vals (ks.map kV) us->Paired (IsV (z1g X.prog X.w)) us ks
 | [],[],_=>.nil
 | _,.inl i::ks,.cons r rs=>by
  obtain⟨t,rfl⟩:=r
  exact .cons ⟨zdh _ _ i t,rfl⟩ (zcl rs)
 | _,.inr x::ks,.cons r rs=>by
  obtain⟨t,rfl⟩:=r
  exact .cons ⟨zdg _ _ x t,rfl⟩ (zcl rs)
theorem zdq:∀{us:List Value} {ks:List L2.Key} {ns:List Int},Paired (IsV (z1g X.prog X.w)) us ks->ks=ns.map Sum.inl->IntsAre us ns
 | _,_,[],.nil,_=>.nil
 | _,_,n::ns,.cons a b,e=>by
  cases e
  have a1:=a.1
  rw[zfa] at a1
  rcases z1l a1 with ⟨i,t,e1,rfl⟩|⟨x,t,e1,rfl⟩
  ·cases e1
   exact .cons _ t (zdq b rfl)
  ·cases e1
theorem zdo:∀{us:List Value} {ks:List L2.Key} {ss:List Str},Paired (IsV (z1g X.prog X.w)) us ks->ks=ss.map Sum.inr->StrsAre us ss
 | _,_,[],.nil,_=>.nil
 | _,_,n::ns,.cons a b,e=>by
  cases e
  have a1:=a.1
  rw[zfa] at a1
  rcases z1l a1 with ⟨i,t,e1,rfl⟩|⟨x,t,e1,rfl⟩
  ·cases e1
  ·cases e1
   exact .cons _ t (zdo b rfl)
theorem z64 {α β:Type} (f:α->β):∀{l:List α} {m:List β},m.Perm (l.map f)->∃l':List α,m=l'.map f/\l'.Perm l:=by
 intro l m p
 generalize hx:l.map f=lf at p
 induction p generalizing l with
 | nil =>
  rw[List.map_eq_nil_iff] at hx
  subst hx
  exact⟨[],rfl,.rfl⟩
 | cons x _ ih =>
  cases l with
  | nil=>cases hx
  | cons a r =>
   simp only[y0e,List.cons.injEq] at hx
   obtain⟨l',e,q⟩:=ih hx.2
   exact⟨a::l',by rw[y0e,hx.1,e],q.cons a⟩
 | swap x y r =>
  match l,hx with
  | a::b::r',hx =>
   simp only[y0e,List.cons.injEq] at hx
   exact⟨b::a::r',by rw[y0e,y0e,hx.1,hx.2.1,hx.2.2],.swap _ _ _⟩
 | trans _ _ i1 i2 =>
  obtain⟨l1,e1,q1⟩:=i2 hx
  obtain⟨l2,e2,q2⟩:=i1 e1.symm
  exact⟨l2,e2,q2.trans q1⟩
def zpz (ks:List L2.Key) (ys:List V):Prop:=(∃ns:List Int,ks=ns.map Sum.inl/\ys=(zh1 ns).map V.int)\/∃ss:List Str,ks=ss.map Sum.inr/\ys=(z81 ss).map V.str
theorem zpy {vs out:List Value} {ks ks':List L2.Key} {ys:List V} (hv:Paired (IsV (z1g X.prog X.w)) vs ks') (hp:ks'.Perm ks) (so:Srt vs out) (hk:zpz ks ys):Vals ys out:=by
 rcases hk with ⟨ns,rfl,rfl⟩|⟨ss,rfl,rfl⟩
 ·obtain⟨ns',rfl,hp'⟩:=z64 Sum.inl hp
  have hI:=zdq hv rfl
  cases so with
  | ofI a b =>
   rename_i ms
   rw[<- zjb hp',show ns'=ms from ?_]
   ·exact zdu b
   ·rw[<- IntsAre.numsOf hI,<- IntsAre.numsOf a]
  | ofS a b =>
   cases a with
   | nil =>
    cases hI
    have:ns=[]:=List.Perm.eq_nil hp'.symm
    subst this
    exact zcn b
   | cons x t _=>cases hI
 ·obtain⟨ss',rfl,hp'⟩:=z64 Sum.inr hp
  have hS:=zdo hv rfl
  cases so with
  | ofS a b =>
   rename_i ms
   rw[<- zja hp',show ss'=ms from ?_]
   ·exact zcn b
   ·rw[<- StrsAre.strs hS,<- StrsAre.strs a]
  | ofI a b =>
   cases a with
   | nil =>
    cases hS
    have:ss=[]:=List.Perm.eq_nil hp'.symm
    subst this
    exact zdu b
   | cons x t _=>cases hS
theorem zgf {vs:List Value} {ks ks':List L2.Key} {ys:List V} (hz:ks.length<64) (hv:Paired (IsV (z1g X.prog X.w)) vs ks') (hp:ks'.Perm ks) (hk:zpz ks ys):zgr vs:=by
 refine⟨by rw[zsf hv,hp.length_eq];exact hz,?_⟩
 rcases hk with ⟨ns,rfl,_⟩|⟨ss,rfl,_⟩
 ·obtain⟨ns',rfl,_⟩:=z64 Sum.inl hp
  exact .inl ⟨_,zdq hv rfl⟩
 ·obtain⟨ss',rfl,_⟩:=z64 Sum.inr hp
  exact .inr ⟨_,zdo hv rfl⟩
theorem zmw {ks:List L2.Key} {ys:List V} (h:zpz ks ys):ys.length=ks.length:=by
 rcases h with ⟨ns,rfl,rfl⟩|⟨ss,rfl,rfl⟩
 ·simp[(z8s ns).length_eq]
 ·simp[(z5h ss).length_eq]
theorem zo3:∀{kvs:List (L2.Key×V)} {vs:List (L2.Key×Value)},KV kvs vs->kvs.map (·.1)=vs.map (·.1)
 | _,_,.nil=>rfl
 | _,_,.cons a b=>by simp[a.1,zo3 b]
theorem zin (hc:X.calm=true):za6 X (.builtin "sorted") (fun xs H Q=>∃p ks ys,xs=[.ref p]/\SqL X.K H p (ks.map kV)/\ks.length<64/\zpz ks ys/\∀l,H l=none->Q (.ref l) (upd H l (.lst ys))):=by
 intro pins s σ H xs us Q I r h
 obtain⟨p,ks,ys,rfl,hq,hz,hk,q⟩:=h
 obtain⟨u,rfl,rx⟩:=zgu r
 cases rx
 obtain⟨its,r',pl,hz'⟩:=I.list hq
 have hlen:=r'.length
 rw[y14] at hlen
 have hit:Paired (IsV (z1g X.prog X.w)) its ks:=zcl (by simpa using r')
 refine zj9 (C:=fun us=>us=its) (fun E' R hR=>collect_list pl.isList (hR _ s.toks s.drawn its (fun b o e=>?_) ?_ rfl) (by rw[sizeLine_eq];omega)) (fun us hu=>by subst hu;exact zgf hz hit .rfl hk) fun h' tk d D e us out hu so kp hD he=>?_
 ·exact (Heap.get?_update_other _ _ (y16 (y0c e))).trans (y03 _ e)
 ·rw[Heap.size_update,y18]
  exact y2k _
 ·subst hu
  exact⟨.ref D,_,zdt I (o:=.lst ys) kp hD ⟨by rw[zmw hk,sizeLine_eq];omega,out,e,zpy hit .rfl so hk,he⟩,rfl,q _ (I.hok.fresh hD)⟩
end
end
section
variable [Tbl]
theorem zco:∀{ts:List T} {ss:List Str},zcp ts=some ss->ts=ss.map .str
 | [],ns,e=>by
  cases e
  rfl
 | t::ts,ns,e=>by
  unfold zcp at e
  split at e
  ·rename_i h
   cases h
  ·rename_i h
   cases h
   simp only[y07] at e
   obtain⟨r,e1,rfl⟩:=e
   rw[zco e1]
   rfl
  ·cases e
section
variable {K:y00} {F:Addr->Prop} {H:Hp}
theorem zh9:∀(ns:List Int),RepL K F H (ns.map .int) (ns.map V.int)
 | []=>RepL.nil
 | n::ns=>RepL.cons (by simp[Rep]) (zh9 ns)
theorem zcx:∀(ns:List Str),RepL K F H (ns.map .str) (ns.map V.str)
 | []=>RepL.nil
 | n::ns=>RepL.cons (by simp[Rep]) (zcx ns)
theorem zbb:∀{ns:List Str} {vs:List V},RepL K F H (ns.map .str) vs->vs=ns.map V.str
 | [],vs,h=>by simpa [RepL] using h
 | n::ns,vs,h=>by
  simp only[y0e,RepL,Rep] at h
  obtain⟨v,r,rfl,rfl,z⟩:=h
  rw[zbb z]
  rfl
end
section
variable {X:Cx} {a e:Expr} {es:List Expr} {f:Fe} {fs:List Fe} {p p2 pos pos2:Pos}
end
section
variable {prog:y0r} {w:World} {A:Around} {E:Value->y04->Prop} {s:y04}
end
section
variable {X:Cx} {e st:Expr} {te:TE} {f:Fe} {pos p2:Pos}
end
end
section
variable [Tbl]
section
variable {prog:y0r} {w:World} {K:Type} [DecidableEq K] {knd:PySem.KeyKind prog w K} {A:Around} {E:Value->y04->Prop} {s:y04}
end
end
section
variable [Tbl]
section
variable {X:Cx} {a b e:Expr} {es rest:List Expr} {f g:Fe} {fs:List Fe} {p p2 pos pos2:Pos}
theorem znd {op:BoolOp} (h:PEv X a f):PEv X (.BoolOp op [a] pos) f:=zsc h
theorem zy6 {op:BoolOp} (h:PEv X a f):PEv X (.BoolOp op [a] pos) f:=zsc h
theorem zqd (ha:PEv X a f) (hb:PEv X (.BoolOp .And (b::rest) pos) g):PEv X (.BoolOp .And (a::b::rest) pos) (andV f g):=z0t (zwi ha hb) fun σ H Q ⟨F₀,H₀,O,F,ε,t,r,e,k⟩=>by
 simp only[andV,y01] at e
 obtain⟨x,ex,e⟩:=e
 refine⟨F₀,H₀,O,F,ε,x,r,ex,fun v F1 H1 x1 rx=>?_⟩
 split at e
 ·simp only[Rep] at rx
  refine⟨true,rx,?_⟩
  rw[if_pos rfl]
  exact⟨F₀,H₀,O,F1,ε,t,r.ext x1,e,fun v F' H' x2 q=>k v F' H' (x1.trans x2) q⟩
 ·cases e
  simp only[Rep] at rx
  refine⟨false,rx,?_⟩
  rw[if_neg (by decide)]
  exact k _ F1 H1 x1 (by simp[Rep])
 ·cases e
theorem q_or (ha:PEv X a f) (hb:PEv X (.BoolOp .Or (b::rest) pos) g):PEv X (.BoolOp .Or (a::b::rest) pos) (orV f g):=z0t (zyb ha hb) fun σ H Q ⟨F₀,H₀,O,F,ε,t,r,e,k⟩=>by
 simp only[orV,y01] at e
 obtain⟨x,ex,e⟩:=e
 refine⟨F₀,H₀,O,F,ε,x,r,ex,fun v F1 H1 x1 rx=>?_⟩
 split at e
 ·simp only[Rep] at rx
  refine⟨false,rx,?_⟩
  rw[if_neg (by decide)]
  exact⟨F₀,H₀,O,F1,ε,t,r.ext x1,e,fun v F' H' x2 q=>k v F' H' (x1.trans x2) q⟩
 ·cases e
  simp only[Rep] at rx
  refine⟨true,rx,?_⟩
  rw[if_pos rfl]
  exact k _ F1 H1 x1 (by simp[Rep])
 ·cases e
def tOt (K:y00) (f:Ev->Option (Option Int)):TO:=fun σ H Q=>∃F₀ H₀ O F ε i,RelE K F₀ H₀ O F H ε σ/\f ε=some i/\∀F' H',Ext F H F' H'->Q i H'
theorem zt5 {x:Option Expr} {t t':TO} (h:PO X x t) (k:∀σ H Q,t' σ H Q->t σ H Q):PO X x t':=fun pins s σ H Q I q=>h pins s σ H Q I (k σ H Q q)
theorem zws:PO X none (tOt X.K optN):=zt5 ztv fun σ H Q ⟨F₀,H₀,O,F,ε,i,r,e,k⟩=>by
 cases e
 exact k F H (Ext.refl r.dom)
theorem zwr (h:PEr X a f):PO X (some a) (tOt X.K (opt f)):=zt5 (ztu h) fun σ H Q ⟨F₀,H₀,O,F,ε,i,r,e,k⟩=>by
 simp only[opt,y01] at e
 obtain⟨x,ex,e⟩:=e
 refine⟨F₀,H₀,O,F,ε,x,r,ex,fun v F1 H1 x1 rx=>?_⟩
 split at e
 ·cases e
  exact⟨_,rx.int,k F1 H1 x1⟩
 ·cases e
noncomputable def rSlW (K:y00):V->Option Int->Option Int->Hp->VK->Prop:=fun x lo hi H Q=>∃a xs,x=.ref a/\SqT K H a xs/\(HT.sIx xs.length 0 lo=0/\HT.sIx xs.length xs.length hi=xs.length)/\Q (.ref a) H
theorem za0 {prog:y0r} {w:World} {A:Around} {E:Value->y04->Prop} {s:y04} {t sl:Addr} {items:Array Value} {vl vu:Value} {lo hi:Option Int} {Q:Value->y04->Prop} (ht:IsTup s.heap t items) (hs:s.heap.IsSliceOf sl vl vu .none) (pl:IsPart vl lo) (pu:IsPart vu hi)
  (hw:HT.sIx items.size 0 lo=0/\HT.sIx items.size items.size hi=items.size) (h:Q (.ref t) s):y0u (model prog w) A (getItem (.ref t) (.ref sl)) Q E s:=by
 obtain⟨os,hos,hcs,hds⟩:=id hs
 have hTs:s.TypeIs (.ref sl) "slice":=⟨os,hos,hcs⟩
 unfold getItem
 try with_reducible refine wpAny_holding ?_
 first|refine y02 (y06 ?_)|skip
 refine y02 (wpAny_sequenceKey ht.typeIs (by decide) ?_)
 refine y02 (wpAny_callSpecial?_slot (name:=Str.ofString "__getitem__") ht.typeIs y1i
  (wpAny_call_entry y1i ht.typeIs entry_tuple_getitem ?_ (args_tuple_getitem _ _)))
 show y0u _ _ (Builtin.Tuple.tupleItemsOf (.ref t) >>= _) _ _ s
 refine y02 (tupleItemsOf_ ht ?_)
 refine y02 (wpAny_typeOf hTs ?_)
 rw[if_pos (by decide)]
 refine y02 (HT.sliceApplied_gen hs pl pu ?_)
 rw[hw.1,hw.2]
 show y0u _ _ (if (((0:Nat):Int) == 0 && (1:Int) == 1 && (items.size - 0) == items.size)=true then _ else _) _ _ s
 rw[if_pos (by simp)]
 unfold Builtin.Tuple.tupleIsExact
 refine y02 (y02 (wpAny_typeOf ht.typeIs (y06 ?_)))
 rw[if_pos (by decide)]
 refine y02 (wpAny_rule ?_)
 exact y06 ⟨_,rfl,y06 h⟩
theorem zq1:SlR X (rSlW X.K):=by
 intro pins s σ H x v vl vu lo hi sl Q I rx hs pl pu h
 obtain⟨a,xs,rfl,hx,hw,q⟩:=h
 cases rx
 obtain⟨its,r,ht,hz⟩:=I.tuple hx
 have hlen:its.toArray.size=xs.length:=by rw[y0i];exact r.length.symm
 refine⟨"tuple",_,PyProof.Rows.slot_tuple_getitem.lookup,ht.typeIs,?_⟩
 exact za0 ht hs pl pu (by rw[hlen];exact hw) ⟨.ref a,H,I,rfl,q⟩
theorem zvt (n d:Nat) (o:Option Int):D.sIx n d o=HT.sIx n d o:=by
 cases o with
 | none=>rfl
 | some v =>
  unfold D.sIx HT.sIx
  dsimp only
  split <;> omega
theorem zg5 {K:y00} {F:Addr->Prop} {H:Hp} {ts:List T} {vs:List V} (h:RepL K F H ts vs) (lo hi:Option Int):RepL K F H (cutZ ts lo hi) (cutV vs lo hi):=by
 unfold cutZ cutV
 simp only[zvt,h.length]
 exact (h.drop _).take _
theorem ztp {lo hi:Option Expr} {fl fh:Ev->Option (Option Int)} (ha:PEr X e f) (hl:PO X lo (tOt X.K fl)) (hu:PO X hi (tOt X.K fh)):PEv X (.Subscript e (.Slice lo hi none p2) pos) (slice f fl fh):=z0t (zqj ((zvn.or zq1).or ztf) ha hl hu) fun σ H Q ⟨F₀,H₀,O,F,ε,t,r,e,k⟩=>by
 simp only[slice,y01] at e
 obtain⟨x,ex,l,el,h,eh,e⟩:=e
 refine⟨F₀,H₀,O,F,ε,x,r,ex,fun v F1 H1 x1 rx=>⟨F₀,H₀,O,F1,ε,l,r.ext x1,el,fun F2 H2 x2=>⟨F₀,H₀,O,F2,ε,h,(r.ext x1).ext x2,eh,fun F3 H3 x3=>?_⟩⟩⟩
 have x23:=x2.trans x3
 have x13:=x1.trans x23
 unfold oSl at e
 split at e
 ·cases e
  obtain⟨a,vs,rfl,hs,hr⟩:=(rx.ext x23).tup
  by_cases hw:HT.sIx vs.length 0 l=0/\HT.sIx vs.length vs.length h=vs.length
  ·refine .inl (.inr ⟨a,vs,rfl,hs,hw,k _ F3 H3 x13 ?_⟩)
   simp only[Rep]
   refine⟨a,vs,rfl,hs,?_⟩
   have:=zg5 hr l h
   unfold cutV at this
   rw[hw.1,hw.2,List.drop_zero,Nat.sub_zero,List.take_length] at this
   exact this
  ·refine .inl (.inl ⟨a,vs,rfl,hs,hw,fun q hq=>?_⟩)
   have x4:=Ext.laid (o:=.tup (cutV vs l h)) x13.dom hq
   refine k _ F3 _ (x13.trans x4) ?_
   simp only[Rep]
   exact⟨q,_,rfl,SqT.of z0e,(zg5 hr l h).ext x4⟩
 ·cases e
  obtain⟨a,vs,rfl,hs,hr⟩:=(rx.ext x23).lst
  refine .inr ⟨a,vs,rfl,.inl hs,fun q hq=>?_⟩
  have x4:=Ext.laidF (o:=.lst (cutV vs l h)) x13.dom hq
  refine k _ _ _ (x13.trans x4) ?_
  simp only[Rep]
  exact⟨q,_,rfl,.inr rfl,.inl z0e,(zg5 hr l h).ext x4⟩
 ·cases e
end
section
variable {X:Cx} {a e:Expr} {f:Fe} {p p2 pos pos2:Pos}
end
end
end D
end
section
namespace D
open PySem PySem.W PyProof.Rows
structure OrdK (n:Nat) (lt:Nat->Nat->Bool):Prop where
 asym:∀i j,lt i j=true->lt j i=false
 trans:∀i j k,lt i j=true->lt j k=true->lt i k=true
 tot:∀i j,i<n->j<n->i≠j->lt i j=true\/lt j i=true
def SP (lt:Nat->Nat->Bool) (p:Array Nat) (m:Nat):Prop:=∀i j,i<j->j<m->lt (p.getD i 0) (p.getD j 0)=true
def DP (lt:Nat->Nat->Bool) (p:Array Nat) (m:Nat):Prop:=∀i j,i<j->j<m->lt (p.getD j 0) (p.getD i 0)=true
section
variable {n:Nat} {lt:Nat->Nat->Bool} (O:OrdK n lt)
include O
end
end D
end
section
namespace D
open PySem
variable [Tbl]
end D
end
section
namespace D
open PySem PySem.Spec PyProof.Rows L2
section
variable [Tbl]
open PySem.W (kas_ask kas_sort kat_run kat_snds kat_lt kat_kind KatTups KatLex KatGo kas_item KasT)
section
variable {prog:y0r} {w:World} {A:Around} {E:Value->y04->Prop} {s:y04}
end
section
variable {X:Cx}
variable {e:Expr} {es:List Expr} {fs:List Fe} {p pos:Pos}
end
end
section
variable [Tbl]
theorem zi9:entryFor table "dict.update.loop"=some Builtin.«dict.update.loop»:=entryFor_of_tree (by kernel_rfl)
theorem zan:plainId "dict.update.loop"=true:=by decide +kernel
section
variable {prog:y0r} {w:World} {K:Type} [DecidableEq K] {knd:PySem.KeyKind prog w K} {A:Around}
theorem zlp {E:Value->y04->Prop} {s:y04} {p:Addr} {o:Obj} {n:Nat} {xs:Array Value} {Q:List Value->y04->Prop} (h1:s.heap.get? p=some o) (h2:o.cls=.type "tuple") (h3:o.data=.seq xs n) (h:Q xs.toList s):y0u (model prog w) A (Builtin.Dict.pairItems (.ref p)) Q E s:=by
 obtain⟨c,dct,dat,sl⟩:=o
 simp only at h2 h3
 subst h2 h3
 obtain⟨hp,g,d,tk,os⟩:=s
 have hT:(⟨hp,g,d,tk,os⟩:y04).TypeIs (.ref p) "tuple":=⟨_,h1,rfl⟩
 unfold Builtin.Dict.pairItems
 repeat (any_goals (first|assumption|wp_step))
theorem zlg {kvs:List (K×Value)} {k:K} {v:Value} (h:k∉kvs.map (·.1)):stored kvs k v=kvs++[(k,v)]:=by
 unfold stored
 rw[if_neg]
 intro q
 obtain⟨x,hx,e⟩:=List.any_eq_true.mp q
 exact h (y0n.mpr ⟨x,hx,by simpa using e⟩)
variable {R:Result->y04->Prop} {I:Addr} {fp wr:List Addr} {G:Array GenState->Array GenState->Prop} {St:Nat->y04->Prop} {items:Array Value}
variable {E:Value->y04->Prop} {s:y04}
end
end
section
variable [Tbl]
section
variable {X:Cx}
variable {a b e:Expr} {f g:Fe} {x y:Str} {p px py pos pos2:Pos}
end
end
section
variable [Tbl]
open AutoSeq1 (wpAny_loadPart')
section
variable {X:Cx} {es:List Expr} {k:Nat} {p pos p2:Pos} {a:Expr} {f:Fe}
end
end
section
variable [Tbl]
open AutoSeq1 (wpAny_loadPart')
section
variable {prog:y0r} {w:World} {A:Around} {E:Value->y04->Prop} {s:y04}
end
end
section
variable [Tbl]
section
variable {K:y00} {F:Addr->Prop} {H:Hp}
end
section
variable {X:Cx} {a e:Expr} {es:List Expr} {f:Fe} {fs:List Fe} {p p2 pos pos2:Pos}
end
end
section
variable [Tbl]
mutual
noncomputable def ltD:T->T->Option Bool
 | .int a,.int b=>some (decide (a<b))
 | .tuple xs,.tuple ys=>lexD xs ys
 | _,_=>none
noncomputable def lexD:List T->List T->Option Bool
 | [],[]=>some false
 | [],_::_=>some true
 | _::_,[]=>some false
 | x::xs,y::ys=>if y24 x y then lexD xs ys else ltD x y
end
noncomputable def LtAt (A:Around) (s:y04) (y x:Value) (b:Bool):Prop :=
 ∀(prog:y0r) (w:World) (E:Value->y04->Prop) (Q:Value->y04->Prop),Q (.bool b) s->y0u (model prog w) A (richCompare .Lt y x) Q E s
inductive GoodP (A:Around) (s:y04) (fin:Bool):List (Value×Value)->Bool->Prop
 | nil:GoodP A s fin [] fin
 | eq {y x:Value} {r:List (Value×Value)} {b:Bool}:SeqAt.EqAt A s y x true->GoodP A s fin r b->GoodP A s fin ((y,x)::r) b
 | lt {y x:Value} {r:List (Value×Value)} {b:Bool}:SeqAt.EqAt A s y x false->LtAt A s y x b->GoodP A s fin ((y,x)::r) b
section
open PySem.SeqAt
open PySem.AutoSeq1 (wpAny_loadPart')
open PySem.MeetsSeq PySem.MeetsSeq2 PySem.MeetsSeq3
theorem zgv (l b:Addr) (items items2:Array Value) (n n2:Nat) (dd dd2:Option Addr) (sl sl2:Array (Option Value)) (z:Bool) :
  Meets (Builtin.«tuple.__lt__» ⟨[.ref l,.ref b],[]⟩)
   (fun A R s=>s.heap.get? l=some { cls:=.type "tuple",dict:=dd,data:=.seq items n,slots:=sl }/\s.heap.get? b=some { cls:=.type "tuple",dict:=dd2,data:=.seq items2 n2,slots:=sl2 } /\
    GoodP A.in1 s (decide (items.size<items2.size)) (items.toList.zip items2.toList) z/\R (.ok (.ret (.bool z))) s) :=
 .of_wp fun prog w A R s h=>by
  obtain⟨hp,g,d,tk,os⟩:=s;obtain⟨hl,hb,hg,h⟩:=h
  have f2:=AutoSeq1.sub_tuple_tuple
  wp_walk using wpAny_loadPart' hl,wpAny_loadPart' hb,wpAny_forIn_list _ (fun rest b s'=>b.1=none/\s'=⟨hp,g,d,tk,os⟩/\GoodP A.in1 ⟨hp,g,d,tk,os⟩ (decide (items.size<items2.size)) rest z) _
  case turn =>
   rintro⟨y,x⟩ rest b s' ⟨hb',rfl,hG⟩
   cases hG with
   | eq he hG =>
    refine y02 (he prog w _ _ ?_)
    wp_walk
    exact⟨rfl,rfl,hG⟩
   | lt he hlt =>
    refine y02 (he prog w _ _ ?_)
    have hri:=hlt prog w
    wp_walk using hri
    exact⟨_,rfl,h⟩
  case fin =>
   rintro⟨b1,b2⟩ s' ⟨hb',rfl,hG⟩
   simp only at hb'
   subst hb'
   cases hG
   wp_walk
   exact⟨_,rfl,by simpa [Builtin.Tuple.tupleCompareSizes] using h⟩
  case h =>
   exact⟨rfl,rfl,hg⟩
mutual
theorem zqz:∀(da db:T) (A:Around) (s:y04) (a b:Value) (as bs:List Addr) (r:Bool),Reads s.heap a da as->Reads s.heap b db bs->da.canLay0=true->db.canLay0=true->A.units+min da.depth db.depth<cLine->ltD da db=some r->LtAt A s a b r
 | .int i,.int j,A,s,_,_,_,_,r,.int _ t,.int _ u,_,_,_,e=>by
  unfold ltD at e
  cases e
  exact fun prog w E Q q=>(PyProof.Rows.lt_int q:y0u (model prog w) A (compareOp .Lt (.int i t) (.int j u)) Q E s)
 | .tuple xs,.tuple ys,A,s,_,_,_,_,r,.tuple (a:=l) (o:=o) (vs:=vs) (n:=n) h1 h2 h3 h4,.tuple (a:=l') (o:=o') (vs:=vs') (n:=n') k1 k2 k3 k4,ha,hb,hu,e=>by
  unfold ltD at e
  simp only[PyData.canLay0] at ha hb
  simp only[y29] at hu
  have hG:=zfg xs ys A.in1 s vs.toList vs'.toList _ _ r h4 k4 ha hb (room_in hu) e
  obtain⟨cls,dd,data,sl⟩:=o
  obtain⟨cls2,dd2,data2,sl2⟩:=o'
  simp only at h2 h3 k2 k3
  subst h2 h3 k2 k3
  rw[y23,y23] at hG
  exact fun prog w E Q q=>richCompare_meets_room (op:=.Lt) ⟨_,h1,rfl⟩ ⟨_,k1,rfl⟩ PySem.F.slot_tuple_lt PySem.F.entry_tuple_lt (PySem.F.args_tuple_lt_2 _ _) (zgv l l' vs vs' n n' dd dd2 sl sl2 r)
   ⟨h1,k1,hG,show Value.bool r≠Value.notImplemented/\Q (.bool r) s from ⟨(fun x=>nomatch x),q⟩⟩ (by omega)
 | .none,_,_,_,_,_,_,_,_,_,_,_,_,_,e=>by simp[ltD] at e
 | .bool _,_,_,_,_,_,_,_,_,_,_,_,_,_,e=>by simp[ltD] at e
 | .str _,_,_,_,_,_,_,_,_,_,_,_,_,_,e=>by simp[ltD] at e
 | .list _,_,_,_,_,_,_,_,_,_,_,_,_,_,e=>by simp[ltD] at e
 | .dict _,_,_,_,_,_,_,_,_,_,_,_,_,_,e=>by simp[ltD] at e
 | .int _,.none,_,_,_,_,_,_,_,_,_,_,_,_,e=>by simp[ltD] at e
 | .int _,.bool _,_,_,_,_,_,_,_,_,_,_,_,_,e=>by simp[ltD] at e
 | .int _,.str _,_,_,_,_,_,_,_,_,_,_,_,_,e=>by simp[ltD] at e
 | .int _,.list _,_,_,_,_,_,_,_,_,_,_,_,_,e=>by simp[ltD] at e
 | .int _,.dict _,_,_,_,_,_,_,_,_,_,_,_,_,e=>by simp[ltD] at e
 | .int _,.tuple _,_,_,_,_,_,_,_,_,_,_,_,_,e=>by simp[ltD] at e
 | .tuple _,.none,_,_,_,_,_,_,_,_,_,_,_,_,e=>by simp[ltD] at e
 | .tuple _,.bool _,_,_,_,_,_,_,_,_,_,_,_,_,e=>by simp[ltD] at e
 | .tuple _,.str _,_,_,_,_,_,_,_,_,_,_,_,_,e=>by simp[ltD] at e
 | .tuple _,.list _,_,_,_,_,_,_,_,_,_,_,_,_,e=>by simp[ltD] at e
 | .tuple _,.dict _,_,_,_,_,_,_,_,_,_,_,_,_,e=>by simp[ltD] at e
 | .tuple _,.int _,_,_,_,_,_,_,_,_,_,_,_,_,e=>by simp[ltD] at e
theorem zfg:∀(xs ys:List T) (A:Around) (s:y04) (vs ws:List Value) (as bs:List Addr) (r:Bool),ReadsAll s.heap vs xs as->ReadsAll s.heap ws ys bs->y1h xs=true->y1h ys=true->A.units+min (y1f xs) (y1f ys)<cLine->lexD xs ys=some r->GoodP A s (decide (vs.length<ws.length)) (vs.zip ws) r
 | [],[],A,s,_,_,_,_,r,.nil,.nil,_,_,_,e=>by
  unfold lexD at e
  cases e
  exact .nil
 | [],_::_,A,s,_,_,_,_,r,.nil,.cons _ _,_,_,_,e=>by
  unfold lexD at e
  cases e
  exact GoodP.nil
 | _::_,[],A,s,_,_,_,_,r,.cons _ _,.nil,_,_,_,e=>by
  unfold lexD at e
  cases e
  exact GoodP.nil
 | x::xs,y::ys,A,s,_,_,_,_,r,.cons r1 r2,.cons q1 q2,ha,hb,hu,e=>by
  simp only[y1h,y1c] at ha hb
  simp only[y1f] at hu
  unfold lexD at e
  have he:=eqAt_reads x y A s _ _ _ _ r1 q1 ha.1 hb.1 (room_head hu)
  split at e
  next h =>
   rw[h] at he
   have ih:=zfg xs ys A s _ _ _ _ r r2 q2 ha.2 hb.2 (room_tail hu) e
   rw[y25]
   simp only[y0w,Nat.add_lt_add_iff_right]
   exact .eq he ih
  next h =>
   rw[Bool.not_eq_true] at h
   rw[h] at he
   rw[y25]
   exact .lt he (zqz x y A s _ _ _ _ r r1 q1 ha.1 hb.1 (room_head hu) e)
end
end
section
variable {prog:y0r} {w:World} {A:Around} {R:Result->y04->Prop} {I:Addr} {fp wr:List Addr} {G:Array GenState->Array GenState->Prop} {St:Nat->y04->Prop} {items:Array Value}
variable {E:Value->y04->Prop} {s:y04}
end
section
variable {X:Cx} {e:Expr} {es:List Expr} {fs:List Fe} {p pos:Pos}
end
end
section
variable [Tbl]
end
end D
end
section
namespace D
open PySem
inductive Ag where
 | v (f:Fe)|o (i:Nat)
abbrev Fx:=Ev->Option (T×Ev)
abbrev Fo:=Ev->Option Sl
def objS (i:Nat) (ε:Ev):Option Sl:=match ε[i]? with
 | some (some (.obj m c fs))=>some (.obj m c fs)
 | _=>none
noncomputable def agsE:List Ag->Ev->Option (List Sl)
 | [],_=>some []
 | .v f::as,ε=>(f ε).bind fun t=>(agsE as ε).map fun ss=>.imm t::ss
 | .o i::as,ε=>(objS i ε).bind fun s=>(agsE as ε).map fun ss=>s::ss
def roS:Sl->Sl
 | .obj _ c fs=>.obj .ro c fs
 | s=>s
def objF (c i:Nat) (ε:Ev):Option (Md×List Sl):=match ε[i]? with
 | some (some (.obj m c' fs))=>if c'=c then some (m,fs) else none
 | _=>none
def fld (c i j:Nat):Fe:=fun ε=>(objF c i ε).bind fun o=>match o.2[j]? with
 | some (.imm t)=>some t
 | some (.own ts)=>some (.list ts)
 | _=>none
def fldV (c i j:Nat):Fe:=fun ε=>(objF c i ε).bind fun o=>match o.2[j]? with
 | some (.imm t)=>some t
 | _=>none
def fldD (c i j:Nat):Ev->Option (List (Key×T)):=fun ε=>(objF c i ε).bind fun o=>match o.2[j]? with
 | some (.dic kvs)=>some kvs
 | _=>none
def fldL (c i j:Nat):Ev->Option (List T):=fun ε=>(objF c i ε).bind fun o=>match o.2[j]? with
 | some (.own ts)=>some ts
 | _=>none
def fGet (c i j:Nat) (k:Fe):Fe:=fun ε=>(k ε).bind fun t=>(z60 t).bind fun k=>(fldD c i j ε).bind fun kvs=>getD kvs k
def zor (c i j:Nat):Fe:=fun ε=>(fldD c i j ε).map fun kvs=>.tuple (kvs.map (·.2))
noncomputable def setF (c i j:Nat) (s:Sl) (ε:Ev):Option Ev:=(objF c i ε).bind fun o=>if o.1=.ro then none else
 if j<o.2.length then some (ε.set i (some (.obj o.1 c (o.2.set j s)))) else if j=o.2.length then some (ε.set i (some (.obj o.1 c (o.2++[s])))) else none
def asgF (c i j:Nat) (f:Fe):Fs:=fun ε=>(f ε).bind fun t=>(setF c i j (.imm t) ε).map .nx
def z8p (c i j:Nat) (f:Fe):Fs:=fun ε=>(f ε).bind fun t=>match t with
 | .list ts=>(setF c i j (.own ts) ε).map .nx
 | _=>none
def zgb:T->T->Option Int
 | .int i,.int j=>some (i+j)
 | _,_=>none
def augF (c i j:Nat) (f:Fe):Fs:=fun ε=>(fldV c i j ε).bind fun x=>(f ε).bind fun y=>(zgb x y).bind fun z=>(setF c i j (.imm (.int z)) ε).map .nx
def appF (c i j:Nat) (f:Fe):Fs:=fun ε=>(f ε).bind fun t=>(fldL c i j ε).bind fun ts=>if ts.length<big then (setF c i j (.own (ts++[t])) ε).map .nx else none
noncomputable def rmF (c i j:Nat) (f:Fe):Fs:=fun ε=>(f ε).bind fun t=>(fldL c i j ε).bind fun ts=>match t,zcp ts with
 | .str x,some ss=>if x∈ss then (setF c i j (.own ((ss.erase x).map .str)) ε).map .nx else none
 | _,_=>none
def zf1:T->Option T
 | .tuple xs=>some (.list xs)
 | .list xs=>some (.list xs)
 | _=>none
def zcb:T->Option T
 | .list xs=>if xs.length<64 then (zcp xs).map fun ss=>.list ((z81 ss).map .str) else none
 | _=>none
def popF (c i j:Nat):Fs:=fun ε=>(fldL c i j ε).bind fun ts=>(ts.getLast?).bind fun _=>(setF c i j (.own ts.dropLast) ε).map .nx
noncomputable def zhd (c i j:Nat) (k v:Fe):Fs:=fun ε=>(v ε).bind fun v=>(k ε).bind fun t=>(z60 t).bind fun k=>(fldD c i j ε).bind fun kvs=>if kvs.length<big then (setF c i j (.dic (putD kvs k v)) ε).map .nx else none
noncomputable def ziz (c i j:Nat) (k v:Fe):Fs:=fun ε=>(k ε).bind fun t=>(z60 t).bind fun k=>(fldD c i j ε).bind fun kvs=>(getD kvs k).bind fun x=>(v ε).bind fun y=>(zgb x y).bind fun z=>if kvs.length<big then (setF c i j (.dic (putD kvs k (.int z))) ε).map .nx else none
def zipD:List T->List T->Option (List (Key×T))
 | [],_=>some []
 | _::_,[]=>some []
 | k::ks,v::vs=>(z60 k).bind fun k=>(zipD ks vs).map fun r=>(k,v)::r
noncomputable def zmf (c i j:Nat) (ks vs:Fe):Fs:=fun ε=>(ks ε).bind fun tk=>(vs ε).bind fun tv=>match tk,tv with
 | .list lk,.tuple lv=>(zipD lk lv).bind fun kvs=>if (kvs.map (·.1)).Nodup/\kvs.length<=1000/\(∀t∈lk,(z60 t).isSome=true) then (setF c i j (.dic kvs) ε).map .nx else none
 | _,_=>none
def zr5 (f g:Fi):Fi:=fun ε=>(f ε).bind fun a=>(g ε).map fun b=>List.zipWith (fun x y=>.tuple [x,y]) a b
def z1s (c:Nat) (d:List Sl->Option T) (i:Nat) (fs:List Fe):Fe:=fun ε=>(objF c i ε).bind fun o=>(args fs ε).bind fun ts=>d (.obj .ro c o.2::ts.map .imm)
noncomputable def z0k (c:Nat) (d:List Sl->Option (T×List Sl)) (i:Nat) (fs:List Fe):Fx:=fun ε=>(objF c i ε).bind fun o=>if o.1=.ro then none else (args fs ε).bind fun ts =>
 (d (.obj .lent c o.2::ts.map .imm)).map fun r=>(r.1,ε.set i (some (.obj o.1 c r.2)))
noncomputable def zmd (c:Nat) (d:List Sl->Option (T×List Sl)) (fs:List Fe) (i:Nat) (gs:List Fe):Fx:=fun ε=>(objF c i ε).bind fun o=>if o.1=.ro then none else (args fs ε).bind fun ts=>(args gs ε).bind fun us =>
 (d (ts.map .imm++.obj .lent c o.2::us.map .imm)).map fun r=>(r.1,ε.set i (some (.obj o.1 c r.2)))
noncomputable def newO (c:Nat) (d:List Sl->Option (T×List Sl)) (fs:List Fe):Fo:=fun ε=>(args fs ε).bind fun ts=>(d (.obj .lent c []::ts.map .imm)).bind fun r=>match r.1 with
 | .none=>some (.obj .own c r.2)
 | _=>none
def zem (d:List T->Option Sl) (fs:List Fe):Fo:=fun ε=>(args fs ε).bind d
def z8f (c:Nat):Sl->Option (List Sl)
 | .obj .own c' fs=>if c'=c then some fs else none
 | _=>none
def ofO (c:Nat) (d:List Sl->Option T) (o:Fo) (fs:List Fe):Fe:=fun ε=>(o ε).bind fun s=>(z8f c s).bind fun os=>(args fs ε).bind fun ts=>d (.obj .ro c os::ts.map .imm)
def zbi (c j:Nat) (o:Fo):Fe:=fun ε=>(o ε).bind fun s=>(z8f c s).bind fun os=>match os[j]? with
 | some (.own ts)=>some (.list ts)
 | _=>none
def exX (f:Fx):Fs:=fun ε=>(f ε).map fun r=>.nx r.2
def rtnX (f:Fx):Fs:=fun ε=>(f ε).map fun r=>.rtm r.1 r.2
def rtnM (f:Fe):Fs:=fun ε=>(f ε).map fun t=>.rtm t ε
def asgX (i:Nat) (f:Fx):Fs:=fun ε=>(f ε).map fun r=>.nx (r.2.set i (some (.imm r.1)))
def asgO (i:Nat) (f:Fo):Fs:=fun ε=>(f ε).map fun s=>.nx (ε.set i (some s))
def rtnO (i:Nat):Fs:=fun ε=>match ε[i]? with
 | some (some (.obj .own c fs))=>some (.rto (.obj .own c fs))
 | _=>none
def zg3:Fs:=fun ε=>some (.rtm .none ε)
def zhq:Fs:=fun _=>none
def z58 (n:Nat) (ss:List Sl):Ev:=ss.map some++y0h (n - ss.length) none
def runR (b:Fs) (n:Nat) (ss:List Sl):Option T:=(b (z58 n ss)).bind fun o=>match o with
 | .rt t=>some t
 | .nx _=>some .none
 | _=>none
def z4z (c p:Nat) (ε:Ev):Option (List Sl):=match ε[p]? with
 | some (some (.obj .lent c' fs))=>if c'=c then some fs else none
 | _=>none
noncomputable def runM (c p:Nat) (b:Fs) (n:Nat) (ss:List Sl):Option (T×List Sl):=(b (z58 n ss)).bind fun o=>match o with
 | .rtm t ε=>(z4z c p ε).map fun fs=>(t,fs)
 | .nx ε=>(z4z c p ε).map fun fs=>(.none,fs)
 | _=>none
def ownS:Sl->Option Sl
 | .obj .own c fs=>some (.obj .own c fs)
 | _=>none
def runO (b:Fs) (n:Nat) (ts:List T):Option Sl:=(b ((ts.map fun t=>some (.imm t))++y0h (n - ts.length) none)).bind fun o=>match o with
 | .rto s=>ownS s
 | _=>none
end D
end
section
namespace D
open PySem PySem.Spec PyProof.Rows L2
section
variable [Tbl]
section
variable {K:y00} {F F' O:Addr->Prop} {H H':Hp} {E:En}
theorem RelF.length:∀{fs:List Sl} {vs:List V},RelF K F H fs vs->fs.length=vs.length
 | [],vs,r=>by
  have e:vs=[]:=r
  rw[e]
  rfl
 | s::ss,vs,r=>by
  obtain⟨v,z,rfl,_,r2⟩:=r
  simp[RelF.length r2]
theorem RelF.get:∀{fs:List Sl} {vs:List V} {j:Nat} {s:Sl},RelF K F H fs vs->fs[j]?=some s->∃v,vs[j]?=some v/\zb2 K F H s v
 | [],vs,j,s,r,e=>by simp at e
 | s::ss,vs,0,u,r,e=>by
  obtain⟨v,z,rfl,r1,_⟩:=r
  simp at e
  subst e
  exact⟨v,rfl,r1⟩
 | s::ss,vs,j+1,u,r,e=>by
  obtain⟨v,z,rfl,_,r2⟩:=r
  obtain⟨w,h1,h2⟩:=RelF.get (j:=j) (s:=u) r2 (by simpa using e)
  exact⟨w,by simpa using h1,h2⟩
theorem RelF.set:∀{fs:List Sl} {vs:List V} {j:Nat} {s:Sl} {v:V},RelF K F H fs vs->Kp K F H F' H'->(∀(k:Nat) (u:Sl) (w:V),k≠j->fs[k]?=some u->vs[k]?=some w->∀b∈fp0 u w,H' b=H b)->zb2 K F' H' s v->RelF K F' H' (fs.set j s) (vs.set j v)
 | [],vs,j,s,v,r,_,_,_=>by
  have e:vs=[]:=r
  subst e
  exact rfl
 | u::ss,vs,0,s,v,r,kp,hk,h=>by
  obtain⟨w,z,rfl,r1,r2⟩:=r
  refine⟨v,z,rfl,h,r2.keep kp fun b hb=>?_⟩
  have:∀{ss:List Sl} {z:List V} (n:Nat),(∀(k:Nat) (u:Sl) (w:V),ss[k]?=some u->z[k]?=some w->∀b∈fp0 u w,H' b=H b)->b∈fpF ss z->H' b=H b:=by
   intro ss
   induction ss with
   | nil=>intro z n _ hb;simp[fpF] at hb
   | cons s1 ss ih =>
    intro z n hk hb
    cases z with
    | nil=>simp[fpF] at hb
    | cons v1 z =>
     rw[show fpF (s1::ss) (v1::z)=fp0 s1 v1++fpF ss z from rfl] at hb
     rcases y11.mp hb with q|q
     ·exact hk 0 s1 v1 rfl rfl b q
     ·exact ih n (fun k u w e1 e2=>hk (k+1) u w (by simpa using e1) (by simpa using e2)) q
  exact this 0 (fun k u w e1 e2=>hk (k+1) u w (by omega) (by simpa using e1) (by simpa using e2)) hb
 | u::ss,vs,j+1,s,v,r,kp,hk,h=>by
  obtain⟨w,z,rfl,r1,r2⟩:=r
  exact⟨w,z.set j v,rfl,r1.keep kp fun b hb=>hk 0 u w (by omega) rfl rfl b hb,RelF.set r2 kp (fun k u w hkj e1 e2=>hk (k+1) u w (by omega) (by simpa using e1) (by simpa using e2)) h⟩
theorem RelF.snoc:∀{fs:List Sl} {vs:List V} {s:Sl} {v:V},RelF K F H fs vs->zb2 K F H s v->RelF K F H (fs++[s]) (vs++[v])
 | [],vs,s,v,r,h=>by
  have e:vs=[]:=r
  subst e
  exact⟨v,[],rfl,h,rfl⟩
 | u::ss,vs,s,v,r,h=>by
  obtain⟨w,z,rfl,r1,r2⟩:=r
  exact⟨w,z++[v],rfl,r1,RelF.snoc r2 h⟩
theorem zgj:∀{fs:List Sl} {vs:List V} {s:Sl} {v:V},fs.length=vs.length->fpF (fs++[s]) (vs++[v])=fpF fs vs++fp0 s v
 | [],[],s,v,_=>by simp[fpF]
 | u::ss,w::z,s,v,h=>by
  show fp0 u w++fpF (ss++[s]) (z++[v])=(fp0 u w++fpF ss z)++fp0 s v
  rw[zgj (by simpa using h),List.append_assoc]
 | [],w::z,_,_,h=>by simp at h
 | u::ss,[],_,_,h=>by simp at h
theorem z9j:∀{fs:List Sl} {vs:List V} {j:Nat} {s:Sl} {v:V} {b:Addr},fs[j]?=some s->vs[j]?=some v->b∈fp0 s v->b∈fpF fs vs
 | [],vs,j,s,v,b,e,_,_=>by simp at e
 | u::ss,[],j,s,v,b,_,e,_=>by simp at e
 | u::ss,w::z,0,s,v,b,e1,e2,h=>by
  simp at e1 e2
  subst e1 e2
  exact y11.mpr (.inl h)
 | u::ss,w::z,j+1,s,v,b,e1,e2,h=>y11.mpr (.inr (z9j (j:=j) (by simpa using e1) (by simpa using e2) h))
theorem zoq:∀{fs:List Sl} {vs:List V} {b:Addr},b∈fpF fs vs->∃(j:Nat) (s:Sl) (v:V),fs[j]?=some s/\vs[j]?=some v/\b∈fp0 s v
 | [],vs,b,h=>by simp[fpF] at h
 | u::ss,[],b,h=>by simp[fpF] at h
 | u::ss,w::z,b,h=>by
  rcases y11.mp (show b∈fp0 u w++fpF ss z from h) with q|q
  ·exact⟨0,u,w,rfl,rfl,q⟩
  ·obtain⟨j,s,v,e1,e2,h⟩:=zoq q
   exact⟨j+1,s,v,by simpa using e1,by simpa using e2,h⟩
theorem zgi:∀{fs:List Sl} {vs:List V} {j k:Nat} {s u:Sl} {v w:V} {b:Addr},(fpF fs vs).Nodup->j≠k->fs[j]?=some s->vs[j]?=some v->fs[k]?=some u->vs[k]?=some w->b∈fp0 s v->b∈fp0 u w->False
 | [],vs,j,k,s,u,v,w,b,_,_,e,_,_,_,_,_=>by simp at e
 | x::ss,[],j,k,s,u,v,w,b,_,_,_,e,_,_,_,_=>by simp at e
 | x::ss,y::z,j,k,s,u,v,w,b,nd,hjk,e1,e2,e3,e4,h1,h2=>by
  have nd':(fp0 x y++fpF ss z).Nodup:=nd
  rw[y1p] at nd'
  obtain⟨n1,n2,n3⟩:=nd'
  cases j with
  | zero =>
   cases k with
   | zero=>exact hjk rfl
   | succ k =>
    simp at e1 e2
    subst e1 e2
    exact n3 b h1 b (z9j (j:=k) (by simpa using e3) (by simpa using e4) h2) rfl
  | succ j =>
   cases k with
   | zero =>
    simp at e3 e4
    subst e3 e4
    exact n3 b h2 b (z9j (j:=j) (by simpa using e1) (by simpa using e2) h1) rfl
   | succ k=>exact zgi (j:=j) (k:=k) n2 (by omega) (by simpa using e1) (by simpa using e2) (by simpa using e3) (by simpa using e4) h1 h2
theorem z7c {fs:List Sl} {vs:List V} {j:Nat} {s:Sl} {v:V} {b:Addr} (h:b∈fpF (fs.set j s) (vs.set j v)):b∈fpF fs vs\/b∈fp0 s v:=by
 obtain⟨k,u,w,e1,e2,h⟩:=zoq h
 by_cases hk:j=k
 ·subst hk
  have l1:=(y0l.mp e1).1
  have l2:=(y0l.mp e2).1
  simp at l1 l2
  rw[y2c,if_pos rfl,if_pos l1] at e1
  rw[y2c,if_pos rfl,if_pos l2] at e2
  cases e1
  cases e2
  exact .inr h
 ·rw[y2c,if_neg hk] at e1 e2
  exact .inl (z9j e1 e2 h)
theorem z7b:∀{fs:List Sl} {vs:List V} {j:Nat} {s:Sl} {v:V},(fpF fs vs).Nodup->(fp0 s v).Nodup->(∀b∈fp0 s v,∀(k:Nat) (u:Sl) (w:V),k≠j->fs[k]?=some u->vs[k]?=some w->b∉fp0 u w)->(fpF (fs.set j s) (vs.set j v)).Nodup
 | [],vs,j,s,v,_,_,_=>by simp[fpF]
 | x::ss,[],j,s,v,_,_,_=>by cases j <;> simp[fpF]
 | x::ss,y::z,0,s,v,nd,n0,ha=>by
  have nd':(fp0 x y++fpF ss z).Nodup:=nd
  rw[y1p] at nd'
  show (fp0 s v++fpF ss z).Nodup
  rw[y1p]
  refine⟨n0,nd'.2.1,fun b hb c hc e=>?_⟩
  subst e
  obtain⟨k,u,w,e1,e2,h⟩:=zoq hc
  exact ha b hb (k+1) u w (by omega) (by simpa using e1) (by simpa using e2) h
 | x::ss,y::z,j+1,s,v,nd,n0,ha=>by
  have nd':(fp0 x y++fpF ss z).Nodup:=nd
  rw[y1p] at nd'
  show (fp0 x y++fpF (ss.set j s) (z.set j v)).Nodup
  rw[y1p]
  refine⟨nd'.1,z7b nd'.2.1 n0 fun b hb k u w hk e1 e2=>ha b hb (k+1) u w (by omega) (by simpa using e1) (by simpa using e2),fun b hb c hc e=>?_⟩
  subst e
  rcases z7c hc with q|q
  ·exact nd'.2.2 b hb b q rfl
  ·exact ha b q 0 x y (by omega) rfl rfl hb
theorem zqa (v:V):(rf v).Nodup:=by
 unfold rf
 split <;> simp
theorem zi5 (s:Sl) (v:V):(fp0 s v).Nodup:=by
 cases s <;> first|exact zqa v|simp[fp0]
theorem zb4:∀{ns:List Str} {vs:List V} {j:Nat} {f:Str} {v:V},ns.Nodup->ns[j]?=some f->vs[j]?=some v->(ns.zip vs).lookup f=some v
 | [],_,_,_,_,_,e,_=>by simp at e
 | _::_,[],_,_,_,_,_,e=>by simp at e
 | n::ns,w::vs,0,f,v,_,e1,e2=>by
  simp at e1 e2
  subst e1 e2
  simp[y1l]
 | n::ns,w::vs,j+1,f,v,nd,e1,e2=>by
  have ne:f≠n:=by
   rintro rfl
   exact (y0s.mp nd).1 (y1x (by simpa using e1))
  have hb:(f == n)=false:=beq_eq_false_iff_ne.mpr ne
  simp only[y25,y1l,hb]
  exact zb4 (j:=j) (y0s.mp nd).2 (by simpa using e1) (by simpa using e2)
theorem z18:∀{ns:List Str} {vs:List V} {f:Str},f∉ns->(ns.zip vs).lookup f=none
 | [],_,_,_=>by simp
 | _::_,[],_,_=>by simp
 | n::ns,w::vs,f,h=>by
  have ne:f≠n:=fun e=>h (by simp[e])
  have hb:(f == n)=false:=beq_eq_false_iff_ne.mpr ne
  simp only[y25,y1l,hb]
  exact z18 fun z=>h (y05 _ z)
theorem zmj:∀{ns:List Str} {vs:List V} {j:Nat} {f:Str} {v:V},ns.Nodup->ns[j]?=some f->j<vs.length->L2.putF f v (ns.zip vs)=ns.zip (vs.set j v)
 | [],_,_,_,_,_,e,_=>by simp at e
 | _::_,[],_,_,_,_,_,h=>by simp at h
 | n::ns,w::vs,0,f,v,_,e1,h=>by
  simp at e1
  subst e1
  simp[L2.putF]
 | n::ns,w::vs,j+1,f,v,nd,e1,h=>by
  have ne:n≠f:=by
   rintro rfl
   exact (y0s.mp nd).1 (y1x (by simpa using e1))
  simp only[y25,y1m,L2.putF,if_neg ne]
  rw[zmj (j:=j) (y0s.mp nd).2 (by simpa using e1) (by simpa using h)]
theorem zcj:∀{ns:List Str} {vs:List V} {f:Str} {v:V},ns.Nodup->ns[vs.length]?=some f->L2.putF f v (ns.zip vs)=ns.zip (vs++[v])
 | [],_,_,_,_,e=>by simp at e
 | n::ns,[],f,v,_,e1=>by
  simp at e1
  subst e1
  simp[L2.putF]
 | n::ns,w::vs,f,v,nd,e1=>by
  have ne:n≠f:=by
   rintro rfl
   exact (y0s.mp nd).1 (y1x (by simpa using e1))
  simp only[y25,y2o,L2.putF,if_neg ne]
  rw[zcj (y0s.mp nd).2 (by simpa using e1)]
end
structure ClOk (K:y00) (c:Nat) (C:Addr) (ns:List Str):Prop where
 ck:Tbl.ck c=some C
 cn:Tbl.cn c=ns
 cls:Cls K C
 nd:ns.Nodup
 na:∀f∈ns,zb3 K C f
 few:ns.length<1000
section
variable {K:y00} {F₀ F F1 O:Addr->Prop} {H H1:Hp} {E:En} {ε ε':Ev} {σ:L2.St} {c C i j:Nat} {ns:List Str}
theorem z24 {m:Md} {fs:List Sl} (h:objF c i ε=some (m,fs)):ε[i]?=some (some (.obj m c fs)):=by
 unfold objF at h
 split at h
 next m' c' fs' e =>
  split at h
  next hc =>
   cases h
   rw[e,hc]
  next=>cases h
 next=>cases h
theorem z6o {m:Md} {fs:List Sl} (k:ClOk K c C ns) (r:RelE K F₀ E O F H ε σ) (h:objF c i ε=some (m,fs)) :
  ∃a vs dx,σ[i]?=some (some (.ref a))/\H a=some (.ins C dx (ns.zip vs))/\vs.length<=ns.length/\z61 H a c vs/\RelF K F H fs vs/\(a::fpF fs vs).Nodup/\(∀b∈a::fpF fs vs,OwnM E O F m b)/\(m=.lent->a=E.la):=by
 obtain⟨v,h1,a,vs,rfl,ha,hf,nd,ow,la⟩:=r.val i _ (z24 h)
 obtain⟨hl,hx⟩:=id ha
 rw[k.ck] at hx
 obtain⟨dx,hx⟩:=hx
 rw[k.cn] at hl hx
 exact⟨a,vs,dx,h1,hx,hl,ha,hf,nd,ow,la⟩
theorem zko {m:Md} (hm:m≠.ro) {fs:List Sl}:(Sl.obj m c fs).isOwn=true:=by
 cases m with
 | ro=>exact absurd rfl hm
 | own=>rfl
 | lent=>rfl
theorem RelE.setFld {s:Sl} {v:V} {a dx:Addr} {vs:List V} (k:ClOk K c C ns) (r:RelE K F₀ E O F H ε σ) {m:Md} {fs:List Sl} (ho:objF c i ε=some (m,fs)) (h1:σ[i]?=some (some (.ref a))) (ha:z61 H a c vs) (he:setF c i j s ε=some ε')
  (rs:zb2 K F H s v) (own:∀b∈fp0 s v,¬F b/\O b/\b∉fpS H (.obj m c fs) (.ref a)/\∀(k:Nat) (u:Sl) (w:V),i≠k->ε[k]?=some (some u)->u.isOwn=true->σ[k]?=some (some w)->b∉fpS H u w) (hx:H a=some (.ins C dx (ns.zip vs)))
  {f:Str} (hj:ns[j]?=some f):Kp K F H F (upd H a (.ins C dx (L2.putF f v (ns.zip vs))))/\RelE K F₀ E O F (upd H a (.ins C dx (L2.putF f v (ns.zip vs)))) ε' σ:=by
 obtain⟨a',vs',dx',h1',hx',hl,ha',hf,nd,ow,la⟩:=z6o k r ho
 rw[h1] at h1'
 cases h1'
 have ev:vs'=vs:=by rw[<- ha.vals,<- ha'.vals]
 subst ev
 have hfp:fpS H (.obj m c fs) (.ref a)=a::fpF fs vs':=z32 ha
 rw[hfp] at own
 unfold setF at he
 rw[ho] at he
 simp only[y0q] at he
 split at he
 next=>cases he
 next hm =>
 have hlen:=hf.length
 have hown:(Sl.obj m c fs).isOwn=true:=zko hm
 have ho0:∀b,OwnM E O F m b <-> ¬F b/\O b:=fun b=>by
  cases m with
  | ro=>exact absurd rfl hm
  | own=>exact Iff.rfl
  | lent=>exact Iff.rfl
 have na:∀b∈fpF fs vs',b≠a:=fun b hb z=>(y0s.mp nd).1 (z▸hb)
 split at he
 next hjl =>
  cases he
  have hjv:j<vs'.length:=by omega
  rw[zmj k.nd hj hjv]
  have hm2:∀b∈a::fpF (fs.set j s) (vs'.set j v),b∈a::fpF fs vs'\/b∈fp0 s v:=fun b hb=>by
   rcases y09.mp hb with rfl|hb
   ·exact .inl y0f
   ·rcases z7c hb with q|q
    ·exact .inl (y05 _ q)
    ·exact .inr q
  have hat:∀o':Hp,o' a=some (.ins C dx (ns.zip (vs'.set j v)))->z61 o' a c (vs'.set j v):=fun o' e=>by
   refine⟨by rw[k.cn];simpa using hl,?_⟩
   rw[k.ck,k.cn]
   exact⟨dx,e⟩
  refine r.mutG (z24 ho) hown h1 (by rw[hfp];exact y0f) (fun kp=>⟨a,vs'.set j v,rfl,hat _ z0e,?_,?_,fun b hb=>?_,la⟩) fun b hb=>?_
  ·refine RelF.set hf kp (fun k u w _ e1 e2 b hb=>z0c (na b (z9j e1 e2 hb))) (rs.keep kp fun b hb=>z0c fun z=>(own b hb).2.2.1 (z▸y0f))
  ·refine y0s.mpr ⟨fun z=>?_,z7b (y0s.mp nd).2 (zi5 s v) fun b hb k u w _ e1 e2 q=>(own b hb).2.2.1 (y05 _ (z9j e1 e2 q))⟩
   rcases z7c z with q|q
   ·exact (y0s.mp nd).1 q
   ·exact (own a q).2.2.1 y0f
  ·rcases hm2 b hb with q|q
   ·exact ow b q
   ·exact (ho0 b).mpr ⟨(own b q).1,(own b q).2.1⟩
  ·rw[z32 (hat _ z0e)] at hb
   rcases hm2 b hb with q|q
   ·exact .inl (by rw[hfp];exact q)
   ·exact .inr (own b q).2.2.2
 next hjl =>
  split at he
  next hje =>
   cases he
   have hjv:j=vs'.length:=by omega
   rw[zcj k.nd (by rw[<- hjv];exact hj)]
   have hjn:j<ns.length:=(y0l.mp hj).1
   have hm2:∀b∈a::fpF (fs++[s]) (vs'++[v]),b∈a::fpF fs vs'\/b∈fp0 s v:=fun b hb=>by
    rw[zgj hlen] at hb
    rcases y09.mp hb with rfl|hb
    ·exact .inl y0f
    ·rcases y11.mp hb with q|q
     ·exact .inl (y05 _ q)
     ·exact .inr q
   have hat:∀o':Hp,o' a=some (.ins C dx (ns.zip (vs'++[v])))->z61 o' a c (vs'++[v]):=fun o' e=>by
    refine⟨by rw[k.cn];simp;omega,?_⟩
    rw[k.ck,k.cn]
    exact⟨dx,e⟩
   refine r.mutG (z24 ho) hown h1 (by rw[hfp];exact y0f) (fun kp=>⟨a,vs'++[v],rfl,hat _ z0e,?_,?_,fun b hb=>?_,la⟩) fun b hb=>?_
   ·exact RelF.snoc (hf.keep kp fun b hb=>z0c (na b hb)) (rs.keep kp fun b hb=>z0c fun z=>(own b hb).2.2.1 (z▸y0f))
   ·rw[zgj hlen]
    refine y0s.mpr ⟨fun z=>?_,y1p.mpr ⟨(y0s.mp nd).2,zi5 s v,fun b hb d hd e=>?_⟩⟩
    ·rcases y11.mp z with q|q
     ·exact (y0s.mp nd).1 q
     ·exact (own a q).2.2.1 y0f
    ·subst e
     exact (own b hd).2.2.1 (y05 _ hb)
   ·rcases hm2 b hb with q|q
    ·exact ow b q
    ·exact (ho0 b).mpr ⟨(own b q).1,(own b q).2.1⟩
   ·rw[z32 (hat _ z0e)] at hb
    rcases hm2 b hb with q|q
    ·exact .inl (by rw[hfp];exact q)
    ·exact .inr (own b q).2.2.2
  next=>cases he
theorem RelE.mutFld {s s':Sl} {a b:Addr} {vs:List V} {o':HO} (r:RelE K F₀ E O F H ε σ) {m:Md} {fs:List Sl} (ho:objF c i ε=some (m,fs)) (h1:σ[i]?=some (some (.ref a))) (ha:z61 H a c vs) (he:setF c i j s' ε=some ε')
  (hs:fs[j]?=some s) (hv:vs[j]?=some (.ref b)) (hi:b∈fp0 s (.ref b)) (hi':fp0 s' (.ref b)=[b]) (rs:Kp K F H F (upd H b o')->zb2 K F (upd H b o') s' (.ref b)):Kp K F H F (upd H b o')/\RelE K F₀ E O F (upd H b o') ε' σ:=by
 obtain⟨v,h1',a',vs',ev,ha',hf,nd,ow,la⟩:=r.val i _ (z24 ho)
 rw[h1] at h1'
 cases h1'
 cases ev
 have ev:vs'=vs:=by rw[<- ha.vals,<- ha'.vals]
 subst ev
 have hfp:fpS H (.obj m c fs) (.ref a)=a::fpF fs vs':=z32 ha
 unfold setF at he
 rw[ho] at he
 simp only[y0q] at he
 split at he
 next=>cases he
 next hm =>
 have hjl:j<fs.length:=(y0l.mp hs).1
 rw[if_pos hjl] at he
 cases he
 have hbm:b∈fpF fs vs':=z9j hs hv hi
 have hba:a≠b:=fun z=>(y0s.mp nd).1 (z▸hbm)
 have hat:z61 (upd H b o') a c vs':=ha.keep (z0c hba)
 have eset:vs'.set j (.ref b)=vs':=by
  obtain⟨hl,e⟩:=y0l.mp hv
  rw[<- e]
  exact List.set_getElem_self hl
 have hfe:∀x∈fpF (fs.set j s') vs',x∈fpF fs vs':=fun x hx=>by
  rw[<- eset] at hx
  rcases z7c hx with q|q
  ·exact q
  ·rw[hi'] at q
   rw[y0z.mp q]
   exact hbm
 refine r.mutG (z24 ho) (zko hm) h1 (by rw[hfp];exact y05 _ hbm) (fun kp=>⟨a,vs',rfl,hat,?_,?_,fun x hx=>?_,la⟩) fun x hx=>?_
 ·rw[<- eset]
  exact RelF.set hf kp (fun k u w hk e1 e2 x hx=>z0c fun z=>zgi (y0s.mp nd).2 (Ne.symm hk) hs hv e1 e2 hi (z▸hx)) (rs kp)
 ·refine y0s.mpr ⟨fun z=>(y0s.mp nd).1 (hfe a z),?_⟩
  rw[<- eset]
  refine z7b (y0s.mp nd).2 (by rw[hi'];simp) fun x hx k u w hk e1 e2 q=>?_
  rw[hi'] at hx
  rw[y0z.mp hx] at q
  exact zgi (y0s.mp nd).2 (Ne.symm hk) hs hv e1 e2 hi q
 ·rcases y09.mp hx with rfl|hx
  ·exact ow _ y0f
  ·exact ow x (y05 _ (hfe x hx))
 ·rw[z32 hat] at hx
  rw[hfp]
  rcases y09.mp hx with rfl|hx
  ·exact .inl y0f
  ·exact .inl (y05 _ (hfe x hx))
end
end
section
variable [Tbl]
section
variable {K:y00} {F₀ F O:Addr->Prop} {H:Hp} {E:En} {ε:Ev} {σ:L2.St} {c C i j:Nat} {ns:List Str} {f:Str}
theorem z7w {m:Md} {fs:List Sl} {s:Sl} (k:ClOk K c C ns) (r:RelE K F₀ E O F H ε σ) (h:objF c i ε=some (m,fs)) (hs:fs[j]?=some s) (hj:ns[j]?=some f) :
  ∃a vs dx v,σ[i]?=some (some (.ref a))/\H a=some (.ins C dx (ns.zip vs))/\(ns.zip vs).lookup f=some v/\z61 H a c vs/\vs[j]?=some v/\zb2 K F H s v/\(∀b∈fp0 s v,OwnM E O F m b/\b≠a):=by
 obtain⟨a,vs,dx,h1,hx,hl,ha,hf,nd,ow,la⟩:=z6o k r h
 obtain⟨v,hv,rv⟩:=hf.get hs
 refine⟨a,vs,dx,v,h1,hx,zb4 k.nd hj hv,ha,hv,rv,fun b hb=>⟨ow b (y05 _ (z9j hs hv hb)),fun z=>(y0s.mp nd).1 (z▸z9j hs hv hb)⟩⟩
theorem z9w (k:ClOk K c C ns) (hj:ns[j]?=some f):zb3 K C f:=k.na f (y1x hj)
end
section
variable {X:Cx} {c C i j:Nat} {ns:List Str} {f:Str} {o e a:Expr} {g h:Fe} {pos apos:Pos}
theorem z4d (k:ClOk X.K c C ns) (hn:PE X o (tVar i)) (hj:ns[j]?=some f:=by rfl) (hb:attributeBase o f X.env (eval o X.env)=eval o X.env:=by rfl):PEr X (.Attribute o f pos) (fld c i j) :=
 z0t (z9g hn hb) fun σ H Q ⟨F₀,H₀,O,F,ε,t,r,e,kk⟩=>by
 simp only[fld,y01] at e
 obtain⟨⟨m,fs⟩,ho,e⟩:=e
 split at e
 next t' hs =>
  cases e
  obtain⟨a,vs,dx,v,h1,hx,hl,ha,hv,rv,_⟩:=z7w k r ho hs hj
  exact⟨_,h1,a,C,dx,_,v,rfl,hx,k.cls,z9w k hj,hl,kk v F H (Ext.refl r.dom) (.inl rv)⟩
 next ts hs =>
  cases e
  obtain⟨a,vs,dx,v,h1,hx,hl,ha,hv,⟨b,us,eb,hb,rb⟩,_⟩:=z7w k r ho hs hj
  subst eb
  exact⟨_,h1,a,C,dx,_,_,rfl,hx,k.cls,z9w k hj,hl,kk _ F H (Ext.refl r.dom) (.inr ⟨ts,b,us,rfl,rfl,hb,rb⟩)⟩
 next=>cases e
theorem z37 (k:ClOk X.K c C ns) (hn:PE X o (tVar i)) (hj:ns[j]?=some f:=by rfl) (hb:attributeBase o f X.env (eval o X.env)=eval o X.env:=by rfl):PEv X (.Attribute o f pos) (fldV c i j) :=
 z0t (z9g hn hb) fun σ H Q ⟨F₀,H₀,O,F,ε,t,r,e,kk⟩=>by
 simp only[fldV,y01] at e
 obtain⟨⟨m,fs⟩,ho,e⟩:=e
 split at e
 next t' hs =>
  cases e
  obtain⟨a,vs,dx,v,h1,hx,hl,ha,hv,rv,_⟩:=z7w k r ho hs hj
  exact⟨_,h1,a,C,dx,_,v,rfl,hx,k.cls,z9w k hj,hl,kk v F H (Ext.refl r.dom) rv⟩
 next=>cases e
theorem zau {ε:Ev} {kvs:List (D.Key×T)} (e:fldD c i j ε=some kvs):∃m fs,objF c i ε=some (m,fs)/\fs[j]?=some (.dic kvs):=by
 simp only[fldD,y01] at e
 obtain⟨⟨m,fs⟩,ho,e⟩:=e
 split at e
 ·cases e
  exact⟨m,fs,ho,by assumption⟩
 ·cases e
theorem ze1 {ε:Ev} {ts:List T} (e:fldL c i j ε=some ts):∃m fs,objF c i ε=some (m,fs)/\fs[j]?=some (.own ts):=by
 simp only[fldL,y01] at e
 obtain⟨⟨m,fs⟩,ho,e⟩:=e
 split at e
 ·cases e
  exact⟨m,fs,ho,by assumption⟩
 ·cases e
theorem znc (k:ClOk X.K c C ns) (hu:X.A.units+1<cLine) (hn:PE X o (tVar i)) (ha:PEr X a g) (hj:ns[j]?=some f:=by rfl) (hb:attributeBase o f X.env (eval o X.env)=eval o X.env:=by rfl) (hs:NoSl a:=by intro _ _;rfl) :
  PEv X (.Subscript (.Attribute o f apos) a pos) (fGet c i j g):=z0t (zu1 hu (z9g hn hb) ha hs) fun σ H Q ⟨F₀,H₀,O,F,ε,t,r,e,kk⟩=>by
 simp only[fGet,y01] at e
 obtain⟨t',et,key,ek,kvs,ed,eg⟩:=e
 obtain⟨m,fs,ho,hs⟩:=zau ed
 obtain⟨a,vs,dx,v,h1,hx,hl,ha,hv,⟨b,us,eb,hb,rb⟩,_⟩:=z7w k r ho hs hj
 subst eb
 refine⟨_,h1,a,C,dx,_,_,rfl,hx,k.cls,z9w k hj,hl,F₀,H₀,O,F,ε,t',r,et,fun v F1 H1 x1 q1=>?_⟩
 have hb1:=x1.same.get hb
 have rb1:=RepD.kp (x1.kp (K:=X.K)) rb
 obtain⟨w,hw,rw'⟩:=rb1.get eg
 refine⟨b,w,rfl,?_,kk w F1 H1 x1 rw'⟩
 rw[z9z ek q1,<- hw]
 exact DGet.k hb1
theorem zkz {K:y00} {F₀ F O F1:Addr->Prop} {H H1:Hp} {E:En} {ε:Ev} {σ:L2.St} {b:Addr} (r:RelE K F₀ E O F H ε σ) (x:Ext F H F1 H1) (hn:H b=none) :
  ∀(k:Nat) (u:Sl) (w:V),ε[k]?=some (some u)->σ[k]?=some (some w)->b∉fpS H1 u w:=fun k u w ek hk hb=>by
 obtain⟨w',h1,h2⟩:=r.val k u ek
 rw[hk] at h1
 cases h1
 rw[(h2.extP x).2] at hb
 obtain⟨o,e,_⟩:=h2.at hb
 rw[hn] at e
 cases e
theorem z1r (k:ClOk X.K c C ns) (hn:PE X o (tVar i)) (he:PEv X e g) (hj:ns[j]?=some f:=by rfl) (hs:swapsWith e (some (.Attribute o f apos)) pos.line X.env=pure false:=by rfl) :
  PSt X (.Assign [.Attribute o f apos] e pos) (asgF c i j g):=z2r (znh hn he hs) fun D σ H ⟨F₀,H₀,O,F,ε,o,r,e,kk⟩=>by
 simp only[asgF,y01,y07] at e
 obtain⟨t,et,ε',es,rfl⟩:=e
 refine⟨F₀,H₀,O,F,ε,t,r,et,fun v F1 H1 x1 q1=>?_⟩
 have r1:=r.ext x1
 have es':=es
 unfold setF at es'
 simp only[y01] at es'
 obtain⟨⟨m,fs⟩,ho,_⟩:=es'
 obtain⟨a,vs,dx,h1,hx,hl,ha,_⟩:=z6o k r1 ho
 obtain⟨kp,r2⟩:=r1.setFld (s:=.imm t) (v:=v) k ho h1 ha es q1 (fun b hb=>by simp[fp0] at hb) hx hj
 refine⟨_,h1,a,C,dx,_,rfl,hx,k.cls,z9w k hj,?_,kk σ F1 _ (x1.kp.trans kp) r2⟩
 have:=k.few
 simp only[List.length_zip]
 omega
theorem z86 (k:ClOk X.K c C ns) (hn:PE X o (tVar i)) (he:PEn X e g) (hj:ns[j]?=some f:=by rfl) (hs:swapsWith e (some (.Attribute o f apos)) pos.line X.env=pure false:=by rfl) :
  PSt X (.Assign [.Attribute o f apos] e pos) (z8p c i j g):=z2r (znh hn he hs) fun D σ H ⟨F₀,H₀,O,F,ε,o,r,e,kk⟩=>by
 simp only[z8p,y01] at e
 obtain⟨t,et,e⟩:=e
 split at e
 next ts =>
  simp only[y07] at e
  obtain⟨ε',es,rfl⟩:=e
  refine⟨F₀,H₀,O,F,ε,ts,r,et,fun b us F1 H1 x1 hnew nf hb q1=>?_⟩
  have r1:=r.ext x1
  have es':=es
  unfold setF at es'
  simp only[y01] at es'
  obtain⟨⟨m,fs⟩,ho,_⟩:=es'
  obtain⟨a,vs,dx,h1,hx,hl,ha,_⟩:=z6o k r1 ho
  have hold:=zkz r x1 hnew
  obtain⟨kp,r2⟩:=r1.setFld (s:=.own ts) (v:=.ref b) k ho h1 ha es ⟨b,us,rfl,hb,q1⟩ (fun d hd=>by
   have:d=b:=by simpa [fp0,rf] using hd
   subst this
   exact⟨nf,r.fr _ hnew,hold i _ _ (z24 ho) h1,fun k u w _ ek _ hk=>hold k u w ek hk⟩) hx hj
  refine⟨_,h1,a,C,dx,_,rfl,hx,k.cls,z9w k hj,?_,kk σ F1 _ (x1.kp.trans kp) r2⟩
  have:=k.few
  simp only[List.length_zip]
  omega
 next=>cases e
theorem zj1 {x y:T} {z:Int} (h:zgb x y=some z):∃p q,x=.int p/\y=.int q/\z=p+q:=by
 unfold zgb at h
 split at h
 ·cases h
  exact⟨_,_,rfl,rfl,rfl⟩
 ·cases h
theorem zs4 (k:ClOk X.K c C ns) (hn:PE X o (tVar i)) (he:PEv X e g) (hj:ns[j]?=some f:=by rfl):PSt X (.AugAssign (.Attribute o f apos) .Add e pos) (augF c i j g) :=
 z2r (zng hn he zss) fun D σ H ⟨F₀,H₀,O,F,ε,o,r,e,kk⟩=>by
 simp only[augF,y01,y07] at e
 obtain⟨x,ex,y,ey,z,ez,ε',es,rfl⟩:=e
 simp only[fldV,y01] at ex
 obtain⟨⟨m,fs⟩,ho,ex⟩:=ex
 split at ex
 next t' hs =>
  cases ex
  obtain⟨p,q,rfl,rfl,rfl⟩:=zj1 ez
  obtain⟨a,vs,dx,v,h1,hx,hl,ha,hv,rv,_⟩:=z7w k r ho hs hj
  refine⟨_,h1,a,C,dx,_,v,rfl,hx,k.cls,z9w k hj,hl,F₀,H₀,O,F,ε,_,r,ey,fun w F1 H1 x1 q1=>?_⟩
  have r1:=r.ext x1
  have ev:v=.int p:=by simpa [zb2,Rep] using rv
  have ew:w=.int q:=by simpa [Rep] using q1
  obtain⟨a',vs',dx',h1',hx',hl',ha',_⟩:=z6o k r1 ho
  rw[h1] at h1'
  cases h1'
  obtain⟨kp,r2⟩:=r1.setFld (s:=.imm (.int (p+q))) (v:=.int (p+q)) k ho h1 ha' es (by simp[zb2,Rep]) (fun b hb=>by simp[fp0] at hb) hx' hj
  refine⟨p,q,ev,ew,dx',_,hx',?_,kk σ F1 _ (x1.kp.trans kp) r2⟩
  have:=k.few
  simp only[List.length_zip]
  omega
 next=>cases ex
theorem zkl (k:ClOk X.K c C ns) (hn:PE X o (tVar i)) {bpos cpos:Pos} (he:PEv X e g) (hj:ns[j]?=some f:=by rfl) (hb:attributeBase o f X.env (eval o X.env)=eval o X.env:=by rfl)
  (hs1:y0a [e] X.env=(false,eval e X.env)::y0a [] X.env:=by rfl)
  (hbase:attributeBase (.Attribute o f apos) "append" X.env (eval (.Attribute o f apos) X.env)=eval (.Attribute o f apos) X.env:=by rfl)
  (hfew:((backTo cpos (y0a [e] X.env)).all (fun x=>!x.1) && (backToKw cpos (keywordEach [] X.env)).all (fun x=>x.1.isSome)
   && decide (([e]:List Expr).length+([]:List Keyword).length+(if ([]:List Keyword).isEmpty then 0 else 1)<30))=true:=by rfl)
  (hline:(bpos.endLine == cpos.line)=true:=by rfl) (hplain:(backTo cpos (y0a [] X.env)).any (·.1)=false:=by rfl)
  (hsw:swapsWith (.Call (.Attribute (.Attribute o f apos) "append" bpos) [e] [] cpos) none pos.line X.env=pure false:=by rfl) :
  PSt X (.Expr (.Call (.Attribute (.Attribute o f apos) "append" bpos) [e] [] cpos) pos) (appF c i j g) :=
 z2r (zbe (zqm PySem.F.plainAttrs_list PySem.F.slot_list_append PySem.F.type_list_append zht (z9g hn hb) (z0r he z38 hs1) hbase hfew hline hs1 hplain) hsw) fun D σ H ⟨F₀,H₀,O,F,ε,o,r,e,kk⟩=>by
 simp only[appF,y01] at e
 obtain⟨t,et,ts,el,e⟩:=e
 split at e
 next hz =>
  simp only[y07] at e
  obtain⟨ε',es,rfl⟩:=e
  obtain⟨m,fs,ho,hs⟩:=ze1 el
  obtain⟨a,vs,dx,v,h1,hx,hl,ha,hv,⟨b,us,eb,hb,rb⟩,_⟩:=z7w k r ho hs hj
  subst eb
  refine⟨_,h1,a,C,dx,_,_,rfl,hx,k.cls,z9w k hj,hl,.inl ⟨rfl,_,SqL.of hb⟩,F₀,H₀,O,F,ε,t,r,et,fun v F1 H1 x1 q1=>?_⟩
  have r1:=r.ext x1
  obtain⟨a1,vs1,dx1,v1,h11,hx1,hl1,ha1,hv1,⟨b1,us1,eb1,hb1,rb1⟩,_⟩:=z7w k r1 ho hs hj
  rw[h1] at h11
  cases h11
  have ev:vs1=vs:=by rw[<- ha1.vals,<- (ha.keep ((x1.same.get hx).trans hx.symm)).vals]
  subst ev
  rw[hv] at hv1
  cases hv1
  cases eb1
  obtain⟨kp,r2⟩:=r1.mutFld (s':=.own (ts++[t])) (o':=.lst (us1++[v])) ho h1 ha1 es hs hv (by simp[fp0,rf]) rfl fun kp=>⟨b,_,rfl,z0e,(rb1.kp kp).append (RepL.cons (q1.kp kp) RepL.nil)⟩
  exact⟨b,us1,v,rfl,rfl,hb1,by rw[zcq,<- rb1.length];exact hz,kk σ F1 _ (x1.kp.trans kp) r2⟩
 next=>cases e
theorem zvr (k:ClOk X.K c C ns) (hu:X.A.units+1<cLine) (hn:PE X o (tVar i)) {spos:Pos} (ha:PEr X a h) (he:PEv X e g) (hj:ns[j]?=some f:=by rfl) (hb:attributeBase o f X.env (eval o X.env)=eval o X.env:=by rfl)
  (hs:swapsWith e (some (.Subscript (.Attribute o f apos) a spos)) pos.line X.env=pure false:=by rfl) :
  PSt X (.Assign [.Subscript (.Attribute o f apos) a spos] e pos) (zhd c i j h g):=z2r (zts hu (z9g hn hb) ha he hs) fun D σ H ⟨F₀,H₀,O,F,ε,o,r,e,kk⟩=>by
 simp only[zhd,y01] at e
 obtain⟨v,ev,t,et,key,ek,kvs,ed,e⟩:=e
 split at e
 next hz =>
  simp only[y07] at e
  obtain⟨ε',es,rfl⟩:=e
  obtain⟨m,fs,ho,hs⟩:=zau ed
  refine⟨F₀,H₀,O,F,ε,v,r,ev,fun vv F1 H1 x1 q1=>?_⟩
  have r1:=r.ext x1
  obtain⟨a,vs,dx,w,h1,hx,hl,ha,hv,⟨b,us,eb,hb,rb⟩,_⟩:=z7w k r1 ho hs hj
  subst eb
  refine⟨_,h1,a,C,dx,_,_,rfl,hx,k.cls,z9w k hj,hl,F₀,H₀,O,F1,ε,t,r1,et,fun vt F2 H2 x2 q2=>?_⟩
  have r2:=r1.ext x2
  have ha2:z61 H2 a c vs:=ha.keep ((x2.same.get hx).trans hx.symm)
  have rb2:=RepD.kp (x2.kp (K:=X.K)) rb
  obtain⟨kp,r3⟩:=r2.mutFld (s':=.dic (putD kvs key v)) (o':=.dK (putK us key vv)) ho h1 ha2 es hs hv (by simp[fp0,rf]) rfl fun kp=>⟨b,_,rfl,z0e,RepD.put (RepD.kp kp rb2) ((q1.ext x2).kp kp)⟩
  refine⟨b,_,rfl,?_,kk σ F2 _ ((x1.trans x2).kp.trans kp) r3⟩
  rw[z9z ek q2]
  exact DPut.k (x2.same.get hb) (by rw[zcq,<- rb.length];exact hz)
 next=>cases e
theorem ztk (k:ClOk X.K c C ns) (hu:X.A.units+1<cLine) (hn:PE X o (tVar i)) {spos:Pos} (ha:PEr X a h) (he:PEv X e g) (hj:ns[j]?=some f:=by rfl) (hb:attributeBase o f X.env (eval o X.env)=eval o X.env:=by rfl)
  (hag:∀ov iv new,augStore a ov iv new=(do holding [new,ov,iv] (setItem ov iv new);release [new,ov,iv] [];pure .next):=by intros;rfl) :
  PSt X (.AugAssign (.Subscript (.Attribute o f apos) a spos) .Add e pos) (ziz c i j h g):=z2r (ztt hu (z9g hn hb) ha he zss hag) fun D σ H ⟨F₀,H₀,O,F,ε,o,r,e,kk⟩=>by
 simp only[ziz,y01] at e
 obtain⟨t,et,key,ek,kvs,ed,x,eg,y,ey,z,ez,e⟩:=e
 split at e
 next hz =>
  simp only[y07] at e
  obtain⟨ε',es,rfl⟩:=e
  obtain⟨p,q,rfl,rfl,rfl⟩:=zj1 ez
  obtain⟨m,fs,ho,hs⟩:=zau ed
  obtain⟨a,vs,dx,w,h1,hx,hl,ha,hv,⟨b,us,eb,hb,rb⟩,_⟩:=z7w k r ho hs hj
  subst eb
  refine⟨_,h1,a,C,dx,_,_,rfl,hx,k.cls,z9w k hj,hl,F₀,H₀,O,F,ε,t,r,et,fun vt F1 H1 x1 q1=>?_⟩
  have r1:=r.ext x1
  have rb1:=RepD.kp (x1.kp (K:=X.K)) rb
  have hb1:=x1.same.get hb
  obtain⟨w,hw,rw'⟩:=rb1.get eg
  have ew:w=.int p:=by simpa [Rep] using rw'
  subst ew
  refine⟨b,_,rfl,by rw[z9z ek q1,<- hw];exact DGet.k hb1,F₀,H₀,O,F1,ε,_,r1,ey,fun vv F2 H2 x2 q2=>?_⟩
  have ev:vv=.int q:=by simpa [Rep] using q2
  subst ev
  refine⟨p,q,rfl,rfl,?_⟩
  have r2:=r1.ext x2
  have x12:=x1.trans x2
  have ha2:z61 H2 a c vs:=ha.keep ((x12.same.get hx).trans hx.symm)
  have rb2:=RepD.kp (x12.kp (K:=X.K)) rb
  obtain⟨kp,r3⟩:=r2.mutFld (s':=.dic (putD kvs key (.int (p+q)))) (o':=.dK (putK us key (.int (p+q)))) ho h1 ha2 es hs hv (by simp[fp0,rf]) rfl fun kp=>⟨b,_,rfl,z0e,RepD.put (RepD.kp kp rb2) (by simp[Rep])⟩
  refine⟨_,?_,kk σ F2 _ (x12.kp.trans kp) r3⟩
  rw[z9z ek q1]
  exact DPut.k (x12.same.get hb) (by rw[zcq,<- rb.length];exact hz)
 next=>cases e
end
end
section
variable [Tbl]
noncomputable def zj3 (K:y00) (F:Addr->Prop) (H:Hp) (σ:L2.St):List Ag->List Sl->List V->Prop
 | [],[],[]=>True
 | .v _::as,s::ss,v::vs=>(∃t,s=.imm t/\Rep K F H t v)/\zj3 K F H σ as ss vs
 | .o i::as,s::ss,v::vs=>σ[i]?=some (some v)/\zj3 K F H σ as ss vs
 | _,_,_=>False
def tAG (K:y00) (as:List Ag):TA:=fun σ H Q=>∃F₀ E O F ε ss,RelE K F₀ E O F H ε σ/\agsE as ε=some ss/\∀vs F' H',Ext F H F' H'->zj3 K F' H' σ as ss vs->Q vs H'
abbrev PAg (X:Cx) (es:List Expr) (as:List Ag):Prop:=PA X es (tAG X.K as)
theorem zxl {X:Cx} {e:List Expr} {t t':TA} (h:PA X e t) (k:∀σ H Q,t' σ H Q->t σ H Q):PA X e t':=zj4 h k
section
variable {X:Cx} {e:Expr} {es:List Expr} {as:List Ag} {f:Fe} {i:Nat}
theorem zxk:PAg X [] []:=zxl z38 fun σ H Q ⟨F₀,E,O,F,ε,ss,r,e,k⟩=>by
 cases e
 exact k [] F H (Ext.refl r.dom) trivial
theorem ag_v (h1:PEv X e f) (h2:PAg X es as) (hs:y0a (e::es) X.env=(false,eval e X.env)::y0a es X.env:=by rfl):PAg X (e::es) (.v f::as):=zxl (z0r h1 h2 hs) fun σ H Q ⟨F₀,E,O,F,ε,ss,r,e,k⟩=>by
 simp only[agsE,y01,y07] at e
 obtain⟨t,et,us,eu,rfl⟩:=e
 exact⟨F₀,E,O,F,ε,t,r,et,fun v F1 H1 x1 q1=>⟨F₀,E,O,F1,ε,us,r.ext x1,eu,fun vs F2 H2 x2 q2=>k _ F2 H2 (x1.trans x2) ⟨⟨t,rfl,q1.ext x2⟩,q2⟩⟩⟩
theorem znu {ε:Ev} {s:Sl} (h:objS i ε=some s):∃m c fs,s=.obj m c fs/\ε[i]?=some (some s):=by
 unfold objS at h
 split at h
 next m c fs e =>
  cases h
  exact⟨m,c,fs,rfl,e⟩
 next=>cases h
end
def zpm (K:y00) (F:Addr->Prop) (H:Hp) (ss:List Sl) (vs:List V):Prop:=Paired (fun s v=>s.isOwn=false/\z1y K ⟨H,0⟩ (fun a=>H a=none) F H s v) ss vs
noncomputable def spR (K:y00) (n:Nat) (d:List Sl->Option T):Sp:=fun vs H Q _=>vs.length=n/\∃F ss t,Dom F H/\zpm K F H ss vs/\d ss=some t/\∀v F' H',Ext F H F' H'->Rep K F' H' t v->Q v H'
section
variable {K:y00} {F F' F₀ O:Addr->Prop} {H H':Hp} {E E':En}
theorem Paired.get {α β:Type} {R:α->β->Prop}:∀{xs:List α} {ys:List β} {i:Nat} {x:α},Paired R xs ys->xs[i]?=some x->∃y,ys[i]?=some y/\R x y
 | _,_,i,x,.nil,e=>by simp at e
 | _,_,0,x,.cons r _,e=>by
  simp at e
  subst e
  exact⟨_,rfl,r⟩
 | _,_,i+1,x,.cons _ t,e=>by
  obtain⟨y,h1,h2⟩:=Paired.get (i:=i) (x:=x) t (by simpa using e)
  exact⟨y,by simpa using h1,h2⟩
theorem z80 {ss:List Sl} {n i:Nat} {s:Sl} (h:(z58 n ss)[i]?=some (some s)):ss[i]?=some s:=by
 unfold z58 at h
 by_cases hi:i<ss.length
 ·rw[y1q (by simpa using hi),y15,y0v hi] at h
  rw[y0v hi]
  simpa using h
 ·rw[y1n (by simpa using hi),List.getElem?_replicate] at h
  split at h <;> cases h
theorem zh0 {vs:List V} {n i:Nat} {v:V} (h:vs[i]?=some v):(vs.map some++y0h n none)[i]?=some (some v):=by
 have hi:=(y0l.mp h).1
 rw[y1q (by simpa using hi),y15,h]
 rfl
theorem zlk {m:Md} {c:Nat} {fs:List Sl} {v:V} (r:z1y K E O F H (.obj m c fs) v) (E':En) (O':Addr->Prop) (he:∀b∈fpS H (.obj m c fs) v,E'.h b≠none):z1y K E' O' F H (.obj .ro c fs) v:=by
 have r':=r
 obtain⟨a,vs,rfl,ha,hf,nd,ow,la⟩:=r
 rw[z32 ha] at he
 exact⟨a,vs,rfl,ha,hf,nd,fun b hb=>⟨(ow b hb).1,he b hb⟩,fun z=>by cases z⟩
theorem zcy {ss:List Sl} {vs:List V} (dom:Dom F H) (q:zpm K F H ss vs) (n:Nat):RelE K F ⟨H,0⟩ (fun a=>H a=none) F H (z58 n ss) (vs.map some++y0h (n - vs.length) none):=by
 have hl:ss.length=vs.length:=Paired.length q
 refine⟨by simp[z58,hl],fun i s e=>?_,fun i j s u v w hij e1 e2 o1=>?_,Ext.refl dom,fun _ h=>h,fun _ h=>h⟩
 ·obtain⟨v,hv,_,rv⟩:=Paired.get q (z80 e)
  exact⟨v,zh0 hv,rv⟩
 ·obtain⟨_,_,z,_⟩:=Paired.get q (z80 e1)
  rw[z] at o1
  cases o1
theorem zpk {ε:Ev} {σ:L2.St} (r:RelE K F₀ E O F H ε σ):∀{as:List Ag} {ss:List Sl} {vs:List V},agsE as ε=some ss->zj3 K F H σ as ss vs->zpm K F H (ss.map roS) vs
 | [],ss,vs,e,h=>by
  cases e
  cases vs with
  | nil=>exact .nil
  | cons v vs=>exact h.elim
 | .v f::as,ss,vs,e,h=>by
  simp only[agsE,y01,y07] at e
  obtain⟨t,et,us,eu,rfl⟩:=e
  cases vs with
  | nil=>exact h.elim
  | cons v vs =>
   obtain⟨⟨t',e',rt⟩,h⟩:=h
   cases e'
   exact .cons ⟨rfl,rt⟩ (zpk r eu h)
 | .o i::as,ss,vs,e,h=>by
  simp only[agsE,y01,y07] at e
  obtain⟨s,es,us,eu,rfl⟩:=e
  cases vs with
  | nil=>exact h.elim
  | cons v vs =>
   obtain⟨hv,h⟩:=h
   obtain⟨m,c,fs,rfl,hs⟩:=znu es
   obtain⟨v',hv',rs⟩:=r.val i _ hs
   rw[hv] at hv'
   cases hv'
   refine .cons ⟨rfl,zlk rs _ _ fun b hb=>?_⟩ (zpk r eu h)
   obtain⟨o,e,_⟩:=rs.at hb
   show H b≠none
   rw[e]
   exact fun z=>by cases z
theorem zjh:∀{ts:List T} {vs:List V},RepL K F H ts vs->zpm K F H (ts.map .imm) vs
 | [],vs,h=>by
  simp only[RepL] at h
  subst h
  exact .nil
 | t::ts,vs,h=>by
  simp only[RepL] at h
  obtain⟨v,z,rfl,q,h⟩:=h
  exact .cons ⟨rfl,q⟩ (zjh h)
end
section
variable {P:y0r} {w:World} {K:y00} {mg:Str->Option Value} {base:Heap}
theorem zuu {x qual:Str} {st:Stmt} {f:Addr} {fd:y0b} {N ps:List Str} {k:Nat} {b:Fs} (F:Fun K x qual st f fd) (S:FnScope N ps (z01 st))
  (hb:∀(cdv:Value) (A:Around) (outer:List Env) (s:y04) (H:Hp) (E:XK),Room k (A.deeper (envOfC qual (z01 st) s.heap.objs.size f cdv)) ->
   PBt (cxOf CX0 P w K mg base N qual (z01 st) f cdv A outer s H E).nox (z0o st) b) :
  FnOk P w K mg base CX0 (k+1) f fd ps (spR K ps.length (runR b N.length)):=by
 refine F.ok S (fun vs H Q E h=>h.1) fun cdv A outer s H vs Q E hr h=>⟨_,hb cdv A outer s H E hr,?_⟩
 obtain⟨hl,F,ss,t,dom,q,e,kq⟩:=h
 simp only[runR,y01] at e
 obtain⟨o,eo,e⟩:=e
 refine⟨F,⟨H,0⟩,fun a=>H a=none,F,_,o,?_,eo,?_⟩
 ·unfold L2.start
  exact zcy dom q N.length
 ·cases o with
  | rt t' =>
   cases e
   exact fun v F' H' x q=>kq v F' H' x q
  | nx ε' =>
   cases e
   exact fun σ' F' H' _ r=>kq _ F' H' r.ent (by simp[Rep])
  | bk _=>cases e
  | ct _=>cases e
  | rtm _ _=>cases e
  | rto _=>cases e
structure MtRd (P:y0r) (w:World) (K:y00) (mg:Str->Option Value) (base:Heap) (C:Addr) (m:Str) (k n:Nat) (d:List Sl->Option T):Prop where
 ex:∃fa fd ps,FnOk P w K mg base CX0 k fa fd ps (spR K n d)/\Meth K C m fa/\z3d K fd ps []
theorem MtRd.mono {C:Addr} {m:Str} {k n j:Nat} {d:List Sl->Option T} (c:MtRd P w K mg base C m j n d) (h:j<=k):MtRd P w K mg base C m k n d:=by
 obtain⟨fa,fd,ps,F,r⟩:=c.ex
 exact⟨fa,fd,ps,F.mono h,r⟩
theorem z9h {C:Addr} {m qual:Str} {st:Stmt} {f:Addr} {fd:y0b} {N ps:List Str} {k:Nat} {b:Fs} (F:Fun K m qual st f fd) (S:FnScope N ps (z01 st)) (bd:z3d K fd ps []) (me:Meth K C m f)
  (hb:∀(cdv:Value) (A:Around) (outer:List Env) (s:y04) (H:Hp) (E:XK),Room k (A.deeper (envOfC qual (z01 st) s.heap.objs.size f cdv)) ->
   PBt (cxOf CX0 P w K mg base N qual (z01 st) f cdv A outer s H E).nox (z0o st) b):MtRd P w K mg base C m (k+1) ps.length (runR b N.length):=⟨f,fd,ps,zuu F S hb,me,bd⟩
end
theorem z7o:∀{gs:List Fe} {ε:Ev} {us:List T},args gs ε=some us->us.length=gs.length
 | [],ε,us,e=>by
  cases e
  rfl
 | g::gs,ε,us,e=>by
  simp only[args,y01,y07] at e
  obtain⟨t,_,vs,ev,rfl⟩:=e
  simp[z7o ev]
theorem zj3.len {K:y00} {F:Addr->Prop} {H:Hp} {σ:L2.St}:∀{as:List Ag} {ss:List Sl} {vs:List V},zj3 K F H σ as ss vs->vs.length=as.length
 | [],[],[],_=>rfl
 | .v _::as,s::ss,v::vs,h=>by simp[zj3.len h.2]
 | .o i::as,s::ss,v::vs,h=>by simp[zj3.len h.2]
 | [],[],_::_,h=>h.elim
 | [],_::_,_,h=>h.elim
 | .v _::_,[],_,h=>h.elim
 | .v _::_,_::_,[],h=>h.elim
 | .o _::_,[],_,h=>h.elim
 | .o _::_,_::_,[],h=>h.elim
section
variable {X:Cx} {k n c C i:Nat} {ns:List Str} {d:List Sl->Option T} {x m:Str} {p pos apos:Pos} {o e:Expr} {es:List Expr} {as:List Ag} {fs:List Fe}
theorem z9s (kc:ClOk X.K c C ns) (Dc:MtRd X.prog X.w X.K X.mg X.base C m k n d) (hr:Room k X.A) (hn:PE X o (tVar i)) (ha:PAv X (e::es) fs) {pl:Sem Bool} (hm:m∉ns:=by decide +kernel) (hl:fs.length+1=n:=by rfl)
  (hst:y0a (e::es) X.env=(false,eval e X.env)::y0a es X.env:=by rfl) (hpl:(backTo pos (y0a es X.env)).any (·.1)=false:=by rfl)
  (ht:eval (.Call (.Attribute o m apos) (e::es) [] pos) X.env=(do
   let ov <- eval o X.env
   standAt apos.atName
   let (f,first) <- holding [ov] (getMethod ov m pl)
   callWith pos f first (backTo pos (y0a (e::es) X.env)) (backToKw pos (keywordEach [] X.env))):=by rfl):PEv X (.Call (.Attribute o m apos) (e::es) [] pos) (z1s c d i fs):=by
 obtain⟨fa,fd,ps,F,me,b⟩:=Dc.ex
 refine z0t (zjk hn kc.cls me F hr b .nil zg8 ha hst hpl ht) fun σ H Q ⟨F₀,E,O,F,ε,t,r,e,k⟩=>?_
 simp only[z1s,y01] at e
 obtain⟨⟨md,os⟩,ho,ts,et,ed⟩:=e
 obtain⟨a,vs,dx,h1,hx,_⟩:=z6o kc r ho
 refine⟨_,h1,a,dx,_,rfl,hx,z18 hm,F₀,E,O,F,ε,ts,r,et,fun ws F1 H1 x1 q=>⟨?_,F1,_,t,x1.dom,?_,ed,fun v F' H' x2 q2=>k v F' H' (x1.trans x2) q2⟩⟩
 ·rw[y22,y0w,<- q.length,z7o et,hl]
 ·rw[y22]
  have r1:=r.ext x1
  obtain⟨v',h1',rs⟩:=r1.val i _ (z24 ho)
  rw[h1] at h1'
  cases h1'
  refine .cons ⟨rfl,zlk rs _ _ fun b hb=>?_⟩ (zjh q)
  obtain⟨o,e,_⟩:=rs.at hb
  show H1 b≠none
  rw[e]
  exact fun z=>by cases z
theorem z43 (kc:ClOk X.K c C ns) (Dc:MtRd X.prog X.w X.K X.mg X.base C m k n d) (hr:Room k X.A) (hn:PE X o (tVar i)) {pl:Sem Bool} (hm:m∉ns:=by decide +kernel) (hl:1=n:=by rfl)
  (ht:eval (.Call (.Attribute o m apos) [] [] pos) X.env=(do
   let ov <- eval o X.env
   standAt apos.atName
   let (f,first) <- holding [ov] (getMethod ov m pl)
   callWith pos f first (backTo pos (y0a [] X.env)) (backToKw pos (keywordEach [] X.env))):=by rfl):PEv X (.Call (.Attribute o m apos) [] [] pos) (z1s c d i []):=by
 obtain⟨fa,fd,ps,F,me,b⟩:=Dc.ex
 refine z0t (zc9 hn kc.cls me F hr b .nil zg8 ht) fun σ H Q ⟨F₀,E,O,F,ε,t,r,e,k⟩=>?_
 simp only[z1s,y01] at e
 obtain⟨⟨md,os⟩,ho,ts,et,ed⟩:=e
 cases et
 obtain⟨a,vs,dx,h1,hx,_⟩:=z6o kc r ho
 refine⟨_,h1,a,dx,_,rfl,hx,z18 hm,⟨?_,F,_,t,r.dom,?_,ed,fun v F' H' x2 q2=>k v F' H' x2 q2⟩⟩
 ·simp[hl]
 ·obtain⟨v',h1',rs⟩:=r.val i _ (z24 ho)
  rw[h1] at h1'
  cases h1'
  refine .cons ⟨rfl,zlk rs _ _ fun b hb=>?_⟩ .nil
  obtain⟨o,e,_⟩:=rs.at hb
  show H b≠none
  rw[e]
  exact fun z=>by cases z
end
end
section
variable [Tbl]
open Classical in
noncomputable def z5o (H:Hp) (P:List Addr) (a:Addr):En:=⟨fun b=>if b∈P then none else H b,a⟩
section
variable {K:y00} {F F' F₀ O:Addr->Prop} {H H':Hp} {E:En} {P:List Addr} {a b:Addr} {o:HO} {ε:Ev} {σ:L2.St} {c i:Nat} {m:Md} {fs fs':List Sl}
theorem zcc (h:b∈P):(z5o H P a).h b=none:=if_pos h
theorem z5n (h:b∉P):(z5o H P a).h b=H b:=if_neg h
theorem z8z (h:(z5o H P a).h b=none):b∈P\/H b=none:=by
 by_cases z:b∈P
 ·exact .inl z
 ·rw[z5n z] at h
  exact .inr h
theorem zlx (h:(z5o H P a).h b=some o):b∉P/\H b=some o:=by
 by_cases z:b∈P
 ·rw[zcc z] at h
  cases h
 ·exact⟨z,by rw[z5n z] at h;exact h⟩
theorem zr0 (d:Dom F H):Ext F (z5o H P a).h F H:=⟨fun _ _ q=>.inl (zlx q).2,fun _ h=>h,fun _ h=>.inl h,d⟩
theorem zui {v:V} (r:z1y K E O F H (.obj m c fs) (.ref a)):z1y K (z5o H (fpS H (.obj m c fs) (.ref a)) a) (fun b=>(z5o H (fpS H (.obj m c fs) (.ref a)) a).h b=none) F H (.obj .lent c fs) (.ref a):=by
 obtain⟨a',vs,e,ha,hf,nd,ow,la⟩:=r
 cases e
 rw[z32 ha]
 exact⟨a,vs,rfl,ha,hf,nd,fun b hb=>⟨(ow b hb).1,zcc hb⟩,fun _=>rfl⟩
theorem RelE.back (r:RelE K F₀ E O F H ε σ) (e:ε[i]?=some (some (.obj m c fs))) (hm:m≠.ro) (h1:σ[i]?=some (some (.ref a))) (hP:P=fpS H (.obj m c fs) (.ref a)) (x:Ext F (z5o H P a).h F' H')
  (rs:z1y K (z5o H P a) (fun b=>(z5o H P a).h b=none) F' H' (.obj .lent c fs') (.ref a)):Kp K F H F' H'/\RelE K F₀ E O F' H' (ε.set i (some (.obj m c fs'))) σ:=by
 obtain⟨v,h1',r0⟩:=r.val i _ e
 rw[h1] at h1'
 cases h1'
 have hown:(Sl.obj m c fs).isOwn=true:=zko hm
 have inP:∀b∈P,(∃o,H b=some o/\HoM o)/\¬F b/\O b:=fun b hb=>by
  rw[hP] at hb
  exact⟨r0.at hb,(r0.held hb).1,(r0.held hb).2.1 hown⟩
 have stay:∀b o,b∉P->H b=some o->(∀ps,o≠.tbl ps)->H' b=some o:=fun b o hb e n=>x.same.get (by rw[z5n hb];exact e) n
 have kp:Kp K F H F' H':=by
  refine⟨fun b xs q=>?_,fun b xs f q=>⟨x.sub b f,?_⟩⟩
  ·rcases q with q|q
   ·refine .inl ?_
    have nb:b∉P:=fun z=>by
     obtain⟨⟨o,eo,ho⟩,_⟩:=inP b z
     rcases q with q|⟨_,q⟩ <;> (rw[eo] at q;cases q;exact ho.cases (fun _ z=>by cases z) (fun _ z=>by cases z) (fun _ _ _ z=>by cases z))
    rcases q with q|⟨u,q⟩
    ·exact .inl (stay b _ nb q fun _ z=>by cases z)
    ·exact .inr ⟨u,stay b _ nb q fun _ z=>by cases z⟩
   ·exact .inr q
  ·have nb:b∉P:=fun z=>(inP b z).2.1 f
   rcases q with q|⟨u,q⟩
   ·exact .inl (stay b _ nb q fun _ z=>by cases z)
   ·exact .inr ⟨u,stay b _ nb q fun _ z=>by cases z⟩
 have newF:∀b,F' b->F b\/b∈P\/H b=none:=fun b f=>by
  rcases x.new b f with z|z
  ·exact .inl z
  ·exact .inr (z8z z)
 have keep:∀(j:Nat) (u:Sl) (w:V),i≠j->ε[j]?=some (some u)->σ[j]?=some (some w)->z1y K E O F H u w->(∀b∈fpS H u w,b∉P)/\z1y K E O F' H' u w/\fpS H' u w=fpS H u w:=by
  intro j u w hij ej hj ru
  have nP:∀b∈fpS H u w,b∉P:=fun b hb z=>by
   cases ou:u.isOwn with
   | true=>exact r.ne i j _ u _ w hij e ej hown ou h1 hj b (hP▸z) hb
   | false=>exact (ru.held hb).2.2 ou (r.o0 b (inP b z).2.2)
  refine⟨nP,ru.keep kp (fun b hb=>?_) (fun b hb f=>?_) fun _ _ o=>o⟩
  ·obtain⟨o,eo,ho⟩:=ru.at hb
   rw[eo]
   exact stay b o (nP b hb) eo fun ps z=>by subst z;exact ho.cases (fun _ z=>by cases z) (fun _ z=>by cases z) (fun _ _ _ z=>by cases z)
  ·rcases newF b f with z|z|z
   ·exact z
   ·exact absurd z (nP b hb)
   ·obtain⟨o,eo,_⟩:=ru.at hb
    rw[z] at eo
    cases eo
 obtain⟨a',vs,ea,ha,hf,nd,ow,_⟩:=rs
 cases ea
 have hO:∀b∈a::fpF fs' vs,¬F' b/\(b∈P\/H b=none):=fun b hb=>by
  obtain⟨n,q⟩:=ow b hb
  exact⟨n,z8z q⟩
 have hown':(Sl.obj m c fs').isOwn=true:=zko hm
 have la0:m=.lent->a=E.la:=by
  obtain⟨_,_,e0,_,_,_,_,la⟩:=r0
  cases e0
  exact la
 have own2:∀b,¬F' b/\O b->OwnM E O F' m b:=fun b h=>by
  cases m with
  | ro=>exact absurd rfl hm
  | own=>exact h
  | lent=>exact h
 have rs':z1y K E O F' H' (.obj m c fs') (.ref a):=⟨a,vs,rfl,ha,hf,nd,fun b hb=>own2 b ⟨(hO b hb).1,by
  rcases (hO b hb).2 with z|z
  ·exact (inP b z).2.2
  ·exact r.fr b z⟩,la0⟩
 have hfp:fpS H' (.obj m c fs') (.ref a)=a::fpF fs' vs:=z32 ha
 have apart:∀(j:Nat) (u:Sl) (w:V),i≠j->ε[j]?=some (some u)->σ[j]?=some (some w)->z1y K E O F H u w->∀b∈fpS H' (.obj m c fs') (.ref a),b∉fpS H u w:=fun j u w hij ej hj ru b hb hb'=>by
  rw[hfp] at hb
  rcases (hO b hb).2 with z|z
  ·exact (keep j u w hij ej hj ru).1 b hb' z
  ·obtain⟨o,eo,_⟩:=ru.at hb'
   rw[z] at eo
   cases eo
 refine⟨kp,⟨by simp[r.len],fun j u e'=>?_,fun j k u w vu vw hjk e1 e2 o1 o2 q1 q2=>?_,⟨fun b o q=>?_,fun b f=>x.sub b (r.ent.sub b f),fun b f=>?_,x.dom⟩,r.o0,fun b e'=>?_⟩⟩
 ·rcases z54 e' with ⟨rfl,e'',hl⟩|⟨ne,e''⟩
  ·cases e''
   exact⟨_,h1,rs'⟩
  ·obtain⟨w,h2,ru⟩:=r.val j u e''
   exact⟨w,h2,(keep j u w ne e'' h2 ru).2.1⟩
 ·rcases z54 e1 with ⟨rfl,e',hl⟩|⟨ne1,e1'⟩
  ·rcases z54 e2 with ⟨rfl,_,_⟩|⟨ne2,e2'⟩
   ·exact absurd rfl hjk
   ·cases e'
    rw[h1] at q1
    cases q1
    obtain⟨w',h2,ru⟩:=r.val k w e2'
    rw[q2] at h2
    cases h2
    rw[(keep k w vw ne2 e2' q2 ru).2.2]
    exact apart k w vw ne2 e2' q2 ru
  ·obtain⟨v1,h2,r1⟩:=r.val j u e1'
   rw[q1] at h2
   cases h2
   rw[(keep j u vu ne1 e1' q1 r1).2.2]
   rcases z54 e2 with ⟨rfl,e',hl⟩|⟨ne2,e2'⟩
   ·cases e'
    rw[h1] at q2
    cases q2
    intro b hb hb'
    exact apart j u vu ne1 e1' q1 r1 b hb' hb
   ·obtain⟨w',h3,r2⟩:=r.val k w e2'
    rw[q2] at h3
    cases h3
    rw[(keep k w vw ne2 e2' q2 r2).2.2]
    exact r.ne j k u w vu vw hjk e1' e2' o1 o2 q1 q2
 ·have nb:b∉P:=fun z=>by
   rw[r.o0 b (inP b z).2.2] at q
   cases q
  rcases r.ent.same b o q with z|⟨ps,ps',e1,z⟩
  ·exact x.same b o (by rw[z5n nb];exact z)
  ·rcases x.same b _ (by rw[z5n nb];exact z) with z2|⟨_,ps2,_,z2⟩
   ·exact .inr ⟨ps,ps',e1,z2⟩
   ·exact .inr ⟨ps,ps2,e1,z2⟩
 ·rcases newF b f with z|z|z
  ·exact r.ent.new b z
  ·exact .inr (r.o0 b (inP b z).2.2)
  ·exact .inr (r.o0 b (r.fr b z))
 ·rcases z8z (x.same.none e') with z|z
  ·exact (inP b z).2.2
  ·exact r.fr b z
end
noncomputable def spM (K:y00) (n c p:Nat) (d:List Sl->Option (T×List Sl)):Sp:=fun vs H Q _=>vs.length=n/\∃(F:Addr->Prop) (ss:List Sl) (a:Addr) (P:List Addr) (fs:List Sl) (r:T×List Sl),Dom F H/\vs[p]?=some (.ref a)/\ss[p]?=some (.obj .lent c fs) /\
 Paired (fun s v=>z1y K (z5o H P a) (fun b=>(z5o H P a).h b=none) F H s v) ss vs/\(∀q s,q≠p->ss[q]?=some s->s.isOwn=false)/\d ss=some r /\
 ∀v F' H',Ext F (z5o H P a).h F' H'->Rep K F' H' r.1 v->z1y K (z5o H P a) (fun b=>(z5o H P a).h b=none) F' H' (.obj .lent c r.2) (.ref a)->Q v H'
section
variable {P:y0r} {w:World} {K:y00} {mg:Str->Option Value} {base:Heap}
theorem zjn {c p:Nat} {ε:Ev} {fs:List Sl} (h:z4z c p ε=some fs):ε[p]?=some (some (.obj .lent c fs)):=by
 unfold z4z at h
 split at h
 next c' fs' e =>
  split at h
  next hc =>
   cases h
   rw[e,hc]
  next=>cases h
 next=>cases h
theorem zjp {x qual:Str} {st:Stmt} {f:Addr} {fd:y0b} {N ps:List Str} {k c p:Nat} {b:Fs} (F:Fun K x qual st f fd) (S:FnScope N ps (z01 st))
  (hb:∀(cdv:Value) (A:Around) (outer:List Env) (s:y04) (H:Hp) (E:XK),Room k (A.deeper (envOfC qual (z01 st) s.heap.objs.size f cdv)) ->
   PBt (cxOf CX0 P w K mg base N qual (z01 st) f cdv A outer s H E).nox (z0o st) b) :
  FnOk P w K mg base CX0 (k+1) f fd ps (spM K ps.length c p (runM c p b N.length)):=by
 refine F.ok S (fun vs H Q E h=>h.1) fun cdv A outer s H vs Q E hr h=>⟨_,hb cdv A outer s H E hr,?_⟩
 obtain⟨hl,F,ss,a,P',fs,r,dom,hv,hs,q,ho,e,kq⟩:=h
 simp only[runM,y01] at e
 obtain⟨o,eo,e⟩:=e
 have hlen:ss.length=vs.length:=Paired.length q
 refine⟨F,z5o H P' a,fun b=>(z5o H P' a).h b=none,F,_,o,?_,eo,?_⟩
 ·unfold L2.start
  refine⟨by simp[z58,hlen],fun i s e=>?_,fun i j s u v w hij e1 e2 o1 o2=>?_,zr0 dom,fun _ h=>h,fun b hb=>?_⟩
  ·obtain⟨v,hv,rv⟩:=Paired.get q (z80 e)
   exact⟨v,zh0 hv,rv⟩
  ·by_cases hi:i=p
   ·subst hi
    rw[ho j u (Ne.symm hij) (z80 e2)] at o2
    cases o2
   ·rw[ho i s hi (z80 e1)] at o1
    cases o1
  ·by_cases z:b∈P'
   ·exact zcc z
   ·exact (z5n z).trans hb
 ·have fin:∀{ε':Ev} {σ':L2.St} {F':Addr->Prop} {H':Hp} {fs':List Sl},RelE K F (z5o H P' a) (fun b=>(z5o H P' a).h b=none) F' H' ε' σ'->z4z c p ε'=some fs'->z1y K (z5o H P' a) (fun b=>(z5o H P' a).h b=none) F' H' (.obj .lent c fs') (.ref a):=fun r' el=>by
   obtain⟨v',_,rs⟩:=r'.val p _ (zjn el)
   have rs':=rs
   obtain⟨a',_,rfl,_,_,_,_,la⟩:=rs
   have:a'=a:=la rfl
   subst this
   exact rs'
  cases o with
  | rt t'=>cases e
  | nx ε' =>
   simp only[y07] at e
   obtain⟨fs',el,rfl⟩:=e
   exact fun σ' F' H' _ r'=>kq _ F' H' r'.ent (by simp[Rep]) (fin r' el)
  | bk _=>cases e
  | ct _=>cases e
  | rtm t ε' =>
   simp only[y07] at e
   obtain⟨fs',el,rfl⟩:=e
   exact fun v σ' F' H' r' rv=>kq v F' H' r'.ent rv (fin r' el)
  | rto _=>cases e
structure MtMd (P:y0r) (w:World) (K:y00) (mg:Str->Option Value) (base:Heap) (C:Addr) (c:Nat) (m:Str) (k n:Nat) (d:List Sl->Option (T×List Sl)):Prop where
 ex:∃fa fd ps,FnOk P w K mg base CX0 k fa fd ps (spM K n c 0 d)/\Meth K C m fa/\z3d K fd ps []
theorem MtMd.mono {C:Addr} {c:Nat} {m:Str} {k n j:Nat} {d:List Sl->Option (T×List Sl)} (h:MtMd P w K mg base C c m j n d) (hj:j<=k):MtMd P w K mg base C c m k n d:=by
 obtain⟨fa,fd,ps,F,r⟩:=h.ex
 exact⟨fa,fd,ps,F.mono hj,r⟩
theorem z2v {C:Addr} {m qual:Str} {st:Stmt} {f:Addr} {fd:y0b} {N ps:List Str} {k c:Nat} {b:Fs} (F:Fun K m qual st f fd) (S:FnScope N ps (z01 st)) (bd:z3d K fd ps []) (me:Meth K C m f)
  (hb:∀(cdv:Value) (A:Around) (outer:List Env) (s:y04) (H:Hp) (E:XK),Room k (A.deeper (envOfC qual (z01 st) s.heap.objs.size f cdv)) ->
   PBt (cxOf CX0 P w K mg base N qual (z01 st) f cdv A outer s H E).nox (z0o st) b):MtMd P w K mg base C c m (k+1) ps.length (runM c 0 b N.length):=⟨f,fd,ps,zjp F S hb,me,bd⟩
structure ClM (P:y0r) (w:World) (K:y00) (mg:Str->Option Value) (base:Heap) (x:Str) (c p k n:Nat) (d:List Sl->Option (T×List Sl)):Prop where
 ex:∃fa fd ps,FnOk P w K mg base CX0 k fa fd ps (spM K n c p d)/\mg x=some (.ref fa)/\y08 K (.ref fa)=true/\z3d K fd ps []
theorem ClM.mono {x:Str} {c p k n j:Nat} {d:List Sl->Option (T×List Sl)} (h:ClM P w K mg base x c p j n d) (hj:j<=k):ClM P w K mg base x c p k n d:=by
 obtain⟨fa,fd,ps,F,r⟩:=h.ex
 exact⟨fa,fd,ps,F.mono hj,r⟩
theorem zxh {x:Str} {st:Stmt} {f:Addr} {fd:y0b} {N ps:List Str} {k c p:Nat} {b:Fs} (F:Fun K x x st f fd) (S:FnScope N ps (z01 st)) (bd:z3d K fd ps []) (m:mg x=some (.ref f))
  (hb:∀(cdv:Value) (A:Around) (outer:List Env) (s:y04) (H:Hp) (E:XK),Room k (A.deeper (envOfC x (z01 st) s.heap.objs.size f cdv)) ->
   PBt (cxOf CX0 P w K mg base N x (z01 st) f cdv A outer s H E).nox (z0o st) b):ClM P w K mg base x c p (k+1) ps.length (runM c p b N.length):=⟨f,fd,ps,zjp F S hb,m,F.kp,bd⟩
end
def tX (K:y00) (f:Fx):TE:=fun σ H Q=>∃F₀ E O F ε t ε',RelE K F₀ E O F H ε σ/\f ε=some (t,ε')/\∀v F' H',Kp K F H F' H'->RelE K F₀ E O F' H' ε' σ->Rep K F' H' t v->Q v H'
abbrev PEx (X:Cx) (e:Expr) (f:Fx):Prop:=PE X e (tX X.K f)
section
variable {X:Cx} {k n c C i:Nat} {ns:List Str} {d:List Sl->Option (T×List Sl)} {x m:Str} {p pos apos:Pos} {o e:Expr} {es:List Expr} {fs gs:List Fe} {fx:Fx}
theorem zjg {K:y00} {E:En} {O F:Addr->Prop} {H:Hp}:∀{ts:List T} {vs:List V},RepL K F H ts vs->Paired (fun s v=>z1y K E O F H s v) (ts.map .imm) vs
 | [],vs,h=>by
  simp only[RepL] at h
  subst h
  exact .nil
 | t::ts,vs,h=>by
  simp only[RepL] at h
  obtain⟨v,z,rfl,q,h⟩:=h
  exact .cons q (zjg h)
theorem zog {ts:List T} {q:Nat} {s:Sl} (h:(ts.map Sl.imm)[q]?=some s):s.isOwn=false:=by
 rw[y15] at h
 cases e:ts[q]? with
 | none=>rw[e] at h;cases h
 | some t=>rw[e] at h;cases h;rfl
theorem zge {σ:L2.St} {H H1:Hp} {F₀ O F F1:Addr->Prop} {E:En} {ε:Ev} {md:Md} {os:List Sl} {a:Addr} {Q:VK} {ws:List V} {ts:List T} {r:T×List Sl} (rE:RelE X.K F₀ E O F H ε σ) (ho:objF c i ε=some (md,os)) (hm:md≠.ro) (h1:σ[i]?=some (some (.ref a)))
  (x1:Ext F H F1 H1) (q:RepL X.K F1 H1 ts ws) (ed:d (.obj .lent c os::ts.map .imm)=some r) (hl:ts.length+1=n)
  (kk:∀v F' H',Kp X.K F H F' H'->RelE X.K F₀ E O F' H' (ε.set i (some (.obj md c r.2))) σ->Rep X.K F' H' r.1 v->Q v H'):spM X.K n c 0 d (.ref a::ws) H1 Q E0:=by
 have r1:=rE.ext x1
 obtain⟨v',h1',rs⟩:=r1.val i _ (z24 ho)
 rw[h1] at h1'
 cases h1'
 refine⟨by simp[<- q.length,hl],F1,_,a,fpS H1 (.obj md c os) (.ref a),os,r,x1.dom,rfl,rfl,.cons (zui (v:=.ref a) rs) (zjg q),fun j s hj hs=>?_,ed,fun v F' H' x2 rv rs2=>?_⟩
 ·cases j with
  | zero=>exact absurd rfl hj
  | succ j=>exact zog (q:=j) (by simpa using hs)
 ·obtain⟨kp,r2⟩:=r1.back (z24 ho) hm h1 rfl x2 rs2
  exact kk v F' H' (x1.kp.trans kp) r2 rv
theorem z0j (kc:ClOk X.K c C ns) (Dc:MtMd X.prog X.w X.K X.mg X.base C c m k n d) (hr:Room k X.A) (hn:PE X o (tVar i)) (ha:PAv X (e::es) fs) {pl:Sem Bool} (hm:m∉ns:=by decide +kernel) (hl:fs.length+1=n:=by rfl)
  (hst:y0a (e::es) X.env=(false,eval e X.env)::y0a es X.env:=by rfl) (hpl:(backTo pos (y0a es X.env)).any (·.1)=false:=by rfl)
  (ht:eval (.Call (.Attribute o m apos) (e::es) [] pos) X.env=(do
   let ov <- eval o X.env
   standAt apos.atName
   let (f,first) <- holding [ov] (getMethod ov m pl)
   callWith pos f first (backTo pos (y0a (e::es) X.env)) (backToKw pos (keywordEach [] X.env))):=by rfl):PEx X (.Call (.Attribute o m apos) (e::es) [] pos) (z0k c d i fs):=by
 obtain⟨fa,fd,ps,F,me,b⟩:=Dc.ex
 refine z0t (zjk hn kc.cls me F hr b .nil zg8 ha hst hpl ht) fun σ H Q ⟨F₀,E,O,F,ε,t,ε',r,e,kk⟩=>?_
 simp only[z0k,y01] at e
 obtain⟨⟨md,os⟩,ho,e⟩:=e
 split at e
 next=>cases e
 next hmd =>
  simp only[y01,y07] at e
  obtain⟨ts,et,r',ed,e⟩:=e
  cases e
  obtain⟨a,vs,dx,h1,hx,_⟩:=z6o kc r ho
  refine⟨_,h1,a,dx,_,rfl,hx,z18 hm,F₀,E,O,F,ε,ts,r,et,fun ws F1 H1 x1 q=>?_⟩
  show spM X.K n c 0 d (V.ref a::(ws++[])) H1 Q E0
  rw[y22]
  exact zge r ho hmd h1 x1 q ed (by rw[z7o et,hl]) kk
theorem z62 (kc:ClOk X.K c C ns) (Dc:MtMd X.prog X.w X.K X.mg X.base C c m k n d) (hr:Room k X.A) (hn:PE X o (tVar i)) {pl:Sem Bool} (hm:m∉ns:=by decide +kernel) (hl:1=n:=by rfl)
  (ht:eval (.Call (.Attribute o m apos) [] [] pos) X.env=(do
   let ov <- eval o X.env
   standAt apos.atName
   let (f,first) <- holding [ov] (getMethod ov m pl)
   callWith pos f first (backTo pos (y0a [] X.env)) (backToKw pos (keywordEach [] X.env))):=by rfl):PEx X (.Call (.Attribute o m apos) [] [] pos) (z0k c d i []):=by
 obtain⟨fa,fd,ps,F,me,b⟩:=Dc.ex
 refine z0t (zc9 hn kc.cls me F hr b .nil zg8 ht) fun σ H Q ⟨F₀,E,O,F,ε,t,ε',r,e,kk⟩=>?_
 simp only[z0k,y01] at e
 obtain⟨⟨md,os⟩,ho,e⟩:=e
 split at e
 next=>cases e
 next hmd =>
  simp only[y01,y07] at e
  obtain⟨ts,et,r',ed,e⟩:=e
  cases e
  cases et
  obtain⟨a,vs,dx,h1,hx,_⟩:=z6o kc r ho
  refine⟨_,h1,a,dx,_,rfl,hx,z18 hm,?_⟩
  exact zge r ho hmd h1 (Ext.refl r.dom) RepL.nil ed (by simpa using hl) kk
theorem z2j (h:PEx X e fx) (hsw:swapsWith e none pos.line X.env=pure false:=by rfl):PSt X (.Expr e pos) (exX fx):=z2r (zbe h hsw) fun D σ H ⟨F₀,E,O,F,ε,o,r,e,k⟩=>by
 simp only[exX,y07] at e
 obtain⟨⟨t,ε'⟩,et,rfl⟩:=e
 exact⟨F₀,E,O,F,ε,t,ε',r,et,fun v F' H' kp r' _=>k σ F' H' kp r'⟩
theorem zet (h:PEx X e fx):PSt X (.Return (some e) pos) (rtnX fx):=z2r (zd2 h) fun D σ H ⟨F₀,E,O,F,ε,o,r,e,k⟩=>by
 simp only[rtnX,y07] at e
 obtain⟨⟨t,ε'⟩,et,rfl⟩:=e
 exact⟨F₀,E,O,F,ε,t,ε',r,et,fun v F' H' kp r' rv=>k v σ F' H' r' rv⟩
theorem zvq {f:Fe} (h:PEv X e f):PSt X (.Return (some e) pos) (rtnM f):=z2r (zd2 h) fun D σ H ⟨F₀,E,O,F,ε,o,r,e,k⟩=>by
 simp only[rtnM,y07] at e
 obtain⟨t,et,rfl⟩:=e
 exact⟨F₀,E,O,F,ε,t,r,et,fun v F' H' x rv=>k v σ F' H' (r.ext x) rv⟩
theorem zje:PSt X (.Return none pos) zg3:=z2r ztr fun D σ H ⟨F₀,E,O,F,ε,o,r,e,k⟩=>by
 cases e
 exact k .non σ F H r (by simp[Rep])
theorem zn0 {st:Stmt}:PSt X st zhq:=fun pins s σ H D I ⟨F₀,E,O,F,ε,o,r,e,k⟩=>by cases e
end
end
section
variable [Tbl]
noncomputable def tO (K:y00) (f:Fo):TE:=fun σ H Q=>∃F₀ E O F ε s,RelE K F₀ E O F H ε σ/\f ε=some s/\∀a F' H',Ext F H F' H'->z1y K E O F' H' s (.ref a)->(∀b∈fpS H' s (.ref a),H b=none)->Q (.ref a) H'
abbrev PEo (X:Cx) (e:Expr) (f:Fo):Prop:=PE X e (tO X.K f)
noncomputable def spO (K:y00) (n:Nat) (d:List T->Option Sl):Sp:=fun vs H Q _=>vs.length=n/\∃F ts s,Dom F H/\RepL K F H ts vs/\d ts=some s/\∀a F' H',Ext F H F' H'->z1y K ⟨H,0⟩ (fun b=>H b=none) F' H' s (.ref a)->Q (.ref a) H'
theorem zhi {s t:Sl} (h:ownS s=some t):∃c os,s=.obj .own c os/\t=.obj .own c os:=by
 unfold ownS at h
 split at h
 ·cases h
  exact⟨_,_,rfl,rfl⟩
 ·cases h
section
variable {P:y0r} {w:World} {K:y00} {mg:Str->Option Value} {base:Heap}
theorem zuv {x qual:Str} {st:Stmt} {f:Addr} {fd:y0b} {N ps:List Str} {k:Nat} {b:Fs} (F:Fun K x qual st f fd) (S:FnScope N ps (z01 st))
  (hb:∀(cdv:Value) (A:Around) (outer:List Env) (s:y04) (H:Hp) (E:XK),Room k (A.deeper (envOfC qual (z01 st) s.heap.objs.size f cdv)) ->
   PBt (cxOf CX0 P w K mg base N qual (z01 st) f cdv A outer s H E).nox (z0o st) b) :
  FnOk P w K mg base CX0 (k+1) f fd ps (spO K ps.length (runO b N.length)):=by
 refine F.ok S (fun vs H Q E h=>h.1) fun cdv A outer s H vs Q E hr h=>⟨_,hb cdv A outer s H E hr,?_⟩
 obtain⟨hl,F,ts,t,dom,q,e,kq⟩:=h
 simp only[runO,y01] at e
 obtain⟨o,eo,e⟩:=e
 refine⟨F,⟨H,0⟩,fun a=>H a=none,F,_,o,?_,eo,?_⟩
 ·have:=zbc (N:=N) dom q (N.length - ts.length)
  unfold L2.start
  rw[q.length] at this ⊢
  exact this
 ·cases o with
  | rto s =>
   obtain⟨c,os,rfl,rfl⟩:=zhi e
   exact fun a F' H' x rs=>kq a F' H' x rs
  | nx ε'=>cases e
  | bk _=>cases e
  | ct _=>cases e
  | rtm _ _=>cases e
  | rt _=>cases e
structure ClO (P:y0r) (w:World) (K:y00) (mg:Str->Option Value) (base:Heap) (x:Str) (k n:Nat) (d:List T->Option Sl):Prop where
 ex:∃fa fd ps,FnOk P w K mg base CX0 k fa fd ps (spO K n d)/\mg x=some (.ref fa)/\y08 K (.ref fa)=true/\z3d K fd ps []
theorem ClO.mono {x:Str} {k n j:Nat} {d:List T->Option Sl} (c:ClO P w K mg base x j n d) (h:j<=k):ClO P w K mg base x k n d:=by
 obtain⟨fa,fd,ps,F,r⟩:=c.ex
 exact⟨fa,fd,ps,F.mono h,r⟩
theorem zxg {x:Str} {st:Stmt} {f:Addr} {fd:y0b} {N ps:List Str} {k:Nat} {b:Fs} (F:Fun K x x st f fd) (S:FnScope N ps (z01 st)) (bd:z3d K fd ps []) (m:mg x=some (.ref f))
  (hb:∀(cdv:Value) (A:Around) (outer:List Env) (s:y04) (H:Hp) (E:XK),Room k (A.deeper (envOfC x (z01 st) s.heap.objs.size f cdv)) ->
   PBt (cxOf CX0 P w K mg base N x (z01 st) f cdv A outer s H E).nox (z0o st) b):ClO P w K mg base x (k+1) ps.length (runO b N.length):=⟨f,fd,ps,zuv F S hb,m,F.kp,bd⟩
structure ClNew (P:y0r) (w:World) (K:y00) (mg:Str->Option Value) (base:Heap) (x:Str) (C:Addr) (c k n:Nat) (d:List Sl->Option (T×List Sl)):Prop where
 ex:∃fa fd ps,FnOk P w K mg base CX0 k fa fd ps (spM K n c 0 d)/\Mk K C fa/\mg x=some (.ref C)/\z3d K fd ps []
theorem ClNew.mono {x:Str} {C:Addr} {c k n j:Nat} {d:List Sl->Option (T×List Sl)} (h:ClNew P w K mg base x C c j n d) (hj:j<=k):ClNew P w K mg base x C c k n d:=by
 obtain⟨fa,fd,ps,F,r⟩:=h.ex
 exact⟨fa,fd,ps,F.mono hj,r⟩
theorem zsm {x:Str} {C:Addr} {qual:Str} {st:Stmt} {f:Addr} {fd:y0b} {N ps:List Str} {k c:Nat} {b:Fs} (F:Fun K "__init__" qual st f fd) (S:FnScope N ps (z01 st)) (bd:z3d K fd ps []) (me:Mk K C f) (m:mg x=some (.ref C))
  (hb:∀(cdv:Value) (A:Around) (outer:List Env) (s:y04) (H:Hp) (E:XK),Room k (A.deeper (envOfC qual (z01 st) s.heap.objs.size f cdv)) ->
   PBt (cxOf CX0 P w K mg base N qual (z01 st) f cdv A outer s H E).nox (z0o st) b):ClNew P w K mg base x C c (k+1) ps.length (runM c 0 b N.length):=⟨f,fd,ps,zjp F S hb,me,m,bd⟩
end
section
variable {X:Cx} {k n c C i j:Nat} {ns:List Str} {x m f:Str} {p pos apos:Pos} {o e:Expr} {es:List Expr} {fs:List Fe} {fo:Fo}
theorem zn7 {K:y00} {E E':En} {O O' F':Addr->Prop} {H':Hp} {m:Md} {c:Nat} {os:List Sl} {a:Addr} (rs:z1y K E' O' F' H' (.obj m c os) (.ref a)) (hm:m≠.ro) (h:∀b,O' b->O b):z1y K E O F' H' (.obj .own c os) (.ref a):=by
 obtain⟨a',vs,e,ha,hf,nd,ow,_⟩:=rs
 refine⟨a',vs,e,ha,hf,nd,fun b hb=>⟨(ow b hb).1,h b ?_⟩,fun z=>by cases z⟩
 have q:=(ow b hb).2
 cases m with
 | ro=>exact absurd rfl hm
 | own=>exact q
 | lent=>exact q
theorem zud {d:List Sl->Option (T×List Sl)} (kc:ClOk X.K c C ns) (Dc:ClNew X.prog X.w X.K X.mg X.base x C c k n d) (hr:Room (k+1) X.A) (ha:PAv X (e::es) fs) (hg:Gl X x:=by rfl) (hl:fs.length+1=n:=by rfl) (hdb:(x == ("__debug__":Str))=false:=by decide)
  (he:y0a (e::es) X.env=(false,eval e X.env)::y0a es X.env:=by rfl) (hpl:(backTo pos (y0a es X.env)).any (·.1)=false:=by rfl):PEo X (.Call (.Name x p) (e::es) [] pos) (newO c d fs):=by
 obtain⟨fa,fd,ps,F,M,hm,b⟩:=Dc.ex
 refine z0t (zu0 M F hr hg hm b .nil zg8 ha hdb he hpl) fun σ H Q ⟨F₀,E,O,F,ε,s,r,e,kk⟩=>?_
 simp only[newO,y01] at e
 obtain⟨ts,et,r',ed,e⟩:=e
 refine⟨F₀,E,O,F,ε,ts,r,et,fun ws F1 H1 x1 q=>fun y dx hy hdx hne=>?_⟩
 rw[y22]
 have hy2:upd (upd H1 dx (.own y)) y (.ins C dx []) y=some (.ins C dx []):=z0e
 have hat:∀H2:Hp,H2 y=some (.ins C dx [])->z61 H2 y c []:=fun H2 e=>by
  refine⟨y28 _,?_⟩
  rw[kc.ck]
  exact⟨dx,by simpa using e⟩
 have nH:∀b,b≠y->b≠dx->upd (upd H1 dx (.own y)) y (.ins C dx []) b=H1 b:=fun b h1 h2=>by rw[z0c h1,z0c h2]
 have xa:Ext F1 H1 F1 (upd H1 dx (.own y)):=Ext.laid x1.dom hdx
 have hy1:upd H1 dx (.own y) y=none:=by rw[z0c (Ne.symm hne)];exact hy
 have xb:Ext F1 H1 F1 (upd (upd H1 dx (.own y)) y (.ins C dx [])):=xa.trans (Ext.laid xa.dom hy1)
 have nF:¬F1 y:=fun z=>by
  obtain⟨o,e⟩:=x1.dom y z
  rw[hy] at e
  cases e
 split at e
 next hr1 =>
  cases e
  refine⟨by simp[<- q.length,z7o et,hl],F1,.obj .lent c []::ts.map .imm,y,[y],[],r',xb.dom,rfl,rfl,.cons ⟨y,[],rfl,hat _ hy2,rfl,by simp[fpF],fun b hb=>?_,fun _=>rfl⟩ (zjg (q.ext xb)),fun j s hj hs=>?_,ed,fun v F' H' x2 rv rs=>?_⟩
  ·have:b=y:=by simpa [fpF] using hb
   subst this
   exact⟨nF,zcc (by simp)⟩
  ·cases j with
   | zero=>exact absurd rfl hj
   | succ j=>exact zog (q:=j) (by simpa using hs)
  ·rw[hr1] at rv
   refine⟨by simpa [Rep] using rv,?_⟩
   have none0:∀b,(z5o (upd (upd H1 dx (.own y)) y (.ins C dx [])) [y] y).h b=none->H b=none:=fun b hb=>by
    rcases z8z hb with z|z
    ·have:b=y:=by simpa using z
     rw[this]
     exact x1.same.none hy
    ·exact x1.same.none (xb.same.none z)
   have xe:Ext F H F' H':=by
    refine⟨fun b o q=>?_,fun b z=>x2.sub b (x1.sub b z),fun b z=>?_,x2.dom⟩
    ·have step:∀u,H1 b=some u->(z5o (upd (upd H1 dx (.own y)) y (.ins C dx [])) [y] y).h b=some u:=fun u e1=>by
      have n1:b≠y:=fun z=>by rw[z,hy] at e1;cases e1
      have n2:b≠dx:=fun z=>by rw[z,hdx] at e1;cases e1
      rw[z5n (by simpa using n1),nH b n1 n2]
      exact e1
     rcases x1.same b o q with z|⟨ps,ps',e1,z⟩
     ·exact x2.same b o (step _ z)
     ·rcases x2.same b _ (step _ z) with z2|⟨_,ps2,_,z2⟩
      ·exact .inr ⟨ps,ps',e1,z2⟩
      ·exact .inr ⟨ps,ps2,e1,z2⟩
    ·rcases x2.new b z with z|z
     ·exact x1.new b z
     ·exact .inr (none0 b z)
   refine kk y F' H' xe (zn7 rs (by decide) fun b hb=>r.fr b (none0 b hb)) fun b hb=>?_
   obtain⟨a',vs,ea,ha',hf,nd,ow,_⟩:=rs
   cases ea
   rw[z32 ha'] at hb
   exact none0 b (ow b hb).2
 next=>cases e
theorem zks {d:List T->Option Sl} (Dc:ClO X.prog X.w X.K X.mg X.base x k n d) (hd:∀ts s,d ts=some s->∃c os,s=.obj .own c os) (hr:Room k X.A) (ha:PAv X (e::es) fs) (hg:Gl X x:=by rfl) (hl:fs.length=n:=by rfl) (hdb:(x == ("__debug__":Str))=false:=by decide)
  (he:y0a (e::es) X.env=(false,eval e X.env)::y0a es X.env:=by rfl) (hpl:(backTo pos (y0a es X.env)).any (·.1)=false:=by rfl):PEo X (.Call (.Name x p) (e::es) [] pos) (zem d fs):=by
 obtain⟨fa,fd,ps,F,hm,kp,b⟩:=Dc.ex
 refine z0t (zg6 F hr hg hm kp b .nil zg8 ha hdb he hpl) fun σ H Q ⟨F₀,E,O,F,ε,s,r,e,kk⟩=>?_
 simp only[zem,y01] at e
 obtain⟨ts,et,ed⟩:=e
 obtain⟨c,os,rfl⟩:=hd _ _ ed
 refine⟨F₀,E,O,F,ε,ts,r,et,fun ws F1 H1 x1 q=>⟨?_,F1,ts,_,x1.dom,by simpa using q,ed,fun a F' H' x2 rs=>?_⟩⟩
 ·rw[y22,<- q.length,z7o et,hl]
 ·refine kk a F' H' (x1.trans x2) (zn7 rs (by decide) fun b hb=>r.fr b (x1.same.none hb)) fun b hb=>?_
  obtain⟨a',vs,ea,ha',hf,nd,ow,_⟩:=rs
  cases ea
  rw[z32 ha'] at hb
  exact x1.same.none (ow b hb).2
theorem zq9 {b:Fs} {n:Nat} {ts:List T} {s:Sl} (h:runO b n ts=some s):∃c os,s=.obj .own c os:=by
 simp only[runO,y01] at h
 obtain⟨o,eo,e⟩:=h
 cases o with
 | rto s' =>
  obtain⟨c,os,_,rfl⟩:=zhi e
  exact⟨c,os,rfl⟩
 | _=>cases e
theorem zn1 (j:Nat) {y:Str} {pos':Pos} (hN:X.N.Nodup) (h:PEo X e fo) (hi:X.N[j]?=some y:=by rfl) (hx:Loc X.env.scope y:=by first|exact Or.inl rfl|exact Or.inr rfl)
  (hs:swapsWith e (some (.Name y pos')) pos.line X.env=pure false:=by rfl) (hf:X.fn y=true\/X.env.scope.names.lookup y=some .local:=by first|exact .inl rfl|exact .inr rfl) :
  PSt X (.Assign [.Name y pos'] e pos) (asgO j fo):=z2r (zd1 hN hi hx h hs hf) fun D σ H ⟨F₀,E,O,F,ε,o,r,e,k⟩=>by
 simp only[asgO,y07] at e
 obtain⟨s,es,rfl⟩:=e
 exact⟨F₀,E,O,F,ε,s,r,es,fun a F' H' x rs hn=>k _ F' H' x.kp (r.setNew j x rs hn)⟩
theorem zvo (hn:PE X e (tVar i)):PSt X (.Return (some e) pos) (rtnO i):=z2r (zd2 hn) fun D σ H ⟨F₀,E,O,F,ε,o,r,e,k⟩=>by
 unfold rtnO at e
 split at e
 next c fs he =>
  cases e
  obtain⟨v,h1,rs⟩:=r.val i _ he
  have rs':=rs
  obtain⟨a,vs,rfl,_⟩:=rs
  exact⟨_,h1,k a F H r.ent rs'⟩
 next=>cases e
theorem zc2 {s:Sl} {os:List Sl} (h:z8f c s=some os):s=.obj .own c os:=by
 unfold z8f at h
 split at h
 next c' fs =>
  split at h
  next hc =>
   cases h
   rw[hc]
  next=>cases h
 next=>cases h
theorem zsn {K:y00} {E:En} {O F:Addr->Prop} {H:Hp} {os:List Sl} {a:Addr} (kc:ClOk K c C ns) (rs:z1y K E O F H (.obj .own c os) (.ref a)):∃dx vs,H a=some (.ins C dx (ns.zip vs))/\z61 H a c vs/\RelF K F H os vs:=by
 obtain⟨a',vs,ea,ha,hf,_⟩:=rs
 cases ea
 obtain⟨hl,hx⟩:=id ha
 rw[kc.ck] at hx
 obtain⟨dx,hx⟩:=hx
 rw[kc.cn] at hx
 exact⟨dx,vs,hx,ha,hf⟩
theorem zw1 {d:List Sl->Option T} (kc:ClOk X.K c C ns) (Dc:MtRd X.prog X.w X.K X.mg X.base C m k n d) (hr:Room k X.A) (ho:PEo X o fo) {pl:Sem Bool} (hm:m∉ns:=by decide +kernel) (hl:1=n:=by rfl)
  (ht:eval (.Call (.Attribute o m apos) [] [] pos) X.env=(do
   let ov <- eval o X.env
   standAt apos.atName
   let (f,first) <- holding [ov] (getMethod ov m pl)
   callWith pos f first (backTo pos (y0a [] X.env)) (backToKw pos (keywordEach [] X.env))):=by rfl):PEv X (.Call (.Attribute o m apos) [] [] pos) (ofO c d fo []):=by
 obtain⟨fa,fd,ps,F,me,b⟩:=Dc.ex
 refine z0t (zc9 ho kc.cls me F hr b .nil zg8 ht) fun σ H Q ⟨F₀,E,O,F,ε,t,r,e,k⟩=>?_
 simp only[ofO,y01] at e
 obtain⟨s,es,os,eo,ts,et,ed⟩:=e
 cases et
 have:=zc2 eo
 subst this
 refine⟨F₀,E,O,F,ε,_,r,es,fun a F1 H1 x1 rs hn=>?_⟩
 obtain⟨dx,vs,hx,ha,hf⟩:=zsn kc rs
 refine⟨a,dx,_,rfl,hx,z18 hm,⟨by simp[hl],F1,_,t,x1.dom,.cons ⟨rfl,zlk rs _ _ fun b hb=>?_⟩ .nil,ed,fun v F' H' x2 q2=>k v F' H' (x1.trans x2) q2⟩⟩
 obtain⟨o,e,_⟩:=rs.at hb
 show H1 b≠none
 rw[e]
 exact fun z=>by cases z
theorem zhc (kc:ClOk X.K c C ns) (ho:PEo X o fo) (hj:ns[j]?=some f:=by rfl) (hb:attributeBase o f X.env (eval o X.env)=eval o X.env:=by rfl):PEv X (.Attribute o f pos) (zbi c j fo) :=
 z0t (z9g ho hb) fun σ H Q ⟨F₀,E,O,F,ε,t,r,e,k⟩=>by
 simp only[zbi,y01] at e
 obtain⟨s,es,os,eo,e⟩:=e
 have:=zc2 eo
 subst this
 split at e
 next ts hs =>
  cases e
  refine⟨F₀,E,O,F,ε,_,r,es,fun a F1 H1 x1 rs hn=>?_⟩
  obtain⟨dx,vs,hx,ha,hf⟩:=zsn kc rs
  obtain⟨v,hv,b,us,rfl,hb,rb⟩:=hf.get hs
  have hbn:H b=none:=hn b (by rw[z32 ha];exact y05 _ (z9j hs hv (by simp[fp0,rf])))
  refine⟨a,C,dx,_,_,rfl,hx,kc.cls,z9w kc hj,zb4 kc.nd hj hv,?_⟩
  have y:Ext F H (fun d=>F1 d\/d=b) H1:=⟨x1.same,fun d z=>.inl (x1.sub d z),fun d z=>by
   rcases z with z|rfl
   ·exact x1.new d z
   ·exact .inr hbn,⟨fun d z=>by
   rcases z with z|rfl
   ·exact x1.dom d z
   ·exact⟨_,hb⟩,x1.dom.tgs⟩⟩
  refine k _ _ H1 y ?_
  simp only[Rep]
  exact⟨b,us,rfl,.inr rfl,.inl hb,rb.keep (fun _ _ z=>z) fun _ _ z w=>⟨.inl z,w⟩⟩
 next=>cases e
theorem zy8 {ct a b:Expr} {ft:Ft} {g h:Fe} (hc:PTt X ct ft) (ha:PEv X a g) (hb:PEv X b h):PEv X (.IfExp ct a b pos) (ifE ft g h):=z0t (zqk hc ha hb) fun σ H Q ⟨F₀,E,O,F,ε,t,r,e,k⟩=>by
 simp only[ifE,y01] at e
 obtain⟨v,ev,e⟩:=e
 refine⟨F₀,E,O,F,ε,v,r,ev,fun F1 H1 x1=>?_⟩
 cases v with
 | true=>exact iteT ⟨F₀,E,O,F1,ε,t,r.ext x1,by simpa using e,fun v F' H' x2 q=>k v F' H' (x1.trans x2) q⟩
 | false=>exact iteF ⟨F₀,E,O,F1,ε,t,r.ext x1,by simpa using e,fun v F' H' x2 q=>k v F' H' (x1.trans x2) q⟩
def z6i (xs:List Str):List T:=xs.map .str
theorem q_gT {xs:List Str} {a:Addr} (hm:X.mg x=some (.ref a)) (hk:∃(o:Obj) (its:Array Value) (n:Nat),X.K.lookup a=some o/\o.cls=.type "tuple"/\o.data=.seq its n/\its.size<=y0k/\Vals (xs.map V.str) its.toList) (hg:Gl X x:=by rfl) (hd:(x == ("__debug__":Str))=false:=by decide):PEv X (.Name x pos) (cst (.tuple (z6i xs))) :=
 zlm (v:=.ref a) (zbf (v:=.ref a) hg hm rfl hd) fun F H=>by
  simp only[Rep]
  refine⟨a,xs.map V.str,rfl,.inr hk,?_⟩
  unfold z6i
  clear hm hk hg hd
  induction xs with
  | nil=>exact RepL.nil
  | cons y ys ih=>exact RepL.cons (by simp[Rep]) ih
end
end
section
variable [Tbl]
open AutoSeq1 (wpAny_loadPart')
section
variable {X:Cx} {a e o:Expr} {f g:Fe} {p pos apos:Pos}
theorem zna (hm:X.mg "list"=none) (ha:PEr X a f) (hg:Gl X "list":=by rfl) (he:y0a [a] X.env=(false,eval a X.env)::y0a [] X.env:=by rfl) (hpl:(backTo pos (y0a [] X.env)).any (·.1)=false:=by rfl) :
  PEn X (.Call (.Name "list" p) [a] [] pos) (op1 zf1 f):=z0t (zao zio hg hm (by decide +kernel) (z0r ha z38 he) (he:=he) (hpl:=hpl)) fun σ H Q ⟨F₀,E,O,F,ε,ts,r,e,k⟩=>by
 simp only[op1,y01] at e
 obtain⟨t,et,e⟩:=e
 refine⟨F₀,E,O,F,ε,t,r,et,fun v F1 H1 x1 q1=>?_⟩
 have fin:∀(ws:List V),RepL X.K F1 H1 ts ws->∀l,H1 l=none->Q (.ref l) (upd H1 l (.lst ws)):=fun ws hr l hl=>by
  have x2:=Ext.laid (o:=.lst ws) x1.dom hl
  refine k l ws F1 _ (x1.trans x2) (x1.same.none hl) (fun z=>?_) z0e (hr.ext x2)
  obtain⟨o,e⟩:=x1.dom l z
  rw[hl] at e
  cases e
 unfold zf1 at e
 split at e
 ·cases e
  obtain⟨l0,ws,rfl,hl,hr⟩:=q1.tup
  exact⟨l0,ws,rfl,.inr hl,fin ws hr⟩
 ·cases e
  obtain⟨l0,ws,rfl,hl,hr⟩:=q1.lst
  exact⟨l0,ws,rfl,.inl (.inl hl),fin ws hr⟩
 ·cases e
theorem zn9 (hc:X.calm=true) (hm:X.mg "sorted"=none) (ha:PEr X a f) (hg:Gl X "sorted":=by rfl) (he:y0a [a] X.env=(false,eval a X.env)::y0a [] X.env:=by rfl) (hpl:(backTo pos (y0a [] X.env)).any (·.1)=false:=by rfl) :
  PEn X (.Call (.Name "sorted" p) [a] [] pos) (op1 zcb f):=z0t (zca (zin hc) hg hm (by decide +kernel) (z0r ha z38 he) (he:=he) (hpl:=hpl)) fun σ H Q ⟨F₀,E,O,F,ε,ts,r,e,k⟩=>by
 simp only[op1,y01] at e
 obtain⟨t,et,e⟩:=e
 refine⟨F₀,E,O,F,ε,t,r,et,fun v F1 H1 x1 q1=>?_⟩
 unfold zcb at e
 split at e
 next xs =>
  split at e
  next hz =>
   simp only[y07] at e
   obtain⟨ss,hss,e⟩:=e
   cases e
   have hxs:=zco hss
   subst hxs
   obtain⟨l0,ws,rfl,hl,hr⟩:=q1.lst
   refine⟨l0,ss.map .inr,(z81 ss).map V.str,rfl,?_,by simpa using hz,.inr ⟨ss,rfl,rfl⟩,fun l hl1=>?_⟩
   ·have e1:ws=(ss.map (Sum.inr:Str->L2.Key)).map kV:=by rw[zbb hr];simp[kV,y17]
    rw[<- e1]
    exact .inl hl
   ·have x2:=Ext.laid (o:=.lst ((z81 ss).map V.str)) x1.dom hl1
    refine k l _ F1 _ (x1.trans x2) (x1.same.none hl1) (fun z=>?_) z0e (zcx _)
    obtain⟨o,e⟩:=x1.dom l z
    rw[hl1] at e
    cases e
  next=>cases e
 next=>cases e
end
theorem zi8:entryFor table "list.remove.loop"=some Builtin.«list.remove.loop»:=entryFor_of_tree (by kernel_rfl)
theorem zam:plainId "list.remove.loop"=true:=by decide +kernel
theorem ztm (l:Addr) (its:Array Value) (n:Nat) (x:Str) (t:Tok) (j:Nat) (hz:its.size<=y0k) (hj:j<its.size) (hit:∃u,its[j]=.str x u) (k:Nat) :
  ∀i:Nat,j - i=k->i<=j->(∀(m:Nat) (hm:m<its.size),i<=m->m<j->∃y u,its[m]=.str y u/\y≠x)->Meets (Builtin.«list.remove.loop» ⟨[.ref l,.str x t,rawInt i],[]⟩)
   (fun _ R s=>s.heap.get? l=some { cls:=.type "list",data:=.seq its n }/\R (.ok (.ret .none)) { s with heap:=s.heap.update l (Obj.mapSeq fun a=>a.eraseIdxIfInBounds j) }):=by
 induction k with
 | zero =>
  intro i hk hij _ prog w A R s h
  obtain⟨hp,g,d,tk,os⟩:=s
  obtain⟨hl,h⟩:=h
  obtain rfl:i=j:=by omega
  obtain⟨u,hu⟩:=hit
  wp_walk using wpAny_loadPart' hl
  rw[show its[((i:Nat):Int).toNat]?=some (.str x u) by simp[hj,hu]]
  refine y02 (wpAny_eqBool_str ?_)
  rw[decide_eq_true rfl]
  wp_walk using wpAny_loadPart' hl
  rw[show ((Obj.mapSeq (fun z=>z.eraseIdxIfInBounds ((i:Nat):Int).toNat) { cls:=.type "list",data:=.seq its n }:Obj).data.pastItsLine)=none from
   pastItsLine_seq (by
    have:(its.eraseIdxIfInBounds ((i:Nat):Int).toNat).size<=its.size:=by
     unfold Array.eraseIdxIfInBounds
     split
     ·rw[Array.size_eraseIdx]
      omega
     ·omega
    show (its.eraseIdxIfInBounds ((i:Nat):Int).toNat).size<=_
    omega)]
  wp_walk
  exact h
 | succ k ih =>
  intro i hk hij hno prog w A R s h
  obtain⟨hp,g,d,tk,os⟩:=s
  obtain⟨hl,h⟩:=h
  have hlt:i<its.size:=by omega
  obtain⟨y,u,hy,ne⟩:=hno i hlt (y0p _) (by omega)
  wp_walk using wpAny_loadPart' hl
  rw[show its[((i:Nat):Int).toNat]?=some (.str y u) by simp[hlt,hy]]
  refine y02 (wpAny_eqBool_str ?_)
  rw[decide_eq_false ne]
  wp_walk
  rw[show ((i:Int)+1)=((i+1:Nat):Int) by push_cast;rfl]
  exact⟨plainId_quiet zam _,codeAny_builtin zi8 (by
   rw[y1y zam _]
   exact ih (i+1) (by omega) (by omega) (fun m hm h1 h2=>hno m hm (by omega) h2) prog w A R _ ⟨hl,h⟩)⟩
theorem zhv (l:Addr) (its:Array Value) (n:Nat) (x:Str) (t:Tok) (j:Nat) (hz:its.size<=y0k) (hj:j<its.size) (hit:∃u,its[j]=.str x u) (hno:∀(m:Nat) (hm:m<its.size),m<j->∃y u,its[m]=.str y u/\y≠x) :
  Meets (Builtin.«list.remove» ⟨[.ref l,.str x t],[]⟩) (fun _ R s=>s.heap.get? l=some { cls:=.type "list",data:=.seq its n }/\R (.ok (.ret .none)) { s with heap:=s.heap.update l (Obj.mapSeq fun a=>a.eraseIdxIfInBounds j) }):=by
 intro prog w A R s h
 obtain⟨hp,g,d,tk,os⟩:=s
 obtain⟨hl,h⟩:=h
 wp_walk using wpAny_loadPart' hl
 exact⟨plainId_quiet zam _,codeAny_builtin zi8 (by
  rw[y1y zam _]
  exact ztm l its n x t j hz hj hit _ 0 rfl (y28 _) (fun m hm _ h2=>hno m hm h2) prog w A R _ ⟨hl,h⟩)⟩
noncomputable def ztn:V->List V->Hp->VK->Prop:=fun x vs H Q=>∃(l:Addr) (ss:List Str) (y:Str),x=.ref l/\vs=[.str y]/\H l=some (.lst (ss.map V.str))/\y∈ss/\Q .non (upd H l (.lst ((ss.erase y).map V.str)))
theorem zkd {ss:List Str} {its:List Value} (r:Vals (ss.map V.str) its) {m:Nat} {y:Str} (h:ss[m]?=some y):∃u,its[m]?=some (.str y u):=by
 obtain⟨v,hv,rv⟩:=r.get (i:=m) (x:=.str y) (by rw[y15,h];rfl)
 obtain⟨u,rfl⟩:=rv
 exact⟨u,hv⟩
theorem zl4 {α:Type} [BEq α] [LawfulBEq α]:∀{ss:List α} {y:α},y∈ss->∃j,ss[j]?=some y/\(∀m z,m<j->ss[m]?=some z->z≠y)/\ss.erase y=ss.eraseIdx j
 | [],y,h=>by simp at h
 | x::ss,y,h=>by
  by_cases e:x=y
  ·subst e
   exact⟨0,rfl,fun m z hm=>by omega,by simp⟩
  ·have h':y∈ss:=by
    rcases y09.mp h with z|z
    ·exact absurd z.symm e
    ·exact z
   obtain⟨j,h1,h2,h3⟩:=zl4 h'
   refine⟨j+1,by simpa using h1,fun m z hm hz=>?_,?_⟩
   ·cases m with
    | zero =>
     simp at hz
     exact hz▸e
    | succ m=>exact h2 m z (by omega) (by simpa using hz)
   ·rw[List.erase_cons_tail (by simpa using e),h3]
    rfl
theorem zat {α β:Type} (f:α->β):∀(l:List α) (j:Nat),(l.eraseIdx j).map f=(l.map f).eraseIdx j
 | [],_=>rfl
 | _::_,0=>rfl
 | a::l,j+1=>by simp[zat f l j]
theorem znw {X:Cx}:MtM X "list.remove" ztn:=by
 intro pins s σ H x vs v us Q I rx rv h
 obtain⟨l,ss,y,rfl,rfl,hH,hy,q⟩:=h
 cases rx
 obtain⟨u,rfl,ru⟩:=rv.one
 obtain⟨t,rfl⟩:=ru
 obtain⟨z,its,n,r,hl,e⟩:=I.lstM hH
 obtain⟨j,h1,h2,h3⟩:=zl4 hy
 obtain⟨w,hw⟩:=zkd r h1
 have hj:j<its.length:=(y0l.mp hw).1
 refine call_meets F.slot_list_remove ⟨_,e,rfl⟩ F.entry_list_remove (F.args_list_remove_2 _ _) (zhv l its.toArray n y t j (by rw[y0i];omega) (by rw[y0i];exact hj) ⟨w,?_⟩ fun m hm hmj=>?_) ⟨e,?_⟩
 ·rw[y0v hj] at hw
  simpa using hw
 ·rw[y0i] at hm
  have hms:m<ss.length:=by rw[y14] at hl;omega
  obtain⟨u,hu⟩:=zkd r (y0v hms)
  rw[y0v hm] at hu
  exact⟨_,u,by simpa using hu,h2 m _ hmj (y0v hms)⟩
 ·rw[h3] at q
  have e2:(ss.eraseIdx j).map V.str=(ss.map V.str).eraseIdx j:=zat _ _ _
  rw[e2] at q
  refine⟨.non,_,I.lset (t':=s.toks) (its':=its.eraseIdx j) hH e ?_ (r.eraseIdx j) (y1s (zhw _ _) z),rfl,q⟩
  unfold Array.eraseIdxIfInBounds
  rw[dif_pos (by rw[y0i];exact hj)]
  simp
section
variable {X:Cx} {c C i j:Nat} {ns:List Str} {f:Str} {o e:Expr} {g:Fe} {pos apos:Pos}
theorem zxz (k:ClOk X.K c C ns) (hn:PE X o (tVar i)) {bpos cpos:Pos} (he:PEv X e g) (hj:ns[j]?=some f:=by rfl) (hb:attributeBase o f X.env (eval o X.env)=eval o X.env:=by rfl)
  (hs1:y0a [e] X.env=(false,eval e X.env)::y0a [] X.env:=by rfl)
  (hbase:attributeBase (.Attribute o f apos) "remove" X.env (eval (.Attribute o f apos) X.env)=eval (.Attribute o f apos) X.env:=by rfl)
  (hfew:((backTo cpos (y0a [e] X.env)).all (fun x=>!x.1) && (backToKw cpos (keywordEach [] X.env)).all (fun x=>x.1.isSome)
   && decide (([e]:List Expr).length+([]:List Keyword).length+(if ([]:List Keyword).isEmpty then 0 else 1)<30))=true:=by rfl)
  (hline:(bpos.endLine == cpos.line)=true:=by rfl) (hplain:(backTo cpos (y0a [] X.env)).any (·.1)=false:=by rfl)
  (hsw:swapsWith (.Call (.Attribute (.Attribute o f apos) "remove" bpos) [e] [] cpos) none pos.line X.env=pure false:=by rfl) :
  PSt X (.Expr (.Call (.Attribute (.Attribute o f apos) "remove" bpos) [e] [] cpos) pos) (rmF c i j g) :=
 z2r (zbe (zqm PySem.F.plainAttrs_list PySem.F.slot_list_remove PySem.F.type_list_remove znw (z9g hn hb) (z0r he z38 hs1) hbase hfew hline hs1 hplain) hsw) fun D σ H ⟨F₀,H₀,O,F,ε,o,r,e,kk⟩=>by
 simp only[rmF,y01] at e
 obtain⟨t,et,ts,el,e⟩:=e
 split at e
 next x ss hss =>
  split at e
  next hx =>
   simp only[y07] at e
   obtain⟨ε',es,rfl⟩:=e
   have hts:=zco hss
   subst hts
   obtain⟨m,fs,ho,hs⟩:=ze1 el
   obtain⟨a,vs,dx,v,h1,hx0,hl,ha,hv,⟨b,us,eb,hb,rb⟩,_⟩:=z7w k r ho hs hj
   subst eb
   refine⟨_,h1,a,C,dx,_,_,rfl,hx0,k.cls,z9w k hj,hl,.inl ⟨rfl,_,SqL.of hb⟩,F₀,H₀,O,F,ε,_,r,et,fun v F1 H1 x1 q1=>?_⟩
   have r1:=r.ext x1
   have ha1:z61 H1 a c vs:=ha.keep ((x1.same.get hx0).trans hx0.symm)
   have ev:v=.str x:=by simpa [Rep] using q1
   subst ev
   have eu:=zbb rb
   subst eu
   obtain⟨kp,r2⟩:=r1.mutFld (s':=.own ((ss.erase x).map .str)) (o':=.lst ((ss.erase x).map V.str)) ho h1 ha1 es hs hv (by simp[fp0,rf]) rfl fun kp=>⟨b,_,rfl,z0e,zcx _⟩
   exact⟨b,ss,x,rfl,rfl,x1.same.get hb,hx,kk σ F1 _ (x1.kp.trans kp) r2⟩
  next=>cases e
 next=>cases e
end
end
section
variable [Tbl]
open AutoSeq1 (wpAny_loadPart')
section
variable {prog:y0r} {w:World} {A:Around} {E:Value->y04->Prop} {s:y04} {T:String} {r d:Addr} {n:Nat} {P:Nat->Value->Prop} {OK:Heap->Prop}
theorem zdi (W:PySem.W.KdlSrc prog w T r d n P OK) (hn:n<=y0k) (o:Obj) (hc:o.cls=.type T) :
  MeetsIn prog w (Builtin.«tuple.__new__» ⟨[.type "tuple",.ref r],[]⟩)
   (fun A R s=>A.handled=none/\OK s.heap/\s.heap.get? r=some o/\∀(h':Heap) (tk:Nat) (acc:Array Value),(∀b o,s.heap.get? b=some o->h'.get? b=some o)->s.heap.objs.size<=h'.objs.size->ItemsOf P acc n->R (.ok (.ret (.ref h'.objs.size))) { s with heap:=h'.push { cls:=.type "tuple",data:=.seq acc },toks:=tk }) :=
 .of_wp fun A R s h=>by
  obtain⟨hp,g,dr,tk,os⟩:=s
  obtain⟨hh,hok,ho,h⟩:=h
  have hsub:=sub_tuple_self
  have hinit:=init_tuple_lookup
  have hmh:=madeHere_tuple
  have hT:Shared.TypeIs ⟨hp,g,dr,tk,os⟩ (.ref r) T:=W.type _ hok
  have n1:=W.notList
  have n2:=W.notTuple
  wp_walk using wpAny_loadPart' ho,wpAny_typeOf hT,zjx W (by simpa using hh) hok hn
  intro h' tk' acc hk hsz hacc
  show y0u _ _ (y13 acc.toList.toArray >>= fun v=>ret v) _ _ _
  unfold y13
  have hz:acc.size<=y0k:=by rw[hacc.1];exact hn
  refine y02 (wpAny_newObj_type ?_ (by show acc.toList.toArray.size<=y0k;simpa using hz))
  refine y06 ⟨_,rfl,?_⟩
  rw[show acc.toList.toArray=acc by simp]
  exact h h' tk' acc hk hsz hacc
theorem zel {Q:Value->y04->Prop} (W:PySem.W.KdlSrc prog w T r d n P OK) (hn:n<=y0k) {o:Obj} (hc:o.cls=.type T) (hh:A.handled=none) (hok:OK s.heap) (ho:s.heap.get? r=some o)
  (h:∀(h':Heap) (tk:Nat) (acc:Array Value),(∀b o,s.heap.get? b=some o->h'.get? b=some o)->s.heap.objs.size<=h'.objs.size->ItemsOf P acc n->Q (.ref h'.objs.size) { s with heap:=h'.push { cls:=.type "tuple",data:=.seq acc },toks:=tk }) :
  y0u (model prog w) A (call (.type "tuple") [.ref r]) Q E s :=
 callType_newIn F.called_tuple (by decide) (F.typeCall_tuple_1 _) (F.newCall_tuple_1 _) (fun obj=>F.args_object_init_2 obj _) F.entry_tuple_new
  (zdi W hn o hc) ⟨by simpa using hh,hok,ho,fun h' tk acc hk hsz hacc=>⟨⟨_,y0m _ rfl,rfl⟩,h h' tk acc hk hsz hacc⟩⟩
end
def zps (p d:Addr):HO:=.ext fun h=>h.IsValuesView p d
section
variable {X:Cx}
theorem znv:MtM X "dict.values" (fun x vs H Q=>∃d kvs,x=.ref d/\vs=[]/\H d=some (.dK kvs)/\∀p,H p=none->Q (.ref p) (upd H p (zps p d))):=by
 intro pins s σ H x vs v us Q I rx rv h
 obtain⟨d,kvs,rfl,rfl,hH,q⟩:=h
 cases rx
 cases rv
 obtain⟨hz,hsm,ws,hkv,hd⟩:=I.hok d _ hH
 refine call_meetsIn PySem.F.slot_dict_values hd.typeIs PySem.F.entry_dict_values (PySem.F.args_dict_values_1 _) (meets_dict_values (z1g X.prog X.w) d hsm) ⟨⟨ws,hd⟩,?_⟩
 have hv:(s.heap.push { cls:=.type "dict_values",data:=.fields #[.ref d] }).IsValuesView s.heap.objs.size d:=⟨_,y0m _ rfl,rfl,rfl⟩
 refine⟨.ref s.heap.objs.size,upd H s.heap.objs.size (zps s.heap.objs.size d),I.laid (t':=s.toks) (fun b u e=>y03 _ e) (y0p _) ⟨hv,⟨_,y0m _ rfl⟩,fun h1 h2 p k=>?_⟩,rfl,q _ I.fresh⟩
 obtain⟨o,ho,r⟩:=p
 exact⟨o,k o ho,r⟩
theorem zsq:∀{kvs:List (L2.Key×V)} {vs:List (L2.Key×Value)},KV kvs vs->Vals (kvs.map (·.2)) (vs.map (·.2))
 | _,_,.nil=>.nil
 | _,_,.cons a b=>.cons a.2 (zsq b)
theorem ze3 (hc:X.calm=true):za6 X (.type "tuple") (fun xs H Q=>∃p d kvs,xs=[.ref p]/\H p=some (zps p d)/\H d=some (.dK kvs)/\∀t,H t=none->Q (.ref t) (upd H t (.tup (kvs.map (·.2))))):=by
 intro pins s σ H xs us Q I r h
 obtain⟨p,d,kvs,rfl,hp,hq,q⟩:=h
 obtain⟨u,rfl,rx⟩:=zgu r
 cases rx
 obtain⟨hz',hsm,vs,hkv,hd⟩:=I.hok d _ hq
 obtain⟨ep,hat⟩:=hd.dictAt
 have hl:vs.length=kvs.length:=(Paired.length hkv).symm
 have hv:s.heap.IsValuesView p d:=(I.hok p _ hp).1
 obtain⟨o,ho,hcl,hdat⟩:=id hv
 refine zel (PySem.W.kdl_values (knd:=z1g X.prog X.w) (kvs:=vs) (ep:=ep)) (by rw[hl];exact hz') hcl (I.ok.hd hc) ⟨hv,hat⟩ ho fun h' tk acc hk hsz hacc=>?_
 have hz2:(kvs.map (·.2)).length<=y0k:=by rw[y14];exact hz'
 have ea:acc.toList=vs.map (·.2):=by
  refine List.ext_getElem? fun i=>?_
  rw[y15]
  by_cases hi:i<acc.size
  ·obtain⟨k,hk⟩:=hacc.2 i acc[i] (by simp[hi])
   rw[hk]
   simp[hi]
  ·rw[List.getElem?_eq_none (by simpa using hi),List.getElem?_eq_none (by rw[hacc.1] at hi;omega)]
   rfl
 have hT:(h'.push { cls:=.type "tuple",data:=.seq acc }).get? h'.objs.size=some { cls:=.type "tuple",data:=.seq acc }:=y0m _ rfl
 refine⟨.ref h'.objs.size,_,zdt I (o:=.tup (kvs.map (·.2))) (d':=s.drawn) (fun b u e=>y03 _ (hk b u e)) hsz ⟨hz2,vs.map (·.2),zsq hkv,⟨_,hT,rfl,0,by rw[<- ea]⟩⟩,rfl,q _ (I.hok.fresh hsz)⟩
variable {c C i j:Nat} {ns:List Str} {f:Str} {o:Expr} {p pos apos bpos cpos:Pos}
theorem RepD.snd {K:y00} {F:Addr->Prop} {H:Hp}:∀{ts:List (D.Key×T)} {vs:List (D.Key×V)},RepD K F H ts vs->RepL K F H (ts.map (·.2)) (vs.map (·.2))
 | [],vs,h=>by
  have e:vs=[]:=h
  subst e
  exact RepL.nil
 | t::ts,vs,h=>by
  obtain⟨v,r,rfl,q,z⟩:=h
  exact RepL.cons q (RepD.snd z)
theorem znb (k:ClOk X.K c C ns) (hc:X.calm=true) (ht:X.mg "tuple"=none) (hn:PE X o (tVar i)) (hj:ns[j]?=some f:=by rfl) (hb:attributeBase o f X.env (eval o X.env)=eval o X.env:=by rfl)
  (hbase:attributeBase (.Attribute o f apos) "values" X.env (eval (.Attribute o f apos) X.env)=eval (.Attribute o f apos) X.env:=by rfl) (hline:(bpos.endLine == cpos.line)=true:=by rfl) (hg:Gl X "tuple":=by rfl)
  (he:y0a [.Call (.Attribute (.Attribute o f apos) "values" bpos) [] [] cpos] X.env=(false,eval (.Call (.Attribute (.Attribute o f apos) "values" bpos) [] [] cpos) X.env)::y0a [] X.env:=by rfl)
  (hpl:(backTo pos (y0a [] X.env)).any (·.1)=false:=by rfl) :
  PEv X (.Call (.Name "tuple" p) [.Call (.Attribute (.Attribute o f apos) "values" bpos) [] [] cpos] [] pos) (zor c i j) :=
 z0t (zao (ze3 hc) hg ht (by decide +kernel) (z0r (zse PySem.F.plainAttrs_dict PySem.F.slot_dict_values PySem.F.type_dict_values znv (z9g hn hb) hbase hline) z38 he) (he:=he) (hpl:=hpl)) fun σ H Q ⟨F₀,E,O,F,ε,t,r,e,kk⟩=>by
 simp only[zor,y07] at e
 obtain⟨kvs,ed,rfl⟩:=e
 obtain⟨m,fs,ho,hs⟩:=zau ed
 obtain⟨a,vs,dx,v,h1,hx,hl,ha,hv,⟨b,us,eb,hb,rb⟩,_⟩:=z7w k r ho hs hj
 subst eb
 refine⟨_,h1,a,C,dx,_,_,rfl,hx,k.cls,z9w k hj,hl,.inr (.inr (.inl ⟨rfl,.inl ⟨_,hb⟩⟩)),b,us,rfl,rfl,hb,fun p hp=>?_⟩
 have x1:=Ext.laid (o:=zps p b) r.dom hp
 refine⟨p,b,us,rfl,z0e,x1.same.get hb,fun t ht=>?_⟩
 have x2:=x1.trans (Ext.laid (o:=.tup (us.map (·.2))) x1.dom ht)
 refine kk _ F _ x2 ?_
 simp only[Rep]
 exact⟨t,_,rfl,SqT.of z0e,(rb.snd).ext x2⟩
end
end
section
variable [Tbl]
open AutoSeq1 (wpAny_loadPart')
def ZipR (h:Heap) (z TI TO:Addr) (f0 f1:Value):Prop:=h.get? z=some { cls:=.type "zip",dict:=none,data:=.fields #[f0,f1,.bool false,.ref TI,.ref TO],slots:=#[] }
section
variable {prog:y0r} {w:World} {A:Around} {E:Value->y04->Prop} {s:y04} {z TI TO i1 i2 l1 l2:Addr} {k n1 n2:Nat} {P1 P2:Nat->Value->Prop} {S1 S2:Nat->Heap->Prop} {a b f1:Value}
theorem zk2 {Q:Value->y04->Prop} (D:ZipApart z TI TO i1 i2 l1 l2) (D1:Draws prog w A i1 [i1,l1] n1 P1 S1) (D2:Draws prog w A i2 [i2,l2] n2 P2 S2) (hz:ZipR s.heap z TI TO .none f1) (hTI:IsPair s.heap TI (.ref i1) (.ref i2)) (hTO:IsPair s.heap TO a b)
  (s1:S1 k s.heap) (s2:S2 k s.heap) (h1:k<n1) (h2:k<n2)
  (hQ:∀h' x y tk,P1 k x->P2 k y->ZipR h' z TI TO (rawInt s.heap.objs.size) (.bool false)->IsPair h' TO x y->S1 (k+1) h'->S2 (k+1) h'->IsPair h' s.heap.objs.size x y->h'.objs.size=s.heap.objs.size+1 ->
   (∀c o,c≠z->c≠TO->c≠i1->c≠i2->s.heap.get? c=some o->h'.get? c=some o)->Q (.ref s.heap.objs.size) { s with heap:=h',toks:=tk }) :
  y0u (model prog w) A (Builtin.«zip.__next__» ⟨[.ref z],[]⟩) (fun fin s'=>∃v,fin=.done (.ret v)/\Q v s') E s:=by
 unfold ZipR at hz
 refine y02 (m:=field (.ref z) 2) (wpAny_field hz rfl (x:=.bool false) rfl (y02 (m:=field (.ref z) 3) (wpAny_field hz rfl (x:=.ref TI) rfl (y02 (wpAny_seqItems hTI rfl ?_)))))
 refine y02 (m:=y10 (.ref z)) ?_
 unfold y10
 refine y02 (wpAny_field hz rfl (x:=.none) rfl (y06 ?_))
 simp only[if_true]
 refine y02 (wpAny_rule (y02 (wpAny_field hz rfl (x:=.ref TO) rfl (y02 (wpAny_setField_rec hz (by simp) fun h₁ hz₁ e₁=>?_)))))
 replace hz₁:ZipR h₁ z TI TO .ellipsis f1:=hz₁
 refine y02 ?_
 simp only[List.zipIdx_cons,List.zipIdx_nil,List.forIn_cons,List.forIn_nil]
 have st1:S1 k h₁:=D1.frame k _ _ s1 fun c hc o e=>by
  rcases y09.mp hc with rfl|hc
  ·exact e₁.extBut _ _ D.i1z e
  ·rw[y0z.mp hc] at e ⊢
   exact e₁.extBut _ _ D.l1z e
 refine y02 (y02 (wpAny_onRaise (y02 (m:=y0t (.ref i1)) (D1.item k _ _ _ h1 st1 fun x h₂ tk px t1 e₂=>y06 ?_))))
 have hTO₂:IsPair h₂ TO a b:=e₂.extBut _ _ D.TOi1 (e₁.extBut _ _ D.TOz hTO)
 refine y02 (wpAny_seqItems hTO₂ rfl (y02 (wpAny_updateSeq_pair hTO₂ fun h₃ hTO₃ e₃=>?_)))
 replace hTO₃:IsPair h₃ TO x b:=hTO₃
 refine y02 (wpAny_letGo (y06 ?_))
 have st2:S2 k h₃:=D2.frame k _ _ s2 fun c hc o e=>by
  rcases y09.mp hc with rfl|hc
  ·exact e₃.extBut _ _ D.TOi2.symm (e₂.extBut _ _ D.i12.symm (e₁.extBut _ _ D.i2z e))
  ·rw[y0z.mp hc] at e ⊢
   exact e₃.extBut _ _ D.l2TO (e₂.extBut _ _ D.l2i1 (e₁.extBut _ _ D.l2z e))
 refine y02 (y02 (wpAny_onRaise (y02 (m:=y0t (.ref i2)) (D2.item k _ _ _ h2 st2 fun y h₄ tk2 py t2 e₄=>y06 ?_))))
 have hTO₄:IsPair h₄ TO x b:=e₄.extBut _ _ D.TOi2 hTO₃
 refine y02 (wpAny_seqItems hTO₄ rfl (y02 (wpAny_updateSeq_pair hTO₄ fun h₅ hTO₅ e₅=>?_)))
 replace hTO₅:IsPair h₅ TO x y:=hTO₅
 refine y02 (wpAny_letGo (y06 (y06 (y02 (wpAny_seqItems hTO₅ rfl (y02 (wpAny_newTuple ?_)))))))
 have sz5:h₅.objs.size=s.heap.objs.size:=by rw[e₅.1,e₄.1,e₃.1,e₂.1,e₁.1]
 have hz₅:ZipR h₅ z TI TO .ellipsis f1:=e₅.extBut _ _ D.TOz.symm (e₄.extBut _ _ D.i2z.symm (e₃.extBut _ _ D.TOz.symm (e₂.extBut _ _ D.i1z.symm hz₁)))
 have kp5:∀c o,c≠z->c≠TO->c≠i1->c≠i2->s.heap.get? c=some o->h₅.get? c=some o:=fun c o c1 c2 c3 c4 e=>e₅.extBut _ _ c2 (e₄.extBut _ _ c4 (e₃.extBut _ _ c2 (e₂.extBut _ _ c3 (e₁.extBut _ _ c1 e))))
 have u1:S1 (k+1) h₅:=D1.frame _ _ _ t1 fun c hc o e=>by
  rcases y09.mp hc with rfl|hc
  ·exact e₅.extBut _ _ D.TOi1.symm (e₄.extBut _ _ D.i12 (e₃.extBut _ _ D.TOi1.symm e))
  ·rw[y0z.mp hc] at e ⊢
   exact e₅.extBut _ _ D.l1TO (e₄.extBut _ _ D.l1i2 (e₃.extBut _ _ D.l1TO e))
 have u2:S2 (k+1) h₅:=D2.frame _ _ _ t2 fun c hc o e=>by
  rcases y09.mp hc with rfl|hc
  ·exact e₅.extBut _ _ D.TOi2.symm e
  ·rw[y0z.mp hc] at e ⊢
   exact e₅.extBut _ _ D.l2TO e
 have zlt:z<h₅.objs.size:=y0c hz₅
 refine y02 (m:=Builtin.SmallTypes.ownedTupleHandOut (.ref z) (.ref h₅.objs.size)) ?_
 unfold Builtin.SmallTypes.ownedTupleHandOut
 have hz₆:ZipR (h₅.push { cls:=.type "tuple",data:=.seq #[x,y] }) z TI TO .ellipsis f1:=y03 _ hz₅
 refine y02 (wpAny_setField_rec hz₆ (by simp) fun h₇ hz₇ e₇=>?_)
 replace hz₇:ZipR h₇ z TI TO (rawInt h₅.objs.size) f1:=hz₇
 refine wpAny_setField_rec hz₇ (by simp) fun h₈ hz₈ e₈=>?_
 replace hz₈:ZipR h₈ z TI TO (rawInt h₅.objs.size) (.bool false):=hz₈
 have up:∀c o,c≠z->h₅.get? c=some o->h₈.get? c=some o:=fun c o c1 e=>e₈.extBut _ _ c1 (e₇.extBut _ _ c1 (y03 _ e))
 have hT:IsPair h₈ h₅.objs.size x y:=e₈.extBut _ _ (y16 zlt) (e₇.extBut _ _ (y16 zlt) (y0m _ rfl))
 have sz8:h₈.objs.size=h₅.objs.size+1:=by rw[e₈.1,e₇.1,y18]
 rw[sz5] at hz₈ hT sz8
 refine y06 ⟨_,rfl,?_⟩
 show Q (.ref h₅.objs.size) _
 rw[sz5]
 refine hQ h₈ x y _ px py hz₈ (up _ _ D.TOz hTO₅) (D1.frame _ _ _ u1 fun c hc o e=>?_) (D2.frame _ _ _ u2 fun c hc o e=>?_) hT sz8 fun c o c1 c2 c3 c4 e=>up c o c1 (kp5 c o c1 c2 c3 c4 e)
 ·refine up c o ?_ e
  rcases y09.mp hc with rfl|hc
  ·exact D.i1z
  ·rw[y0z.mp hc]
   exact D.l1z
 ·refine up c o ?_ e
  rcases y09.mp hc with rfl|hc
  ·exact D.i2z
  ·rw[y0z.mp hc]
   exact D.l2z
theorem zk1 {Q:Fin->y04->Prop} (D:ZipApart z TI TO i1 i2 l1 l2) (D1:Draws prog w A i1 [i1,l1] n1 P1 S1) (D2:Draws prog w A i2 [i2,l2] n2 P2 S2) (hz:ZipR s.heap z TI TO .none f1) (hTI:IsPair s.heap TI (.ref i1) (.ref i2)) (hTO:IsPair s.heap TO a b)
  (s1:S1 k s.heap) (s2:S2 k s.heap) (hk:k=n1\/(k<n1/\k=n2))
  (hE:∀h' e tk,(∀c o,c≠z->c≠TO->c≠i1->c≠i2->s.heap.get? c=some o->h'.get? c=some o)->(∃o,h'.get? e=some o/\o.cls=.type "StopIteration")->E (.ref e) { s with heap:=h',toks:=tk }) :
  y0u (model prog w) A (Builtin.«zip.__next__» ⟨[.ref z],[]⟩) Q E s:=by
 unfold ZipR at hz
 refine y02 (m:=field (.ref z) 2) (wpAny_field hz rfl (x:=.bool false) rfl (y02 (m:=field (.ref z) 3) (wpAny_field hz rfl (x:=.ref TI) rfl (y02 (wpAny_seqItems hTI rfl ?_)))))
 refine y02 (m:=y10 (.ref z)) ?_
 unfold y10
 refine y02 (wpAny_field hz rfl (x:=.none) rfl (y06 ?_))
 simp only[if_true]
 refine y02 (wpAny_rule (y02 (wpAny_field hz rfl (x:=.ref TO) rfl (y02 (wpAny_setField_rec hz (by simp) fun h₁ hz₁ e₁=>?_)))))
 replace hz₁:ZipR h₁ z TI TO .ellipsis f1:=hz₁
 refine y02 ?_
 simp only[List.zipIdx_cons,List.zipIdx_nil,List.forIn_cons,List.forIn_nil]
 have st1:S1 k h₁:=D1.frame k _ _ s1 fun c hc o e=>by
  rcases y09.mp hc with rfl|hc
  ·exact e₁.extBut _ _ D.i1z e
  ·rw[y0z.mp hc] at e ⊢
   exact e₁.extBut _ _ D.l1z e
 rcases hk with rfl|⟨h1,rfl⟩
 ·refine y02 (y02 (wpAny_onRaise (y02 (m:=y0t (.ref i1)) (D1.done _ _ _ st1 fun h₂ e e₂ he=>?_))))
  obtain⟨oe,hoe,hce⟩:=he
  have hz₂:ZipR h₂ z TI TO .ellipsis f1:=e₂ _ _ D.i1z.symm hz₁
  have ne:e≠z:=fun q=>by
   subst q
   unfold ZipR at hz₂
   rw[hz₂] at hoe
   cases hoe
   simp at hce
  exact wpAny_setField_rec hz₂ (by simp) fun h₃ _ e₃=>hE h₃ e _ (fun c o c1 _ c3 _ q=>e₃.extBut _ _ c1 (e₂ _ _ c3 (e₁.extBut _ _ c1 q))) ⟨oe,e₃.extBut _ _ ne hoe,hce⟩
 ·refine y02 (y02 (wpAny_onRaise (y02 (m:=y0t (.ref i1)) (D1.item k _ _ _ h1 st1 fun x h₂ tk px t1 e₂=>y06 ?_))))
  have hTO₂:IsPair h₂ TO a b:=e₂.extBut _ _ D.TOi1 (e₁.extBut _ _ D.TOz hTO)
  refine y02 (wpAny_seqItems hTO₂ rfl (y02 (wpAny_updateSeq_pair hTO₂ fun h₃ hTO₃ e₃=>?_)))
  refine y02 (wpAny_letGo (y06 ?_))
  have st2:S2 k h₃:=D2.frame k _ _ s2 fun c hc o e=>by
   rcases y09.mp hc with rfl|hc
   ·exact e₃.extBut _ _ D.TOi2.symm (e₂.extBut _ _ D.i12.symm (e₁.extBut _ _ D.i2z e))
   ·rw[y0z.mp hc] at e ⊢
    exact e₃.extBut _ _ D.l2TO (e₂.extBut _ _ D.l2i1 (e₁.extBut _ _ D.l2z e))
  refine y02 (y02 (wpAny_onRaise (y02 (m:=y0t (.ref i2)) (D2.done _ _ _ st2 fun h₄ e e₄ he=>?_))))
  obtain⟨oe,hoe,hce⟩:=he
  have hz₄:ZipR h₄ z TI TO .ellipsis f1:=e₄ _ _ D.i2z.symm (e₃.extBut _ _ D.TOz.symm (e₂.extBut _ _ D.i1z.symm hz₁))
  have ne:e≠z:=fun q=>by
   subst q
   unfold ZipR at hz₄
   rw[hz₄] at hoe
   cases hoe
   simp at hce
  exact wpAny_setField_rec hz₄ (by simp) fun h₅ _ e₅=>hE h₅ e _ (fun c o c1 c2 c3 c4 q=>e₅.extBut _ _ c1 (e₄ _ _ c4 (e₃.extBut _ _ c2 (e₂.extBut _ _ c3 (e₁.extBut _ _ c1 q))))) ⟨oe,e₅.extBut _ _ ne hoe,hce⟩
theorem zrs {c:Addr} {Q:Option Obj->y04->Prop} (h:Q (s.heap.get? c) s):y0u (model prog w) A (loadIfAlive c) Q E s:=fun Γ p _=>by
 unfold loadIfAlive
 rw[Sem.wp_loadIfAlive]
 simpa using h
theorem zew {T:Addr} {oT:Obj} {f:Bool} (hz:ZipR s.heap z TI TO (rawInt T) (.bool f)) (hT:s.heap.get? T=some oT) :
  y0u (model prog w) A (y10 (.ref z)) (fun c s'=>c=false/\∃h₁,s'={ s with heap:=h₁ }/\ZipR h₁ z TI TO (rawInt T) (.bool true)/\Heap.SameBut z s.heap h₁) E s:=by
 unfold ZipR at hz
 unfold y10
 refine y02 (wpAny_field hz rfl (x:=rawInt T) rfl ?_)
 refine y02 (m:=loadIfAlive ((T:Nat):Int).toNat) (zrs ?_)
 rw[Int.toNat_natCast,hT]
 simp only[Option.isNone_some,y1w,if_false]
 refine y02 (wpAny_field hz rfl (x:=.bool f) rfl ?_)
 cases f with
 | true =>
  simp only[bne_self_eq_false,y1w,if_false]
  exact y06 ⟨rfl,s.heap,rfl,hz,Heap.SameBut.refl ..⟩
 | false =>
  rw[if_pos (by decide)]
  exact y02 (wpAny_setField_rec hz (by simp) fun h₁ hz₁ e₁=>y06 ⟨rfl,h₁,rfl,hz₁,e₁⟩)
theorem zpp {Q:Value->y04->Prop} {T:Addr} {oT:Obj} {f:Bool} (D:ZipApart z TI TO i1 i2 l1 l2) (D1:Draws prog w A i1 [i1,l1] n1 P1 S1) (D2:Draws prog w A i2 [i2,l2] n2 P2 S2) (hz:ZipR s.heap z TI TO (rawInt T) (.bool f)) (hT:s.heap.get? T=some oT) (hTI:IsPair s.heap TI (.ref i1) (.ref i2))
  (s1:S1 k s.heap) (s2:S2 k s.heap) (h1:k<n1) (h2:k<n2)
  (hQ:∀h' x y tk,P1 k x->P2 k y->ZipR h' z TI TO (rawInt T) (.bool true)->S1 (k+1) h'->S2 (k+1) h'->IsPair h' s.heap.objs.size x y->h'.objs.size=s.heap.objs.size+1 ->
   (∀c o,c≠z->c≠i1->c≠i2->s.heap.get? c=some o->h'.get? c=some o)->Q (.ref s.heap.objs.size) { s with heap:=h',toks:=tk }) :
  y0u (model prog w) A (Builtin.«zip.__next__» ⟨[.ref z],[]⟩) (fun fin s'=>∃v,fin=.done (.ret v)/\Q v s') E s:=by
 have hz0:=hz
 unfold ZipR at hz
 refine y02 (m:=field (.ref z) 2) (wpAny_field hz rfl (x:=.bool false) rfl (y02 (m:=field (.ref z) 3) (wpAny_field hz rfl (x:=.ref TI) rfl (y02 (wpAny_seqItems hTI rfl ?_)))))
 refine y02 (m:=y10 (.ref z)) (y1e (zew hz0 hT) (fun c s' ⟨ec,h₁,es,hz₁,e₁⟩=>?_) fun _ _ q=>q)
 subst ec es
 simp only[y1w,if_false]
 refine y02 ?_
 rw[<- Array.forIn_toList]
 simp only[List.forIn_cons,List.forIn_nil]
 have st1:S1 k h₁:=D1.frame k _ _ s1 fun c hc o e=>by
  rcases y09.mp hc with rfl|hc
  ·exact e₁.extBut _ _ D.i1z e
  ·rw[y0z.mp hc] at e ⊢
   exact e₁.extBut _ _ D.l1z e
 refine y02 (y02 (wpAny_holding (y02 (m:=y0t (.ref i1)) (D1.item k _ _ _ h1 st1 fun x h₂ tk px t1 e₂=>y06 (y06 ?_)))))
 have st2:S2 k h₂:=D2.frame k _ _ s2 fun c hc o e=>by
  rcases y09.mp hc with rfl|hc
  ·exact e₂.extBut _ _ D.i12.symm (e₁.extBut _ _ D.i2z e)
  ·rw[y0z.mp hc] at e ⊢
   exact e₂.extBut _ _ D.l2i1 (e₁.extBut _ _ D.l2z e)
 refine y02 (y02 (wpAny_holding (y02 (m:=y0t (.ref i2)) (D2.item k _ _ _ h2 st2 fun y h₃ tk2 py t2 e₃=>y06 (y06 (y06 ?_))))))
 refine y02 (wpAny_newTuple (y06 ⟨_,rfl,?_⟩) (by show 2<=y0k;decide))
 have sz3:h₃.objs.size=s.heap.objs.size:=by rw[e₃.1,e₂.1,e₁.1]
 have t1':S1 (k+1) h₃:=D1.frame _ _ _ t1 fun c hc o e=>by
  rcases y09.mp hc with rfl|hc
  ·exact e₃.extBut _ _ D.i12 e
  ·rw[y0z.mp hc] at e ⊢
   exact e₃.extBut _ _ D.l1i2 e
 have hz₃:ZipR h₃ z TI TO (rawInt T) (.bool true):=e₃.extBut _ _ D.i2z.symm (e₂.extBut _ _ D.i1z.symm hz₁)
 have hp:(h₃.push { cls:=.type "tuple",data:=.seq #[x,y] }).get? h₃.objs.size=some _:=y0m _ rfl
 show Q (.ref h₃.objs.size) _
 rw[sz3] at hp ⊢
 refine hQ (h₃.push { cls:=.type "tuple",data:=.seq #[x,y] }) x y _ px py (y03 _ hz₃) (D1.frame _ _ _ t1' fun c _ o e=>y03 _ e) (D2.frame _ _ _ t2 fun c _ o e=>y03 _ e) hp (by rw[y18,sz3])
  fun c o c1 c3 c4 e=>y03 _ (e₃.extBut _ _ c4 (e₂.extBut _ _ c3 (e₁.extBut _ _ c1 e)))
theorem zfp {Q:Fin->y04->Prop} {T:Addr} {oT:Obj} {f:Bool} (D:ZipApart z TI TO i1 i2 l1 l2) (D1:Draws prog w A i1 [i1,l1] n1 P1 S1) (D2:Draws prog w A i2 [i2,l2] n2 P2 S2) (hz:ZipR s.heap z TI TO (rawInt T) (.bool f)) (hT:s.heap.get? T=some oT) (hTI:IsPair s.heap TI (.ref i1) (.ref i2))
  (s1:S1 k s.heap) (s2:S2 k s.heap) (hk:k=n1\/(k<n1/\k=n2))
  (hE:∀h' e tk,(∀c o,c≠z->c≠i1->c≠i2->s.heap.get? c=some o->h'.get? c=some o)->(∃o,h'.get? e=some o/\o.cls=.type "StopIteration")->E (.ref e) { s with heap:=h',toks:=tk }) :
  y0u (model prog w) A (Builtin.«zip.__next__» ⟨[.ref z],[]⟩) Q E s:=by
 have hz0:=hz
 unfold ZipR at hz
 refine y02 (m:=field (.ref z) 2) (wpAny_field hz rfl (x:=.bool false) rfl (y02 (m:=field (.ref z) 3) (wpAny_field hz rfl (x:=.ref TI) rfl (y02 (wpAny_seqItems hTI rfl ?_)))))
 refine y02 (m:=y10 (.ref z)) (y1e (zew hz0 hT) (fun c s' ⟨ec,h₁,es,hz₁,e₁⟩=>?_) fun _ _ q=>q)
 subst ec es
 simp only[y1w,if_false]
 refine y02 ?_
 rw[<- Array.forIn_toList]
 simp only[List.forIn_cons,List.forIn_nil]
 have st1:S1 k h₁:=D1.frame k _ _ s1 fun c hc o e=>by
  rcases y09.mp hc with rfl|hc
  ·exact e₁.extBut _ _ D.i1z e
  ·rw[y0z.mp hc] at e ⊢
   exact e₁.extBut _ _ D.l1z e
 rcases hk with rfl|⟨h1,rfl⟩
 ·refine y02 (y02 (wpAny_holding (y02 (m:=y0t (.ref i1)) (D1.done _ _ _ st1 fun h₂ e e₂ he=>?_))))
  exact hE h₂ e _ (fun c o c1 c3 _ q=>e₂ _ _ c3 (e₁.extBut _ _ c1 q)) he
 ·refine y02 (y02 (wpAny_holding (y02 (m:=y0t (.ref i1)) (D1.item k _ _ _ h1 st1 fun x h₂ tk px t1 e₂=>y06 (y06 ?_)))))
  have st2:S2 k h₂:=D2.frame k _ _ s2 fun c hc o e=>by
   rcases y09.mp hc with rfl|hc
   ·exact e₂.extBut _ _ D.i12.symm (e₁.extBut _ _ D.i2z e)
   ·rw[y0z.mp hc] at e ⊢
    exact e₂.extBut _ _ D.l2i1 (e₁.extBut _ _ D.l2z e)
  refine y02 (y02 (wpAny_holding (y02 (m:=y0t (.ref i2)) (D2.done _ _ _ st2 fun h₃ e e₃ he=>?_))))
  exact hE h₃ e _ (fun c o c1 c3 c4 q=>e₃ _ _ c4 (e₂.extBut _ _ c3 (e₁.extBut _ _ c1 q))) he
end
end
section
variable [Tbl]
open AutoSeq1 (wpAny_loadPart')
def itN (b:Bool):String:=if b then "list_iterator" else "tuple_iterator"
def itK (b:Bool) (h:Heap) (it l:Addr) (i:Nat):Prop:=match b with
 | true=>h.IsListIter it l i
 | false=>h.IsTupleIter it l i
def sqK (b:Bool) (h:Heap) (l:Addr) (xs:Array Value):Prop:=match b with
 | true=>h.IsList l xs
 | false=>h.IsTuple l xs
theorem itK.at {b:Bool} {h h':Heap} {it l:Addr} {i:Nat} (x:itK b h it l i) (k:∀o,h.get? it=some o->h'.get? it=some o):itK b h' it l i:=by
 cases b with
 | true=>exact Heap.IsListIter.at x k
 | false =>
  obtain⟨o,ho,r⟩:=x
  exact⟨o,k o ho,r⟩
theorem itK.obj {b:Bool} {h:Heap} {it l:Addr} {i:Nat} (x:itK b h it l i):∃o,h.get? it=some o/\∀v,o.data≠.cell v:=by
 cases b with
 | true =>
  obtain⟨o,ho,hc,hd⟩:=x
  exact⟨o,ho,fun v z=>by rw[hd] at z;cases z⟩
 | false =>
  obtain⟨o,ho,hc,hd⟩:=x
  exact⟨o,ho,fun v z=>by rw[hd] at z;cases z⟩
theorem sqK.at {b:Bool} {h h':Heap} {l:Addr} {xs:Array Value} (x:sqK b h l xs) (k:∀o,h.get? l=some o->h'.get? l=some o):sqK b h' l xs:=by
 cases b with
 | true =>
  obtain⟨o,ho,r⟩:=x
  exact⟨o,k o ho,r⟩
 | false =>
  obtain⟨o,ho,r⟩:=x
  exact⟨o,k o ho,r⟩
theorem sqK.lt {b:Bool} {h:Heap} {l:Addr} {xs:Array Value} (x:sqK b h l xs):l<h.objs.size:=by
 cases b with
 | true =>
  obtain⟨o,ho,r⟩:=x
  exact y0c ho
 | false =>
  obtain⟨o,ho,r⟩:=x
  exact y0c ho
theorem z8i {prog:y0r} {w:World} {A:Around} (b:Bool) (hh:A.handled=none) (it l:Addr) (hne:l≠it) (xs:Array Value) :
  Draws prog w A it [it,l] xs.size (fun i v=>xs[i]?=some v) (fun i h=>itK b h it l i/\sqK b h l xs):=by
 cases b with
 | true=>exact Draws.list hh it l hne xs
 | false=>exact z4j hh it l hne xs
abbrev zob (b:Bool) (l:Addr):Obj:={ cls:=.type (itN b),data:=.fields #[.ref l,.int 0 0] }
abbrev zip3 (b1 b2:Bool) (h:Heap) (l1 l2:Addr):Heap:=((h.push (zob b1 l1)).push (zob b2 l2)).push { cls:=.type "tuple",data:=.seq #[.ref h.objs.size,.ref (h.objs.size+1)] }
abbrev zip4 (b1 b2:Bool) (h:Heap) (l1 l2:Addr):Heap:=(zip3 b1 b2 h l1 l2).push { cls:=.type "tuple",data:=.seq #[.none,.none] }
abbrev zip5 (b1 b2:Bool) (h:Heap) (l1 l2:Addr):Heap:=(zip4 b1 b2 h l1 l2).push { cls:=.type "zip",data:=.fields #[.none,.bool false,.bool false,.ref (h.objs.size+2),.ref (h.objs.size+3)] }
section
variable {prog:y0r} {w:World} {A:Around} {E:Value->y04->Prop} {s:y04}
theorem zsr {b:Bool} {l:Addr} {xs:Array Value} {Q:Value->y04->Prop} (hl:sqK b s.heap l xs) (h:Q (.ref s.heap.objs.size) { s with heap:=s.heap.push (zob b l) }):y0u (model prog w) A (pyIter (.ref l)) Q E s:=by
 cases b with
 | true=>exact wpAny_pyIter_list hl h
 | false=>exact wpAny_pyIter_tuple hl h
theorem zlu (b1 b2:Bool) (l1 l2:Addr) (xs ys:Array Value) :
  Meets (Builtin.«zip.__new__» ⟨[.type "zip",.ref l1,.ref l2],[]⟩) (fun _ R s=>sqK b1 s.heap l1 xs/\sqK b2 s.heap l2 ys /\
   R (.ok (.ret (.ref (s.heap.objs.size+4)))) { s with heap:=zip5 b1 b2 s.heap l1 l2 }) :=
 .of_wp fun prog w A R s h=>by
  obtain⟨hp,g,d,tk,os⟩:=s
  obtain⟨h1,h2,h⟩:=h
  have hsub:=sub_zip
  have h1':sqK b1 (Shared.heap ⟨hp,g,d,tk,os⟩) l1 xs:=h1
  have h2':sqK b2 (Shared.heap ⟨hp.push (zob b1 l1),g,d,tk,os⟩) l2 ys:=h2.at fun o e=>y03 _ e
  wp_walk using zsr h1',zsr h2'
  refine⟨_,rfl,?_⟩
  simp only[y18] at h ⊢
  exact h
theorem zim {b1 b2:Bool} {l1 l2:Addr} {xs ys:Array Value} {Q:Value->y04->Prop} (h1:sqK b1 s.heap l1 xs) (h2:sqK b2 s.heap l2 ys)
  (h:∀h',ZipR h' (s.heap.objs.size+4) (s.heap.objs.size+2) (s.heap.objs.size+3) .none (.bool false)->IsPair h' (s.heap.objs.size+2) (.ref s.heap.objs.size) (.ref (s.heap.objs.size+1))->IsPair h' (s.heap.objs.size+3) .none .none ->
   itK b1 h' s.heap.objs.size l1 0->itK b2 h' (s.heap.objs.size+1) l2 0->h'.objs.size=s.heap.objs.size+5->(∀c o,s.heap.get? c=some o->h'.get? c=some o)->Q (.ref (s.heap.objs.size+4)) { s with heap:=h' }) :
  y0u (model prog w) A (call (.type "zip") [.ref l1,.ref l2]) Q E s:=by
 have hi:∀(b:Bool) (h':Heap) (it l:Addr),h'.get? it=some (zob b l)->itK b h' it l 0:=fun b h' it l e=>by
  cases b with
  | true=>exact⟨_,e,rfl,rfl⟩
  | false=>exact⟨_,e,rfl,rfl⟩
 refine callType_new F.called_zip (by decide) (F.typeCall_zip_2 _ _) (F.newCall_zip_2 _ _) (fun obj=>F.args_object_init_3 obj _ _) F.entry_zip_new (zlu b1 b2 l1 l2 xs ys) ⟨h1,h2,?_⟩
 have at_:∀(hh:Heap) (n:Nat) (o o':Obj),hh.objs.size=n->o.isFreed=false->(hh.push o).get? n=some o:=fun hh n o o' e f=>by
  rw[<- e]
  exact y0m _ f
 have g5:(zip5 b1 b2 s.heap l1 l2).get? (s.heap.objs.size+4)=some _:=at_ (zip4 b1 b2 s.heap l1 l2) (s.heap.objs.size+4) _ default (by simp only[y18]) rfl
 refine⟨⟨_,g5,rfl⟩,h _ g5 ?_ ?_ ?_ ?_ (by simp only[y18]) fun c o e=>y03 _ (y03 _ (y03 _ (y03 _ (y03 _ e))))⟩
 ·exact y03 _ (y03 _ (at_ _ _ _ default (by simp only[y18]) rfl))
 ·exact y03 _ (at_ _ _ _ default (by simp only[y18]) rfl)
 ·exact hi b1 _ _ _ (y03 _ (y03 _ (y03 _ (y03 _ (y0m _ rfl)))))
 ·exact hi b2 _ _ _ (y03 _ (y03 _ (y03 _ (at_ _ _ _ default (by simp only[y18]) rfl))))
end
end
section
variable [Tbl]
theorem zjl:typeLookup (.type "zip") "keys"=pure none:=by rw[typeLookup_type,builtinLookup_eq_fast];kernel_rfl
theorem zei:typeLookup (.type "zip") "__getattr__"=pure none:=by rw[typeLookup_type,builtinLookup_eq_fast];kernel_rfl
theorem zi7:entryFor table "zip.__getattribute__"=some Builtin.«object.__getattribute__»:=entryFor_alias (id':="object.__getattribute__") (by kernel_rfl) (by decide +kernel) (by decide +kernel) (by kernel_rfl)
theorem zeh (a:Addr) (vs:Array Value) (name:Str) (u:Tok) (hmiss:typeLookup (.type "zip") name=pure none) (hname:(["__module__","__name__","__qualname__","__doc__","__annotations__"]:List Str).contains name=false) (hsz:name.length+100<=y0k) :
  Meets (Builtin.«object.__getattribute__» ⟨[.ref a,.str name u],[]⟩) (fun A R s=>s.heap.get? a=some { cls:=.type "zip",dict:=none,data:=.fields vs,slots:=#[] }/\raisesAttr (.ref a) name A R s) :=
 Meets.of_wp fun prog w A R s hs=>by
  obtain⟨hp,g,d,tk,os⟩:=s
  obtain⟨hx,hs⟩:=hs
  have ty:(⟨hp,g,d,tk,os⟩:y04).TypeIs (.ref a) "zip":=⟨_,hx,rfl⟩
  unfold Builtin.«object.__getattribute__»
  repeat (any_goals (first|assumption|wp_step))
  simp only[hname,y1w,if_false]
  repeat (any_goals (first|assumption|wp_step))
  exact wpAny_raiseAttrError hs.1 hs.2 (attrMsg_fits (by decide +kernel) hsz)
theorem zqu {prog:y0r} {w:World} {A:Around} {E:Value->y04->Prop} {s:y04} {a:Addr} {vs:Array Value} {Q:Option Value->y04->Prop}
  (hx:s.heap.get? a=some { cls:=.type "zip",dict:=none,data:=.fields vs,slots:=#[] }) (hA:A.handled=none)
  (h:∀h' tk,(∀b o,s.heap.get? b=some o->h'.get? b=some o)->Q none { s with heap:=h',toks:=tk }) :
  y0u (model prog w) A (getAttr? (.ref a) "keys") Q E s:=by
 obtain⟨hp,g,d,tk,os⟩:=s
 have ty:∀tk',(⟨hp,g,d,tk',os⟩:y04).TypeIs (.ref a) "zip":=fun _=>⟨_,hx,rfl⟩
 have f1:=sub_AttributeError
 have f3:=F.slot_zip_getattribute.lookup
 have f4:=F.slot_zip_getattribute.bind (.ref a)
 have f5:=zei
 have nm:(["__module__","__name__","__qualname__","__doc__","__annotations__"]:List Str).contains ("keys":Str)=false:=by decide +kernel
 have sz:("keys":Str).length+100<=y0k:=by rw[sizeLine_eq];decide
 unfold getAttr? getAttrBy? getAttrBy
 repeat (any_goals (first|assumption|exact ty _|((with_reducible show y0u _ _ (call (Value.builtin "zip.__getattribute__") _ _) _ _ _);refine call_meets F.slot_zip_getattribute (ty _) zi7 (F.args_zip_getattribute_2 _ _) (zeh a vs "keys" _ zjl nm sz) ⟨hx,hA,fun h' tk' e hx'=>?_⟩)|wp_step))
 obtain⟨t',u',he⟩:=hx'.there
 show y0u _ _ (getattributeRaised _ _ _ _ _ _ _) _ _ _
 unfold getattributeRaised
 repeat (any_goals (first|assumption|wp_step))
 exact h _ _ hx'.keeps
section
variable {prog:y0r} {w:World} {K:Type} [DecidableEq K] {knd:PySem.KeyKind prog w K} {A:Around} {E:Value->y04->Prop} {s:y04} {R:Result->y04->Prop} {z TI TO i1 i2 l1 l2:Addr} {b1 b2:Bool} {xs ys:Array Value}
noncomputable def zj2 (S z TI TO i1 i2 l1 l2:Addr) (b1 b2:Bool) (xs ys:Array Value) (i:Nat) (h:Heap):Prop:=IsPair h TI (.ref i1) (.ref i2)/\(∃a b,IsPair h TO a b)/\(itK b1 h i1 l1 i/\sqK b1 h l1 xs)/\(itK b2 h i2 l2 i/\sqK b2 h l2 ys) /\
 (ZipR h z TI TO .none (.bool false)\/∃(T:Nat) (oT:Obj) (f:Bool),ZipR h z TI TO (rawInt T) (.bool f)/\h.get? T=some oT/\T≠S/\T≠z/\T≠TO/\T≠i1/\T≠i2)
def Kept (S z TO i1 i2:Addr) (h h':Heap):Prop:=∀c o,c≠S->c≠z->c≠TO->c≠i1->c≠i2->h.get? c=some o->h'.get? c=some o
theorem zla {S:Addr} {i:Nat} {Q:Option Value->y04->Prop} (hh:A.handled=none) (D:ZipApart z TI TO i1 i2 l1 l2) (st:zj2 S z TI TO i1 i2 l1 l2 b1 b2 xs ys i s.heap) (hS:∃o,s.heap.get? S=some o) (hSz:S≠z/\S≠TO/\S≠i1/\S≠i2)
  (hx:i<xs.size) (hy:i<ys.size)
  (hQ:∀h' tk,IsPair h' s.heap.objs.size xs[i] ys[i]->zj2 S z TI TO i1 i2 l1 l2 b1 b2 xs ys (i+1) h'->(∀o,s.heap.get? S=some o->h'.get? S=some o)->Kept S z TO i1 i2 s.heap h'->s.heap.objs.size<=h'.objs.size->Q (some (.ref s.heap.objs.size)) { s with heap:=h',toks:=tk }) :
  y0u (model prog w) A (pyNext (.ref z)) Q E s:=by
 obtain⟨hTI,⟨a,b,hTO⟩,q1,q2,hz⟩:=st
 have zlt:∀{f0 f1:Value},ZipR s.heap z TI TO f0 f1->z<s.heap.objs.size:=fun h=>y0c h
 have hT:s.TypeIs (.ref z) "zip":=by
  rcases hz with h|⟨T,oT,f,h,_⟩
  ·exact⟨_,h,rfl⟩
  ·exact⟨_,h,rfl⟩
 have ilt:i1<s.heap.objs.size/\i2<s.heap.objs.size:=by
  obtain⟨o1,e1,_⟩:=q1.1.obj
  obtain⟨o2,e2,_⟩:=q2.1.obj
  exact⟨y0c e1,y0c e2⟩
 have Slt:S<s.heap.objs.size:=by
  obtain⟨o,e⟩:=hS
  exact y0c e
 have TOlt:TO<s.heap.objs.size:=y0c hTO
 unfold pyNext
 refine y02 (wpAny_attempt (wpAny_callSpecial?_slot (name:=Str.ofString "__next__") hT F.slot_zip_next (wpAny_call_entry F.slot_zip_next hT F.entry_zip_next ?_ (F.args_zip_next_1 _))))
 rcases hz with hz|⟨T,oT,f,hz,hTo,t1,t2,t3,t4,t5⟩
 ·refine zk2 (S1:=fun i h=>itK b1 h i1 l1 i/\sqK b1 h l1 xs) (S2:=fun i h=>itK b2 h i2 l2 i/\sqK b2 h l2 ys) D (z8i (A:=A.in1) b1 hh i1 l1 D.l1i1 xs) (z8i (A:=A.in1) b2 hh i2 l2 D.l2i2 ys) hz hTI hTO q1 q2 hx hy fun h' x y tk px py hz' hTO' s1 s2 hp hsz kp=>y06 ?_
  have ex:xs[i]=x:=y2i ((y1r hx).symm.trans px)
  have ey:ys[i]=y:=y2i ((y1r hy).symm.trans py)
  subst ex ey
  refine hQ h' tk hp ⟨kp _ _ D.TIz D.TITO D.TIi1 D.TIi2 hTI,⟨_,_,hTO'⟩,s1,s2,.inr ⟨_,_,false,hz',hp,?_⟩⟩ (fun o e=>kp _ _ hSz.1 hSz.2.1 hSz.2.2.1 hSz.2.2.2 e) (fun c o _ c2 c3 c4 c5 e=>kp c o c2 c3 c4 c5 e) (by omega)
  exact⟨y16 Slt,y16 (zlt hz),y16 TOlt,y16 ilt.1,y16 ilt.2⟩
 ·refine zpp (S1:=fun i h=>itK b1 h i1 l1 i/\sqK b1 h l1 xs) (S2:=fun i h=>itK b2 h i2 l2 i/\sqK b2 h l2 ys) D (z8i (A:=A.in1) b1 hh i1 l1 D.l1i1 xs) (z8i (A:=A.in1) b2 hh i2 l2 D.l2i2 ys) hz hTo hTI q1 q2 hx hy fun h' x y tk px py hz' s1 s2 hp hsz kp=>y06 ?_
  have ex:xs[i]=x:=y2i ((y1r hx).symm.trans px)
  have ey:ys[i]=y:=y2i ((y1r hy).symm.trans py)
  subst ex ey
  exact hQ h' tk hp ⟨kp _ _ D.TIz D.TIi1 D.TIi2 hTI,⟨a,b,kp _ _ D.TOz D.TOi1 D.TOi2 hTO⟩,s1,s2,.inr ⟨T,oT,true,hz',kp _ _ t2 t4 t5 hTo,t1,t2,t3,t4,t5⟩⟩ (fun o e=>kp _ _ hSz.1 hSz.2.2.1 hSz.2.2.2 e) (fun c o _ c2 c3 c4 c5 e=>kp c o c2 c4 c5 e) (by omega)
theorem zlb {S:Addr} {i:Nat} {Q:Option Value->y04->Prop} (hh:A.handled=none) (D:ZipApart z TI TO i1 i2 l1 l2) (st:zj2 S z TI TO i1 i2 l1 l2 b1 b2 xs ys i s.heap) (hSz:S≠z/\S≠TO/\S≠i1/\S≠i2) (hi:i=xs.size\/(i<xs.size/\i=ys.size))
  (hQ:∀h' tk,(∀o,s.heap.get? S=some o->h'.get? S=some o)->Kept S z TO i1 i2 s.heap h'->Q none { s with heap:=h',toks:=tk }) :
  y0u (model prog w) A (pyNext (.ref z)) Q E s:=by
 obtain⟨hTI,⟨a,b,hTO⟩,q1,q2,hz⟩:=st
 have hT:s.TypeIs (.ref z) "zip":=by
  rcases hz with h|⟨T,oT,f,h,_⟩
  ·exact⟨_,h,rfl⟩
  ·exact⟨_,h,rfl⟩
 unfold pyNext
 refine y02 (wpAny_attempt (wpAny_callSpecial?_slot (name:=Str.ofString "__next__") hT F.slot_zip_next (wpAny_call_entry F.slot_zip_next hT F.entry_zip_next ?_ (F.args_zip_next_1 _))))
 rcases hz with hz|⟨T,oT,f,hz,hTo,t1,t2,t3,t4,t5⟩
 ·refine zk1 (S1:=fun i h=>itK b1 h i1 l1 i/\sqK b1 h l1 xs) (S2:=fun i h=>itK b2 h i2 l2 i/\sqK b2 h l2 ys) D (z8i (A:=A.in1) b1 hh i1 l1 D.l1i1 xs) (z8i (A:=A.in1) b2 hh i2 l2 D.l2i2 ys) hz hTI hTO q1 q2 hi fun h' e tk kp he=>?_
  obtain⟨o,ho,hc⟩:=he
  refine y02 (wpAny_isInstance (T:="StopIteration") (b:=true) ⟨o,ho,hc⟩ isSubtype_stop (y06 ?_))
  exact hQ h' tk (fun o e=>kp _ _ hSz.1 hSz.2.1 hSz.2.2.1 hSz.2.2.2 e) fun c o _ c2 c3 c4 c5 e=>kp c o c2 c3 c4 c5 e
 ·refine zfp (S1:=fun i h=>itK b1 h i1 l1 i/\sqK b1 h l1 xs) (S2:=fun i h=>itK b2 h i2 l2 i/\sqK b2 h l2 ys) D (z8i (A:=A.in1) b1 hh i1 l1 D.l1i1 xs) (z8i (A:=A.in1) b2 hh i2 l2 D.l2i2 ys) hz hTo hTI q1 q2 hi fun h' e tk kp he=>?_
  obtain⟨o,ho,hc⟩:=he
  refine y02 (wpAny_isInstance (T:="StopIteration") (b:=true) ⟨o,ho,hc⟩ isSubtype_stop (y06 ?_))
  exact hQ h' tk (fun o e=>kp _ _ hSz.1 hSz.2.2.1 hSz.2.2.2 e) fun c o _ c2 c3 c4 c5 e=>kp c o c2 c4 c5 e
theorem zj2.frame {S:Addr} {i:Nat} {h h':Heap} (st:zj2 S z TI TO i1 i2 l1 l2 b1 b2 xs ys i h) (hS:∀c∈[z,TI,TO,i1,i2,l1,l2],S≠c) (k:∀c o,c≠S->h.get? c=some o->h'.get? c=some o):zj2 S z TI TO i1 i2 l1 l2 b1 b2 xs ys i h':=by
 obtain⟨hTI,⟨a,b,hTO⟩,q1,q2,hz⟩:=st
 have ne:∀c∈[z,TI,TO,i1,i2,l1,l2],c≠S:=fun c hc=>(hS c hc).symm
 refine⟨k _ _ (ne _ (by simp)) hTI,⟨a,b,k _ _ (ne _ (by simp)) hTO⟩,⟨q1.1.at fun o e=>k _ _ (ne _ (by simp)) e,q1.2.at fun o e=>k _ _ (ne _ (by simp)) e⟩,⟨q2.1.at fun o e=>k _ _ (ne _ (by simp)) e,q2.2.at fun o e=>k _ _ (ne _ (by simp)) e⟩,?_⟩
 rcases hz with hz|⟨T,oT,f,hz,hT,t⟩
 ·exact .inl (k _ _ (ne z (by simp)) hz)
 ·exact .inr ⟨T,oT,f,k _ _ (ne z (by simp)) hz,k _ _ t.1 hT,t⟩
theorem zid (hh:A.handled=none) (D:ZipApart z TI TO i1 i2 l1 l2) (S:Addr) (hS:∀c∈[z,TI,TO,i1,i2,l1,l2],S≠c) (kvs:List (K×Value)) (hnd:(kvs.map (·.1)).Nodup) (hlen:kvs.length=min xs.size ys.size) (hz:kvs.length<=y0k)
  (hkv:∀(j:Nat) (kv:K×Value),kvs[j]?=some kv->∃key,xs[j]?=some key/\knd.is kv.1 key=true/\ys[j]?=some kv.2) :
  ∀(k i:Nat) (s:y04) (c:Int) (ct:Tok),kvs.length - i=k->i<=kvs.length->zj2 S z TI TO i1 i2 l1 l2 b1 b2 xs ys i s.heap->s.heap.DictOf knd S (kvs.take i) ->
   (∀h' tk,Kept S z TO i1 i2 s.heap h'->h'.DictOf knd S kvs->R (.ok (.ret .none)) { s with heap:=h',toks:=tk }) ->
   codeAny (model prog w) A (.builtin "dict.update.loop" ⟨[.ref S,.ref z,.int c ct,.none],[]⟩) R s:=by
 have hSz:S≠z/\S≠TO/\S≠i1/\S≠i2:=⟨hS _ (by simp),hS _ (by simp),hS _ (by simp),hS _ (by simp)⟩
 intro k
 induction k with
 | zero =>
  intro i s c ct hk hi hst hd hR
  have hin:i=kvs.length:=by omega
  subst hin
  refine codeAny_builtin zi9 ?_
  rw[y1y zan _]
  refine y02 (m:=pyNext (.ref z)) (zlb (A:=A.in1) hh D hst hSz (by omega) fun h' tk hSS kp=>?_)
  refine y02 (m:=Builtin.Dict.addKeywords S []) (y06 ?_)
  rw[List.take_of_length_le (y0p _)] at hd
  exact y06 (hR h' tk kp (hd.at fun o e=>hSS o e))
 | succ k ih =>
  intro i s c ct hk hi hst hd hR
  have hlt:i<kvs.length:=by omega
  have hx:i<xs.size:=by omega
  have hy:i<ys.size:=by omega
  have hSo:∃o,s.heap.get? S=some o:=by
   obtain⟨o,_,_,e,_⟩:=hd
   exact⟨o,e⟩
  refine codeAny_builtin zi9 ?_
  rw[y1y zan _]
  refine y02 (m:=pyNext (.ref z)) (zla (A:=A.in1) hh D hst hSo hSz hx hy fun h' tk hp st' hSS kp hsz=>?_)
  have hget:kvs[i]?=some kvs[i]:=y0v hlt
  obtain⟨key,e1,e2,e3⟩:=hkv i _ hget
  have ex:xs[i]=key:=y2i ((y1r hx).symm.trans e1)
  have ey:ys[i]=kvs[i].2:=y2i ((y1r hy).symm.trans e3)
  rw[ex,ey] at hp
  refine y02 (wpAny_holding (y02 (wpAny_tryCatch (zlp (s:={ s with heap:=h',toks:=tk }) hp rfl rfl ?_))))
  have hd1:h'.DictOf knd S (kvs.take i):=hd.at fun o e=>hSS o e
  refine wpAny_holding (wpAny_dictSet_pairs (s:={ s with heap:=h',toks:=tk }) e2 hd1 (fun h2 hd2 hsb=>?_) (by rw[List.length_take];omega))
  have hnew:kvs[i].1∉(kvs.take i).map (·.1):=fun q=>by
   rw[<- List.take_append_drop i kvs,List.map_append,y1p] at hnd
   refine hnd.2.2 _ q _ (y0n.mpr ⟨kvs[i],?_,rfl⟩) rfl
   rw[List.drop_eq_getElem_cons hlt]
   exact y0f
  rw[zlg hnew,show kvs.take i++[(kvs[i].1,kvs[i].2)]=kvs.take (i+1) by rw[List.take_succ,hget];rfl] at hd2
  refine y06 ⟨plainId_quiet zan _,ih (i+1) _ _ _ (by omega) hlt (st'.frame hS fun c o hc e=>?_) hd2 fun h3 tk3 kp3 hd3=>hR h3 tk3 (fun c o c1 c2 c3 c4 c5 e=>kp3 c o c1 c2 c3 c4 c5 ?_) hd3⟩
  ·exact (hsb.2 c hc).trans e
  ·exact (hsb.2 c c1).trans (kp c o c1 c2 c3 c4 c5 e)
theorem zmc {kvs:List (K×Value)} {Q:Value->y04->Prop} (hh:A.handled=none) (D:ZipApart z TI TO i1 i2 l1 l2) (st:zj2 s.heap.objs.size z TI TO i1 i2 l1 l2 b1 b2 xs ys 0 s.heap) (hz:ZipR s.heap z TI TO .none (.bool false)) (hnd:(kvs.map (·.1)).Nodup) (hlen:kvs.length=min xs.size ys.size) (hsz:kvs.length<=y0k)
  (hkv:∀(j:Nat) (kv:K×Value),kvs[j]?=some kv->∃key,xs[j]?=some key/\knd.is kv.1 key=true/\ys[j]?=some kv.2)
  (h:∀(h':Heap) (tk:Nat),h'.DictOf knd s.heap.objs.size kvs->(∀c o,c≠z->c≠TO->c≠i1->c≠i2->s.heap.get? c=some o->h'.get? c=some o)->Q (.ref s.heap.objs.size) { s with heap:=h',toks:=tk }) :
  y0u (model prog w) A (call (.type "dict") [.ref z]) Q E s:=by
 obtain⟨hTI,⟨a,b,hTO⟩,q1,q2,_⟩:=id st
 have zlt:z<s.heap.objs.size:=y0c hz
 have hS:∀c∈[z,TI,TO,i1,i2,l1,l2],s.heap.objs.size≠c:=by
  obtain⟨o1,e1,_⟩:=q1.1.obj
  obtain⟨o2,e2,_⟩:=q2.1.obj
  have a1:=y0c hTI
  have a2:=y0c hTO
  have a3:=y0c e1
  have a4:=y0c e2
  have a5:=q1.2.lt
  have a6:=q2.2.lt
  intro c hc
  simp only[y09,y2e,or_false] at hc
  rcases hc with rfl|rfl|rfl|rfl|rfl|rfl|rfl
  ·exact y16 zlt
  ·exact y16 a1
  ·exact y16 a2
  ·exact y16 a3
  ·exact y16 a4
  ·exact y16 a5
  ·exact y16 a6
 refine callType_codes (Q₁:=fun obj s₁=>obj=.ref s.heap.objs.size/\s₁={ s with heap:=s.heap.push { cls:=.type "dict",data:=.dict #[] } }) F.kt_called_dict (F.kt_typeCall_dict_1 _) F.entry_dict_init (kt_code_dict_new _ ⟨rfl,rfl⟩) ?_
 rintro obj s₁ ⟨rfl,rfl⟩
 have d0:(s.heap.push { cls:=.type "dict",data:=.dict #[] }).DictOf knd s.heap.objs.size []:=Heap.DictOf.new s.heap
 have hz1:ZipR (s.heap.push { cls:=.type "dict",data:=.dict #[] }) z TI TO .none (.bool false):=y03 _ hz
 refine⟨d0.typeIs,F.args_dict_init_2 _ _,?_⟩
 unfold Builtin.«dict.__init__»
 refine y02 ?_
 unfold Builtin.Dict.selfAndRest
 refine y02 (wpAny_notOrdered_dict d0.typeIs ?_)
 show y0u _ _ (pure (s.heap.objs.size,[Value.ref z])) _ _ _
 refine y06 ?_
 show y0u _ _ (Builtin.Dict.updateFrom "dict.__init__" s.heap.objs.size (.ref z) [] .none) _ _ _
 unfold Builtin.Dict.updateFrom
 refine y02 (wpAny_typeOf (show Shared.TypeIs _ (.ref z) "zip" from ⟨_,hz1,rfl⟩) ?_)
 rw[if_pos (by decide)]
 refine y02 (zqu hz1 (by simp[hh]) fun h2 tk2 k2=>?_)
 have hz2:IsZip h2 z TI TO .none:=k2 _ _ hz1
 simp only[Option.isNone_none,if_true]
 refine y02 (wpAny_rule (y02 (wpAny_pyIter_zip (s:={ s with heap:=h2,toks:=tk2 }) hz2 (y06 ⟨plainId_quiet zan _,?_⟩))))
 have kp:∀c o,s.heap.get? c=some o->h2.get? c=some o:=fun c o e=>k2 _ _ (y03 _ e)
 refine zid (knd:=knd) (by simp[hh]) D s.heap.objs.size hS kvs hnd hlen hsz hkv (kvs.length - 0) 0 _ 0 _ (by omega) (y28 _) (st.frame hS fun c o _ e=>kp c o e) (by simpa using d0.at fun o e=>k2 _ _ e) fun h' tk kp3 hd3=>⟨rfl,h h' tk hd3 fun c o c2 c3 c4 c5 e=>?_⟩
 exact kp3 c o (y0y (y0c e)) c2 c3 c4 c5 (kp c o e)
end
end
section
variable [Tbl]
theorem zck {n l1 l2:Nat} (h1:l1<n) (h2:l2<n):ZipApart (n+4) (n+2) (n+3) n (n+1) l1 l2:=by constructor <;> (show (_:Nat)≠_) <;> omega
section
variable {X:Cx} {a b:Expr} {f g:Fe} {p p2 pos pos2:Pos}
def zipV:List L2.Key->List V->List (L2.Key×V)
 | k::ks,v::vs=>(k,v)::zipV ks vs
 | _,_=>[]
theorem zk3:∀(ks:List L2.Key) (vs:List V),(zipV ks vs).length=min ks.length vs.length
 | [],vs=>by simp[zipV]
 | k::ks,[]=>by simp[zipV]
 | k::ks,v::vs=>by simp only[zipV,y0w,zk3 ks vs];omega
theorem zj6:∀{ks:List L2.Key} {vs:List V} {us:List Value},Vals vs us->KV (zipV ks vs) ((ks.zip us))
 | [],vs,us,_=>by
  rw[show zipV [] vs=[] from rfl,List.zip_nil_left]
  exact .nil
 | k::ks,_,_,.nil=>.nil
 | k::ks,_,_,.cons r t=>.cons ⟨rfl,r⟩ (zj6 t)
theorem zmk (X:Cx) {ks:List L2.Key} {us:List Value} {xs:List Value} (hx:Vals (ks.map kV) xs) (j:Nat) (kv:L2.Key×Value) (h:(ks.zip us)[j]?=some kv):∃key,xs.toArray[j]?=some key/\zhz kv.1 key=true/\us.toArray[j]?=some kv.2:=by
 rw[List.getElem?_zip_eq_some] at h
 obtain⟨h1,h2⟩:=h
 obtain⟨u,hu,ru⟩:=hx.get (i:=j) (x:=kV kv.1) (by rw[y15,h1];rfl)
 refine⟨u,by simpa using hu,zr3 (P:=X.prog) (w:=X.w) ru,by simpa using h2⟩
noncomputable def zxo (K:y00) (ta:TA):TE:=fun σ H Q=>ta σ H fun vs H1=>∃l1 l2 ks ys,vs=[.ref l1,.ref l2]/\SqL K H1 l1 (ks.map kV)/\SqT K H1 l2 ys/\((zipV ks ys).map (·.1)).Nodup/\(zipV ks ys).length<=1000/\∀q,H1 q=none->Q (.ref q) (upd H1 q (.dK (zipV ks ys)))
theorem zlo {ta:TA} (hc:X.calm=true) (hd:X.mg "dict"=none) (hz:X.mg "zip"=none) (ha:PA X [a,b] ta) (hg:Gl X "dict") (hgz:Gl X "zip") (he2:y0a [a,b] X.env=(false,eval a X.env)::y0a [b] X.env) (hpl2:(backTo pos2 (y0a [b] X.env)).any (·.1)=false)
  (he:y0a [.Call (.Name "zip" p2) [a,b] [] pos2] X.env=(false,eval (.Call (.Name "zip" p2) [a,b] [] pos2) X.env)::y0a [] X.env) (hpl:(backTo pos (y0a [] X.env)).any (·.1)=false) :
  PE X (.Call (.Name "dict" p) [.Call (.Name "zip" p2) [a,b] [] pos2] [] pos) (zxo X.K ta):=by
 intro pins s σ H Q I h
 refine wpAny_Call_Name_kw (zc1 I hg hd PyProof.Rows.boot_dict ?_)
 refine y1v ?_ he hpl
 rw[he]
 show y0u _ _ (spliced ((false,eval (.Call (.Name "zip" p2) [a,b] [] pos2) X.env)::backTo pos (y0a [] X.env))) _ _ s
 refine Calls.spliced_cons (wpAny_Call_Name_kw (zc1 I hgz hz PyProof.Rows.boot_zip (y1v (thn (ha pos2 pins s σ H _ I h) fun us s1 ⟨vs,H1,I1,r1,q1⟩=>?_) he2 hpl2)))
 obtain⟨l1,l2,ks,ys,rfl,hq1,hq2,hnd,hle,q⟩:=q1
 obtain⟨u1,u2,rfl,e1,e2⟩:=r1.two
 cases e1
 cases e2
 obtain⟨its,rv,pl,hz1⟩:=I1.list hq1
 obtain⟨its2,rv2,pl2,hz2⟩:=I1.tuple hq2
 have k1:sqK true s1.heap l1 its.toArray:=pl.isList
 have k2:sqK false s1.heap l2 its2.toArray:=pl2
 refine zim k1 k2 fun h' hzr hTI hTO hi1 hi2 hsz hk=>Calls.spliced_nil ?_
 have hl1:ks.length=its.length:=by have:=rv.length;simpa using this
 have hl2:ys.length=its2.length:=rv2.length
 have hlen:(ks.zip its2).length=(zipV ks ys).length:=by rw[zk3,List.length_zip,hl2]
 have hk1:(ks.zip its2).map (·.1)=(zipV ks ys).map (·.1):=(zo3 (zj6 rv2)).symm
 have big:=I1.big
 have sz5:h'.objs.size=s1.heap.objs.size+5:=hsz
 refine zmc (knd:=z1g X.prog X.w) (kvs:=ks.zip its2) (s:={ s1 with heap:=h' }) (I1.ok.hd hc) (zck k1.lt k2.lt) ⟨hTI,⟨_,_,hTO⟩,⟨hi1,k1.at fun o e=>hk _ o e⟩,⟨hi2,k2.at fun o e=>hk _ o e⟩,.inl hzr⟩ hzr (by rw[hk1];exact hnd) (by rw[List.length_zip,y0i,y0i,hl1]) (by rw[hlen,sizeLine_eq];omega) (fun j kv e=>zmk X rv j kv e) fun h2 tk hd2 kp2=>?_
 have keep:∀c o,s1.heap.get? c=some o->h2.get? c=some o:=fun c o e=>by
  have hc:c<s1.heap.objs.size:=y0c e
  have ne:∀m:Nat,c≠s1.heap.objs.size+m:=fun m=>y0y (y0x hc (Nat.le_add_right _ m))
  exact kp2 c o (ne 4) (ne 3) (ne 0) (ne 1) (hk c o e)
 have le5:s1.heap.objs.size<=h'.objs.size:=by rw[sz5];exact Nat.le_add_right _ _
 refine⟨.ref h'.objs.size,_,zdt (s:=s1) I1 (o:=.dK (zipV ks ys)) (d':=s1.drawn) (t':=tk) keep le5 ⟨by rw[sizeLine_eq];omega,?_,ks.zip its2,zj6 rv2,hd2⟩,rfl,q _ (I1.hok.fresh le5)⟩
 rw[beq_eq_false_iff_ne]
 exact y16 (y0x big le5)
variable {c C i j:Nat} {ns:List Str} {fn:Str} {o:Expr} {apos:Pos}
theorem zk4 {K:y00} {F:Addr->Prop} {H:Hp}:∀{lk lv:List T} {kvs:List (D.Key×T)} {ws ys:List V},zipD lk lv=some kvs->RepL K F H lk ws->RepL K F H lv ys->(∀t∈lk,∃k,z60 t=some k)->∃ks:List L2.Key,ws=ks.map kV/\RepD K F H kvs (zipV ks ys)/\(zipV ks ys).map (·.1)=kvs.map (·.1)
 | [],lv,kvs,ws,ys,e,h1,h2,_=>by
  cases e
  simp only[RepL] at h1
  subst h1
  exact⟨[],rfl,rfl,rfl⟩
 | t::lk,[],kvs,ws,ys,e,h1,h2,ha=>by
  cases e
  simp only[RepL] at h1 h2
  subst h2
  obtain⟨v,r,rfl,q,z⟩:=h1
  obtain⟨k,hk⟩:=ha t (by simp)
  have hv:v=kV k:=z9z (O:=fun _=>False) hk (.inl q)
  have key:∀{lk:List T} {r:List V},RepL K F H lk r->(∀t∈lk,∃k,z60 t=some k)->∃ks:List L2.Key,r=ks.map kV:=by
   intro lk
   induction lk with
   | nil =>
    intro r h _
    simp only[RepL] at h
    exact⟨[],h⟩
   | cons t lk ih =>
    intro r h ha
    simp only[RepL] at h
    obtain⟨v,r',rfl,q,z⟩:=h
    obtain⟨k,hk⟩:=ha t (by simp)
    obtain⟨ks,rfl⟩:=ih z fun u hu=>ha u (y05 _ hu)
    exact⟨k::ks,by rw[z9z (O:=fun _=>False) hk (.inl q)];rfl⟩
  obtain⟨ks,rfl⟩:=key z fun u hu=>ha u (y05 _ hu)
  exact⟨k::ks,by rw[hv];rfl,rfl,rfl⟩
 | t::lk,u::lv,kvs,ws,ys,e,h1,h2,ha=>by
  simp only[zipD,y01,y07] at e
  obtain⟨k,hk,r,er,rfl⟩:=e
  simp only[RepL] at h1 h2
  obtain⟨v,r1,rfl,q1,z1⟩:=h1
  obtain⟨w,r2,rfl,q2,z2⟩:=h2
  obtain⟨ks,rfl,rd,rk⟩:=zk4 er z1 z2 fun u hu=>ha u (y05 _ hu)
  exact⟨k::ks,by rw[z9z (O:=fun _=>False) hk (.inl q1)];rfl,⟨w,_,rfl,q2,rd⟩,by simp[zipV,rk]⟩
theorem zn2 (k:ClOk X.K c C ns) (hc:X.calm=true) (hd:X.mg "dict"=none) (hz:X.mg "zip"=none) (hn:PE X o (tVar i)) (ha:PEr X a f) (hb:PEr X b g) {dpos:Pos} (hj:ns[j]?=some fn:=by rfl) (hg:Gl X "dict":=by rfl) (hgz:Gl X "zip":=by rfl)
  (he2:y0a [a,b] X.env=(false,eval a X.env)::y0a [b] X.env:=by rfl) (he3:y0a [b] X.env=(false,eval b X.env)::y0a [] X.env:=by rfl) (hpl2:(backTo pos2 (y0a [b] X.env)).any (·.1)=false:=by rfl)
  (he:y0a [.Call (.Name "zip" p2) [a,b] [] pos2] X.env=(false,eval (.Call (.Name "zip" p2) [a,b] [] pos2) X.env)::y0a [] X.env:=by rfl) (hpl:(backTo dpos (y0a [] X.env)).any (·.1)=false:=by rfl)
  (hs:swapsWith (.Call (.Name "dict" p) [.Call (.Name "zip" p2) [a,b] [] pos2] [] dpos) (some (.Attribute o fn apos)) pos.line X.env=pure false:=by rfl) :
  PSt X (.Assign [.Attribute o fn apos] (.Call (.Name "dict" p) [.Call (.Name "zip" p2) [a,b] [] pos2] [] dpos) pos) (zmf c i j f g) :=
 z2r (znh hn (zlo hc hd hz (z0r ha (z0r hb z38 he3) he2) hg hgz he2 hpl2 he hpl) hs) fun D σ H ⟨F₀,E,O,F,ε,o,r,e,kk⟩=>by
 simp only[zmf,y01] at e
 obtain⟨tk,etk,tv,etv,e⟩:=e
 split at e
 next lk lv =>
  simp only[y01] at e
  obtain⟨kvs,ez,e⟩:=e
  split at e
  next hcond =>
   simp only[y07] at e
   obtain⟨ε',es,rfl⟩:=e
   refine⟨F₀,E,O,F,ε,_,r,etk,fun v1 F1 H1 x1 q1=>⟨F₀,E,O,F1,ε,_,r.ext x1,etv,fun v2 F2 H2 x2 q2=>?_⟩⟩
   obtain⟨l1,ws,rfl,hl1,hr1⟩:=(q1.ext x2).lst
   obtain⟨l2,ys,rfl,hl2,hr2⟩:=q2.tup
   obtain⟨ks,rfl,rd,rk⟩:=zk4 ez hr1 hr2 fun t ht=>Option.isSome_iff_exists.mp (hcond.2.2 t ht)
   have x12:=x1.trans x2
   refine⟨l1,l2,ks,ys,rfl,.inl hl1,hl2,by rw[rk];exact hcond.1,by have:=congrArg List.length rk;simp only[y14] at this;omega,fun q hq=>?_⟩
   have x3:=Ext.laid (o:=.dK (zipV ks ys)) x12.dom hq
   have x13:=x12.trans x3
   have r1:=r.ext x13
   have hnew:H q=none:=x12.same.none hq
   have nf:¬F2 q:=fun z=>by
    obtain⟨o,e⟩:=x12.dom q z
    rw[hq] at e
    cases e
   have es':=es
   unfold setF at es'
   simp only[y01] at es'
   obtain⟨⟨m,fs⟩,ho,_⟩:=es'
   obtain⟨ao,vs,dx,h1,hx,hl,ha,_⟩:=z6o k r1 ho
   have hold:=zkz r x13 hnew
   obtain⟨kp,r2⟩:=r1.setFld (s:=.dic kvs) (v:=.ref q) k ho h1 ha es ⟨q,_,rfl,z0e,RepD.kp x3.kp rd⟩ (fun d hd=>by
    have:d=q:=by simpa [fp0,rf] using hd
    subst this
    exact⟨nf,r.fr _ hnew,hold i _ _ (z24 ho) h1,fun k u w _ ek _ hk=>hold k u w ek hk⟩) hx hj
   refine⟨_,h1,ao,C,dx,_,rfl,hx,k.cls,z9w k hj,?_,kk σ F2 _ (x13.kp.trans kp) r2⟩
   have:=k.few
   simp only[List.length_zip]
   omega
  next=>cases e
 next=>cases e
end
end
section
variable [Tbl]
open AutoSeq1 (wpAny_loadPart')
section
variable {X:Cx} {a b:Expr} {f g:Fe} {pos:Pos}
end
end
section
variable [Tbl]
section
variable {X:Cx} {a b c:Expr} {f g h:Fe} {pos:Pos}
end
section
variable {X:Cx} {c C i j:Nat} {ns:List Str} {f:Str} {o:Expr} {pos apos:Pos}
theorem zs3 (k:ClOk X.K c C ns) (hn:PE X o (tVar i)) {bpos cpos:Pos} (hj:ns[j]?=some f:=by rfl) (hb:attributeBase o f X.env (eval o X.env)=eval o X.env:=by rfl)
  (hbase:attributeBase (.Attribute o f apos) "pop" X.env (eval (.Attribute o f apos) X.env)=eval (.Attribute o f apos) X.env:=by rfl) (hline:(bpos.endLine == cpos.line)=true:=by rfl)
  (hsw:swapsWith (.Call (.Attribute (.Attribute o f apos) "pop" bpos) [] [] cpos) none pos.line X.env=pure false:=by rfl) :
  PSt X (.Expr (.Call (.Attribute (.Attribute o f apos) "pop" bpos) [] [] cpos) pos) (popF c i j) :=
 z2r (zbe (zse PySem.F.plainAttrs_list PySem.F.slot_list_pop PySem.F.type_list_pop zwv (z9g hn hb) hbase hline) hsw) fun D σ H ⟨F₀,H₀,O,F,ε,o,r,e,kk⟩=>by
 simp only[popF,y01,y07] at e
 obtain⟨ts,el,t,et,ε',es,rfl⟩:=e
 obtain⟨m,fs,ho,hs⟩:=ze1 el
 obtain⟨a,vs,dx,v,h1,hx,hl,ha,hv,⟨b,us,eb,hb,rb⟩,_⟩:=z7w k r ho hs hj
 subst eb
 rw[List.getLast?_eq_getElem?] at et
 obtain⟨w,hw,rw'⟩:=rb.get et
 refine⟨_,h1,a,C,dx,_,_,rfl,hx,k.cls,z9w k hj,hl,.inl ⟨rfl,_,SqL.of hb⟩,b,us,w,rfl,rfl,hb,by rw[<- rb.length];exact hw,?_⟩
 obtain⟨kp,r2⟩:=r.mutFld (s':=.own ts.dropLast) (o':=.lst us.dropLast) ho h1 ha es hs hv (by simp[fp0,rf]) rfl fun kp=>⟨b,_,rfl,z0e,by
  have:=(rb.kp kp).take (ts.length - 1)
  rw[<- List.dropLast_eq_take,rb.length,<- List.dropLast_eq_take] at this
  exact this⟩
 exact kk σ F _ kp r2
end
end
section
abbrev t0:Tbl:=⟨[],fun _=>[],fun _=>none⟩
def z0n (ns:List Int):T:=.list (ns.map .int)
def noL (K:y00):Bool:=K.all fun p=>match p.2.cls with
 | .type t=>t != "list"
 | _=>true
theorem zdl {α β:Type} [BEq α] [LawfulBEq α] {a:α} {b:β}:∀{l:List (α×β)},l.lookup a=some b->(a,b)∈l
  | [],h=>by cases h
  | (x,y)::l,h=>by
    rw[y1g] at h
    split at h
    next q =>
      cases h
      have:a=x:=by simpa using q
      subst this
      simp
    next=>exact y05 _ (zdl h)
end
section
section
variable [Tbl]
variable {X:Cx} {e:Expr} {es:List Expr} {fs:List Fe} {p pos:Pos}
end
end
section
variable [Tbl]
open AutoSeq1 (wpAny_loadPart')
section
variable {X:Cx} {a b:Expr} {f g:Fe} {pos:Pos}
end
end
section
variable [Tbl]
noncomputable def Itz (K:y00) (a b:Addr) (n m:Nat):It :=
 ⟨fun i H=>∃xs x ys y,SqT K H a xs/\xs[i]?=some x/\SqT K H b ys/\ys[i]?=some y/\xs.length=n/\ys.length=m,
  fun i H x H'=>∃p u v,H p=none/\x=.ref p/\H'=upd H p (.tup [u,v])/\(∀xs,SqT K H a xs->xs[i]?=some u)/\∀ys,SqT K H b ys->ys[i]?=some v,
  fun i H=>∃xs ys,SqT K H a xs/\SqT K H b ys/\xs.length=n/\ys.length=m/\(n<=i\/m<=i)⟩
noncomputable def TnZ (z TI TO i1 i2 l1 l2:Addr) (n m i:Nat) (h:Heap):Prop:=ZipR h z TI TO .none (.bool false)/\IsPair h TI (.ref i1) (.ref i2)/\(∃a b,IsPair h TO a b)/\h.IsTupleIter i1 l1 i/\h.IsTupleIter i2 l2 i/\i<=n/\i<=m
theorem zpt {P:y0r} {w:World} {K:y00} {es:List Expr} {k:Nat} {pos:Pos} {z TI TO i1 i2 l1 l2:Addr} {n m:Nat} (D:ZipApart z TI TO i1 i2 l1 l2):Turn P w K (.Tuple es k pos) (Itz K l1 l2 n m) [z,TI,TO,i1,i2] z (TnZ z TI TO i1 i2 l1 l2 n m) where
 mem:=by simp
 obj:=fun i h st b hb=>by
  obtain⟨hz,hTI,⟨a,c,hTO⟩,h1,h2,_⟩:=st
  simp only[y09,y2e,or_false] at hb
  rcases hb with rfl|rfl|rfl|rfl|rfl
  ·exact⟨_,hz,fun v q=>by cases (show Data.fields _=Data.cell v from q)⟩
  ·exact⟨_,hTI,fun v q=>by cases (show Data.seq _ _=Data.cell v from q)⟩
  ·exact⟨_,hTO,fun v q=>by cases (show Data.seq _ _=Data.cell v from q)⟩
  ·obtain⟨o,ho,_,hd⟩:=h1
   exact⟨o,ho,fun v q=>by rw[hd] at q;cases q⟩
  ·obtain⟨o,ho,_,hd⟩:=h2
   exact⟨o,ho,fun v q=>by rw[hd] at q;cases q⟩
 keep:=fun i h h' st kk=>by
  obtain⟨hz,hTI,⟨a,c,hTO⟩,h1,h2,hn⟩:=st
  exact⟨kk z (by simp) _ hz,kk TI (by simp) _ hTI,⟨a,c,kk TO (by simp) _ hTO⟩,h1.at fun o q=>kk i1 (by simp) o q,h2.at fun o q=>kk i2 (by simp) o q,hn⟩
 item:=by
  intro X hP hw hK hc i pins s σ H E I hf st hg
  subst hP hw hK
  obtain⟨xs,x,ys,y,hq1,hx,hq2,hy,hn,hm⟩:=hg
  obtain⟨its,rv,p1,_⟩:=I.tuple hq1
  obtain⟨its2,rv2,p2,_⟩:=I.tuple hq2
  obtain⟨u,hu,ru⟩:=rv.get hx
  obtain⟨v,hv,rv'⟩:=rv2.get hy
  obtain⟨hz,hTI,⟨a,c,hTO⟩,h1,h2,hin,him⟩:=st
  have hi:i<its.toArray.size:=by
   rw[y0i]
   exact (y0l.mp hu).1
  have hj:i<its2.toArray.size:=by
   rw[y0i]
   exact (y0l.mp hv).1
  have hlx:=rv.length
  have hly:=rv2.length
  have hT:s.TypeIs (.ref z) "zip":=⟨_,hz,rfl⟩
  have zlt:z<s.heap.objs.size:=y0c hz
  have TOlt:TO<s.heap.objs.size:=y0c hTO
  have TIlt:TI<s.heap.objs.size:=y0c hTI
  have i1lt:i1<s.heap.objs.size:=by obtain⟨o,e,_⟩:=h1;exact y0c e
  have i2lt:i2<s.heap.objs.size:=by obtain⟨o,e,_⟩:=h2;exact y0c e
  have hh:=I.ok.hd hc
  unfold pyNext
  refine y02 (wpAny_attempt (wpAny_callSpecial?_slot (name:=Str.ofString "__next__") hT F.slot_zip_next (wpAny_call_entry F.slot_zip_next hT F.entry_zip_next ?_ (F.args_zip_next_1 _))))
  refine zk2 (S1:=fun i h=>h.IsTupleIter i1 l1 i/\h.IsTuple l1 its.toArray) (S2:=fun i h=>h.IsTupleIter i2 l2 i/\h.IsTuple l2 its2.toArray) D (z4j (A:=X.A.in1) hh i1 l1 D.l1i1 its.toArray) (z4j (A:=X.A.in1) hh i2 l2 D.l2i2 its2.toArray) hz hTI hTO ⟨h1,p1⟩ ⟨h2,p2⟩ hi hj fun h' x' y' tk px py hz' hTO' s1 s2 hp hsz kp=>y06 ?_
  have ex:x'=u:=by
   rw[<- Array.getElem?_toList,show (its.toArray).toList=its from rfl,hu] at px
   exact (y2i px).symm
  have ey:y'=v:=by
   rw[<- Array.getElem?_toList,show (its2.toArray).toList=its2 from rfl,hv] at py
   exact (y2i py).symm
  subst ex ey
  refine⟨_,rfl,wpAny_letOwnedTupleGo_zip hz' fun h2' hz2 hs2=>?_⟩
  have k2:∀b o,b≠z->b≠TO->b≠i1->b≠i2->s.heap.get? b=some o->h2'.get? b=some o:=fun b o b1 b2 b3 b4 q=>hs2.extBut b o b1 (kp b o b1 b2 b3 b4 q)
  have fr:H s.heap.objs.size=none:=I.hok.fresh (y0p _)
  have hT2:h2'.get? s.heap.objs.size=some { cls:=.type "tuple",data:=.seq #[x',y'] }:=hs2.extBut _ _ (y16 zlt) hp
  obtain⟨z0,z1,z2,z3,z4,z5⟩:=hf z (by simp)
  obtain⟨o0,o1,o2,o3,o4,o5⟩:=hf TO (by simp)
  obtain⟨f0,f1,f2,f3,f4,f5⟩:=hf i1 (by simp)
  obtain⟨g0,g1,g2,g3,g4,g5⟩:=hf i2 (by simp)
  obtain⟨t0,_⟩:=hf TI (by simp)
  have nH:∀b o,H b=some o->b≠z/\b≠TO/\b≠i1/\b≠i2:=fun b o q=>⟨fun e=>(by rw[e,z0] at q;cases q),fun e=>(by rw[e,o0] at q;cases q),fun e=>(by rw[e,f0] at q;cases q),fun e=>(by rw[e,g0] at q;cases q)⟩
  have k3:∀b o,b∉[z,TO,i1,i2]->s.heap.get? b=some o->h2'.get? b=some o:=fun b o hb q=>by
   simp only[y09,y2e,or_false,not_or] at hb
   exact k2 b o hb.1 hb.2.1 hb.2.2.1 hb.2.2.2 q
  have nH3:∀b o,H b=some o->b∉[z,TO,i1,i2]:=fun b o q=>by
   simp only[y09,y2e,or_false,not_or]
   exact nH b o q
  have hok2:HOk X.prog X.w (upd H s.heap.objs.size (.tup [x,y])) h2':=by
   intro b o q
   by_cases hb:b=s.heap.objs.size
   ·subst hb
    rw[z0e] at q
    cases q
    exact⟨by show 2<=y0k;decide,[x',y'],.cons ru (.cons rv' .nil),⟨_,hT2,rfl,_,rfl⟩⟩
   ·rw[z0c hb] at q
    refine (I.hok b o q).stay (fun c v hc' q'=>k3 c v ?_ q') (fun c q'=>?_) fun c ys q'=>?_
    ·rcases hc' with rfl|hc'
     ·exact nH3 _ _ q
     ·exact nH3 _ _ hc'
    ·rw[z0c (z0l q' fr)]
     exact q'
    ·rw[z0c (z0l q' fr)]
     exact q'
  have I2:L2.Inv X pins σ (upd H s.heap.objs.size (.tup [x,y])) { s with heap:=h2',toks:=tk }:=by
   refine I.step (g':=s.gens) (d':=s.drawn) (ch:=[z,TO,i1,i2]) (fun b hb=>?_) (fun b o _ _ hc' q _=>k3 b o hc' q) (fun b o _ _ hc' q _=>⟨o.slots,k3 b o hc' q⟩) (fun b o _ q n=>?_)
    (fun b o hc' q=>⟨o,k3 b o hc' q⟩) (fun b ys q=>by rw[z0c (z0l q fr)];exact q) (fun b o u q=>by rw[z0c (z0l q fr)];exact q) (fun b ps q=>⟨#[],by rw[z0c (z0l q fr),q];simp⟩) (fun m hm=>?_) hok2 I.bare
   ·simp only[y09,y2e,or_false] at hb
    rcases hb with rfl|rfl|rfl|rfl
    ·exact⟨z3,z1,z4,z5⟩
    ·exact⟨o3,o1,o4,o5⟩
    ·exact⟨f3,f1,f4,f5⟩
    ·exact⟨g3,g1,g4,g5⟩
   ·rw[z0c (y0y (y0c q))]
    exact n
   ·obtain⟨o,es',ep,ho',r⟩:=hm
    exact⟨o,es',ep,k2 _ o (Ne.symm z1) (Ne.symm o1) (Ne.symm f1) (Ne.symm g1) ho',r⟩
  refine⟨.ref s.heap.objs.size,_,I2,rfl,⟨s.heap.objs.size,x,y,fr,rfl,rfl,fun ws hw=>by rw[I.tuple_inj hw hq1];exact hx,fun ws hw=>by rw[I.tuple_inj hw hq2];exact hy⟩,⟨hz2,hs2.extBut _ _ D.TIz (kp _ _ D.TIz D.TITO D.TIi1 D.TIi2 hTI),⟨_,_,hs2.extBut _ _ D.TOz hTO'⟩,s1.1.at fun o q=>hs2.extBut _ _ D.i1z q,s2.1.at fun o q=>hs2.extBut _ _ D.i2z q,?_,?_⟩,fun b hb=>?_⟩
  ·rw[y0i] at hi
   omega
  ·rw[y0i] at hj
   omega
  ·simp only[y09,y2e,or_false] at hb
   rcases hb with rfl|rfl|rfl|rfl|rfl
   ·rw[z0c (y0y zlt)]
    exact z0
   ·rw[z0c (y0y TIlt)]
    exact t0
   ·rw[z0c (y0y TOlt)]
    exact o0
   ·rw[z0c (y0y i1lt)]
    exact f0
   ·rw[z0c (y0y i2lt)]
    exact g0
 done:=by
  intro X hP hw hK hc i pins s σ H E I hf st hg
  subst hP hw hK
  obtain⟨xs,ys,hq1,hq2,hn,hm,hs⟩:=hg
  obtain⟨its,rv,p1,_⟩:=I.tuple hq1
  obtain⟨its2,rv2,p2,_⟩:=I.tuple hq2
  obtain⟨hz,hTI,⟨a,c,hTO⟩,h1,h2,hin,him⟩:=st
  have hlx:=rv.length
  have hly:=rv2.length
  have hT:s.TypeIs (.ref z) "zip":=⟨_,hz,rfl⟩
  have hh:=I.ok.hd hc
  have hk:i=its.toArray.size\/(i<its.toArray.size/\i=its2.toArray.size):=by
   rw[y0i,y0i]
   omega
  unfold pyNext
  refine y02 (wpAny_attempt (wpAny_callSpecial?_slot (name:=Str.ofString "__next__") hT F.slot_zip_next (wpAny_call_entry F.slot_zip_next hT F.entry_zip_next ?_ (F.args_zip_next_1 _))))
  refine zk1 (S1:=fun i h=>h.IsTupleIter i1 l1 i/\h.IsTuple l1 its.toArray) (S2:=fun i h=>h.IsTupleIter i2 l2 i/\h.IsTuple l2 its2.toArray) D (z4j (A:=X.A.in1) hh i1 l1 D.l1i1 its.toArray) (z4j (A:=X.A.in1) hh i2 l2 D.l2i2 its2.toArray) hz hTI hTO ⟨h1,p1⟩ ⟨h2,p2⟩ hk fun h' e tk kp he=>?_
  obtain⟨o,ho,hc'⟩:=he
  refine y02 (wpAny_isInstance (T:="StopIteration") (b:=true) ⟨o,ho,hc'⟩ isSubtype_stop (y06 ⟨rfl,?_⟩))
  obtain⟨z0,z1,z2,z3,z4,z5⟩:=hf z (by simp)
  obtain⟨o0,o1,o2,o3,o4,o5⟩:=hf TO (by simp)
  obtain⟨f0,f1,f2,f3,f4,f5⟩:=hf i1 (by simp)
  obtain⟨g0,g1,g2,g3,g4,g5⟩:=hf i2 (by simp)
  have k3:∀b o,b∉[z,TO,i1,i2]->s.heap.get? b=some o->h'.get? b=some o:=fun b o hb q=>by
   simp only[y09,y2e,or_false,not_or] at hb
   exact kp b o hb.1 hb.2.1 hb.2.2.1 hb.2.2.2 q
  have nH3:∀b o,H b=some o->b∉[z,TO,i1,i2]:=fun b o q=>by
   simp only[y09,y2e,or_false,not_or]
   exact⟨fun e=>(by rw[e,z0] at q;cases q),fun e=>(by rw[e,o0] at q;cases q),fun e=>(by rw[e,f0] at q;cases q),fun e=>(by rw[e,g0] at q;cases q)⟩
  have hok2:HOk X.prog X.w H h':=by
   intro b o q
   refine (I.hok b o q).stay (fun c v hc' q'=>k3 c v ?_ q') (fun c q'=>q') fun c ys q'=>q'
   rcases hc' with rfl|hc'
   ·exact nH3 _ _ q
   ·exact nH3 _ _ hc'
  refine I.step (g':=s.gens) (d':=s.drawn) (ch:=[z,TO,i1,i2]) (fun b hb=>?_) (fun b o _ _ hc' q _=>k3 b o hc' q) (fun b o _ _ hc' q _=>⟨o.slots,k3 b o hc' q⟩) (fun b o _ q n=>n)
    (fun b o hc' q=>⟨o,k3 b o hc' q⟩) (fun b ys q=>q) (fun b o u q=>q) (fun b ps q=>⟨#[],by rw[q];simp⟩) (fun m hm=>?_) hok2 I.bare
  ·simp only[y09,y2e,or_false] at hb
   rcases hb with rfl|rfl|rfl|rfl
   ·exact⟨z3,z1,z4,z5⟩
   ·exact⟨o3,o1,o4,o5⟩
   ·exact⟨f3,f1,f4,f5⟩
   ·exact⟨g3,g1,g4,g5⟩
  ·obtain⟨o,es',ep,ho',r⟩:=hm
   exact⟨o,es',ep,kp _ o (Ne.symm z1) (Ne.symm o1) (Ne.symm f1) (Ne.symm g1) ho',r⟩
 self:=fun _ _ _ _ _ st h=>wpAny_pyIter_zip (f0:=.none) st.1 h
def iZp (K:y00) (ta:TA):TI:=fun σ H R=>ta σ H fun vs H1=>∃a b xs ys,vs=[.ref a,.ref b]/\SqT K H1 a xs/\SqT K H1 b ys/\R (Itz K a b xs.length ys.length) H1
section
variable {X:Cx} {es:List Expr} {k:Nat} {p pos p2:Pos} {a b:Expr} {f g:Fe}
theorem zwd {ta:TA} (hg:Gl X "zip") (hm:X.mg "zip"=none) (ha:PA X [a,b] ta) (hs:y0a [a,b] X.env=(false,eval a X.env)::y0a [b] X.env) (hpl:(backTo pos (y0a [b] X.env)).any (·.1)=false):PI X (.Tuple es k p2) (.Call (.Name "zip" p) [a,b] [] pos) (iZp X.K ta):=by
 intro pins s σ H R I h
 refine Call_ (zc1 I hg hm PyProof.Rows.boot_zip (y1v (thn (ha pos pins s σ H _ I h) fun us s1 ⟨vs,H1,I1,r1,q1⟩=>?_) hs hpl))
 obtain⟨l1,l2,xs,ys,rfl,hq1,hq2,q⟩:=q1
 obtain⟨u1,u2,rfl,e1,e2⟩:=r1.two
 cases e1
 cases e2
 obtain⟨its,rv,pl,_⟩:=I1.tuple hq1
 obtain⟨its2,rv2,pl2,_⟩:=I1.tuple hq2
 have k1:sqK false s1.heap l1 its.toArray:=pl
 have k2:sqK false s1.heap l2 its2.toArray:=pl2
 refine zim k1 k2 fun h' hzr hTI hTO hi1 hi2 hsz hk=>wpAny_pyIter_zip (f0:=.none) hzr ?_
 refine⟨s1.heap.objs.size+4,[s1.heap.objs.size+4,s1.heap.objs.size+2,s1.heap.objs.size+3,s1.heap.objs.size,s1.heap.objs.size+1],_,_,H1,rfl,I1.kept (t':=s1.toks) hk,zpt (zck k1.lt k2.lt),⟨hzr,hTI,⟨_,_,hTO⟩,hi1,hi2,y28 _,y28 _⟩,fun b hb=>?_,q⟩
 have hb':s1.heap.objs.size<=b:=by
  simp only[y09,y2e,or_false] at hb
  rcases hb with rfl|rfl|rfl|rfl|rfl
  ·exact Nat.le_add_right _ _
  ·exact Nat.le_add_right _ _
  ·exact Nat.le_add_right _ _
  ·exact y0p _
  ·exact Nat.le_add_right _ _
 exact I1.fpOk hb' (I1.hok.fresh hb')
def zipT (ts us:List T):List T:=List.zipWith (fun x y=>.tuple [x,y]) ts us
theorem zr6 {K:y00} {a b:Addr} {F1:Addr->Prop} {H1:Hp} {ts us:List T} {vs ws:List V} (hr:SqT K H1 a vs) (q:RepL K F1 H1 ts vs) (hr2:SqT K H1 b ws) (q2:RepL K F1 H1 us ws):ItOk K (Itz K a b vs.length ws.length) F1 H1 (zipT ts us) where
 go:=fun i F H t kp d e=>by
  have hi:=(y0l.mp e).1
  simp only[zipT,List.length_zipWith] at hi
  obtain⟨v,h1,_⟩:=q.get (y0v (show i<ts.length by omega))
  obtain⟨v2,h2,_⟩:=q2.get (y0v (show i<us.length by omega))
  exact⟨vs,v,ws,v2,kp.tup _ _ hr,h1,kp.tup _ _ hr2,h2,rfl,rfl⟩
 yld:=fun i F H t x H' kp d e y=>by
  obtain⟨p,v,v2,hp,rfl,rfl,y1,y2⟩:=y
  have hi:=(y0l.mp e).1
  simp only[zipT,List.length_zipWith] at hi
  have hi1:i<ts.length:=by omega
  have hi2:i<us.length:=by omega
  obtain⟨v',h1,h2⟩:=(q.kp kp).get (y0v hi1)
  obtain⟨v2',h3,h4⟩:=(q2.kp kp).get (y0v hi2)
  have h5:=y1 vs (kp.tup _ _ hr)
  rw[h1] at h5
  cases h5
  have h6:=y2 ws (kp.tup _ _ hr2)
  rw[h3] at h6
  cases h6
  have x1:=Ext.laid (o:=.tup [v,v2]) d hp
  refine⟨F,x1,?_⟩
  have et:t=.tuple [ts[i],us[i]]:=by
   rw[zipT,List.getElem?_zipWith,y0v hi1,y0v hi2] at e
   exact (y2i e).symm
  subst et
  simp only[Rep]
  exact⟨p,_,rfl,SqT.of z0e,RepL.cons (h2.ext x1) (RepL.cons (h4.ext x1) RepL.nil)⟩
 stop:=fun i F H kp hl=>⟨vs,ws,kp.tup _ _ hr,kp.tup _ _ hr2,rfl,rfl,by
  simp only[zipT,List.length_zipWith] at hl
  rw[<- q.length,<- q2.length]
  omega⟩
theorem zx6 (hm:X.mg "zip"=none) (ha:PEv X a f) (hb:PEv X b g) (hg:Gl X "zip":=by rfl) (hs:y0a [a,b] X.env=(false,eval a X.env)::y0a [b] X.env:=by rfl) (hs2:y0a [b] X.env=(false,eval b X.env)::y0a [] X.env:=by rfl) (hpl:(backTo pos (y0a [b] X.env)).any (·.1)=false:=by rfl) :
  PIt X (.Tuple es k p2) (.Call (.Name "zip" p) [a,b] [] pos) (zr5 (z7a f) (z7a g)):=zl9 (zwd hg hm (z0r ha (z0r hb z38 hs2) hs) hs hpl) fun σ H R ⟨F₀,H₀,O,F,ε,ts,r,e,k⟩=>by
 simp only[zr5,z7a,y07,y01] at e
 obtain⟨xs,⟨t,et,e1⟩,ys,⟨u,eu,e2⟩,rfl⟩:=e
 split at e1
 ·cases e1
  split at e2
  ·cases e2
   refine⟨F₀,H₀,O,F,ε,_,r,et,fun v F1 H1 x1 q1=>⟨F₀,H₀,O,F1,ε,_,r.ext x1,eu,fun w F2 H2 x2 q2=>?_⟩⟩
   have q1':=q1.ext x2
   simp only[Rep] at q1' q2
   obtain⟨a1,vs,rfl,hs1,hr1⟩:=q1'
   obtain⟨a2,ws,rfl,hs2,hr2⟩:=q2
   exact⟨a1,a2,vs,ws,rfl,hs1,hs2,k _ F2 H2 (x1.trans x2) (zr6 hs1 hr1 hs2 hr2)⟩
  ·cases e2
 ·cases e1
end
end
section
section
variable [Tbl]
variable {X:Cx} {a b:Expr} {f g:Fe} {pos:Pos}
end
end
section
section
variable [Tbl]
variable {X:Cx} {e:Expr} {f:Fe} {pos:Pos}
end
end
section
variable [Tbl]
section
variable {X:Cx} {a b c:Expr} {f g h:Fe} {pos:Pos}
end
section
variable {X:Cx} {pos:Pos}
end
section
variable {X:Cx} {a:Expr} {f:Fe} {p px pos pos2:Pos}
end
end
section
section
variable {X:Cx} {pins:List (Addr×Obj)} {σ:L2.St} {H:Hp} {s:y04} {a:Addr} {d:V} {r:Value} {A:Around} {E:Value->y04->Prop}
end
section
variable {X:Cx} {o e f:Expr} {apos cpos:Pos} {td ty tx:TE}
end
variable [Tbl]
section
variable {X:Cx} {a b:Expr} {f g:Fe} {x:Str} {px apos cpos pos:Pos}
end
section
variable {X:Cx} {a b:Expr} {f g:Fe} {p p2 pos pos2:Pos}
variable {x:Str} {px dpos:Pos}
end
end
section
variable [Tbl]
open PySem.W (kas_ask kas_sort kat_run kat_snds kat_lt kat_kind KatTups KatLex KatGo kas_item KasT)
def hT (x:Str×List T):T:=.tuple (.str x.1::x.2)
section
variable {prog:y0r} {w:World} {A:Around} {s:y04}
end
section
variable {X:Cx}
variable {e:Expr} {es:List Expr} {fs:List Fe} {p pos:Pos}
end
section
variable {X:Cx} {o e:Expr} {f g:Fe} {apos cpos:Pos}
end
section
variable {X:Cx} {a b:Expr} {f g:Fe} {pos:Pos}
end
end
section
section
variable {prog:y0r} {w:World} {A:Around} {E:Value->y04->Prop} {s:y04} {ar:Array Keyed}
def Rz (ar:Array Keyed) (st st':SortSt):Prop:=arrOf st'=arrOf st/\failedOf st'=none/\pendingOf st'=#[(0,ar.size,0)]
end
variable [Tbl]
section
variable {X:Cx}
variable {e:Expr} {es:List Expr} {fs:List Fe} {p pos:Pos}
end
end
section
open AutoSeq1 (wpAny_loadPart')
section
variable {prog:y0r} {w:World} {A:Around} {E:Value->y04->Prop} {s:y04}
end
end
section
variable [Tbl]
section
variable {M:Model} {A:Around} {E:Value->y04->Prop} {s:y04} {env:Env}
end
section
variable {prog:y0r} {w:World} {A:Around} {E:Value->y04->Prop} {s:y04}
end
section
variable {X:Cx} {es:List Expr} {k kc:Nat} {p pos p2 pc pk:Pos} {a:Expr} {f:Fe}
end
section
variable {X:Cx} {e:Expr} {f:Fe} {pos:Pos}
end
end
section
variable [Tbl]
section
variable {X:Cx} {e:Expr} {f:Fe} {te:TE} {pos p p2 p3:Pos}
end
section
variable {X:Cx} {e st:Expr} {te:TE} {tl:TO} {f:Fe} {pos p2:Pos} {lo:Option Expr}
end
end
section
variable [Tbl]
def exE (f:Fe):Fs:=fun ε=>(f ε).map fun _=>.nx ε
theorem zxe {P:y0r} {w:World} {K:y00} {mg:Str->Option Value} {base:Heap} {x y:Str} {st:Stmt} {f:Addr} {fd:y0b} {N ps:List Str} {k:Nat} {b:Fs} (F:Fun K x x st f fd) (S:FnScope N ps (z01 st)) (bd:z3d K fd ps []) (m:mg y=some (.ref f))
  (hb:∀(cdv:Value) (A:Around) (outer:List Env) (s:y04) (H:Hp) (E:XK),Room k (A.deeper (envOfC x (z01 st) s.heap.objs.size f cdv)) ->
   PBt (cxOf CX0 P w K mg base N x (z01 st) f cdv A outer s H E).nox (z0o st) b):Cl P w K mg base y (k+1) ps.length (runF b N.length):=.mk' (zsw F S hb) m F.kp bd
section
variable {X:Cx} {k n c C i:Nat} {ns:List Str} {d:List Sl->Option (T×List Sl)} {x:Str} {p pos:Pos} {o e:Expr} {es:List Expr} {fs:List Fe} {f:Fe}
theorem zt8 (kc:ClOk X.K c C ns) (Dc:ClM X.prog X.w X.K X.mg X.base x c 0 k n d) (hr:Room k X.A) (hn:PE X o (tVar i)) (ha:PAv X es fs) (hg:Gl X x:=by rfl) (hl:fs.length+1=n:=by rfl) (hdb:(x == ("__debug__":Str))=false:=by decide)
  (he:y0a (o::es) X.env=(false,eval o X.env)::y0a es X.env:=by rfl) (hpl:(backTo pos (y0a es X.env)).any (·.1)=false:=by rfl):PEx X (.Call (.Name x p) (o::es) [] pos) (zmd c d [] i fs):=by
 obtain⟨fa,fd,ps,F,m,kp,b⟩:=Dc.ex
 refine z0t (zg6 F hr hg m kp b .nil zg8 (z0r hn ha he) hdb he hpl) fun σ H Q ⟨F₀,E,O,F,ε,t,ε',r,e,kk⟩=>?_
 simp only[zmd,y01] at e
 obtain⟨⟨md,os⟩,ho,e⟩:=e
 split at e
 next=>cases e
 next hmd =>
  simp only[args,y01,y07,Option.some.injEq,exists_eq_left'] at e
  obtain⟨ts,et,r',ed,e⟩:=e
  cases e
  obtain⟨a,vs,dx,h1,hx,_⟩:=z6o kc r ho
  refine⟨_,h1,F₀,E,O,F,ε,ts,r,et,fun ws F1 H1 x1 q=>?_⟩
  show spM X.K n c 0 d (V.ref a::ws++[]) H1 Q E0
  rw[y22]
  exact zge r ho hmd h1 x1 q ed (by rw[z7o et,hl]) kk
theorem ztj (h:PEv X e f) (hsw:swapsWith e none pos.line X.env=pure false:=by rfl):PSt X (.Expr e pos) (exE f):=z2r (zbe h hsw) fun D σ H ⟨F₀,E,O,F,ε,o,r,e,k⟩=>by
 simp only[exE,y07] at e
 obtain⟨t,et,rfl⟩:=e
 exact⟨F₀,E,O,F,ε,t,r,et,fun v F' H' x _=>k σ F' H' x.kp (r.ext x)⟩
end
end
section
variable [Tbl]
end
section
theorem zmg {pos:Pos} {c cv:Value} {a b:Int} (l:List Value) (h:TriplesOk l) (e:codeAmong pos (l++[rawInt a,rawInt b,c])=some cv):codeAmong pos l=some cv\/cv=c:=by
 fun_induction TriplesOk l with
 | case1 =>
  simp only[y2n,codeAmong,rawInt] at e
  split at e
  ·exact .inr (y2i e).symm
  ·cases e
 | case2 a' t b' u x rest ih =>
  simp only[y2o,codeAmong] at e ⊢
  split at e
  next hc=>rw[if_pos hc];exact .inl e
  next hc=>rw[if_neg hc];exact ih h e
 | case3 _ _ _=>exact h.elim
noncomputable def BM (mg:Str->Option Value) (h:Heap):Prop:=∃bm ob,mg "__builtins__"=some (.ref bm)/\bm≠builtinsNs/\h.get? bm=some ob/\ob.cls=.type "module"/\ob.dict=some builtinsNs/\ob.data=.plain
def lamO (o:Obj) (q:Addr):HO:=.ext fun h=>h.get? q=some o
def codO (c:Addr) (q:Str):HO:=.ext fun h=>h.CodeRec (.ref c) q
variable [Tbl]
theorem zkx {X:Cx} {pins:List (Addr×Obj)} {σ:L2.St} {H:Hp} {s:y04} {params:Arguments} {body:Expr} {scope:Scope} {lpos:Pos} {c P:Addr} {clos:List (Str×Addr)} {Q:Value->y04->Prop} (I:Inv X pins σ H s)
  (hcode:X.env.code=.ref c) (C:PySem.W.CodeHd X.base c P) (hbm:BM X.mg X.base) (hdef:defaultsOf params X.env=([],[])) (hcl:closureFor scope X.env=pure clos)
  (d:TbS H) (tb:(P,X.env.qual++"<lambda>")∈Tbl.tb) (un:∀p∈Tbl.tb,p.1=P->p.2=X.env.qual++"<lambda>")
  (h:∀(q c':Addr) (ctv:Value) (H':Hp) (s':y04),Inv X pins σ H' s'->z7z H H'->TbS H'->H q=none->H' q=some (lamO (PySem.W.kla_obj "<lambda>" (X.env.qual++"<lambda>") params body scope clos ((X.mg "__name__").getD .none) c' ctv) q) ->
   H' c'=some (codO c' (X.env.qual++"<lambda>"))->Q (.ref q) s') :
  y0u (model X.prog X.w) X.A (eval (.Lambda params body scope lpos) X.env) Q X.xe s:=by
 obtain⟨ps,hH,ht,hg⟩:=d _ tb
 have hP:s.heap.get? P=some (PySem.W.tabObj ps):=I.hok P _ hH
 have ns:s.heap.Ns y0o X.mg:=I.ok.mod.glob.keeps I.bk
 obtain⟨bm,ob,b1,b2,b3,b4,b5,b6⟩:=hbm
 have b3':=I.bk _ _ b3
 have hgP:y0o≠P:=fun z=>by
  obtain⟨o,es,ep,e,hd,_⟩:=ns
  rw[z,hP] at e;cases e;cases hd
 have hbP:bm≠P:=fun z=>by
  rw[z,hP] at b3';cases b3';cases b4
 have hbG:bm≠y0o:=fun z=>by
  obtain⟨o,es,ep,e,hd,_⟩:=ns
  rw[z,e] at b3';cases b3';rw[hd] at b6;cases b6
 have hb:s.heap.BuiltinsAt X.mg P:=⟨bm,ob,b1,b2,hbG,hbP,b3',b4,b5,b6⟩
 have C':=C.keeps I.bk
 refine PySem.W.kla_eval hdef ?_
 cases hf:codeAmong lpos ps.toList with
 | some cv =>
  obtain⟨c',rfl,hc'⟩:=hg lpos cv hf
  refine PySem.W.kla_makeFunctionHit hcl I.ok.glob ns hcode C' hP ht hf hb fun ctv h' tk k hsz=>?_
  have fr:H h'.objs.size=none:=I.hok.fresh hsz
  refine h h'.objs.size c' ctv (upd H h'.objs.size (lamO _ h'.objs.size)) _ (I.laid (t':=tk) (fun b u e=>y03 _ (k b u e)) hsz ⟨y0m _ rfl,⟨_,y0m _ rfl⟩,fun h1 h2 e1 e2=>e2 _ e1⟩)
   (fun b o e=>.inl (by rw[z0c (z0l e fr)];exact e)) (d.new fr) fr z0e (by rw[z0c (z0l hc' fr)];exact hc')
 | none =>
  refine PySem.W.kla_makeFunction hcl I.ok.glob ns hcode C' hP ht hf hgP hb fun c' ctv h' tk hx hge hlt hrec htb=>?_
  have frq:H h'.objs.size=none:=I.hok.fresh (y1s hge (Nat.le_of_lt hlt))
  have frc:H c'=none:=I.hok.fresh hge
  have cq:c'≠h'.objs.size:=y0y hlt
  have neC:∀b o,H b=some o->b≠c':=fun b o e=>z0l e frc
  have neQ:∀b o,H b=some o->b≠h'.objs.size:=fun b o e=>z0l e frq
  have Pc:=neC P _ hH
  have Pq:=neQ P _ hH
  let H':Hp:=upd (upd (upd H P (.tbl (ps++#[rawInt lpos.line,rawInt lpos.col,.ref c']))) c' (codO c' (X.env.qual++"<lambda>"))) h'.objs.size (lamO (PySem.W.kla_obj "<lambda>" (X.env.qual++"<lambda>") params body scope clos ((X.mg "__name__").getD .none) c' ctv) h'.objs.size)
  have eq0:H' h'.objs.size=some (lamO (PySem.W.kla_obj "<lambda>" (X.env.qual++"<lambda>") params body scope clos ((X.mg "__name__").getD .none) c' ctv) h'.objs.size):=z0e
  have ec0:H' c'=some (codO c' (X.env.qual++"<lambda>")):=by show upd _ _ _ _=_;rw[z0c cq,z0e]
  have eP0:H' P=some (.tbl (ps++#[rawInt lpos.line,rawInt lpos.col,.ref c'])):=by show upd _ _ _ _=_;rw[z0c Pq,z0c Pc,z0e]
  have eO:∀b,b≠P->b≠c'->b≠h'.objs.size->H' b=H b:=fun b n1 n2 n3=>by show upd _ _ _ _=_;rw[z0c n3,z0c n2,z0c n1]
  have eS:∀b o,H b=some o->b≠P->H' b=some o:=fun b o e n=>by rw[eO b n (neC b o e) (neQ b o e)];exact e
  have kp:∀b o,b≠P->s.heap.get? b=some o->(h'.push (PySem.W.kla_obj "<lambda>" (X.env.qual++"<lambda>") params body scope clos ((X.mg "__name__").getD .none) c' ctv)).get? b=some o:=fun b o n e=>y03 _ (hx b o n e)
  have nP:∀b,H b=none->b≠P:=fun b e z=>by rw[z,hH] at e;cases e
  have sm:z7z H H':=fun b o e=>by
   by_cases z:b=P
   ·subst z
    rw[hH] at e;cases e
    exact .inr ⟨_,_,rfl,eP0⟩
   ·exact .inl (eS b o e z)
  refine h h'.objs.size c' ctv H' _ (I.un (t':=tk) ⟨fun b o e n _ _=>kp b o (nP b n) e,fun b o e n _ _=>⟨o.slots,kp b o (nP b n) e⟩,fun b o e n _=>?_,fun b o e _=>?_,fun b xs e=>eS b _ e fun z=>by (rw[z,hH] at e;cases e),fun b o u e=>eS b _ e fun z=>by (rw[z,hH] at e;cases e),fun b qs e=>?_⟩ fun a o e=>?_) sm (fun p hp=>?_) frq eq0 ec0
  ·have lt:=y0c e
   rw[eO b (nP b n) (y0y (y0x lt hge)) (y0y (Nat.lt_trans (y0x lt hge) hlt))]
   exact n
  ·by_cases z:b=P
   ·subst z
    exact⟨_,y03 _ htb⟩
   ·exact⟨o,kp b o z e⟩
  ·by_cases z:b=P
   ·subst z
    rw[hH] at e;cases e
    exact⟨_,eP0⟩
   ·exact⟨#[],by rw[eS b _ e z];simp⟩
  ·by_cases z1:a=h'.objs.size
   ·subst z1
    rw[eq0] at e;cases e
    exact⟨y0m _ rfl,⟨_,y0m _ rfl⟩,fun h1 h2 e1 e2=>e2 _ e1⟩
   by_cases z2:a=c'
   ·subst z2
    rw[ec0] at e;cases e
    refine⟨hrec.at fun o e=>y03 _ e,?_,fun h1 h2 e1 e2=>e1.at e2⟩
    obtain⟨c2,o,vs,t,e2,ho,_⟩:=hrec
    cases e2
    exact⟨o,y03 _ ho⟩
   by_cases z3:a=P
   ·subst z3
    rw[eP0] at e;cases e
    exact y03 _ htb
   ·rw[eO a z3 z2 z1] at e
    refine (I.hok a o e).stay (fun b u hb q=>kp b u ?_ q) (fun b q=>eS b _ q fun z=>by (rw[z,hH] at q;cases q)) fun b xs q=>eS b _ q fun z=>by (rw[z,hH] at q;cases q)
    rcases hb with rfl|hb
    ·exact z3
    ·exact fun z=>by rw[z,hH] at hb;cases hb
  ·by_cases z:p.1=P
   ·have e2:=un p hp z
    obtain⟨p1,p2⟩:=p
    simp only at z e2
    subst z e2
    refine⟨_,eP0,by rw[Array.toList_append];exact TriplesOk_snoc _ _ _ _ ht,fun pos cv e=>?_⟩
    rw[Array.toList_append] at e
    rcases zmg _ ht e with e|e
    ·obtain⟨c2,e1,e2⟩:=hg pos cv e
     exact⟨c2,e1,eS _ _ e2 fun z=>by (rw[z,hH] at e2;cases e2)⟩
    ·exact⟨c',e,ec0⟩
   ·obtain⟨qs,q1,q2,q3⟩:=d p hp
    refine⟨qs,eS _ _ q1 z,q2,fun pos cv e=>?_⟩
    obtain⟨c2,e1,e2⟩:=q3 pos cv e
    exact⟨c2,e1,eS _ _ e2 fun z=>by (rw[z,hH] at e2;cases e2)⟩
end
section
variable [Tbl]
end
section
variable [Tbl]
noncomputable def envL (qual:Str) (scope:Scope) (L q:Addr) (cd:Value) (cl:List (Str×Addr)):Env :=
 { scope:=scope,locals:=L,globals:=y0o,cells:=cl,qual:=qual++".<locals>.",func:=some q,code:=cd,frame:=some L,builtins:=builtinsNs }
noncomputable def cxL (P:y0r) (w:World) (K:y00) (mg:Str->Option Value) (base:Heap) (N:List Str) (qual:Str) (scope:Scope) (q:Addr) (cd:Value) (cl:List (Str×Addr)) (A:Around) (outer:List Env) (s:y04) (H:Hp):Cx where
 prog:=P
 w:=w
 K:=K
 mg:=mg
 base:=base
 A:=A.deeper (envL qual scope s.heap.objs.size q cd cl)
 N:=N
 s₀:=s
 H₀:=H
 env:=envL qual scope s.heap.objs.size q cd cl
 outer:=outer
 stack:=envL qual scope s.heap.objs.size q cd cl::outer
 ex:=[]
 calm:=true
 fn:=fun _=>false
 pn:=[]
 xe:=fun _ _=>False
structure Caps (N:List Str) (scope:Scope) (cl:List (Str×Addr)) (σ:L2.St) (H:Hp) (h:Heap):Prop where
 inj:∀x y c,cl.lookup x=some c->cl.lookup y=some c->x=y
 has:∀x,(scope.names.lookup x=some .cell\/scope.names.lookup x=some .free)->∃c,cl.lookup x=some c
 cel:∀x c,cl.lookup x=some c->(∃v,h.IsCell c v)/\H c=none
 len:σ.length=N.length
 val:∀(i:Nat) (x:Str) (v:V),N[i]?=some x->σ[i]?=some (some v)->Vis scope x->∃u c,RelV v u/\scope.names.lookup x=some .free/\cl.lookup x=some c/\h.IsCell c (some u)
theorem zdr {h h':Heap} {c:Addr} {v:Option Value} (x:h.IsCell c v) (k:∀b o,h.get? b=some o->h'.get? b=some o):h'.IsCell c v:=by
 obtain⟨o,ho,hd⟩:=x
 exact⟨o,k _ _ ho,hd⟩
section
variable {P:y0r} {w:World} {K:y00} {mg:Str->Option Value} {base:Heap} {k:Nat} {q c':Addr} {N:List Str} {qual:Str} {scope:Scope} {cd:Value} {cl:List (Str×Addr)} {A:Around} {outer:List Env} {s:y04} {H:Hp} {σ:L2.St}
theorem zfe {h1:Heap} {tk:Nat} {m:Str->Option Value} (hk:scope.kind=.function) (hd:A.handled=none) (e0:Env0 P w K mg base A outer s H) (C:Caps N scope cl σ H s.heap) (hns:h1.Ns s.heap.objs.size m) (kp:∀b o,s.heap.get? b=some o->h1.get? b=some o) :
  Inv (cxL P w K mg base N qual scope q cd cl A outer s H) [] σ H { s with heap:=h1,toks:=tk }:=by
 have noA:∀b:Addr,b∉(cxL P w K mg base N qual scope q cd cl A outer s H).ex:=fun b z=>absurd (show b∈([]:List Addr) from z) (by simp)
 refine⟨⟨e0.mod,hk,rfl,rfl,y0p _,C.inj,C.has,fun y c hf _=>(by cases hf),fun _=>hd,Around.frames_deeper e0.frames,.inr ⟨rfl,rfl⟩,fun b z=>absurd z (noA b),e0.bs,e0.bsz,fun b _ _=>noA b,fun b z=>absurd z (noA b),e0.funs,e0.frf⟩,
  rfl,e0.bare,Un.kept kp,⟨m,hns,fun i y v h1 h2 h3=>?_⟩,fun y c h=>?_,e0.hok.fresh (y0p _),fun y c h=>(C.cel y c h).2,fun p hp=>absurd (show p∈([]:List (Addr×Obj)) from hp) (by simp),e0.hok.kept kp,C.len⟩
 ·obtain⟨u,c,ru,hf,hc,hx⟩:=C.val i y v h1 h2 h3
  exact⟨u,ru,.inr ⟨.inr hf,c,hc,zdr hx kp⟩⟩
 ·obtain⟨⟨v,hv⟩,_⟩:=C.cel y c h
  exact⟨v,zdr hv kp⟩
theorem zo2 {params:Arguments} {body:Expr} {pm ctv:Value} {f:Fx} {Q:VK} {E:XK} (hk:scope.kind=.function) (hco:scope.isCoroutine=false) (hgen:scope.isGenerator=false) (hnc:∀x∈scope.names,x.2≠.cell)
  (hb:∀(A:Around) (outer:List Env) (s:y04) (H:Hp),Room k (A.deeper (envL qual scope s.heap.objs.size q (.ref c') cl))->PEx (cxL P w K mg base N qual scope q (.ref c') cl A outer s H) body f)
  (bd:bindArgs (PySem.W.kla_fn "<lambda>" qual params body scope cl pm (.ref c') ctv) ⟨[],[]⟩=pure [])
  (hr:Room (k+1) A) (e0:Env0 P w K mg base A outer s H) (hq:H q=some (lamO (PySem.W.kla_obj "<lambda>" qual params body scope cl pm c' ctv) q)) (hc:H c'=some (codO c' qual)) (C:Caps N scope cl σ H s.heap)
  (h:tX K f σ H Q):codeAny (model P w) A (.call (.ref q) ⟨[],[]⟩) (CR CX0 outer P w H s Q E) s:=by
 have nolim:s.heap.NoLimit:=e0.mod.nolimit.keeps fun b o e=>(e0.bs b o e).1
 refine PySem.W.kla_callFunE hr.depth (e0.hok q _ hq).1 rfl hco hgen rfl (e0.hok c' _ hc).1 ?_
 rw[bd]
 refine y06 (wpAny_newFunctionEnv hnc (fun x hx=>by cases hx) (fun h₁ hns hsb=>⟨nolim.fresh _ hsb,?_⟩) hk)
 have kp:∀b o,s.heap.get? b=some o->h₁.get? b=some o:=fun b o e=>hsb.extBut b o (y0y (y0c e)) (y03 _ e)
 show codeAny _ _ (.expr body (envL qual scope s.heap.objs.size q (.ref c') cl)) _ _
 refine PySem.W.kla_codeExpr ?_
 have I:Inv (cxL P w K mg base N qual scope q (.ref c') cl A outer s H) [] σ H { s with heap:=h₁,toks:=s.toks+([]:List (Str×Value)).length }:=zfe hk hr.hd e0 C hns kp
 refine y1e (hb A outer s H (hr.deeper _) [] _ σ H (fun v H'=>Q v H') I h) (fun u s' hs=>?_) fun e s' hs=>(show False from hs).elim
 obtain⟨v,H',J,rv,qv⟩:=hs
 exact⟨v,H',J.os,J.bare,J.base,J.hok,rv,qv⟩
end
end
section
variable [Tbl]
theorem zl2 {P:y0r} {w:World} {K:y00} {mg:Str->Option Value} {base:Heap} {k:Nat} {x qual:Str} {st:Stmt} {f:Addr} {fd:y0b} {N ps:List Str} {A:Around} {outer:List Env} {s:y04} {H:Hp} {us:List Value} {vs:List V} {Q:VK} {E:XK}
  (F:Fun K x qual st f fd) (S:FnScope N ps (z01 st)) (bd:z3d K fd ps []) (hr:Room (k+1) A) (e0:Env0 P w K mg base A outer s H) (r:Vals vs us) (hl:vs.length=ps.length)
  (hbody:∀cdv:Value,Room k (A.deeper (envOfC qual (z01 st) s.heap.objs.size f cdv))->∃t,PSs (cxOf CX0 P w K mg base N qual (z01 st) f cdv A outer s H E).nox (z0o st) t/\t { nx:=fun _ H'=>Q .non H',rt:=Q } (start N vs) H) :
  codeAny (model P w) A (.call (.ref f) ⟨us,[]⟩) (CR CX0 outer P w H s Q E) s:=by
 obtain⟨oc,od,kV,doc,pm,an,cdv,ct,osl,rfl,lk,hcd⟩:=F.ex
 have hul:us.length=ps.length:=by rw[<- r.length];exact hl
 have KX:K.In s.heap:=e0.mod.kin.keeps fun b o e=>(e0.bs b o e).1
 have lim:s.heap.NoLimit:=e0.mod.nolimit.keeps fun b o e=>(e0.bs b o e).1
 have hb:=bd s us KX (by rw[y22];exact hul)
 rw[y22] at hb
 have hkind:∀y∈ps.zip us,(z01 st).names.lookup y.1=some .local\/((z01 st).names.lookup y.1=some .cell/\((cellsFrom (s.heap.objs.size+1) (z01 st).names []).lookup y.1).isSome=true):=fun⟨n,v⟩ hy=>by
  rcases S.par n (List.of_mem_zip hy).1 with q|q
  ·exact .inl q
  ·exact .inr ⟨q,PySem.W.cellsFrom_some _ _ _ (.inl q)⟩
 refine codeAny_call_function hr.depth (KX _ _ lk) rfl S.co S.gen rfl (PySem.W.codeRec_of KX hcd) (hb _ _ _ _ ?_)
 refine wpAny_newFunctionEnv_cells S.kind hkind fun env he s1 x=>?_
 subst he
 refine⟨lim.keeps x.toInCall.keep,codeAny_func ?_⟩
 obtain⟨t,ht,hq⟩:=hbody cdv (hr.deeper _)
 have I:Inv (cxOf CX0 P w K mg base N qual (z01 st) f cdv A outer s H E) [] (start N vs) H s1:=zi2 S hr.hd e0 hl r x
 refine y1e (ht.nox [] s1 (start N vs) H _ I hq) (fun fl s' hs=>?_) fun e s' hs=>hs
 have fin:∀{σ':L2.St} {H':Hp} {v:V} {u:Value},Inv (cxOf CX0 P w K mg base N qual (z01 st) f cdv A outer s H E) [] σ' H' s'->RelV v u->Q v H'->CE outer P w H s Q u s' :=
  fun {σ' H' v u} J rv q=>⟨v,H',J.os,J.bare,J.base,J.hok,rv,q⟩
 cases fl with
 | ret u =>
  obtain⟨v,σ',H',J,rv,q⟩:=hs
  exact fin J rv q
 | next =>
  obtain⟨σ',H',J,q⟩:=hs
  exact fin (v:=V.non) (u:=Value.none) J rfl q
 | brk =>
  obtain⟨_,_,_,q⟩:=hs
  exact y20 q
 | cont =>
  obtain⟨_,_,_,q⟩:=hs
  exact y20 q
noncomputable def zvm (X:Cx) (i:Nat):TE:=fun σ H Q=>∃q,σ[i]?=some (some (.ref q))/\(∃(o:Obj) (fd:y0b),H q=some (lamO o q)/\o.data=.func fd) /\
 ∀(pins:List (Addr×Obj)) (s:y04),Inv X pins σ H s->codeAny (model X.prog X.w) X.A (.call (.ref q) ⟨[],[]⟩) (CR CX0 X.stack X.prog X.w H s Q E0) s
theorem zu2 {X:Cx} {i:Nat} {x:Str} {p pos:Pos} (hn:PE X (.Name x p) (tVar i)):PE X (.Call (.Name x p) [] [] pos) (zvm X i):=by
 intro pins s σ H Q I ⟨q,hq,⟨o,fd,ho,hfd⟩,hc⟩
 refine wpAny_Call_Name_kw (thn (hn pins s σ H (fun v H1=>v=.ref q/\H1=H) I ⟨.ref q,hq,rfl,rfl⟩) fun v s1 ⟨y,H1,I1,ry,ey,eh⟩=>?_)
 subst ey
 subst eh
 cases ry
 have fa:PySem.W.FnAt q s1.heap:=by
  have h1:s1.heap.get? q=some o:=(I1.hok q _ ho).1
  obtain⟨c,dct,dt,sl⟩:=o
  cases hfd
  exact⟨_,_,_,_,h1⟩
 refine PySem.W.callWith_F0 fa ?_
 refine wpAny_call (codeAny_mono (hc pins s1 I1) fun r s' hq=>?_)
 cases r with
 | error e=>exact y20 hq
 | ok fl =>
  cases fl with
  | ret u=>exact I1.after hq
  | next=>exact y20 hq
  | brk=>exact y20 hq
  | cont=>exact y20 hq
end
section
variable [Tbl]
theorem zwb {X:Cx} {body:List Stmt} {h₀:ExceptHandler} {hs:List ExceptHandler} {pos:Pos} {t:TS} (hb:PSs X body t) (hx:X.xe=fun _ _=>False:=by rfl):PS X (.Try body (h₀::hs) [] [] pos) t:=by
 intro pins s σ H D I h
 refine wpAny_Try_except (y1e (hb pins s σ H D I h) (fun f s1 hs=>?_) fun e s1 he=>?_)
 ·cases f with
  | next=>exact wpAny_execs_nil hs
  | ret u=>exact hs
  | brk=>exact hs
  | cont=>exact hs
 ·rw[hx] at he
  exact he.elim
theorem zi1 {fs ex:List Addr} {H H':Hp} {h h':Heap} {c:Addr} {v:Option Value} (u:Un fs ex H H' h h') (x:h.IsCell c v) (hc:H c=none) (he:c∉ex):h'.IsCell c v:=by
 obtain⟨o,ho,hd⟩:=x
 by_cases hf:c∈fs
 ·obtain⟨sl,e⟩:=u.slot c o ho hc hf he
  exact⟨_,e,hd⟩
 ·exact⟨o,u.keep c o ho hc hf he,hd⟩
theorem zp5 {X:Cx} {pins:List (Addr×Obj)} {σ:L2.St} {H:Hp} {s:y04} {scope:Scope} (I:Inv X pins σ H s) (hnc:∀x∈scope.names,x.2≠.cell/\x.2≠.local) (hfr:∀x∈scope.names,x.2=.free->X.env.scope.names.lookup x.1=some .cell) :
  Caps X.N scope (clos X.env scope.names []) σ H s.heap:=by
 have hl:∀x∈scope.names,x.2=.free->∃c,X.env.cells.lookup x.1=some c:=fun x hx hf=>I.ok.has x.1 (.inl (hfr x hx hf))
 have fr:∀x c,(clos X.env scope.names []).lookup x=some c->X.env.cells.lookup x=some c:=z8l hl fun x c e=>by cases e
 refine⟨fun x y c h1 h2=>I.ok.inj x y c (fr x c h1) (fr y c h2),fun x h=>?_,fun x c h=>⟨I.cell x c (fr x c h),I.freeC x c (fr x c h)⟩,I.len,fun i x v h1 h2 h3=>?_⟩
 ·rcases h with h|h
  ·obtain⟨y,hy,e1,e2⟩:=z4i h
   exact absurd e1 (hnc y hy).1
  ·obtain⟨y,hy,e1,e2⟩:=z4i h
   exact z91 (.inl ⟨y,hy,e1,e2⟩)
 ·have hf:scope.names.lookup x=some .free:=by
   rcases h3 with h|h|h
   ·obtain⟨y,hy,e1,_⟩:=z4i h
    exact absurd e1 (hnc y hy).2
   ·obtain⟨y,hy,e1,_⟩:=z4i h
    exact absurd e1 (hnc y hy).1
   ·exact h
  obtain⟨y,hy,e1,e2⟩:=z4i hf
  have hk:X.env.scope.names.lookup x=some .cell:=by rw[<- e2];exact hfr y hy e1
  obtain⟨m,_,hv⟩:=I.loc
  obtain⟨u,ru,lk⟩:=hv i x v h1 h2 (.inr (.inl hk))
  obtain⟨c,hc⟩:=z91 (env:=X.env) (l:=scope.names) (cs:=[]) (x:=x) (.inl ⟨y,hy,e1,e2⟩)
  refine⟨u,c,ru,hf,hc,?_⟩
  rcases lk with ⟨hk2,_⟩|⟨_,c2,hc2,hx⟩
  ·have:X.env.scope.names.lookup x=some .local:=hk2
   rw[hk] at this
   cases this
  ·rw[fr x c hc] at hc2
   cases hc2
   exact hx
def zpu (f:Fx):Fx:=fun ε=>(f ε).map fun r=>(.tuple [.str "told",r.1],r.2)
def ztc (Y:Cx):TS:=tSeq (tAsg (tTup (z6h (tC (.str "told")) (z6h (zvm Y 0) tNil))) (zi3 1)) (tRet (tVar 1))
theorem zvd {X:Cx} {k:Nat} {x:Str} {st:Stmt} {fa:Addr} {fd:y0b} {y0 y1:Str} {NT:List Str} {params:Arguments} {body:Expr} {scope:Scope} {lpos p pos:Pos} {c Pt:Addr} {f:Fx}
  (F:Fun X.K x x st fa fd) (S:FnScope (y0::y1::NT) [y0] (z01 st)) (bd:z3d X.K fd [y0] []) (hm:X.mg x=some (.ref fa))
  (ht:∀(cdv:Value) (A:Around) (outer:List Env) (s:y04) (H:Hp),PSs (cxOf CX0 X.prog X.w X.K X.mg X.base (y0::y1::NT) x (z01 st) fa cdv A outer s H E0).nox (z0o st) (ztc (cxOf CX0 X.prog X.w X.K X.mg X.base (y0::y1::NT) x (z01 st) fa cdv A outer s H E0).nox))
  (hcode:X.env.code=.ref c) (C:PySem.W.CodeHd X.base c Pt) (hbm:BM X.mg X.base) (tb:(Pt,X.env.qual++"<lambda>")∈Tbl.tb) (un:∀p∈Tbl.tb,p.1=Pt->p.2=X.env.qual++"<lambda>")
  (hk:scope.kind=.function) (hco:scope.isCoroutine=false) (hgen:scope.isGenerator=false) (hnc:∀x∈scope.names,x.2≠.cell/\x.2≠.local) (hfr:∀x∈scope.names,x.2=.free->X.env.scope.names.lookup x.1=some .cell)
  (bdl:∀(cl:List (Str×Addr)) (pm:Value) (c':Addr) (ctv:Value),bindArgs (PySem.W.kla_fn "<lambda>" (X.env.qual++"<lambda>") params body scope cl pm (.ref c') ctv) ⟨[],[]⟩=pure [])
  (hr:Room (k+2) X.A)
  (hb:∀(q c':Addr) (cl:List (Str×Addr)) (A:Around) (outer:List Env) (s:y04) (H:Hp),Room k (A.deeper (envL (X.env.qual++"<lambda>") scope s.heap.objs.size q (.ref c') cl))->PEx (cxL X.prog X.w X.K X.mg X.base X.N (X.env.qual++"<lambda>") scope q (.ref c') cl A outer s H) body f)
  (hg:Gl X x:=by rfl) (hdb:(x == ("__debug__":Str))=false:=by decide) (hdef:defaultsOf params X.env=([],[]):=by rfl)
  (he:y0a [.Lambda params body scope lpos] X.env=(false,eval (.Lambda params body scope lpos) X.env)::y0a [] X.env:=by rfl) :
  PEx X (.Call (.Name x p) [.Lambda params body scope lpos] [] pos) (zpu f):=by
 intro pins s σ H Q I ⟨F₀,E,O,F',ε,t,ε',r,e,kk⟩
 simp only[zpu,y07] at e
 obtain⟨⟨t0,ε1⟩,ef,e⟩:=e
 cases e
 refine wpAny_Call_Name_kw (z9y I hg hm ?_ hdb)
 refine PySem.W.callWith_K (h₀:=X.base) I.ok.mod.kin F.kp ?_ he rfl
 rw[he]
 show y0u _ _ (spliced ((false,eval (.Lambda params body scope lpos) X.env)::[])) _ _ s
 have hl:∀x∈scope.names,x.2=.free->∃c,X.env.cells.lookup x.1=some c:=fun x hx hf=>I.ok.has x.1 (.inl (hfr x hx hf))
 refine Calls.spliced_cons (zkx I hcode C hbm hdef (z7i hl) r.dom.tgs tb un fun q c' ctv H1 s1 I1 sm tb1 hqn hq hc=>Calls.spliced_nil ⟨I1.kIn,?_⟩)
 have x1:Ext F' H F' H1:=⟨sm,fun _ h=>h,fun _ h=>.inl h,⟨fun a ha=>by
  obtain⟨o,ho⟩:=r.dom.dm a ha
  exact sm.ne ho,tb1⟩⟩
 have fin:codeAny (model X.prog X.w) X.A (.call (.ref fa) ⟨[.ref q],[]⟩) (CR CX0 X.stack X.prog X.w H1 s1 Q E0) s1:=by
  refine zl2 (k:=k+1) (vs:=[.ref q]) F S bd hr I1.env0 (.cons rfl .nil) rfl fun cdv hr2=>⟨_,ht cdv X.A X.stack s1 H1,?_⟩
  refine⟨q,rfl,⟨_,_,hq,rfl⟩,fun pins2 s2 I2=>?_⟩
  have caps:Caps X.N scope (clos X.env scope.names []) σ H1 s2.heap:=by
   have c1:=zp5 I1 hnc hfr
   have kp:∀{a:Addr} {v:Option Value},s1.heap.IsCell a v->H1 a=none->s2.heap.IsCell a v:=fun {a v} z n=>zi1 I2.base z n (by intro z;exact absurd (show a∈([]:List Addr) from z) (by simp))
   refine⟨c1.inj,c1.has,fun x c h=>?_,c1.len,fun i x v h1 h2 h3=>?_⟩
   ·obtain⟨⟨v,hv⟩,hn⟩:=c1.cel x c h
    exact⟨⟨v,kp hv hn⟩,hn⟩
   ·obtain⟨u,c,ru,hf,hc2,hx⟩:=c1.val i x v h1 h2 h3
    exact⟨u,c,ru,hf,hc2,kp hx (c1.cel x c hc2).2⟩
  refine zo2 hk hco hgen (fun x hx=>(hnc x hx).1) (hb q c' _) (bdl _ _ _ _) hr2 I2.env0 hq hc caps ?_
  refine⟨F₀,E,O,F',ε,t0,ε1,r.ext x1,ef,fun v F2 H2 kp2 r2 rv=>?_⟩
  refine⟨by show 2<=y0k;decide,fun pp hp=>⟨.ref pp,rfl,?_⟩⟩
  have x3:=Ext.laid (o:=.tup [.str "told",v]) r2.dom hp
  refine kk _ F2 _ ((x1.kp.trans kp2).trans x3.kp) (r2.ext x3) ?_
  simp only[Rep]
  exact⟨pp,_,rfl,SqT.of z0e,RepL.cons (by simp[Rep]) (RepL.cons (rv.ext x3) RepL.nil)⟩
 refine wpAny_call (codeAny_mono fin fun r s' hq=>?_)
 cases r with
 | error e=>exact y20 hq
 | ok fl =>
  cases fl with
  | ret u=>exact I1.after hq
  | next=>exact y20 hq
  | brk=>exact y20 hq
  | cont=>exact y20 hq
end
section
def zru (ts:List Addr) (H:Hp):Prop:=(∀b,H b=none\/(∃o xs,H b=some (.frz o (.lst xs)))\/(b∈ts/\H b=some (.tbl #[])))/\∀b∈ts,H b=some (.tbl #[])
theorem zo0 {P:y0r} {w:World} {K:y00} {mg mb:Str->Option Value} {CX:CXT} {k:Nat} {fa a:Addr} {fd:y0b} {x:Str} {sp:Sp} {s₁:y04} {vs:List Value} {ns:List Int} {ts:List Addr}
  (KX:K.In s₁.heap) (hts:∀b∈ts,s₁.heap.get? b=some (PySem.W.tabObj #[])) (hK0:∀b∈ts,K.lookup b=none) (hcd:∀b∈ts,∃c,PySem.W.codeHdIn K c b=true)
  (hns:s₁.heap.Ns y0o mg) (hb:s₁.heap.Ns builtinsNs mb) (hbb:∀x:Str,x≠"__name__"->mb x=bootBuiltins x) (hlim:s₁.heap.NoLimit) (hg:s₁.gens=#[])
  (ha:s₁.heap.get? a=some { cls:=.type "list",data:=.seq vs.toArray }) (hi:IntsAre vs ns) (hl:ns.length<=y0k) (hr:Room k callerA)
  (hbm:BM mg s₁.heap) (F:∀base:Heap,K.In base->base.Ns y0o mg->BM mg base->FnOk P w K mg base CX k fa fd [x] sp) (hbind:∀(s:y04) (u:Value),BindsTo s fd ⟨[u],[]⟩ [(x,u)])
  (hsp:∀H:Hp,zru ts H->SqL K H a (ns.map V.int)->sp [.ref a] H (fun v _=>v=.bl true) fun _ _ _=>False)
  (hCX:∀H e s',CX [] H s₁ (fun _ _ _=>False) e s'->False) :
  codeAny (model P w) callerA (.call (.ref fa) ⟨[.ref a],[]⟩) (fun r s'=>r=.ok (.ret (.bool true))/\OldK s₁.heap s'.heap/\s'.os=s₁.os/\AllBare s'.gens) s₁:=by
 have rv:=zgt hi
 have lenV:=hi.length
 have nat:a∉ts:=fun z=>by
  have:=hts a z
  rw[ha] at this
  cases this
 have core:∀H:Hp,zru ts H->SqL K H a (ns.map V.int)->HOk P w H s₁.heap->(∀b,H b≠none->b=a\/b∈ts)->(H a≠none->K.lookup a=none) ->
   codeAny (model P w) callerA (.call (.ref fa) ⟨[.ref a],[]⟩) (fun r s'=>r=.ok (.ret (.bool true))/\OldK s₁.heap s'.heap/\s'.os=s₁.os/\AllBare s'.gens) s₁:=by
  intro H hO hS hok hA hK
  have base_of:∀{b:Addr} {o:Obj},s₁.heap.get? b=some o->H b=none->(hidT s₁.heap H).get? b=some o:=fun e n=>zrb e n
  have noA:∀{b:Addr} {o:Obj} {es:Array DictEntry} {ep:Nat},s₁.heap.get? b=some o->o.data=.dict es ep->H b=none:=fun {b o es ep} e d=>by
   cases q:H b with
   | none=>rfl
   | some u =>
    rcases hA b (by rw[q];simp) with e'|e'
    ·subst e'
     rw[ha] at e;cases e
     have d':Data.seq vs.toArray _=Data.dict es ep:=d
     cases d'
    ·rw[hts b e'] at e;cases e
     have d':Data.fields _=Data.dict es ep:=d
     cases d'
  have nsK:∀{b:Addr} {m:Str->Option Value},s₁.heap.Ns b m->(hidT s₁.heap H).Ns b m:=fun {b m} ⟨o,es,ep,e,d,r⟩=>⟨o,es,ep,base_of e (noA e d),d,r⟩
  have hKb:K.In (hidT s₁.heap H):=fun b o e=>base_of (KX b o e) (by
   cases q:H b with
   | none=>rfl
   | some u =>
    rcases hA b (by rw[q];simp) with e'|e'
    ·subst e'
     rw[hK (by rw[q];simp)] at e;cases e
    ·rw[hK0 b e'] at e;cases e)
  have hbm':BM mg (hidT s₁.heap H):=by
   obtain⟨bm,ob,b1,b2,b3,b4,b5,b6⟩:=hbm
   refine⟨bm,ob,b1,b2,base_of b3 ?_,b4,b5,b6⟩
   cases q:H bm with
   | none=>rfl
   | some u =>
    rcases hA bm (by rw[q];simp) with e'|e'
    ·subst e'
     rw[ha] at b3
     cases b3
     cases b6
    ·rw[hts bm e'] at b3
     cases b3
     cases b6
  have hM:Mod K mg (hidT s₁.heap H):=⟨hKb,nsK hns,⟨mb,nsK hb,hbb⟩,let ⟨mc,h1,h2⟩:=hlim;⟨mc,nsK h1,h2⟩⟩
  have e0:Env0 P w K mg (hidT s₁.heap H) callerA [] s₁ H:=⟨rfl,hM,fun b o e=>zuc e,Nat.le_of_eq (zoi _ _),trivial,fun b hb=>absurd (show b∈([]:List Addr) from hb) (by simp),hok,.of_eq hg⟩
  refine codeAny_mono ((F _ hKb (nsK hns) hbm').run callerA [] s₁ H ⟨[.ref a],[]⟩ [.ref a] [.ref a] _ _ hr e0 (hbind s₁ (.ref a)) (.cons rfl .nil) (hsp H hO hS)) fun r s' h=>?_
  cases r with
  | error e=>exact (hCX H e s' h).elim
  | ok fl =>
   cases fl with
   | next=>exact y20 h
   | brk=>exact y20 h
   | cont=>exact y20 h
   | ret u =>
    obtain⟨v,H',os,bare,un,hok',r',q⟩:=h
    have q':v=.bl true:=q
    subst q'
    obtain rfl:u=Value.bool true:=r'
    refine⟨rfl,⟨fun b o e=>?_,fun b o e=>un.there b o e (by simp)⟩,os,bare⟩
    cases q:H b with
    | none=>exact .inl (un.keep b o e q (by intro z;exact absurd (show b∈([]:List Addr) from z) (by simp)) (by simp))
    | some u =>
     rcases hO.1 b with z|⟨ob,xs,z⟩|⟨hbt,z⟩
     ·rw[q] at z;cases z
     ·have z2:=un.frzs b ob _ z
      obtain⟨e1,_⟩:=hok b _ z
      obtain⟨e2,_⟩:=hok' b _ z2
      rw[e] at e1;cases e1
      exact .inl e2
     ·obtain⟨more,z2⟩:=un.tbls b _ z
      have e2:s'.heap.get? b=some (PySem.W.tabObj (#[]++more)):=hok' b _ z2
      have e1:=hts b hbt
      rw[e] at e1
      cases e1
      obtain⟨c,hc⟩:=hcd b hbt
      exact .inr (.inl ⟨((PySem.W.codeHd_of_K KX hc).tab e).isCodeTable,rfl,#[],more,rfl,e2⟩)
 cases hk:K.lookup a with
 | some o =>
  have e:=KX a o hk
  rw[ha] at e
  cases e
  refine core (fun b=>if b∈ts then some (.tbl #[]) else none) ⟨fun b=>?_,fun b hb=>if_pos hb⟩ (.inr ⟨_,vs.toArray,_,hk,rfl,rfl,rfl,by rw[y0i,lenV];exact hl,by simpa using rv⟩) (fun b u z=>?_) (fun b z=>?_) fun z=>?_
  ·by_cases hb:b∈ts
   ·exact .inr (.inr ⟨hb,if_pos hb⟩)
   ·exact .inl (if_neg hb)
  ·by_cases hb:b∈ts
   ·have z':=(if_pos hb).symm.trans z
    cases z'
    exact hts b hb
   ·have z':=(if_neg hb).symm.trans z
    cases z'
  ·by_cases hb:b∈ts
   ·exact .inr hb
   ·exact absurd (if_neg hb) z
  ·exact absurd (if_neg nat) z
 | none =>
  refine core (fun b=>if b=a then some (.frz { cls:=.type "list",data:=.seq vs.toArray } (.lst (ns.map V.int))) else if b∈ts then some (.tbl #[]) else none) ⟨fun b=>?_,fun b hb=>?_⟩ (.inl (.inr ⟨{ cls:=.type "list",data:=.seq vs.toArray },if_pos rfl⟩)) (fun b u z=>?_) (fun b z=>?_) fun _=>hk
  ·by_cases hb:b=a
   ·exact .inr (.inl ⟨_,_,if_pos hb⟩)
   ·by_cases hb2:b∈ts
    ·exact .inr (.inr ⟨hb2,(if_neg hb).trans (if_pos hb2)⟩)
    ·exact .inl ((if_neg hb).trans (if_neg hb2))
  ·have ne:b≠a:=fun z=>nat (z▸hb)
   exact (if_neg ne).trans (if_pos hb)
  ·by_cases hb:b=a
   ·have z':=(if_pos hb).symm.trans z
    cases z'
    subst hb
    exact⟨ha,by rw[y14];exact hl,vs,_,rv,ha⟩
   ·by_cases hb2:b∈ts
    ·have z':=((if_neg hb).trans (if_pos hb2)).symm.trans z
     cases z'
     exact hts b hb2
    ·have z':=((if_neg hb).trans (if_neg hb2)).symm.trans z
     cases z'
  ·by_cases hb:b=a
   ·exact .inl hb
   ·by_cases hb2:b∈ts
    ·exact .inr hb2
    ·exact absurd ((if_neg hb).trans (if_neg hb2)) z
theorem zpr {l:PySem.W.OpenLaw} {n k:Nat} {q:y0r} {loose:List Str} {XP:(Str->Option Value)->Heap->Prop} {YP:World->Heap->Prop} {d:DefRec} {K:Params->y00} {CX:World->CXT} {sp:World->Sp} {x:Str} {ts:List Addr}
  (hn:l.most=some n) (hn2:n<=y0k) (hdf:d.params.defaults=[]) (hr:Room k callerA)
  (hY:∀(w:World) (h:Heap),YP w h->(K w.params).In h) (hT:∀(w:World) (h:Heap),YP w h->∀b∈ts,h.get? b=some (PySem.W.tabObj #[]))
  (hK0:∀(w:World),∀b∈ts,(K w.params).lookup b=none) (hcd:∀(w:World),∀b∈ts,∃c,PySem.W.codeHdIn (K w.params) c b=true)
  (F:∀(w:World) (mg:Str->Option Value) (fa:Addr) (h:Heap),(K w.params).In h->h.Ns y0o mg->mg d.name=some (.ref fa) ->
   ∃fd:y0b,(∀(s:y04) (u:Value),BindsTo s fd ⟨[u],[]⟩ [(x,u)]) /\
    ∀base:Heap,(K w.params).In base->base.Ns y0o mg->BM mg base->FnOk l.prog w (K w.params) mg base (CX w) k fa fd [x] (sp w))
  (hsp:∀(w:World) (H:Hp) (a:Addr) (ns:List Int),ns.length<=n->zru ts H->SqL (K w.params) H a (ns.map V.int)->sp w [.ref a] H (fun v _=>v=.bl true) fun _ _ _=>False)
  (hCX:∀(w:World) (H:Hp) (s:y04) (e:Value) (s':y04),CX w [] H s (fun _ _ _=>False) e s'->False) :
  PySem.W.WalkO q loose XP YP l.row.toRowW d [] (fun f vs=>PySem.call f vs):=by
 refine Att.attach_call hn hdf fun w s₀ s₁ mg mb fa o pm cd doc a vs ns G Y ho hd hcd' hmg hobj hints hlen hg=>?_
 have KX:=hY w _ Y
 obtain⟨fd,hb,hF⟩:=F w mg fa _ KX G.T.g hmg
 exact zo0 KX (hT w _ Y) (hK0 w) (hcd w) G.T.g G.T.b G.T.builtins G.T.nolimit hg hobj hints (y1s hlen hn2) hr G.T.bmain hF hb (fun H hO hS=>hsp w H a ns hlen hO hS) fun H e s'=>hCX w H s₁ e s'
theorem zmu {t:Tbl} {K:y00} {H:Hp} {a:Addr} {ns:List Int} {d:List T->Option T} {ts:List Addr} (hts:∀p∈t.tb,p.1∈ts) (hO:zru ts H) (hL:noL K=true) (hd:d [z0n ns]=some (.bool true)) (hS:SqL K H a (ns.map V.int)):spT K 1 d [.ref a] H (fun v _=>v=.bl true) fun _ _ _=>False:=by
 rcases hS with hS|⟨o,its,n,hk,hc,_⟩
 ·refine⟨rfl,fun b=>b=a,[z0n ns],.bool true,⟨?_,fun p hp=>⟨#[],hO.2 p.1 (hts p hp),trivial,fun pos cv e=>by cases e⟩⟩,RepL.cons ?_ RepL.nil,hd,fun v F' H' x r=>by simpa [Rep] using r⟩
  ·rintro b rfl
   rcases hS with q|⟨u,q⟩
   ·exact⟨_,q⟩
   ·exact⟨_,q⟩
  ·simp only[z0n,Rep]
   exact⟨a,_,rfl,rfl,hS,zh9 ns⟩
 ·have:=List.all_eq_true.mp hL _ (zdl hk)
  simp[hc] at this
end
section
variable [Tbl]
def z9b (f:Fe):Fx:=fun ε=>(f ε).map fun t=>(t,ε)
def op2X (o:T->T->Option T) (f g:Fx):Fx:=fun ε=>(f ε).bind fun r=>(g r.2).bind fun s=>(o r.1 s.1).map fun z=>(z,s.2)
abbrev Ftx:=Ev->Option (Bool×Ev)
def tstX (f:Fx):Ftx:=fun ε=>(f ε).bind fun r=>match r.1 with
 | .bool b=>some (b,r.2)
 | _=>none
def iffX (c:Ftx) (a b:Fs):Fs:=fun ε=>(c ε).bind fun r=>if r.1 then a r.2 else b r.2
def tTX (K:y00) (f:Ftx):TT:=fun σ H Q=>∃F₀ E O F ε b ε',RelE K F₀ E O F H ε σ/\f ε=some (b,ε')/\∀F' H',Kp K F H F' H'->RelE K F₀ E O F' H' ε' σ->Q b H'
abbrev PTx (X:Cx) (e:Expr) (f:Ftx):Prop:=PT X e (tTX X.K f)
section
variable {X:Cx} {a b e:Expr} {es:List Expr} {f g:Fx} {fe:Fe} {ft:Ft} {c d:Ftx} {pos:Pos}
theorem zk7 (h:PEv X e fe):PEx X e (z9b fe):=z0t h fun σ H Q ⟨F₀,E,O,F,ε,t,ε',r,e,k⟩=>by
 simp only[z9b,y07] at e
 obtain⟨t',et,e⟩:=e
 cases e
 exact⟨F₀,E,O,F,ε,t,r,et,fun v F' H' x rv=>k v F' H' x.kp (r.ext x) rv⟩
theorem zqo {o:T->T->Option T} {R:R2} (h:Op2 X.K o R):∀σ H Q,tX X.K (op2X o f g) σ H Q->tOp R (tX X.K f) (tX X.K g) σ H Q:=by
 rintro σ H Q ⟨F₀,E,O,F,ε,t,ε',r,e,k⟩
 simp only[op2X,y01,y07] at e
 obtain⟨⟨x,ε1⟩,ex,⟨y,ε2⟩,ey,z,eo,e⟩:=e
 cases e
 refine⟨F₀,E,O,F,ε,x,ε1,r,ex,fun vx F1 H1 kp1 r1 rx=>⟨F₀,E,O,F1,ε1,y,ε2,r1,ey,fun vy F2 H2 kp2 r2 ry=>?_⟩⟩
 exact h O F2 H2 x y t vx vy Q r2.dom (.inl (rx.kp kp2)) (.inl ry) eo fun v F' H' x3 q3=>k v F' H' ((kp1.trans kp2).trans x3.kp) (r2.ext x3) q3
theorem zpq {op:CmpOp} {R:R2} {o:T->T->Option T} (ho:OpR X (compareOp op) R) (h2:Op2 X.K o R) (ha:PEx X a f) (hb:PEx X b g) (hm:behindInMarks op b=false:=by first|exact zkt _|rfl):PTx X (.Compare a [op] [b] pos) (tstX (op2X o f g)) :=
 zec (zjj ho ha hb hm) fun σ H Q ⟨F₀,E,O,F,ε,b,ε',r,e,k⟩=>by
 simp only[tstX,y01] at e
 obtain⟨⟨t,ε1⟩,et,e⟩:=e
 split at e
 next z hz =>
  cases e
  subst hz
  refine zqo h2 σ H _ ⟨F₀,E,O,F,ε,_,_,r,et,fun v F' H' kp r' q=>?_⟩
  simp only[Rep] at q
  exact⟨_,q,k F' H' kp r'⟩
 next=>cases e
theorem zq6 {g1 g2:Fs} {rest els:List Stmt} (hc:PTx X e c) (ha:PBt X rest g1) (hb:PBt X els g2):PSt X (.If e rest els pos) (iffX c g1 g2):=z2r (zqg hc ha hb) fun D σ H ⟨F₀,E,O,F,ε,o,r,e,k⟩=>by
 simp only[iffX,y01] at e
 obtain⟨⟨z,ε1⟩,ec,e⟩:=e
 refine⟨F₀,E,O,F,ε,z,ε1,r,ec,fun F1 H1 kp1 r1=>?_⟩
 cases z with
 | true=>exact iteT ⟨F₀,E,O,F1,ε1,o,r1,by simpa using e,k.kp kp1⟩
 | false=>exact iteF ⟨F₀,E,O,F1,ε1,o,r1,by simpa using e,k.kp kp1⟩
end
end
section
variable [Tbl]
section
variable {X:Cx} {a b:Expr} {f g:Fo} {pos:Pos}
end
end
section
variable [Tbl]
theorem zuw {P:y0r} {w:World} {K:y00} {mg:Str->Option Value} {base:Heap} {x qual:Str} {st:Stmt} {f:Addr} {oc:Value} {od an:Option Addr} {osl:Array (Option Value)} {kV doc pm cdv ct:Value} {N ps:List Str} {k:Nat} {b:Fs}
  (l:K.lookup f=some ⟨oc,od,.func (y0j x qual (z5p st) (z0o st) (z01 st) .none kV doc pm an cdv ct),osl⟩) (hcd:y0g K cdv qual=true) (S:FnScope N ps (z01 st))
  (hb:∀(A:Around) (outer:List Env) (s:y04) (H:Hp) (E:XK),Room k (A.deeper (envOfC qual (z01 st) s.heap.objs.size f cdv)) ->
   PBt (cxOf CX0 P w K mg base N qual (z01 st) f cdv A outer s H E).nox (z0o st) b) :
  FnOk P w K mg base CX0 (k+1) f (y0j x qual (z5p st) (z0o st) (z01 st) .none kV doc pm an cdv ct) ps (spT K ps.length (runF b N.length)):=by
 refine zux l hcd S (fun vs H Q E h=>h.1) fun A outer s H vs Q E hr h=>⟨_,(hb A outer s H E hr).nox,?_⟩
 obtain⟨hl,F,ts,t,dom,q,e,kq⟩:=h
 simp only[runF,y01] at e
 obtain⟨o,eo,e⟩:=e
 refine⟨F,⟨H,0⟩,fun a=>H a=none,F,_,o,?_,eo,?_⟩
 ·have:=zbc (N:=N) dom q (N.length - ts.length)
  unfold L2.start
  rw[q.length] at this ⊢
  exact this
 ·cases o with
  | rt t' =>
   cases e
   exact fun v F' H' x q=>kq v F' H' x q
  | nx ε' =>
   cases e
   exact fun σ' F' H' _ r=>kq _ F' H' r.ent (by simp[Rep])
  | bk _=>cases e
  | ct _=>cases e
  | rtm _ _=>cases e
  | rto _=>cases e
end
section
abbrev tOf (tb:List (Addr×Str)):Tbl:=⟨tb,fun _=>[],fun _=>none⟩
theorem zuy {t:Tbl} {tb:List (Addr×Str)} (ht:t.tb=tb) {P:y0r} {w:World} {K:y00} {mg:Str->Option Value} {base:Heap} {k n:Nat} {f:Addr} {fd:y0b} {ps:List Str} {d:List T->Option T} (F:FnOk P w K mg base CX0 k f fd ps (@spT t K n d)):FnOk P w K mg base CX0 k f fd ps (@spT (tOf tb) K n d):=by
 subst ht
 have d1:∀{F:Addr->Prop} {H:Hp},@Dom (tOf t.tb) F H->@Dom t F H:=fun {F H} h=>@Dom.mk t F H (@Dom.dm (tOf t.tb) F H h) (@Dom.tgs (tOf t.tb) F H h)
 have d2:∀{F:Addr->Prop} {H:Hp},@Dom t F H->@Dom (tOf t.tb) F H:=fun {F H} h=>@Dom.mk (tOf t.tb) F H (@Dom.dm t F H h) (@Dom.tgs t F H h)
 refine F.imp fun vs H Q E h=>?_
 obtain⟨hl,F,ts,r,dom,q,e,kq⟩:=h
 exact⟨hl,F,ts,r,d1 dom,q,e,fun v F' H' x rv=>kq v F' H' (@Ext.mk (tOf t.tb) F H F' H' (@Ext.same t F H F' H' x) (@Ext.sub t F H F' H' x) (@Ext.new t F H F' H' x) (d2 (@Ext.dom t F H F' H' x))) rv⟩
end
end D
end
section
namespace D
open PySem PySem.Spec PySem.Calls PySem.W PyProof.Rows PySem.Builtin PySem.Builtin.ObjectAttr PySem.Builtin.Getset_descriptor
def z7p (x C:Addr) (h:Heap):Prop:=∃o vs,h.get? x=some o/\o.cls=.ref C/\o.data=.fields vs
structure ExcOk (K:Frag) (C:Addr):Prop where
 cl:(clsIn K C).isSome=true
 ga:findIn K (.ref C) "__getattribute__"=some (some (.builtin "BaseException.__getattribute__"))
 gn:findIn K (.ref C) "__getattr__"=some none
 at_:findIn K (.ref C) "__class__"=some (some (.builtin "object.__class__"))
 sp:specialIn K (.builtin "object.__class__") "__get__"=some (some (.builtin "getset_descriptor.__get__"))
 tk:takesIn K (.builtin "object.__class__")=some true
 mo:mroIn K C (.type "object")=some true
 mb:mroIn K C (.type "BaseException")=some true
section
variable {prog:y0r} {w:World} {A:Around} {E:Value->y04->Prop} {s:y04} {K:Frag} {x C:Addr} {R:Result->y04->Prop}
theorem z7p.type {M:Model} {h:Heap} (I:z7p x C h):Looks M h (typeOf (.ref x)) (.ref C):=by
 obtain⟨o,vs,h1,h2,h3⟩:=I
 exact h2▸(Looks.ld h1).andThen .now
theorem zuz {tp:Value} (X:K.In s.heap) (I:z7p x C s.heap) (hm:mroIn K C (.type "object")=some true)
  (h:R (.ok (.ret (.ref C))) s):codeAny (model prog w) A (.call (.builtin "getset_descriptor.__get__") ⟨[.builtin "object.__class__",.ref x,tp],[]⟩) R s:=by
 obtain⟨hh,g,dr,t,os⟩:=s
 have L0:=I.type (M:=model prog w)
 have L1:=looks_mroIn (M:=model prog w) X hm
 refine codeAny_call_builtin KF.slot_gs.plain KF.entry_gs (KF.slot_gs.check _ _ _ _ _ _ _ _ KF.type_class (KF.args_gs _ _ _) ?_)
 unfold Builtin.«getset_descriptor.__get__» descrGet
 rw[dga_obj]
 refine y02 (y06 ?_)
 unfold descrGetter descrCheckInstance descrNameAndClass isInstance
 simp only[KF.owner_class]
 obtain⟨o,vs,h1,h2,h3⟩:=I
 repeat lk
 refine⟨Code.quiet_builtin _ (by decide +kernel),codeAny_builtin KF.entry_class ?_⟩
 unfold Builtin.«object.__class__» shownTypeOf
 repeat lk
 exact h
theorem zrd {M:Model} {h:Heap} (X:K.In h) (O:ExcOk K C):Looks M h (find (.ref x) (.ref C) "__class__") (.bind (.builtin "getset_descriptor.__get__") (.builtin "object.__class__")):=by
 have L1:=looks_findIn (M:=M) X O.at_
 have L2:Looks M h (getOf (some (.builtin "object.__class__"))) (some (.builtin "getset_descriptor.__get__")):=looks_specialIn X O.sp
 have L3:=looks_takesIn (M:=M) X O.tk
 refine L1.andThen (L2.andThen ?_)
 exact (show Looks M h (dataDescriptor? (some (.builtin "object.__class__")) (some (.builtin "getset_descriptor.__get__"))) (some (.builtin "getset_descriptor.__get__",.builtin "object.__class__")) from L3.andThen .now).andThen (Looks.tag .now)
theorem zos {tk:Tok} {Q:Fin->y04->Prop} (X:K.In s.heap) (I:z7p x C s.heap) (O:ExcOk K C) (hq:Q (.done (.ret (.ref C))) s) :
  y0u (model prog w) A (Builtin.«object.__getattribute__» ⟨[.ref x,.str "__class__" tk],[]⟩) Q E s:=by
 obtain⟨hh,g,dr,t,os⟩:=s
 have L0:=I.type (M:=model prog w)
 have L1:=zrd (x:=x) (M:=model prog w) X O
 unfold Builtin.«object.__getattribute__»
 refine y02 (y06 (a:=(Value.ref x,[Value.str "__class__" tk])) (y02 (y06 (a:=("__class__":Str)) ?_)))
 refine y02 (L0.at (y02 (L1.at ?_)))
 show y0u _ _ (holding [Value.builtin "object.__class__"] (call (Value.builtin "getset_descriptor.__get__") [Value.builtin "object.__class__",Value.ref x,Value.ref C]) >>= ret) _ _ _
 exact y02 (wpAny_holding (wpAny_call (zuz X I O.mo (y06 hq))))
theorem zou {M:Model} {tk:Tok} {Q:Unit->y04->Prop} (X:K.In s.heap) (I:z7p x C s.heap) (O:ExcOk K C) (hq:Q () s) :
  y0u M A (checkBuiltinCall "BaseException.__getattribute__" ⟨[.ref x,.str "__class__" tk],[]⟩) Q E s:=by
 obtain⟨hh,g,dr,t,os⟩:=s
 have L0:=I.type (M:=M)
 have L1:=looks_mroIn (M:=M) X O.mb
 have LI:Looks M hh (isInstance (.ref x) (.type "BaseException")) true:=L0.andThen L1
 have hsplit:splitId "BaseException.__getattribute__"=some ("BaseException","__getattribute__"):=by decide +kernel
 have hk:builtinKind "BaseException.__getattribute__"=some .slot:=by decide +kernel
 have ha:=PySem.F.args_bexc_ga (.ref x) (.str "__class__" tk)
 simp only[checkBuiltinCall,hk,hsplit]
 refine y02 (LI.at ?_)
 simp only[Bool.not_true,y1w,if_false]
 cases hsig:Manifest.signature? "BaseException.__getattribute__" with
 | none=>exact y06 hq
 | some sig =>
  simp only[argsOk,hsig] at ha
  have h2:Bind.checkArgs "BaseException.__getattribute__" sig ⟨[.ref x,.str "__class__" tk],[]⟩=pure ():=ha
  show y0u M A (Bind.checkArgs "BaseException.__getattribute__" sig ⟨[.ref x,.str "__class__" tk],[]⟩) Q E _
  rw[h2]
  exact y06 hq
theorem zot {Q:Option Value->y04->Prop} (X:K.In s.heap) (I:z7p x C s.heap) (O:ExcOk K C) (hq:Q (some (.ref C)) { s with toks:=s.toks+1 }) :
  y0u (model prog w) A (getAttr? (.ref x) "__class__") Q E s:=by
 obtain⟨hh,g,dr,t,os⟩:=s
 have L0:=I.type (M:=model prog w)
 have L1:=looks_findIn (M:=model prog w) X O.ga
 have L2:=looks_findIn (M:=model prog w) X O.gn
 unfold getAttr? getAttrBy? getAttrBy
 refine y02 (wpAny_mkText (y02 (wpAny_attempt (wpAny_holding (y02 (L0.at (y02 (L1.at ?_))))))))
 show y0u _ _ (getAttrByItsOwn _ _ _ _ _ _) _ _ _
 unfold getAttrByItsOwn
 refine y02 (L2.at ?_)
 refine y02 (wpAny_attempt (wpAny_holding ?_))
 show y0u _ _ (boundAndCalled _ _ _) _ _ _
 unfold boundAndCalled
 rw[PySem.F.excAttr_ValueError.ga.bind]
 refine y02 (y06 ?_)
 refine wpAny_call (codeAny_call_builtin PySem.F.excAttr_ValueError.ga.plain PySem.F.entry_bexc_ga (zou X I O (zos X I O ?_)))
 exact y06 (y06 hq)
theorem zr2 (O:ExcOk K C):KitX K (.ref x) (.ref C) (z7p x C) where
 ty:=fun _ _ _ I=>I.type
 it:=fun _ _ X _=>by
  have hcD:=O.cl
  unfold clsIn at hcD
  split at hcD
  ·rename_i c' d' cd' sl' ho
   intro A' Q' E' s' k q
   unfold isType loadHead
   exact y02 (wpAny_loadPart (k _ _ (X _ _ ho)) (y06 q))
  ·cases hcD
 ne:=fun h tp dd its n sl X htp=>by
  have hcD:=O.cl
  refine Bool.eq_false_iff.mpr fun q=>?_
  have e:C=tp:=Value.ref.inj (beq_iff_eq.mp q)
  subst e
  unfold clsIn at hcD
  split at hcD
  ·rename_i c' d' cd' sl' ho
   have z:=(X _ _ ho).symm.trans htp
   cases z
  ·cases hcD
 ca:=fun X I k=>zot X I O k
end
end D
end
section
namespace D
open PySem PySem.Spec PyProof.Rows L2
section
structure FlownAt (P:y0r) (w:World) (outer:List Env) (H:Hp) (s:y04) (C:Addr) (H':Hp) (ea:Addr) (a0:Value) (B:Heap) (s':y04):Prop where
 os:s'.os=s.os
 bare:AllBare s'.gens
 fly:Heap.FlyingW B outer ea (.ref C) a0 s'.heap
 hok:HOk P w H' B
 un:Un (frs outer) [] H H' s.heap s'.heap
 cov:∀b o,s.heap.get? b=some o->H b=none->b∉frs outer->B.get? b=some o
 thr:∀b o,s.heap.get? b=some o->b∉frs outer->∃o',B.get? b=some o'
def zrv (P:y0r) (w:World) (outer:List Env) (H:Hp) (s:y04) (C:Addr) (H':Hp) (e:Value) (s':y04):Prop:=∃ea a0 B,e=.ref ea/\FlownAt P w outer H s C H' ea a0 B s'
def CXR (P:y0r) (w:World):CXT:=fun outer H s E e s'=>∃C H',zrv P w outer H s C H' e s'/\E (.ref C) none H'
noncomputable def zt3 (X:Cx) (H:Hp) (s:y04) (C:Addr) (H':Hp) (e:Value) (s':y04):Prop :=
 (H'=H/\∃ea args h2,e=.ref ea/\s'={ s with heap:=h2 }/\Heap.MadeExcOf s.heap h2 ea (.ref C) args)\/zrv X.prog X.w X.stack H s C H' e s'
def XeOk (X:Cx) (C:Addr) (H':Hp):Prop:=∀(pins:List (Addr×Obj)) (σ:L2.St) (H:Hp) (s:y04) (e:Value) (s':y04),Inv X pins σ H s->zt3 X H s C H' e s'->X.xe e s'
theorem zfj {h h' base:Heap} {l:List Env} {b:Addr} {o:Obj} (F:h.FunFrames base l) (hb:b∈frs l) (e:h.get? b=some o) (k:h.UpToSlots h'):∃sl,h'.get? b=some { o with slots:=sl }:=by
 obtain⟨_,o',e',hd⟩:=F.mem hb
 rw[e] at e'
 cases e'
 exact k b o e hd
theorem FlownAt.on {P:y0r} {w:World} {outer:List Env} {H H':Hp} {s s':y04} {C ea:Addr} {a0:Value} {B h6:Heap} (x:FlownAt P w outer H s C H' ea a0 B s') (st:B.StaysIn h6) (k:s'.heap.UpToSlots h6) :
  Un (frs outer) [] H H' s.heap h6/\HOk P w H' h6:=by
 refine⟨⟨fun b o e n f _=>st _ _ (x.cov b o e n f),fun b o e n f hx=>?_,fun b o e n hx=>x.un.free b o e n hx,fun b o e hx=>?_,x.un.tups,x.un.frzs,x.un.tbls⟩,x.hok.kept st⟩
 ·obtain⟨sl,e1⟩:=x.un.slot b o e n f hx
  obtain⟨sl2,e2⟩:=zfj x.fly.2.2.1 f e1 k
  exact⟨sl2,e2⟩
 ·by_cases f:b∈frs outer
  ·obtain⟨o',e1⟩:=x.un.there b o e hx
   obtain⟨sl2,e2⟩:=zfj x.fly.2.2.1 f e1 k
   exact⟨_,e2⟩
  ·obtain⟨o',e1⟩:=x.thr b o e f
   exact⟨o',st _ _ e1⟩
theorem zup {P:y0r} {w:World} {H:Hp} {h:Heap} {as:List Addr} (x:HOk P w H h) (n:∀b∈as,H b=none):HOk P w H (PySem.W.hideAll h as):=fun a o e =>
 z5g.stay (x a o e) (fun b u hb q=>PySem.W.hideAll_get _ q fun m=>by
  have z:=n b m
  rcases hb with rfl|hb
  ·rw[e] at z;cases z
  ·rw[hb] at z;cases z) (fun b hb=>hb) fun b xs hb=>hb
section
variable {X:Cx} {pins:List (Addr×Obj)} {σ:L2.St} {H1 H':Hp} {s1 s2:y04} {C:Addr} {e:Value} {env:Env} {outer:List Env} {E:XK}
theorem zk6 (I:Inv X pins σ H1 s1) (t:zt3 X H1 s1 C H' e s2) (hE:E (.ref C) none H') {Z:Value->y04->Prop} (hst:X.stack=env::outer:=by rfl) (hou:X.outer=outer:=by rfl) (hex:X.ex=[]:=by rfl) (hf:env.frame=some X.env.locals:=by rfl) :
  y0u (model X.prog X.w) X.A (leaving env e) (fun _ s''=>CXR X.prog X.w outer X.H₀ X.s₀ E e s'') Z s2:=by
 have hfs:X.fs=frs outer:=by unfold Cx.fs;rw[hou]
 have hfr:=I.ok.frames
 rw[hst] at hfr
 have un0:=I.base
 rw[hfs,hex] at un0
 have nx:∀b:Addr,b∉([]:List Addr):=fun b z=>absurd z (by simp)
 have notL:∀b o,X.s₀.heap.get? b=some o->b∉frs outer->b∉frs (env::outer):=fun b o e0 n m=>by
  obtain⟨en,he,hf'⟩:=List.mem_filterMap.mp m
  rcases y09.mp he with rfl|he
  ·rw[hf] at hf'
   cases hf'
   exact absurd (y0c e0) (Nat.not_lt.mpr I.ok.above)
  ·exact n (List.mem_filterMap.mpr ⟨en,he,hf'⟩)
 have stk:=I.stack
 rw[hst] at stk
 rcases t with ⟨eH,ea,args,h2,ee,es,mk⟩|⟨ea,a0,B,ee,fl⟩
 ·subst eH ee es
  have hin:∀en∈(env::outer),∀b,en.frame=some b->b∈frs (env::outer):=fun en he b hb=>List.mem_filterMap.mpr ⟨en,he,hb⟩
  refine wpAny_leaves_madeW (base:=PySem.W.hideAll s1.heap (frs (env::outer))) hfr hf (fun b o q=>PySem.W.of_hideAll _ q) (PySem.W.funFrames_hide stk hin) mk fun h' t x1 x2 x3 x4=>?_
  have fr0:=I.stkFree
  rw[hst] at fr0
  have cov:∀b o,X.s₀.heap.get? b=some o->X.H₀ b=none->b∉frs outer->(PySem.W.hideAll s1.heap (frs (env::outer))).get? b=some o:=fun b o e0 n f=>PySem.W.hideAll_get _ (un0.keep b o e0 n f (nx b)) (notL b o e0 f)
  have thr:∀b o,X.s₀.heap.get? b=some o->b∉frs outer->∃o',(PySem.W.hideAll s1.heap (frs (env::outer))).get? b=some o':=fun b o e0 f=>by
   obtain⟨o',e1⟩:=un0.there b o e0 (nx b)
   exact⟨o',PySem.W.hideAll_get _ e1 (notL b o e0 f)⟩
  have sl:∀b o,s1.heap.get? b=some o->b∈frs outer->∃sl,h'.get? b=some { o with slots:=sl }:=fun b o e1 f=>by
   have F2:s1.heap.FunFrames X.base (env::outer):=stk
   obtain⟨_,o',e',hd⟩:=F2.mem (b:=b) (by
    obtain⟨en,he,hf'⟩:=List.mem_filterMap.mp f
    exact List.mem_filterMap.mpr ⟨en,y05 _ he,hf'⟩)
   rw[e1] at e'
   cases e'
   exact x4 b o (mk.keeps b o e1) hd
  refine⟨C,_,⟨ea,_,_,rfl,⟨I.os,I.bare,x1,zup I.hok fr0,⟨fun b o e0 n f _=>x1.1 _ _ (cov b o e0 n f),fun b o e0 n f _=>?_,fun b o e0 n _=>un0.free b o e0 n (nx b),fun b o e0 _=>?_,un0.tups,un0.frzs,un0.tbls⟩,cov,thr⟩⟩,hE⟩
  ·obtain⟨sl1,e1⟩:=un0.slot b o e0 n f (nx b)
   obtain⟨sl2,e2⟩:=sl b _ e1 f
   exact⟨sl2,e2⟩
  ·by_cases f:b∈frs outer
   ·obtain⟨o',e1⟩:=un0.there b o e0 (nx b)
    obtain⟨sl2,e2⟩:=sl b _ e1 f
    exact⟨_,e2⟩
   ·obtain⟨o',e1⟩:=thr b o e0 f
    exact⟨o',x1.1 _ _ e1⟩
 ·subst ee
  rw[hst] at fl
  refine wpAny_leaves_onW hfr hf fl.fly fun h' x1 x2=>?_
  have on:=fl.on x1.1 x2
  have cov:∀b o,X.s₀.heap.get? b=some o->X.H₀ b=none->b∉frs outer->B.get? b=some o:=fun b o e0 n f=>fl.cov b o (un0.keep b o e0 n f (nx b)) (un0.free b o e0 n (nx b)) (notL b o e0 f)
  have thr:∀b o,X.s₀.heap.get? b=some o->b∉frs outer->∃o',B.get? b=some o':=fun b o e0 f=>by
   obtain⟨o',e1⟩:=un0.there b o e0 (nx b)
   exact fl.thr b o' e1 (notL b o e0 f)
  have up:∀b,b∈frs outer->b∈frs (env::outer):=fun b f=>by
   obtain⟨en,he,hf'⟩:=List.mem_filterMap.mp f
   exact List.mem_filterMap.mpr ⟨en,y05 _ he,hf'⟩
  refine⟨C,_,⟨ea,_,B,rfl,⟨fl.os.trans I.os,fl.bare,x1,fl.hok,⟨fun b o e0 n f _=>x1.1 _ _ (cov b o e0 n f),fun b o e0 n f _=>?_,fun b o e0 n _=>?_,fun b o e0 _=>?_,fun b xs q=>on.1.tups _ _ (un0.tups _ _ q),fun b o u q=>on.1.frzs _ _ _ (un0.frzs _ _ _ q),fun b ps q=>?_⟩,cov,thr⟩⟩,hE⟩
  ·obtain⟨sl1,e1⟩:=un0.slot b o e0 n f (nx b)
   obtain⟨sl2,e2⟩:=on.1.slot b _ e1 (un0.free b o e0 n (nx b)) (up b f) (nx b)
   exact⟨sl2,e2⟩
  ·obtain⟨sl1,e1⟩:=un0.any e0 n (nx b)
   exact on.1.free b _ e1 (un0.free b o e0 n (nx b)) (nx b)
  ·obtain⟨o',e1⟩:=un0.there b o e0 (nx b)
   exact on.1.there b o' e1 (nx b)
  ·obtain⟨m1,q1⟩:=un0.tbls b ps q
   obtain⟨m2,q2⟩:=on.1.tbls b _ q1
   exact⟨m1++m2,by rw[q2,Array.append_assoc]⟩
theorem zg7 (h:∀C H',E (.ref C) none H'->XeOk X C H'):zc4 (CXR X.prog X.w) X E:=fun pins σ H s e s' I ⟨C,H',fl,hE⟩=>h C H' hE pins σ H s e s' I (.inr fl)
end
end
section
variable [Tbl]
abbrev Fz:=Ev->Bool
def tEZ (X:Cx) (C:Addr) (r:Fz):TE:=fun σ H _=>∃F₀ E O F ε,RelE X.K F₀ E O F H ε σ/\r ε=true/\∀F' H',Ext F H F' H'->XeOk X C H'
def tSZ (X:Cx) (C:Addr) (r:Fz):TS:=fun _ σ H=>∃F₀ E O F ε,RelE X.K F₀ E O F H ε σ/\r ε=true/\∀F' H',Ext F₀ E.h F' H'->XeOk X C H'
abbrev PEz (X:Cx) (C:Addr) (e:Expr) (r:Fz):Prop:=PE X e (tEZ X C r)
abbrev PSz (X:Cx) (C:Addr) (s:Stmt) (r:Fz):Prop:=PS X s (tSZ X C r)
abbrev PBz (X:Cx) (C:Addr) (s:List Stmt) (r:Fz):Prop:=PSs X s (tSZ X C r)
def noZ:Fz:=fun _=>false
def seqZ (b:Fs) (r:Fz):Fz:=fun ε=>match b ε with
 | some (.nx ε')=>r ε'
 | _=>false
def iffZ (c:Ft) (a b:Fz):Fz:=fun ε=>match c ε with
 | some true=>a ε
 | some false=>b ε
 | none=>false
def okZ (f:Fe):Fz:=fun ε=>(f ε).isSome
theorem PS.nox {X:Cx} {st:Stmt} {t:TS} (h:PS X.nox st t):PS X st t:=fun pins s σ H D I hw =>
 y1e (h pins s σ H D (I.wish _) hw) (fun _ _ q=>q.unwish) fun _ _ z=>y20 z
theorem PA.nox {X:Cx} {es:List Expr} {t:TA} (h:PA X.nox es t):PA X es t:=fun pos pins s σ H Q I hw =>
 y1e (h pos pins s σ H Q (I.wish _) hw) (fun _ _ ⟨v,H',I',r,q⟩=>⟨v,H',I'.unwish,r,q⟩) fun _ _ z=>y20 z
section
variable {X:Cx} {C:Addr} {e c:Expr} {st:Stmt} {rest els:List Stmt} {r r':Fz} {b:Fs} {ft:Ft} {pos:Pos}
theorem z_no {l:List Stmt}:PBz X C l noZ:=fun pins s σ H D I h=>by
 obtain⟨_,_,_,_,_,_,e,_⟩:=h
 cases e
theorem z_1 (h:PSz X C st r):PBz X C (st::rest) r:=zed (z73 (u:=fun _ _ _=>False) h fun _ _ _ _ _ _ z=>z.elim) fun D σ H q=>q
theorem z_n (h1:PSt X.nox st b) (h2:PBz X C rest r):PBz X C (st::rest) (seqZ b r):=zed (z73 (PS.nox h1) h2) fun D σ H ⟨F₀,E,O,F,ε,rl,e,k⟩=>by
 unfold seqZ at e
 split at e
 next ε' hb=>exact⟨F₀,E,O,F,ε,_,rl,hb,fun σ' F' H' kp r2=>⟨F₀,E,O,F',ε',r2,e,k⟩⟩
 next=>cases e
theorem z_if (hc:PTt X.nox c ft) (ha:PBz X C rest r) (hb:PBz X C els r'):PSz X C (.If c rest els pos) (iffZ ft r r'):=z2r (zqg hc.nox ha hb) fun D σ H ⟨F₀,E,O,F,ε,rl,e,k⟩=>by
 unfold iffZ at e
 split at e
 next hx=>exact⟨F₀,E,O,F,ε,true,rl,hx,fun F' H' x=>iteT ⟨F₀,E,O,F',ε,rl.ext x,e,k⟩⟩
 next hx=>exact⟨F₀,E,O,F,ε,false,rl,hx,fun F' H' x=>iteF ⟨F₀,E,O,F',ε,rl.ext x,e,k⟩⟩
 next=>cases e
theorem zxp {σ:L2.St} {H:Hp} {D:Ends} {Q:VK} (h:tSZ X C r D σ H):tEZ X C r σ H Q:=by
 obtain⟨F₀,E,O,F,ε,rl,e,k⟩:=h
 exact⟨F₀,E,O,F,ε,rl,e,fun F' H' x=>k F' H' (rl.ent.trans x)⟩
theorem zmm (h:PEz X C e r) (hs:swapsWith e none pos.line X.env=pure false:=by rfl):PSz X C (.Expr e pos) r:=z2r (zbe h hs) fun D σ H q=>zxp q
end
abbrev bmV:List Value:=[.type "ValueError",.type "Exception",.type "BaseException",.type "object"]
theorem zu7 {K:y00} {h:Heap} {C:Addr} {bmB:List Value} {newId:String} (X:K.In h) (q:PySem.W.excIn K C bmB newId=true) :
  ∃bm N nm q bs hdct sn sub ab col dd k0 k1 k2 k3 k5 mN,h.get? C=some (excClassObj nm q C N bs bm hdct sn sub ab col dd k0 k1 k2 k3 k5 newId)/\h.Ns N mN/\mN "__init__"=none/\OwnTail h bmB bm:=by
 unfold PySem.W.excIn at q
 split at q
 ·rename_i dd cd sl ho
  split at q
  ·rename_i C' bm k0 k1 k2 k3 n k5 hm hs
   simp only[y1c,beq_iff_eq,Bool.not_eq_true'] at q
   obtain⟨⟨⟨⟨⟨rfl,rfl⟩,hdel⟩,ht⟩,hok⟩,hni⟩:=q
   obtain⟨nm,bs,mro,ns,qn,hd,sn,sub,ab,col,del⟩:=cd
   dsimp only at hm hdel hok hni
   subst hm hdel
   have hsl:sl=#[k0,k1,k2,k3,some (.builtin n),k5]:=by
    obtain⟨l⟩:=sl
    simp only at hs
    rw[hs]
   subst hsl
   exact⟨bm,ns,nm,qn,bs,hd,sn,sub,ab,col,dd,k0,k1,k2,k3,k5,_,X _ _ ho,.of_isNs (PySem.W.isNs_of_in X hok),PySem.W.nsMap_none_of_in X hok hni,PySem.W.tail_of_in X ht⟩
  ·cases q
 ·cases q
theorem zml {X:Cx} {C:Addr} {x:Str} {e:Expr} {f:Fe} {np cpos pos:Pos} (hm:X.mg x=some (.ref C)) (hx:PySem.W.excIn X.K C bmV "ValueError.__new__"=true) (he:PEv X.nox e f) (hh:X.A.handled=none)
  (hg:Gl X x:=by rfl) (hs:y0a [e] X.env=(false,eval e X.env)::y0a [] X.env:=by rfl) (hd:(x == ("__debug__":Str))=false:=by decide) :
  PSz X C (.Raise (some (.Call (.Name x np) [e] [] cpos)) none pos) (okZ f):=by
 intro pins s σ H D I ⟨F₀,E,O,F,ε,rl,ef,k⟩
 obtain⟨t,et⟩:=Option.isSome_iff_exists.mp ef
 obtain⟨bm,N,nm,q,bs,hdct,sn,sub,ab,col,dd,k0,k1,k2,k3,k5,mN,hC,hN,hni,TL⟩:=zu7 I.ok.mod.kin hx
 refine wpAny_Raise_call_subT (C:=C) (nm:=nm) (q:=q) (N:=N) (bs:=bs) (bm:=bm) (hdct:=hdct) (sn:=sn) (sub:=sub) (ab:=ab) (col:=col) (dd:=dd) (k0:=k0) (k1:=k1) (k2:=k2) (k3:=k3) (k5:=k5) (mN:=mN)
  PySem.F.excBase_ValueError (TL.hasType PySem.F.excBase_ValueError.hasBase) hh (by rw[hs];rfl) hni (z9y I hg hm ⟨rfl,?_⟩ hd)
 have ha:PA X [e] (z6h (tV X.K f) tNil):=z0r (PE.nox he) z38 hs
 have h0:=ha cpos pins s σ H (fun vs H1=>∃v,vs=[v]/\XeOk X C H1) I ⟨F₀,E,O,F,ε,t,rl,et,fun v F' H' x _=>⟨v,rfl,k F' H' (rl.ent.trans x)⟩⟩
 rw[hs] at h0 ⊢
 refine Calls.evalArgs_plain (y1e h0 (fun us s₂ ⟨vs,H1,I1,r1,v,ev,kx⟩=>⟨rfl,?_,?_,?_,?_,fun h' ea mk=>?_⟩) fun _ _ y=>y)
 ·have:=r1.length
  rw[ev] at this
  show us.length<=y0k
  rw[<- this]
  show 1<=y0k
  decide
 ·exact I1.bk _ _ hC
 ·exact hN.keeps I1.bk
 ·exact TL.keeps I1.bk
 ·exact kx pins σ H1 s₂ (.ref ea) _ I1 (.inl ⟨rfl,ea,_,h',rfl,rfl,mk⟩)
noncomputable def spZ (K:y00) (n:Nat) (C:Addr) (r:List Sl->Bool):Sp:=fun vs H _ E=>vs.length=n/\∃F ss,Dom F H/\zpm K F H ss vs/\r ss=true/\∀F' H',Ext F H F' H'->E (.ref C) none H'
def runZ (r:Fz) (n:Nat):List Sl->Bool:=fun ss=>r (z58 n ss)
structure ClZ (P:y0r) (w:World) (K:y00) (mg:Str->Option Value) (base:Heap) (x:Str) (C:Addr) (k n:Nat) (r:List Sl->Bool):Prop where
 ex:∃fa fd ps,FnOk P w K mg base (CXR P w) k fa fd ps (spZ K n C r)/\mg x=some (.ref fa)/\y08 K (.ref fa)=true/\z3d K fd ps []
structure MtZ (P:y0r) (w:World) (K:y00) (mg:Str->Option Value) (base:Heap) (CO:Addr) (m:Str) (C:Addr) (k n:Nat) (r:List Sl->Bool):Prop where
 ex:∃fa fd ps,FnOk P w K mg base (CXR P w) k fa fd ps (spZ K n C r)/\Meth K CO m fa/\z3d K fd ps []
section
variable {P:y0r} {w:World} {K:y00} {mg:Str->Option Value} {base:Heap}
theorem ClZ.mono {x:Str} {C:Addr} {k n j:Nat} {r:List Sl->Bool} (c:ClZ P w K mg base x C j n r) (h:j<=k):ClZ P w K mg base x C k n r:=by
 obtain⟨fa,fd,ps,F,q⟩:=c.ex
 exact⟨fa,fd,ps,F.mono h,q⟩
theorem MtZ.mono {CO C:Addr} {m:Str} {k n j:Nat} {r:List Sl->Bool} (c:MtZ P w K mg base CO m C j n r) (h:j<=k):MtZ P w K mg base CO m C k n r:=by
 obtain⟨fa,fd,ps,F,q⟩:=c.ex
 exact⟨fa,fd,ps,F.mono h,q⟩
theorem zop {x qual:Str} {st:Stmt} {f C:Addr} {fd:y0b} {N ps:List Str} {k:Nat} {r:Fz} (F:Fun K x qual st f fd) (S:FnScope N ps (z01 st))
  (hb:∀(cdv:Value) (A:Around) (outer:List Env) (s:y04) (H:Hp) (E:XK),Room k (A.deeper (envOfC qual (z01 st) s.heap.objs.size f cdv)) ->
   PBz (cxOf (CXR P w) P w K mg base N qual (z01 st) f cdv A outer s H E) C (z0o st) r) :
  FnOk P w K mg base (CXR P w) (k+1) f fd ps (spZ K ps.length C (runZ r N.length)):=by
 obtain⟨oc,od,kV,doc,pm,an,cdv,ct,osl,rfl,lk,hcd⟩:=F.ex
 refine zux lk hcd S (fun vs H Q E h=>h.1) fun A outer s H vs Q E hr h=>⟨_,hb cdv A outer s H E hr,?_⟩
 obtain⟨hl,F,ss,dom,q,e,kq⟩:=h
 refine⟨F,⟨H,0⟩,fun a=>H a=none,F,_,?_,e,fun F' H' x=>?_⟩
 ·unfold L2.start
  exact zcy dom q N.length
 ·intro pins σ H1 s1 e1 s2 I t
  refine y1e (zk6 (X:=cxOf (CXR P w) P w K mg base N qual (z01 st) f cdv A outer s H E) (E:=E) (Z:=fun _ _=>False) I t (kq F' H' x)) (fun _ _ z=>z) fun _ _ z=>z.elim
theorem zxf {x:Str} {C:Addr} {st:Stmt} {f:Addr} {fd:y0b} {N ps:List Str} {k:Nat} {r:Fz} (F:Fun K x x st f fd) (S:FnScope N ps (z01 st)) (bd:z3d K fd ps []) (m:mg x=some (.ref f))
  (hb:∀(cdv:Value) (A:Around) (outer:List Env) (s:y04) (H:Hp) (E:XK),Room k (A.deeper (envOfC x (z01 st) s.heap.objs.size f cdv)) ->
   PBz (cxOf (CXR P w) P w K mg base N x (z01 st) f cdv A outer s H E) C (z0o st) r):ClZ P w K mg base x C (k+1) ps.length (runZ r N.length):=⟨f,fd,ps,zop F S hb,m,F.kp,bd⟩
theorem zkw {CO C:Addr} {m qual:Str} {st:Stmt} {f:Addr} {fd:y0b} {N ps:List Str} {k:Nat} {r:Fz} (F:Fun K m qual st f fd) (S:FnScope N ps (z01 st)) (bd:z3d K fd ps []) (me:Meth K CO m f)
  (hb:∀(cdv:Value) (A:Around) (outer:List Env) (s:y04) (H:Hp) (E:XK),Room k (A.deeper (envOfC qual (z01 st) s.heap.objs.size f cdv)) ->
   PBz (cxOf (CXR P w) P w K mg base N qual (z01 st) f cdv A outer s H E) C (z0o st) r):MtZ P w K mg base CO m C (k+1) ps.length (runZ r N.length):=⟨f,fd,ps,zop F S hb,me,bd⟩
end
def zrm (r:List Sl->Bool) (as:List Ag):Fz:=fun ε=>match agsE as ε with
 | some ss=>r (ss.map roS)
 | none=>false
def z4y (c:Nat) (r:List Sl->Bool) (i:Nat) (fs:List Fe):Fz:=fun ε=>match objF c i ε,args fs ε with
 | some (_,os),some ts=>r (.obj .ro c os::ts.map .imm)
 | _,_=>false
section
variable {X:Cx} {k n c C CO i:Nat} {ns:List Str} {r:List Sl->Bool} {x m:Str} {p pos apos:Pos} {o e:Expr} {es:List Expr} {as:List Ag} {fs:List Fe}
theorem zvc (Dc:ClZ X.prog X.w X.K X.mg X.base x C k n r) (hr:Room k X.A) (ha:PAg X.nox (e::es) as) (hg:Gl X x:=by rfl) (hn:as.length=n:=by rfl) (hdb:(x == ("__debug__":Str))=false:=by decide)
  (he:y0a (e::es) X.env=(false,eval e X.env)::y0a es X.env:=by rfl) (hpl:(backTo pos (y0a es X.env)).any (·.1)=false:=by rfl):PEz X C (.Call (.Name x p) (e::es) [] pos) (zrm r as):=by
 obtain⟨fa,fd,ps,F,hm,kp,b⟩:=Dc.ex
 refine z0t (zg6 F hr hg hm kp b .nil (zg7 (E:=fun cl _ H'=>∃C',cl=.ref C'/\XeOk X C' H') fun C' H' ⟨C2,e2,q⟩=>by cases e2;exact q) (PA.nox ha) hdb he hpl) fun σ H Q ⟨F₀,E,O,F,ε,rl,e,k⟩=>?_
 unfold zrm at e
 split at e
 next ss es =>
  refine⟨F₀,E,O,F,ε,ss,rl,es,fun vs F1 H1 x1 q=>⟨?_,F1,ss.map roS,x1.dom,?_,e,fun F' H' x2=>⟨C,rfl,k F' H' (x1.trans x2)⟩⟩⟩
  ·rw[y22,q.len,hn]
  ·rw[y22]
   exact zpk (rl.ext x1) es q
 next=>cases e
theorem zk5 (kc:ClOk X.K c CO ns) (Dc:MtZ X.prog X.w X.K X.mg X.base CO m C k n r) (hr:Room k X.A) (hn:PE X.nox o (tVar i)) (ha:PAv X.nox (e::es) fs) {pl:Sem Bool} (hm:m∉ns:=by decide +kernel) (hl:fs.length+1=n:=by rfl)
  (hst:y0a (e::es) X.env=(false,eval e X.env)::y0a es X.env:=by rfl) (hpl:(backTo pos (y0a es X.env)).any (·.1)=false:=by rfl)
  (ht:eval (.Call (.Attribute o m apos) (e::es) [] pos) X.env=(do
   let ov <- eval o X.env
   standAt apos.atName
   let (f,first) <- holding [ov] (getMethod ov m pl)
   callWith pos f first (backTo pos (y0a (e::es) X.env)) (backToKw pos (keywordEach [] X.env))):=by rfl):PEz X C (.Call (.Attribute o m apos) (e::es) [] pos) (z4y c r i fs):=by
 obtain⟨fa,fd,ps,F,me,b⟩:=Dc.ex
 refine z0t (zjk (PE.nox hn) kc.cls me F hr b .nil (zg7 (E:=fun cl _ H'=>∃C',cl=.ref C'/\XeOk X C' H') fun C' H' ⟨C2,e2,q⟩=>by cases e2;exact q) (PA.nox ha) hst hpl ht) fun σ H Q ⟨F₀,E,O,F,ε,rl,e,k⟩=>?_
 unfold z4y at e
 split at e
 next md os ts ho et =>
  obtain⟨a,vs,dx,h1,hx,_⟩:=z6o kc rl ho
  refine⟨_,h1,a,dx,_,rfl,hx,z18 hm,F₀,E,O,F,ε,ts,rl,et,fun ws F1 H1 x1 q=>⟨?_,F1,_,x1.dom,?_,e,fun F' H' x2=>⟨C,rfl,k F' H' (x1.trans x2)⟩⟩⟩
  ·rw[y22,y0w,<- q.length,z7o et,hl]
  ·rw[y22]
   have r1:=rl.ext x1
   obtain⟨v',h1',rs⟩:=r1.val i _ (z24 ho)
   rw[h1] at h1'
   cases h1'
   refine .cons ⟨rfl,zlk rs _ _ fun b hb=>?_⟩ (zjh q)
   obtain⟨o,e,_⟩:=rs.at hb
   show H1 b≠none
   rw[e]
   exact fun z=>by cases z
 next=>cases e
theorem zt7 (kc:ClOk X.K c CO ns) (Dc:MtZ X.prog X.w X.K X.mg X.base CO m C k n r) (hr:Room k X.A) (hn:PE X.nox o (tVar i)) {pl:Sem Bool} (hm:m∉ns:=by decide +kernel) (hl:1=n:=by rfl)
  (ht:eval (.Call (.Attribute o m apos) [] [] pos) X.env=(do
   let ov <- eval o X.env
   standAt apos.atName
   let (f,first) <- holding [ov] (getMethod ov m pl)
   callWith pos f first (backTo pos (y0a [] X.env)) (backToKw pos (keywordEach [] X.env))):=by rfl):PEz X C (.Call (.Attribute o m apos) [] [] pos) (z4y c r i []):=by
 obtain⟨fa,fd,ps,F,me,b⟩:=Dc.ex
 refine z0t (zc9 (PE.nox hn) kc.cls me F hr b .nil (zg7 (E:=fun cl _ H'=>∃C',cl=.ref C'/\XeOk X C' H') fun C' H' ⟨C2,e2,q⟩=>by cases e2;exact q) ht) fun σ H Q ⟨F₀,E,O,F,ε,rl,e,k⟩=>?_
 unfold z4y at e
 split at e
 next md os ts ho et =>
  cases et
  obtain⟨a,vs,dx,h1,hx,_⟩:=z6o kc rl ho
  refine⟨_,h1,a,dx,_,rfl,hx,z18 hm,⟨?_,F,_,rl.dom,?_,e,fun F' H' x2=>⟨C,rfl,k F' H' x2⟩⟩⟩
  ·simp[hl]
  ·obtain⟨v',h1',rs⟩:=rl.val i _ (z24 ho)
   rw[h1] at h1'
   cases h1'
   refine .cons ⟨rfl,zlk rs _ _ fun b hb=>?_⟩ .nil
   obtain⟨o,e,_⟩:=rs.at hb
   show H b≠none
   rw[e]
   exact fun z=>by cases z
 next=>cases e
end
end
section
abbrev Cx.inX (X:Cx) (ea:Addr):Cx:={ X with A:=X.A.mark (some (.ref ea)),calm:=false,xe:=fun _ _=>False }
section
variable {X:Cx} {pins:List (Addr×Obj)} {σ:L2.St} {H:Hp} {s:y04} {ea:Addr}
theorem zwp (ok:X.Ok) (ea:Addr):(Cx.inX X ea).Ok :=
 ⟨ok.mod,ok.kind,ok.glob,ok.blt,ok.above,ok.inj,ok.has,ok.cab,(fun (z:false=true)=>absurd z (by decide)),ok.frames,ok.stk,ok.exf,ok.bs,ok.bsz,ok.noex,ok.exfs,ok.funs,ok.frf⟩
theorem zoc (I:Inv X pins σ H s) (ea:Addr):Inv (Cx.inX X ea) pins σ H s:=⟨zwp I.ok ea,I.os,I.bare,I.base,I.loc,I.cell,I.free,I.freeC,I.pin,I.hok,I.len⟩
theorem zr9 (ok:X.Ok) (I:Inv (Cx.inX X ea) pins σ H s):Inv X pins σ H s:=⟨ok,I.os,I.bare,I.base,I.loc,I.cell,I.free,I.freeC,I.pin,I.hok,I.len⟩
theorem zra {i:Nat} {n:Str} {h':Heap} {m:Str->Option Value} {v:Option Value} {tk:Nat} (I:Inv X pins σ H s) (hi:X.N[i]?=some n) (hl:∀(i:Nat) (x:Str) (v:V),X.N[i]?=some x->σ[i]?=some (some v)->Vis X.env.scope x->∃u,RelV v u/\Look X.env s.heap m x u) (hN:X.N.Nodup)
  (hn:h'.Ns X.env.locals (fun x=>if x=n then v else m x)) (hs:Heap.SameBut X.env.locals s.heap h') (hoL:∃o,s.heap.get? X.env.locals=some o):Inv X pins (σ.set i none) H { s with heap:=h',toks:=tk }:=by
 have hiσ:i<σ.length:=by rw[I.len];exact (y0l.mp hi).1
 have cne:=I.cne
 have lt:∀{b:Addr} {o:Obj},X.s₀.heap.get? b=some o->b≠X.env.locals:=fun e=>y0y (y0x (y0c e) I.ok.above)
 refine⟨I.ok,I.os,I.bare,⟨fun b o e n hb hx=>(hs.2 b (lt e)).trans (I.base.keep b o e n hb hx),fun b o e n hb hx=>?_,I.base.free,fun b o e hx=>?_,I.base.tups,I.base.frzs,I.base.tbls⟩,⟨_,hn,fun j y v' e1 e2 e3=>?_⟩,fun y c e=>?_,I.free,I.freeC,fun p hp=>?_,fun b ob e=>?_,by simpa using I.len⟩
 ·obtain⟨sl,e1⟩:=I.base.slot b o e n hb hx
  exact⟨sl,(hs.2 b (lt e)).trans e1⟩
 ·obtain⟨o',e1⟩:=I.base.there b o e hx
  exact⟨o',(hs.2 b (lt e)).trans e1⟩
 ·by_cases hj:j=i
  ·subst hj
   rw[List.getElem?_set_self hiσ] at e2
   cases e2
  ·rw[List.getElem?_set_ne (Ne.symm hj)] at e2
   obtain⟨u',r',q⟩:=hl j y v' e1 e2 e3
   refine⟨u',r',?_⟩
   rcases q with ⟨k,e⟩|⟨k,c,e,z⟩
   ·refine .inl ⟨k,?_⟩
    have:y≠n:=fun e=>hj (zgc hN e1 (e▸hi))
    simp[this,e]
   ·exact .inr ⟨k,c,e,z.sameBut hs (cne y c e)⟩
 ·obtain⟨w',z⟩:=I.cell y c e
  exact⟨w',z.sameBut hs (cne y c e)⟩
 ·obtain⟨e,n,ne,nf,d⟩:=I.pin p hp
  exact⟨(hs.2 p.1 ne).trans e,n,ne,nf,d⟩
 ·refine (I.hok b ob e).stay (fun c w' hc q=>(hs.2 c ?_).trans q) (fun _ q=>q) fun _ _ q=>q
  rintro rfl
  have fr:=I.free
  rcases hc with rfl|hc
  ·rw[fr] at e;cases e
  ·rw[fr] at hc;cases hc
end
theorem zjr {M:Model} {A:Around} {E:Value->y04->Prop} {K:y00} {s:y04} {x C CD:Addr} {Q:Bool->y04->Prop} (X:K.In s.heap) (I:z7p x C s.heap)
  (h1:PySem.W.typeIn K (.ref CD)=some (.type "type")) (h2:PySem.W.mroIn K CD (.type "BaseException")=some true) (h3:PySem.W.mroIn K C (.ref CD)=some true) (hc:(PySem.W.clsIn K CD).isSome=true) (hq:Q true s) :
  y0u M A (excMatches (.ref x) (.ref CD)) Q E s:=by
 obtain⟨hh,g,dr,t,os⟩:=s
 have L0:=I.type (M:=M)
 have L1:=PySem.W.looks_typeIn (M:=M) X h1
 have L2:=PySem.W.looks_mroIn (M:=M) X h2
 have L3:=PySem.W.looks_mroIn (M:=M) X h3
 have LI:PySem.W.Looks M hh (isInstance (.ref CD) (.type "tuple")) false:=L1.andThen (PySem.W.Looks.of_pure tc_notTuple)
 have LT:PySem.W.Looks M hh (isType (.ref CD)) true:=by
  unfold PySem.W.clsIn at hc
  split at hc
  ·rename_i c' d' cd' sl' ho
   intro A' Q' E' s' k q
   unfold isType loadHead
   exact y02 (wpAny_loadPart (k _ _ (X _ _ ho)) (y06 q))
  ·cases hc
 have LE:PySem.W.Looks M hh (isExcClass (.ref CD)) true:=LT.andThen L2
 unfold excMatches
 refine y02 (LI.at ?_)
 rw[if_neg (by decide)]
 refine y02 (y06 ?_)
 dsimp only
 refine y02 ?_
 simp only[List.forIn_cons,List.forIn_nil]
 refine y02 (y02 (LE.at ?_))
 rw[if_neg (by decide)]
 refine y06 (y06 ?_)
 refine y02 (L0.at (y02 ?_))
 refine y02 (y02 (L3.at ?_))
 rw[if_pos rfl]
 exact y06 (y06 (y06 hq))
theorem zrk {X:Cx} {pins:List (Addr×Obj)} {σ:L2.St} {H H':Hp} {s s':y04} {C CD:Addr} {e:Value} {dn n:Str} {i:Nat} {np pos:Pos} {b₀:Stmt} {suite:List Stmt} {ts:TS} {D:Ends}
  (I:Inv X pins σ H s) (fl:zrv X.prog X.w X.stack H s C H' e s') (hm:X.mg dn=some (.ref CD))
  (h1:PySem.W.typeIn X.K (.ref CD)=some (.type "type")) (h2:PySem.W.mroIn X.K CD (.type "BaseException")=some true) (h3:PySem.W.mroIn X.K C (.ref CD)=some true) (hc:(PySem.W.clsIn X.K CD).isSome=true)
  (hs:∀ea,PSs (Cx.inX X ea) (b₀::suite) ts) (k:∀ea,H' ea=none->ts { nx:=fun σ2 H2=>D.nx (σ2.set i none) H2,rt:=fun _ _=>False } (σ.set i (some (.ref ea))) (upd H' ea (.ext (z7p ea C))))
  (hN:X.N.Nodup) (hi:X.N[i]?=some n) (hlo:X.env.kindOf n=some .local) (hst:X.stack=X.env::X.outer) (hf:X.env.frame=some X.env.locals) (hg:Gl X dn) (hdb:(dn == ("__debug__":Str))=false) :
  y0u (model X.prog X.w) X.A (noteFrame e X.env) (fun _ s₂=>y0u (model X.prog X.w) X.A (setFlight e none) (fun _ s₃=>y0u (model X.prog X.w) X.A (handleBy e X.env [.ExceptHandler (some (.Name dn np)) (some n) (b₀::suite) pos]) (L2.SP X pins D) X.xe s₃) X.xe s₂) X.xe s':=by
 obtain⟨ea,a0,B,rfl,fl⟩:=fl
 have hfl:=fl.fly
 have hfr:=I.ok.frames
 rw[hst] at hfl hfr
 refine wpAny_looks_onW hfr hf hfl fun h₄ held₄ sm₄=>?_
 refine wpAny_landsW held₄ fun h₅ fl₅ sm₅=>?_
 have U5:s'.heap.UpToSlots h₅:=sm₄.trans sm₅
 obtain⟨un5,hok5⟩:=fl.on fl₅.1 U5
 have nx:∀b:Addr,b∉([]:List Addr):=fun b z=>absurd z (by simp)
 have J5:Inv X pins σ H' { s' with heap:=h₅ }:=I.call' fl.os un5 hok5 fl.bare fun b hb=>absurd hb (nx b)
 have at5:z7p ea C h₅:=by
  obtain⟨oe,vs,q1,q2,q3,_⟩:=fl₅.first
  exact⟨oe,vs,q1,q2,q3⟩
 have hne:H' ea=none:=by
  cases q:H' ea with
  | none=>rfl
  | some u =>
   obtain⟨o,ho⟩:∃o,B.get? ea=some o:=by
    have z:=fl.hok ea u q
    have lt:=z.lt
    have:∀(u:HO),z5g X.prog X.w H' B ea u->∃o,B.get? ea=some o:=by
     intro u
     induction u with
     | lst xs=>rintro⟨_,_,_,_,e⟩;exact⟨_,e⟩
     | tup xs=>rintro⟨_,_,_,o,e,_⟩;exact⟨_,e⟩
     | dK kvs=>rintro⟨_,_,_,_,o,_,_,e,_⟩;exact⟨_,e⟩
     | dT kvs=>rintro⟨_,_,_,_,o,_,_,e,_⟩;exact⟨_,e⟩
     | set S n=>rintro⟨o,_,_,_,e,_⟩;exact⟨_,e⟩
     | ins C dx fs=>rintro⟨_,_,_,e,_⟩;exact⟨_,e⟩
     | own x=>rintro⟨o,e⟩;exact⟨_,e⟩
     | xd fs=>rintro⟨_,e,_⟩;obtain⟨o,_,_,e,_⟩:=e;exact⟨_,e⟩
     | met f x=>intro e;exact⟨_,e⟩
     | rng lo hi=>rintro⟨_,_,_,e⟩;exact⟨_,e⟩
     | frz o u ih=>rintro⟨e,_⟩;exact⟨_,e⟩
     | tbl ps=>intro e;exact⟨_,e⟩
     | ext φ=>rintro⟨_,⟨o,e⟩,_⟩;exact⟨_,e⟩
    exact this u z
   rw[fl.fly.2.1] at ho
   cases ho
 refine wpAny_handleBy_cons (codeAny_handlers_test (z9y (X:=Cx.inX X ea) (zoc J5 ea) hg hm ?_ hdb)) (by intro q;cases q)
 refine zjr J5.kIn at5 h1 h2 h3 hc ?_
 refine codeAny_handlers_suite_as ?_
 refine lands_againW fl₅ fun h₆ fl₆ sm₆=>?_
 have U6:s'.heap.UpToSlots h₆:=U5.trans sm₆
 obtain⟨un6,hok6⟩:=fl.on fl₆.1 U6
 have at6:z7p ea C h₆:=by
  obtain⟨oe,vs,q1,q2,q3,_⟩:=fl₆.first
  exact⟨oe,vs,q1,q2,q3⟩
 have keepT:∀{b:Addr} {u:HO},H' b=some u->upd H' ea (.ext (z7p ea C)) b=some u:=fun {b u} q=>by rw[z0c (by rintro rfl;rw[hne] at q;cases q)];exact q
 have notE:∀{b:Addr} {o:Obj},s.heap.get? b=some o->H b=none->b≠ea:=fun {b o} q n=>by
  rintro rfl
  by_cases f:b∈frs X.stack
  ·obtain⟨_,o',e',hd⟩:=fl₆.2.2.1.mem (b:=b) (by rw[<- hst];exact f)
   obtain⟨oe,vs,e1,_,e2⟩:=at6
   rw[e1] at e'
   cases e'
   exact hd vs e2
  ·have z:=fl.cov b o q n f
   rw[fl.fly.2.1] at z
   cases z
 have un7:Un (frs X.stack) [] H (upd H' ea (.ext (z7p ea C))) s.heap h₆:=⟨un6.keep,un6.slot,fun b o q n hx=>by rw[z0c (notE q n)];exact un6.free b o q n hx,un6.there,fun b xs q=>keepT (un6.tups b xs q),fun b o u q=>keepT (un6.frzs b o u q),fun b ps q=>by
  obtain⟨m,z⟩:=un6.tbls b ps q
  exact⟨m,keepT z⟩⟩
 have hok7:HOk X.prog X.w (upd H' ea (.ext (z7p ea C))) h₆:=fun b u q=>by
  by_cases hb:b=ea
  ·subst hb
   rw[z0e] at q
   cases q
   obtain⟨oe,vs,e1,e2,e3⟩:=at6
   exact⟨⟨oe,vs,e1,e2,e3⟩,⟨oe,e1⟩,fun k1 k2 ⟨o,vs,z1,z2,z3⟩ kk=>⟨o,vs,kk o z1,z2,z3⟩⟩
  ·rw[z0c hb] at q
   exact (hok6 b u q).stay (fun _ _ _ z=>z) (fun c z=>keepT z) fun c xs z=>keepT z
 have J6:Inv X pins σ (upd H' ea (.ext (z7p ea C))) { s' with heap:=h₆ }:=I.call' fl.os un7 hok7 fl.bare fun b hb=>absurd hb (nx b)
 refine zfu (X:=Cx.inX X ea) (v:=.ref ea) (zoc J6 ea) hN hi (.inl hlo) rfl (fun s7 I7=>?_) (.inr hlo)
 refine y1e (hs ea pins s7 _ _ _ I7 (k ea hne)) (fun f s8 h8=>?_) fun _ _ z=>z.elim
 cases f with
 | next =>
  obtain⟨σ2,H2,I8,q8⟩:=h8
  have I8':=zr9 I.ok I8
  obtain⟨m,hn8,hl8⟩:=id I8'.loc
  refine wpAny_nameGoes_keeps hlo hn8 (by rw[I.ok.kind];rfl) fun h9 v hn9 hs9=>?_
  have hoL:∃o,s8.heap.get? X.env.locals=some o:=by
   obtain⟨o,_,_,q,_⟩:=hn8
   exact⟨o,q⟩
  exact⟨_,H2,zra I8' hi hl8 hN hn9 hs9 hoL,q8⟩
 | brk=>obtain⟨_,_,_,q8⟩:=h8;exact y20 q8
 | cont=>obtain⟨_,_,_,q8⟩:=h8;exact y20 q8
 | ret u=>obtain⟨_,_,_,_,_,q8⟩:=h8;exact y20 q8
end
section
noncomputable def rIsi (K:y00) (C:Addr):List V->Hp->VK->Prop:=fun xs H Q=>∃ea c cv b,xs=[.ref ea,c]/\H ea=some (.ext (z7p ea C))/\(∀u,RelV c u->u=cv)/\PySem.W.kitOne K (.ref C) cv=some b/\Q (.bl b) H
theorem zxa {X:Cx} {C:Addr} (O:ExcOk X.K C):za6 X (.builtin "isinstance") (rIsi X.K C):=by
 intro pins s σ H xs us Q I r ⟨ea,c,cv,b,e1,e2,e3,e4,q⟩
 subst e1
 cases r with
 | cons r1 r =>
  cases r with
  | cons r2 r =>
   cases r
   cases r1
   have ec:=e3 _ r2
   subst ec
   exact PySem.W.kia_one (zr2 O) I.kIn (I.hok ea _ e2).1 e4 (by intro z;cases z) fun tk=>⟨.bl b,H,I.tok _,rfl,q⟩
theorem zgp:∀{bs:List Bool} {us:List Value},Vals (bs.map V.bl) us->us=bs.map Value.bool
 | [],us,h=>by cases h;rfl
 | b::bs,us,h=>by
  cases h with
  | cons r t =>
   cases r
   rw[zgp t]
   rfl
def z8d:Value->Bool
 | .bool true=>true
 | _=>false
theorem zqw {X:Cx}:MtR X "list.count" (fun x vs H Q=>∃(l:Addr) (bs:List Bool),x=.ref l/\vs=[.bl true]/\SqL X.K H l (bs.map V.bl)/\Q (.int (bs.countP id:Nat)) H):=by
 intro pins s σ H x vs v us Q I rx rv h
 obtain⟨l,bs,rfl,rfl,hq,q⟩:=h
 cases rx
 obtain⟨u,rfl,ru⟩:=rv.one
 cases ru
 obtain⟨its,r,⟨⟨cls,dd,data,sl⟩,n,ho,hc,hd,hs⟩,hz⟩:=I.list hq
 simp only at hc hd hs
 subst hc hd hs
 have hits:=zgp r
 subst hits
 refine call_meets PySem.F.slot_list_count ⟨_,ho,rfl⟩ PySem.F.entry_list_count (PySem.F.args_list_count_2 _ _)
  (SeqAt.list_countAt l _ n _ _ (.bool true) z8d) ⟨ho,fun z hz'=>?_,?_⟩
 ·obtain⟨b,_,rfl⟩:=y0n.mp (show z∈bs.map Value.bool by simpa using hz')
  have e:=SeqAt.EqAt.bool_bool (A:=X.A.in1) (s:=s) b true
  have e2:(b == true)=z8d (.bool b):=by cases b <;> rfl
  rw[e2] at e
  exact e
 ·refine⟨V.int (bs.countP id:Nat),H,I.tok _,⟨s.toks,?_⟩,q⟩
  have:((bs.map Value.bool).toArray.toList.countP z8d)=bs.countP id:=by
   show (bs.map Value.bool).countP z8d=_
   rw[List.countP_map]
   congr 1
   funext b
   cases b <;> rfl
  rw[this]
theorem znx {X:Cx}:MtR X "list.index" (fun x vs H Q=>∃(l:Addr) (bs:List Bool) (j:Nat),x=.ref l/\vs=[.bl true]/\SqL X.K H l (bs.map V.bl)/\bs[j]?=some true/\(∀m,m<j->bs[m]?=some false)/\Q (.int (j:Nat)) H):=by
 intro pins s σ H x vs v us Q I rx rv h
 obtain⟨l,bs,j,rfl,rfl,hq,hj,hb,q⟩:=h
 cases rx
 obtain⟨u,rfl,ru⟩:=rv.one
 cases ru
 obtain⟨its,r,⟨⟨cls,dd,data,sl⟩,n,ho,hc,hd,hs⟩,hz⟩:=I.list hq
 simp only at hc hd hs
 subst hc hd hs
 have hits:=zgp r
 subst hits
 have hjl:=(y0l.mp hj).1
 rw[y14] at hz
 rw[sizeLine_eq] at hz
 refine call_meets PySem.F.slot_list_index ⟨_,ho,rfl⟩ PySem.F.entry_list_index (PySem.F.args_list_index_2 _ _)
  (SeqAt.list_indexAt l _ n _ _ (.bool true) z8d j (by simpa using hjl) (by omega) ?_ ?_) ⟨ho,fun z hz'=>?_,⟨V.int (j:Nat),H,I.tok _,⟨_,rfl⟩,q⟩⟩
 ·have:=(y0l.mp hj).2
  simp[z8d,this]
 ·intro m hm hlt
  have:=(y0l.mp (hb m hlt)).2
  simp[z8d,this]
 ·obtain⟨b,_,rfl⟩:=y0n.mp (show z∈bs.map Value.bool by simpa using hz')
  have e:=SeqAt.EqAt.bool_bool (A:=X.A.in1) (s:=s) b true
  have e2:(b == true)=z8d (.bool b):=by cases b <;> rfl
  rw[e2] at e
  exact e
def Grow [Tbl] (H H':Hp):Prop:=∀F:Addr->Prop,Dom F H->Ext F H F H'
theorem Grow.laid [Tbl] {H:Hp} {p:Addr} {o:HO} (hp:H p=none):Grow H (upd H p o):=fun F d=>Ext.laid d hp
theorem Grow.trans [Tbl] {H H1 H2:Hp} (a:Grow H H1) (b:Grow H1 H2):Grow H H2:=fun F d=>(a F d).trans (b F (a F d).dom)
abbrev tIsi (K:y00) (C:Addr) (c:V):TE:=tCB (rIsi K C) (z6h (tVar 2) (z6h (tC c) tNil))
abbrev rCnt (K:y00):V->List V->Hp->VK->Prop:=fun x vs H Q=>∃(l:Addr) (bs:List Bool),x=.ref l/\vs=[.bl true]/\SqL K H l (bs.map V.bl)/\Q (.int (bs.countP id:Nat)) H
abbrev rIdx (K:y00):V->List V->Hp->VK->Prop:=fun x vs H Q=>∃(l:Addr) (bs:List Bool) (j:Nat),x=.ref l/\vs=[.bl true]/\SqL K H l (bs.map V.bl)/\bs[j]?=some true/\(∀m,m<j->bs[m]?=some false)/\Q (.int (j:Nat)) H
abbrev zms (K:y00) (C cz cw cd ct:Addr):TS :=
 tSeq (tAsg (tLst (z6h (tIsi K C (.ref cz)) (z6h (tIsi K C (.ref cw)) (z6h (tIsi K C (.ref cd)) (z6h (tIsi K C (.ref ct)) tNil))))) (zi3 3))
 (tSeq (tAsg (tTup (z6h (tC (.str "refused")) (z6h (tUn (rU fun i=>.int (-i)) (tC (.int 1))) tNil))) (zi3 1))
 (tIfS (tAnd (tB (tIsi K C (.ty "ValueError"))) (zvj (tOp rEq (tBM K "list" (rCnt K) (tVar 3) (z6h (tC (.bl true)) tNil)) (tC (.int 1)))))
  (tAsg (tTup (z6h (tC (.str "refused")) (z6h (tBM K "list" (rIdx K) (tVar 3) (z6h (tC (.bl true)) tNil)) tNil))) (zi3 1)) zvk))
structure Kinds (K:y00) (C cz cw cd ct:Addr) (bs:List Bool) (j:Nat):Prop where
 b0:∃b0 b1 b2 b3,bs=[b0,b1,b2,b3]/\PySem.W.kitOne K (.ref C) (.ref cz)=some b0/\PySem.W.kitOne K (.ref C) (.ref cw)=some b1/\PySem.W.kitOne K (.ref C) (.ref cd)=some b2/\PySem.W.kitOne K (.ref C) (.ref ct)=some b3
 ve:PySem.W.kitOne K (.ref C) (.type "ValueError")=some true
 one:bs.countP id=1
 hit:bs[j]?=some true
 no:∀m,m<j->bs[m]?=some false
theorem zj8 [Tbl] {K:y00} {C cz cw cd ct ea:Addr} {bs:List Bool} {j:Nat} (kk:Kinds K C cz cw cd ct bs j) {D:Ends} {σ:L2.St} {H:Hp} (hl:σ.length=4) (he:σ[2]?=some (some (.ref ea))) (hx:H ea=some (.ext (z7p ea C)))
  (k:∀H' p σ',Grow H H'->H' p=some (.tup [.str "refused",.int j])->σ'.length=4->σ'[1]?=some (some (.ref p))->D.nx σ' H'):zms K C cz cw cd ct D σ H:=by
 obtain⟨⟨b0,b1,b2,b3,rfl,k0,k1,k2,k3⟩,ve,one,hit,no⟩:=kk
 have isi:∀{c:V} {cv:Value} {b:Bool} {σ:L2.St} {H:Hp} {Q:VK},σ[2]?=some (some (.ref ea))->H ea=some (.ext (z7p ea C))->(∀u,RelV c u->u=cv)->PySem.W.kitOne K (.ref C) cv=some b->Q (.bl b) H->tIsi K C c σ H Q :=
  fun {c cv b σ H Q} e1 e2 e3 e4 q=>⟨_,e1,ea,c,cv,b,rfl,e2,e3,e4,q⟩
 refine isi he hx (cv:=.ref cz) (fun u r=>r) k0 (isi he hx (cv:=.ref cw) (fun u r=>r) k1 (isi he hx (cv:=.ref cd) (fun u r=>r) k2 (isi he hx (cv:=.ref ct) (fun u r=>r) k3 ?_)))
 refine⟨by show 4<=y0k;decide,fun p hp=>?_⟩
 refine⟨1,rfl,?_⟩
 refine⟨by show 2<=y0k;decide,fun p2 hp2=>?_⟩
 have g1:Grow H (upd H p (.lst [.bl b0,.bl b1,.bl b2,.bl b3])):=Grow.laid hp
 have g2:=g1.trans (Grow.laid (o:=.tup [.str "refused",.int (-1)]) hp2)
 have ne1:ea≠p:=by rintro rfl;rw[hx] at hp;cases hp
 have hx1:upd H p (.lst [.bl b0,.bl b1,.bl b2,.bl b3]) ea=some (.ext (z7p ea C)):=by rw[z0c ne1];exact hx
 have ne2:ea≠p2:=by rintro rfl;rw[hx1] at hp2;cases hp2
 have ne3:p≠p2:=by rintro rfl;rw[z0e] at hp2;cases hp2
 have e2:((σ.set 3 (some (V.ref p))).set 1 (some (V.ref p2)))[2]?=some (some (.ref ea)):=by rw[List.getElem?_set_ne (by decide),List.getElem?_set_ne (by decide)];exact he
 have e3:((σ.set 3 (some (V.ref p))).set 1 (some (V.ref p2)))[3]?=some (some (.ref p)):=by rw[List.getElem?_set_ne (by decide),List.getElem?_set_self (by omega)]
 have hL:upd (upd H p (.lst [.bl b0,.bl b1,.bl b2,.bl b3])) p2 (.tup [.str "refused",.int (-1)]) p=some (.lst [.bl b0,.bl b1,.bl b2,.bl b3]):=by rw[z0c ne3,z0e]
 have sq:SqL K (upd (upd H p (.lst [.bl b0,.bl b1,.bl b2,.bl b3])) p2 (.tup [.str "refused",.int (-1)])) p ([b0,b1,b2,b3].map V.bl):=.inl (.inl hL)
 refine isi e2 (by rw[z0c ne2];exact hx1) (cv:=.type "ValueError") (fun u r=>r) ve ⟨true,rfl,?_⟩
 refine iteT ?_
 refine⟨_,e3,.inl ⟨rfl,_,sq⟩,p,[b0,b1,b2,b3],rfl,rfl,sq,rfl,⟨true,?_,?_⟩⟩
 ·rw[one]
  rfl
 ·refine iteT ?_
  refine⟨_,e3,.inl ⟨rfl,_,sq⟩,p,[b0,b1,b2,b3],j,rfl,rfl,sq,hit,no,?_⟩
  refine⟨by show 2<=y0k;decide,fun p3 hp3=>?_⟩
  refine k _ p3 _ (g2.trans (Grow.laid hp3)) z0e ?_ ?_
  ·simp[hl]
  ·rw[List.getElem?_set_self (by simp[hl])]
end
section
variable [Tbl]
abbrev cxLZ (P:y0r) (w:World) (K:y00) (mg:Str->Option Value) (base:Heap) (N:List Str) (qual:Str) (scope:Scope) (q:Addr) (cd:Value) (cl:List (Str×Addr)) (A:Around) (outer:List Env) (s:y04) (H:Hp) (E:XK):Cx :=
 (cxL P w K mg base N qual scope q cd cl A outer s H).wish fun e s'=>y0u (model P w) (A.deeper (envL qual scope s.heap.objs.size q cd cl)) (leaving (envL qual scope s.heap.objs.size q cd cl) e) (fun _ s''=>CXR P w outer H s E e s'') (fun e' s''=>CXR P w outer H s E e' s'') s'
section
variable {P:y0r} {w:World} {K:y00} {mg:Str->Option Value} {base:Heap} {k:Nat} {q c':Addr} {N:List Str} {qual:Str} {scope:Scope} {cl:List (Str×Addr)} {A:Around} {outer:List Env} {s:y04} {H:Hp} {σ:L2.St} {C:Addr}
theorem zo1 {params:Arguments} {body:Expr} {pm ctv:Value} {r:Fz} {E:XK} (hk:scope.kind=.function) (hco:scope.isCoroutine=false) (hgen:scope.isGenerator=false) (hnc:∀x∈scope.names,x.2≠.cell)
  (hb:∀(A:Around) (outer:List Env) (s:y04) (H:Hp) (E:XK),Room k (A.deeper (envL qual scope s.heap.objs.size q (.ref c') cl))->PEz (cxLZ P w K mg base N qual scope q (.ref c') cl A outer s H E) C body r)
  (bd:bindArgs (PySem.W.kla_fn "<lambda>" qual params body scope cl pm (.ref c') ctv) ⟨[],[]⟩=pure [])
  (hr:Room (k+1) A) (e0:Env0 P w K mg base A outer s H) (hq:H q=some (lamO (PySem.W.kla_obj "<lambda>" qual params body scope cl pm c' ctv) q)) (hc:H c'=some (codO c' qual)) (Cp:Caps N scope cl σ H s.heap)
  (h:∃F₀ En O F ε,RelE K F₀ En O F H ε σ/\r ε=true/\∀F' H',Ext F H F' H'->E (.ref C) none H'):codeAny (model P w) A (.call (.ref q) ⟨[],[]⟩) (CR (CXR P w) outer P w H s (fun _ _=>False) E) s:=by
 have nolim:s.heap.NoLimit:=e0.mod.nolimit.keeps fun b o e=>(e0.bs b o e).1
 refine PySem.W.kla_callFunE hr.depth (e0.hok q _ hq).1 rfl hco hgen rfl (e0.hok c' _ hc).1 ?_
 rw[bd]
 refine y06 (wpAny_newFunctionEnv hnc (fun x hx=>by cases hx) (fun h₁ hns hsb=>⟨nolim.fresh _ hsb,?_⟩) hk)
 have kp:∀b o,s.heap.get? b=some o->h₁.get? b=some o:=fun b o e=>hsb.extBut b o (y0y (y0c e)) (y03 _ e)
 show codeAny _ _ (.expr body (envL qual scope s.heap.objs.size q (.ref c') cl)) _ _
 refine PySem.W.kla_codeExpr ?_
 have I0:Inv (cxL P w K mg base N qual scope q (.ref c') cl A outer s H) [] σ H { s with heap:=h₁,toks:=s.toks+([]:List (Str×Value)).length }:=zfe hk hr.hd e0 Cp hns kp
 have I:Inv (cxLZ P w K mg base N qual scope q (.ref c') cl A outer s H E) [] σ H { s with heap:=h₁,toks:=s.toks+([]:List (Str×Value)).length }:=I0.wish _
 obtain⟨F₀,En,O,F,ε,rl,er,kq⟩:=h
 refine y1e (hb A outer s H E (hr.deeper _) [] _ σ H (fun _ _=>False) I ⟨F₀,En,O,F,ε,rl,er,fun F' H' x pins σ1 H1 s1 e1 s2 I1 t=>?_⟩) (fun u s' hs=>?_) fun e s' hs=>hs
 ·exact y1e (zk6 (X:=cxLZ P w K mg base N qual scope q (.ref c') cl A outer s H E) (E:=E) (Z:=fun _ _=>False) I1 t (kq F' H' x)) (fun _ _ z=>z) fun _ _ z=>z.elim
 ·obtain⟨_,_,_,_,z⟩:=hs
  exact z.elim
end
noncomputable def zyp (X:Cx) (C:Addr) (H':Hp):Prop:=∀(pins:List (Addr×Obj)) (σ:L2.St) (H:Hp) (s:y04) (e:Value) (s':y04),Inv X pins σ H s->zrv X.prog X.w X.stack H s C H' e s'->X.xe e s'
noncomputable def zmt (X:Cx) (C:Addr) (i:Nat):TE:=fun σ H _=>∃q,σ[i]?=some (some (.ref q))/\(∃(o:Obj) (fd:y0b),H q=some (lamO o q)/\o.data=.func fd) /\
 ∀(pins:List (Addr×Obj)) (s:y04),Inv X pins σ H s->codeAny (model X.prog X.w) X.A (.call (.ref q) ⟨[],[]⟩) (CR (CXR X.prog X.w) X.stack X.prog X.w H s (fun _ _=>False) fun cl _ H'=>∃C',cl=.ref C'/\zyp X C' H') s
theorem zql {X:Cx} {C:Addr} {i:Nat} {x:Str} {p pos:Pos} (hn:PE X (.Name x p) (tVar i)):PE X (.Call (.Name x p) [] [] pos) (zmt X C i):=by
 intro pins s σ H Q I ⟨q,hq,⟨o,fd,ho,hfd⟩,hc⟩
 refine wpAny_Call_Name_kw (thn (hn pins s σ H (fun v H1=>v=.ref q/\H1=H) I ⟨.ref q,hq,rfl,rfl⟩) fun v s1 ⟨y,H1,I1,ry,ey,eh⟩=>?_)
 subst ey
 subst eh
 cases ry
 have fa:PySem.W.FnAt q s1.heap:=by
  have h1:s1.heap.get? q=some o:=(I1.hok q _ ho).1
  obtain⟨c,dct,dt,sl⟩:=o
  cases hfd
  exact⟨_,_,_,_,h1⟩
 refine PySem.W.callWith_F0 fa ?_
 refine wpAny_call (codeAny_mono (hc pins s1 I1) fun r s' hq=>?_)
 cases r with
 | error e =>
  obtain⟨C1,H',fl,C2,e2,ok⟩:=hq
  cases e2
  exact ok pins σ H1 s1 e s' I1 fl
 | ok fl =>
  cases fl with
  | ret u =>
   obtain⟨_,_,_,_,_,_,_,z⟩:=hq
   exact z.elim
  | next=>exact y20 hq
  | brk=>exact y20 hq
  | cont=>exact y20 hq
noncomputable def zkc (X:Cx) (C:Addr) (j:Nat):TS:=fun D σ H=>∃q,σ.length=4/\σ[0]?=some (some (.ref q))/\(∃(o:Obj) (fd:y0b),H q=some (lamO o q)/\o.data=.func fd)/\∃Φ:Hp->Prop,
 (∀(pins:List (Addr×Obj)) (s:y04),Inv X pins σ H s->codeAny (model X.prog X.w) X.A (.call (.ref q) ⟨[],[]⟩) (CR (CXR X.prog X.w) X.stack X.prog X.w H s (fun _ _=>False) fun cl _ H'=>cl=.ref C/\Φ H') s) /\
 ∀H',Φ H'->∀H'' p,Grow H' H''->H'' p=some (.tup [.str "refused",.int j])->D.rt (.ref p) H''
abbrev Cx.bears (X:Cx) (pn:List (Addr×Obj)) (E:Value->y04->Prop):Cx:={ X with pn:=pn,xe:=E }
theorem zod {X:Cx} {pins:List (Addr×Obj)} {σ:L2.St} {H:Hp} {s:y04} (I:Inv X pins σ H s) (E:Value->y04->Prop):Inv (Cx.bears X (X.pn++pins) E) [] σ H s :=
 ⟨⟨I.ok.mod,I.ok.kind,I.ok.glob,I.ok.blt,I.ok.above,I.ok.inj,I.ok.has,I.ok.cab,I.ok.hd,I.ok.frames,I.ok.stk,I.ok.exf,I.ok.bs,I.ok.bsz,I.ok.noex,I.ok.exfs,I.ok.funs,I.ok.frf⟩,I.os,I.bare,I.base,I.loc,I.cell,I.free,I.freeC,fun p hp=>I.pin p (by simpa using hp),I.hok,I.len⟩
theorem zds {X:Cx} {pins pins2:List (Addr×Obj)} {σ:L2.St} {H:Hp} {s:y04} {E:Value->y04->Prop} (ok:X.Ok) (I:Inv (Cx.bears X (X.pn++pins) E) pins2 σ H s):Inv X pins σ H s :=
 ⟨ok,I.os,I.bare,I.base,I.loc,I.cell,I.free,I.freeC,fun p hp=>I.pin p (List.mem_append_left _ hp),I.hok,I.len⟩
theorem zqf {X:Cx} {C CD cz cw cd ct:Addr} {bs:List Bool} {j:Nat} {body suite:List Stmt} {b₀:Stmt} {np pos hpos rpos npos:Pos}
  (hbody:∀(pn:List (Addr×Obj)) (E:Value->y04->Prop),PSs (Cx.bears X pn E) body (tAsg (tTup (z6h (tC (.str "told")) (z6h (zmt (Cx.bears X pn E) C 0) tNil))) (zi3 1)))
  (hsuite:∀ea,PSs (Cx.inX X ea) (b₀::suite) (zms X.K C cz cw cd ct)) (kk:Kinds X.K C cz cw cd ct bs j)
  (hm:X.mg "DoorError"=some (.ref CD)) (h1:PySem.W.typeIn X.K (.ref CD)=some (.type "type")) (h2:PySem.W.mroIn X.K CD (.type "BaseException")=some true) (h3:PySem.W.mroIn X.K C (.ref CD)=some true) (hc:(PySem.W.clsIn X.K CD).isSome=true)
  (hret:PE X (.Name "_law_found" npos) (tVar 1))
  (hN:X.N.Nodup) (hi:X.N[2]?=some ("e":Str)) (hlen:X.N.length=4) (hlo:X.env.kindOf "e"=some .local) (hst:X.stack=X.env::X.outer) (hf:X.env.frame=some X.env.locals) (hg:Gl X "DoorError") :
  PSs X [.Try body [.ExceptHandler (some (.Name "DoorError" np)) (some "e") (b₀::suite) hpos] [] [] pos,.Return (some (.Name "_law_found" npos)) rpos] (zkc X C j):=by
 have htry:PS X (.Try body [.ExceptHandler (some (.Name "DoorError" np)) (some "e") (b₀::suite) hpos] [] [] pos) (fun D σ H=>∃q,σ.length=4/\σ[0]?=some (some (.ref q))/\(∃(o:Obj) (fd:y0b),H q=some (lamO o q)/\o.data=.func fd)/\∃Φ:Hp->Prop,
   (∀(pins:List (Addr×Obj)) (s:y04),Inv X pins σ H s->codeAny (model X.prog X.w) X.A (.call (.ref q) ⟨[],[]⟩) (CR (CXR X.prog X.w) X.stack X.prog X.w H s (fun _ _=>False) fun cl _ H'=>cl=.ref C/\Φ H') s) /\
   ∀H',Φ H'->∀H'' p σ'',Grow H' H''->H'' p=some (.tup [.str "refused",.int j])->σ''[1]?=some (some (.ref p))->D.nx σ'' H''):=by
  intro pins s σ H D I ⟨q,hl,hq,hlam,Φ,hcall,hk⟩
  refine wpAny_Try_except ?_
  let E':Value->y04->Prop:=fun e s₁=>y0u (model X.prog X.w) X.A (noteFrame e X.env) (fun _ s₂=>y0u (model X.prog X.w) X.A (setFlight e none) (fun _ s₃=>y0u (model X.prog X.w) X.A (handleBy e X.env [.ExceptHandler (some (.Name "DoorError" np)) (some "e") (b₀::suite) hpos]) (L2.SP X pins D) X.xe s₃) X.xe s₂) X.xe s₁
  refine y1e (hbody (X.pn++pins) E' [] s σ H { nx:=fun _ _=>False,rt:=fun _ _=>False } (zod I E') ⟨q,hq,hlam,fun pins2 s2 I2=>?_⟩) (fun f s1 hs=>?_) fun e s1 he=>he
  ·refine codeAny_mono (hcall (pins) s2 (zds I.ok I2)) fun r s' hr=>?_
   cases r with
   | ok fl =>
    cases fl with
    | ret u=>exact hr
    | next=>exact hr
    | brk=>exact hr
    | cont=>exact hr
   | error e =>
    obtain⟨C1,H',fl,e1,ph⟩:=hr
    cases e1
    refine⟨C,H',fl,C,rfl,fun pins3 σ3 H3 s3 e3 s4 I3 fl3=>?_⟩
    have J:=zds I.ok I3
    have l3:σ3.length=4:=by rw[J.len,hlen]
    refine zrk (i:=2) J fl3 hm h1 h2 h3 hc hsuite (fun ea hea=>zj8 kk (ea:=ea) (by simp[l3]) (List.getElem?_set_self (by omega)) z0e fun H'' p σ' g hp hl' h1'=>?_) hN hi hlo hst hf hg (by decide)
    refine hk H' ph H'' p _ ((Grow.laid hea).trans g) hp ?_
    rw[List.getElem?_set_ne (by decide)]
    exact h1'
  ·cases f with
   | next=>obtain⟨_,_,_,z⟩:=hs;exact y20 z
   | brk=>obtain⟨_,_,_,z⟩:=hs;exact y20 z
   | cont=>obtain⟨_,_,_,z⟩:=hs;exact y20 z
   | ret u=>obtain⟨_,_,_,_,_,z⟩:=hs;exact y20 z
 refine zed (z73 htry (z9u (zd2 hret))) fun D σ H ⟨q,hl,hq,hlam,Φ,hcall,hk⟩=>?_
 exact⟨q,hl,hq,hlam,Φ,hcall,fun H' ph H'' p σ'' g hp h1'=>⟨_,h1',hk H' ph H'' p g hp⟩⟩
def z96 (f:Fx) (r:Fz) (j:Nat):Fx:=fun ε=>if r ε=true then some (.tuple [.str "refused",.int j],ε) else zpu f ε
theorem zj7 {X:Cx} {k:Nat} {x:Str} {st:Stmt} {fa:Addr} {fd:y0b} {y0 y1 y2 y3:Str} {params:Arguments} {body:Expr} {scope:Scope} {lpos p pos:Pos} {c Pt C:Addr} {f:Fx} {r:Fz} {j:Nat}
  (F:Fun X.K x x st fa fd) (S:FnScope [y0,y1,y2,y3] [y0] (z01 st)) (bd:z3d X.K fd [y0] []) (hm:X.mg x=some (.ref fa))
  (ht:∀(cdv:Value) (A:Around) (outer:List Env) (s:y04) (H:Hp),PSs (cxOf CX0 X.prog X.w X.K X.mg X.base [y0,y1,y2,y3] x (z01 st) fa cdv A outer s H E0).nox (z0o st) (ztc (cxOf CX0 X.prog X.w X.K X.mg X.base [y0,y1,y2,y3] x (z01 st) fa cdv A outer s H E0).nox))
  (hz:∀(cdv:Value) (A:Around) (outer:List Env) (s:y04) (H:Hp),PSs (cxOf CX0 X.prog X.w X.K X.mg X.base [y0,y1,y2,y3] x (z01 st) fa cdv A outer s H E0).nox (z0o st) (zkc (cxOf CX0 X.prog X.w X.K X.mg X.base [y0,y1,y2,y3] x (z01 st) fa cdv A outer s H E0).nox C j))
  (hcode:X.env.code=.ref c) (hcd:PySem.W.codeHdIn X.K c Pt=true) (hbm:BM X.mg X.base) {qn:Str} (htb:(Pt,qn)∈Tbl.tb) (hun:∀p∈Tbl.tb,p.1=Pt->p.2=qn)
  (hr:Room (k+2) X.A)
  (hb:∀(q c':Addr) (cl:List (Str×Addr)) (A:Around) (outer:List Env) (s:y04) (H:Hp),Room k (A.deeper (envL (X.env.qual++"<lambda>") scope s.heap.objs.size q (.ref c') cl))->PEx (cxL X.prog X.w X.K X.mg X.base X.N (X.env.qual++"<lambda>") scope q (.ref c') cl A outer s H) body f)
  (hbz:∀(q c':Addr) (cl:List (Str×Addr)) (A:Around) (outer:List Env) (s:y04) (H:Hp) (E:XK),Room k (A.deeper (envL (X.env.qual++"<lambda>") scope s.heap.objs.size q (.ref c') cl))->PEz (cxLZ X.prog X.w X.K X.mg X.base X.N (X.env.qual++"<lambda>") scope q (.ref c') cl A outer s H E) C body r)
  (hsc:(decide (scope.kind=.function) && !scope.isCoroutine && !scope.isGenerator && scope.names.all fun y=>decide (y.2≠.cell) && decide (y.2≠.local))=true:=by rfl)
  (hfr:(scope.names.all fun y=>decide (y.2≠.free) || decide (X.env.scope.names.lookup y.1=some .cell))=true:=by rfl)
  (bdl:∀(cl:List (Str×Addr)) (pm:Value) (c':Addr) (ctv:Value),bindArgs (PySem.W.kla_fn "<lambda>" (X.env.qual++"<lambda>") params body scope cl pm (.ref c') ctv) ⟨[],[]⟩=pure []:=by intros;rfl)
  (hg:Gl X x:=by rfl) (hdb:(x == ("__debug__":Str))=false:=by decide) (hdef:defaultsOf params X.env=([],[]):=by rfl)
  (he:y0a [.Lambda params body scope lpos] X.env=(false,eval (.Lambda params body scope lpos) X.env)::y0a [] X.env:=by rfl) (hqn:X.env.qual++"<lambda>"=qn:=by rfl) :
  PEx X (.Call (.Name x p) [.Lambda params body scope lpos] [] pos) (z96 f r j):=by
 subst hqn
 simp only[y1c,Bool.not_eq_true',decide_eq_true_eq,List.all_eq_true] at hsc
 obtain⟨⟨⟨hk,hco⟩,hgen⟩,hnc⟩:=hsc
 simp only[List.all_eq_true,Bool.or_eq_true,decide_eq_true_eq] at hfr
 have hfr':∀y∈scope.names,y.2=.free->X.env.scope.names.lookup y.1=some .cell:=fun y hy hf=>by
  rcases hfr y hy with z|z
  ·exact absurd hf z
  ·exact z
 intro pins s σ H Q I ⟨F₀,E,O,F',ε,t,ε',rl,e,kk⟩
 have Chd:=PySem.W.codeHd_of_K I.ok.mod.kin hcd
 unfold z96 at e
 by_cases er:r ε=true
 case neg =>
  rw[if_neg er] at e
  exact zvd F S bd hm ht hcode Chd hbm htb hun hk hco hgen (fun y hy=>hnc y hy) hfr' bdl hr hb hg hdb hdef he pins s σ H Q I ⟨F₀,E,O,F',ε,t,ε',rl,e,kk⟩
 rw[if_pos er] at e
 cases e
 refine wpAny_Call_Name_kw (z9y I hg hm ?_ hdb)
 refine PySem.W.callWith_K (h₀:=X.base) I.ok.mod.kin F.kp ?_ he rfl
 rw[he]
 show y0u _ _ (spliced ((false,eval (.Lambda params body scope lpos) X.env)::[])) _ _ s
 have hl:∀x∈scope.names,x.2=.free->∃c,X.env.cells.lookup x.1=some c:=fun x hx hf=>I.ok.has x.1 (.inl (hfr' x hx hf))
 refine Calls.spliced_cons (zkx I hcode Chd hbm hdef (z7i hl) rl.dom.tgs htb hun fun q c' ctv H1 s1 I1 sm tb1 hqn hq hc=>Calls.spliced_nil ⟨I1.kIn,?_⟩)
 have x1:Ext F' H F' H1:=⟨sm,fun _ h=>h,fun _ h=>.inl h,⟨fun a ha=>by
  obtain⟨o,ho⟩:=rl.dom.dm a ha
  exact sm.ne ho,tb1⟩⟩
 have fin:codeAny (model X.prog X.w) X.A (.call (.ref fa) ⟨[.ref q],[]⟩) (CR CX0 X.stack X.prog X.w H1 s1 Q E0) s1:=by
  refine zl2 (k:=k+1) (vs:=[.ref q]) F S bd hr I1.env0 (.cons rfl .nil) rfl fun cdv hr2=>⟨_,hz cdv X.A X.stack s1 H1,?_⟩
  refine⟨q,rfl,rfl,⟨_,_,hq,rfl⟩,fun H'=>∃F2,Ext F' H1 F2 H',fun pins2 s2 I2=>?_,?_⟩
  ·have caps:Caps X.N scope (clos X.env scope.names []) σ H1 s2.heap:=by
    have c1:=zp5 I1 hnc hfr'
    have kp:∀{a:Addr} {v:Option Value},s1.heap.IsCell a v->H1 a=none->s2.heap.IsCell a v:=fun {a v} z n=>zi1 I2.base z n (by intro z;exact absurd (show a∈([]:List Addr) from z) (by simp))
    refine⟨c1.inj,c1.has,fun x c h=>?_,c1.len,fun i x v h1 h2 h3=>?_⟩
    ·obtain⟨⟨v,hv⟩,hn⟩:=c1.cel x c h
     exact⟨⟨v,kp hv hn⟩,hn⟩
    ·obtain⟨u,c,ru,hf,hc2,hx⟩:=c1.val i x v h1 h2 h3
     exact⟨u,c,ru,hf,hc2,kp hx (c1.cel x c hc2).2⟩
   exact zo1 hk hco hgen (fun x hx=>(hnc x hx).1) (hbz q c' _) (bdl _ _ _ _) hr2 I2.env0 hq hc caps ⟨F₀,E,O,F',ε,rl.ext x1,er,fun F2 H2 x2=>⟨rfl,F2,x2⟩⟩
  ·rintro H' ⟨F2,x2⟩ H'' p g hp
   have x3:=g F2 x2.dom
   refine kk _ F2 _ ((x1.trans x2).trans x3).kp (rl.ext ((x1.trans x2).trans x3)) ?_
   simp only[Rep]
   exact⟨p,_,rfl,SqT.of hp,RepL.cons (by simp[Rep]) (RepL.cons (by simp[Rep]) RepL.nil)⟩
 refine wpAny_call (codeAny_mono fin fun r s' hq=>?_)
 cases r with
 | error e=>exact y20 hq
 | ok fl =>
  cases fl with
  | ret u=>exact I1.after hq
  | next=>exact y20 hq
  | brk=>exact y20 hq
  | cont=>exact y20 hq
end
section
variable [Tbl]
noncomputable def zls (a:Str):T->Option T
 | .str x=>if (reprText x).length<=10000/\a.length<=1000 then some (.str (Str.empty++a++reprText x)) else none
 | .int i=>if i.natAbs<1000/\a.length<=1000 then some (.str (Str.empty++a++Str.ofString (toString i))) else none
 | _=>none
theorem zw4 {X:Cx} {e:Expr} {f:Fe} {a:Str} {j:Nat} {p1 p2 p3:Pos} (he:PEr X e f):PEv X (.JoinedStr [.Constant (.str a) j p1,.FormattedValue e 114 none p2] p3) (op1 (zls a) f):=by
 intro pins s σ H Q I ⟨F₀,E,O,F,ε,t,r,e1,k⟩
 simp only[op1,y01] at e1
 obtain⟨x,ex,e1⟩:=e1
 have emp:∀y:Str,(Str.empty++y).length=y.length:=fun y=>by rw[strLen_append];simp[Str.empty,Str.length]
 have app:∀y z:Str,(Str.empty++y++z).length=y.length+z.length:=fun y z=>by rw[strLen_append,emp]
 refine wpAny_JoinedStr ?_
 refine Calls.Constant_str ⟨a,_,rfl,?_,?_⟩
 ·rw[emp,sizeLine_eq]
  unfold zls at e1
  split at e1
  ·split at e1
   next h=>have:=h.2;omega
   next=>cases e1
  ·split at e1
   next h=>have:=h.2;omega
   next=>cases e1
  ·cases e1
 show y0u _ _ (eval (.FormattedValue e 114 none p2) X.env) _ _ _
 refine wpAny_FormattedValue_repr ?_
 refine thn (he pins _ σ H (fun v H1=>∃F1,Ext F H F1 H1/\RepR X.K O F1 H1 x v) (I.tok _) ⟨F₀,E,O,F,ε,x,r,ex,fun v F' H' x' rv=>⟨F',x',rv⟩⟩) fun u s1 ⟨v,H1,I1,rv,F1,x1,rx⟩=>?_
 cases x with
 | str y =>
  simp only[zls] at e1
  split at e1
  next h =>
   cases e1
   have ev:=rx.str
   subst ev
   obtain⟨tk,rfl⟩:=rv
   have h1:=h.1
   have h2:=h.2
   refine wpAny_pyReprObj_str ?_ (by rw[sizeLine_eq];omega)
   have fin:∀(tt:Tok) (ss:y04),Inv X pins σ H1 ss->∃y_1 t,Value.str (reprText y) tt=Value.str y_1 t/\(Str.empty++a++y_1).length<=y0k/\Joins (model X.prog X.w) X.A X.xe [] (Str.empty++a++y_1) (fun out s₁=>out.length<=y0k/\EP X pins σ Q (.str out s₁.toks) { s₁ with toks:=s₁.toks+1 }) ss:=fun tt ss Is=>by
    have hz:(Str.empty++a++reprText y).length<=y0k:=by rw[app,sizeLine_eq];omega
    exact⟨_,_,rfl,hz,hz,⟨.str _,H1,Is.tok _,⟨_,rfl⟩,k _ F1 H1 x1 (by simp[Rep])⟩⟩
   exact wpAny_formatField_str (fin _ _ (I1.tok _)) (fin _ _ ((I1.tok _).tok _)) (by rw[sizeLine_eq];omega)
  next=>cases e1
 | int i =>
  simp only[zls] at e1
  split at e1
  next h =>
   cases e1
   have ev:=rx.int
   subst ev
   obtain⟨tk,rfl⟩:=rv
   have h1:=h.1
   have h2:=h.2
   have hd:i.natAbs.log2<1920:=by
    by_cases h0:i.natAbs=0
    ·rw[h0];decide
    ·exact y0x ((Nat.log2_lt h0).mpr (show i.natAbs<2 ^ 10 by omega)) (by decide)
   have hln:(Str.ofString (toString i)).length<=4300:=by
    have e:=int_text_length_le10 (k:=3) (by decide) (show i.natAbs<10 ^ 3 from h1)
    rw[PySem.ofString_length]
    omega
   refine wpAny_pyReprObj_gives (typeIs_int _ i tk) PySem.F.slot_int_repr PySem.F.entry_int_repr (PySem.F.args_int_repr_1 _) (gives_int_repr i tk hd) ?_ rfl (by rw[sizeLine_eq];exact y1s hln (by omega))
   have fin:∀(tt:Tok) (ss:y04),Inv X pins σ H1 ss->∃y_1 t,Value.str (Str.ofString (toString i)) tt=Value.str y_1 t/\(Str.empty++a++y_1).length<=y0k/\Joins (model X.prog X.w) X.A X.xe [] (Str.empty++a++y_1) (fun out s₁=>out.length<=y0k/\EP X pins σ Q (.str out s₁.toks) { s₁ with toks:=s₁.toks+1 }) ss:=fun tt ss Is=>by
    have hz:(Str.empty++a++Str.ofString (toString i)).length<=y0k:=by rw[app,sizeLine_eq];omega
    exact⟨_,_,rfl,hz,hz,⟨.str _,H1,Is.tok _,⟨_,rfl⟩,k _ F1 H1 x1 (by simp[Rep])⟩⟩
   exact wpAny_formatField_str (fin _ _ (I1.tok _)) (fin _ _ ((I1.tok _).tok _)) (by rw[sizeLine_eq];omega)
  next=>cases e1
 | none=>cases e1
 | bool b=>cases e1
 | tuple b=>cases e1
 | list b=>cases e1
 | dict b=>cases e1
end
section
noncomputable def zlr (K:y00) (CD cz cw cd ct C:Addr) (b0 b1 b2 b3:Bool):Bool :=
 (PySem.W.clsIn K C).isSome && (y0d K (.ref C) "__getattribute__" == some (some (.builtin "BaseException.__getattribute__"))) && (y0d K (.ref C) "__getattr__" == some none)
 && (y0d K (.ref C) "__class__" == some (some (.builtin "object.__class__"))) && (PySem.W.specialIn K (.builtin "object.__class__") "__get__" == some (some (.builtin "getset_descriptor.__get__")))
 && (PySem.W.takesIn K (.builtin "object.__class__") == some true) && (PySem.W.mroIn K C (.type "object") == some true) && (PySem.W.mroIn K C (.type "BaseException") == some true)
 && (PySem.W.mroIn K C (.ref CD) == some true) && PySem.W.excIn K C bmV "ValueError.__new__"
 && (PySem.W.kitOne K (.ref C) (.ref cz) == some b0) && (PySem.W.kitOne K (.ref C) (.ref cw) == some b1) && (PySem.W.kitOne K (.ref C) (.ref cd) == some b2) && (PySem.W.kitOne K (.ref C) (.ref ct) == some b3)
 && (PySem.W.kitOne K (.ref C) (.type "ValueError") == some true)
def zov (K:y00) (CD:Addr):Bool:=(PySem.W.typeIn K (.ref CD) == some (.type "type")) && (PySem.W.mroIn K CD (.type "BaseException") == some true) && (PySem.W.clsIn K CD).isSome
structure Ref1 (K:y00) (CD cz cw cd ct C:Addr) (j:Nat):Prop where
 ok:ExcOk K C
 mro:PySem.W.mroIn K C (.ref CD)=some true
 new:PySem.W.excIn K C bmV "ValueError.__new__"=true
 kinds:∃bs,Kinds K C cz cw cd ct bs j
theorem zn8 {K:y00} {CD cz cw cd ct C:Addr} {b0 b1 b2 b3:Bool} {j:Nat} (h:zlr K CD cz cw cd ct C b0 b1 b2 b3=true) (one:[b0,b1,b2,b3].countP id=1) (hit:[b0,b1,b2,b3][j]?=some true) (no:∀m,m<j->[b0,b1,b2,b3][m]?=some false) :
  Ref1 K CD cz cw cd ct C j:=by
 unfold zlr at h
 simp only[y1c,beq_iff_eq] at h
 obtain⟨⟨⟨⟨⟨⟨⟨⟨⟨⟨⟨⟨⟨⟨h1,h2⟩,h3⟩,h4⟩,h5⟩,h6⟩,h7⟩,h8⟩,h9⟩,h10⟩,h11⟩,h12⟩,h13⟩,h14⟩,h15⟩:=h
 exact⟨⟨h1,h2,h3,h4,h5,h6,h7,h8⟩,h9,h10,_,⟨b0,b1,b2,b3,rfl,h11,h12,h13,h14⟩,h15,one,hit,no⟩
theorem zy2 {K:y00} {CD cz cw cd ct:Addr} (h:zlr K CD cz cw cd ct cz true false false false=true):Ref1 K CD cz cw cd ct cz 0:=zn8 h rfl rfl fun m hm=>by omega
theorem zy3 {K:y00} {CD cz cw cd ct:Addr} (h:zlr K CD cz cw cd ct cd false false true false=true):Ref1 K CD cz cw cd ct cd 2:=zn8 h rfl rfl fun m hm=>by
 match m,hm with
 | 0,_=>rfl
 | 1,_=>rfl
structure Names (K:y00) (mg:Str->Option Value) (CD cz cw cd ct:Addr):Prop where
 door:mg "DoorError"=some (.ref CD)
 nz:mg "NoZone"=some (.ref cz)
 nw:mg "NoWay"=some (.ref cw)
 nd:mg "NoDeed"=some (.ref cd)
 nt:mg "NoText"=some (.ref ct)
 isi:mg "isinstance"=none
 val:mg "ValueError"=none
 ok:zov K CD=true
section
variable [Tbl] {X:Cx} {C CD cz cw cd ct:Addr} {j:Nat} {pos p p1:Pos}
theorem zhh {ec:Expr} {c:V} (O:ExcOk X.K C) (z:X.mg "isinstance"=none) (he:PE X (.Name "e" p1) (tVar 2)) (hc:PE X ec (tC c)) (hg:Gl X "isinstance":=by rfl)
  (hs:y0a [.Name "e" p1,ec] X.env=(false,eval (.Name "e" p1) X.env)::y0a [ec] X.env:=by rfl) (hs2:y0a [ec] X.env=(false,eval ec X.env)::y0a [] X.env:=by rfl)
  (hpl:(backTo pos (y0a [ec] X.env)).any (·.1)=false:=by rfl) :
  PE X (.Call (.Name "isinstance" p) [.Name "e" p1,ec] [] pos) (tIsi X.K C c):=zca (zxa O) hg z PyProof.Rows.Boot.«isinstance» (z0r he (z0r hc z38 hs2) hs) (he:=hs) (hpl:=hpl)
theorem zvg {body suite:List Stmt} {b₀:Stmt} {np pos hpos rpos npos:Pos} (N:Names X.K X.mg CD cz cw cd ct) (R:Ref1 X.K CD cz cw cd ct C j)
  (hbody:∀(pn:List (Addr×Obj)) (E:Value->y04->Prop),PSs (Cx.bears X pn E) body (tAsg (tTup (z6h (tC (.str "told")) (z6h (zmt (Cx.bears X pn E) C 0) tNil))) (zi3 1)))
  (hsuite:∀ea,PSs (Cx.inX X ea) (b₀::suite) (zms X.K C cz cw cd ct)) (hret:PE X (.Name "_law_found" npos) (tVar 1))
  (hN:X.N.Nodup) (hi:X.N[2]?=some ("e":Str):=by rfl) (hlen:X.N.length=4:=by rfl) (hlo:X.env.kindOf "e"=some .local:=by rfl) (hst:X.stack=X.env::X.outer:=by rfl) (hf:X.env.frame=some X.env.locals:=by rfl) (hg:Gl X "DoorError":=by rfl) :
  PSs X [.Try body [.ExceptHandler (some (.Name "DoorError" np)) (some "e") (b₀::suite) hpos] [] [] pos,.Return (some (.Name "_law_found" npos)) rpos] (zkc X C j):=by
 have ok:=N.ok
 unfold zov at ok
 simp only[y1c,beq_iff_eq] at ok
 obtain⟨⟨h1,h2⟩,h3⟩:=ok
 obtain⟨bs,kk⟩:=R.kinds
 exact zqf hbody hsuite kk N.door h1 h2 R.mro h3 hret hN hi hlen hlo hst hf hg
end
end
end D
end
section
namespace Co
open D
def zix:Fs :=
  (seq (for_ (z3v (op2 oIx (nm 0) (cst (.int 0)))) (gNm 2)
  (iff (tstB (op2 oEq (op2 oIx (nm 2) (cst (.int 0))) (nm 1))) (rtn (op2 oIx (nm 2) (cst (.int 1)))) skip))
  zhq)
def z3a:List T->Option T:=runF zix 3
noncomputable def zpi:Fs :=
  (seq (asg 1 (opN z31 [(comp 1 [] (z3v (op2 oIx (nm 0) (cst (.int 0)))) (gNm 0) (cstT true) (cst (.str "shut")))]))
  (seq (asg 2 (opN z31 [(comp 1 [] (z3v (op2 oIx (nm 0) (cst (.int 1)))) (gNm 0) (cstT true) (cst (.int 0)))]))
  (rtn (z09 [(cst (.str "off")),(cst (.int 0)),(cst .none),(nmV 1),(z09 []),(cst (.int 0)),(z09 []),(cst (.int 0)),(cst (.int 0)),(nmV 2)]))))
def z33:List T->Option T:=runF zpi 3
def ziy:Fs :=
  (seq (for_ (z3v (op2 oIx (nm 0) (cst (.int 1)))) (gNm 2)
  (iff (tstB (op2 oEq (op2 oIx (nm 2) (cst (.int 0))) (nm 1))) (rtn (nm 2)) skip))
  (rtn (cst .none)))
def z8j:List T->Option T:=runF ziy 3
def zfn:Fs :=
  (rtn (opN oMax [(op2 oSub (nm 0) (nm 1)),(cst (.int 0))]))
def z4k:List T->Option T:=runF zfn 2
noncomputable def z6v:Fs :=
  (seq (asgF 0 0 0 (nmV 1))
  (seq (asgF 0 0 1 (op2 oIx (nm 2) (cst (.int 0))))
  (seq (asgF 0 0 2 (op2 oIx (nm 2) (cst (.int 1))))
  (seq (asgF 0 0 3 (op2 oIx (nm 2) (cst (.int 2))))
  (seq (zmf 0 0 4 (comp 1 [] (z3v (op2 oIx (nm 1) (cst (.int 0)))) (gNm 0) (cstT true) (op2 oIx (nm 0) (cst (.int 0)))) (op2 oIx (nm 2) (cst (.int 3))))
  (seq (z8p 0 0 5 (op1 zf1 (op2 oIx (nm 2) (cst (.int 4)))))
  (seq (asgF 0 0 6 (op2 oIx (nm 2) (cst (.int 5))))
  (seq (z8p 0 0 7 (op1 zf1 (op2 oIx (nm 2) (cst (.int 6)))))
  (seq (asgF 0 0 8 (op2 oIx (nm 2) (cst (.int 7))))
  (seq (asgF 0 0 9 (op2 oIx (nm 2) (cst (.int 8))))
  (seq (zmf 0 0 10 (comp 1 [] (z3v (op2 oIx (nm 1) (cst (.int 1)))) (gNm 0) (cstT true) (op2 oIx (nm 0) (cst (.int 0)))) (op2 oIx (nm 2) (cst (.int 9))))
  (seq (asgF 0 0 11 (cst (.int 0)))
  (z8p 0 0 12 (z3j []))))))))))))))
def z28:List Sl->Option (T×List Sl):=runM 0 0 z6v 3
noncomputable def z9l:Fs :=
  (seq (asg 1 (zor 0 0 4))
  (seq (asg 2 (opN z31 [(fld 0 0 5)]))
  (seq (asg 3 (opN z31 [(fld 0 0 7)]))
  (seq (asg 4 (zor 0 0 10))
  (rtn (z09 [(fldV 0 0 1),(fldV 0 0 2),(fldV 0 0 3),(nmV 1),(nmV 2),(fldV 0 0 6),(nmV 3),(fldV 0 0 8),(fldV 0 0 9),(nmV 4)]))))))
def z1x:List Sl->Option T:=runR z9l 5
def zay:Fs :=
  (appF 0 0 12 (z09 [(fldV 0 0 11),(nmV 1),(nmV 2)]))
def z06:List Sl->Option (T×List Sl):=runM 0 0 zay 3
def z7y:Fs :=
  (asgF 0 0 6 (op2 oIx (op2 oIx (fld 0 0 0) (cst (.int 2))) (cst (.int 2))))
def z1e:List Sl->Option (T×List Sl):=runM 0 0 z7y 1
noncomputable def z6g:Fs :=
  (seq (exX (z0k 0 z1e 0 []))
  (iff (tstB (op2 (oIn true) (nm 1) (fld 0 0 7))) (seq (appF 0 0 7 (nmV 1))
  (exX (z0k 0 z06 0 [(cst (.str "alarm")),(nmV 1)]))) skip))
def z0h:List Sl->Option (T×List Sl):=runM 0 0 z6g 2
noncomputable def z3i:Fs :=
  (seq (iff (orT (tstB (op2 oNe (nm 2) (cst (.str "way")))) (tstB (op2 oLe (op2 oIx (op2 oIx (fld 0 0 0) (cst (.int 2))) (cst (.int 1))) (cst (.int 0))))) (seq (exX (z0k 0 z0h 0 [(nmV 1)]))
  zg3) skip)
  (seq (asgF 0 0 1 (cst (.str "coming")))
  (seq (asgF 0 0 2 (op2 oIx (op2 oIx (fld 0 0 0) (cst (.int 2))) (cst (.int 1))))
  (seq (asgF 0 0 3 (nmV 1))
  (exX (z0k 0 z06 0 [(cst (.str "coming")),(nmV 1)]))))))
def z1d:List Sl->Option (T×List Sl):=runM 0 0 z3i 3
noncomputable def z7x:Fs :=
  (seq (asg 3 (opN z3a [(fldV 0 0 0),(nmV 1)]))
  (iff (tstB (op2 oEq (nm 3) (cst (.str "day")))) (exX (z0k 0 z0h 0 [(nmV 1)])) (iff (tstB (op2 oEq (fld 0 0 1) (cst (.str "off")))) (iff (tstB (op2 oEq (nm 2) (cst (.str "cut")))) (exX (z0k 0 z06 0 [(cst (.str "fault")),(nmV 1)])) skip) (iff (orT (tstB (op2 oEq (nm 2) (cst (.str "cut")))) (tstB (op2 oEq (nm 3) (cst (.str "once"))))) (exX (z0k 0 z0h 0 [(nmV 1)])) (iff (tstB (op2 oEq (fld 0 0 1) (cst (.str "on")))) (exX (z0k 0 z1d 0 [(nmV 1),(nmV 3)])) skip)))))
def z2k:List Sl->Option (T×List Sl):=runM 0 0 z7x 4
noncomputable def zaz:Fs :=
  (seq (asg 3 (fGet 0 0 4 (nm 1)))
  (seq (iff (tstB (op2 oEq (nm 2) (nm 3))) zg3 skip)
  (seq (zhd 0 0 4 (nm 1) (nmV 2))
  (iff (tstB (op2 oEq (nm 2) (cst (.str "shut")))) (iff (tstB (op2 oEq (nm 3) (cst (.str "cut")))) (exX (z0k 0 z06 0 [(cst (.str "mended")),(nmV 1)])) skip) (iff (tstB (op2 (oIn true) (nm 1) (fld 0 0 5))) (exX (z0k 0 z2k 0 [(nmV 1),(nmV 2)])) skip)))))
def z46:List Sl->Option (T×List Sl):=runM 0 0 zaz 4
def z3s:Fs :=
  (rtn (andV (op2 oNe (op2 oIx (nm 1) (cst (.int 3))) (cst (.int 0))) (op2 oGe (fGet 0 0 10 (op2 oIx (nm 1) (cst (.int 0)))) (op2 oIx (nm 1) (cst (.int 3))))))
def z17:List Sl->Option T:=runR z3s 2
noncomputable def z3q:Fs :=
  (seq (exX (z0k 0 z06 0 [(cst (.str "wrong")),(cst .none)]))
  (seq (augF 0 0 8 (cst (.int 1)))
  (iff (tstB (op2 oGe (fld 0 0 8) (cst (.int 3)))) (seq (asgF 0 0 8 (cst (.int 0)))
  (seq (asgF 0 0 9 (cst (.int 90)))
  (seq (exX (z0k 0 z1e 0 []))
  (exX (z0k 0 z06 0 [(cst (.str "attack")),(cst .none)]))))) skip)))
def z15:List Sl->Option (T×List Sl):=runM 0 0 z3q 1
noncomputable def z0q:Fs :=
  (seq (iff (tstB (op2 oEq (nm 1) (cst (.str "unset")))) (rtn (cst (.bool false))) skip)
  (seq (iff (tstB (op2 oNe (fld 0 0 1) (cst (.str "off")))) (rtn (cst (.bool true))) skip)
  (seq (iff (tstB (op2 oEq (nm 1) (cst (.str "shunt")))) (rtn (orV (op2 oEq (opN z3a [(fldV 0 0 0),(nmV 2)]) (cst (.str "day"))) (op2 (oIn false) (nm 2) (fld 0 0 5)))) skip)
  (rtn (andV (op2 oEq (nm 1) (cst (.str "free"))) (op2 (oIn true) (nm 2) (fld 0 0 5)))))))
def z0g:List Sl->Option T:=runR z0q 3
noncomputable def z5x:Fs :=
  (seq (asg 2 (comp 1 [1] (z3v (op2 oIx (fld 0 0 0) (cst (.int 0)))) (gNm 0) (tstB (op2 (oIn false) (op2 oIx (nm 0) (cst (.int 1))) (nm 1))) (op2 oIx (nm 0) (cst (.int 0)))))
  (rtn (comp 1 [0] (z3v (nmV 2)) (gNm 0) (andT (tstB (op2 oNe (fGet 0 1 4 (nm 0)) (cst (.str "shut")))) (tstB (op2 (oIn true) (nm 0) (fld 0 1 5)))) (nmV 0))))
def z0v:List Sl->Option T:=runR z5x 3
noncomputable def z3u:Fs :=
  (seq (asg 4 (ifE (tstB (op2 oEq (nm 2) (cst (.str "free")))) (cst (.str "shunt")) (nmV 2)))
  (seq (iff (tstB (op2 (oIn true) (nm 4) (op2 oIx (nm 1) (cst (.int 2))))) (rtn (z09 [(cst (.str "denied")),(op2 oIx (nm 1) (cst (.int 1)))])) skip)
  (seq (iff (tstB (z1s 0 z0g 0 [(nmV 2),(nmV 3)])) (rtn (z09 [(cst (.str "no")),(op2 oIx (nm 1) (cst (.int 1)))])) skip)
  (seq (asg 5 (z1s 0 z0v 0 [(cst (.tuple (z6i ["day","once"])))]))
  (seq (iff (andT (tstB (op2 oEq (nm 2) (cst (.str "set")))) (tstL (nm 5))) (rtn (z09 [(cst (.str "open")),(op2 oIx (nm 5) (cst (.int 0)))])) skip)
  (rtn (cst .none)))))))
def z0x:List Sl->Option T:=runR z3u 6
noncomputable def z5c:Fs :=
  (seq (asgF 0 0 1 (cst (.str "on")))
  (seq (asgF 0 0 2 (cst (.int 0)))
  (seq (exX (z0k 0 z06 0 [(cst (.str "on")),(cst .none)]))
  (for_ (z3v (z1s 0 z0v 0 [(cst (.tuple (z6i ["inner","way"])))])) (gNm 1)
  (exX (z0k 0 z0h 0 [(nmV 1)]))))))
def z0p:List Sl->Option (T×List Sl):=runM 0 0 z5c 2
noncomputable def z5v:Fs :=
  (seq (z8p 0 0 7 (z3j []))
  (seq (asgF 0 0 6 (cst (.int 0)))
  (seq (asgF 0 0 1 (cst (.str "leaving")))
  (seq (asgF 0 0 2 (op2 oIx (op2 oIx (fld 0 0 0) (cst (.int 2))) (cst (.int 0))))
  (seq (exX (z0k 0 z06 0 [(cst (.str "set")),(nmV 1)]))
  (iff (tstB (op2 oLe (fld 0 0 2) (cst (.int 0)))) (exX (z0k 0 z0p 0 [])) skip))))))
def z27:List Sl->Option (T×List Sl):=runM 0 0 z5v 2
noncomputable def z6u:Fs :=
  (seq (asgF 0 0 1 (cst (.str "off")))
  (seq (asgF 0 0 2 (cst (.int 0)))
  (seq (asgF 0 0 6 (cst (.int 0)))
  (seq (asgF 0 0 3 (cst .none))
  (seq (z8p 0 0 5 (z3j []))
  (exX (z0k 0 z06 0 [(cst (.str "unset")),(nmV 1)])))))))
def z26:List Sl->Option (T×List Sl):=runM 0 0 z6u 2
noncomputable def z2n:Fs :=
  (iff (tstB (op2 oEq (nm 2) (cst (.str "set")))) (exX (z0k 0 z27 0 [(nmV 1)])) (iff (tstB (op2 oEq (nm 2) (cst (.str "unset")))) (exX (z0k 0 z26 0 [(nmV 1)])) (iff (tstB (op2 oEq (nm 2) (cst (.str "shunt")))) (seq (z8p 0 0 5 (op1 zcb (op2 oAdd (fld 0 0 5) (z3j [(nmV 3)]))))
  (exX (z0k 0 z06 0 [(cst (.str "shunt")),(nmV 3)]))) (seq (rmF 0 0 5 (nmV 3))
  (exX (z0k 0 z06 0 [(cst (.str "free")),(nmV 3)]))))))
def z11:List Sl->Option (T×List Sl):=runM 0 0 z2n 4
noncomputable def z3r:Fs :=
  (seq (asg 4 (z1s 0 z0x 0 [(nmV 1),(nmV 2),(nmV 3)]))
  (iff (tstB (op1 oIsN (nm 4))) (seq (ziz 0 0 10 (op2 oIx (nm 1) (cst (.int 0))) (cst (.int 1)))
  (exX (z0k 0 z11 0 [(op2 oIx (nm 1) (cst (.int 1))),(nmV 2),(nmV 3)]))) (exX (z0k 0 z06 0 [(op2 oIx (nm 4) (cst (.int 0))),(op2 oIx (nm 4) (cst (.int 1)))]))))
def z16:List Sl->Option (T×List Sl):=runM 0 0 z3r 5
noncomputable def z4a:Fs :=
  (seq (asg 4 (opN z8j [(fldV 0 0 0),(nmV 1)]))
  (iff (tstB (op2 oGt (fld 0 0 9) (cst (.int 0)))) (exX (z0k 0 z06 0 [(cst (.str "locked")),(cst .none)])) (iff (orT (tstB (op1 oIsN (nm 4))) (tstB (z1s 0 z17 0 [(nmV 4)]))) (exX (z0k 0 z15 0 [])) (seq (asgF 0 0 8 (cst (.int 0)))
  (exX (z0k 0 z16 0 [(nmV 4),(nmV 2),(nmV 3)]))))))
def z1u:List Sl->Option (T×List Sl):=runM 0 0 z4a 5
noncomputable def z5w:Fs :=
  (seq (augF 0 0 11 (nmV 1))
  (seq (asgF 0 0 9 (opN z4k [(fldV 0 0 9),(nmV 1)]))
  (seq (asgF 0 0 6 (opN z4k [(fldV 0 0 6),(nmV 1)]))
  (asgF 0 0 2 (opN z4k [(fldV 0 0 2),(nmV 1)])))))
def z0u:List Sl->Option (T×List Sl):=runM 0 0 z5w 2
def z5u:Fs :=
  (seq (asg 1 (fldV 0 0 3))
  (seq (asgF 0 0 1 (cst (.str "on")))
  (seq (asgF 0 0 3 (cst .none))
  (exX (z0k 0 z0h 0 [(nmV 1)])))))
def z1n:List Sl->Option (T×List Sl):=runM 0 0 z5u 2
def z4o:Fs :=
  (iff (tstB (op2 oEq (fld 0 0 1) (cst (.str "leaving")))) (exX (z0k 0 z0p 0 [])) (exX (z0k 0 z1n 0 [])))
def z1j:List Sl->Option (T×List Sl):=runM 0 0 z4o 1
noncomputable def z3c:Fs :=
  (seq (iff (tstB (op2 oLt (nm 1) (cst (.int 1)))) zg3 skip)
  (iff (andT (tstB (op2 (oIn false) (fld 0 0 1) (z09 [(cst (.str "leaving")),(cst (.str "coming"))]))) (tstB (op2 oLe (fld 0 0 2) (nm 1)))) (seq (asg 2 (op2 oSub (nm 1) (fld 0 0 2)))
  (seq (exX (z0k 0 z0u 0 [(fldV 0 0 2)]))
  (seq (exX (z0k 0 z1j 0 []))
  (exX (z0k 0 z0u 0 [(nmV 2)]))))) (exX (z0k 0 z0u 0 [(nmV 1)]))))
def z1h:List Sl->Option (T×List Sl):=runM 0 0 z3c 3
noncomputable def z49:Fs :=
  (iff (tstB (op2 oEq (op2 oIx (nm 1) (cst (.int 0))) (cst (.str "line")))) (exX (z0k 0 z46 0 [(op2 oIx (nm 1) (cst (.int 1))),(op2 oIx (nm 1) (cst (.int 2)))])) (iff (tstB (op2 oEq (op2 oIx (nm 1) (cst (.int 0))) (cst (.str "code")))) (exX (z0k 0 z1u 0 [(op2 oIx (nm 1) (cst (.int 1))),(op2 oIx (nm 1) (cst (.int 2))),(op2 oIx (nm 1) (cst (.int 3)))])) (exX (z0k 0 z1h 0 [(op2 oIx (nm 1) (cst (.int 1)))]))))
def z1a:List Sl->Option (T×List Sl):=runM 0 0 z49 2
def za5:Fs :=
  (seq (asgO 3 (newO 0 z28 [(nmV 0),(nmV 1)]))
  (seq (for_ (z3v (nmV 2)) (gNm 4)
  (exX (z0k 0 z1a 3 [(nmV 4)])))
  (rtnO 3)))
def z1c:List T->Option Sl:=runO za5 5
def zpj:Fs :=
  (rtn (ofO 0 z1x (zem z1c [(nmV 0),(nmV 1),(nmV 2)]) []))
def z7g:List T->Option T:=runF zpj 3
def zph:Fs :=
  (rtn (opN z31 [(zbi 0 12 (zem z1c [(nmV 0),(nmV 1),(nmV 2)]))]))
def z7f:List T->Option T:=runF zph 3
noncomputable def zjz:Fs :=
  (seq (asg 2 (comp 2 [] (zr5 (z7a (op2 oIx (nm 0) (cst (.int 0)))) (z7a (op2 oIx (nm 1) (cst (.int 3))))) (gTu [(gNm 0),(gNm 1)]) (tstB (op2 oNe (nm 1) (cst (.str "shut")))) (op2 oIx (nm 0) (cst (.int 0)))))
  (rtn (z09 [(op2 oIx (nm 1) (cst (.int 0))),(op2 oGt (op2 oIx (nm 1) (cst (.int 5))) (cst (.int 0))),(opN z31 [(nm 2)])])))
def z6e:List T->Option T:=runF zjz 3
end Co
end
section
namespace Co
open D Co
def zt1:Fs :=
  (rtn (ofO 0 z1x (zem z1c [(nmV 0),(nmV 1),(z09 [(nmV 2)])]) []))
def zig:List T->Option T:=runF zt1 3
noncomputable def zpg:Fs :=
  (rtn (opN z31 [(comp 3 [] (z3v (zbi 0 12 (zem z1c [(nmV 0),(nmV 1),(z09 [(nmV 2)])]))) (gTu [(gNm 0),(gNm 1),(gNm 2)]) (cstT true) (z09 [(nmV 1),(nmV 2)]))]))
def z7e:List T->Option T:=runF zpg 3
def za4:Fs :=
  (seq (iff (tstB (op2 oLt (nm 1) (opN oLen [(nm 0)]))) (rtn (op2 oIx (nm 0) (nm 1))) skip)
  (rtn (cst (.int 0))))
def z3k:List T->Option T:=runF za4 2
noncomputable def ze9:Fs :=
  (seq (asg 2 (op2 oMod (op2 oMul (op2 oAdd (op2 oAdd (opN z3k [(nmV 0),(nmV 1)]) (op2 oMul (cst (.int 7919)) (nm 1))) (cst (.int 1))) (cst (.int 48271))) (cst (.int 2147483647))))
  (rtn (op2 oMod (op2 oAdd (op2 oAdd (op2 oMul (nm 2) (nm 2)) (op2 oMul (cst (.int 7)) (nm 2))) (nm 1)) (cst (.int 2147483629)))))
def z25:List T->Option T:=runF ze9 3
noncomputable def zea:Fs :=
  (seq (asg 2 (op2 oMod (op2 oMul (op2 oAdd (op2 oAdd (nm 0) (op2 oMul (cst (.int 104729)) (nm 1))) (cst (.int 17))) (cst (.int 69621))) (cst (.int 2147483647))))
  (rtn (op2 oMod (op2 oAdd (op2 oAdd (op2 oMul (nm 2) (nm 2)) (op2 oMul (cst (.int 3)) (nm 2))) (nm 1)) (cst (.int 2147483629)))))
def z39:List T->Option T:=runF zea 3
noncomputable def zrr:Fs :=
  (seq (asg 1 (z09 []))
  (seq (for_ (z7v (z7a (z09 [(cst (.str "a")),(cst (.str "b")),(cst (.str "back")),(cst (.str "d")),(cst (.str "hall")),(cst (.str "r")),(cst (.str "win")),(cst (.str "z"))]))) (gTu [(gNm 2),(gNm 3)])
  (seq (asg 4 (op2 oDiv (opN z39 [(nmV 0),(nmV 2)]) (cst (.int 4))))
  (iff (orT (tstB (op2 oLt (op2 oMod (nm 4) (cst (.int 8))) (op2 oAdd (cst (.int 3)) (op2 oMod (nm 0) (cst (.int 5)))))) (tstB (op2 oEq (nm 2) (op2 oMod (op2 oDiv (nm 0) (cst (.int 8))) (cst (.int 8)))))) (asg 1 (op2 oAdd (nm 1) (z09 [(z09 [(nmV 3),(op2 oIx (z09 [(cst (.str "day")),(cst (.str "inner")),(cst (.str "once")),(cst (.str "way")),(cst (.str "way"))]) (op2 oMod (op2 oDiv (nm 4) (cst (.int 8))) (cst (.int 5))))])]))) skip)))
  (seq (asg 5 (z09 []))
  (seq (for_ (z7v (z7a (z09 [(cst (.str "0000")),(cst (.str "1234")),(cst (.str "4321")),(cst (.str "7777")),(cst (.str "9990")),(cst (.str "9999"))]))) (gTu [(gNm 2),(gNm 6)])
  (seq (asg 4 (op2 oDiv (opN z39 [(nmV 0),(op2 oAdd (cst (.int 10)) (nm 2))]) (cst (.int 4))))
  (iff (orT (tstB (op2 oGt (op2 oMod (nm 4) (cst (.int 3))) (cst (.int 0)))) (tstB (op2 oEq (nm 2) (cst (.int 1))))) (seq (asg 7 (opN z31 [(comp 1 [4] (z7u (cst (.int 3))) (gNm 0) (tstB (op2 oGt (op2 oMod (op2 oDiv (nm 1) (op2 oIx (z09 [(cst (.int 4)),(cst (.int 16)),(cst (.int 64))]) (nm 0))) (cst (.int 4))) (cst (.int 0)))) (op2 oIx (z09 [(cst (.str "set")),(cst (.str "shunt")),(cst (.str "unset"))]) (nm 0)))]))
  (seq (asg 8 (op2 oIx (z09 [(cst (.str "ann")),(cst (.str "bo")),(cst (.str "cy"))]) (op2 oMod (op2 oDiv (nm 4) (cst (.int 256))) (cst (.int 3)))))
  (asg 5 (op2 oAdd (nm 5) (z09 [(z09 [(nmV 6),(nmV 8),(nmV 7),(op2 oIx (z09 [(cst (.int 0)),(cst (.int 0)),(cst (.int 1)),(cst (.int 2)),(cst (.int 9))]) (op2 oMod (op2 oDiv (nm 4) (cst (.int 1024))) (cst (.int 5))))])]))))) skip)))
  (seq (asg 4 (op2 oDiv (opN z39 [(nmV 0),(cst (.int 20))]) (cst (.int 4))))
  (seq (asg 9 (z09 [(op2 oIx (z09 [(cst (.int 0)),(cst (.int 5)),(cst (.int 30)),(cst (.int 60))]) (op2 oMod (nm 4) (cst (.int 4)))),(op2 oIx (z09 [(cst (.int 0)),(cst (.int 4)),(cst (.int 20)),(cst (.int 60))]) (op2 oMod (op2 oDiv (nm 4) (cst (.int 4))) (cst (.int 4)))),(op2 oIx (z09 [(cst (.int 1)),(cst (.int 9)),(cst (.int 120)),(cst (.int 300))]) (op2 oMod (op2 oDiv (nm 4) (cst (.int 16))) (cst (.int 4))))]))
  (rtn (z09 [(nmV 1),(nmV 5),(nmV 9)]))))))))
def zcd:List T->Option T:=runF zrr 10
noncomputable def ziw:Fs :=
  (seq (asg 2 (op2 oIx (op2 oIx (op2 oIx (nm 0) (cst (.int 0))) (op2 oMod (op2 oDiv (nm 1) (cst (.int 8))) (opN oLen [(op2 oIx (nm 0) (cst (.int 0)))]))) (cst (.int 0))))
  (seq (asg 3 (op2 oMod (nm 1) (cst (.int 10))))
  (seq (iff (tstB (op2 oLt (nm 3) (cst (.int 5)))) (rtn (z09 [(cst (.str "line")),(nmV 2),(op2 oIx (z09 [(cst (.str "shut")),(cst (.str "open")),(cst (.str "open")),(cst (.str "cut"))]) (op2 oMod (op2 oDiv (nm 1) (cst (.int 512))) (cst (.int 4))))])) skip)
  (seq (iff (tstB (op2 oLt (nm 3) (cst (.int 7)))) (rtn (z09 [(cst (.str "ticks")),(op2 oAdd (cst (.int 1)) (op2 oMod (op2 oDiv (nm 1) (cst (.int 64))) (op2 oIx (z09 [(cst (.int 3)),(cst (.int 40)),(cst (.int 200))]) (op2 oMod (op2 oDiv (nm 1) (cst (.int 4096))) (cst (.int 3))))))])) skip)
  (seq (asg 4 (op2 oIx (op2 oIx (op2 oIx (nm 0) (cst (.int 1))) (op2 oMod (op2 oDiv (nm 1) (cst (.int 64))) (opN oLen [(op2 oIx (nm 0) (cst (.int 1)))]))) (cst (.int 0))))
  (seq (iff (tstB (op2 oEq (op2 oMod (op2 oDiv (nm 1) (cst (.int 65536))) (cst (.int 4))) (cst (.int 0)))) (asg 4 (op2 oIx (z09 [(cst (.str "0001")),(cst (.str "1111")),(cst (.str "9999")),(cst (.str "0000"))]) (op2 oMod (op2 oDiv (nm 1) (cst (.int 512))) (cst (.int 4))))) skip)
  (seq (asg 5 (op2 oIx (z09 [(cst (.str "set")),(cst (.str "set")),(cst (.str "unset")),(cst (.str "shunt")),(cst (.str "free")),(cst (.str "shunt"))]) (op2 oMod (op2 oDiv (nm 1) (cst (.int 4096))) (cst (.int 6)))))
  (seq (iff (tstB (op2 (oIn false) (nm 5) (z09 [(cst (.str "set")),(cst (.str "unset"))]))) (rtn (z09 [(cst (.str "code")),(nmV 4),(nmV 5),(cst .none)])) skip)
  (rtn (z09 [(cst (.str "code")),(nmV 4),(nmV 5),(nmV 2)]))))))))))
def z5q:List T->Option T:=runF ziw 6
end Co
end
section
namespace Bo
open D Co
def z4u:Fs :=
  (seq (asgF 1 0 0 (nmV 1))
  (seq (z8p 1 0 1 (z3j []))
  (z8p 1 0 2 (z3j [(opN z33 [(nmV 1)])]))))
def z2q:List Sl->Option (T×List Sl):=runM 1 0 z4u 2
def z7m:Fs :=
  (rtn (op2 oIx (fld 1 0 2) (op1 oNeg (cst (.int 1)))))
def z0w:List Sl->Option T:=runR z7m 1
noncomputable def z6a:Fs :=
  (seq (asg 2 (opN z7e [(fldV 1 0 0),(z1s 1 z0w 0 []),(nmV 1)]))
  (seq (asg 3 (opN zig [(fldV 1 0 0),(z1s 1 z0w 0 []),(nmV 1)]))
  (seq (appF 1 0 1 (nmV 1))
  (seq (appF 1 0 2 (nmV 3))
  (rtnM (nmV 2))))))
def z12:List Sl->Option (T×List Sl):=runM 1 0 z6a 4
def z4b:Fs :=
  (exE (opN z3a [(fldV 1 0 0),(nmV 1)]))
def z0s:List Sl->Option T:=runR z4b 2
def z94:Fs :=
  (seq (exE (z1s 1 z0s 0 [(nmV 1)]))
  (rtnX (z0k 1 z12 0 [(z09 [(cst (.str "line")),(nmV 1),(nmV 2)])])))
def z2o:List Sl->Option (T×List Sl):=runM 1 0 z94 3
noncomputable def z95:Fs :=
  (seq (iff (orT (tstB (op1 z6d (nm 3))) (tstB (op2 (oIn false) (nm 2) (cst (.tuple (z6i ["shunt","free"])))))) (exE (z1s 1 z0s 0 [(nmV 3)])) skip)
  (rtnX (z0k 1 z12 0 [(z09 [(cst (.str "code")),(nmV 1),(nmV 2),(nmV 3)])])))
def z2p:List Sl->Option (T×List Sl):=runM 1 0 z95 4
def z7l:Fs :=
  (rtnX (z0k 1 z12 0 [(z09 [(cst (.str "ticks")),(nmV 1)])]))
def z4l:List Sl->Option (T×List Sl):=runM 1 0 z7l 2
def z7n:Fs :=
  (rtn (opN z6e [(fldV 1 0 0),(z1s 1 z0w 0 [])]))
def z3l:List Sl->Option T:=runR z7n 1
def zb0:Fs :=
  (rtn (opN z31 [(fld 1 0 1)]))
def z2w:List Sl->Option T:=runR zb0 1
def zb1:Fs :=
  (rtn (opN z7f [(fldV 1 0 0),(op2 oIx (fld 1 0 2) (cst (.int 0))),(z1s 1 z2w 0 [])]))
def z47:List Sl->Option T:=runR zb1 1
def z93:Fs :=
  (seq (iff (notT (tstL (fld 1 0 1))) zhq skip)
  (seq (popF 1 0 1)
  (popF 1 0 2)))
def z3t:List Sl->Option (T×List Sl):=runM 1 0 z93 1
noncomputable def z92:Fs :=
  (seq (iff (tstB (op2 oEq (op2 oIx (nm 1) (cst (.int 0))) (cst (.str "line")))) (rtnX (z0k 1 z2o 0 [(op2 oIx (nm 1) (cst (.int 1))),(op2 oIx (nm 1) (cst (.int 2)))])) skip)
  (seq (iff (tstB (op2 oEq (op2 oIx (nm 1) (cst (.int 0))) (cst (.str "code")))) (rtnX (z0k 1 z2p 0 [(op2 oIx (nm 1) (cst (.int 1))),(op2 oIx (nm 1) (cst (.int 2))),(op2 oIx (nm 1) (cst (.int 3)))])) skip)
  (rtnX (z0k 1 z4l 0 [(op2 oIx (nm 1) (cst (.int 1)))]))))
def z90:List Sl->Option (T×List Sl):=runM 1 0 z92 2
end Bo
end
section
namespace Bz
open D Co Bo
noncomputable def zbd:Fz :=
  (seqZ (for_ (z3v (op2 oIx (nm 0) (cst (.int 0)))) (gNm 2)
  (iff (tstB (op2 oEq (op2 oIx (nm 2) (cst (.int 0))) (nm 1))) (rtn (op2 oIx (nm 2) (cst (.int 1)))) skip)) (okZ (op1 (zls "no zone is called ") (nm 1))))
def z87:List Sl->Bool:=runZ zbd 3
def z52:Fz :=
  (zrm z87 [.v (fldV 1 0 0),.v (nmV 1)])
def z19:List Sl->Bool:=runZ z52 2
def z9r:Fz :=
  (iffZ (orT (tstB (op1 z6d (nm 3))) (tstB (op2 (oIn false) (nm 2) (cst (.tuple (z6i ["shunt","free"])))))) (z4y 1 z19 0 [(nmV 3)]) noZ)
def z4h:List Sl->Bool:=runZ z9r 4
def zcz:Fz :=
  (z4y 1 z19 0 [(nmV 1)])
def z4g:List Sl->Bool:=runZ zcz 3
def z9q:Fz :=
  (iffZ (notT (tstL (fld 1 0 1))) (okZ (cst (.str "there is no event to take back"))) noZ)
def z30:List Sl->Bool:=runZ z9q 1
end Bz
end
section
namespace K40
open D Co Bo Bz
noncomputable def zxj:Fs :=
  (seq (iff (tstB (op2 oEq (op2 oIx (nm 1) (cst (.int 0))) (cst (.str "line")))) (rtnX (z0k 1 z2o 0 [(op2 oIx (nm 1) (cst (.int 1))),(op2 oIx (nm 1) (cst (.int 2)))])) skip)
  (seq (iff (tstB (op2 oEq (op2 oIx (nm 1) (cst (.int 0))) (cst (.str "code")))) (rtnX (z0k 1 z2p 0 [(op2 oIx (nm 1) (cst (.int 1))),(op2 oIx (nm 1) (cst (.int 2))),(op2 oIx (nm 1) (cst (.int 3)))])) skip)
  (rtnX (z0k 1 z4l 0 [(op2 oIx (nm 1) (cst (.int 1)))]))))
def zif:List Sl->Option (T×List Sl):=runM 1 0 zxj 2
noncomputable def zv9:Fs :=
  (seq (asg 1 (opN zcd [(opN z25 [(nmV 0),(cst (.int 0))])]))
  (seq (asgO 2 (newO 1 z2q [(nmV 1)]))
  (seq (asgO 3 (newO 1 z2q [(nmV 1)]))
  (seq (asg 4 (z09 []))
  (seq (for_ (z7u (op2 oMod (opN z25 [(nmV 0),(cst (.int 1))]) (cst (.int 17)))) (gNm 5)
  (seq (asg 6 (opN z25 [(nmV 0),(op2 oAdd (cst (.int 2)) (nm 5))]))
  (seq (asg 7 (opN z7g [(nmV 1),(opN z33 [(nmV 1)]),(nmV 4)]))
  (seq (iff (tstB (op2 oEq (op2 oMod (nm 6) (cst (.int 7))) (cst (.int 0)))) (seq (asg 8 (op2 oIx (z3j [(z09 [(cst (.str "told")),(cst .none)]),(z09 [(cst (.str "refused")),(cst (.int 2))])]) (opN oInt [(op2 oEq (nm 4) (z09 []))])))
  (seq (iffX (tstX (op2X oNe (z96 (z0k 1 z3t 2 []) (z4y 1 z30 2 []) 2) (z9b (nmV 8)))) (rtn (cst (.bool false))) skip)
  (asg 4 (slice (nm 4) optN (opt (op1 oNeg (cst (.int 1)))))))) (iff (tstB (op2 oEq (op2 oMod (nm 6) (cst (.int 7))) (cst (.int 1)))) (seq (iffX (tstX (op2X oNe (z96 (z0k 1 z2o 2 [(cst (.str "zzzz")),(cst (.str "open"))]) (z4y 1 z4g 2 [(cst (.str "zzzz")),(cst (.str "open"))]) 0) (z9b (z09 [(cst (.str "refused")),(cst (.int 0))])))) (rtn (cst (.bool false))) skip)
  (iffX (tstX (op2X oNe (z96 (z0k 1 z2p 2 [(cst (.str "1234")),(op2 oIx (z09 [(cst (.str "shunt")),(cst (.str "free"))]) (op2 oMod (op2 oDiv (nm 6) (cst (.int 8))) (cst (.int 2)))),(cst (.str "none"))]) (z4y 1 z4h 2 [(cst (.str "1234")),(op2 oIx (z09 [(cst (.str "shunt")),(cst (.str "free"))]) (op2 oMod (op2 oDiv (nm 6) (cst (.int 8))) (cst (.int 2)))),(cst (.str "none"))]) 0) (z9b (z09 [(cst (.str "refused")),(cst (.int 0))])))) (rtn (cst (.bool false))) skip)) (seq (asg 9 (opN z5q [(nmV 1),(op2 oDiv (nm 6) (cst (.int 8)))]))
  (seq (iffX (tstX (op2X oNe (zmd 1 zif [] 2 [(nmV 9)]) (z9b (opN z7e [(nmV 1),(nmV 7),(nmV 9)])))) (rtn (cst (.bool false))) skip)
  (asg 4 (op2 oAdd (nm 4) (z09 [(nmV 9)])))))))
  (seq (asg 7 (opN z7g [(nmV 1),(opN z33 [(nmV 1)]),(nmV 4)]))
  (seq (iff (orT (tstB (op2 oNe (z1s 1 z0w 2 []) (nm 7))) (orT (tstB (op2 oNe (z1s 1 z3l 2 []) (opN z6e [(nmV 1),(nmV 7)]))) (tstB (op2 oNe (z1s 1 z2w 2 []) (nm 4))))) (rtn (cst (.bool false))) skip)
  (iff (tstB (op2 oNe (z1s 1 z47 2 []) (opN z7f [(nmV 1),(opN z33 [(nmV 1)]),(nmV 4)]))) (rtn (cst (.bool false))) skip)))))))
  (rtn (andV (op2 oEq (z1s 1 z0w 3 []) (opN z33 [(nmV 1)])) (andV (op2 oEq (z1s 1 z2w 3 []) (z09 [])) (op2 oEq (z1s 1 z47 3 []) (z09 []))))))))))
def zm8:List T->Option T:=runF zv9 10
end K40
end
section
namespace K40
open PySem PySem.Spec PyProof.Rows L2 D Co Bo Bz
variable [Tbl]
def top (i:Nat):Stmt:=PySem.Challenge.pw_doorwatch_k40_whole_boxes.main.body.getD i (.Pass ⟨0,0,0,0⟩)
section
variable {P:y0r} {w:World} {K:y00} {mg:Str->Option Value} {base:Heap} {CCourse CBox:Addr} {k:Nat} {f:Addr} {fd:y0b}
local macro_rules | `(unop% b1 $F) => `(Fun.binds $F fun _ _ _ _ _ _ us hl => match us, hl with | [_], _ => rfl)
local macro_rules | `(unop% b2 $F) => `(Fun.binds $F fun _ _ _ _ _ _ us hl => match us, hl with | [_, _], _ => rfl)
local macro_rules | `(unop% b3 $F) => `(Fun.binds $F fun _ _ _ _ _ _ us hl => match us, hl with | [_, _, _], _ => rfl)
local macro_rules | `(unop% b4 $F) => `(Fun.binds $F fun _ _ _ _ _ _ us hl => match us, hl with | [_, _, _, _], _ => rfl)
local macro_rules | `(unop% sk 0) => `(⟨rfl, rfl, rfl, by decide +kernel, rfl, by decide +kernel, by decide +kernel⟩)
set_option hygiene false in
local macro_rules | `(unop% ko 1) => `(ClOk K 1 CBox ["plan", "events", "states"])
set_option hygiene false in
local macro_rules | `(unop% ko 0) => `(ClOk K 0 CCourse ["plan", "mode", "left", "came", "lines", "shunts", "siren", "alarms", "tries", "locked", "used", "past", "told"])
set_option hygiene false in
local macro_rules | `(unop% lm $t) => `(fun cdv A outer s H E hr => $t)
local macro_rules | `(unop% w6 $t) => `(fun _ _ _ _ _ _ => $t)
local macro_rules | `(unop% nd $l) => `(show List.Nodup ($l : List Str) by decide +kernel)
local macro_rules | `(binop% co $s $l) => `(zxb (sc := z01 $s) $l rfl rfl rfl (by decide +kernel))
set_option hygiene false in
local macro_rules | `(binop% eqt $a $b) => `(z5k (zsg (by exact hr.units)) zsi $a $b)
set_option hygiene false in
local macro_rules | `(binop% eqq $a $b) => `(zji (zsg (by exact hr.units)) zsi $a $b)
set_option hygiene false in
local macro_rules | `(binop% net $a $b) => `(z5k (zex (by exact hr.units)) zez $a $b)
abbrev zah:Stmt:=top 31
theorem zer:FnScope ["_law_number","_law_k","_law_drawn_here"] ["_law_number","_law_k"] (z01 zah):=unop% sk 0
theorem z8n (F:Fun K "_law_drawn" "_law_drawn" zah f fd) (m:mg "_law_drawn"=some (.ref f)) :Cl P w K mg base "_law_drawn" (k+1) 2 z39 :=
 zaw F zer (unop% b2 F) m unop% lm
  (z05 (z20 2 zer.nd (z42 (v2r (zhb (v2r (z9a (v2r (z9a (q_nm 0) (v2r (zhb (v2r z04) (q_nm 1))))) (v2r z04))) (v2r z04))) (v2r z04)))
  (z0b (z1z (z42 (v2r (z9a (v2r (z9a (v2r (zhb (q_nm 2) (q_nm 2))) (v2r (zhb (v2r z04) (q_nm 2))))) (q_nm 1))) (v2r z04)))))
abbrev zae:Stmt:=top 33
theorem z1k:FnScope ["_law_number","_law_zones","_law_k","_law_name","_law_drawn_here","_law_codes","_law_figures","_law_rights","_law_who","_law_times"] ["_law_number"] (z01 zae):=unop% sk 0
theorem zgn (F:Fun K "_law_plan" "_law_plan" zae f fd) (m:mg "_law_plan"=some (.ref f)) (z_enumerate:mg "enumerate"=none) (z8n:Cl P w K mg base "_law_drawn" k 2 z39) (z_tuple:mg "tuple"=none) (z_range:mg "range"=none):Cl P w K mg base "_law_plan" (k+1) 1 zcd :=
 zaw F z1k (unop% b1 F) m unop% lm
  (z05 (z20 1 z1k.nd (z14 z03))
  (z05 (zh7 y2a (zsu z_enumerate (z14 (z00 z0d (z00 z0d (z00 z0d (z00 z0d (z00 z0d (z00 z0d (z00 z0d (z00 z0d z03)))))))))) (zon (z8e (g_nm 2 z1k.nd) (z8e (g_nm 3 z1k.nd) zoo)))
  (z05 (z20 4 z1k.nd (z6c (v2r (z0y z8n hr (z00 (z08 0) (z00 (z08 2) z03)))) (v2r z04)))
  (z0b (s_if (w_t (w_or (z5k (znm.or z89) zhk (v2r (z42 (q_nm 4) (v2r z04))) (v2r (z9a (v2r z04) (v2r (z42 (q_nm 0) (v2r z04)))))) (zgs (binop% eqt (q_nm 2) (v2r (z42 (v2r (z6c (q_nm 0) (v2r z04))) (v2r z04))))))) (z0b (z20 1 z1k.nd (z9a (q_nm 1) (v2r (z14 (z00 (z14 (z00 (z08 3) (z00 (q_ix (v2r (z14 (z00 z0d (z00 z0d (z00 z0d (z00 z0d (z00 z0d z03))))))) (v2r (z42 (v2r (z6c (q_nm 4) (v2r z04))) (v2r z04)))) z03))) z03)))))) z2s))))
  (z05 (z20 5 z1k.nd (z14 z03))
  (z05 (zh7 y2a (zsu z_enumerate (z14 (z00 z0d (z00 z0d (z00 z0d (z00 z0d (z00 z0d (z00 z0d z03)))))))) (zon (z8e (g_nm 2 z1k.nd) (z8e (g_nm 6 z1k.nd) zoo)))
  (z05 (z20 4 z1k.nd (z6c (v2r (z0y z8n hr (z00 (z08 0) (z00 (z9a (v2r z04) (q_nm 2)) z03)))) (v2r z04)))
  (z0b (s_if (w_t (w_or (z5k (znn.or z8a) zhl (v2r (z42 (q_nm 4) (v2r z04))) (v2r z04)) (zgs (binop% eqt (q_nm 2) (v2r z04))))) (z05 (z20 7 z1k.nd (z6b z_tuple (z35 (v2r (z9t (own:=["_law_j"]) (caps:=[(4,"_law_drawn_here")]) (binop% co zae ["_law_number","_law_zones","_law_k","_law_name","_law_drawn_here","_law_codes","_law_figures","_law_rights","_law_who","_law_times"]) (zst z_range (v2r z04)) (unop% w6 (g_nm 0 (unop% nd ["_law_j","_law_drawn_here"]))) (unop% w6 (zgw (z5k (znn.or z8a) zhl (v2r (z42 (v2r (z6c (q_nm 1) (v2r (q_ix (v2r (z14 (z00 z04 (z00 z04 (z00 z04 z03))))) (q_nm 0))))) (v2r z04))) (v2r z04)))) (unop% w6 (q_ix (v2r (z14 (z00 z0d (z00 z0d (z00 z0d z03))))) (q_nm 0))))) z5y)))
  (z05 (z20 8 z1k.nd (q_ix (v2r (z14 (z00 z0d (z00 z0d (z00 z0d z03))))) (v2r (z42 (v2r (z6c (q_nm 4) (v2r z04))) (v2r z04)))))
  (z0b (z20 5 z1k.nd (z9a (q_nm 5) (v2r (z14 (z00 (z14 (z00 (z08 6) (z00 (z08 8) (z00 (z08 7) (z00 (q_ix (v2r (z14 (z00 z04 (z00 z04 (z00 z04 (z00 z04 (z00 z04 z03))))))) (v2r (z42 (v2r (z6c (q_nm 4) (v2r z04))) (v2r z04)))) z03))))) z03)))))))) z2s))))
  (z05 (z20 4 z1k.nd (z6c (v2r (z0y z8n hr (z00 (z08 0) (z00 z04 z03)))) (v2r z04)))
  (z05 (z20 9 z1k.nd (z14 (z00 (q_ix (v2r (z14 (z00 z04 (z00 z04 (z00 z04 (z00 z04 z03)))))) (v2r (z42 (q_nm 4) (v2r z04)))) (z00 (q_ix (v2r (z14 (z00 z04 (z00 z04 (z00 z04 (z00 z04 z03)))))) (v2r (z42 (v2r (z6c (q_nm 4) (v2r z04))) (v2r z04)))) (z00 (q_ix (v2r (z14 (z00 z04 (z00 z04 (z00 z04 (z00 z04 z03)))))) (v2r (z42 (v2r (z6c (q_nm 4) (v2r z04))) (v2r z04)))) z03)))))
  (z0b (z1z (z14 (z00 (z08 1) (z00 (z08 5) (z00 (z08 9) z03))))))))))))
abbrev zba:Stmt:=top 9
theorem zfz:FnScope ["plan","lines","used"] ["plan"] (z01 zba):=unop% sk 0
theorem z8o (F:Fun K "begun" "begun" zba f fd) (m:mg "begun"=some (.ref f)) (z_tuple:mg "tuple"=none):Cl P w K mg base "begun" (k+1) 1 z33 :=
 zaw F zfz (unop% b1 F) m unop% lm
  (z05 (z20 1 zfz.nd (z6b z_tuple (z35 (v2r (z9t (own:=["zone"]) (caps:=[]) (binop% co zba ["plan","lines","used"]) (zc7 (q_ix (q_nm 0) (v2r z04))) (unop% w6 (g_nm 0 (unop% nd ["zone"]))) (unop% w6 zgx) (unop% w6 z0d))) z5y)))
  (z05 (z20 2 zfz.nd (z6b z_tuple (z35 (v2r (z9t (own:=["code"]) (caps:=[]) (binop% co zba ["plan","lines","used"]) (zc7 (q_ix (q_nm 0) (v2r z04))) (unop% w6 (g_nm 0 (unop% nd ["code"]))) (unop% w6 zgx) (unop% w6 z04))) z5y)))
  (z0b (z1z (z14 (z00 z0d (z00 z04 (z00 zd0 (z00 (z08 1) (z00 (z14 z03) (z00 z04 (z00 (z14 z03) (z00 z04 (z00 z04 (z00 (z08 2) z03)))))))))))))))
abbrev z4t:Stmt:=z0m (top 27) 0
theorem zcv:FnScope ["self","plan"] ["self","plan"] (z01 z4t):=unop% sk 0
theorem zen (F:Fun K "__init__" "Box.__init__" z4t f fd) (me:Mk K CBox f) (m:mg "Box"=some (.ref CBox)) (kcBox:unop% ko 1) (z8o:Cl P w K mg base "begun" k 1 z33):ClNew P w K mg base "Box" CBox 1 (k+1) 2 z2q :=
 zsm F zcv (unop% b2 F) me m unop% lm
  (z05 (z1r (j:=0) kcBox (pv 0) (z08 1))
  (z05 (z86 (j:=1) kcBox (pv 0) (zll z03))
  (z0b (z86 (j:=2) kcBox (pv 0) (zll (z00 (z0y z8o hr (z00 (z08 1) z03)) z03))))))
abbrev z6y:Stmt:=top 29
theorem zh3:FnScope ["_law_script","_law_k"] ["_law_script","_law_k"] (z01 z6y):=unop% sk 0
theorem za1 (F:Fun K "_law_cell_at" "_law_cell_at" z6y f fd) (m:mg "_law_cell_at"=some (.ref f)) (z_len:mg "len"=none):Cl P w K mg base "_law_cell_at" (k+1) 2 z3k :=
 zaw F zh3 (unop% b2 F) m unop% lm
  (z05 (s_if (z5k (znm.or z89) zhk (q_nm 1) (v2r (ztq z_len (z35 (q_nm 0) z5y)))) (z0b (z1z (q_ix (q_nm 0) (q_nm 1)))) z2s)
  (z0b (z1z z04)))
abbrev zaf:Stmt:=top 30
theorem zeq:FnScope ["_law_script","_law_k","_law_drawn_here"] ["_law_script","_law_k"] (z01 zaf):=unop% sk 0
theorem z8m (F:Fun K "_law_mixed" "_law_mixed" zaf f fd) (m:mg "_law_mixed"=some (.ref f)) (za1:Cl P w K mg base "_law_cell_at" k 2 z3k):Cl P w K mg base "_law_mixed" (k+1) 2 z25 :=
 zaw F zeq (unop% b2 F) m unop% lm
  (z05 (z20 2 zeq.nd (z42 (v2r (zhb (v2r (z9a (v2r (z9a (v2r (z0y za1 hr (z00 (z08 0) (z00 (z08 1) z03)))) (v2r (zhb (v2r z04) (q_nm 1))))) (v2r z04))) (v2r z04))) (v2r z04)))
  (z0b (z1z (z42 (v2r (z9a (v2r (z9a (v2r (zhb (q_nm 2) (q_nm 2))) (v2r (zhb (v2r z04) (q_nm 2))))) (q_nm 1))) (v2r z04)))))
abbrev z4r:Stmt:=z0m (top 17) 1
theorem z2t:FnScope ["self","lines","shunts","alarms","used"] ["self"] (z01 z4r):=unop% sk 0
theorem z3b (F:Fun K "state" "Course.state" z4r f fd) (m:Meth K CCourse "state" f) (kcCourse:unop% ko 0) (z_tuple:mg "tuple"=none):MtRd P w K mg base CCourse "state" (k+1) 1 z1x :=
 z9h F z2t (unop% b1 F) m unop% lm
  (z05 (z20 1 z2t.nd (znb (j:=4) kcCourse rfl z_tuple (pv 0)))
  (z05 (z20 2 z2t.nd (z6b z_tuple (z35 (z4d (j:=5) kcCourse (pv 0)) z5y)))
  (z05 (z20 3 z2t.nd (z6b z_tuple (z35 (z4d (j:=7) kcCourse (pv 0)) z5y)))
  (z05 (z20 4 z2t.nd (znb (j:=10) kcCourse rfl z_tuple (pv 0)))
  (z0b (z1z (z14 (z00 (z37 (j:=1) kcCourse (pv 0)) (z00 (z37 (j:=2) kcCourse (pv 0)) (z00 (z37 (j:=3) kcCourse (pv 0)) (z00 (z08 1) (z00 (z08 2) (z00 (z37 (j:=6) kcCourse (pv 0)) (z00 (z08 3) (z00 (z37 (j:=8) kcCourse (pv 0)) (z00 (z37 (j:=9) kcCourse (pv 0)) (z00 (z08 4) z03)))))))))))))))))
abbrev z1i:Stmt:=z0m (top 17) 0
theorem zac:FnScope ["self","plan","state"] ["self","plan","state"] (z01 z1i):=unop% sk 0
theorem zbn (F:Fun K "__init__" "Course.__init__" z1i f fd) (me:Mk K CCourse f) (m:mg "Course"=some (.ref CCourse)) (kcCourse:unop% ko 0) (z_dict:mg "dict"=none) (z_list:mg "list"=none) (z_zip:mg "zip"=none):ClNew P w K mg base "Course" CCourse 0 (k+1) 3 z28 :=
 zsm F zac (unop% b3 F) me m unop% lm
  (z05 (z1r (j:=0) kcCourse (pv 0) (z08 1))
  (z05 (z1r (j:=1) kcCourse (pv 0) (q_ix (q_nm 2) (v2r z04)))
  (z05 (z1r (j:=2) kcCourse (pv 0) (q_ix (q_nm 2) (v2r z04)))
  (z05 (z1r (j:=3) kcCourse (pv 0) (q_ix (q_nm 2) (v2r z04)))
  (z05 (zn2 (j:=4) kcCourse rfl z_dict z_zip (pv 0) (v2r (z9t (own:=["zone"]) (caps:=[]) (binop% co z1i ["self","plan","state"]) (zc7 (q_ix (q_nm 1) (v2r z04))) (unop% w6 (g_nm 0 (unop% nd ["zone"]))) (unop% w6 zgx) (unop% w6 (q_ix (q_nm 0) (v2r z04))))) (v2r (q_ix (q_nm 2) (v2r z04))))
  (z05 (z86 (j:=5) kcCourse (pv 0) (zna z_list (v2r (q_ix (q_nm 2) (v2r z04)))))
  (z05 (z1r (j:=6) kcCourse (pv 0) (q_ix (q_nm 2) (v2r z04)))
  (z05 (z86 (j:=7) kcCourse (pv 0) (zna z_list (v2r (q_ix (q_nm 2) (v2r z04)))))
  (z05 (z1r (j:=8) kcCourse (pv 0) (q_ix (q_nm 2) (v2r z04)))
  (z05 (z1r (j:=9) kcCourse (pv 0) (q_ix (q_nm 2) (v2r z04)))
  (z05 (zn2 (j:=10) kcCourse rfl z_dict z_zip (pv 0) (v2r (z9t (own:=["code"]) (caps:=[]) (binop% co z1i ["self","plan","state"]) (zc7 (q_ix (q_nm 1) (v2r z04))) (unop% w6 (g_nm 0 (unop% nd ["code"]))) (unop% w6 zgx) (unop% w6 (q_ix (q_nm 0) (v2r z04))))) (v2r (q_ix (q_nm 2) (v2r z04))))
  (z05 (z1r (j:=11) kcCourse (pv 0) z04)
  (z0b (z86 (j:=12) kcCourse (pv 0) (zll z03)))))))))))))))
abbrev z5d:Stmt:=z0m (top 17) 3
theorem zeg:FnScope ["self","word","name"] ["self","word","name"] (z01 z5d):=unop% sk 0
theorem z0a (F:Fun K "tell" "Course.tell" z5d f fd) (m:Meth K CCourse "tell" f) (kcCourse:unop% ko 0):MtMd P w K mg base CCourse 0 "tell" (k+1) 3 z06 :=
 z2v F zeg (unop% b3 F) m unop% lm
  (z0b (zkl (j:=12) kcCourse (pv 0) (z14 (z00 (z37 (j:=11) kcCourse (pv 0)) (z00 (z08 1) (z00 (z08 2) z03))))))
abbrev z85:Stmt:=top 8
theorem z8u:FnScope ["plan","name","zone"] ["plan","name"] (z01 z85):=unop% sk 0
theorem z51 (F:Fun K "kind_of" "kind_of" z85 f fd) (m:mg "kind_of"=some (.ref f)) :Cl P w K mg base "kind_of" (k+1) 2 z3a :=
 zaw F z8u (unop% b2 F) m unop% lm
  (z05 (zh7 y2a (zc7 (q_ix (q_nm 0) (v2r z04))) (g_nm 2 z8u.nd)
  (z0b (s_if (binop% eqt (v2r (q_ix (q_nm 2) (v2r z04))) (q_nm 1)) (z0b (z1z (q_ix (q_nm 2) (v2r z04)))) z2s)))
  (z0b zn0))
theorem z8r {k:Nat} {f:Addr} {fd:y0b} (F:Fun K "kind_of" "kind_of" z85 f fd) (m:mg "kind_of"=some (.ref f)) {XD xz xw xd xt:Addr} (Nm:Names K mg XD xz xw xd xt) (Rz:Ref1 K XD xz xw xd xt xz 0)  :ClZ P w K mg base "kind_of" xz (k+1) 2 z87 :=
 zxf F z8u (unop% b2 F) m unop% lm
  (z_n (zh7 y2a (zc7 (q_ix (q_nm 0) (v2r z04))) (g_nm 2 z8u.nd)
  (z0b (s_if (binop% eqt (v2r (q_ix (q_nm 2) (v2r z04))) (q_nm 1)) (z0b (z1z (q_ix (q_nm 2) (v2r z04)))) z2s))) (z_1 (zml Nm.nz Rz.new (zw4 (q_nm 1)) hr.hd)))
abbrev z3h:Stmt:=z0m (top 17) 4
theorem zb9:FnScope ["self"] ["self"] (z01 z3h):=unop% sk 0
theorem z2m (F:Fun K "be_loud" "Course.be_loud" z3h f fd) (m:Meth K CCourse "be_loud" f) (kcCourse:unop% ko 0):MtMd P w K mg base CCourse 0 "be_loud" (k+1) 1 z1e :=
 z2v F zb9 (unop% b1 F) m unop% lm
  (z0b (z1r (j:=6) kcCourse (pv 0) (q_ix (v2r (q_ix (z4d (j:=0) kcCourse (pv 0)) (v2r z04))) (v2r z04))))
abbrev z4s:Stmt:=z0m (top 17) 5
theorem zcr:FnScope ["self","zone"] ["self","zone"] (z01 z4s):=unop% sk 0
theorem z0z (F:Fun K "alarm" "Course.alarm" z4s f fd) (m:Meth K CCourse "alarm" f) (kcCourse:unop% ko 0) (z2m:MtMd P w K mg base CCourse 0 "be_loud" k 1 z1e) (z0a:MtMd P w K mg base CCourse 0 "tell" k 3 z06):MtMd P w K mg base CCourse 0 "alarm" (k+1) 2 z0h :=
 z2v F zcr (unop% b2 F) m unop% lm
  (z05 (z2j (z62 kcCourse z2m hr (pv 0)))
  (z0b (s_if (z5k (z88 (by exact hr.units)) z8b (q_nm 1) (z4d (j:=7) kcCourse (pv 0))) (z05 (zkl (j:=7) kcCourse (pv 0) (z08 1))
  (z0b (z2j (z0j kcCourse z0a hr (pv 0) (z00 z0d (z00 (z08 1) z03)))))) z2s)))
abbrev z3g:Stmt:=z0m (top 17) 9
theorem zb8:FnScope ["self","zone","kind"] ["self","zone","kind"] (z01 z3g):=unop% sk 0
theorem z57 (F:Fun K "come_in" "Course.come_in" z3g f fd) (m:Meth K CCourse "come_in" f) (kcCourse:unop% ko 0) (z0a:MtMd P w K mg base CCourse 0 "tell" k 3 z06) (z0z:MtMd P w K mg base CCourse 0 "alarm" k 2 z0h):MtMd P w K mg base CCourse 0 "come_in" (k+1) 3 z1d :=
 z2v F zb8 (unop% b3 F) m unop% lm
  (z05 (s_if (w_t (w_or (binop% net (q_nm 2) (v2r z0d)) (zgs (z5k (zu8.or zd3) zno (v2r (q_ix (v2r (q_ix (z4d (j:=0) kcCourse (pv 0)) (v2r z04))) (v2r z04))) (v2r z04))))) (z05 (z2j (z0j kcCourse z0z hr (pv 0) (z00 (z08 1) z03)))
  (z0b zje)) z2s)
  (z05 (z1r (j:=1) kcCourse (pv 0) z0d)
  (z05 (z1r (j:=2) kcCourse (pv 0) (q_ix (v2r (q_ix (z4d (j:=0) kcCourse (pv 0)) (v2r z04))) (v2r z04)))
  (z05 (z1r (j:=3) kcCourse (pv 0) (z08 1))
  (z0b (z2j (z0j kcCourse z0a hr (pv 0) (z00 z0d (z00 (z08 1) z03)))))))))
abbrev z3f:Stmt:=z0m (top 17) 8
theorem z6k:FnScope ["self","zone","what","kind"] ["self","zone","what"] (z01 z3f):=unop% sk 0
theorem z56 (F:Fun K "disturb" "Course.disturb" z3f f fd) (m:Meth K CCourse "disturb" f) (kcCourse:unop% ko 0) (z51:Cl P w K mg base "kind_of" k 2 z3a) (z0z:MtMd P w K mg base CCourse 0 "alarm" k 2 z0h) (z0a:MtMd P w K mg base CCourse 0 "tell" k 3 z06) (z57:MtMd P w K mg base CCourse 0 "come_in" k 3 z1d):MtMd P w K mg base CCourse 0 "disturb" (k+1) 3 z2k :=
 z2v F z6k (unop% b3 F) m unop% lm
  (z05 (z20 3 z6k.nd (z0y z51 hr (z00 (z37 (j:=0) kcCourse (pv 0)) (z00 (z08 1) z03))))
  (z0b (s_if (binop% eqt (q_nm 3) (v2r z0d)) (z0b (z2j (z0j kcCourse z0z hr (pv 0) (z00 (z08 1) z03)))) (z0b (s_if (binop% eqt (z4d (j:=1) kcCourse (pv 0)) (v2r z0d)) (z0b (s_if (binop% eqt (q_nm 2) (v2r z0d)) (z0b (z2j (z0j kcCourse z0a hr (pv 0) (z00 z0d (z00 (z08 1) z03))))) z2s)) (z0b (s_if (w_t (w_or (binop% eqt (q_nm 2) (v2r z0d)) (zgs (binop% eqt (q_nm 3) (v2r z0d))))) (z0b (z2j (z0j kcCourse z0z hr (pv 0) (z00 (z08 1) z03)))) (z0b (s_if (binop% eqt (z4d (j:=1) kcCourse (pv 0)) (v2r z0d)) (z0b (z2j (z0j kcCourse z57 hr (pv 0) (z00 (z08 1) (z00 (z08 3) z03))))) z2s)))))))))
abbrev z5e:Stmt:=z0m (top 17) 7
theorem z9e:FnScope ["self","zone","what","before"] ["self","zone","what"] (z01 z5e):=unop% sk 0
theorem z7j (F:Fun K "line" "Course.line" z5e f fd) (m:Meth K CCourse "line" f) (kcCourse:unop% ko 0) (z0a:MtMd P w K mg base CCourse 0 "tell" k 3 z06) (z56:MtMd P w K mg base CCourse 0 "disturb" k 3 z2k):MtMd P w K mg base CCourse 0 "line" (k+1) 3 z46 :=
 z2v F z9e (unop% b3 F) m unop% lm
  (z05 (z20 3 z9e.nd (znc (j:=4) kcCourse (zoh hr) (pv 0) (q_nm 1)))
  (z05 (s_if (binop% eqt (q_nm 2) (q_nm 3)) (z0b zje) z2s)
  (z05 (zvr (j:=4) kcCourse (zoh hr) (pv 0) (q_nm 1) (z08 2))
  (z0b (s_if (binop% eqt (q_nm 2) (v2r z0d)) (z0b (s_if (binop% eqt (q_nm 3) (v2r z0d)) (z0b (z2j (z0j kcCourse z0a hr (pv 0) (z00 z0d (z00 (z08 1) z03))))) z2s)) (z0b (s_if (z5k (z88 (by exact hr.units)) z8b (q_nm 1) (z4d (j:=5) kcCourse (pv 0))) (z0b (z2j (z0j kcCourse z56 hr (pv 0) (z00 (z08 1) (z00 (z08 2) z03))))) z2s)))))))
abbrev zai:Stmt:=top 15
theorem zes:FnScope ["plan","figures","code"] ["plan","figures"] (z01 zai):=unop% sk 0
theorem ze7 (F:Fun K "code_of" "code_of" zai f fd) (m:mg "code_of"=some (.ref f)) :Cl P w K mg base "code_of" (k+1) 2 z8j :=
 zaw F zes (unop% b2 F) m unop% lm
  (z05 (zh7 y2a (zc7 (q_ix (q_nm 0) (v2r z04))) (g_nm 2 zes.nd)
  (z0b (s_if (binop% eqt (v2r (q_ix (q_nm 2) (v2r z04))) (q_nm 1)) (z0b (zvp 2)) z2s)))
  (z0b (z1z zd0)))
abbrev z2d:Stmt:=z0m (top 17) 16
theorem z98:FnScope ["self","code"] ["self","code"] (z01 z2d):=unop% sk 0
theorem z3o (F:Fun K "is_used_up" "Course.is_used_up" z2d f fd) (m:Meth K CCourse "is_used_up" f) (kcCourse:unop% ko 0):MtRd P w K mg base CCourse "is_used_up" (k+1) 2 z17 :=
 z9h F z98 (unop% b2 F) m unop% lm
  (z0b (z1z (zqd (zji (zex (by exact hr.units)) zez (v2r (q_ix (q_nm 1) (v2r z04))) (v2r z04)) (znd (zji (zwn.or zhj) zsh (v2r (znc (j:=10) kcCourse (zoh hr) (pv 0) (v2r (q_ix (q_nm 1) (v2r z04))))) (v2r (q_ix (q_nm 1) (v2r z04))))))))
abbrev z2b:Stmt:=z0m (top 17) 17
theorem z97:FnScope ["self"] ["self"] (z01 z2b):=unop% sk 0
theorem z3m (F:Fun K "take_wrong" "Course.take_wrong" z2b f fd) (m:Meth K CCourse "take_wrong" f) (kcCourse:unop% ko 0) (z0a:MtMd P w K mg base CCourse 0 "tell" k 3 z06) (z2m:MtMd P w K mg base CCourse 0 "be_loud" k 1 z1e) {t_WRONG_IN_A_ROW:Tok} (g_WRONG_IN_A_ROW:mg "WRONG_IN_A_ROW"=some (.int 3 t_WRONG_IN_A_ROW)) {t_TICKS_LOCKED:Tok} (g_TICKS_LOCKED:mg "TICKS_LOCKED"=some (.int 90 t_TICKS_LOCKED)):MtMd P w K mg base CCourse 0 "take_wrong" (k+1) 1 z15 :=
 z2v F z97 (unop% b1 F) m unop% lm
  (z05 (z2j (z0j kcCourse z0a hr (pv 0) (z00 z0d (z00 zd0 z03))))
  (z05 (zs4 (j:=8) kcCourse (pv 0) z04)
  (z0b (s_if (z5k (zwn.or zhj) zsh (z4d (j:=8) kcCourse (pv 0)) (v2r (q_gI g_WRONG_IN_A_ROW))) (z05 (z1r (j:=8) kcCourse (pv 0) z04)
  (z05 (z1r (j:=9) kcCourse (pv 0) (q_gI g_TICKS_LOCKED))
  (z05 (z2j (z62 kcCourse z2m hr (pv 0)))
  (z0b (z2j (z0j kcCourse z0a hr (pv 0) (z00 z0d (z00 zd0 z03)))))))) z2s))))
abbrev z21:Stmt:=z0m (top 17) 20
theorem z84:FnScope ["self","deed","zone"] ["self","deed","zone"] (z01 z21):=unop% sk 0
theorem z34 (F:Fun K "is_untimely" "Course.is_untimely" z21 f fd) (m:Meth K CCourse "is_untimely" f) (kcCourse:unop% ko 0) (z51:Cl P w K mg base "kind_of" k 2 z3a):MtRd P w K mg base CCourse "is_untimely" (k+1) 3 z0g :=
 z9h F z84 (unop% b3 F) m unop% lm
  (z05 (s_if (binop% eqt (q_nm 1) (v2r z0d)) (z0b (z1z q_bl)) z2s)
  (z05 (s_if (binop% net (z4d (j:=1) kcCourse (pv 0)) (v2r z0d)) (z0b (z1z q_bl)) z2s)
  (z05 (s_if (binop% eqt (q_nm 1) (v2r z0d)) (z0b (z1z (q_or (binop% eqq (v2r (z0y z51 hr (z00 (z37 (j:=0) kcCourse (pv 0)) (z00 (z08 2) z03)))) (v2r z0d)) (zy6 (zji (zey (by exact hr.units)) z8b (q_nm 2) (z4d (j:=5) kcCourse (pv 0))))))) z2s)
  (z0b (z1z (zqd (binop% eqq (q_nm 1) (v2r z0d)) (znd (zji (z88 (by exact hr.units)) z8b (q_nm 2) (z4d (j:=5) kcCourse (pv 0))))))))))
abbrev z13:Stmt:=z0m (top 17) 6
theorem z5b:FnScope ["self","kinds","zones"] ["self","kinds"] (z01 z13):=unop% sk 0
theorem z1p (F:Fun K "bare_zones" "Course.bare_zones" z13 f fd) (m:Meth K CCourse "bare_zones" f) (kcCourse:unop% ko 0):MtRd P w K mg base CCourse "bare_zones" (k+1) 2 z0v :=
 z9h F z5b (unop% b2 F) m unop% lm
  (z05 (zn3 2 z5b.nd (own:=["zone"]) (caps:=[(1,"kinds")]) (binop% co z13 ["self","kinds","zones"]) (zc7 (q_ix (z4d (j:=0) kcCourse (pv 0)) (v2r z04))) (unop% w6 (g_nm 0 (unop% nd ["zone","kinds"]))) (unop% w6 (zgw (z5k (zey (by exact hr.units)) z8b (v2r (q_ix (q_nm 0) (v2r z04))) (q_nm 1)))) (unop% w6 (q_ix (q_nm 0) (v2r z04))))
  (z0b (z1z (z9t (own:=["zone"]) (caps:=[(0,"self")]) (binop% co z13 ["self","kinds","zones"]) (zc7 (z08 2)) (unop% w6 (g_nm 0 (unop% nd ["zone","self"]))) (unop% w6 (zgw (w_t (zt9 (binop% net (v2r (znc (j:=4) (by exact kcCourse) (by exact zoh hr) (pv 1) (q_nm 0))) (v2r z0d)) (zmn (z5k (z88 (by exact hr.units)) z8b (q_nm 0) (z4d (j:=5) (by exact kcCourse) (pv 1)))))))) (unop% w6 (z08 0))))))
abbrev z1b:Stmt:=z0m (top 17) 19
theorem z1w:FnScope ["self","code","deed","zone","right","bare"] ["self","code","deed","zone"] (z01 z1b):=unop% sk 0
theorem z29 (F:Fun K "what_is_against" "Course.what_is_against" z1b f fd) (m:Meth K CCourse "what_is_against" f) (kcCourse:unop% ko 0) (z34:MtRd P w K mg base CCourse "is_untimely" k 3 z0g) (z1p:MtRd P w K mg base CCourse "bare_zones" k 2 z0v) {a_KINDS_SHUT_TO_SET:Addr} (m_KINDS_SHUT_TO_SET:mg "KINDS_SHUT_TO_SET"=some (.ref a_KINDS_SHUT_TO_SET)) (t_KINDS_SHUT_TO_SET:∃(o:Obj) (its:Array Value) (n:Nat),K.lookup a_KINDS_SHUT_TO_SET=some o/\o.cls=.type "tuple"/\o.data=.seq its n/\its.size<=y0k/\Vals ((["day","once"]:List Str).map V.str) its.toList):MtRd P w K mg base CCourse "what_is_against" (k+1) 4 z0x :=
 z9h F z1w (unop% b4 F) m unop% lm
  (z05 (z20 4 z1w.nd (zy8 (binop% eqt (q_nm 2) (v2r z0d)) z0d (z08 2)))
  (z05 (s_if (z5k (z88 (by exact hr.units)) z8b (q_nm 4) (v2r (q_ix (q_nm 1) (v2r z04)))) (z0b (z1z (z14 (z00 z0d (z00 (q_ix (q_nm 1) (v2r z04)) z03))))) z2s)
  (z05 (s_if (zs2 (v2r (z9s kcCourse z34 hr (pv 0) (z00 (z08 2) (z00 (z08 3) z03))))) (z0b (z1z (z14 (z00 z0d (z00 (q_ix (q_nm 1) (v2r z04)) z03))))) z2s)
  (z05 (z20 5 z1w.nd (z9s kcCourse z1p hr (pv 0) (z00 (q_gT m_KINDS_SHUT_TO_SET t_KINDS_SHUT_TO_SET) z03)))
  (z05 (s_if (w_t (zt9 (binop% eqt (q_nm 2) (v2r z0d)) (zmn (zmr (q_nm 5))))) (z0b (z1z (z14 (z00 z0d (z00 (q_ix (q_nm 5) (v2r z04)) z03))))) z2s)
  (z0b (z1z zd0)))))))
abbrev z22:Stmt:=z0m (top 17) 13
theorem z4v:FnScope ["self","zone"] ["self"] (z01 z22):=unop% sk 0
theorem z1f (F:Fun K "end_leaving" "Course.end_leaving" z22 f fd) (m:Meth K CCourse "end_leaving" f) (kcCourse:unop% ko 0) (z0a:MtMd P w K mg base CCourse 0 "tell" k 3 z06) (z1p:MtRd P w K mg base CCourse "bare_zones" k 2 z0v) (z0z:MtMd P w K mg base CCourse 0 "alarm" k 2 z0h) {a_KINDS_LEFT_BY:Addr} (m_KINDS_LEFT_BY:mg "KINDS_LEFT_BY"=some (.ref a_KINDS_LEFT_BY)) (t_KINDS_LEFT_BY:∃(o:Obj) (its:Array Value) (n:Nat),K.lookup a_KINDS_LEFT_BY=some o/\o.cls=.type "tuple"/\o.data=.seq its n/\its.size<=y0k/\Vals ((["inner","way"]:List Str).map V.str) its.toList):MtMd P w K mg base CCourse 0 "end_leaving" (k+1) 1 z0p :=
 z2v F z4v (unop% b1 F) m unop% lm
  (z05 (z1r (j:=1) kcCourse (pv 0) z0d)
  (z05 (z1r (j:=2) kcCourse (pv 0) z04)
  (z05 (z2j (z0j kcCourse z0a hr (pv 0) (z00 z0d (z00 zd0 z03))))
  (z0b (zh7 y2a (zc7 (z9s kcCourse z1p hr (pv 0) (z00 (q_gT m_KINDS_LEFT_BY t_KINDS_LEFT_BY) z03))) (g_nm 1 z4v.nd)
  (z0b (z2j (z0j kcCourse z0z hr (pv 0) (z00 (z08 1) z03)))))))))
abbrev z41:Stmt:=z0m (top 17) 22
theorem zc6:FnScope ["self","who"] ["self","who"] (z01 z41):=unop% sk 0
theorem z5t (F:Fun K "do_set" "Course.do_set" z41 f fd) (m:Meth K CCourse "do_set" f) (kcCourse:unop% ko 0) (z0a:MtMd P w K mg base CCourse 0 "tell" k 3 z06) (z1f:MtMd P w K mg base CCourse 0 "end_leaving" k 1 z0p):MtMd P w K mg base CCourse 0 "do_set" (k+1) 2 z27 :=
 z2v F zc6 (unop% b2 F) m unop% lm
  (z05 (z86 (j:=7) kcCourse (pv 0) (zll z03))
  (z05 (z1r (j:=6) kcCourse (pv 0) z04)
  (z05 (z1r (j:=1) kcCourse (pv 0) z0d)
  (z05 (z1r (j:=2) kcCourse (pv 0) (q_ix (v2r (q_ix (z4d (j:=0) kcCourse (pv 0)) (v2r z04))) (v2r z04)))
  (z05 (z2j (z0j kcCourse z0a hr (pv 0) (z00 z0d (z00 (z08 1) z03))))
  (z0b (s_if (z5k (zu8.or zd3) zno (z4d (j:=2) kcCourse (pv 0)) (v2r z04)) (z0b (z2j (z62 kcCourse z1f hr (pv 0)))) z2s)))))))
abbrev z2z:Stmt:=z0m (top 17) 23
theorem zab:FnScope ["self","who"] ["self","who"] (z01 z2z):=unop% sk 0
theorem z4n (F:Fun K "do_unset" "Course.do_unset" z2z f fd) (m:Meth K CCourse "do_unset" f) (kcCourse:unop% ko 0) (z0a:MtMd P w K mg base CCourse 0 "tell" k 3 z06):MtMd P w K mg base CCourse 0 "do_unset" (k+1) 2 z26 :=
 z2v F zab (unop% b2 F) m unop% lm
  (z05 (z1r (j:=1) kcCourse (pv 0) z0d)
  (z05 (z1r (j:=2) kcCourse (pv 0) z04)
  (z05 (z1r (j:=6) kcCourse (pv 0) z04)
  (z05 (z1r (j:=3) kcCourse (pv 0) zd0)
  (z05 (z86 (j:=5) kcCourse (pv 0) (zll z03))
  (z0b (z2j (z0j kcCourse z0a hr (pv 0) (z00 z0d (z00 (z08 1) z03))))))))))
abbrev z3e:Stmt:=z0m (top 17) 21
theorem zb7:FnScope ["self","who","deed","zone"] ["self","who","deed","zone"] (z01 z3e):=unop% sk 0
theorem z55 (F:Fun K "do_deed" "Course.do_deed" z3e f fd) (m:Meth K CCourse "do_deed" f) (kcCourse:unop% ko 0) (z5t:MtMd P w K mg base CCourse 0 "do_set" k 2 z27) (z4n:MtMd P w K mg base CCourse 0 "do_unset" k 2 z26) (z_sorted:mg "sorted"=none) (z0a:MtMd P w K mg base CCourse 0 "tell" k 3 z06):MtMd P w K mg base CCourse 0 "do_deed" (k+1) 4 z11 :=
 z2v F zb7 (unop% b4 F) m unop% lm
  (z0b (s_if (binop% eqt (q_nm 2) (v2r z0d)) (z0b (z2j (z0j kcCourse z5t hr (pv 0) (z00 (z08 1) z03)))) (z0b (s_if (binop% eqt (q_nm 2) (v2r z0d)) (z0b (z2j (z0j kcCourse z4n hr (pv 0) (z00 (z08 1) z03)))) (z0b (s_if (binop% eqt (q_nm 2) (v2r z0d)) (z05 (z86 (j:=5) kcCourse (pv 0) (zn9 rfl z_sorted (v2r (z9a (z4d (j:=5) kcCourse (pv 0)) (v2r (zs8 (z00 (z08 3) z03)))))))
  (z0b (z2j (z0j kcCourse z0a hr (pv 0) (z00 z0d (z00 (z08 3) z03)))))) (z05 (zxz (j:=5) kcCourse (pv 0) (z08 3))
  (z0b (z2j (z0j kcCourse z0a hr (pv 0) (z00 z0d (z00 (z08 3) z03))))))))))))
abbrev z2c:Stmt:=z0m (top 17) 18
theorem z59:FnScope ["self","code","deed","zone","against"] ["self","code","deed","zone"] (z01 z2c):=unop% sk 0
theorem z3n (F:Fun K "take_right" "Course.take_right" z2c f fd) (m:Meth K CCourse "take_right" f) (kcCourse:unop% ko 0) (z29:MtRd P w K mg base CCourse "what_is_against" k 4 z0x) (z55:MtMd P w K mg base CCourse 0 "do_deed" k 4 z11) (z0a:MtMd P w K mg base CCourse 0 "tell" k 3 z06):MtMd P w K mg base CCourse 0 "take_right" (k+1) 4 z16 :=
 z2v F z59 (unop% b4 F) m unop% lm
  (z05 (z20 4 z59.nd (z9s kcCourse z29 hr (pv 0) (z00 (z08 1) (z00 (z08 2) (z00 (z08 3) z03)))))
  (z0b (s_if (zvi (q_nm 4)) (z05 (ztk (j:=10) kcCourse (zoh hr) (pv 0) (v2r (q_ix (q_nm 1) (v2r z04))) z04)
  (z0b (z2j (z0j kcCourse z55 hr (pv 0) (z00 (q_ix (q_nm 1) (v2r z04)) (z00 (z08 2) (z00 (z08 3) z03))))))) (z0b (z2j (z0j kcCourse z0a hr (pv 0) (z00 (q_ix (q_nm 4) (v2r z04)) (z00 (q_ix (q_nm 4) (v2r z04)) z03))))))))
abbrev z5f:Stmt:=z0m (top 17) 15
theorem z9f:FnScope ["self","figures","deed","zone","code"] ["self","figures","deed","zone"] (z01 z5f):=unop% sk 0
theorem z7k (F:Fun K "code" "Course.code" z5f f fd) (m:Meth K CCourse "code" f) (kcCourse:unop% ko 0) (ze7:Cl P w K mg base "code_of" k 2 z8j) (z0a:MtMd P w K mg base CCourse 0 "tell" k 3 z06) (z3o:MtRd P w K mg base CCourse "is_used_up" k 2 z17) (z3m:MtMd P w K mg base CCourse 0 "take_wrong" k 1 z15) (z3n:MtMd P w K mg base CCourse 0 "take_right" k 4 z16):MtMd P w K mg base CCourse 0 "code" (k+1) 4 z1u :=
 z2v F z9f (unop% b4 F) m unop% lm
  (z05 (z20 4 z9f.nd (z0y ze7 hr (z00 (z37 (j:=0) kcCourse (pv 0)) (z00 (z08 1) z03))))
  (z0b (s_if (z5k (znn.or z8a) zhl (z4d (j:=9) kcCourse (pv 0)) (v2r z04)) (z0b (z2j (z0j kcCourse z0a hr (pv 0) (z00 z0d (z00 zd0 z03))))) (z0b (s_if (w_t (w_or (zvi (q_nm 4)) (zgs (zs2 (v2r (z9s kcCourse z3o hr (pv 0) (z00 (z08 4) z03))))))) (z0b (z2j (z62 kcCourse z3m hr (pv 0)))) (z05 (z1r (j:=8) kcCourse (pv 0) z04)
  (z0b (z2j (z0j kcCourse z3n hr (pv 0) (z00 (z08 4) (z00 (z08 2) (z00 (z08 3) z03))))))))))))
abbrev z8v:Stmt:=top 16
theorem zjd:FnScope ["ticks","many"] ["ticks","many"] (z01 z8v):=unop% sk 0
theorem z6q (F:Fun K "lessened" "lessened" z8v f fd) (m:mg "lessened"=some (.ref f)) (z_max:mg "max"=none):Cl P w K mg base "lessened" (k+1) 2 z4k :=
 zaw F zjd (unop% b2 F) m unop% lm
  (z0b (z1z (zy7 z_max (z35 (v2r (zw0 (q_nm 0) (q_nm 1))) (z35 (v2r z04) z5y)))))
abbrev z2f:Stmt:=z0m (top 17) 11
theorem z99:FnScope ["self","many"] ["self","many"] (z01 z2f):=unop% sk 0
theorem z1o (F:Fun K "count_down" "Course.count_down" z2f f fd) (m:Meth K CCourse "count_down" f) (kcCourse:unop% ko 0) (z6q:Cl P w K mg base "lessened" k 2 z4k):MtMd P w K mg base CCourse 0 "count_down" (k+1) 2 z0u :=
 z2v F z99 (unop% b2 F) m unop% lm
  (z05 (zs4 (j:=11) kcCourse (pv 0) (z08 1))
  (z05 (z1r (j:=9) kcCourse (pv 0) (z0y z6q hr (z00 (z37 (j:=9) kcCourse (pv 0)) (z00 (z08 1) z03))))
  (z05 (z1r (j:=6) kcCourse (pv 0) (z0y z6q hr (z00 (z37 (j:=6) kcCourse (pv 0)) (z00 (z08 1) z03))))
  (z0b (z1r (j:=2) kcCourse (pv 0) (z0y z6q hr (z00 (z37 (j:=2) kcCourse (pv 0)) (z00 (z08 1) z03))))))))
abbrev z2e:Stmt:=z0m (top 17) 14
theorem z5a:FnScope ["self","zone"] ["self"] (z01 z2e):=unop% sk 0
theorem z3p (F:Fun K "end_coming" "Course.end_coming" z2e f fd) (m:Meth K CCourse "end_coming" f) (kcCourse:unop% ko 0) (z0z:MtMd P w K mg base CCourse 0 "alarm" k 2 z0h):MtMd P w K mg base CCourse 0 "end_coming" (k+1) 1 z1n :=
 z2v F z5a (unop% b1 F) m unop% lm
  (z05 (z20 1 z5a.nd (z37 (j:=3) kcCourse (pv 0)))
  (z05 (z1r (j:=1) kcCourse (pv 0) z0d)
  (z05 (z1r (j:=3) kcCourse (pv 0) zd0)
  (z0b (z2j (z0j kcCourse z0z hr (pv 0) (z00 (z08 1) z03)))))))
abbrev z2y:Stmt:=z0m (top 17) 12
theorem zaa:FnScope ["self"] ["self"] (z01 z2y):=unop% sk 0
theorem z4m (F:Fun K "end_time" "Course.end_time" z2y f fd) (m:Meth K CCourse "end_time" f) (kcCourse:unop% ko 0) (z1f:MtMd P w K mg base CCourse 0 "end_leaving" k 1 z0p) (z3p:MtMd P w K mg base CCourse 0 "end_coming" k 1 z1n):MtMd P w K mg base CCourse 0 "end_time" (k+1) 1 z1j :=
 z2v F zaa (unop% b1 F) m unop% lm
  (z0b (s_if (binop% eqt (z4d (j:=1) kcCourse (pv 0)) (v2r z0d)) (z0b (z2j (z62 kcCourse z1f hr (pv 0)))) (z0b (z2j (z62 kcCourse z3p hr (pv 0))))))
abbrev z4q:Stmt:=z0m (top 17) 10
theorem z83:FnScope ["self","many","rest"] ["self","many"] (z01 z4q):=unop% sk 0
theorem z6f (F:Fun K "ticks" "Course.ticks" z4q f fd) (m:Meth K CCourse "ticks" f) (kcCourse:unop% ko 0) (z1o:MtMd P w K mg base CCourse 0 "count_down" k 2 z0u) (z4m:MtMd P w K mg base CCourse 0 "end_time" k 1 z1j):MtMd P w K mg base CCourse 0 "ticks" (k+1) 2 z1h :=
 z2v F z83 (unop% b2 F) m unop% lm
  (z05 (s_if (z5k (znm.or z89) zhk (q_nm 1) (v2r z04)) (z0b zje) z2s)
  (z0b (s_if (w_t (zt9 (z5k (zey (by exact hr.units)) z8b (z4d (j:=1) kcCourse (pv 0)) (v2r (z14 (z00 z0d (z00 z0d z03))))) (zmn (z5k (zu8.or zd3) zno (z4d (j:=2) kcCourse (pv 0)) (q_nm 1))))) (z05 (z20 2 z83.nd (zw0 (q_nm 1) (z4d (j:=2) kcCourse (pv 0))))
  (z05 (z2j (z0j kcCourse z1o hr (pv 0) (z00 (z37 (j:=2) kcCourse (pv 0)) z03)))
  (z05 (z2j (z62 kcCourse z4m hr (pv 0)))
  (z0b (z2j (z0j kcCourse z1o hr (pv 0) (z00 (z08 2) z03))))))) (z0b (z2j (z0j kcCourse z1o hr (pv 0) (z00 (z08 1) z03)))))))
abbrev z40:Stmt:=z0m (top 17) 2
theorem zc5:FnScope ["self","event"] ["self","event"] (z01 z40):=unop% sk 0
theorem z5s (F:Fun K "happen" "Course.happen" z40 f fd) (m:Meth K CCourse "happen" f) (kcCourse:unop% ko 0) (z7j:MtMd P w K mg base CCourse 0 "line" k 3 z46) (z7k:MtMd P w K mg base CCourse 0 "code" k 4 z1u) (z6f:MtMd P w K mg base CCourse 0 "ticks" k 2 z1h):MtMd P w K mg base CCourse 0 "happen" (k+1) 2 z1a :=
 z2v F zc5 (unop% b2 F) m unop% lm
  (z0b (s_if (binop% eqt (v2r (q_ix (q_nm 1) (v2r z04))) (v2r z0d)) (z0b (z2j (z0j kcCourse z7j hr (pv 0) (z00 (q_ix (q_nm 1) (v2r z04)) (z00 (q_ix (q_nm 1) (v2r z04)) z03))))) (z0b (s_if (binop% eqt (v2r (q_ix (q_nm 1) (v2r z04))) (v2r z0d)) (z0b (z2j (z0j kcCourse z7k hr (pv 0) (z00 (q_ix (q_nm 1) (v2r z04)) (z00 (q_ix (q_nm 1) (v2r z04)) (z00 (q_ix (q_nm 1) (v2r z04)) z03)))))) (z0b (z2j (z0j kcCourse z6f hr (pv 0) (z00 (q_ix (q_nm 1) (v2r z04)) z03))))))))
abbrev z6z:Stmt:=top 18
theorem z82:FnScope ["plan","state","row","course","event"] ["plan","state","row"] (z01 z6z):=unop% sk 0
theorem z75 (ts:List T) (s:Sl) (h:z1c ts=some s):∃c os,s=.obj .own c os:=zq9 (b:=za5) h
theorem z2h (F:Fun K "course_of" "course_of" z6z f fd) (m:mg "course_of"=some (.ref f)) (kcCourse:unop% ko 0) (c_Course:ClNew P w K mg base "Course" CCourse 0 k 3 z28) (z5s:MtMd P w K mg base CCourse 0 "happen" k 2 z1a):ClO P w K mg base "course_of" (k+2) 3 z1c :=
 zxg F z82 (unop% b3 F) m unop% lm
  (z05 (zn1 3 z82.nd (zud kcCourse c_Course hr (z00 (z08 0) (z00 (z08 1) z03))))
  (z05 (zh7 y2a (zc7 (z08 2)) (g_nm 4 z82.nd)
  (z0b (z2j (z0j kcCourse z5s (hr.mono (y2k _)) (pv 3) (z00 (z08 4) z03)))))
  (z0b (zvo (pv 3)))))
abbrev zg1:Stmt:=top 22
theorem zq5:FnScope ["plan","state","row"] ["plan","state","row"] (z01 zg1):=unop% sk 0
theorem zgo (F:Fun K "after" "after" zg1 f fd) (m:mg "after"=some (.ref f)) (kcCourse:unop% ko 0) (z3b:MtRd P w K mg base CCourse "state" k 1 z1x) (z2h:ClO P w K mg base "course_of" k 3 z1c):Cl P w K mg base "after" (k+1) 3 z7g :=
 zaw F zq5 (unop% b3 F) m unop% lm
  (z0b (z1z (zw1 kcCourse z3b hr (zks z2h z75 hr (z00 (z08 0) (z00 (z08 1) (z00 (z08 2) z03)))))))
abbrev zg0:Stmt:=top 23
theorem zq4:FnScope ["plan","state","row"] ["plan","state","row"] (z01 zg0):=unop% sk 0
theorem ze5 (F:Fun K "story" "story" zg0 f fd) (m:mg "story"=some (.ref f)) (kcCourse:unop% ko 0) (z_tuple:mg "tuple"=none) (z2h:ClO P w K mg base "course_of" k 3 z1c):Cl P w K mg base "story" (k+1) 3 z7f :=
 zaw F zq4 (unop% b3 F) m unop% lm
  (z0b (z1z (z6b z_tuple (z35 (v2r (zhc (j:=12) kcCourse (zks z2h z75 hr (z00 (z08 0) (z00 (z08 1) (z00 (z08 2) z03)))))) z5y))))
abbrev zaj:Stmt:=z0m (top 27) 10
theorem zli:FnScope ["self"] ["self"] (z01 zaj):=unop% sk 0
theorem z6r (F:Fun K "row" "Box.row" zaj f fd) (m:Meth K CBox "row" f) (kcBox:unop% ko 1) (z_tuple:mg "tuple"=none):MtRd P w K mg base CBox "row" (k+1) 1 z2w :=
 z9h F zli (unop% b1 F) m unop% lm
  (z0b (z1z (z6b z_tuple (z35 (z4d (j:=1) kcBox (pv 0)) z5y))))
abbrev zak:Stmt:=z0m (top 27) 8
theorem zlj:FnScope ["self"] ["self"] (z01 zak):=unop% sk 0
theorem zax (F:Fun K "log" "Box.log" zak f fd) (m:Meth K CBox "log" f) (kcBox:unop% ko 1) (ze5:Cl P w K mg base "story" k 3 z7f) (z6r:MtRd P w K mg base CBox "row" k 1 z2w):MtRd P w K mg base CBox "log" (k+1) 1 z47 :=
 z9h F zlj (unop% b1 F) m unop% lm
  (z0b (z1z (z0y ze5 hr (z00 (z37 (j:=0) kcBox (pv 0)) (z00 (q_ix (z4d (j:=2) kcBox (pv 0)) (v2r z04)) (z00 (z43 kcBox z6r hr (pv 0)) z03))))))
abbrev z71:Stmt:=z0m (top 27) 6
theorem zh5:FnScope ["self"] ["self"] (z01 z71):=unop% sk 0
theorem z2i (F:Fun K "state" "Box.state" z71 f fd) (m:Meth K CBox "state" f) (kcBox:unop% ko 1):MtRd P w K mg base CBox "state" (k+1) 1 z0w :=
 z9h F zh5 (unop% b1 F) m unop% lm
  (z0b (z1z (q_ix (z4d (j:=2) kcBox (pv 0)) (v2r (zw2 (v2r z04))))))
abbrev z3z:Stmt:=top 32
theorem z3y:FnScope ["_law_deed","_law_found","e","_law_kinds"] ["_law_deed"] (z01 z3z):=unop% sk 0
theorem ze8 {K:y00} {f:Addr} {fd:y0b} (F:Fun K "_law_told" "_law_told" z3z f fd):z3d K fd ["_law_deed"] []:=F.binds (ps:=["_law_deed"]) fun _ _ _ _ _ _ us hl=>match us,hl with|[_],_=>rfl
theorem zdz {f:Addr} (cdv:Value) (A:Around) (outer:List Env) (s:y04) (H:Hp):PSs (cxOf CX0 P w K mg base ["_law_deed","_law_found","e","_law_kinds"] "_law_told" (z01 z3z) f cdv A outer s H E0).nox (z0o z3z) (ztc (cxOf CX0 P w K mg base ["_law_deed","_law_found","e","_law_kinds"] "_law_told" (z01 z3z) f cdv A outer s H E0).nox) :=
 z73 (zwb (z9u (zd1 z3y.nd rfl (Or.inl rfl) (zhf (z0r zhg (z0r (zu2 (pv 0)) z38)))))) (z9u (zd2 (pv 1)))
theorem zdy {f C XD xz xw xd xt:Addr} {j:Nat} (Nm:Names K mg XD xz xw xd xt) (R:Ref1 K XD xz xw xd xt C j) (cdv:Value) (A:Around) (outer:List Env) (s:y04) (H:Hp):PSs (cxOf CX0 P w K mg base ["_law_deed","_law_found","e","_law_kinds"] "_law_told" (z01 z3z) f cdv A outer s H E0).nox (z0o z3z) (zkc (cxOf CX0 P w K mg base ["_law_deed","_law_found","e","_law_kinds"] "_law_told" (z01 z3z) f cdv A outer s H E0).nox C j) :=
 zvg Nm R (fun pn E=>z9u (zd1 z3y.nd rfl (Or.inl rfl) (zhf (z0r zhg (z0r (zql (pv 0)) z38)))))
  (fun ea=>z73 (zd1 z3y.nd rfl (Or.inl rfl) (zsd (z0r (zhh R.ok Nm.isi (pv 2) (zbf (by rfl) Nm.nz (by rfl))) (z0r (zhh R.ok Nm.isi (pv 2) (zbf (by rfl) Nm.nw (by rfl))) (z0r (zhh R.ok Nm.isi (pv 2) (zbf (by rfl) Nm.nd (by rfl))) (z0r (zhh R.ok Nm.isi (pv 2) (zbf (by rfl) Nm.nt (by rfl))) z38))))))
   (z73 (zd1 z3y.nd rfl (Or.inl rfl) (zhf (z0r zhg (z0r (zwg zrz znl) z38))))
   (z9u (zqg (zs9 (zsa (zhh R.ok Nm.isi (pv 2) (zu4 (by rfl) Nm.val PyProof.Rows.Boot.«ValueError» (by rfl)))) (zne (zjj zyd (zqm PySem.F.plainAttrs_list PySem.F.slot_list_count PySem.F.type_list_count zqw (pv 3) (z0r zu5 z38)) znl (zkt _)))).pt (z9u (zd1 z3y.nd rfl (Or.inl rfl) (zhf (z0r zhg (z0r (zqm PySem.F.plainAttrs_list PySem.F.slot_list_index PySem.F.type_list_index znx (pv 3) (z0r zu5 z38)) z38))))) znf)))) (pv 1) z3y.nd
abbrev zag:Stmt:=top 34
theorem z5i:FnScope ["_law_plan_here","_law_number","_law_zone","_law_kind","_law_figures","_law_deed"] ["_law_plan_here","_law_number"] (z01 zag):=unop% sk 0
theorem ze6 (F:Fun K "_law_event" "_law_event" zag f fd) (m:mg "_law_event"=some (.ref f)) (z_len:mg "len"=none):Cl P w K mg base "_law_event" (k+1) 2 z5q :=
 zaw F z5i (unop% b2 F) m unop% lm
  (z05 (z20 2 z5i.nd (q_ix (v2r (q_ix (v2r (q_ix (q_nm 0) (v2r z04))) (v2r (z42 (v2r (z6c (q_nm 1) (v2r z04))) (v2r (ztq z_len (z35 (v2r (q_ix (q_nm 0) (v2r z04))) z5y))))))) (v2r z04)))
  (z05 (z20 3 z5i.nd (z42 (q_nm 1) (v2r z04)))
  (z05 (s_if (z5k (znm.or z89) zhk (q_nm 3) (v2r z04)) (z0b (z1z (z14 (z00 z0d (z00 (z08 2) (z00 (q_ix (v2r (z14 (z00 z0d (z00 z0d (z00 z0d (z00 z0d z03)))))) (v2r (z42 (v2r (z6c (q_nm 1) (v2r z04))) (v2r z04)))) z03)))))) z2s)
  (z05 (s_if (z5k (znm.or z89) zhk (q_nm 3) (v2r z04)) (z0b (z1z (z14 (z00 z0d (z00 (z9a (v2r z04) (v2r (z42 (v2r (z6c (q_nm 1) (v2r z04))) (v2r (q_ix (v2r (z14 (z00 z04 (z00 z04 (z00 z04 z03))))) (v2r (z42 (v2r (z6c (q_nm 1) (v2r z04))) (v2r z04)))))))) z03))))) z2s)
  (z05 (z20 4 z5i.nd (q_ix (v2r (q_ix (v2r (q_ix (q_nm 0) (v2r z04))) (v2r (z42 (v2r (z6c (q_nm 1) (v2r z04))) (v2r (ztq z_len (z35 (v2r (q_ix (q_nm 0) (v2r z04))) z5y))))))) (v2r z04)))
  (z05 (s_if (binop% eqt (v2r (z42 (v2r (z6c (q_nm 1) (v2r z04))) (v2r z04))) (v2r z04)) (z0b (z20 4 z5i.nd (q_ix (v2r (z14 (z00 z0d (z00 z0d (z00 z0d (z00 z0d z03)))))) (v2r (z42 (v2r (z6c (q_nm 1) (v2r z04))) (v2r z04)))))) z2s)
  (z05 (z20 5 z5i.nd (q_ix (v2r (z14 (z00 z0d (z00 z0d (z00 z0d (z00 z0d (z00 z0d (z00 z0d z03)))))))) (v2r (z42 (v2r (z6c (q_nm 1) (v2r z04))) (v2r z04)))))
  (z05 (s_if (z5k (zey (by exact hr.units)) z8b (q_nm 5) (v2r (z14 (z00 z0d (z00 z0d z03))))) (z0b (z1z (z14 (z00 z0d (z00 (z08 4) (z00 (z08 5) (z00 zd0 z03))))))) z2s)
  (z0b (z1z (z14 (z00 z0d (z00 (z08 4) (z00 (z08 5) (z00 (z08 2) z03)))))))))))))))
abbrev z9p:Stmt:=top 24
theorem zc8:FnScope ["plan","state","not_shut"] ["plan","state"] (z01 z9p):=unop% sk 0
theorem zv8 (F:Fun K "shown" "shown" z9p f fd) (m:mg "shown"=some (.ref f)) (z_tuple:mg "tuple"=none) (z_zip:mg "zip"=none):Cl P w K mg base "shown" (k+1) 2 z6e :=
 zaw F zc8 (unop% b2 F) m unop% lm
  (z05 (zn3 2 zc8.nd (own:=["zone","line"]) (caps:=[]) (binop% co z9p ["plan","state","not_shut"]) (zx6 z_zip (q_ix (q_nm 0) (v2r z04)) (q_ix (q_nm 1) (v2r z04))) (unop% w6 (zon (z8e (g_nm 0 (unop% nd ["zone","line"])) (z8e (g_nm 1 (unop% nd ["zone","line"])) zoo)))) (unop% w6 (zgw (binop% net (q_nm 1) (v2r z0d)))) (unop% w6 (q_ix (q_nm 0) (v2r z04))))
  (z0b (z1z (z14 (z00 (q_ix (q_nm 1) (v2r z04)) (z00 (zji (znn.or z8a) zhl (v2r (q_ix (q_nm 1) (v2r z04))) (v2r z04)) (z00 (z6b z_tuple (z35 (q_nm 2) z5y)) z03)))))))
theorem z50 (F:Fun K "shown" "shown" z9p f fd) (m:mg "shown_rows"=some (.ref f)) (z_tuple:mg "tuple"=none) (z_zip:mg "zip"=none):Cl P w K mg base "shown_rows" (k+1) 2 z6e :=
 zxe F zc8 (unop% b2 F) m unop% lm
  (z05 (zn3 2 zc8.nd (own:=["zone","line"]) (caps:=[]) (binop% co z9p ["plan","state","not_shut"]) (zx6 z_zip (q_ix (q_nm 0) (v2r z04)) (q_ix (q_nm 1) (v2r z04))) (unop% w6 (zon (z8e (g_nm 0 (unop% nd ["zone","line"])) (z8e (g_nm 1 (unop% nd ["zone","line"])) zoo)))) (unop% w6 (zgw (binop% net (q_nm 1) (v2r z0d)))) (unop% w6 (q_ix (q_nm 0) (v2r z04))))
  (z0b (z1z (z14 (z00 (q_ix (q_nm 1) (v2r z04)) (z00 (zji (znn.or z8a) zhl (v2r (q_ix (q_nm 1) (v2r z04))) (v2r z04)) (z00 (z6b z_tuple (z35 (q_nm 2) z5y)) z03)))))))
abbrev z72:Stmt:=z0m (top 27) 7
theorem zh6:FnScope ["self"] ["self"] (z01 z72):=unop% sk 0
theorem za3 (F:Fun K "shown" "Box.shown" z72 f fd) (m:Meth K CBox "shown" f) (kcBox:unop% ko 1) (z50:Cl P w K mg base "shown_rows" k 2 z6e) (z2i:MtRd P w K mg base CBox "state" k 1 z0w):MtRd P w K mg base CBox "shown" (k+1) 1 z3l :=
 z9h F zh6 (unop% b1 F) m unop% lm
  (z0b (z1z (z0y z50 hr (z00 (z37 (j:=0) kcBox (pv 0)) (z00 (z43 kcBox z2i hr (pv 0)) z03)))))
abbrev zcw:Stmt:=top 20
theorem zq3:FnScope ["plan","state","event"] ["plan","state","event"] (z01 zcw):=unop% sk 0
theorem ze4 (F:Fun K "words" "words" zcw f fd) (m:mg "words"=some (.ref f)) (kcCourse:unop% ko 0) (z_tuple:mg "tuple"=none) (z2h:ClO P w K mg base "course_of" k 3 z1c):Cl P w K mg base "words" (k+1) 3 z7e :=
 zaw F zq3 (unop% b3 F) m unop% lm
  (z0b (z1z (z6b z_tuple (z35 (v2r (z9t (own:=["past","word","name"]) (caps:=[]) (binop% co zcw ["plan","state","event"]) (zc7 (zhc (j:=12) kcCourse (zks z2h z75 hr (z00 (z08 0) (z00 (z08 1) (z00 (z14 (z00 (z08 2) z03)) z03)))))) (unop% w6 (zon (z8e (g_nm 0 (unop% nd ["past","word","name"])) (z8e (g_nm 1 (unop% nd ["past","word","name"])) (z8e (g_nm 2 (unop% nd ["past","word","name"])) zoo))))) (unop% w6 zgx) (unop% w6 (z14 (z00 (z08 1) (z00 (z08 2) z03)))))) z5y))))
abbrev zkk:Stmt:=top 19
theorem zti:FnScope ["plan","state","event"] ["plan","state","event"] (z01 zkk):=unop% sk 0
theorem zp9 (F:Fun K "gone" "gone" zkk f fd) (m:mg "gone"=some (.ref f)) (kcCourse:unop% ko 0) (z3b:MtRd P w K mg base CCourse "state" k 1 z1x) (z2h:ClO P w K mg base "course_of" k 3 z1c):Cl P w K mg base "gone" (k+1) 3 zig :=
 zaw F zti (unop% b3 F) m unop% lm
  (z0b (z1z (zw1 kcCourse z3b hr (zks z2h z75 hr (z00 (z08 0) (z00 (z08 1) (z00 (z14 (z00 (z08 2) z03)) z03)))))))
abbrev z63:Stmt:=z0m (top 27) 1
theorem z6x:FnScope ["self","event","told","behind"] ["self","event"] (z01 z63):=unop% sk 0
theorem z1v (F:Fun K "happen" "Box.happen" z63 f fd) (m:Meth K CBox "happen" f) (kcBox:unop% ko 1) (ze4:Cl P w K mg base "words" k 3 z7e) (zp9:Cl P w K mg base "gone" k 3 zig) (z2i:MtRd P w K mg base CBox "state" k 1 z0w):MtMd P w K mg base CBox 1 "happen" (k+1) 2 z12 :=
 z2v F z6x (unop% b2 F) m unop% lm
  (z05 (z20 2 z6x.nd (z0y ze4 hr (z00 (z37 (j:=0) kcBox (pv 0)) (z00 (z43 kcBox z2i hr (pv 0)) (z00 (z08 1) z03)))))
  (z05 (z20 3 z6x.nd (z0y zp9 hr (z00 (z37 (j:=0) kcBox (pv 0)) (z00 (z43 kcBox z2i hr (pv 0)) (z00 (z08 1) z03)))))
  (z05 (zkl (j:=1) kcBox (pv 0) (z08 1))
  (z05 (zkl (j:=2) kcBox (pv 0) (z08 3))
  (z0b (zvq (z08 2)))))))
abbrev z70:Stmt:=z0m (top 27) 4
theorem zh4:FnScope ["self","many"] ["self","many"] (z01 z70):=unop% sk 0
theorem za2 (F:Fun K "ticks" "Box.ticks" z70 f fd) (m:Meth K CBox "ticks" f) (kcBox:unop% ko 1) (z1v:MtMd P w K mg base CBox 1 "happen" k 2 z12):MtMd P w K mg base CBox 1 "ticks" (k+1) 2 z4l :=
 z2v F zh4 (unop% b2 F) m unop% lm
  (z0b (zet (z0j kcBox z1v hr (pv 0) (z00 (z14 (z00 z0d (z00 (z08 1) z03))) z03))))
abbrev z2u:Stmt:=z0m (top 27) 5
theorem z7r:FnScope ["self","zone"] ["self","zone"] (z01 z2u):=unop% sk 0
theorem z1q (F:Fun K "need_zone" "Box.need_zone" z2u f fd) (m:Meth K CBox "need_zone" f) (kcBox:unop% ko 1) (z51:Cl P w K mg base "kind_of" k 2 z3a):MtRd P w K mg base CBox "need_zone" (k+1) 2 z0s :=
 z9h F z7r (unop% b2 F) m unop% lm
  (z0b (ztj (z0y z51 hr (z00 (z37 (j:=0) kcBox (pv 0)) (z00 (z08 1) z03)))))
theorem z1t {k:Nat} {f:Addr} {fd:y0b} (F:Fun K "need_zone" "Box.need_zone" z2u f fd) (m:Meth K CBox "need_zone" f) {XD xz xw xd xt:Addr} (Nm:Names K mg XD xz xw xd xt) (Rz:Ref1 K XD xz xw xd xt xz 0) (kcBox:unop% ko 1) (z51:Cl P w K mg base "kind_of" k 2 z3a) (z8r:ClZ P w K mg base "kind_of" xz k 2 z87):MtZ P w K mg base CBox "need_zone" xz (k+1) 2 z19 :=
 zkw F z7r (unop% b2 F) m unop% lm
  (z_1 (zmm (zvc z8r hr (ag_v (z37 (j:=0) kcBox (pv 0)) (ag_v (z08 1) zxk)))))
abbrev z6m:Stmt:=z0m (top 27) 2
theorem zct:FnScope ["self","zone","what"] ["self","zone","what"] (z01 z6m):=unop% sk 0
theorem z6s (F:Fun K "line" "Box.line" z6m f fd) (m:Meth K CBox "line" f) (kcBox:unop% ko 1) (z1q:MtRd P w K mg base CBox "need_zone" k 2 z0s) (z1v:MtMd P w K mg base CBox 1 "happen" k 2 z12):MtMd P w K mg base CBox 1 "line" (k+1) 3 z2o :=
 z2v F zct (unop% b3 F) m unop% lm
  (z05 (ztj (z9s kcBox z1q hr (pv 0) (z00 (z08 1) z03)))
  (z0b (zet (z0j kcBox z1v hr (pv 0) (z00 (z14 (z00 z0d (z00 (z08 1) (z00 (z08 2) z03)))) z03)))))
theorem z9n {k:Nat} {f:Addr} {fd:y0b} (F:Fun K "line" "Box.line" z6m f fd) (m:Meth K CBox "line" f) {XD xz xw xd xt:Addr} (Nm:Names K mg XD xz xw xd xt) (Rz:Ref1 K XD xz xw xd xt xz 0) (kcBox:unop% ko 1) (z1q:MtRd P w K mg base CBox "need_zone" k 2 z0s) (z1v:MtMd P w K mg base CBox 1 "happen" k 2 z12) (z1t:MtZ P w K mg base CBox "need_zone" xz k 2 z19):MtZ P w K mg base CBox "line" xz (k+1) 3 z4g :=
 zkw F zct (unop% b3 F) m unop% lm
  (z_1 (zmm (zk5 kcBox z1t hr (pv 0) (z00 (z08 1) z03))))
abbrev z6n:Stmt:=z0m (top 27) 3
theorem zcu:FnScope ["self","figures","deed","zone"] ["self","figures","deed","zone"] (z01 z6n):=unop% sk 0
theorem z6t (F:Fun K "code" "Box.code" z6n f fd) (m:Meth K CBox "code" f) (kcBox:unop% ko 1) (z1v:MtMd P w K mg base CBox 1 "happen" k 2 z12) (z1q:MtRd P w K mg base CBox "need_zone" k 2 z0s) {a_DEEDS_OF_ZONES:Addr} (m_DEEDS_OF_ZONES:mg "DEEDS_OF_ZONES"=some (.ref a_DEEDS_OF_ZONES)) (t_DEEDS_OF_ZONES:∃(o:Obj) (its:Array Value) (n:Nat),K.lookup a_DEEDS_OF_ZONES=some o/\o.cls=.type "tuple"/\o.data=.seq its n/\its.size<=y0k/\Vals ((["shunt","free"]:List Str).map V.str) its.toList):MtMd P w K mg base CBox 1 "code" (k+1) 4 z2p :=
 z2v F zcu (unop% b4 F) m unop% lm
  (z05 (s_if (w_t (w_or (zs1 (q_nm 3)) (zgs (z5k (zey (by exact hr.units)) z8b (q_nm 2) (v2r (q_gT m_DEEDS_OF_ZONES t_DEEDS_OF_ZONES)))))) (z0b (ztj (z9s kcBox z1q hr (pv 0) (z00 (z08 3) z03)))) z2s)
  (z0b (zet (z0j kcBox z1v hr (pv 0) (z00 (z14 (z00 z0d (z00 (z08 1) (z00 (z08 2) (z00 (z08 3) z03))))) z03)))))
theorem z9o {k:Nat} {f:Addr} {fd:y0b} (F:Fun K "code" "Box.code" z6n f fd) (m:Meth K CBox "code" f) {XD xz xw xd xt:Addr} (Nm:Names K mg XD xz xw xd xt) (Rz:Ref1 K XD xz xw xd xt xz 0) (kcBox:unop% ko 1) (z1v:MtMd P w K mg base CBox 1 "happen" k 2 z12) (z1q:MtRd P w K mg base CBox "need_zone" k 2 z0s) {a_DEEDS_OF_ZONES:Addr} (m_DEEDS_OF_ZONES:mg "DEEDS_OF_ZONES"=some (.ref a_DEEDS_OF_ZONES)) (t_DEEDS_OF_ZONES:∃(o:Obj) (its:Array Value) (n:Nat),K.lookup a_DEEDS_OF_ZONES=some o/\o.cls=.type "tuple"/\o.data=.seq its n/\its.size<=y0k/\Vals ((["shunt","free"]:List Str).map V.str) its.toList) (z1t:MtZ P w K mg base CBox "need_zone" xz k 2 z19):MtZ P w K mg base CBox "code" xz (k+1) 4 z4h :=
 zkw F zcu (unop% b4 F) m unop% lm
  (z_1 (z_if (w_t (w_or (zs1 (q_nm 3)) (zgs (z5k (zey (by exact hr.units)) z8b (q_nm 2) (v2r (q_gT m_DEEDS_OF_ZONES t_DEEDS_OF_ZONES)))))) (z_1 (zmm (zk5 kcBox z1t hr (pv 0) (z00 (z08 3) z03)))) z_no))
abbrev zkj:Stmt:=top 36
theorem zth:FnScope ["_law_box","_law_event_here"] ["_law_box","_law_event_here"] (z01 zkj):=unop% sk 0
theorem zp8 (F:Fun K "_law_do" "_law_do" zkj f fd) (m:mg "_law_do"=some (.ref f)) (kcBox:unop% ko 1) (za2:MtMd P w K mg base CBox 1 "ticks" k 2 z4l) (z6s:MtMd P w K mg base CBox 1 "line" k 3 z2o) (z6t:MtMd P w K mg base CBox 1 "code" k 4 z2p):ClM P w K mg base "_law_do" 1 0 (k+1) 2 zif :=
 zxh F zth (unop% b2 F) m unop% lm
  (z05 (s_if (binop% eqt (v2r (q_ix (q_nm 1) (v2r z04))) (v2r z0d)) (z0b (zet (z0j kcBox z6s hr (pv 0) (z00 (q_ix (q_nm 1) (v2r z04)) (z00 (q_ix (q_nm 1) (v2r z04)) z03))))) z2s)
  (z05 (s_if (binop% eqt (v2r (q_ix (q_nm 1) (v2r z04))) (v2r z0d)) (z0b (zet (z0j kcBox z6t hr (pv 0) (z00 (q_ix (q_nm 1) (v2r z04)) (z00 (q_ix (q_nm 1) (v2r z04)) (z00 (q_ix (q_nm 1) (v2r z04)) z03)))))) z2s)
  (z0b (zet (z0j kcBox za2 hr (pv 0) (z00 (q_ix (q_nm 1) (v2r z04)) z03))))))
abbrev z6l:Stmt:=z0m (top 27) 9
theorem zcs:FnScope ["self"] ["self"] (z01 z6l):=unop% sk 0
theorem zbo (F:Fun K "undo" "Box.undo" z6l f fd) (m:Meth K CBox "undo" f) (kcBox:unop% ko 1):MtMd P w K mg base CBox 1 "undo" (k+1) 1 z3t :=
 z2v F zcs (unop% b1 F) m unop% lm
  (z05 (s_if (zvh (zmr (z4d (j:=1) kcBox (pv 0)))) (z0b zn0) z2s)
  (z05 (zs3 (j:=1) kcBox (pv 0))
  (z0b (zs3 (j:=2) kcBox (pv 0)))))
theorem z9m {k:Nat} {f:Addr} {fd:y0b} (F:Fun K "undo" "Box.undo" z6l f fd) (m:Meth K CBox "undo" f) {XD xz xw xd xt:Addr} (Nm:Names K mg XD xz xw xd xt) (Rd:Ref1 K XD xz xw xd xt xd 2) (kcBox:unop% ko 1) :MtZ P w K mg base CBox "undo" xd (k+1) 1 z30 :=
 zkw F zcs (unop% b1 F) m unop% lm
  (z_1 (z_if (zvh (zmr (z4d (j:=1) kcBox (pv 0)))) (z_1 (zml Nm.nd Rd.new z0d hr.hd)) z_no))
abbrev zad:Stmt:=top 37
theorem z6j:FnScope ["_law_script","_law_plan_here","_law_box","_law_other","_law_row_here","_law_k","_law_number","_law_state","_law_due","_law_event_here"] ["_law_script"] (z01 zad):=unop% sk 0
theorem zyj {k:Nat} {f cL Pt:Addr} {oc:Value} {od an:Option Addr} {osl:Array (Option Value)} {kV doc pm ct:Value} (l:K.lookup f=some ⟨oc,od,.func (y0j "law" "law" (z5p zad) (z0o zad) (z01 zad) .none kV doc pm an (.ref cL) ct),osl⟩) (hcd:y0g K (.ref cL) "law"=true) (hCH:PySem.W.codeHdIn K cL Pt=true) (hbm:BM mg base) (htb:(Pt,(("law":Str)++".<locals>.")++"<lambda>")∈Tbl.tb) (hun:∀p∈Tbl.tb,p.1=Pt->p.2=(("law":Str)++".<locals>.")++"<lambda>") {XD xz xw xd xt:Addr} (Nm:Names K mg XD xz xw xd xt) (Rz:Ref1 K XD xz xw xd xt xz 0) (Rd:Ref1 K XD xz xw xd xt xd 2) (z9o:MtZ P w K mg base CBox "code" xz k 4 z4h) (z1t:MtZ P w K mg base CBox "need_zone" xz k 2 z19) (z8r:ClZ P w K mg base "kind_of" xz k 2 z87) (z9n:MtZ P w K mg base CBox "line" xz k 3 z4g) (z9m:MtZ P w K mg base CBox "undo" xd k 1 z30) (kcBox:unop% ko 1) (zgn:Cl P w K mg base "_law_plan" k 1 zcd) (c_Box:ClNew P w K mg base "Box" CBox 1 k 2 z2q) (z_range:mg "range"=none) (z8m:Cl P w K mg base "_law_mixed" k 2 z25) (zgo:Cl P w K mg base "after" k 3 z7g) (z8o:Cl P w K mg base "begun" k 1 z33) (zax:MtRd P w K mg base CBox "log" k 1 z47) (ze5:Cl P w K mg base "story" k 3 z7f) (z2i:MtRd P w K mg base CBox "state" k 1 z0w) (z6r:MtRd P w K mg base CBox "row" k 1 z2w) (z_int:mg "int"=none) {f_l_told:Addr} {fd_l_told:y0b} (F_l_told:Fun K "_law_told" "_law_told" z3z f_l_told fd_l_told) (m_l_told:mg "_law_told"=some (.ref f_l_told)) (ze6:Cl P w K mg base "_law_event" k 2 z5q) (za3:MtRd P w K mg base CBox "shown" k 1 z3l) (z50:Cl P w K mg base "shown_rows" k 2 z6e) (zp8:ClM P w K mg base "_law_do" 1 0 k 2 zif) (ze4:Cl P w K mg base "words" k 3 z7e) (zbo:MtMd P w K mg base CBox 1 "undo" k 1 z3t) (z6s:MtMd P w K mg base CBox 1 "line" k 3 z2o) (z6t:MtMd P w K mg base CBox 1 "code" k 4 z2p):FnOk P w K mg base CX0 (k+3) f (y0j "law" "law" (z5p zad) (z0o zad) (z01 zad) .none kV doc pm an (.ref cL) ct) ["_law_script"] (spT K 1 zm8) :=
 zuw l hcd z6j fun A outer s H E hr =>
  (z05 (z20 1 z6j.nd (z0y zgn (hr.mono (Nat.le_add_right _ 2)) (z00 (z0y z8m (hr.mono (Nat.le_add_right _ 2)) (z00 (z08 0) (z00 z04 z03))) z03)))
  (z05 (zn1 2 z6j.nd (zud kcBox c_Box (hr.mono (y2k _)) (z00 (z08 1) z03)))
  (z05 (zn1 3 z6j.nd (zud kcBox c_Box (hr.mono (y2k _)) (z00 (z08 1) z03)))
  (z05 (z20 4 z6j.nd (z14 z03))
  (z05 (zh7 y2a (zst z_range (v2r (z42 (v2r (z0y z8m (hr.mono (Nat.le_add_right _ 2)) (z00 (z08 0) (z00 z04 z03)))) (v2r z04)))) (g_nm 5 z6j.nd)
  (z05 (z20 6 z6j.nd (z0y z8m (hr.mono (Nat.le_add_right _ 2)) (z00 (z08 0) (z00 (z9a (v2r z04) (q_nm 5)) z03))))
  (z05 (z20 7 z6j.nd (z0y zgo (hr.mono (Nat.le_add_right _ 2)) (z00 (z08 1) (z00 (z0y z8o (hr.mono (Nat.le_add_right _ 2)) (z00 (z08 1) z03)) (z00 (z08 4) z03)))))
  (z05 (s_if (binop% eqt (v2r (z42 (q_nm 6) (v2r z04))) (v2r z04)) (z05 (z20 8 z6j.nd (q_ix (v2r (zs8 (z00 (z14 (z00 z0d (z00 zd0 z03))) (z00 (z14 (z00 z0d (z00 z04 z03))) z03)))) (v2r (zw3 z_int (z35 (v2r (binop% eqq (q_nm 4) (v2r (z14 z03)))) z5y)))))
  (z05 (zq6 (zpq (zex (by exact hr.units)) zez (zj7 F_l_told z3y (ze8 F_l_told) m_l_told (fun cdv A outer s H=>zdz cdv A outer s H) (fun cdv A outer s H=>zdy Nm Rd cdv A outer s H) rfl hCH hbm htb hun hr (fun q c2 cl A2 o2 s2 H2 hrL=>by exact (z62 kcBox zbo hrL (pv 2))) (fun q c2 cl A2 o2 s2 H2 E2 hrL=>by exact (zt7 kcBox z9m hrL (pv 2)))) (zk7 (z08 8))) (z0b (z1z q_bl)) z2s)
  (z0b (z20 4 z6j.nd (ztp (q_nm 4) zws (zwr (v2r (zw2 (v2r z04))))))))) (z0b (s_if (binop% eqt (v2r (z42 (q_nm 6) (v2r z04))) (v2r z04)) (z05 (zq6 (zpq (zex (by exact hr.units)) zez (zj7 F_l_told z3y (ze8 F_l_told) m_l_told (fun cdv A outer s H=>zdz cdv A outer s H) (fun cdv A outer s H=>zdy Nm Rz cdv A outer s H) rfl hCH hbm htb hun hr (fun q c2 cl A2 o2 s2 H2 hrL=>by exact (z0j kcBox z6s hrL (pv 2) (z00 z0d (z00 z0d z03)))) (fun q c2 cl A2 o2 s2 H2 E2 hrL=>by exact (zk5 kcBox z9n hrL (pv 2) (z00 z0d (z00 z0d z03))))) (zk7 (z14 (z00 z0d (z00 z04 z03))))) (z0b (z1z q_bl)) z2s)
  (z0b (zq6 (zpq (zex (by exact hr.units)) zez (zj7 F_l_told z3y (ze8 F_l_told) m_l_told (fun cdv A outer s H=>zdz cdv A outer s H) (fun cdv A outer s H=>zdy Nm Rz cdv A outer s H) rfl hCH hbm htb hun hr (fun q c2 cl A2 o2 s2 H2 hrL=>by exact (z0j kcBox z6t hrL (pv 2) (z00 z0d (z00 (q_ix (v2r (z14 (z00 z0d (z00 z0d z03)))) (v2r (z42 (v2r (z6c (q_nm 6) (v2r z04))) (v2r z04)))) (z00 z0d z03))))) (fun q c2 cl A2 o2 s2 H2 E2 hrL=>by exact (zk5 kcBox z9o hrL (pv 2) (z00 z0d (z00 (q_ix (v2r (z14 (z00 z0d (z00 z0d z03)))) (v2r (z42 (v2r (z6c (q_nm 6) (v2r z04))) (v2r z04)))) (z00 z0d z03)))))) (zk7 (z14 (z00 z0d (z00 z04 z03))))) (z0b (z1z q_bl)) z2s))) (z05 (z20 9 z6j.nd (z0y ze6 (hr.mono (Nat.le_add_right _ 2)) (z00 (z08 1) (z00 (z6c (q_nm 6) (v2r z04)) z03))))
  (z05 (zq6 (zpq (zex (by exact hr.units)) zez (zt8 kcBox zp8 (hr.mono (Nat.le_add_right _ 2)) (pv 2) (z00 (z08 9) z03)) (zk7 (z0y ze4 (hr.mono (Nat.le_add_right _ 2)) (z00 (z08 1) (z00 (z08 7) (z00 (z08 9) z03)))))) (z0b (z1z q_bl)) z2s)
  (z0b (z20 4 z6j.nd (z9a (q_nm 4) (v2r (z14 (z00 (z08 9) z03)))))))))))
  (z05 (z20 7 z6j.nd (z0y zgo (hr.mono (Nat.le_add_right _ 2)) (z00 (z08 1) (z00 (z0y z8o (hr.mono (Nat.le_add_right _ 2)) (z00 (z08 1) z03)) (z00 (z08 4) z03)))))
  (z05 (s_if (w_t (w_or (binop% net (v2r (z43 kcBox z2i (hr.mono (Nat.le_add_right _ 2)) (pv 2))) (q_nm 7)) (w_or (binop% net (v2r (z43 kcBox za3 (hr.mono (Nat.le_add_right _ 2)) (pv 2))) (v2r (z0y z50 (hr.mono (Nat.le_add_right _ 2)) (z00 (z08 1) (z00 (z08 7) z03))))) (zgs (binop% net (v2r (z43 kcBox z6r (hr.mono (Nat.le_add_right _ 2)) (pv 2))) (q_nm 4)))))) (z0b (z1z q_bl)) z2s)
  (z0b (s_if (binop% net (v2r (z43 kcBox zax (hr.mono (Nat.le_add_right _ 2)) (pv 2))) (v2r (z0y ze5 (hr.mono (Nat.le_add_right _ 2)) (z00 (z08 1) (z00 (z0y z8o (hr.mono (Nat.le_add_right _ 2)) (z00 (z08 1) z03)) (z00 (z08 4) z03)))))) (z0b (z1z q_bl)) z2s))))))))
  (z0b (z1z (zqd (binop% eqq (v2r (z43 kcBox z2i (hr.mono (Nat.le_add_right _ 2)) (pv 3))) (v2r (z0y z8o (hr.mono (Nat.le_add_right _ 2)) (z00 (z08 1) z03)))) (zqd (binop% eqq (v2r (z43 kcBox z6r (hr.mono (Nat.le_add_right _ 2)) (pv 3))) (v2r (z14 z03))) (znd (binop% eqq (v2r (z43 kcBox zax (hr.mono (Nat.le_add_right _ 2)) (pv 3))) (v2r (z14 z03)))))))))))))
end
end K40
end
section
namespace D
open PySem
theorem zqs (ss:List Str) (h:∀x∈ss,(y1z x).canLay0=true):y1h (ss.map .str)=true/\y1f (ss.map .str)<=1:=by
 induction ss with
 | nil=>simp[y1h,y1f]
 | cons n ns ih =>
  have h1:=h n (by simp)
  have h2:=ih fun x hx=>h x (by simp[hx])
  simp[y1h,y1f,y29,h1,h2]
theorem zgg (n:Str):∀ns:List Str,hasT (.str n) (ns.map .str)=decide (n∈ns)
 | []=>by simp[hasT]
 | m::ns=>by
  have ih:=zgg n ns
  unfold hasT at ih ⊢
  rw[y0e,List.any_cons,ih]
  simp[y24,Bool.beq_eq_decide_eq,eq_comm]
theorem zd4 (n:Int):okT (.int n)=true:=by simp[okT,PyData.canLay0,y29]
theorem zbg {x:Str} (h:(y1z x).canLay0=true):okT (.str x)=true:=by simp[okT,y29,h]
theorem zhn (ss:List Str) (h:∀x∈ss,(y1z x).canLay0=true):okL (ss.map .str)=true:=by
 have:=zqs ss h
 simp[okL,this.1]
 omega
theorem zue (neg:Bool) (n:Str) (ns:List Str) (h0:(y1z n).canLay0=true) (h:∀x∈ns,(y1z x).canLay0=true):oIn neg (.str n) (.tuple (ns.map .str))=some (.bool (if neg then !decide (n∈ns) else decide (n∈ns))):=by
 simp only[oIn,zbg h0,zhn ns h,zgg,Bool.and_self,if_true]
end D
end
section
namespace Co
open D PySem
structure Cd where
 fig:Str
 who:Str
 rights:List Str
 uses:Int
structure Pl where
 zones:List (Str×Str)
 codes:List Cd
 leave:Int
 come:Int
 loud:Int
structure Cs where
 mode:Str
 left:Int
 came:Option Str
 lines:List (Str×Str)
 shunts:List Str
 siren:Int
 alarms:List Str
 tries:Int
 locked:Int
 used:List (Str×Int)
 past:Int
 told:List (Int×Str×Option Str)
def oS:Option Str->T
 | none=>.none
 | some x=>.str x
def encZ (z:Str×Str):T:=.tuple [.str z.1,.str z.2]
def z1m (c:Cd):T:=.tuple [.str c.fig,.str c.who,.tuple (c.rights.map .str),.int c.uses]
def encP (p:Pl):T:=.tuple [.tuple (p.zones.map encZ),.tuple (p.codes.map z1m),.tuple [.int p.leave,.int p.come,.int p.loud]]
def encW (w:Int×Str×Option Str):T:=.tuple [.int w.1,.str w.2.1,oS w.2.2]
def dS (l:List (Str×Str)):List (D.Key×T):=l.map fun p=>(.inr p.1,.str p.2)
def dI (l:List (Str×Int)):List (D.Key×T):=l.map fun p=>(.inr p.1,.int p.2)
noncomputable def encC (p:Pl) (c:Cs):List Sl:=[.imm (encP p),.imm (.str c.mode),.imm (.int c.left),.imm (oS c.came),.dic (dS c.lines),.own (c.shunts.map .str),.imm (.int c.siren),.own (c.alarms.map .str),.imm (.int c.tries),.imm (.int c.locked),.dic (dI c.used),.imm (.int c.past),.own (c.told.map encW)]
theorem zar:¬(("off":Str)="leaving"):=by decide +kernel
theorem zkv:¬(("off":Str)="on"):=by decide +kernel
theorem z68:¬(("off":Str)="coming"):=by decide +kernel
theorem zas:¬(("leaving":Str)="off"):=by decide +kernel
theorem zbx:¬(("leaving":Str)="on"):=by decide +kernel
theorem z53:¬(("leaving":Str)="coming"):=by decide +kernel
theorem zku:¬(("on":Str)="off"):=by decide +kernel
theorem zbv:¬(("on":Str)="leaving"):=by decide +kernel
theorem z79:¬(("on":Str)="coming"):=by decide +kernel
theorem zbz:¬(("coming":Str)="off"):=by decide +kernel
theorem z7t:¬(("coming":Str)="leaving"):=by decide +kernel
theorem zdd:¬(("coming":Str)="on"):=by decide +kernel
theorem zd6:¬(("shut":Str)="open"):=by decide +kernel
theorem zf3:¬(("shut":Str)="cut"):=by decide +kernel
theorem zd8:¬(("open":Str)="shut"):=by decide +kernel
theorem zf4:¬(("open":Str)="cut"):=by decide +kernel
theorem zf8:¬(("cut":Str)="shut"):=by decide +kernel
theorem zf9:¬(("cut":Str)="open"):=by decide +kernel
theorem zdc:¬(("day":Str)="inner"):=by decide +kernel
theorem zf7:¬(("day":Str)="once"):=by decide +kernel
theorem zhs:¬(("day":Str)="way"):=by decide +kernel
theorem zdb:¬(("inner":Str)="day"):=by decide +kernel
theorem zby:¬(("inner":Str)="once"):=by decide +kernel
theorem zda:¬(("inner":Str)="way"):=by decide +kernel
theorem zf6:¬(("once":Str)="day"):=by decide +kernel
theorem zbu:¬(("once":Str)="inner"):=by decide +kernel
theorem zf5:¬(("once":Str)="way"):=by decide +kernel
theorem zhr:¬(("way":Str)="day"):=by decide +kernel
theorem zd5:¬(("way":Str)="inner"):=by decide +kernel
theorem zf2:¬(("way":Str)="once"):=by decide +kernel
theorem zd7:¬(("set":Str)="unset"):=by decide +kernel
theorem z9x:¬(("set":Str)="shunt"):=by decide +kernel
theorem z8w:¬(("set":Str)="free"):=by decide +kernel
theorem z77:¬(("unset":Str)="set"):=by decide +kernel
theorem z76:¬(("unset":Str)="shunt"):=by decide +kernel
theorem z67:¬(("unset":Str)="free"):=by decide +kernel
theorem z78:¬(("shunt":Str)="set"):=by decide +kernel
theorem z44:¬(("shunt":Str)="unset"):=by decide +kernel
theorem zbt:¬(("shunt":Str)="free"):=by decide +kernel
theorem z8x:¬(("free":Str)="set"):=by decide +kernel
theorem z4w:¬(("free":Str)="unset"):=by decide +kernel
theorem z4x:¬(("free":Str)="shunt"):=by decide +kernel
theorem zd9:¬(("line":Str)="code"):=by decide +kernel
theorem zbw:¬(("line":Str)="ticks"):=by decide +kernel
theorem zde:¬(("code":Str)="line"):=by decide +kernel
theorem zc0:¬(("code":Str)="ticks"):=by decide +kernel
theorem zbr:¬(("ticks":Str)="line"):=by decide +kernel
theorem zbs:¬(("ticks":Str)="code"):=by decide +kernel
def tell (w:Str) (n:Option Str) (c:Cs):Cs:={ c with told:=c.told++[(c.past,w,n)] }
def beLoud (p:Pl) (c:Cs):Cs:={ c with siren:=p.loud }
def alarm (p:Pl) (z:Str) (c:Cs):Cs:=if z∈c.alarms then beLoud p c else tell "alarm" (some z) { beLoud p c with alarms:=c.alarms++[z] }
section
variable (p:Pl) (c:Cs)
theorem zrg:(encC p c).length=13:=rfl
theorem e0:(encC p c)[0]?=some (.imm (encP p)):=rfl
theorem e1:(encC p c)[1]?=some (.imm (.str c.mode)):=rfl
theorem e2:(encC p c)[2]?=some (.imm (.int c.left)):=rfl
theorem e3:(encC p c)[3]?=some (.imm (oS c.came)):=rfl
theorem e4:(encC p c)[4]?=some (.dic (dS c.lines)):=rfl
theorem e5:(encC p c)[5]?=some (.own (c.shunts.map .str)):=rfl
theorem e6:(encC p c)[6]?=some (.imm (.int c.siren)):=rfl
theorem e7:(encC p c)[7]?=some (.own (c.alarms.map .str)):=rfl
theorem e8:(encC p c)[8]?=some (.imm (.int c.tries)):=rfl
theorem e9:(encC p c)[9]?=some (.imm (.int c.locked)):=rfl
theorem e10:(encC p c)[10]?=some (.dic (dI c.used)):=rfl
theorem e11:(encC p c)[11]?=some (.imm (.int c.past)):=rfl
theorem e12:(encC p c)[12]?=some (.own (c.told.map encW)):=rfl
theorem s1 (x:Str):(encC p c).set 1 (.imm (.str x))=encC p { c with mode:=x }:=rfl
theorem s2 (x:Int):(encC p c).set 2 (.imm (.int x))=encC p { c with left:=x }:=rfl
theorem s3 (x:Str):(encC p c).set 3 (.imm (.str x))=encC p { c with came:=some x }:=rfl
theorem s3n:(encC p c).set 3 (.imm .none)=encC p { c with came:=none }:=rfl
theorem s4 (l:List (Str×Str)):(encC p c).set 4 (.dic (dS l))=encC p { c with lines:=l }:=rfl
theorem s5 (l:List Str):(encC p c).set 5 (.own (l.map .str))=encC p { c with shunts:=l }:=rfl
theorem s5n:(encC p c).set 5 (.own [])=encC p { c with shunts:=[] }:=rfl
theorem s6 (x:Int):(encC p c).set 6 (.imm (.int x))=encC p { c with siren:=x }:=rfl
theorem s7 (l:List Str):(encC p c).set 7 (.own (l.map .str))=encC p { c with alarms:=l }:=rfl
theorem s7n:(encC p c).set 7 (.own [])=encC p { c with alarms:=[] }:=rfl
theorem s7a (l:List Str) (z:Str):(encC p c).set 7 (.own (l.map .str++[.str z]))=encC p { c with alarms:=l++[z] }:=by simp[encC]
theorem s8 (x:Int):(encC p c).set 8 (.imm (.int x))=encC p { c with tries:=x }:=rfl
theorem s9 (x:Int):(encC p c).set 9 (.imm (.int x))=encC p { c with locked:=x }:=rfl
theorem s10 (l:List (Str×Int)):(encC p c).set 10 (.dic (dI l))=encC p { c with used:=l }:=rfl
theorem s11 (x:Int):(encC p c).set 11 (.imm (.int x))=encC p { c with past:=x }:=rfl
theorem s12a (l:List (Int×Str×Option Str)) (i:Int) (w:Str) (n:Option Str):(encC p c).set 12 (.own (l.map encW++[.tuple [.int i,.str w,oS n]]))=encC p { c with told:=l++[(i,w,n)] }:=by simp[encC,encW]
end
end Co
open D Co
open PySem hiding run fresh code
local macro_rules
 | `(tactic| simp! [sp1,$xs,*] $[$l]?)=>`(tactic| simp[zrg,e0,e1,e2,e3,e4,e5,e6,e7,e8,e9,e10,e11,e12,s1,s2,s3,s3n,s4,s5,s5n,s6,s7,s7n,s7a,s8,s9,s10,s11,s12a,runM,runR,z58,z4z,exX,z0k,z1s,rtnM,zg3,rtnX,asgF,z8p,augF,appF,setF,objF,fld,fldV,fldD,fldL,fGet,zhd,ziz,zgb,zhq,asgX,ifE,z6i,runF,seq,iff,tstB,tstL,andT,orT,notT,cstT,ofT,op1,op2,opN,args,cst,nm,nmV,rtn,skip,asg,asgN,asgT,par,z09,z3j,oIsN,z6d,oIx,atZ,ixOf,gNm,gTu,gAll,z3v,comp,z4f,$xs,*] $[$l]?)
local macro_rules
 | `(tactic| simp! [sp2,$xs,*] $[$l]?)=>`(tactic| simp[runF,seq,iff,tstB,tstL,andT,orT,notT,cstT,ofT,op1,op2,opN,args,cst,nm,nmV,rtn,skip,asg,asgN,asgT,par,z09,z3j,oIsN,z6d,oIx,atZ,ixOf,gNm,gTu,gAll,z3v,comp,z4f,$xs,*] $[$l]?)
 | `(tactic| simp! [sp2] $[$l]?)=>`(tactic| simp[runF,seq,iff,tstB,tstL,andT,orT,notT,cstT,ofT,op1,op2,opN,args,cst,nm,nmV,rtn,skip,asg,asgN,asgT,par,z09,z3j,oIsN,z6d,oIx,atZ,ixOf,gNm,gTu,gAll,z3v,comp,z4f] $[$l]?)
local macro_rules
 | `(tactic| simp! [sp3,$xs,*] $[$l]?)=>`(tactic| simp[oAdd,oSub,oMul,oDiv,oMod,oNeg,oLen,oMin,oMax,z31,zwt,oInt,oLt,oLe,oGt,oGe,big,zrg,e0,e1,e2,e3,e4,e5,e6,e7,e8,e9,e10,e11,e12,s1,s2,s3,s3n,s4,s5,s5n,s6,s7,s7n,s7a,s8,s9,s10,s11,s12a,runM,runR,z58,z4z,exX,z0k,z1s,rtnM,zg3,rtnX,asgF,z8p,augF,appF,setF,objF,fld,fldV,fldD,fldL,fGet,zhd,ziz,zgb,zhq,asgX,ifE,z6i,runF,seq,iff,tstB,tstL,andT,orT,notT,cstT,ofT,op1,op2,opN,args,cst,nm,nmV,rtn,skip,asg,asgN,asgT,par,z09,z3j,oIsN,z6d,oIx,atZ,ixOf,gNm,gTu,gAll,z3v,comp,z4f,$xs,*] $[$l]?)
local macro_rules
 | `(tactic| simp! [sp4,$xs,*] $[$l]?)=>`(tactic| simp[runM,runR,z58,z4z,exX,z0k,z1s,rtnM,zg3,rtnX,asgF,z8p,augF,appF,setF,objF,fld,fldV,fldD,fldL,fGet,zhd,ziz,zgb,zhq,asgX,ifE,z6i,runF,seq,iff,tstB,tstL,andT,orT,notT,cstT,ofT,op1,op2,opN,args,cst,nm,nmV,rtn,skip,asg,asgN,asgT,par,z09,z3j,oIsN,z6d,oIx,atZ,ixOf,gNm,gTu,gAll,z3v,comp,z4f,$xs,*] $[$l]?)
local macro_rules
 | `(tactic| simp! [sp5,$xs,*] $[$l]?)=>`(tactic| simp[zrg,e0,e1,e2,e3,e4,e5,e6,e7,e8,e9,e10,e11,e12,s1,s2,s3,s3n,s4,s5,s5n,s6,s7,s7n,s7a,s8,s9,s10,s11,s12a,runM,runR,z58,z4z,exX,z0k,z1s,rtnM,zg3,rtnX,asgF,z8p,augF,appF,setF,objF,fld,fldV,fldD,fldL,fGet,zhd,ziz,zgb,zhq,asgX,ifE,z6i,zar,zkv,z68,zas,zbx,z53,zku,zbv,z79,zbz,z7t,zdd,zd6,zf3,zd8,zf4,zf8,zf9,zdc,zf7,zhs,zdb,zby,zda,zf6,zbu,zf5,zhr,zd5,zf2,zd7,z9x,z8w,z77,z76,z67,z78,z44,zbt,z8x,z4w,z4x,zd9,zbw,zde,zc0,zbr,zbs,runF,seq,iff,tstB,tstL,andT,orT,notT,cstT,ofT,op1,op2,opN,args,cst,nm,nmV,rtn,skip,asg,asgN,asgT,par,z09,z3j,oIsN,z6d,oIx,atZ,ixOf,gNm,gTu,gAll,z3v,comp,z4f,$xs,*] $[$l]?)
local macro_rules
 | `(tactic| simp! [sp6,$xs,*] $[$l]?)=>`(tactic| simp[oAdd,oSub,oMul,oDiv,oMod,oNeg,oLen,oMin,oMax,z31,zwt,oInt,oLt,oLe,oGt,oGe,big,runF,seq,iff,tstB,tstL,andT,orT,notT,cstT,ofT,op1,op2,opN,args,cst,nm,nmV,rtn,skip,asg,asgN,asgT,par,z09,z3j,oIsN,z6d,oIx,atZ,ixOf,gNm,gTu,gAll,z3v,comp,z4f,$xs,*] $[$l]?)
local macro_rules
 | `(tactic| simp! [sp7,$xs,*] $[$l]?)=>`(tactic| simp[runM,runR,z58,z4z,exX,z0k,z1s,rtnM,zg3,rtnX,asgF,z8p,augF,appF,setF,objF,fld,fldV,fldD,fldL,fGet,zhd,ziz,zgb,zhq,asgX,ifE,z6i,$xs,*] $[$l]?)
local macro_rules
 | `(tactic| simp! [sp8,$xs,*] $[$l]?)=>`(tactic| simp[zrg,e0,e1,e2,e3,e4,e5,e6,e7,e8,e9,e10,e11,e12,s1,s2,s3,s3n,s4,s5,s5n,s6,s7,s7n,s7a,s8,s9,s10,s11,s12a,$xs,*] $[$l]?)
local macro_rules
 | `(tactic| simp! [sp9,$xs,*] $[$l]?)=>`(tactic| simp[runF,seq,iff,tstB,tstL,andT,orT,notT,cstT,ofT,op1,op2,opN,args,cst,nm,nmV,rtn,skip,asg,asgN,asgT,par,z09,z3j,oIsN,z6d,gNm,gTu,gAll,z3v,comp,z4f,$xs,*] $[$l]?)
 | `(tactic| simp! [sp9] $[$l]?)=>`(tactic| simp[runF,seq,iff,tstB,tstL,andT,orT,notT,cstT,ofT,op1,op2,opN,args,cst,nm,nmV,rtn,skip,asg,asgN,asgT,par,z09,z3j,oIsN,z6d,gNm,gTu,gAll,z3v,comp,z4f] $[$l]?)
local macro_rules
 | `(tactic| simp! [sp10,$xs,*] $[$l]?)=>`(tactic| simp[zar,zkv,z68,zas,zbx,z53,zku,zbv,z79,zbz,z7t,zdd,zd6,zf3,zd8,zf4,zf8,zf9,zdc,zf7,zhs,zdb,zby,zda,zf6,zbu,zf5,zhr,zd5,zf2,zd7,z9x,z8w,z77,z76,z67,z78,z44,zbt,z8x,z4w,z4x,zd9,zbw,zde,zc0,zbr,zbs,runF,seq,iff,tstB,tstL,andT,orT,notT,cstT,ofT,op1,op2,opN,args,cst,nm,nmV,rtn,skip,asg,asgN,asgT,par,z09,z3j,oIsN,z6d,oIx,atZ,ixOf,gNm,gTu,gAll,z3v,comp,z4f,$xs,*] $[$l]?)
namespace Co
open D PySem
def okS (x:Str):Prop:=(y1z x).canLay0=true
theorem z0f {x y:Str} (h1:okS x) (h2:okS y):oEq (.str x) (.str y)=some (.bool (decide (x=y))):=by
 unfold oEq
 rw[zbg h1,zbg h2]
 by_cases e:x=y <;> simp[y24,e]
theorem z5l {x y:Str} (h1:okS x) (h2:okS y):oNe (.str x) (.str y)=some (.bool (!decide (x=y))):=by
 unfold oNe
 rw[zbg h1,zbg h2]
 by_cases e:x=y <;> simp[y24,e]
theorem zaq (neg:Bool) {n:Str} {ns:List Str} (h0:okS n) (h:∀x∈ns,okS x):oIn neg (.str n) (.list (ns.map .str))=some (.bool (if neg then !decide (n∈ns) else decide (n∈ns))):=by
 simp only[oIn,zbg h0,zhn ns h,zgg]
 rfl
theorem zap (neg:Bool) {n:Str} {ns:List Str} (h0:okS n) (h:∀x∈ns,okS x):oIn neg (.str n) (.tuple (ns.map .str))=some (.bool (if neg then !decide (n∈ns) else decide (n∈ns))):=zue neg n ns h0 h
theorem zmq (p:Pl) (c:Cs) (w:Str) (n:Option Str) (h:c.told.length<big):z06 [.obj .lent 0 (encC p c),.imm (.str w),.imm (oS n)]=some (.none,encC p (tell w n c)):=by
 have h':c.told.length<16777216:=h
 simp! [sp1,z06,zay,tell,big,h']
theorem za9 (p:Pl) (c:Cs) (w:Str) (h:c.told.length<big):z06 [.obj .lent 0 (encC p c),.imm (.str w),.imm .none]=some (.none,encC p (tell w none c)):=zmq p c w none h
theorem z3w (p:Pl) (c:Cs) (w z:Str) (h:c.told.length<big):z06 [.obj .lent 0 (encC p c),.imm (.str w),.imm (.str z)]=some (.none,encC p (tell w (some z) c)):=zmq p c w (some z) h
theorem zbp (p:Pl) (c:Cs):z1e [.obj .lent 0 (encC p c)]=some (.none,encC p (beLoud p c)):=by
 simp! [sp1,z1e,z7y,beLoud,encP]
structure Wf (p:Pl) (c:Cs):Prop where
 zn:∀z∈p.zones,okS z.1/\okS z.2
 cn:∀k∈p.codes,okS k.fig/\okS k.who/\∀r∈k.rights,okS r
 zl:p.zones.length<=40
 mo:okS c.mode
 ca:∀z,c.came=some z->okS z/\z∈p.zones.map (·.1)
 cm:c.mode="coming"->c.came≠none
 ln:c.lines.map (·.1)=p.zones.map (·.1)
 lo:∀l∈c.lines,okS l.2
 us:c.used.map (·.1)=p.codes.map (·.fig)
 sh:c.shunts.Nodup/\∀z∈c.shunts,z∈p.zones.map (·.1)
 al:c.alarms.Nodup/\∀z∈c.alarms,z∈p.zones.map (·.1)
theorem Wf.okz {p:Pl} {c:Cs} (h:Wf p c) {z:Str} (hz:z∈p.zones.map (·.1)):okS z:=by
 obtain⟨x,hx,rfl⟩:=y0n.mp hz
 exact (h.zn x hx).1
theorem Wf.oksh {p:Pl} {c:Cs} (h:Wf p c):∀z∈c.shunts,okS z:=fun z hz=>h.okz (h.sh.2 z hz)
theorem Wf.okal {p:Pl} {c:Cs} (h:Wf p c):∀z∈c.alarms,okS z:=fun z hz=>h.okz (h.al.2 z hz)
theorem zho {α:Type} [BEq α] [LawfulBEq α] {l m:List α} (h:l.Nodup) (hs:∀x∈l,x∈m):l.length<=m.length:=by
 induction l generalizing m with
 | nil=>simp
 | cons x l ih =>
  obtain⟨h1,h2⟩:=y0s.mp h
  have hx:=hs x y0f
  have:=ih (m:=m.erase x) h2 fun y hy=>(List.mem_erase_of_ne (fun e:y=x=>h1 (e▸hy))).mpr (hs y (y05 _ hy))
  have hl:=List.length_erase_of_mem hx
  have:=List.length_pos_of_mem hx
  simp only[y0w]
  omega
theorem Wf.alLen {p:Pl} {c:Cs} (h:Wf p c):c.alarms.length<=40:=by
 have:=zho h.al.1 h.al.2
 have:=h.zl
 simp at *
 omega
theorem Wf.shLen {p:Pl} {c:Cs} (h:Wf p c):c.shunts.length<=40:=by
 have:=zho h.sh.1 h.sh.2
 have:=h.zl
 simp at *
 omega
theorem zch (p:Pl) (c:Cs) (z:Str) (h:Wf p c) (hz:okS z) (ht:c.told.length<big):z0h [.obj .lent 0 (encC p c),.imm (.str z)]=some (.none,encC p (alarm p z c)):=by
 have ha:=h.alLen
 have hin:oIn true (.str z) (.list (c.alarms.map .str))=some (.bool (!decide (z∈c.alarms))):=by rw[zaq true hz h.okal];rfl
 have hb:(beLoud p c).alarms=c.alarms:=rfl
 have hlt:c.alarms.length<16777216:=by omega
 by_cases hm:z∈c.alarms
 ·simp! [sp1,z0h,z6g,zbp,hb,hin,hm,alarm]
 ·have tl:({ beLoud p c with alarms:=c.alarms++[z] }:Cs).told.length<big:=ht
  simp! [sp1,z0h,z6g,zbp,hb,hin,hm,alarm,big,hlt,z3w p _ "alarm" z tl]
def kindOf (p:Pl) (z:Str):Str:=((p.zones.find? fun x=>decide (x.1=z)).map (·.2)).getD ""
def zfm (p:Pl) (f:Str):Option Cd:=p.codes.find? fun k=>decide (k.fig=f)
theorem zhy {z:Str} (hz:okS z) (s0:Option Sl):∀(zs:List (Str×Str)) (t0:Option Sl),(∀x∈zs,okS x.1)->z∈zs.map (·.1)->forL (gNm 2) (iff (tstB (op2 oEq (op2 oIx (nm 2) (cst (.int 0))) (nm 1))) (rtn (op2 oIx (nm 2) (cst (.int 1)))) skip) (zs.map encZ) [s0,some (.imm (.str z)),t0]=some (.rt (.str (((zs.find? fun x=>decide (x.1=z)).map (·.2)).getD "")))
 | [],t0,_,h=>by simp at h
 | x::zs,t0,ho,h=>by
  have e:=z0f (ho x (by simp)) hz
  by_cases hx:x.1=z
  ·simp! [sp2,forL,encZ,hx,z0f hz hz]
  ·have h':z∈zs.map (·.1):=by
    rw[y0e] at h
    rcases y09.mp h with q|q
    ·exact absurd q.symm hx
    ·exact q
   have ih:=zhy hz s0 zs (some (.imm (encZ x))) (fun y hy=>ho y (y05 _ hy)) h'
   simp[encZ] at ih
   simp! [sp2,forL,encZ,hx,e]
   simpa [runF,seq,iff,tstB,tstL,andT,orT,notT,cstT,ofT,op1,op2,opN,args,cst,nm,nmV,rtn,skip,asg,asgN,asgT,par,z09,z3j,oIsN,z6d,oIx,atZ,ixOf,gNm,gTu,gAll,z3v,comp,z4f] using ih
theorem zbj {p:Pl} {z:Str} (ho:∀x∈p.zones,okS x.1/\okS x.2) (hz:z∈p.zones.map (·.1)):z3a [encP p,.str z]=some (.str (kindOf p z)):=by
 obtain⟨x,hx,rfl⟩:=y0n.mp hz
 have:=zhy (ho x hx).1 (some (.imm (encP p))) p.zones none (fun y hy=>(ho y hy).1) hz
 simp! [sp2,z3a,zix,for_,encP] at this ⊢
 simp[this,kindOf]
def encO:Option Cd->T
 | none=>.none
 | some k=>z1m k
theorem zik {f:Str} (hf:okS f) (s0:Option Sl):∀(ks:List Cd) (t0:Option Sl),(∀k∈ks,okS k.fig)->forL (gNm 2) (iff (tstB (op2 oEq (op2 oIx (nm 2) (cst (.int 0))) (nm 1))) (rtn (nm 2)) skip) (ks.map z1m) [s0,some (.imm (.str f)),t0] =
   match ks.find? fun k=>decide (k.fig=f) with
   | some k=>some (.rt (z1m k))
   | none=>some (.nx [s0,some (.imm (.str f)),(ks.getLast?.map fun k=>Sl.imm (z1m k)).elim t0 some])
 | [],t0,_=>by simp[forL]
 | k::ks,t0,ho=>by
  have e:=z0f (ho k (by simp)) hf
  by_cases hx:k.fig=f
  ·simp! [sp2,forL,z1m,hx,z0f hf hf]
  ·have ih:=zik hf s0 ks (some (.imm (z1m k))) (fun y hy=>ho y (y05 _ hy))
   simp only[y0e,forL]
   simp! [sp2,z1m,hx,e] at ih ⊢
   rw[ih]
   cases ks with
   | nil=>simp
   | cons k' ks=>simp[List.getLast?_cons]
theorem zmb {p:Pl} {f:Str} (ho:∀k∈p.codes,okS k.fig) (hf:okS f):z8j [encP p,.str f]=some (encO (zfm p f)):=by
 have:=zik hf (some (.imm (encP p))) p.codes none ho
 simp! [sp2,z8j,ziy,for_,encP] at this ⊢
 rw[this]
 unfold zfm
 cases e:p.codes.find? fun k=>decide (k.fig=f) with
 | none=>simp[encO]
 | some k=>simp[encO]
def z6p (c:Cs) (z:Str):Str:=(c.lines.lookup z).getD ""
def setL (l:List (Str×Str)) (z w:Str):List (Str×Str):=l.map fun p=>if p.1=z then (z,w) else p
def zry (c:Cs) (f:Str):Int:=(c.used.lookup f).getD 0
def addU (l:List (Str×Int)) (f:Str):List (Str×Int):=l.map fun p=>if p.1=f then (f,p.2+1) else p
theorem zsv {z:Str}:∀{l:List (Str×Str)},z∈l.map (·.1)->getD (dS l) (.inr z)=some (.str ((l.lookup z).getD ""))
  | [],h=>by simp at h
  | (k,v)::l,h=>by
    by_cases e:k=z
    · subst e
      simp[getD,dS,y1l]
    · have h':z∈l.map (·.1):=by
        rw[y0e] at h
        rcases y09.mp h with q|q
        · exact absurd q.symm e
        · exact q
      have ih:=zsv h'
      have ne:(z == k)=false:=beq_eq_false_iff_ne.mpr (Ne.symm e)
      simp only[getD,dS,y0e,y1u] at ih ⊢
      rw[decide_eq_false (fun q=>e (Sum.inr.inj q))]
      simp only[y1l,ne]
      exact ih
theorem zom {z:Str}:∀{l:List (Str×Int)},z∈l.map (·.1)->getD (dI l) (.inr z)=some (.int ((l.lookup z).getD 0))
  | [],h=>by simp at h
  | (k,v)::l,h=>by
    by_cases e:k=z
    · subst e
      simp[getD,dI,y1l]
    · have h':z∈l.map (·.1):=by
        rw[y0e] at h
        rcases y09.mp h with q|q
        · exact absurd q.symm e
        · exact q
      have ih:=zom h'
      have ne:(z == k)=false:=beq_eq_false_iff_ne.mpr (Ne.symm e)
      simp only[getD,dI,y0e,y1u] at ih ⊢
      rw[decide_eq_false (fun q=>e (Sum.inr.inj q))]
      simp only[y1l,ne]
      exact ih
theorem zyn {z:Str} {l:List (Str×Str)} (h:z∈l.map (·.1)):(dS l).any (fun p=>decide (p.1=(Sum.inr z:D.Key)))=true:=by
 obtain⟨x,hx,rfl⟩:=y0n.mp h
 rw[List.any_eq_true]
 exact⟨(.inr x.1,.str x.2),y0n.mpr ⟨x,hx,rfl⟩,by simp⟩
theorem zyo {z:Str} {l:List (Str×Int)} (h:z∈l.map (·.1)):(dI l).any (fun p=>decide (p.1=(Sum.inr z:D.Key)))=true:=by
 obtain⟨x,hx,rfl⟩:=y0n.mp h
 rw[List.any_eq_true]
 exact⟨(.inr x.1,.int x.2),y0n.mpr ⟨x,hx,rfl⟩,by simp⟩
theorem zw8 {z w:Str} {l:List (Str×Str)} (h:z∈l.map (·.1)):putD (dS l) (.inr z) (.str w)=dS (setL l z w):=by
 unfold putD
 rw[zyn h,if_pos rfl]
 simp only[dS,setL,y2p]
 refine List.map_congr_left fun x _=>?_
 by_cases e:x.1=z
 ·simp[e]
 ·have:¬(Sum.inr x.1:D.Key)=Sum.inr z:=fun q=>e (Sum.inr.inj q)
  simp[e,this]
theorem zw9 {z:Str} {l:List (Str×Int)} (h:z∈l.map (·.1)) (nd:(l.map (·.1)).Nodup):putD (dI l) (.inr z) (.int ((l.lookup z).getD 0+1))=dI (addU l z):=by
 unfold putD
 rw[zyo h,if_pos rfl]
 simp only[dI,addU,y2p]
 refine List.map_congr_left fun x hx=>?_
 by_cases e:x.1=z
 ·have:∀{l:List (Str×Int)},x∈l->(l.map (·.1)).Nodup->l.lookup x.1=some x.2:=by
   intro l
   induction l with
   | nil=>intro h;simp at h
   | cons y l ih =>
    intro h nd
    rcases y09.mp h with rfl|h
    ·simp[y1l]
    ·rw[y0e,y0s] at nd
     have ne:(x.1 == y.1)=false:=beq_eq_false_iff_ne.mpr fun q=>nd.1 (q▸y0n.mpr ⟨x,h,rfl⟩)
     simp only[y1l,ne]
     exact ih h nd.2
  have hl:=this hx nd
  subst e
  simp[hl]
 ·have:¬(Sum.inr x.1:D.Key)=Sum.inr z:=fun q=>e (Sum.inr.inj q)
  simp[e,this]
theorem zfk {α:Type} {cc:Ft} {ee:Fe} {caps:Ev} (enc:α->T) (q:α->Bool) (f:α->T):∀(ts:List α) (s0:Option Sl),(∀a∈ts,cc (some (.imm (enc a))::caps)=some (q a)/\(q a=true->ee (some (.imm (enc a))::caps)=some (f a)))->z5r (gNm 0) cc ee (ts.map enc) (s0::caps)=some ((ts.filter q).map f)
 | [],_,_=>rfl
 | a::ts,s0,h=>by
  obtain⟨h1,h2⟩:=h a (by simp)
  have ih:=zfk enc q f ts (some (.imm (enc a))) fun b hb=>h b (y05 _ hb)
  simp only[y0e,z5r,gNm,y1j,y0q,h1]
  cases hq:q a with
  | false=>simp[ih,hq]
  | true=>simp[ih,hq,h2 hq]
def bare (p:Pl) (kinds:List Str) (c:Cs):List Str:=((p.zones.filter fun z=>decide (z.2∈kinds)).map (·.1)).filter fun z=>decide (z6p c z≠"shut") && !decide (z∈c.shunts)
theorem z02 (x:Str) (h:(y1z x).canLay0=true:=by decide +kernel):okS x:=h
theorem zfb {α:Type} {z:Str}:∀{l:List (Str×α)} {v:α},l.lookup z=some v->(z,v)∈l
  | [],v,h=>by cases h
  | (k,x)::l,v,h=>by
    rw[y1g] at h
    split at h
    next q =>
      cases h
      have:z=k:=by simpa using q
      subst this
      simp
    next=>exact y05 _ (zfb h)
theorem Wf.okl {p:Pl} {c:Cs} (h:Wf p c) (z:Str):okS (z6p c z):=by
 unfold z6p
 cases e:c.lines.lookup z with
 | none=>exact z02 ""
 | some v=>exact h.lo _ (zfb e)
theorem Wf.lin {p:Pl} {c:Cs} (h:Wf p c) {z:Str} (hz:z∈p.zones.map (·.1)):getD (dS c.lines) (.inr z)=some (.str (z6p c z)):=zsv (by rw[h.ln];exact hz)
theorem zpf (p:Pl) (c:Cs) (ks:List Str) (m:Md) (h:Wf p c) (hk:∀k∈ks,okS k):z0v [.obj m 0 (encC p c),.imm (.tuple (z6i ks))]=some (.list ((bare p ks c).map .str)):=by
 have hzl:=h.zl
 have c1:=zfk (cc:=tstB (op2 (oIn false) (op2 oIx (nm 0) (cst (.int 1))) (nm 1))) (ee:=op2 oIx (nm 0) (cst (.int 0))) (caps:=[some (.imm (.tuple (z6i ks)))]) encZ (fun z=>decide (z.2∈ks)) (fun z=>.str z.1) p.zones none fun z hz=>by
  have:=zap false (h.zn z hz).2 hk
  simp at this
  constructor
  ·simp! [sp2,encZ,z6i,this]
  ·intro _
   simp! [sp2,encZ]
 have c2:=zfk (cc:=andT (tstB (op2 oNe (fGet 0 1 4 (nm 0)) (cst (.str "shut")))) (tstB (op2 (oIn true) (nm 0) (fld 0 1 5)))) (ee:=nmV 0) (caps:=[some (.obj m 0 (encC p c))]) y1z (fun z=>decide (z6p c z≠"shut") && !decide (z∈c.shunts)) y1z ((p.zones.filter fun z=>decide (z.2∈ks)).map (·.1)) none fun z hz=>by
  have hzn:z∈p.zones.map (·.1):=by
   obtain⟨x,hx,rfl⟩:=y0n.mp hz
   exact y0n.mpr ⟨x,(List.mem_filter.mp hx).1,rfl⟩
  have e1:=h.lin hzn
  have e2:=z5l (h.okl z) (z02 "shut")
  have e3:=zaq true (h.okz hzn) h.oksh
  simp at e3
  constructor
  ·by_cases hs:z6p c z="shut"
   ·simp! [sp1,z60,e1,e2,hs,z5l (z02 "shut") (z02 "shut")]
   ·simp! [sp1,z60,e1,e2,e3,hs]
  ·intro _
   simp! [sp2]
 have l1:(p.zones.map encZ).length<=16777216:=by simp;omega
 have l2:(((p.zones.filter fun z=>decide (z.2∈ks)).map fun z=>y1z z.1)).length<=16777216:=by
  rw[y14]
  have:=y2b (fun z:Str×Str=>decide (z.2∈ks)) p.zones
  omega
 simp only[y2p,y17] at c2
 simp only[z0v,z5x,runR,z58]
 simp! [sp1,encP] at c1 c2 ⊢
 have hb1:p.zones.length<=big:=by unfold big;omega
 have hb2:(p.zones.filter fun z=>decide (z.2∈ks)).length<=big:=by
  have:=y2b (fun z:Str×Str=>decide (z.2∈ks)) p.zones
  omega
 rw[if_pos hb1,c1]
 simp only[y1t,y0q,y2h,y2g,Function.comp_apply,y14,hb2,if_true,Option.join_some]
 rw[c2]
 simp[bare]
def comeIn (p:Pl) (z k:Str) (c:Cs):Cs:=if k≠"way"\/p.come<=0 then alarm p z c else tell "coming" (some z) { c with mode:="coming",left:=p.come,came:=some z }
noncomputable def disturb (p:Pl) (z w:Str) (c:Cs):Cs :=
 if kindOf p z="day" then alarm p z c
 else if c.mode="off" then (if w="cut" then tell "fault" (some z) c else c)
 else if w="cut"\/kindOf p z="once" then alarm p z c
 else if c.mode="on" then comeIn p z (kindOf p z) c else c
noncomputable def line (p:Pl) (z w:Str) (c:Cs):Cs :=
 if w=z6p c z then c
 else if w="shut" then (if z6p c z="cut" then tell "mended" (some z) { c with lines:=setL c.lines z w } else { c with lines:=setL c.lines z w })
 else if z∈c.shunts then { c with lines:=setL c.lines z w } else disturb p z w { c with lines:=setL c.lines z w }
theorem zma (p:Pl) (c:Cs) (z k:Str) (h:Wf p c) (hz:okS z) (hk:okS k) (ht:c.told.length<big):z1d [.obj .lent 0 (encC p c),.imm (.str z),.imm (.str k)]=some (.none,encC p (comeIn p z k c)):=by
 have e:=z5l hk (z02 "way")
 have ea:=zch p c z h hz ht
 by_cases h1:k="way"
 ·by_cases h2:p.come<=0
  ·simp! [sp3,z1d,z3i,encP,e,h1,h2,ea,comeIn]
   simp! [sp4,z5l (z02 "way") (z02 "way"),ea,h2]
  ·have et:=z3w p { c with mode:="coming",left:=p.come,came:=some z } "coming" z ht
   simp! [sp3,z1d,z3i,encP,h1,h2,comeIn]
   simp! [sp3,z5l (z02 "way") (z02 "way"),et,h2,encP]
 ·simp! [sp3,z1d,z3i,encP,e,h1,ea,comeIn]
theorem zm7 (p:Pl) (c:Cs) (z w:Str) (h:Wf p c) (hz:z∈p.zones.map (·.1)) (hw:okS w) (ht:c.told.length<big):z2k [.obj .lent 0 (encC p c),.imm (.str z),.imm (.str w)]=some (.none,encC p (disturb p z w c)):=by
 have ek:=zbj h.zn hz
 have hkk:okS (kindOf p z):=by
  unfold kindOf
  cases e:p.zones.find? fun x=>decide (x.1=z) with
  | none=>exact z02 ""
  | some x=>exact (h.zn x (List.mem_of_find?_eq_some e)).2
 have ea:=zch p c z h (h.okz hz) ht
 have et:=z3w p c "fault" z ht
 have ec:=zma p c z (kindOf p z) h (h.okz hz) hkk ht
 have q1:=z0f hkk (z02 "day")
 have q2:=z0f h.mo (z02 "off")
 have q3:=z0f hw (z02 "cut")
 have q4:=z0f hkk (z02 "once")
 have q5:=z0f h.mo (z02 "on")
 simp only[z2k,z7x,disturb]
 by_cases h1:kindOf p z="day"
 ·simp! [sp5,ek,q1,h1,ea]
  simp! [sp4,z0f (z02 "day") (z02 "day"),ea]
 ·by_cases h2:c.mode="off"
  ·by_cases h3:w="cut"
   ·simp! [sp5,ek,q1,h1,q2,h2,q3,h3,et,z0f (z02 "off") (z02 "off"),z0f (z02 "cut") (z02 "cut")]
   ·simp! [sp5,ek,q1,h1,q2,h2,q3,h3,et,z0f (z02 "off") (z02 "off")]
  ·by_cases h3:w="cut"
   ·simp! [sp5,ek,q1,h1,q2,h2,q3,h3,ea,z0f (z02 "cut") (z02 "cut")]
   ·by_cases h4:kindOf p z="once"
    ·simp! [sp5,ek,q1,h1,q2,h2,q3,h3,q4,h4,ea,z0f (z02 "once") (z02 "once"),z0f (z02 "once") (z02 "day")]
    ·by_cases h5:c.mode="on"
     ·simp! [sp5,ek,q1,h1,q2,h2,q3,h3,q4,h4,q5,h5,ec,z0f (z02 "on") (z02 "on"),z0f (z02 "on") (z02 "off")]
     ·simp! [sp5,ek,q1,h1,q2,h2,q3,h3,q4,h4,q5,h5,ec]
theorem zmy (l:List (Str×Str)) (z w:Str):(setL l z w).map (·.1)=l.map (·.1):=by
 unfold setL
 rw[y2p]
 refine List.map_congr_left fun x _=>?_
 by_cases e:x.1=z <;> simp[e]
theorem zpl (l:List (Str×Int)) (z:Str):(addU l z).map (·.1)=l.map (·.1):=by
 unfold addU
 rw[y2p]
 refine List.map_congr_left fun x _=>?_
 by_cases e:x.1=z <;> simp[e]
theorem Wf.setLine {p:Pl} {c:Cs} (h:Wf p c) (z:Str) {w:Str} (hw:okS w):Wf p { c with lines:=setL c.lines z w } :=
 ⟨h.zn,h.cn,h.zl,h.mo,h.ca,h.cm,(zmy _ _ _).trans h.ln,fun l hl=>by
  obtain⟨x,hx,rfl⟩:=y0n.mp hl
  by_cases e:x.1=z
  ·rw[if_pos e]
   exact hw
  ·rw[if_neg e]
   exact h.lo x hx,h.us,h.sh,h.al⟩
theorem Wf.tell {p:Pl} {c:Cs} (h:Wf p c) (w:Str) (n:Option Str):Wf p (Co.tell w n c):=⟨h.zn,h.cn,h.zl,h.mo,h.ca,h.cm,h.ln,h.lo,h.us,h.sh,h.al⟩
theorem Wf.loud {p:Pl} {c:Cs} (h:Wf p c):Wf p (beLoud p c):=⟨h.zn,h.cn,h.zl,h.mo,h.ca,h.cm,h.ln,h.lo,h.us,h.sh,h.al⟩
theorem Wf.alarm {p:Pl} {c:Cs} (h:Wf p c) {z:Str} (hz:z∈p.zones.map (·.1)):Wf p (Co.alarm p z c):=by
 unfold Co.alarm
 split
 ·exact h.loud
 next hm =>
  refine Wf.tell (c:={ beLoud p c with alarms:=c.alarms++[z] }) ⟨h.zn,h.cn,h.zl,h.mo,h.ca,h.cm,h.ln,h.lo,h.us,h.sh,?_,?_⟩ _ _
  ·show (c.alarms++[z]).Nodup
   rw[y1p]
   exact⟨h.al.1,by simp,fun a ha b hb e=>hm (by simp at hb;subst hb;exact e▸ha)⟩
  ·intro y hy
   rcases y11.mp hy with q|q
   ·exact h.al.2 y q
   ·simp at q
    exact q▸hz
theorem z6w (p:Pl) (z:Str) (c:Cs):(alarm p z c).told.length<=c.told.length+1:=by
 unfold alarm tell beLoud
 split <;> simp
theorem zuh (p:Pl) (c:Cs) (z w:Str) (h:Wf p c) (hz:z∈p.zones.map (·.1)) (hw:okS w) (ht:c.told.length<big):z46 [.obj .lent 0 (encC p c),.imm (.str z),.imm (.str w)]=some (.none,encC p (line p z w c)):=by
 have e1:=h.lin hz
 have hzl:z∈c.lines.map (·.1):=by rw[h.ln];exact hz
 have e2:=zw8 (w:=w) hzl
 have q1:=z0f hw (h.okl z)
 have q2:=z0f hw (z02 "shut")
 have q3:=z0f (h.okl z) (z02 "cut")
 have q4:=zaq true (h.okz hz) h.oksh
 simp at q4
 have hlen:(dS c.lines).length<16777216:=by
  have:=congrArg List.length h.ln
  have:=h.zl
  simp[dS] at *
  omega
 have hd:=zm7 p _ z w (h.setLine z hw) hz hw ht
 have et:=z3w p { c with lines:=setL c.lines z w } "mended" z ht
 simp only[z46,zaz,line]
 by_cases h1:w=z6p c z
 ·simp! [sp5,z60,e1,q1,h1,z0f (h.okl z) (h.okl z)]
 ·by_cases h2:w="shut"
  ·subst h2
   by_cases h3:z6p c z="cut"
   ·simp! [sp5,big,z60,e1,e2,q1,h1,q2,q3,h3,hlen,et,z0f (z02 "cut") (z02 "cut"),z0f (z02 "shut") (z02 "shut"),z0f (z02 "shut") (z02 "cut")]
   ·simp! [sp5,big,z60,e1,e2,q1,h1,q2,q3,h3,hlen,z0f (z02 "shut") (z02 "shut")]
  ·by_cases h4:z∈c.shunts
   ·simp! [sp5,big,z60,e1,e2,q1,h1,q2,h2,q4,h4,hlen]
   ·simp! [sp5,big,z60,e1,e2,q1,h1,q2,h2,q4,h4,hlen,hd]
def less (a n:Int):Int:=if 0 > a - n then 0 else a - n
def z2l (n:Int) (c:Cs):Cs:={ c with past:=c.past+n,locked:=less c.locked n,siren:=less c.siren n,left:=less c.left n }
theorem zjm (a n:Int):z4k [.int a,.int n]=some (.int (less a n)):=by
 simp! [sp6,z4k,zfn,less]
theorem z7h (p:Pl) (c:Cs) (n:Int):z0u [.obj .lent 0 (encC p c),.imm (.int n)]=some (.none,encC p (z2l n c)):=by
 simp! [sp1,z0u,z5w,zjm,z2l]
def alarms (p:Pl) (zs:List Str) (c:Cs):Cs:=zs.foldl (fun c z=>alarm p z c) c
def endLeaving (p:Pl) (c:Cs):Cs:=alarms p (bare p ["inner","way"] (tell "on" none { c with mode:="on",left:=0 })) (tell "on" none { c with mode:="on",left:=0 })
def endComing (p:Pl) (c:Cs):Cs:=alarm p (c.came.getD "") { c with mode:="on",came:=none }
def endTime (p:Pl) (c:Cs):Cs:=if c.mode="leaving" then endLeaving p c else endComing p c
noncomputable def ticks (p:Pl) (n:Int) (c:Cs):Cs :=
 if n<1 then c else if (c.mode="leaving"\/c.mode="coming")/\c.left<=n then z2l (n - c.left) (endTime p (z2l c.left c)) else z2l n c
theorem zfo (p:Pl):∀(zs:List Str) (c:Cs) (s1:Option Sl),Wf p c->(∀z∈zs,z∈p.zones.map (·.1))->c.told.length+zs.length<big->∃s1',forL (gNm 1) (exX (z0k 0 z0h 0 [(nmV 1)])) (zs.map .str) [some (.obj .lent 0 (encC p c)),s1]=some (.nx [some (.obj .lent 0 (encC p (alarms p zs c))),s1'])
 | [],c,s1,_,_,_=>⟨s1,by simp[forL,alarms]⟩
 | z::zs,c,s1,h,hz,ht=>by
  have hzz:=hz z (by simp)
  have ea:=zch p c z h (h.okz hzz) (by simp at ht;omega)
  have:=z6w p z c
  obtain⟨s1',ih⟩:=zfo p zs (alarm p z c) (some (.imm (.str z))) (h.alarm hzz) (fun y hy=>hz y (y05 _ hy)) (by simp at ht;omega)
  refine⟨s1',?_⟩
  rw[y0e,forL]
  simp! [sp4,ea]
  simpa [runF,seq,iff,tstB,tstL,andT,orT,notT,cstT,ofT,op1,op2,opN,args,cst,nm,nmV,rtn,skip,asg,asgN,asgT,par,z09,z3j,oIsN,z6d,oIx,atZ,ixOf,gNm,gTu,gAll,z3v,comp,z4f,alarms] using ih
theorem zcf {p:Pl} {ks:List Str} {c:Cs} {z:Str} (h:z∈bare p ks c):z∈p.zones.map (·.1):=by
 unfold bare at h
 obtain⟨x,hx,rfl⟩:=y0n.mp (List.mem_filter.mp h).1
 exact y0n.mpr ⟨x,(List.mem_filter.mp hx).1,rfl⟩
theorem zl8 (p:Pl) (ks:List Str) (c:Cs):(bare p ks c).length<=p.zones.length:=by
 unfold bare
 have h1:=y2b (fun z=>decide (z6p c z≠"shut") && !decide (z∈c.shunts)) ((p.zones.filter fun z=>decide (z.2∈ks)).map (·.1))
 have h2:=y2b (fun z:Str×Str=>decide (z.2∈ks)) p.zones
 rw[y14] at h1
 omega
theorem Wf.on {p:Pl} {c:Cs} (h:Wf p c) (x:Int):Wf p { c with mode:="on",left:=x }:=⟨h.zn,h.cn,h.zl,z02 "on",h.ca,fun e=>absurd e z79,h.ln,h.lo,h.us,h.sh,h.al⟩
theorem z9k (p:Pl) (c:Cs) (h:Wf p c) (ht:c.told.length+50<big):z0p [.obj .lent 0 (encC p c)]=some (.none,encC p (endLeaving p c)):=by
 have w1:=(h.on 0).tell "on" none
 have et:=za9 p { c with mode:="on",left:=0 } "on" (by show c.told.length<big;omega)
 have eb:=zpf p (tell "on" none { c with mode:="on",left:=0 }) ["inner","way"] .ro w1 (by
  intro k hk
  simp at hk
  rcases hk with rfl|rfl
  ·exact z02 "inner"
  ·exact z02 "way")
 have hl:=zl8 p ["inner","way"] (tell "on" none { c with mode:="on",left:=0 })
 have hz:=h.zl
 obtain⟨s1',lp⟩:=zfo p (bare p ["inner","way"] (tell "on" none { c with mode:="on",left:=0 })) (tell "on" none { c with mode:="on",left:=0 }) none w1 (fun z hz=>zcf hz) (by
  have:(tell "on" none { c with mode:="on",left:=0 }:Cs).told.length=c.told.length+1:=by simp[tell]
  omega)
 simp only[z6i,y0e,y1a] at eb
 simp! [sp1,z0p,z5c,et,eb,for_]
 rw[lp]
 simp! [sp7,endLeaving]
theorem Wf.onComing {p:Pl} {c:Cs} (h:Wf p c):Wf p { c with mode:="on",came:=none }:=⟨h.zn,h.cn,h.zl,z02 "on",fun z e=>(nomatch e),fun e=>absurd e z79,h.ln,h.lo,h.us,h.sh,h.al⟩
theorem zgk (p:Pl) (c:Cs) (h:Wf p c) (hc:c.came≠none) (ht:c.told.length<big):z1n [.obj .lent 0 (encC p c)]=some (.none,encC p (endComing p c)):=by
 obtain⟨z,hz⟩:=Option.ne_none_iff_exists'.mp hc
 have ea:=zch p { c with mode:="on",came:=none } z h.onComing (h.ca z hz).1 ht
 simp! [sp1,z1n,z5u,hz,oS,ea,endComing]
theorem Wf.cd {p:Pl} {c:Cs} (h:Wf p c) (n:Int):Wf p (z2l n c):=⟨h.zn,h.cn,h.zl,h.mo,h.ca,h.cm,h.ln,h.lo,h.us,h.sh,h.al⟩
theorem zjs (p:Pl) (c:Cs) (h:Wf p c) (hm:c.mode="leaving"\/c.mode="coming") (ht:c.told.length+50<big):z1j [.obj .lent 0 (encC p c)]=some (.none,encC p (endTime p c)):=by
 have e1_:=z9k p c h ht
 have q:=z0f h.mo (z02 "leaving")
 rcases hm with hm|hm
 ·simp! [sp5,z1j,z4o,hm,e1_,endTime,z0f (z02 "leaving") (z02 "leaving")]
 ·have e2_:=zgk p c h (h.cm hm) (by omega)
  simp! [sp5,z1j,z4o,hm,e2_,endTime,z0f (z02 "coming") (z02 "leaving")]
theorem zpw (p:Pl) (c:Cs) (n:Int) (h:Wf p c) (ht:c.told.length+50<big):z1h [.obj .lent 0 (encC p c),.imm (.int n)]=some (.none,encC p (ticks p n c)):=by
 have q:oIn false (.str c.mode) (.tuple [.str "leaving",.str "coming"])=some (.bool (decide (c.mode="leaving"\/c.mode="coming"))):=by
  have:=zap false (n:=c.mode) (ns:=["leaving","coming"]) h.mo (by
   intro k hk
   simp at hk
   rcases hk with rfl|rfl
   ·exact z02 "leaving"
   ·exact z02 "coming")
  simpa using this
 have e1_:=z7h p c c.left
 have e3_:=z7h p c n
 by_cases h1:n<1
 ·simp! [sp3,z1h,z3c,h1,ticks]
 ·by_cases h2:c.mode="leaving"\/c.mode="coming"
  ·by_cases h3:c.left<=n
   ·have e2_:=zjs p (z2l c.left c) (h.cd _) h2 ht
    have e4_:=z7h p (endTime p (z2l c.left c)) (n - c.left)
    rw[decide_eq_true h2] at q
    simp only[ticks,if_neg h1,if_pos (And.intro h2 h3)]
    simp! [sp3,z1h,z3c,h1,q,h3,e1_,e2_,e4_]
   ·rw[decide_eq_true h2] at q
    simp only[ticks,if_neg h1,if_neg (fun z:(c.mode="leaving"\/c.mode="coming")/\c.left<=n=>h3 z.2)]
    simp! [sp3,z1h,z3c,h1,q,h3,e3_]
  ·rw[decide_eq_false h2] at q
   simp only[ticks,if_neg h1,if_neg (fun z:(c.mode="leaving"\/c.mode="coming")/\c.left<=n=>h2 z.1)]
   simp! [sp3,z1h,z3c,h1,q,e3_]
def zcm (k:Cd) (c:Cs):Bool:=decide (k.uses≠0) && decide (k.uses<=zry c k.fig)
def wrong1 (c:Cs):Cs:={ tell "wrong" none c with tries:=c.tries+1 }
def takeWrong (p:Pl) (c:Cs):Cs:=if 3<=c.tries+1 then tell "attack" none (beLoud p { wrong1 c with tries:=0,locked:=90 }) else wrong1 c
noncomputable def z2x (p:Pl) (d:Str) (z:Option Str) (c:Cs):Bool :=
 if d="unset" then false else if c.mode≠"off" then true
 else if d="shunt" then decide (kindOf p (z.getD "")="day") || decide (z.getD ""∈c.shunts)
 else decide (d="free") && !decide (z.getD ""∈c.shunts)
noncomputable def against (p:Pl) (k:Cd) (d:Str) (z:Option Str) (c:Cs):Option (Str×Str) :=
 if (if d="free" then ("shunt":Str) else d)∉k.rights then some ("denied",k.who)
 else if z2x p d z c then some ("no",k.who)
 else if d="set"/\bare p ["day","once"] c≠[] then some ("open",(bare p ["day","once"] c).headD "") else none
def doSet (p:Pl) (who:Str) (c:Cs):Cs :=
 let c1:=tell "set" (some who) { c with alarms:=[],siren:=0,mode:="leaving",left:=p.leave }
 if p.leave<=0 then endLeaving p c1 else c1
def doUnset (who:Str) (c:Cs):Cs:=tell "unset" (some who) { c with mode:="off",left:=0,siren:=0,came:=none,shunts:=[] }
noncomputable def doDeed (p:Pl) (who d:Str) (z:Option Str) (c:Cs):Cs :=
 if d="set" then doSet p who c else if d="unset" then doUnset who c
 else if d="shunt" then tell "shunt" z { c with shunts:=z81 (c.shunts++[z.getD ""]) }
 else tell "free" z { c with shunts:=c.shunts.erase (z.getD "") }
noncomputable def takeRight (p:Pl) (k:Cd) (d:Str) (z:Option Str) (c:Cs):Cs:=match against p k d z c with
 | none=>doDeed p k.who d z { c with used:=addU c.used k.fig }
 | some (w,n)=>tell w (some n) c
noncomputable def code (p:Pl) (f d:Str) (z:Option Str) (c:Cs):Cs :=
 if 0<c.locked then tell "locked" none c else match zfm p f with
  | none=>takeWrong p c
  | some k=>if zcm k c then takeWrong p c else takeRight p k d z { c with tries:=0 }
theorem zlc (p:Pl) (c:Cs) (k:Cd) (h:Wf p c) (hk:k∈p.codes) (m:Md):z17 [.obj m 0 (encC p c),.imm (z1m k)]=some (.bool (zcm k c)):=by
 have e:getD (dI c.used) (.inr k.fig)=some (.int (zry c k.fig)):=zom (by rw[h.us];exact y0n.mpr ⟨k,hk,rfl⟩)
 have q:oNe (.int k.uses) (.int 0)=some (.bool (!decide (k.uses=0))):=by
  unfold oNe
  rw[zd4,zd4]
  by_cases e:k.uses=0 <;> simp[y24,e]
 by_cases h1:k.uses=0
 ·simp! [sp3,z17,z3s,z1m,q,h1,andV,zcm]
  simp[oNe,zd4,y24]
 ·simp! [sp3,z17,z3s,z1m,q,h1,andV,zcm,z60,e]
theorem zfs (p:Pl) (c:Cs) (ht:c.told.length+2<big):z15 [.obj .lent 0 (encC p c)]=some (.none,encC p (takeWrong p c)):=by
 have e1_:=za9 p c "wrong" (by omega)
 have e2_:=zbp p { wrong1 c with tries:=0,locked:=90 }
 have e3_:=za9 p (beLoud p { wrong1 c with tries:=0,locked:=90 }) "attack" (by simp[beLoud,wrong1,tell];omega)
 have w:({ mode:=(tell "wrong" none c).mode,left:=(tell "wrong" none c).left,came:=(tell "wrong" none c).came,lines:=(tell "wrong" none c).lines,shunts:=(tell "wrong" none c).shunts,siren:=(tell "wrong" none c).siren,alarms:=(tell "wrong" none c).alarms,tries:=c.tries+1,locked:=(tell "wrong" none c).locked,used:=(tell "wrong" none c).used,past:=(tell "wrong" none c).past,told:=(tell "wrong" none c).told }:Cs)=wrong1 c:=rfl
 have ti:(tell "wrong" none c).tries=c.tries:=rfl
 by_cases h3:3<=c.tries+1
 ·simp! [sp3,z15,z3q,e1_,ti,h3,takeWrong]
  simp[wrong1] at e2_ e3_ ⊢
  simp[e2_,e3_]
 ·simp! [sp3,z15,z3q,e1_,ti,h3,takeWrong,wrong1]
end Co
section
namespace Co
open D PySem
theorem Wf.okk {p:Pl} {c:Cs} (h:Wf p c) (z:Str):okS (kindOf p z):=by
 unfold kindOf
 cases e:p.zones.find? fun x=>decide (x.1=z) with
 | none=>exact z02 ""
 | some x=>exact (h.zn x (List.mem_of_find?_eq_some e)).2
theorem z7q:(2<=big)=True:=by simp[big]
theorem zkb:(10<=big)=True:=by simp[big]
def okZ (p:Pl) (d:Str) (z:Option Str):Prop:=(d="shunt"\/d="free")->∃x,z=some x/\x∈p.zones.map (·.1)
theorem zej (p:Pl) (c:Cs) (d:Str) (z:Option Str) (m:Md) (h:Wf p c) (hd:okS d) (hz:okZ p d z):z0g [.obj m 0 (encC p c),.imm (.str d),.imm (oS z)]=some (.bool (z2x p d z c)):=by
 have q1:=z0f hd (z02 "unset")
 have q2:=z5l h.mo (z02 "off")
 have q3:=z0f hd (z02 "shunt")
 have q4:=z0f hd (z02 "free")
 by_cases h1:d="unset"
 ·simp! [sp1,z0g,z0q,q1,h1,z2x]
  simp[z0f (z02 "unset") (z02 "unset")]
 ·by_cases h2:c.mode="off"
  ·by_cases h3:d="shunt"
   ·obtain⟨x,rfl,hx⟩:=hz (.inl h3)
    subst h3
    have ek:=zbj h.zn hx
    have q5:=z0f (h.okk x) (z02 "day")
    have q6:=zaq false (h.okz hx) h.oksh
    simp at q6
    by_cases h4:kindOf p x="day"
    ·simp! [sp5,z0g,z0q,q1,h1,h2,z5l (z02 "off") (z02 "off"),q3,orV,oS,ek,q5,q6,h4,z2x]
     simp[z0f (z02 "day") (z02 "day")]
    ·simp! [sp5,z0g,z0q,q1,h1,h2,z5l (z02 "off") (z02 "off"),q3,orV,oS,ek,q5,q6,h4,z2x]
   ·by_cases h4:d="free"
    ·obtain⟨x,rfl,hx⟩:=hz (.inr h4)
     subst h4
     have q6:=zaq true (h.okz hx) h.oksh
     simp at q6
     simp! [sp5,z0g,z0q,q1,h2,z5l (z02 "off") (z02 "off"),q3,q4,andV,oS,q6,z2x]
    ·simp! [sp5,z0g,z0q,q1,h1,h2,z5l (z02 "off") (z02 "off"),q3,h3,q4,h4,andV,z2x]
  ·simp! [sp1,z0g,z0q,q1,h1,q2,h2,z2x]
def encA:Option (Str×Str)->T
 | none=>.none
 | some (w,n)=>.tuple [.str w,.str n]
theorem za7 (p:Pl) (c:Cs) (k:Cd) (d:Str) (z:Option Str) (m:Md) (h:Wf p c) (hk:k∈p.codes) (hd:okS d) (hz:okZ p d z):z0x [.obj m 0 (encC p c),.imm (z1m k),.imm (.str d),.imm (oS z)]=some (encA (against p k d z c)):=by
 have q1:=z0f hd (z02 "free")
 have q2:=z0f hd (z02 "set")
 have eu:=zej p c d z .ro h hd hz
 have eb:=zpf p c ["day","once"] .ro h (by
  intro k hk
  simp at hk
  rcases hk with rfl|rfl
  ·exact z02 "day"
  ·exact z02 "once")
 simp only[z6i,y0e,y1a] at eb
 have q3:=zap true (n:=if d="free" then ("shunt":Str) else d) (ns:=k.rights) (by
  split
  ·exact z02 "shunt"
  ·exact hd) (h.cn k hk).2.2
 simp at q3
 have qr:(ifE (tstB (op2 oEq (nm 2) (cst (.str "free")))) (cst (.str "shunt")) (nmV 2)) [some (.obj m 0 (encC p c)),some (.imm (z1m k)),some (.imm (.str d)),some (.imm (oS z)),none,none]=some (.str (if d="free" then ("shunt":Str) else d)):=by
  by_cases h0:d="free"
  ·simp! [sp4,q1,h0,z0f (z02 "free") (z02 "free")]
  ·simp! [sp4,q1,h0]
 simp only[z0x,z3u,runR,z58,seq,asg,y0e,y1a,y0w,y2j,y0h,y2o,y2n,qr,y1t,y0q,y1m,y1j]
 generalize hr:(if d="free" then ("shunt":Str) else d)=r at q3 ⊢
 unfold against
 rw[hr]
 by_cases h1:r∈k.rights
 ·by_cases h2:z2x p d z c=true
  ·simp! [sp1,z1m,z7q,q3,h1,eu,h2,encA]
  ·simp at h2
   by_cases h3:d="set"
   ·subst h3
    cases e:bare p ["day","once"] c with
    | nil =>
     rw[e] at eb
     simp! [sp1,z1m,z7q,q3,h1,eu,h2,eb,q2,encA]
    | cons b bs =>
     rw[e] at eb
     simp! [sp1,z1m,z7q,q3,h1,eu,h2,eb,q2,encA]
   ·simp! [sp1,z1m,z7q,q3,h1,eu,h2,eb,q2,h3,encA]
 ·simp! [sp1,z1m,z7q,q3,h1,encA]
theorem Wf.setAl {p:Pl} {c:Cs} (h:Wf p c) (x:Int):Wf p { c with alarms:=[],siren:=0,mode:="leaving",left:=x }:=⟨h.zn,h.cn,h.zl,z02 "leaving",h.ca,fun e=>absurd e z53,h.ln,h.lo,h.us,h.sh,by simp⟩
theorem zow (p:Pl) (c:Cs) (w:Str) (h:Wf p c) (ht:c.told.length+60<big):z27 [.obj .lent 0 (encC p c),.imm (.str w)]=some (.none,encC p (doSet p w c)):=by
 have e1_:=z3w p { c with alarms:=[],siren:=0,mode:="leaving",left:=p.leave } "set" w (by show c.told.length<big;omega)
 have e2_:=z9k p (tell "set" (some w) { c with alarms:=[],siren:=0,mode:="leaving",left:=p.leave }) ((h.setAl p.leave).tell _ _) (by
  have:(tell "set" (some w) { c with alarms:=[],siren:=0,mode:="leaving",left:=p.leave }:Cs).told.length=c.told.length+1:=by simp[tell]
  omega)
 have lf:(tell "set" (some w) { c with alarms:=[],siren:=0,mode:="leaving",left:=p.leave }:Cs).left=p.leave:=rfl
 by_cases h1:p.leave<=0
 ·simp! [sp3,z27,z5v,encP,e1_,lf,h1,e2_,doSet]
 ·simp! [sp3,z27,z5v,encP,e1_,lf,h1,doSet]
theorem zjt (p:Pl) (c:Cs) (w:Str) (ht:c.told.length<big):z26 [.obj .lent 0 (encC p c),.imm (.str w)]=some (.none,encC p (doUnset w c)):=by
 have e1_:=z3w p { c with mode:="off",left:=0,siren:=0,came:=none,shunts:=[] } "unset" w ht
 simp! [sp3,z26,z6u,e1_,doUnset]
theorem zb5:∀l:List Str,zcp (l.map .str)=some l
 | []=>rfl
 | x::l=>by simp[zcp,zb5 l]
def okD (p:Pl) (d:Str) (z:Option Str) (c:Cs):Prop:=d="set"\/d="unset"\/(d="shunt"/\∃x,z=some x/\x∈p.zones.map (·.1))\/(d="free"/\∃x,z=some x/\x∈c.shunts)
theorem zm3 (p:Pl) (c:Cs) (w d:Str) (z:Option Str) (h:Wf p c) (hd:okS d) (hz:okD p d z c) (ht:c.told.length+60<big):z11 [.obj .lent 0 (encC p c),.imm (.str w),.imm (.str d),.imm (oS z)]=some (.none,encC p (doDeed p w d z c)):=by
 have q1:=z0f hd (z02 "set")
 have q2:=z0f hd (z02 "unset")
 have q3:=z0f hd (z02 "shunt")
 have es:=zow p c w h ht
 have eu:=zjt p c w (by omega)
 rcases hz with rfl|rfl|⟨rfl,x,rfl,hx⟩|⟨rfl,x,rfl,hx⟩
 ·simp! [sp1,z11,z2n,q1,es,doDeed]
 ·simp! [sp5,z11,z2n,q1,q2,eu,doDeed]
 ·have hl:=h.shLen
  have e1_:=z3w p { c with shunts:=z81 (c.shunts++[x]) } "shunt" x (by show c.told.length<big;omega)
  have b1:c.shunts.length+1<=big:=by unfold big;omega
  have b2:c.shunts.length+1<64:=by omega
  have b0:1<=big:=by decide
  have b3:=zb5 (c.shunts++[x])
  simp at b3
  simp! [sp5,z11,z2n,q1,q2,q3,oS,oAdd,b0,b1,b2,zcb,b3,e1_,doDeed]
 ·have e1_:=z3w p { c with shunts:=c.shunts.erase x } "free" x (by show c.told.length<big;omega)
  simp! [sp5,z11,z2n,q1,q2,q3,oS,rmF,zb5,hx,e1_,doDeed]
structure Wp (p:Pl):Prop where
 cd:(p.codes.map (·.fig)).Nodup
 zd:(p.zones.map (·.1)).Nodup
 cl:p.codes.length<=40
 ti:0<=p.leave/\0<=p.come/\0<=p.loud
theorem Wf.add {p:Pl} {c:Cs} (h:Wf p c) (f:Str):Wf p { c with used:=addU c.used f }:=⟨h.zn,h.cn,h.zl,h.mo,h.ca,h.cm,h.ln,h.lo,(zpl _ _).trans h.us,h.sh,h.al⟩
theorem Wf.tri {p:Pl} {c:Cs} (h:Wf p c) (n:Int):Wf p { c with tries:=n }:=⟨h.zn,h.cn,h.zl,h.mo,h.ca,h.cm,h.ln,h.lo,h.us,h.sh,h.al⟩
theorem zns {p:Pl} {c:Cs} {k:Cd} {d:Str} {z:Option Str} (hd:d="set"\/d="unset"\/d="shunt"\/d="free") (hz:okZ p d z) (ha:against p k d z c=none):okD p d z c:=by
 rcases hd with rfl|rfl|rfl|rfl
 ·exact .inl rfl
 ·exact .inr (.inl rfl)
 ·exact .inr (.inr (.inl ⟨rfl,hz (.inl rfl)⟩))
 ·refine .inr (.inr (.inr ⟨rfl,?_⟩))
  obtain⟨x,rfl,hx⟩:=hz (.inr rfl)
  refine⟨x,rfl,?_⟩
  refine Classical.byContradiction fun hu=>?_
  have:z2x p "free" (some x) c=true:=by
   by_cases hm:c.mode="off" <;> simp[z2x,z4w,z4x,hu,hm]
  unfold against at ha
  rw[this] at ha
  by_cases hr:(if ("free":Str)="free" then ("shunt":Str) else "free")∈k.rights
  ·rw[if_neg (fun q=>q hr),if_pos rfl] at ha
   cases ha
  ·rw[if_pos hr] at ha
   cases ha
theorem zft (p:Pl) (c:Cs) (k:Cd) (d:Str) (z:Option Str) (h:Wf p c) (hp:Wp p) (hk:k∈p.codes) (hd:d="set"\/d="unset"\/d="shunt"\/d="free") (hz:okZ p d z) (ht:c.told.length+60<big):z16 [.obj .lent 0 (encC p c),.imm (z1m k),.imm (.str d),.imm (oS z)]=some (.none,encC p (takeRight p k d z c)):=by
 have od:okS d:=by
  rcases hd with rfl|rfl|rfl|rfl
  ·exact z02 "set"
  ·exact z02 "unset"
  ·exact z02 "shunt"
  ·exact z02 "free"
 have ea:=za7 p c k d z .ro h hk od hz
 have ku:k.fig∈c.used.map (·.1):=by rw[h.us];exact y0n.mpr ⟨k,hk,rfl⟩
 cases e:against p k d z c with
 | none =>
  have hD:=zns hd hz e
  have g1:=zom ku
  have g2:=zw9 ku (by rw[h.us];exact hp.cd)
  have hl:(dI c.used).length<big:=by
   have:=congrArg List.length h.us
   have:=hp.cl
   simp[dI] at *
   unfold big
   omega
  have ed:=zm3 p { c with used:=addU c.used k.fig } k.who d z (h.add _) od hD ht
  rw[e] at ea
  simp only[z1m] at ea
  simp! [sp1,z16,z3r,ea,encA,z1m,z60,g1,g2,hl,ed,takeRight,e]
 | some wn =>
  obtain⟨w,n⟩:=wn
  have et:=z3w p c w n (by omega)
  rw[e] at ea
  simp only[z1m] at ea
  simp! [sp1,z16,z3r,ea,encA,z1m,et,takeRight,e]
theorem zfl {p:Pl} {f:Str} {k:Cd} (h:zfm p f=some k):k∈p.codes:=List.mem_of_find?_eq_some h
theorem zv6 (p:Pl) (c:Cs) (f d:Str) (z:Option Str) (h:Wf p c) (hp:Wp p) (hf:okS f) (hd:d="set"\/d="unset"\/d="shunt"\/d="free") (hz:okZ p d z) (ht:c.told.length+60<big):z1u [.obj .lent 0 (encC p c),.imm (.str f),.imm (.str d),.imm (oS z)]=some (.none,encC p (code p f d z c)):=by
 have ec:=zmb (fun k hk=>(h.cn k hk).1) hf
 have et:=za9 p c "locked" (by omega)
 have ew:=zfs p c (by omega)
 by_cases h1:0<c.locked
 ·simp! [sp3,z1u,z4a,ec,h1,et,code]
 ·cases e:zfm p f with
  | none =>
   rw[e] at ec
   simp! [sp3,z1u,z4a,ec,encO,h1,ew,code,e]
  | some k =>
   rw[e] at ec
   have hk:=zfl e
   have eu:=zlc p c k h hk .ro
   have er:=zft p { c with tries:=0 } k d z (h.tri 0) hp hk hd hz ht
   cases h2:zcm k c with
   | true =>
    rw[h2] at eu
    simp! [sp3,z1u,z4a,ec,encO,h1,eu,z1m] at eu ⊢
    simp[eu,ew,code,e,h1,h2]
   | false =>
    rw[h2] at eu
    simp! [sp3,z1u,z4a,ec,encO,h1,eu,z1m] at eu er ⊢
    simp! [sp8,eu,er,code,e,h1,h2]
inductive Et where
 | line (z w:Str)
 | code (f d:Str) (z:Option Str)
 | ticks (n:Int)
def encE:Et->T
 | .line z w=>.tuple [.str "line",.str z,.str w]
 | .code f d z=>.tuple [.str "code",.str f,.str d,oS z]
 | .ticks n=>.tuple [.str "ticks",.int n]
noncomputable def okE (p:Pl):Et->Prop
 | .line z w=>z∈p.zones.map (·.1)/\(w="shut"\/w="open"\/w="cut")
 | .code f d z=>okS f/\(d="set"\/d="unset"\/d="shunt"\/d="free")/\okZ p d z
 | .ticks n=>1<=n
def happen (p:Pl) (c:Cs):Et->Cs
 | .line z w=>line p z w c
 | .code f d z=>code p f d z c
 | .ticks n=>ticks p n c
theorem zok (p:Pl) (c:Cs) (e:Et) (h:Wf p c) (hp:Wp p) (he:okE p e) (ht:c.told.length+60<big):z1a [.obj .lent 0 (encC p c),.imm (encE e)]=some (.none,encC p (happen p c e)):=by
 have q (x y:Str) (hx:okS x) (hy:okS y):=z0f hx hy
 cases e with
 | line z w =>
  have ow:okS w:=by
   rcases he.2 with rfl|rfl|rfl
   ·exact z02 "shut"
   ·exact z02 "open"
   ·exact z02 "cut"
  have el:=zuh p c z w h he.1 ow (by omega)
  simp! [sp1,z1a,z49,encE,z0f (z02 "line") (z02 "line"),el,happen]
 | code f d z =>
  have el:=zv6 p c f d z h hp he.1 he.2.1 he.2.2 ht
  simp! [sp5,z1a,z49,encE,z0f (z02 "code") (z02 "line"),z0f (z02 "code") (z02 "code"),el,happen]
 | ticks n =>
  have el:=zpw p c n h (by omega)
  simp! [sp5,z1a,z49,encE,z0f (z02 "ticks") (z02 "line"),z0f (z02 "ticks") (z02 "code"),el,happen]
end Co
end
section
namespace Co
open D PySem
local instance:Tbl:=⟨[],fun _=>[],fun _=>none⟩
theorem z23 (w:Str) (n:Option Str) (c:Cs):(tell w n c).told.length=c.told.length+1:=by simp[tell]
theorem Wf.coming {p:Pl} {c:Cs} (h:Wf p c) (x:Int) {z:Str} (hz:z∈p.zones.map (·.1)):Wf p { c with mode:="coming",left:=x,came:=some z } :=
 ⟨h.zn,h.cn,h.zl,z02 "coming",fun y e=>y2i e▸⟨h.okz hz,hz⟩,fun _ e=>(nomatch e),h.ln,h.lo,h.us,h.sh,h.al⟩
theorem Wf.comeIn {p:Pl} {c:Cs} (h:Wf p c) {z:Str} (k:Str) (hz:z∈p.zones.map (·.1)):Wf p (comeIn p z k c):=by
 unfold Co.comeIn
 split
 ·exact h.alarm hz
 ·exact (h.coming p.come hz).tell _ _
theorem zjw (p:Pl) (z k:Str) (c:Cs):(comeIn p z k c).told.length<=c.told.length+1:=by
 unfold Co.comeIn
 split
 ·exact z6w p z c
 ·rw[z23];exact y0p _
theorem Wf.disturb {p:Pl} {c:Cs} (h:Wf p c) {z:Str} (w:Str) (hz:z∈p.zones.map (·.1)):Wf p (disturb p z w c):=by
 unfold Co.disturb
 repeat' split
 all_goals first|exact h.alarm hz|exact h.tell _ _|exact h.comeIn _ hz|exact h
theorem zic (p:Pl) (z w:Str) (c:Cs):(disturb p z w c).told.length<=c.told.length+1:=by
 unfold Co.disturb
 repeat' split
 all_goals first|exact z6w p z c|exact zjw p z _ c|(rw[z23];exact y0p _)|omega
theorem Wf.line {p:Pl} {c:Cs} (h:Wf p c) {z w:Str} (hz:z∈p.zones.map (·.1)) (hw:okS w):Wf p (line p z w c):=by
 have h':=h.setLine z hw
 unfold Co.line
 repeat' split
 all_goals first|exact h|exact h'|exact h'.tell _ _|exact h'.disturb _ hz
theorem znz (p:Pl) (z w:Str) (c:Cs):(line p z w c).told.length<=c.told.length+1:=by
 unfold Co.line
 repeat' split
 all_goals first|omega|(rw[z23];exact y0p _)|exact zic p z w { c with lines:=setL c.lines z w }|exact y2k _
theorem Wf.alarms {p:Pl}:∀{zs:List Str} {c:Cs},Wf p c->(∀z∈zs,z∈p.zones.map (·.1))->Wf p (Co.alarms p zs c)
 | [],_,h,_=>h
 | z::zs,c,h,hz=>Wf.alarms (zs:=zs) (h.alarm (hz z y0f)) fun y hy=>hz y (y05 _ hy)
theorem zeb (p:Pl):∀(zs:List Str) (c:Cs),(Co.alarms p zs c).told.length<=c.told.length+zs.length
 | [],c=>y0p _
 | z::zs,c=>by
  have h1:=zeb p zs (alarm p z c)
  have h2:=z6w p z c
  simp only[y0w]
  show (Co.alarms p zs (alarm p z c)).told.length<=_
  omega
theorem Wf.endLeaving {p:Pl} {c:Cs} (h:Wf p c):Wf p (endLeaving p c):=Wf.alarms ((h.on 0).tell _ _) fun z hz=>zcf hz
theorem z8g {p:Pl} {c:Cs} (h:Wf p c):(endLeaving p c).told.length<=c.told.length+41:=by
 have h1:=zeb p (bare p ["inner","way"] (tell "on" none { c with mode:="on",left:=0 })) (tell "on" none { c with mode:="on",left:=0 })
 have h2:=zl8 p ["inner","way"] (tell "on" none { c with mode:="on",left:=0 })
 have h3:=h.zl
 rw[z23] at h1
 show (Co.alarms p _ _).told.length<=_
 have h4:({ c with mode:="on",left:=0 }:Cs).told.length=c.told.length:=rfl
 omega
theorem Wf.endComing {p:Pl} {c:Cs} (h:Wf p c) (hc:c.came≠none):Wf p (endComing p c):=by
 obtain⟨z,hz⟩:=Option.ne_none_iff_exists'.mp hc
 unfold Co.endComing
 rw[hz]
 exact h.onComing.alarm (h.ca z hz).2
theorem zek (p:Pl) (c:Cs):(endComing p c).told.length<=c.told.length+1:=z6w _ _ _
theorem Wf.endTime {p:Pl} {c:Cs} (h:Wf p c) (hm:c.mode="leaving"\/c.mode="coming"):Wf p (endTime p c):=by
 unfold Co.endTime
 split
 ·exact h.endLeaving
 next q=>exact h.endComing (h.cm (hm.resolve_left q))
theorem zia {p:Pl} {c:Cs} (h:Wf p c):(endTime p c).told.length<=c.told.length+41:=by
 unfold Co.endTime
 split
 ·exact z8g h
 ·have:=zek p c
  omega
theorem Wf.ticks {p:Pl} {c:Cs} (h:Wf p c) (n:Int):Wf p (ticks p n c):=by
 unfold Co.ticks
 split
 ·exact h
 ·split
  next q=>exact ((h.cd _).endTime q.1).cd _
  ·exact h.cd _
theorem zlf {p:Pl} {c:Cs} (h:Wf p c) (n:Int):(ticks p n c).told.length<=c.told.length+41:=by
 unfold Co.ticks
 split
 ·omega
 ·split
  ·exact zia (h.cd c.left)
  ·exact Nat.le_add_right _ _
theorem Wf.takeWrong {p:Pl} {c:Cs} (h:Wf p c):Wf p (takeWrong p c):=by
 unfold Co.takeWrong
 split
 ·exact Wf.tell (Wf.loud (c:={ wrong1 c with tries:=0,locked:=90 }) ⟨h.zn,h.cn,h.zl,h.mo,h.ca,h.cm,h.ln,h.lo,h.us,h.sh,h.al⟩) _ _
 ·exact⟨h.zn,h.cn,h.zl,h.mo,h.ca,h.cm,h.ln,h.lo,h.us,h.sh,h.al⟩
theorem zee (p:Pl) (c:Cs):(takeWrong p c).told.length<=c.told.length+2:=by
 unfold Co.takeWrong
 split
 ·rw[z23]
  show (tell _ _ c).told.length+1<=_
  rw[z23]
  exact y0p _
 ·show (tell _ _ c).told.length<=_
  rw[z23]
  omega
theorem Wf.doSet {p:Pl} {c:Cs} (h:Wf p c) (w:Str):Wf p (doSet p w c):=by
 unfold Co.doSet
 have h':=(h.setAl p.leave).tell "set" (some w)
 show Wf p (if p.leave<=0 then _ else _)
 split
 ·exact h'.endLeaving
 ·exact h'
theorem zm5 {p:Pl} {c:Cs} (h:Wf p c) (w:Str):(doSet p w c).told.length<=c.told.length+42:=by
 unfold Co.doSet
 have h':=(h.setAl p.leave).tell "set" (some w)
 have e:=z23 "set" (some w) { c with alarms:=[],siren:=0,mode:="leaving",left:=p.leave }
 have e':({ c with alarms:=[],siren:=0,mode:="leaving",left:=p.leave }:Cs).told.length=c.told.length:=rfl
 show (if p.leave<=0 then endLeaving p _ else _:Cs).told.length<=_
 split
 ·have:=z8g h'
  omega
 ·omega
theorem Wf.doUnset {p:Pl} {c:Cs} (h:Wf p c) (w:Str):Wf p (doUnset w c) :=
 ⟨h.zn,h.cn,h.zl,z02 "off",fun z e=>(nomatch e),fun e=>absurd e z68,h.ln,h.lo,h.us,by simp[Co.doUnset,Co.tell],h.al⟩
theorem Wf.doDeed {p:Pl} {c:Cs} (h:Wf p c) (w:Str) {d:Str} {z:Option Str} (hz:okD p d z c) (hn:d="shunt"->z.getD ""∉c.shunts):Wf p (doDeed p w d z c):=by
 rcases hz with rfl|rfl|⟨rfl,x,rfl,hx⟩|⟨rfl,x,rfl,hx⟩
 ·simp only[Co.doDeed,if_true];exact h.doSet w
 ·simp only[Co.doDeed,if_neg z77,if_true];exact h.doUnset w
 ·simp only[Co.doDeed,if_neg z78,if_neg z44,if_true]
  refine Wf.tell (c:={ c with shunts:=z81 (c.shunts++[x]) }) ⟨h.zn,h.cn,h.zl,h.mo,h.ca,h.cm,h.ln,h.lo,h.us,⟨?_,?_⟩,h.al⟩ _ _
  ·show (z81 (c.shunts++[x])).Nodup
   rw[(z5h _).nodup_iff,y1p]
   refine⟨h.sh.1,by simp,fun a ha b hb e=>?_⟩
   simp at hb
   exact hn rfl (by show x∈_;exact hb▸e▸ha)
  ·intro y hy
   have hy':=(z5h _).mem_iff.mp hy
   rcases y11.mp hy' with q|q
   ·exact h.sh.2 y q
   ·simp at q
    exact q▸hx
 ·simp only[Co.doDeed,if_neg z8x,if_neg z4w,if_neg z4x]
  refine Wf.tell (c:={ c with shunts:=c.shunts.erase x }) ⟨h.zn,h.cn,h.zl,h.mo,h.ca,h.cm,h.ln,h.lo,h.us,⟨?_,?_⟩,h.al⟩ _ _
  ·exact h.sh.1.erase x
  ·exact fun y hy=>h.sh.2 y (List.mem_of_mem_erase hy)
theorem zju {p:Pl} {c:Cs} (h:Wf p c) (w d:Str) (z:Option Str):(doDeed p w d z c).told.length<=c.told.length+42:=by
 unfold Co.doDeed
 split
 ·exact zm5 h w
 ·split
  ·show (tell _ _ _).told.length<=_
   rw[z23]
   show c.told.length+1<=_
   omega
  ·split
   ·rw[z23]
    show c.told.length+1<=_
    omega
   ·rw[z23]
    show c.told.length+1<=_
    omega
theorem zgq {p:Pl} {c:Cs} {k:Cd} {z:Option Str} (ha:against p k "shunt" z c=none):z.getD ""∉c.shunts/\c.mode="off"/\kindOf p (z.getD "")≠"day":=by
 have hu:z2x p "shunt" z c≠true:=by
  intro q
  unfold against at ha
  rw[q] at ha
  by_cases hr:(if ("shunt":Str)="free" then ("shunt":Str) else "shunt")∈k.rights
  ·rw[if_neg (fun q=>q hr),if_pos rfl] at ha
   cases ha
  ·rw[if_pos hr] at ha
   cases ha
 unfold z2x at hu
 rw[if_neg z44] at hu
 by_cases hm:c.mode="off"
 ·rw[if_neg (fun q=>q hm),if_pos rfl] at hu
  simp at hu
  exact⟨hu.2,hm,hu.1⟩
 ·rw[if_pos hm] at hu
  exact absurd rfl hu
theorem Wf.takeRight {p:Pl} {c:Cs} (h:Wf p c) (k:Cd) {d:Str} {z:Option Str} (hd:d="set"\/d="unset"\/d="shunt"\/d="free") (hz:okZ p d z):Wf p (takeRight p k d z c):=by
 unfold Co.takeRight
 split
 next e =>
  refine (h.add _).doDeed _ (zns hd hz e) fun q=>?_
  subst q
  exact (zgq e).1
 ·exact h.tell _ _
theorem zef {p:Pl} {c:Cs} (h:Wf p c) (k:Cd) (d:Str) (z:Option Str):(takeRight p k d z c).told.length<=c.told.length+42:=by
 unfold Co.takeRight
 split
 ·exact zju (h.add k.fig) _ _ _
 ·rw[z23];omega
theorem Wf.code {p:Pl} {c:Cs} (h:Wf p c) (f:Str) {d:Str} {z:Option Str} (hd:d="set"\/d="unset"\/d="shunt"\/d="free") (hz:okZ p d z):Wf p (code p f d z c):=by
 unfold Co.code
 split
 ·exact h.tell _ _
 ·split
  ·exact h.takeWrong
  ·split
   ·exact h.takeWrong
   ·exact (h.tri 0).takeRight _ hd hz
theorem zp3 {p:Pl} {c:Cs} (h:Wf p c) (f d:Str) (z:Option Str):(code p f d z c).told.length<=c.told.length+42:=by
 have:=zee p c
 unfold Co.code
 split
 ·rw[z23];omega
 ·split
  ·omega
  ·split
   ·omega
   ·exact zef (h.tri 0) _ _ _
theorem zye {p:Pl} {z w:Str} (he:okE p (.line z w)):okS w:=by
 rcases he.2 with rfl|rfl|rfl
 ·exact z02 "shut"
 ·exact z02 "open"
 ·exact z02 "cut"
theorem Wf.happen {p:Pl} {c:Cs} (h:Wf p c) {e:Et} (he:okE p e):Wf p (happen p c e):=by
 cases e with
 | line z w=>exact h.line he.1 (zye he)
 | code f d z=>exact h.code f he.2.1 he.2.2
 | ticks n=>exact h.ticks n
theorem ze0 {p:Pl} {c:Cs} (h:Wf p c) (e:Et):(happen p c e).told.length<=c.told.length+50:=by
 cases e with
 | line z w=>have:=znz p z w c;show (line p z w c).told.length<=_;omega
 | code f d z=>have:=zp3 h f d z;show (code p f d z c).told.length<=_;omega
 | ticks n=>have:=zlf h n;show (ticks p n c).told.length<=_;omega
def run (p:Pl) (c:Cs) (es:List Et):Cs:=es.foldl (happen p) c
def fresh (c:Cs):Cs:={ c with past:=0,told:=[] }
theorem Wf.fresh {p:Pl} {c:Cs} (h:Wf p c):Wf p (fresh c):=⟨h.zn,h.cn,h.zl,h.mo,h.ca,h.cm,h.ln,h.lo,h.us,h.sh,h.al⟩
theorem Wf.run {p:Pl}:∀{es:List Et} {c:Cs},Wf p c->(∀e∈es,okE p e)->Wf p (run p c es)
 | [],_,h,_=>h
 | e::es,c,h,he=>Wf.run (es:=es) (h.happen (he e y0f)) fun y hy=>he y (y05 _ hy)
theorem zg2 {p:Pl}:∀{es:List Et} {c:Cs},Wf p c->(∀e∈es,okE p e)->(run p c es).told.length<=c.told.length+50*es.length
 | [],_,_,_=>y0p _
 | e::es,c,h,he=>by
  have h1:=zg2 (es:=es) (h.happen (he e y0f)) fun y hy=>he y (y05 _ hy)
  have h2:=ze0 h e
  show (run p (happen p c e) es).told.length<=_
  simp only[y0w]
  omega
noncomputable def encS (c:Cs):T:=.tuple [.str c.mode,.int c.left,oS c.came,.tuple (c.lines.map fun l=>.str l.2),.tuple (c.shunts.map .str),.int c.siren,.tuple (c.alarms.map .str),.int c.tries,.int c.locked,.tuple (c.used.map fun u=>.int u.2)]
theorem zrw:∀(ks:List Str) (l:List (Str×Str)),l.map (·.1)=ks->zipD (ks.map .str) (l.map fun l=>.str l.2)=some (dS l)
 | [],[],_=>rfl
 | [],_::_,h=>by cases h
 | _::_,[],h=>by cases h
 | k::ks,x::l,h=>by
  simp at h
  simp[zipD,z60,zrw ks l h.2,dS,h.1]
theorem zrx:∀(ks:List Str) (l:List (Str×Int)),l.map (·.1)=ks->zipD (ks.map .str) (l.map fun l=>.int l.2)=some (dI l)
 | [],[],_=>rfl
 | [],_::_,h=>by cases h
 | _::_,[],h=>by cases h
 | k::ks,x::l,h=>by
  simp at h
  simp[zipD,z60,zrx ks l h.2,dI,h.1]
theorem zhp {l:List Str} (h:l.Nodup):(l.map (Sum.inr:Str->D.Key)).Nodup:=by
 rw[List.nodup_iff_pairwise_ne,List.pairwise_map]
 exact (List.nodup_iff_pairwise_ne.mp h).imp fun q e=>q (Sum.inr.inj e)
theorem zuj (l:List (Str×Str)):(dS l).map (·.1)=(l.map (·.1)).map Sum.inr:=by simp[dS,y17]
theorem zuk (l:List (Str×Int)):(dI l).map (·.1)=(l.map (·.1)).map Sum.inr:=by simp[dI,y17]
theorem zl6 {α:Type} (enc:α->T) (g:α->T) (caps:Ev) (ts:List α) (s0:Option Sl) (h:∀a∈ts,(op2 oIx (nm 0) (cst (.int 0))) (some (.imm (enc a))::caps)=some (g a)):z5r (gNm 0) (cstT true) (op2 oIx (nm 0) (cst (.int 0))) (ts.map enc) (s0::caps)=some (ts.map g):=by
 have:=zfk (cc:=cstT true) (ee:=op2 oIx (nm 0) (cst (.int 0))) (caps:=caps) enc (fun _=>true) g ts s0 fun a ha=>⟨rfl,fun _=>h a ha⟩
 rw[List.filter_eq_self.mpr (fun _ _=>rfl)] at this
 exact this
theorem zuo (p:Pl) (c:Cs) (h:Wf p c) (hp:Wp p):z28 [.obj .lent 0 [],.imm (encP p),.imm (encS c)]=some (.none,encC p (fresh c)):=by
 have hz:=h.zl
 have hc:=hp.cl
 have c1:=zl6 encZ (fun z=>.str z.1) [] p.zones none fun z hz=>by simp! [sp2,encZ]
 have c2:=zl6 z1m (fun z=>.str z.fig) [] p.codes none fun z hz=>by simp! [sp2,z1m]
 have z1:=zrw (p.zones.map (·.1)) c.lines h.ln
 have z2:=zrx (p.codes.map (·.fig)) c.used h.us
 rw[y2p] at z1 z2
 have b1:p.zones.length<=big:=by unfold big;omega
 have b2:p.codes.length<=big:=by unfold big;omega
 have n1:((dS c.lines).map (·.1)).Nodup/\(dS c.lines).length<=1000/\∀t∈(p.zones.map fun z=>y1z z.1),(z60 t).isSome=true:=by
  refine⟨?_,?_,?_⟩
  ·rw[zuj,h.ln];exact zhp hp.zd
  ·have:=congrArg List.length h.ln
   simp[dS] at *
   omega
  ·intro t ht
   obtain⟨z,_,rfl⟩:=y0n.mp ht
   rfl
 have n2:((dI c.used).map (·.1)).Nodup/\(dI c.used).length<=1000/\∀t∈(p.codes.map fun z=>y1z z.fig),(z60 t).isSome=true:=by
  refine⟨?_,?_,?_⟩
  ·rw[zuk,h.us];exact zhp hp.cd
  ·have:=congrArg List.length h.us
   simp[dI] at *
   omega
  ·intro t ht
   obtain⟨z,_,rfl⟩:=y0n.mp ht
   rfl
 have b0:(0<=big)=True:=by simp
 simp only[y17] at z1 z2
 simp only[z28,z6v,runM,z58]
 simp! [sp4,encP,encS,zmf,zf1,c1,c2,b1,b2,z1,z2]
 rw[if_pos n1]
 simp! [sp4,zf1,zmf,c1,c2,b1,b2,z1,z2]
 rw[if_pos ⟨n2.1,n2.2.1,fun a ha=>rfl⟩]
 simp! [sp4,encC,fresh,encP]
theorem zkf (p:Pl) (c:Cs) (m:Md) (h:Wf p c):z1x [.obj m 0 (encC p c)]=some (encS c):=by
 have h1:=h.shLen
 have h2:=h.alLen
 have b1:c.shunts.length<=big:=by unfold big;omega
 have b2:c.alarms.length<=big:=by unfold big;omega
 simp! [sp1,z1x,z9l,zor,z31,b1,b2,zkb,encS,dS,dI,y17]
theorem zkm (p:Pl) (hp:Wp p):∀(es:List Et) (c:Cs) (s0 s1 s2 s4:Option Sl),Wf p c->(∀e∈es,okE p e)->c.told.length+50*es.length+60<big->∃s4',forL (gNm 4) (exX (z0k 0 z1a 3 [(nmV 4)])) (es.map encE) [s0,s1,s2,some (.obj .own 0 (encC p c)),s4]=some (.nx [s0,s1,s2,some (.obj .own 0 (encC p (run p c es))),s4'])
 | [],c,s0,s1,s2,s4,_,_,_=>⟨s4,by simp[forL,run]⟩
 | e::es,c,s0,s1,s2,s4,h,he,ht=>by
  have hee:=he e y0f
  simp only[y0w] at ht
  have ea:=zok p c e h hp hee (by omega)
  have:=ze0 h e
  obtain⟨s1',ih⟩:=zkm p hp es (happen p c e) s0 s1 s2 (some (.imm (encE e))) (h.happen hee) (fun y hy=>he y (y05 _ hy)) (by omega)
  refine⟨s1',?_⟩
  rw[y0e,forL]
  simp! [sp4,ea]
  simpa [runF,seq,iff,tstB,tstL,andT,orT,notT,cstT,ofT,op1,op2,opN,args,cst,nm,nmV,rtn,skip,asg,asgN,asgT,par,z09,z3j,oIsN,z6d,oIx,atZ,ixOf,gNm,gTu,gAll,z3v,comp,z4f,run] using ih
theorem z69 (p:Pl) (c:Cs) (es:List Et) (h:Wf p c) (hp:Wp p) (he:∀e∈es,okE p e) (hl:es.length<=1000):z1c [encP p,encS c,.tuple (es.map encE)]=some (.obj .own 0 (encC p (run p (fresh c) es))):=by
 have ei:=zuo p c h hp
 have hb:(fresh c).told.length=0:=rfl
 have b2:(60000<big):=by decide
 obtain⟨s4',el⟩:=zkm p hp es (fresh c) (some (.imm (encP p))) (some (.imm (encS c))) (some (.imm (.tuple (es.map encE)))) none h.fresh he (by omega)
 simp only[z1c,za5,runO]
 simp! [sp4,asgO,newO,ei,for_,rtnO]
 rw[el]
 simp[rtnO,ownS]
theorem zrt (p:Pl) (c:Cs) (es:List Et) (h:Wf p c) (hp:Wp p) (he:∀e∈es,okE p e) (hl:es.length<=1000):z7g [encP p,encS c,.tuple (es.map encE)]=some (encS (run p (fresh c) es)):=by
 have e1_:=z69 p c es h hp he hl
 have e2_:=zkf p (run p (fresh c) es) .ro (h.fresh.run he)
 simp! [sp2,z7g,zpj,zem,ofO,e1_,z8f,e2_]
theorem zke (p:Pl) (c:Cs) (es:List Et) (h:Wf p c) (hp:Wp p) (he:∀e∈es,okE p e) (hl:es.length<=1000):z7f [encP p,encS c,.tuple (es.map encE)]=some (.tuple ((run p (fresh c) es).told.map encW)):=by
 have e1_:=z69 p c es h hp he hl
 have hb:=zg2 h.fresh he
 have b2:(60000<big):=by decide
 have h0:(fresh c).told.length=0:=rfl
 have b1:(run p (fresh c) es).told.length<=big:=by omega
 simp! [sp2,z7f,zph,zem,zbi,e1_,z8f,e12,z31,b1]
noncomputable def z07 (p:Pl):Cs:={ mode:="off",left:=0,came:=none,lines:=p.zones.map fun z=>(z.1,"shut"),shunts:=[],siren:=0,alarms:=[],tries:=0,locked:=0,used:=p.codes.map fun k=>(k.fig,0),past:=0,told:=[] }
theorem zce (p:Pl) (hz:p.zones.length<=40) (hp:Wp p):z33 [encP p]=some (encS (z07 p)):=by
 have hc:=hp.cl
 have b1:p.zones.length<=big:=by unfold big;omega
 have b2:p.codes.length<=big:=by unfold big;omega
 have c1:=zfk (cc:=cstT true) (ee:=cst (.str "shut")) (caps:=[]) encZ (fun _=>true) (fun _=>.str "shut") p.zones none fun a ha=>⟨rfl,fun _=>rfl⟩
 have c2:=zfk (cc:=cstT true) (ee:=cst (.int 0)) (caps:=[]) z1m (fun _=>true) (fun _=>.int 0) p.codes none fun a ha=>⟨rfl,fun _=>rfl⟩
 rw[List.filter_eq_self.mpr (fun _ _=>rfl)] at c1 c2
 simp! [sp2,z33,zpi,encP,z31,b1,b2,c1,c2,zkb,encS,z07,oS,y17]
end Co
end
section
namespace Co
open D PySem
local instance:Tbl:=⟨[],fun _=>[],fun _=>none⟩
theorem zv7 (ns:List Int) (k:Nat):z3k [z0n ns,.int k]=some (.int (ns.getD k 0)):=by
 by_cases h:k<ns.length
 ·have h':(k:Int)<(ns.length:Int):=by omega
  simp! [sp6,z3k,za4,z0n,h,h',List.getD]
 ·have h':¬(k:Int)<(ns.length:Int):=by omega
  simp! [sp6,z3k,za4,z0n,h,h',List.getD]
theorem zdf {i j:Int} (h:-(2 ^ 64)<j/\j<2 ^ 64):oMul (.int i) (.int j)=some (.int (i*j)):=by
 unfold oMul zqv
 simp only[decide_eq_true h.1,decide_eq_true h.2,Bool.and_self,Bool.or_true,if_true]
theorem zhu {i j:Int} (h:0<j):oMod (.int i) (.int j)=some (.int (i % j)):=if_pos h
theorem zx8 {i j:Int} (h:0<j/\j<1073741824):oDiv (.int i) (.int j)=some (.int (i / j)):=if_pos h
theorem z8q {i j:Int}:oAdd (.int i) (.int j)=some (.int (i+j)):=rfl
theorem z3x {a b:Fs} {ε ε':Ev} (h:a ε=some (.nx ε')):seq a b ε=b ε':=by
 unfold seq
 rw[h]
 rfl
theorem zgd (ns:List Int) (k:Nat):∃m:Int,0<=m/\z25 [z0n ns,.int k]=some (.int m):=by
 have hc:=zv7 ns k
 have hd:0<=(ns.getD k 0+7919*(k:Int)+1)*48271 % 2147483647/\(ns.getD k 0+7919*(k:Int)+1)*48271 % 2147483647<2147483647:=⟨y2l _ (by decide),y2m _ (by decide)⟩
 generalize hx:(ns.getD k 0+7919*(k:Int)+1)*48271 % 2147483647=d at hd
 refine⟨(d*d+7*d+k) % 2147483629,y2l _ (by decide),?_⟩
 have e0:z25 [z0n ns,.int k]=(ze9 [some (.imm (z0n ns)),some (.imm (.int k)),none]).bind fun o=>match o with|.rt t=>some t|.nx _=>some .none|_=>none:=rfl
 have m1:oMul (.int 7919) (.int k)=some (.int (7919*k)):=by
  unfold oMul zqv
  simp
 have n0:nmV 0 [some (.imm (z0n ns)),some (.imm (.int k)),none]=some (z0n ns):=rfl
 have n1:nmV 1 [some (.imm (z0n ns)),some (.imm (.int k)),none]=some (.int k):=rfl
 have n1':nm 1 [some (.imm (z0n ns)),some (.imm (.int k)),none]=some (.int k):=rfl
 have s1:asg 2 (op2 oMod (op2 oMul (op2 oAdd (op2 oAdd (opN z3k [(nmV 0),(nmV 1)]) (op2 oMul (cst (.int 7919)) (nm 1))) (cst (.int 1))) (cst (.int 48271))) (cst (.int 2147483647))) [some (.imm (z0n ns)),some (.imm (.int k)),none]=some (.nx [some (.imm (z0n ns)),some (.imm (.int k)),some (.imm (.int d))]):=by
  simp only[asg,op2,opN,args,n0,n1,n1',y0q,y1t,hc,cst,m1,z8q,zdf (i:=ns.getD k 0+7919*(k:Int)+1) (j:=48271) (by decide),zhu (j:=2147483647) (by decide),hx]
  rfl
 have m2:oMul (.int d) (.int d)=some (.int (d*d)):=zdf (by omega)
 have m3:oMul (.int 7) (.int d)=some (.int (7*d)):=zdf (by omega)
 rw[e0]
 unfold ze9
 rw[z3x s1]
 have q2:nm 2 [some (.imm (z0n ns)),some (.imm (.int k)),some (.imm (.int d))]=some (.int d):=rfl
 have q1:nm 1 [some (.imm (z0n ns)),some (.imm (.int k)),some (.imm (.int d))]=some (.int k):=rfl
 simp only[rtn,op2,q2,q1,y0q,y1t,cst,m2,m3,z8q,zhu (j:=2147483629) (by decide)]
theorem zgl (n k:Int) (hk:-(2 ^ 64)<k/\k<2 ^ 64):∃m:Int,0<=m/\z39 [.int n,.int k]=some (.int m):=by
 have hd:0<=(n+104729*k+17)*69621 % 2147483647/\(n+104729*k+17)*69621 % 2147483647<2147483647:=⟨y2l _ (by decide),y2m _ (by decide)⟩
 generalize hx:(n+104729*k+17)*69621 % 2147483647=d at hd
 refine⟨(d*d+3*d+k) % 2147483629,y2l _ (by decide),?_⟩
 have e0:z39 [.int n,.int k]=(zea [some (.imm (.int n)),some (.imm (.int k)),none]).bind fun o=>match o with|.rt t=>some t|.nx _=>some .none|_=>none:=rfl
 have m1:oMul (.int 104729) (.int k)=some (.int (104729*k)):=zdf hk
 have n0:nm 0 [some (.imm (.int n)),some (.imm (.int k)),none]=some (.int n):=rfl
 have n1:nm 1 [some (.imm (.int n)),some (.imm (.int k)),none]=some (.int k):=rfl
 have s1:asg 2 (op2 oMod (op2 oMul (op2 oAdd (op2 oAdd (nm 0) (op2 oMul (cst (.int 104729)) (nm 1))) (cst (.int 17))) (cst (.int 69621))) (cst (.int 2147483647))) [some (.imm (.int n)),some (.imm (.int k)),none]=some (.nx [some (.imm (.int n)),some (.imm (.int k)),some (.imm (.int d))]):=by
  simp only[asg,op2,n0,n1,y0q,y1t,cst,m1,z8q,zdf (i:=n+104729*k+17) (j:=69621) (by decide),zhu (j:=2147483647) (by decide),hx]
  rfl
 have m2:oMul (.int d) (.int d)=some (.int (d*d)):=zdf (by omega)
 have m3:oMul (.int 3) (.int d)=some (.int (3*d)):=zdf (by omega)
 rw[e0]
 unfold zea
 rw[z3x s1]
 have q2:nm 2 [some (.imm (.int n)),some (.imm (.int k)),some (.imm (.int d))]=some (.int d):=rfl
 have q1:nm 1 [some (.imm (.int n)),some (.imm (.int k)),some (.imm (.int d))]=some (.int k):=rfl
 simp only[rtn,op2,q2,q1,y0q,y1t,cst,m2,m3,z8q,zhu (j:=2147483629) (by decide)]
theorem z5m (a b:Int):oEq (.int a) (.int b)=some (.bool (decide (a=b))):=by
 unfold oEq
 rw[zd4,zd4]
 by_cases e:a=b <;> simp[y24,e]
theorem divQ (m:Int) (j:Int) (h:0<j/\j<1073741824:=by decide):∃q,q=m / j/\oDiv (.int m) (.int j)=some (.int q):=⟨_,rfl,zx8 h⟩
theorem modQ (m:Int) (j:Int) (h:0<j:=by decide):∃q,q=m % j/\0<=q/\q<j/\oMod (.int m) (.int j)=some (.int q):=⟨_,rfl,y2l _ (by omega),y2m _ h,zhu h⟩
theorem ixT {ts:List T} {j:Int} (h0:0<=j) (h1:j<ts.length):∃t∈ts,oIx (.tuple ts) (.int j)=some t:=by
 have hj:j.toNat<ts.length:=by omega
 refine⟨ts[j.toNat],List.getElem_mem hj,?_⟩
 simp only[oIx,atZ,ixOf,if_pos h0,if_pos h1,y0q]
 exact y0v hj
theorem ixS (ss:List Str) {j:Int} (h0:0<=j) (h1:j<ss.length):∃s∈ss,oIx (.tuple (ss.map .str)) (.int j)=some (.str s):=by
 obtain⟨t,ht,e⟩:=ixT (ts:=ss.map .str) h0 (by simpa using h1)
 obtain⟨s,hs,rfl⟩:=y0n.mp ht
 exact⟨s,hs,e⟩
theorem ixI (ss:List Int) {j:Int} (h0:0<=j) (h1:j<ss.length):∃s∈ss,oIx (.tuple (ss.map .int)) (.int j)=some (.int s):=by
 obtain⟨t,ht,e⟩:=ixT (ts:=ss.map .int) h0 (by simpa using h1)
 obtain⟨s,hs,rfl⟩:=y0n.mp ht
 exact⟨s,hs,e⟩
theorem zjq:(5<=big)=True:=by simp[big]
theorem zbk:(4<=big)=True:=by simp[big]
theorem z4p:(3<=big)=True:=by simp[big]
theorem zmx:(6<=big)=True:=by simp[big]
theorem zrf:(8<=big)=True:=by simp[big]
theorem zhm:(1<=big)=True:=by simp[big]
noncomputable def bZ:Fs:=(seq (asg 4 (op2 oDiv (opN z39 [(nmV 0),(nmV 2)]) (cst (.int 4))))
  (iff (orT (tstB (op2 oLt (op2 oMod (nm 4) (cst (.int 8))) (op2 oAdd (cst (.int 3)) (op2 oMod (nm 0) (cst (.int 5)))))) (tstB (op2 oEq (nm 2) (op2 oMod (op2 oDiv (nm 0) (cst (.int 8))) (cst (.int 8)))))) (asg 1 (op2 oAdd (nm 1) (z09 [(z09 [(nmV 3),(op2 oIx (z09 [(cst (.str "day")),(cst (.str "inner")),(cst (.str "once")),(cst (.str "way")),(cst (.str "way"))]) (op2 oMod (op2 oDiv (nm 4) (cst (.int 8))) (cst (.int 5))))])]))) skip))
def encK (x:Int×Str):T:=.tuple [.int x.1,.str x.2]
def kinds:List Str:=["day","inner","once","way","way"]
theorem zci (n:Int):∀(l:List (Int×Str)) (acc:List (Str×Str)) (s2 s3 s4:Option Sl),(∀x∈l,0<=x.1/\x.1<100)->acc.length+l.length<=20->∃zs s2' s3' s4',(zs.map (·.1)).Sublist (l.map (·.2))/\(∀z∈zs,z.2∈kinds)/\((∃x∈l,x.1=n / 8 % 8)->zs≠[]) /\
  forL (gTu [(gNm 2),(gNm 3)]) bZ (l.map encK) [some (.imm (.int n)),some (.imm (.tuple (acc.map encZ))),s2,s3,s4,none,none,none,none,none]=some (.nx [some (.imm (.int n)),some (.imm (.tuple ((acc++zs).map encZ))),s2',s3',s4',none,none,none,none,none])
 | [],acc,s2,s3,s4,_,_=>⟨[],s2,s3,s4,.refl _,by simp,by simp,by simp[forL]⟩
 | x::l,acc,s2,s3,s4,hx,hl=>by
  obtain⟨m,hm,e1_⟩:=zgl n x.1 (by have:=hx x y0f;omega)
  obtain⟨q,hq,e2_⟩:=divQ m 4
  obtain⟨r,_,_,_,e3_⟩:=modQ q 8
  obtain⟨r',_,_,_,e4_⟩:=modQ n 5
  obtain⟨q1,hq1,e5_⟩:=divQ n 8
  obtain⟨r1,hr1,_,_,e6_⟩:=modQ q1 8
  obtain⟨q2,hq2,e7_⟩:=divQ q 8
  obtain⟨r2,_,h0,h1,e8_⟩:=modQ q2 5
  obtain⟨s,hs,e9_⟩:=ixS kinds h0 h1
  simp only[kinds,y0e,y1a] at e9_
  simp only[y0w] at hl
  have b1:acc.length+1<=big:=by unfold big;omega
  have hx':∀y∈l,0<=y.1/\y.1<100:=fun y hy=>hx y (y05 _ hy)
  by_cases hc:r<3+r'\/x.1=r1
  ·obtain⟨zs,s2',s3',s4',i1,i2,i3,i4⟩:=zci n l (acc++[(x.2,s)]) (some (.imm (.int x.1))) (some (.imm (.str x.2))) (some (.imm (.int q))) hx' (by simp;omega)
   refine⟨(x.2,s)::zs,s2',s3',s4',by simpa using i1,fun z hz=>?_,fun _=>by simp,?_⟩
   ·rcases y09.mp hz with rfl|hz
    ·exact hs
    ·exact i2 z hz
   ·rw[y0e,forL]
    have:bZ [some (.imm (.int n)),some (.imm (.tuple (acc.map encZ))),some (.imm (.int x.1)),some (.imm (.str x.2)),s4,none,none,none,none,none]=some (.nx [some (.imm (.int n)),some (.imm (.tuple ((acc++[(x.2,s)]).map encZ))),some (.imm (.int x.1)),some (.imm (.str x.2)),some (.imm (.int q)),none,none,none,none,none]):=by
     by_cases hc':r<3+r'
     ·simp! [sp9,bZ,e1_,e2_,e3_,e4_,e5_,e6_,e7_,e8_,e9_,z8q,oLt,hc',oAdd,b1,zjq,z7q,zhm,encZ]
     ·have e10_:oEq (.int x.1) (.int r1)=some (.bool true):=by rw[z5m,decide_eq_true (hc.resolve_left hc')]
      simp! [sp9,bZ,e1_,e2_,e3_,e4_,e5_,e6_,e7_,e8_,e9_,z8q,oLt,hc',e10_,oAdd,b1,zjq,z7q,zhm,encZ]
    simp only[encK,gTu,gAll,gNm,y0q,y1m,y1j,this]
    simpa using i4
  ·obtain⟨zs,s2',s3',s4',i1,i2,i3,i4⟩:=zci n l acc (some (.imm (.int x.1))) (some (.imm (.str x.2))) (some (.imm (.int q))) hx' (by omega)
   refine⟨zs,s2',s3',s4',i1.cons _,i2,fun⟨y,hy,e⟩=>i3 ?_,?_⟩
   ·rcases y09.mp hy with rfl|hy
    ·exact absurd (.inr (by rw[e,hr1,hq1])) hc
    ·exact⟨y,hy,e⟩
   ·rw[y0e,forL]
    have:bZ [some (.imm (.int n)),some (.imm (.tuple (acc.map encZ))),some (.imm (.int x.1)),some (.imm (.str x.2)),s4,none,none,none,none,none]=some (.nx [some (.imm (.int n)),some (.imm (.tuple (acc.map encZ))),some (.imm (.int x.1)),some (.imm (.str x.2)),some (.imm (.int q)),none,none,none,none,none]):=by
     have h1':¬r<3+r':=fun z=>hc (.inl z)
     have h2':¬x.1=r1:=fun z=>hc (.inr z)
     simp! [sp9,bZ,e1_,e2_,e3_,e4_,e5_,e6_,e7_,e8_,e9_,z8q,oLt,h1',h2',z5m]
    simp only[encK,gTu,gAll,gNm,y0q,y1m,y1j,this]
    exact i4
theorem rng3:rng 0 3=[.int 0,.int 1,.int 2]:=by simp[rng,List.range_succ]
def cR:Ft:=tstB (op2 oGt (op2 oMod (op2 oDiv (nm 1) (op2 oIx (z09 [(cst (.int 4)),(cst (.int 16)),(cst (.int 64))]) (nm 0))) (cst (.int 4))) (cst (.int 0)))
def eR:Fe:=op2 oIx (z09 [(cst (.str "set")),(cst (.str "shunt")),(cst (.str "unset"))]) (nm 0)
def zg4:List Str:=["set","shunt","unset"]
theorem zn6 (q:Int) (ε:Ev) (h:(ε[4]?).join=some (.imm (.int q))):∃rs:List Str,rs.Sublist zg4/\comp 1 [4] (z7u (cst (.int 3))) (gNm 0) cR eR ε=some (.list (rs.map .str)):=by
 have key:∀j j':Int,oIx (.tuple [.int 4,.int 16,.int 64]) (.int j)=some (.int j')->0<j'->j'<1073741824->∃b,cR [some (.imm (.int j)),some (.imm (.int q))]=some b:=by
  intro j j' h1 h2 h3
  obtain⟨q1,_,e1_⟩:=divQ q j' ⟨h2,h3⟩
  obtain⟨r1,_,_,_,e2_⟩:=modQ q1 4
  exact⟨decide (0<r1),by simp! [sp9,cR,h1,e1_,e2_,oGt,z4p]⟩
 obtain⟨b0,k0⟩:=key 0 4 (by simp[oIx,atZ,ixOf]) (by decide) (by decide)
 obtain⟨b1,k1⟩:=key 1 16 (by simp[oIx,atZ,ixOf]) (by decide) (by decide)
 obtain⟨b2,k2⟩:=key 2 64 (by simp[oIx,atZ,ixOf]) (by decide) (by decide)
 have r0:eR [some (.imm (.int 0)),some (.imm (.int q))]=some (.str "set"):=by simp! [sp2,eR,z4p]
 have r1:eR [some (.imm (.int 1)),some (.imm (.int q))]=some (.str "shunt"):=by simp! [sp2,eR,z4p]
 have r2:eR [some (.imm (.int 2)),some (.imm (.int q))]=some (.str "unset"):=by simp! [sp2,eR,z4p]
 have c0:comp 1 [4] (z7u (cst (.int 3))) (gNm 0) cR eR ε=(z5r (gNm 0) cR eR [.int 0,.int 1,.int 2] [none,some (.imm (.int q))]).map .list:=by
  have s3:zb6 3=true:=by decide
  simp[comp,z7u,cst,s3,rng3,z4f,h,z4p]
 rw[c0]
 cases b0 <;> cases b1 <;> cases b2
 ·exact⟨[],by simp,by simp[z5r,gNm,k0,k1,k2]⟩
 ·exact⟨["unset"],by decide,by simp[z5r,gNm,k0,k1,k2,r0,r1,r2]⟩
 ·exact⟨["shunt"],by decide,by simp[z5r,gNm,k0,k1,k2,r0,r1,r2]⟩
 ·exact⟨["shunt","unset"],by decide,by simp[z5r,gNm,k0,k1,k2,r0,r1,r2]⟩
 ·exact⟨["set"],by decide,by simp[z5r,gNm,k0,k1,k2,r0,r1,r2]⟩
 ·exact⟨["set","unset"],by decide,by simp[z5r,gNm,k0,k1,k2,r0,r1,r2]⟩
 ·exact⟨["set","shunt"],by decide,by simp[z5r,gNm,k0,k1,k2,r0,r1,r2]⟩
 ·exact⟨["set","shunt","unset"],by decide,by simp[z5r,gNm,k0,k1,k2,r0,r1,r2]⟩
noncomputable def bC:Fs:=(seq (asg 4 (op2 oDiv (opN z39 [(nmV 0),(op2 oAdd (cst (.int 10)) (nm 2))]) (cst (.int 4))))
  (iff (orT (tstB (op2 oGt (op2 oMod (nm 4) (cst (.int 3))) (cst (.int 0)))) (tstB (op2 oEq (nm 2) (cst (.int 1))))) (seq (asg 7 (opN z31 [(comp 1 [4] (z7u (cst (.int 3))) (gNm 0) cR eR)]))
  (seq (asg 8 (op2 oIx (z09 [(cst (.str "ann")),(cst (.str "bo")),(cst (.str "cy"))]) (op2 oMod (op2 oDiv (nm 4) (cst (.int 256))) (cst (.int 3)))))
  (asg 5 (op2 oAdd (nm 5) (z09 [(z09 [(nmV 6),(nmV 8),(nmV 7),(op2 oIx (z09 [(cst (.int 0)),(cst (.int 0)),(cst (.int 1)),(cst (.int 2)),(cst (.int 9))]) (op2 oMod (op2 oDiv (nm 4) (cst (.int 1024))) (cst (.int 5))))])]))))) skip))
def whos:List Str:=["ann","bo","cy"]
theorem zbl (n:Int) (s1 s3:Option Sl):∀(l:List (Int×Str)) (acc:List Cd) (s2 s4 s6 s7 s8:Option Sl),(∀x∈l,0<=x.1/\x.1<100)->acc.length+l.length<=20->∃ks s2' s4' s6' s7' s8',(ks.map (·.fig)).Sublist (l.map (·.2))/\(∀k∈ks,k.who∈whos/\k.rights.Sublist zg4/\k.uses∈([0,0,1,2,9]:List Int))/\((∃x∈l,x.1=1)->ks≠[]) /\
  forL (gTu [(gNm 2),(gNm 6)]) bC (l.map encK) [some (.imm (.int n)),s1,s2,s3,s4,some (.imm (.tuple (acc.map z1m))),s6,s7,s8,none]=some (.nx [some (.imm (.int n)),s1,s2',s3,s4',some (.imm (.tuple ((acc++ks).map z1m))),s6',s7',s8',none])
 | [],acc,s2,s4,s6,s7,s8,_,_=>⟨[],s2,s4,s6,s7,s8,.refl _,by simp,by simp,by simp[forL]⟩
 | x::l,acc,s2,s4,s6,s7,s8,hx,hl=>by
  obtain⟨m,hm,e1_⟩:=zgl n (10+x.1) (by have:=hx x y0f;omega)
  obtain⟨q,hq,e2_⟩:=divQ m 4
  obtain⟨r,_,_,_,e3_⟩:=modQ q 3
  obtain⟨q1,hq1,e5_⟩:=divQ q 256
  obtain⟨r1,hr1,h0,h1,e6_⟩:=modQ q1 3
  obtain⟨q2,hq2,e7_⟩:=divQ q 1024
  obtain⟨r2,_,h2,h3,e8_⟩:=modQ q2 5
  obtain⟨s,hs,e9_⟩:=ixS whos h0 h1
  obtain⟨u,hu,e10_⟩:=ixI [0,0,1,2,9] h2 h3
  simp only[whos,y0e,y1a] at e9_ e10_
  simp only[y0w] at hl
  have b1:acc.length+1<=big:=by unfold big;omega
  have hx':∀y∈l,0<=y.1/\y.1<100:=fun y hy=>hx y (y05 _ hy)
  obtain⟨rs,hrs,e11_⟩:=zn6 q [some (.imm (.int n)),s1,some (.imm (.int x.1)),s3,some (.imm (.int q)),some (.imm (.tuple (acc.map z1m))),some (.imm (.str x.2)),s7,s8,none] rfl
  by_cases hc:0<r\/x.1=1
  ·obtain⟨ks,s2',s4',s6',s7',s8',i1,i2,i3,i4⟩:=zbl n s1 s3 l (acc++[(⟨x.2,s,rs,u⟩:Cd)]) (some (.imm (.int x.1))) (some (.imm (.int q))) (some (.imm (.str x.2))) (some (.imm (.tuple (rs.map .str)))) (some (.imm (.str s))) hx' (by simp;omega)
   refine⟨⟨x.2,s,rs,u⟩::ks,s2',s4',s6',s7',s8',by simpa using i1,fun z hz=>?_,fun _=>by simp,?_⟩
   ·rcases y09.mp hz with rfl|hz
    ·exact⟨hs,hrs,hu⟩
    ·exact i2 z hz
   ·rw[y0e,forL]
    have:bC [some (.imm (.int n)),s1,some (.imm (.int x.1)),s3,s4,some (.imm (.tuple (acc.map z1m))),some (.imm (.str x.2)),s7,s8,none]=some (.nx [some (.imm (.int n)),s1,some (.imm (.int x.1)),s3,some (.imm (.int q)),some (.imm (.tuple ((acc++[(⟨x.2,s,rs,u⟩:Cd)]).map z1m))),some (.imm (.str x.2)),some (.imm (.tuple (rs.map .str))),some (.imm (.str s)),none]):=by
     have s1':asg 4 (op2 oDiv (opN z39 [(nmV 0),(op2 oAdd (cst (.int 10)) (nm 2))]) (cst (.int 4))) [some (.imm (.int n)),s1,some (.imm (.int x.1)),s3,s4,some (.imm (.tuple (acc.map z1m))),some (.imm (.str x.2)),s7,s8,none]=some (.nx [some (.imm (.int n)),s1,some (.imm (.int x.1)),s3,some (.imm (.int q)),some (.imm (.tuple (acc.map z1m))),some (.imm (.str x.2)),s7,s8,none]):=by
      simp! [sp9,z8q,e1_,e2_]
     have s2':asg 7 (opN z31 [(comp 1 [4] (z7u (cst (.int 3))) (gNm 0) cR eR)]) [some (.imm (.int n)),s1,some (.imm (.int x.1)),s3,some (.imm (.int q)),some (.imm (.tuple (acc.map z1m))),some (.imm (.str x.2)),s7,s8,none]=some (.nx [some (.imm (.int n)),s1,some (.imm (.int x.1)),s3,some (.imm (.int q)),some (.imm (.tuple (acc.map z1m))),some (.imm (.str x.2)),some (.imm (.tuple (rs.map .str))),s8,none]):=by
      simp only[asg,opN,args,e11_,y0q,y1t,z31]
      rfl
     unfold bC
     rw[z3x s1']
     have ct:orT (tstB (op2 oGt (op2 oMod (nm 4) (cst (.int 3))) (cst (.int 0)))) (tstB (op2 oEq (nm 2) (cst (.int 1)))) [some (.imm (.int n)),s1,some (.imm (.int x.1)),s3,some (.imm (.int q)),some (.imm (.tuple (acc.map z1m))),some (.imm (.str x.2)),s7,s8,none]=some true:=by
      by_cases hc':0<r
      ·simp! [sp9,e3_,oGt,hc']
      ·have e12_:oEq (.int x.1) (.int 1)=some (.bool true):=by rw[z5m,decide_eq_true (hc.resolve_left hc')]
       simp! [sp9,e3_,oGt,hc',e12_]
     simp only[iff,ct,y0q,if_true]
     rw[z3x s2']
     simp! [sp9,e3_,e5_,e6_,e7_,e8_,e9_,e10_,oAdd,b1,zjq,zbk,z4p,zhm,z1m]
    simp only[encK,gTu,gAll,gNm,y0q,y1m,y1j,this]
    simpa using i4
  ·obtain⟨ks,s2',s4',s6',s7',s8',i1,i2,i3,i4⟩:=zbl n s1 s3 l acc (some (.imm (.int x.1))) (some (.imm (.int q))) (some (.imm (.str x.2))) s7 s8 hx' (by omega)
   refine⟨ks,s2',s4',s6',s7',s8',i1.cons _,i2,fun⟨y,hy,e⟩=>i3 ?_,?_⟩
   ·rcases y09.mp hy with rfl|hy
    ·exact absurd (.inr e) hc
    ·exact⟨y,hy,e⟩
   ·rw[y0e,forL]
    have:bC [some (.imm (.int n)),s1,some (.imm (.int x.1)),s3,s4,some (.imm (.tuple (acc.map z1m))),some (.imm (.str x.2)),s7,s8,none]=some (.nx [some (.imm (.int n)),s1,some (.imm (.int x.1)),s3,some (.imm (.int q)),some (.imm (.tuple (acc.map z1m))),some (.imm (.str x.2)),s7,s8,none]):=by
     have h1':¬0<r:=fun z=>hc (.inl z)
     have e12_:oEq (.int x.1) (.int 1)=some (.bool false):=by rw[z5m,decide_eq_false fun z=>hc (.inr z)]
     simp! [sp9,bC,e1_,e2_,e3_,z8q,oGt,h1',e12_]
    simp only[encK,gTu,gAll,gNm,y0q,y1m,y1j,this]
    exact i4
def zN:List (Int×Str):=[(0,"a"),(1,"b"),(2,"back"),(3,"d"),(4,"hall"),(5,"r"),(6,"win"),(7,"z")]
def cN:List (Int×Str):=[(0,"0000"),(1,"1234"),(2,"4321"),(3,"7777"),(4,"9990"),(5,"9999")]
structure DP (p:Pl):Prop where
 zs:(p.zones.map (·.1)).Sublist (zN.map (·.2))
 zk:∀z∈p.zones,z.2∈kinds
 z0:p.zones≠[]
 cs:(p.codes.map (·.fig)).Sublist (cN.map (·.2))
 ck:∀k∈p.codes,k.who∈whos/\k.rights.Sublist zg4/\k.uses∈([0,0,1,2,9]:List Int)
 c0:p.codes≠[]
 tl:p.leave∈([0,5,30,60]:List Int)
 tc:p.come∈([0,4,20,60]:List Int)
 to:p.loud∈([1,9,120,300]:List Int)
theorem ztw (n:Int):∃p,DP p/\zcd [.int n]=some (encP p):=by
 obtain⟨zs,s2,s3,s4,i1,i2,i3,i4⟩:=zci n zN [] none none none (by decide) (by decide)
 have hz0:zs≠[]:=i3 (by
  have h1:0<=n / 8 % 8:=y2l _ (by decide)
  have h2:n / 8 % 8<8:=y2m _ (by decide)
  generalize n / 8 % 8=r at h1 h2
  have:r=0\/r=1\/r=2\/r=3\/r=4\/r=5\/r=6\/r=7:=by omega
  rcases this with rfl|rfl|rfl|rfl|rfl|rfl|rfl|rfl
  ·exact⟨(0,"a"),by simp[zN],rfl⟩
  ·exact⟨(1,"b"),by simp[zN],rfl⟩
  ·exact⟨(2,"back"),by simp[zN],rfl⟩
  ·exact⟨(3,"d"),by simp[zN],rfl⟩
  ·exact⟨(4,"hall"),by simp[zN],rfl⟩
  ·exact⟨(5,"r"),by simp[zN],rfl⟩
  ·exact⟨(6,"win"),by simp[zN],rfl⟩
  ·exact⟨(7,"z"),by simp[zN],rfl⟩)
 obtain⟨ks,t2,t4,t6,t7,t8,j1,j2,j3,j4⟩:=zbl n (some (.imm (.tuple (zs.map encZ)))) s3 cN [] s2 s4 none none none (by decide) (by decide)
 have hk0:ks≠[]:=j3 ⟨(1,"1234"),by simp[cN],rfl⟩
 obtain⟨m,hm,e1_⟩:=zgl n 20 (by decide)
 obtain⟨q,hq,e2_⟩:=divQ m 4
 obtain⟨r,_,a0,a1,e3_⟩:=modQ q 4
 obtain⟨q1,hq1,e4_⟩:=divQ q 4
 obtain⟨r1,_,b0,b1,e5_⟩:=modQ q1 4
 obtain⟨q2,hq2,e6_⟩:=divQ q 16
 obtain⟨r2,_,c0,c1,e7_⟩:=modQ q2 4
 obtain⟨u,hu,e8_⟩:=ixI [0,5,30,60] a0 a1
 obtain⟨v,hv,e9_⟩:=ixI [0,4,20,60] b0 b1
 obtain⟨w,hw,e10_⟩:=ixI [1,9,120,300] c0 c1
 simp only[y0e,y1a] at e8_ e9_ e10_
 refine⟨⟨zs,ks,u,v,w⟩,⟨i1,i2,hz0,j1,j2,hk0,hu,hv,hw⟩,?_⟩
 have f1:for_ (z7v (z7a (z09 [(cst (.str "a")),(cst (.str "b")),(cst (.str "back")),(cst (.str "d")),(cst (.str "hall")),(cst (.str "r")),(cst (.str "win")),(cst (.str "z"))]))) (gTu [(gNm 2),(gNm 3)]) bZ [some (.imm (.int n)),some (.imm (.tuple [])),none,none,none,none,none,none,none,none]=some (.nx [some (.imm (.int n)),some (.imm (.tuple (zs.map encZ))),s2,s3,s4,none,none,none,none,none]):=by
  have:(z7v (z7a (z09 [(cst (.str "a")),(cst (.str "b")),(cst (.str "back")),(cst (.str "d")),(cst (.str "hall")),(cst (.str "r")),(cst (.str "win")),(cst (.str "z"))]))) [some (.imm (.int n)),some (.imm (.tuple [])),none,none,none,none,none,none,none,none]=some (zN.map encK):=by
   simp[z7v,z7a,z09,args,cst,zrf,enum,zN,encK,List.zipIdx]
  unfold for_
  rw[this]
  exact i4
 have f2:for_ (z7v (z7a (z09 [(cst (.str "0000")),(cst (.str "1234")),(cst (.str "4321")),(cst (.str "7777")),(cst (.str "9990")),(cst (.str "9999"))]))) (gTu [(gNm 2),(gNm 6)]) bC [some (.imm (.int n)),some (.imm (.tuple (zs.map encZ))),s2,s3,s4,some (.imm (.tuple [])),none,none,none,none]=some (.nx [some (.imm (.int n)),some (.imm (.tuple (zs.map encZ))),t2,s3,t4,some (.imm (.tuple (ks.map z1m))),t6,t7,t8,none]):=by
  have:(z7v (z7a (z09 [(cst (.str "0000")),(cst (.str "1234")),(cst (.str "4321")),(cst (.str "7777")),(cst (.str "9990")),(cst (.str "9999"))]))) [some (.imm (.int n)),some (.imm (.tuple (zs.map encZ))),s2,s3,s4,some (.imm (.tuple [])),none,none,none,none]=some (cN.map encK):=by
   simp[z7v,z7a,z09,args,cst,zmx,enum,cN,encK,List.zipIdx]
  unfold for_
  rw[this]
  exact j4
 show runF (seq (asg 1 (z09 [])) (seq (for_ (z7v (z7a (z09 [(cst (.str "a")),(cst (.str "b")),(cst (.str "back")),(cst (.str "d")),(cst (.str "hall")),(cst (.str "r")),(cst (.str "win")),(cst (.str "z"))]))) (gTu [(gNm 2),(gNm 3)]) bZ)
  (seq (asg 5 (z09 [])) (seq (for_ (z7v (z7a (z09 [(cst (.str "0000")),(cst (.str "1234")),(cst (.str "4321")),(cst (.str "7777")),(cst (.str "9990")),(cst (.str "9999"))]))) (gTu [(gNm 2),(gNm 6)]) bC) _)))) 10 [.int n]=_
 unfold runF
 have g0:seq (asg 1 (z09 []))=fun b=>seq (asg 1 (z09 [])) b:=rfl
 have h1:asg 1 (z09 []) [some (.imm (.int n)),none,none,none,none,none,none,none,none,none]=some (.nx [some (.imm (.int n)),some (.imm (.tuple [])),none,none,none,none,none,none,none,none]):=by simp[asg,z09,args]
 have h5:asg 5 (z09 []) [some (.imm (.int n)),some (.imm (.tuple (zs.map encZ))),s2,s3,s4,none,none,none,none,none]=some (.nx [some (.imm (.int n)),some (.imm (.tuple (zs.map encZ))),s2,s3,s4,some (.imm (.tuple [])),none,none,none,none]):=by simp[asg,z09,args]
 show (seq _ _ [some (.imm (.int n)),none,none,none,none,none,none,none,none,none]).bind _=_
 rw[z3x h1,z3x f1,z3x h5,z3x f2]
 simp! [sp9,e1_,e2_,e3_,e4_,e5_,e6_,e7_,e8_,e9_,e10_,zbk,z4p,encP]
theorem DP.zl {p:Pl} (h:DP p):p.zones.length<=8:=by simpa [zN] using h.zs.length_le
theorem DP.cl {p:Pl} (h:DP p):p.codes.length<=6:=by simpa [cN] using h.cs.length_le
theorem z65 {l:List Str} (h:l.all (fun x=>(y1z x).canLay0)=true:=by decide +kernel) {x:Str} (hx:x∈l):okS x:=List.all_eq_true.mp h x hx
theorem DP.wp {p:Pl} (h:DP p):Wp p:=by
 refine⟨?_,?_,?_,?_⟩
 ·exact h.cs.nodup (by decide +kernel)
 ·exact h.zs.nodup (by decide +kernel)
 ·have:=h.cl
  omega
 ·have h1:=h.tl
  have h2:=h.tc
  have h3:=h.to
  simp at h1 h2 h3
  omega
theorem DP.okz {p:Pl} (h:DP p):∀z∈p.zones,okS z.1/\okS z.2:=fun z hz=>⟨z65 (l:=zN.map (·.2)) (hx:=h.zs.subset (y0n.mpr ⟨z,hz,rfl⟩)),z65 (l:=kinds) (hx:=h.zk z hz)⟩
theorem DP.okc {p:Pl} (h:DP p):∀k∈p.codes,okS k.fig/\okS k.who/\∀r∈k.rights,okS r:=fun k hk=>⟨z65 (l:=cN.map (·.2)) (hx:=h.cs.subset (y0n.mpr ⟨k,hk,rfl⟩)),z65 (l:=whos) (hx:=(h.ck k hk).1),fun r hr=>z65 (l:=zg4) (hx:=(h.ck k hk).2.1.subset hr)⟩
theorem DP.begun {p:Pl} (h:DP p):Wf p (z07 p):=by
 refine⟨h.okz,h.okc,?_,z02 "off",fun z e=>(nomatch e),fun e=>absurd e z68,?_,?_,?_,by simp[z07],by simp[z07]⟩
 ·have:=h.zl
  omega
 ·simp[z07,y17]
 ·intro l hl
  obtain⟨z,_,rfl⟩:=y0n.mp hl
  exact z02 "shut"
 ·simp[z07,y17]
end Co
end
section
namespace Co
open D PySem
theorem ix_z (p:Pl):oIx (encP p) (.int 0)=some (.tuple (p.zones.map encZ)):=by simp[oIx,atZ,ixOf,encP]
theorem ix_c (p:Pl):oIx (encP p) (.int 1)=some (.tuple (p.codes.map z1m)):=by simp[oIx,atZ,ixOf,encP]
theorem zr4 (z:Str×Str):oIx (encZ z) (.int 0)=some (.str z.1):=by simp[oIx,atZ,ixOf,encZ]
theorem zyg (k:Cd):oIx (z1m k) (.int 0)=some (.str k.fig):=by simp[oIx,atZ,ixOf,z1m]
theorem modL (m:Int) {l:List T} (h:l≠[]):∃q:Int,0<=q/\q<l.length/\oMod (.int m) (.int l.length)=some (.int q):=by
 have hl:0<(l.length:Int):=by
  have:=List.length_pos_iff.mpr h
  omega
 obtain⟨q,_,h1,h2,e⟩:=modQ m l.length hl
 exact⟨q,h1,h2,e⟩
def zlz:List Str:=["0000","1234","4321","7777","9990","9999","0001","1111","5555"]
noncomputable def DE (p:Pl):Et->Prop
 | .line z w=>z∈p.zones.map (·.1)/\w∈(["shut","open","open","cut"]:List Str)
 | .code f d z=>f∈zlz/\(((d="set"\/d="unset")/\z=none)\/((d="shunt"\/d="free")/\∃x,z=some x/\x∈p.zones.map (·.1)))
 | .ticks n=>1<=n/\n<=1000000000
theorem DE.ok {p:Pl} {e:Et} (h:DE p e):okE p e:=by
 cases e with
 | line z w =>
  obtain⟨h1,h2⟩:=h
  simp at h2
  exact⟨h1,h2⟩
 | ticks n=>exact h.1
 | code f d z =>
  obtain⟨h1,h2⟩:=h
  refine⟨z65 (l:=zlz) (hx:=h1),?_,?_⟩
  ·rcases h2 with ⟨h2|h2,_⟩|⟨h2|h2,_⟩
   ·exact .inl h2
   ·exact .inr (.inl h2)
   ·exact .inr (.inr (.inl h2))
   ·exact .inr (.inr (.inr h2))
  ·intro hd
   rcases h2 with ⟨h2|h2,_⟩|⟨_,h3⟩
   ·rcases hd with hd|hd
    ·exact absurd (h2.symm.trans hd) z9x
    ·exact absurd (h2.symm.trans hd) z8w
   ·rcases hd with hd|hd
    ·exact absurd (h2.symm.trans hd) z76
    ·exact absurd (h2.symm.trans hd) z67
   ·exact h3
theorem zre {p:Pl} (h:DP p) (n:Int):∃e,DE p e/\z5q [encP p,.int n]=some (encE e):=by
 obtain⟨q1,_,e1_⟩:=divQ n 8
 obtain⟨i,i0,i1,e2_⟩:=modL (l:=p.zones.map encZ) q1 (by simpa using h.z0)
 obtain⟨t,ht,e3_⟩:=ixT i0 i1
 obtain⟨z,hz,rfl⟩:=y0n.mp ht
 have hz1:z.1∈p.zones.map (·.1):=y0n.mpr ⟨z,hz,rfl⟩
 obtain⟨k,_,_,_,e4_⟩:=modQ n 10
 obtain⟨q2,_,e5_⟩:=divQ n 512
 obtain⟨r2,_,j0,j1,e6_⟩:=modQ q2 4
 obtain⟨w,hw,e7_⟩:=ixS ["shut","open","open","cut"] j0 j1
 obtain⟨f',hf',e8_⟩:=ixS ["0001","1111","9999","0000"] j0 j1
 obtain⟨q3,_,e9_⟩:=divQ n 64
 obtain⟨q4,_,e10_⟩:=divQ n 4096
 obtain⟨r4,_,k0,k1,e11_⟩:=modQ q4 3
 obtain⟨u,hu,e12_⟩:=ixI [3,40,200] k0 k1
 have hu':0<u/\u<=200:=by
  simp at hu
  omega
 obtain⟨r3,_,l0,l1,e13_⟩:=modQ q3 u hu'.1
 obtain⟨i',i0',i1',e14_⟩:=modL (l:=p.codes.map z1m) q3 (by simpa using h.c0)
 obtain⟨t',ht',e15_⟩:=ixT i0' i1'
 obtain⟨c,hc,rfl⟩:=y0n.mp ht'
 have hcf:c.fig∈zlz:=by
  have:=h.cs.subset (y0n.mpr ⟨c,hc,rfl⟩)
  simp[cN,zlz] at this ⊢
  rcases this with q|q|q|q|q|q <;> simp[q]
 obtain⟨q5,_,e16_⟩:=divQ n 65536
 obtain⟨r5,_,_,_,e17_⟩:=modQ q5 4
 obtain⟨r6,_,m0,m1,e18_⟩:=modQ q4 6
 obtain⟨d,hd,e19_⟩:=ixS ["set","set","unset","shunt","free","shunt"] m0 m1
 simp only[y0e,y1a] at e7_ e8_ e12_ e19_
 simp only[y14] at e2_ e14_
 have L1:oLen [.tuple (p.zones.map encZ)]=some (.int p.zones.length):=by simp[oLen]
 have L2:oLen [.tuple (p.codes.map z1m)]=some (.int p.codes.length):=by simp[oLen]
 simp only[z5q,ziw,runF,y0e,y1a,y0w,y2j,y0h,y2o,y2n]
 by_cases h1:k<5
 ·exact⟨.line z.1 w,⟨hz1,hw⟩,by simp! [sp9,ix_z,zr4,e1_,L1,e2_,e3_,e4_,oLt,h1,e5_,e6_,e7_,zbk,z4p,encE]⟩
 ·by_cases h2:k<7
  ·exact⟨.ticks (1+r3),⟨by omega,by omega⟩,by simp! [sp9,ix_z,zr4,e1_,L1,e2_,e3_,e4_,oLt,h1,h2,e9_,e10_,e11_,e12_,e13_,z8q,z4p,z7q,encE]⟩
  ·have od:okS d:=z65 (l:=["set","set","unset","shunt","free","shunt"]) (hx:=hd)
   have qi:=zap false (n:=d) (ns:=["set","unset"]) od (by
    intro k hk
    exact z65 (l:=["set","unset"]) (hx:=hk))
   simp only[y0e,y1a] at qi
   obtain⟨f,hf,ef⟩:∃f∈zlz,(iff (tstB (op2 oEq (op2 oMod (op2 oDiv (nm 1) (cst (.int 65536))) (cst (.int 4))) (cst (.int 0)))) (asg 4 (op2 oIx (z09 [(cst (.str "0001")),(cst (.str "1111")),(cst (.str "9999")),(cst (.str "0000"))]) (op2 oMod (op2 oDiv (nm 1) (cst (.int 512))) (cst (.int 4))))) skip) [some (.imm (encP p)),some (.imm (.int n)),some (.imm (.str z.1)),some (.imm (.int k)),some (.imm (.str c.fig)),none]=some (.nx [some (.imm (encP p)),some (.imm (.int n)),some (.imm (.str z.1)),some (.imm (.int k)),some (.imm (.str f)),none]):=by
    by_cases h3:r5=0
    ·refine⟨f',?_,by simp! [sp9,e16_,e17_,z5m,h3,e5_,e6_,e8_,zbk]⟩
     simp[zlz] at hf' ⊢
     rcases hf' with q|q|q|q <;> simp[q]
    ·exact⟨c.fig,hcf,by simp! [sp9,e16_,e17_,z5m,h3]⟩
   have sA:∀X:Fs,iff (tstB (op2 oLt (nm 3) (cst (.int 5)))) X skip [some (.imm (encP p)),some (.imm (.int n)),some (.imm (.str z.1)),some (.imm (.int k)),none,none]=some (.nx [some (.imm (encP p)),some (.imm (.int n)),some (.imm (.str z.1)),some (.imm (.int k)),none,none]):=fun X=>by simp! [sp9,oLt,h1]
   have sB:∀X:Fs,iff (tstB (op2 oLt (nm 3) (cst (.int 7)))) X skip [some (.imm (encP p)),some (.imm (.int n)),some (.imm (.str z.1)),some (.imm (.int k)),none,none]=some (.nx [some (.imm (encP p)),some (.imm (.int n)),some (.imm (.str z.1)),some (.imm (.int k)),none,none]):=fun X=>by simp! [sp9,oLt,h2]
   have sC:asg 4 (op2 oIx (op2 oIx (op2 oIx (nm 0) (cst (.int 1))) (op2 oMod (op2 oDiv (nm 1) (cst (.int 64))) (opN oLen [(op2 oIx (nm 0) (cst (.int 1)))]))) (cst (.int 0))) [some (.imm (encP p)),some (.imm (.int n)),some (.imm (.str z.1)),some (.imm (.int k)),none,none]=some (.nx [some (.imm (encP p)),some (.imm (.int n)),some (.imm (.str z.1)),some (.imm (.int k)),some (.imm (.str c.fig)),none]):=by simp! [sp9,ix_c,L2,e9_,e14_,e15_,zyg]
   by_cases h4:d="set"\/d="unset"
   ·refine⟨.code f d none,⟨hf,.inl ⟨h4,rfl⟩⟩,?_⟩
    have qi':oIn false (.str d) (.tuple [.str "set",.str "unset"])=some (.bool true):=by
     rw[qi]
     simp[h4]
    have pre:∀B:Fs,(seq (asg 2 (op2 oIx (op2 oIx (op2 oIx (nm 0) (cst (.int 0))) (op2 oMod (op2 oDiv (nm 1) (cst (.int 8))) (opN oLen [(op2 oIx (nm 0) (cst (.int 0)))]))) (cst (.int 0)))) (seq (asg 3 (op2 oMod (nm 1) (cst (.int 10)))) B)) [some (.imm (encP p)),some (.imm (.int n)),none,none,none,none]=B [some (.imm (encP p)),some (.imm (.int n)),some (.imm (.str z.1)),some (.imm (.int k)),none,none]:=by
     intro B
     simp! [sp9,ix_z,zr4,e1_,L1,e2_,e3_,e4_]
    rw[pre]
    rw[z3x (sA _),z3x (sB _),z3x sC,z3x ef]
    simp! [sp9,e10_,e18_,e19_,zmx,z7q,qi',zbk,encE,oS]
   ·refine⟨.code f d (some z.1),⟨hf,.inr ⟨?_,z.1,rfl,hz1⟩⟩,?_⟩
    ·simp at hd
     rcases hd with q|q|q|q|q
     ·exact absurd (.inl q) h4
     ·exact absurd (.inr q) h4
     ·exact .inl q
     ·exact .inr q
     ·exact .inl q
    have qi':oIn false (.str d) (.tuple [.str "set",.str "unset"])=some (.bool false):=by
     rw[qi]
     simp at h4
     simp[h4]
    have pre:∀B:Fs,(seq (asg 2 (op2 oIx (op2 oIx (op2 oIx (nm 0) (cst (.int 0))) (op2 oMod (op2 oDiv (nm 1) (cst (.int 8))) (opN oLen [(op2 oIx (nm 0) (cst (.int 0)))]))) (cst (.int 0)))) (seq (asg 3 (op2 oMod (nm 1) (cst (.int 10)))) B)) [some (.imm (encP p)),some (.imm (.int n)),none,none,none,none]=B [some (.imm (encP p)),some (.imm (.int n)),some (.imm (.str z.1)),some (.imm (.int k)),none,none]:=by
     intro B
     simp! [sp9,ix_z,zr4,e1_,L1,e2_,e3_,e4_]
    rw[pre]
    rw[z3x (sA _),z3x (sB _),z3x sC,z3x ef]
    simp! [sp9,e10_,e18_,e19_,zmx,z7q,qi',zbk,encE,oS]
end Co
end
section
namespace Co
open D PySem
def shW (k:Int) (w:Int×Str×Option Str):Int×Str×Option Str:=(k+w.1,w.2)
def sh (k:Int) (pre:List (Int×Str×Option Str)) (c:Cs):Cs:={ c with past:=k+c.past,told:=pre++c.told.map (shW k) }
section
variable (k:Int) (pre:List (Int×Str×Option Str)) (p:Pl)
theorem z5j (w:Str) (n:Option Str) (c:Cs):tell w n (sh k pre c)=sh k pre (tell w n c):=by simp[tell,sh,shW]
theorem zcg (z:Str) (c:Cs):alarm p z (sh k pre c)=sh k pre (alarm p z c):=by
 by_cases h:z∈c.alarms <;> simp[alarm,sh,h,tell,beLoud,shW]
theorem zj0:∀(zs:List Str) (c:Cs),alarms p zs (sh k pre c)=sh k pre (alarms p zs c)
 | [],c=>rfl
 | z::zs,c=>by
  show alarms p zs (alarm p z (sh k pre c))=_
  rw[zcg,zj0 zs]
  rfl
theorem zp2 (z x:Str) (c:Cs):comeIn p z x (sh k pre c)=sh k pre (comeIn p z x c):=by
 unfold comeIn
 by_cases h:x≠"way"\/p.come<=0
 ·rw[if_pos h,if_pos h,zcg]
 ·rw[if_neg h,if_neg h,<- z5j]
  rfl
theorem zm6 (z w:Str) (c:Cs):disturb p z w (sh k pre c)=sh k pre (disturb p z w c):=by
 have hm:(sh k pre c).mode=c.mode:=rfl
 unfold disturb
 rw[hm,zcg,z5j,zp2]
 repeat' split
 all_goals rfl
theorem zug (z w:Str) (c:Cs):line p z w (sh k pre c)=sh k pre (line p z w c):=by
 show (if w=z6p c z then sh k pre c else if w="shut" then (if z6p c z="cut" then tell "mended" (some z) (sh k pre { c with lines:=setL c.lines z w }) else sh k pre { c with lines:=setL c.lines z w })
  else if z∈c.shunts then sh k pre { c with lines:=setL c.lines z w } else disturb p z w (sh k pre { c with lines:=setL c.lines z w }))=sh k pre (line p z w c)
 unfold line
 rw[z5j,zm6]
 repeat' split
 all_goals rfl
theorem z8k (n:Int) (c:Cs):z2l n (sh k pre c)=sh k pre (z2l n c):=by simp[z2l,sh,Int.add_assoc]
theorem zav (c:Cs):endLeaving p (sh k pre c)=sh k pre (endLeaving p c):=by
 show alarms p (bare p ["inner","way"] (tell "on" none { c with mode:="on",left:=0 })) (tell "on" none (sh k pre { c with mode:="on",left:=0 }))=_
 rw[z5j,zj0]
 rfl
theorem zib (c:Cs):endComing p (sh k pre c)=sh k pre (endComing p c):=by
 unfold endComing
 rw[<- zcg]
 rfl
theorem zm2 (c:Cs):endTime p (sh k pre c)=sh k pre (endTime p c):=by
 have hm:(sh k pre c).mode=c.mode:=rfl
 unfold endTime
 rw[hm,zav,zib]
 split <;> rfl
theorem zpv (n:Int) (c:Cs):ticks p n (sh k pre c)=sh k pre (ticks p n c):=by
 have hm:(sh k pre c).mode=c.mode:=rfl
 have hl:(sh k pre c).left=c.left:=rfl
 unfold ticks
 rw[hm,hl,z8k,zm2,z8k,z8k]
 repeat' split
 all_goals rfl
theorem zbq (c:Cs):takeWrong p (sh k pre c)=sh k pre (takeWrong p c):=by
 have ht:(sh k pre c).tries=c.tries:=rfl
 have h1:wrong1 (sh k pre c)=sh k pre (wrong1 c):=by simp[wrong1,tell,sh,shW]
 unfold takeWrong
 rw[ht,h1]
 split
 ·exact z5j k pre "attack" none (beLoud p { wrong1 c with tries:=0,locked:=90 })
 ·rfl
theorem zrh (w:Str) (c:Cs):doSet p w (sh k pre c)=sh k pre (doSet p w c):=by
 show (if p.leave<=0 then endLeaving p (tell "set" (some w) (sh k pre { c with alarms:=[],siren:=0,mode:="leaving",left:=p.leave })) else tell "set" (some w) (sh k pre { c with alarms:=[],siren:=0,mode:="leaving",left:=p.leave }))=sh k pre (if p.leave<=0 then _ else _)
 rw[z5j,zav]
 split <;> rfl
theorem zm4 (w:Str) (c:Cs):doUnset w (sh k pre c)=sh k pre (doUnset w c):=by
 unfold doUnset
 rw[<- z5j]
 rfl
theorem zox (w d:Str) (z:Option Str) (c:Cs):doDeed p w d z (sh k pre c)=sh k pre (doDeed p w d z c):=by
 show (if d="set" then doSet p w (sh k pre c) else if d="unset" then doUnset w (sh k pre c) else if d="shunt" then tell "shunt" z (sh k pre { c with shunts:=z81 (c.shunts++[z.getD ""]) }) else tell "free" z (sh k pre { c with shunts:=c.shunts.erase (z.getD "") }))=sh k pre (doDeed p w d z c)
 unfold doDeed
 rw[z5j,z5j,zrh,zm4]
 repeat' split
 all_goals rfl
theorem zgy (x:Cd) (d:Str) (z:Option Str) (c:Cs):takeRight p x d z (sh k pre c)=sh k pre (takeRight p x d z c):=by
 have h0:against p x d z (sh k pre c)=against p x d z c:=rfl
 unfold takeRight
 rw[h0]
 cases against p x d z c with
 | none=>exact zox k pre p _ _ _ { c with used:=addU c.used x.fig }
 | some wn=>exact z5j k pre _ _ _
theorem zv5 (f d:Str) (z:Option Str) (c:Cs):code p f d z (sh k pre c)=sh k pre (code p f d z c):=by
 have h0:(sh k pre c).locked=c.locked:=rfl
 unfold code
 rw[h0,z5j]
 split
 ·rfl
 ·cases zfm p f with
  | none=>exact zbq k pre p c
  | some x =>
   show (if zcm x c=true then takeWrong p (sh k pre c) else takeRight p x d z (sh k pre { c with tries:=0 }))=sh k pre (if zcm x c=true then _ else _)
   rw[zbq,zgy]
   split <;> rfl
theorem zoj (e:Et) (c:Cs):happen p (sh k pre c) e=sh k pre (happen p c e):=by
 cases e with
 | line z w=>exact zug k pre p z w c
 | code f d z=>exact zv5 k pre p f d z c
 | ticks n=>exact zpv k pre p n c
theorem zs5:∀(es:List Et) (c:Cs),run p (sh k pre c) es=sh k pre (run p c es)
 | [],c=>rfl
 | e::es,c=>by
  show run p (happen p (sh k pre c) e) es=_
  rw[zoj,zs5 es]
  rfl
end
theorem zq2 (c:Cs):c=sh c.past c.told (fresh c):=by simp[sh,fresh]
def zxn (c:Cs):Prop:=c.mode="leaving"\/c.mode="coming"
end Co
end
section
namespace Co
open D PySem
def okN (d:Nat) (t:T):Prop:=t.canLay0=true/\t.depth<=d
theorem okN.okT {d:Nat} {t:T} (h:okN d t) (hd:d<=60:=by decide):okT t=true:=by
 unfold D.okT
 rw[h.1,decide_eq_true (y1s h.2 hd)]
 rfl
theorem znr {d:Nat}:∀{ts:List T},(∀t∈ts,okN d t)->y1h ts=true/\y1f ts<=d
 | [],_=>by simp[y1h,y1f]
 | t::ts,h=>by
  obtain⟨h1,h2⟩:=znr fun x hx=>h x (y05 _ hx)
  obtain⟨h3,h4⟩:=h t y0f
  constructor
  ·rw[y1h,h3,h1]
   rfl
  ·rw[y1f]
   omega
theorem z10 {d:Nat} {ts:List T} (h:∀t∈ts,okN d t):okN (d+1) (.tuple ts):=by
 obtain⟨h1,h2⟩:=znr h
 constructor
 ·rw[PyData.canLay0];exact h1
 ·rw[y29];omega
theorem z74 (d:Nat) (n:Int):okN d (.int n):=⟨rfl,by rw[y29];omega⟩
theorem zkq (d:Nat):okN d .none:=⟨rfl,by rw[y29];omega⟩
theorem zqr (d:Nat) (b:Bool):okN d (.bool b):=⟨rfl,by rw[y29];omega⟩
theorem z2g (d:Nat) {x:Str} (h:okS x):okN d (.str x):=⟨h,by rw[y29];omega⟩
theorem zkp (d:Nat) {x:Option Str} (h:∀z,x=some z->okS z):okN d (oS x):=by
 cases x with
 | none=>exact zkq d
 | some z=>exact z2g d (h z rfl)
theorem z66 {d:Nat} {t:T} (h:okN d t) (hd:d<=60:=by decide):oNe t t=some (.bool false):=by
 unfold oNe
 rw[h.okT hd,PySem.SeqAt.eqv_refl t h.1]
 rfl
theorem zga {d:Nat} {t:T} (h:okN d t) (hd:d<=60:=by decide):oEq t t=some (.bool true):=by
 unfold oEq
 rw[h.okT hd,PySem.SeqAt.eqv_refl t h.1]
 rfl
theorem zkr {p:Pl} {c:Cs} (h:Wf p c):okN 2 (encS c):=by
 refine z10 fun t ht=>?_
 simp only[y09,y2e,or_false] at ht
 rcases ht with rfl|rfl|rfl|rfl|rfl|rfl|rfl|rfl|rfl|rfl
 ·exact z2g _ h.mo
 ·exact z74 _ _
 ·exact zkp _ fun z hz=>(h.ca z hz).1
 ·refine z10 (d:=0) fun t ht=>?_
  obtain⟨l,hl,rfl⟩:=y0n.mp ht
  exact z2g _ (h.lo l hl)
 ·refine z10 (d:=0) fun t ht=>?_
  obtain⟨l,hl,rfl⟩:=y0n.mp ht
  exact z2g _ (h.oksh l hl)
 ·exact z74 _ _
 ·refine z10 (d:=0) fun t ht=>?_
  obtain⟨l,hl,rfl⟩:=y0n.mp ht
  exact z2g _ (h.okal l hl)
 ·exact z74 _ _
 ·exact z74 _ _
 ·refine z10 (d:=0) fun t ht=>?_
  obtain⟨l,hl,rfl⟩:=y0n.mp ht
  exact z74 _ _
def Tw (c:Cs):Prop:=∀w∈c.told,okS w.2.1/\∀n,w.2.2=some n->okS n
theorem Tw.tell {c:Cs} (h:Tw c) {w:Str} {n:Option Str} (hw:okS w) (hn:∀x,n=some x->okS x):Tw (Co.tell w n c):=by
 intro x hx
 rcases y11.mp hx with q|q
 ·exact h x q
 ·simp at q
  subst q
  exact⟨hw,hn⟩
theorem Tw.alarm {p:Pl} {c:Cs} (h:Tw c) {z:Str} (hz:okS z):Tw (Co.alarm p z c):=by
 unfold Co.alarm
 split
 ·exact h
 ·exact Tw.tell (c:={ beLoud p c with alarms:=c.alarms++[z] }) h (z02 "alarm") fun x e=>y2i e▸hz
theorem Tw.alarms {p:Pl}:∀{zs:List Str} {c:Cs},Tw c->(∀z∈zs,okS z)->Tw (Co.alarms p zs c)
 | [],_,h,_=>h
 | z::zs,c,h,hz=>Tw.alarms (zs:=zs) (h.alarm (hz z y0f)) fun y hy=>hz y (y05 _ hy)
theorem Tw.comeIn {p:Pl} {c:Cs} (h:Tw c) {z k:Str} (hz:okS z):Tw (Co.comeIn p z k c):=by
 unfold Co.comeIn
 split
 ·exact h.alarm hz
 ·exact Tw.tell (c:={ c with mode:="coming",left:=p.come,came:=some z }) h (z02 "coming") fun x e=>y2i e▸hz
theorem Tw.disturb {p:Pl} {c:Cs} (h:Tw c) {z w:Str} (hz:okS z):Tw (Co.disturb p z w c):=by
 unfold Co.disturb
 repeat' split
 all_goals first|exact h.alarm hz|exact h.tell (z02 "fault") fun x e=>y2i e▸hz|exact h.comeIn hz|exact h
theorem Tw.line {p:Pl} {c:Cs} (h:Tw c) {z w:Str} (hz:okS z):Tw (Co.line p z w c):=by
 have h':Tw { c with lines:=setL c.lines z w }:=h
 unfold Co.line
 repeat' split
 all_goals first|exact h|exact h'|exact h'.tell (z02 "mended") fun x e=>y2i e▸hz|exact h'.disturb hz
theorem Tw.endLeaving {p:Pl} {c:Cs} (h:Tw c) (hw:Wf p c):Tw (Co.endLeaving p c) :=
 Tw.alarms (Tw.tell (c:={ c with mode:="on",left:=0 }) h (z02 "on") fun x e=>(nomatch e)) fun z hz=>hw.okz (zcf hz)
theorem Tw.endTime {p:Pl} {c:Cs} (h:Tw c) (hw:Wf p c) (hm:zxn c):Tw (Co.endTime p c):=by
 unfold Co.endTime
 split
 ·exact h.endLeaving hw
 next q =>
  obtain⟨z,hz⟩:=Option.ne_none_iff_exists'.mp (hw.cm (hm.resolve_left q))
  unfold Co.endComing
  rw[hz]
  exact Tw.alarm (c:={ c with mode:="on",came:=none }) h (hw.ca z hz).1
theorem Tw.ticks {p:Pl} {c:Cs} (h:Tw c) (hw:Wf p c) (n:Int):Tw (Co.ticks p n c):=by
 unfold Co.ticks
 split
 ·exact h
 ·split
  next q=>exact Tw.endTime (c:=z2l c.left c) h (hw.cd _) q.1
  ·exact h
theorem Tw.takeWrong {p:Pl} {c:Cs} (h:Tw c):Tw (Co.takeWrong p c):=by
 have h1:Tw (wrong1 c):=Tw.tell h (z02 "wrong") fun x e=>(nomatch e)
 unfold Co.takeWrong
 split
 ·exact Tw.tell (c:=beLoud p { wrong1 c with tries:=0,locked:=90 }) h1 (z02 "attack") fun x e=>(nomatch e)
 ·exact h1
theorem zmh {p:Pl} {c:Cs} (hw:Wf p c) {k:Cd} (hk:k∈p.codes) {d:Str} {z:Option Str} {x:Str×Str} (h:against p k d z c=some x):okS x.1/\okS x.2:=by
 have hwho:=(hw.cn k hk).2.1
 unfold against at h
 by_cases h1:(if d="free" then ("shunt":Str) else d)∈k.rights
 ·rw[if_neg (fun q=>q h1)] at h
  split at h
  ·cases h
   exact⟨z02 "no",hwho⟩
  ·split at h
   next q =>
    cases h
    refine⟨z02 "open",?_⟩
    have hb:=q.2
    cases e:bare p ["day","once"] c with
    | nil=>exact absurd e hb
    | cons b bs =>
     have:b∈bare p ["day","once"] c:=by rw[e];simp
     simpa using hw.okz (zcf this)
   ·cases h
 ·rw[if_pos h1] at h
  cases h
  exact⟨z02 "denied",hwho⟩
theorem Tw.doDeed {p:Pl} {c:Cs} (h:Tw c) (hw:Wf p c) {w d:Str} {z:Option Str} (how:okS w) (hz:okD p d z c):Tw (Co.doDeed p w d z c):=by
 rcases hz with rfl|rfl|⟨rfl,x,rfl,hx⟩|⟨rfl,x,rfl,hx⟩
 ·simp only[Co.doDeed,if_true]
  have h':Tw (Co.tell "set" (some w) { c with alarms:=[],siren:=0,mode:="leaving",left:=p.leave }):=Tw.tell (c:={ c with alarms:=[],siren:=0,mode:="leaving",left:=p.leave }) h (z02 "set") fun x e=>y2i e▸how
  show Tw (if p.leave<=0 then Co.endLeaving p (Co.tell "set" (some w) { c with alarms:=[],siren:=0,mode:="leaving",left:=p.leave }) else Co.tell "set" (some w) { c with alarms:=[],siren:=0,mode:="leaving",left:=p.leave })
  split
  ·exact h'.endLeaving ((hw.setAl p.leave).tell _ _)
  ·exact h'
 ·simp only[Co.doDeed,if_neg z77,if_true]
  exact Tw.tell (c:={ c with mode:="off",left:=0,siren:=0,came:=none,shunts:=[] }) h (z02 "unset") fun x e=>y2i e▸how
 ·simp only[Co.doDeed,if_neg z78,if_neg z44,if_true]
  exact Tw.tell (c:={ c with shunts:=z81 (c.shunts++[x]) }) h (z02 "shunt") fun y e=>y2i e▸hw.okz hx
 ·simp only[Co.doDeed,if_neg z8x,if_neg z4w,if_neg z4x]
  exact Tw.tell (c:={ c with shunts:=c.shunts.erase x }) h (z02 "free") fun y e=>y2i e▸hw.oksh x hx
theorem Tw.happen {p:Pl} {c:Cs} (h:Tw c) (hw:Wf p c) {e:Et} (he:okE p e):Tw (Co.happen p c e):=by
 cases e with
 | line z w=>exact h.line (hw.okz he.1)
 | ticks n=>exact h.ticks hw n
 | code f d z =>
  show Tw (Co.code p f d z c)
  unfold Co.code
  split
  ·exact h.tell (z02 "locked") fun x e=>(nomatch e)
  ·split
   ·exact h.takeWrong
   next k ek =>
    have hk:=zfl ek
    split
    ·exact h.takeWrong
    ·have w0:=hw.tri 0
     have h0:Tw { c with tries:=0 }:=h
     unfold Co.takeRight
     split
     next ea=>exact Tw.doDeed (c:={ c with tries:=0,used:=addU c.used k.fig }) h (w0.add k.fig) (hw.cn k hk).2.1 (zns he.2.1 he.2.2 ea)
     next ea =>
      have:=zmh w0 hk ea
      exact h0.tell this.1 fun x e=>y2i e▸this.2
theorem Tw.run {p:Pl}:∀{es:List Et} {c:Cs},Tw c->Wf p c->(∀e∈es,okE p e)->Tw (Co.run p c es)
 | [],_,h,_,_=>h
 | e::es,c,h,hw,he=>Tw.run (es:=es) (h.happen hw (he e y0f)) (hw.happen (he e y0f)) fun y hy=>he y (y05 _ hy)
theorem Tw.fresh (c:Cs):Tw (Co.fresh c):=fun w hw=>by cases hw
theorem zqq {c:Cs} (h:Tw c):okN 2 (.tuple (c.told.map encW)):=by
 refine z10 fun t ht=>?_
 obtain⟨w,hw,rfl⟩:=y0n.mp ht
 refine z10 fun t ht=>?_
 simp only[y09,y2e,or_false] at ht
 rcases ht with rfl|rfl|rfl
 ·exact z74 _ _
 ·exact z2g _ (h w hw).1
 ·exact zkp _ (h w hw).2
theorem zuq (p:Pl) (c:Cs) (e:Et) (h:Wf p c) (hp:Wp p) (he:okE p e):zig [encP p,encS c,encE e]=some (encS (happen p (fresh c) e)):=by
 have e1_:=z69 p c [e] h hp (by simpa using he) (by simp)
 have e2_:=zkf p (run p (fresh c) [e]) .ro (h.fresh.run (by simpa using he))
 simp only[y0e,y1a] at e1_
 simp! [sp9,zig,zt1,zem,ofO,zhm,e1_,z8f,e2_]
 rfl
def z8h (w:Int×Str×Option Str):T:=.tuple [.str w.2.1,oS w.2.2]
theorem zt0 (caps:Ev):∀(ws:List (Int×Str×Option Str)) (s0 s1 s2:Option Sl),z5r (gTu [(gNm 0),(gNm 1),(gNm 2)]) (cstT true) (z09 [(nmV 1),(nmV 2)]) (ws.map encW) (s0::s1::s2::caps)=some (ws.map z8h)
 | [],_,_,_=>rfl
 | w::ws,s0,s1,s2=>by
  have ih:=zt0 caps ws (some (.imm (.int w.1))) (some (.imm (.str w.2.1))) (some (.imm (oS w.2.2)))
  simp only[y0e,z5r,encW,gTu,gAll,gNm,y0q,y1j,y1m,cstT,if_true] at ih ⊢
  simp only[z09,args,nmV,y2h,y2g,y0q,y1t,y0w,y2j,z7q,if_true] at ih ⊢
  simp[z7q,z8h]
  simpa [encW,z8h] using ih
theorem zk8 (p:Pl) (c:Cs) (e:Et) (h:Wf p c) (hp:Wp p) (he:okE p e):z7e [encP p,encS c,encE e]=some (.tuple ((happen p (fresh c) e).told.map z8h)):=by
 have e1_:=z69 p c [e] h hp (by simpa using he) (by simp)
 have hb:=zg2 (es:=[e]) h.fresh (by simpa using he)
 have b2:(60000<big):=by decide
 have h0:(fresh c).told.length=0:=rfl
 have b1:(run p (fresh c) [e]).told.length<=big:=by simp at hb;omega
 have c3:=zt0 [] (run p (fresh c) [e]).told none none none
 simp only[y0e,y1a] at e1_
 simp! [sp9,z7e,zpg,zem,zbi,zhm,e1_,z8f,e12,b1]
 rw[c3]
 simp[z31]
 rfl
end Co
end
section
namespace Co
open D PySem
theorem z4c {i:Nat} {f:Fe} {b:Fs} {ε:Ev} {t:T} {r:Option Out} (h:f ε=some t) (h2:b (ε.set i (some (.imm t)))=r):seq (asg i f) b ε=r:=by
 rw[z3x (ε':=ε.set i (some (.imm t))),h2]
 unfold asg
 rw[h]
 rfl
theorem zky {c:Ft} {a b:Fs} {ε:Ev} {r:Option Out} (h:c ε=some false) (h2:b ε=r):seq (iff c a skip) b ε=r:=by
 rw[z3x (ε':=ε),h2]
 unfold iff
 rw[h]
 rfl
theorem z2a {a b:Fs} {ε ε':Ev} {r:Option Out} (h:a ε=some (.nx ε')) (h2:b ε'=r):seq a b ε=r:=by rw[z3x h,h2]
theorem denied {p:Pl} {c:Cs} {k:Cd} {d:Str} (hd:d="set"\/d="unset") (hr:d∉k.rights):takeRight p k d none c=tell "denied" (some k.who) c:=by
 have:against p k d none c=some (("denied":Str),k.who):=by
  rcases hd with rfl|rfl <;> simp[against,z8w,z67,hr]
 unfold takeRight
 rw[this]
theorem zqp (d:Nat) {w:Str} {n:Option Str} (hw:okS w) (hn:∀x,n=some x->okS x):okN (d+1) (.tuple [.str w,oS n]):=z10 fun x hx=>by
 simp only[y09,y2e,or_false] at hx
 rcases hx with rfl|rfl
 ·exact z2g _ hw
 ·exact zkp _ hn
theorem zff {c:Ft} {x y:Fs} {ε:Ev} {b:Bool} (h:c ε=some b):iff c x y ε=if b then x ε else y ε:=by
 unfold iff
 rw[h]
 rfl
end Co
end
section
namespace Co
open D PySem
theorem zp1 {α:Type} {enc x y g:α->T} {q:α->Bool} {cc:Ft} {ee:Fe} {caps:Ev} (he:∀a,enc a=.tuple [x a,y a]):∀(ts:List α) (s0 s1:Option Sl),(∀a∈ts,cc (some (.imm (x a))::some (.imm (y a))::caps)=some (q a)/\(q a=true->ee (some (.imm (x a))::some (.imm (y a))::caps)=some (g a)))->z5r (gTu [(gNm 0),(gNm 1)]) cc ee (ts.map enc) (s0::s1::caps)=some ((ts.filter q).map g)
 | [],_,_,_=>rfl
 | a::ts,s0,s1,h=>by
  have ih:=zp1 he ts (some (.imm (x a))) (some (.imm (y a))) fun b hb=>h b (y05 _ hb)
  obtain⟨h0,h1⟩:=h a (by simp)
  rw[y0e,z5r,he a]
  simp only[gTu,gAll,gNm,y0q,y1j,y1m,h0]
  cases hq:q a with
  | true=>simp only[if_true,h1 hq,y0q,ih,y1t,List.filter_cons,hq,y0e]
  | false=>simp only[y1w,if_false,ih,List.filter_cons,hq]
def z9v (p:Pl) (c:Cs):List Str:=((p.zones.zip c.lines).filter fun x=>!decide (x.2.2=("shut":Str))).map fun x=>x.1.1
theorem zki (p:Pl) (c:Cs) (h:Wf p c):z6e [encP p,encS c]=some (.tuple [.str c.mode,.bool (decide (c.siren > 0)),.tuple ((z9v p c).map .str)]):=by
 have hzl:(p.zones.zip c.lines).length<=big:=by
  have:=h.zl
  rw[List.length_zip]
  unfold big
  omega
 have zw:List.zipWith (fun x y=>PyData.tuple [x,y]) (p.zones.map encZ) (c.lines.map fun l=>.str l.2)=(p.zones.zip c.lines).map fun x=>.tuple [encZ x.1,.str x.2.2]:=by
  rw[List.zipWith_map,List.zip,List.map_zipWith]
 have hc:=zp1 (enc:=fun x:(Str×Str)×(Str×Str)=>.tuple [encZ x.1,.str x.2.2]) (x:=fun x=>encZ x.1) (y:=fun x=>.str x.2.2) (g:=fun x=>.str x.1.1) (q:=fun x=>!decide (x.2.2=("shut":Str))) (cc:=tstB (op2 oNe (nm 1) (cst (.str "shut")))) (ee:=op2 oIx (nm 0) (cst (.int 0))) (caps:=[]) (fun _=>rfl) (p.zones.zip c.lines) none none (fun x hx=>by
  have hx2:=(List.of_mem_zip hx).2
  have q:=z5l (h.lo _ hx2) (z02 "shut")
  refine⟨by simp! [sp9,q],fun _=>?_⟩
  simp! [sp2,encZ])
 have b:zjz [some (.imm (encP p)),some (.imm (encS c)),none]=some (.rt (.tuple [.str c.mode,.bool (decide (c.siren > 0)),.tuple ((z9v p c).map .str)])):=by
  unfold zjz
  refine z4c (t:=.list ((z9v p c).map .str)) ?_ ?_
  ·have it:zr5 (z7a (op2 oIx (nm 0) (cst (.int 0)))) (z7a (op2 oIx (nm 1) (cst (.int 3)))) [some (.imm (encP p)),some (.imm (encS c)),none]=some ((p.zones.zip c.lines).map fun x=>.tuple [encZ x.1,.str x.2.2]):=by
    rw[<- zw]
    rfl
   unfold comp
   rw[it]
   simp only[y0q,y14]
   rw[if_pos hzl]
   show (z5r _ _ _ _ [none,none]).map _=_
   rw[hc]
   simp[z9v,y17]
  simp only[y1m,y1j]
  simp! [sp2,encS,oGt,z31,z4p]
 unfold z6e runF
 simp only[y0e,y1a,y0w,y2j,y2o,y2n]
 exact congrArg (fun o=>Option.bind o _) b
theorem znq (d:Nat) {p:Pl} {c:Cs} (h:Wf p c) (b:Bool):okN (d+2) (.tuple [.str c.mode,.bool b,.tuple ((z9v p c).map .str)]):=z10 fun x hx=>by
 simp only[y09,y2e,or_false] at hx
 rcases hx with rfl|rfl|rfl
 ·exact z2g _ h.mo
 ·exact zqr _ _
 ·refine z10 fun x hx=>?_
  obtain⟨y,hy,rfl⟩:=y0n.mp hx
  obtain⟨w,hw,rfl⟩:=y0n.mp hy
  exact z2g _ (h.zn _ (List.of_mem_zip (List.mem_filter.mp hw).1).1).1
end Co
end
section
namespace Bo
open D Co
open PySem hiding run fresh code
local instance:Tbl:=⟨[],fun _=>[],fun _=>none⟩
def nxt (p:Pl) (c:Cs) (e:Et):Cs:=happen p (fresh c) e
def encB (p:Pl) (es:List Et) (pre:List Cs) (c:Cs):List Sl:=[.imm (encP p),.own (es.map encE),.own ((pre++[c]).map encS)]
def okB (p:Pl) (e:Et):Prop:=okE p e/\match e with
 | .code _ _ z=>∀x,z=some x->x∈p.zones.map (·.1)
 | _=>True
section
variable {p:Pl} {es:List Et} {pre:List Cs} {c:Cs} {md:Md}
theorem zum (xs:List T) (x:T):oIx (.list (xs++[x])) (.int (-1))=some x:=by
 have h1:¬((0:Int)<=-1):=by omega
 have h2:-(((xs++[x]).length:Nat):Int)<=-1:=by simp only[y26,y0w,y2j];omega
 have h3:(-1+(((xs++[x]).length:Nat):Int)).toNat=xs.length:=by simp only[y26,y0w,y2j];omega
 simp only[oIx,atZ,ixOf]
 rw[if_neg h1,if_pos h2,h3]
 simp
theorem zpc:z0w [.obj md 1 (encB p es pre c)]=some (encS c):=by
 have hs:z7m [some (.obj md 1 (encB p es pre c))]=some (.rt (encS c)):=by
  have e1_:fld 1 0 2 [some (.obj md 1 (encB p es pre c))]=some (.list (pre.map encS++[encS c])):=by
   simp[fld,objF,encB]
  have e2_:op1 oNeg (cst (.int 1)) [some (.obj md 1 (encB p es pre c))]=some (.int (-1)):=rfl
  unfold z7m rtn op2
  rw[e1_,e2_]
  simp only[y0q,zum]
  rfl
 unfold z0w runR
 show Option.bind (z7m [some (.obj md 1 (encB p es pre c))]) _=_
 rw[hs]
 rfl
theorem zdj {ε:Ev} {i:Nat} (h:ε[i]?=some (some (.obj md 1 (encB p es pre c)))):z1s 1 z0w i [] ε=some (encS c):=by
 have:objF 1 i ε=some (md,encB p es pre c):=by simp[objF,h]
 simp only[z1s,this,y0q,args,y1a,zpc]
theorem zi6 {ε:Ev} {i:Nat} (h:ε[i]?=some (some (.obj md 1 (encB p es pre c)))):fldV 1 i 0 ε=some (encP p):=by
 have:objF 1 i ε=some (md,encB p es pre c):=by simp[objF,h]
 simp only[fldV,this,y0q]
 rfl
theorem zme (wp:Wp p) (hw:Wf p c) {e:Et} (he:okE p e) (hl:es.length<10000) (hp:pre.length<10000) :
  z12 [.obj .lent 1 (encB p es pre c),.imm (encE e)]=some (.tuple ((nxt p c e).told.map z8h),encB p (es++[e]) (pre++[c]) (nxt p c e)):=by
 have xw:=zk8 p c e hw wp he
 have xg:=zuq p c e hw wp he
 have b1:(es.map encE).length<big:=by rw[y14];unfold big;omega
 have b2:((pre++[c]).map encS).length<big:=by simp only[y14,y26,y0w,y2j];unfold big;omega
 have hs:z6a [some (.obj .lent 1 (encB p es pre c)),some (.imm (encE e)),none,none]=some (.rtm (.tuple ((nxt p c e).told.map z8h)) [some (.obj .lent 1 (encB p (es++[e]) (pre++[c]) (nxt p c e))),some (.imm (encE e)),some (.imm (.tuple ((nxt p c e).told.map z8h))),some (.imm (encS (nxt p c e)))]):=by
  unfold z6a
  refine z4c (t:=.tuple ((nxt p c e).told.map z8h)) (by
   simp only[opN,args,zi6 (i:=0) (ε:=[some (.obj .lent 1 (encB p es pre c)),some (.imm (encE e)),none,none]) rfl,zdj (i:=0) (ε:=[some (.obj .lent 1 (encB p es pre c)),some (.imm (encE e)),none,none]) rfl,nmV,y2h,y2g,y0q,y1t,xw]
   rfl) ?_
  simp only[y1m,y1j]
  refine z4c (t:=encS (nxt p c e)) (by
   simp only[opN,args,zi6 (i:=0) (ε:=[some (.obj .lent 1 (encB p es pre c)),some (.imm (encE e)),some (.imm (.tuple ((nxt p c e).told.map z8h))),none]) rfl,zdj (i:=0) (ε:=[some (.obj .lent 1 (encB p es pre c)),some (.imm (encE e)),some (.imm (.tuple ((nxt p c e).told.map z8h))),none]) rfl,nmV,y2h,y2g,y0q,y1t,xg]
   rfl) ?_
  simp only[y1m,y1j]
  refine z2a (ε':=[some (.obj .lent 1 [.imm (encP p),.own ((es++[e]).map encE),.own ((pre++[c]).map encS)]),some (.imm (encE e)),some (.imm (.tuple ((nxt p c e).told.map z8h))),some (.imm (encS (nxt p c e)))]) ?_ ?_
  ·simp only[appF,fldL,setF,objF,encB,nmV,y2h,y2g,y0q,y1t,if_true,if_pos b1]
   have em:(es++[e]).map encE=es.map encE++[encE e]:=by simp
   rw[em]
   rfl
  refine z2a (ε':=[some (.obj .lent 1 (encB p (es++[e]) (pre++[c]) (nxt p c e))),some (.imm (encE e)),some (.imm (.tuple ((nxt p c e).told.map z8h))),some (.imm (encS (nxt p c e)))]) ?_ rfl
  simp only[appF,fldL,setF,objF,encB,nmV,y2h,y2g,y0q,y1t,if_true,if_pos b2]
  have em:((pre++[c])++[nxt p c e]).map encS=(pre++[c]).map encS++[encS (nxt p c e)]:=by simp
  rw[em]
  rfl
 unfold z12 runM
 show Option.bind (z6a [some (.obj .lent 1 (encB p es pre c)),some (.imm (encE e)),none,none]) _=_
 rw[hs]
 simp[z4z]
theorem zgh (wp:Wp p) (hw:Wf p c) {e:Et} (he:okE p e) (hl:es.length<10000) (hp:pre.length<10000) {ε:Ev} {i:Nat} {md:Md} (hm:md≠.ro) (h:ε[i]?=some (some (.obj md 1 (encB p es pre c)))) {f:Fe} (hf:f ε=some (encE e)) :
  z0k 1 z12 i [f] ε=some (.tuple ((nxt p c e).told.map z8h),ε.set i (some (.obj md 1 (encB p (es++[e]) (pre++[c]) (nxt p c e))))):=by
 have h1:objF 1 i ε=some (md,encB p es pre c):=by simp[objF,h]
 simp only[z0k,h1,y0q,if_neg hm,args,hf,y1t,y0e,y1a,zme wp hw he hl hp]
theorem need_zone (hz:∀x∈p.zones,okS x.1/\okS x.2) {z:Str} (h:z∈p.zones.map (·.1)):z0s [.obj .ro 1 (encB p es pre c),.imm (.str z)]=some .none:=by
 have ek:=zbj hz h
 have hs:z4b [some (.obj .ro 1 (encB p es pre c)),some (.imm (.str z))]=some (.nx [some (.obj .ro 1 (encB p es pre c)),some (.imm (.str z))]):=by
  unfold z4b
  simp only[exE,opN,args,zi6 (i:=0) (ε:=[some (.obj .ro 1 (encB p es pre c)),some (.imm (.str z))]) rfl,nmV,y2h,y2g,y0q,y1t,ek]
 unfold z0s runR
 show Option.bind (z4b [some (.obj .ro 1 (encB p es pre c)),some (.imm (.str z))]) _=_
 rw[hs]
 rfl
theorem zsp (hz:∀x∈p.zones,okS x.1/\okS x.2) {z:Str} (h:z∈p.zones.map (·.1)) {ε:Ev} {i:Nat} (hi:ε[i]?=some (some (.obj md 1 (encB p es pre c)))) {f:Fe} (hf:f ε=some (.str z)):exE (z1s 1 z0s i [f]) ε=some (.nx ε):=by
 have h1:objF 1 i ε=some (md,encB p es pre c):=by simp[objF,hi]
 simp only[exE,z1s,h1,y0q,args,hf,y1t,y0e,y1a,need_zone hz h]
def Did (p:Pl) (es:List Et) (pre:List Cs) (c:Cs) (e:Et):T×List Sl:=(.tuple ((nxt p c e).told.map z8h),encB p (es++[e]) (pre++[c]) (nxt p c e))
theorem zro (wp:Wp p) (hw:Wf p c) {z w:Str} (he:okE p (.line z w)) (hl:es.length<10000) (hp:pre.length<10000) :
  z2o [.obj .lent 1 (encB p es pre c),.imm (.str z),.imm (.str w)]=some (Did p es pre c (.line z w)):=by
 have b3:(3:Nat)<=big:=by unfold big;omega
 have hs:z94 [some (.obj .lent 1 (encB p es pre c)),some (.imm (.str z)),some (.imm (.str w))]=some (.rtm (Did p es pre c (.line z w)).1 [some (.obj .lent 1 (Did p es pre c (.line z w)).2),some (.imm (.str z)),some (.imm (.str w))]):=by
  unfold z94
  refine z2a (zsp hw.zn he.1 (i:=0) rfl rfl) ?_
  unfold rtnX
  rw[zgh wp hw he hl hp (by decide) (i:=0) rfl (by simp[z09,args,cst,nmV,b3,encE])]
  rfl
 unfold z2o runM
 show Option.bind (z94 [some (.obj .lent 1 (encB p es pre c)),some (.imm (.str z)),some (.imm (.str w))]) _=_
 rw[hs]
 simp[z4z]
theorem zpb (wp:Wp p) (hw:Wf p c) {n:Int} (he:okE p (.ticks n)) (hl:es.length<10000) (hp:pre.length<10000) :
  z4l [.obj .lent 1 (encB p es pre c),.imm (.int n)]=some (Did p es pre c (.ticks n)):=by
 have b3:(2:Nat)<=big:=by unfold big;omega
 have hs:z7l [some (.obj .lent 1 (encB p es pre c)),some (.imm (.int n))]=some (.rtm (Did p es pre c (.ticks n)).1 [some (.obj .lent 1 (Did p es pre c (.ticks n)).2),some (.imm (.int n))]):=by
  unfold z7l rtnX
  rw[zgh wp hw he hl hp (by decide) (i:=0) rfl (by simp[z09,args,cst,nmV,b3,encE])]
  rfl
 unfold z4l runM
 show Option.bind (z7l [some (.obj .lent 1 (encB p es pre c)),some (.imm (.int n))]) _=_
 rw[hs]
 simp[z4z]
theorem zrq (wp:Wp p) (hw:Wf p c) {f d:Str} {z:Option Str} (he:okB p (.code f d z)) (hl:es.length<10000) (hp:pre.length<10000) :
  z2p [.obj .lent 1 (encB p es pre c),.imm (.str f),.imm (.str d),.imm (oS z)]=some (Did p es pre c (.code f d z)):=by
 have b3:(4:Nat)<=big:=by unfold big;omega
 have hd:okS d:=by
  rcases he.1.2.1 with h|h|h|h <;> (rw[h];exact z02 _)
 have oi:=zap false (n:=d) (ns:=["shunt","free"]) hd (fun x hx=>by
  simp only[y09,y2e,or_false] at hx
  rcases hx with h|h <;> (rw[h];exact z02 _))
 have hs:z95 [some (.obj .lent 1 (encB p es pre c)),some (.imm (.str f)),some (.imm (.str d)),some (.imm (oS z))]=some (.rtm (Did p es pre c (.code f d z)).1 [some (.obj .lent 1 (Did p es pre c (.code f d z)).2),some (.imm (.str f)),some (.imm (.str d)),some (.imm (oS z))]):=by
  unfold z95
  refine z2a (ε':=[some (.obj .lent 1 (encB p es pre c)),some (.imm (.str f)),some (.imm (.str d)),some (.imm (oS z))]) ?_ ?_
  ·cases z with
   | some x =>
    have hx:x∈p.zones.map (·.1):=he.2 x rfl
    unfold iff
    have t:orT (tstB (op1 z6d (nm 3))) (tstB (op2 (oIn false) (nm 2) (cst (.tuple (z6i ["shunt","free"]))))) [some (.obj .lent 1 (encB p es pre c)),some (.imm (.str f)),some (.imm (.str d)),some (.imm (oS (some x)))]=some true:=rfl
    rw[t]
    exact zsp hw.zn hx (i:=0) rfl rfl
   | none =>
    have nd:¬(d∈(["shunt","free"]:List Str)):=fun hm=>by
     simp only[y09,y2e,or_false] at hm
     obtain⟨x,hx,_⟩:=he.1.2.2 hm
     cases hx
    simp only[y1w,if_false,decide_eq_false nd] at oi
    have oi':oIn false (.str d) (.tuple (z6i ["shunt","free"]))=some (.bool false):=oi
    unfold iff
    have t:orT (tstB (op1 z6d (nm 3))) (tstB (op2 (oIn false) (nm 2) (cst (.tuple (z6i ["shunt","free"]))))) [some (.obj .lent 1 (encB p es pre c)),some (.imm (.str f)),some (.imm (.str d)),some (.imm (oS none))]=some false:=by
     simp only[orT,tstB,op1,op2,nm,cst,y2h,y2g,y0q,oi']
     rfl
    rw[t]
    rfl
  unfold rtnX
  rw[zgh (e:=.code f d z) wp hw he.1 hl hp (by decide) (i:=0) rfl (by simp[z09,args,cst,nmV,b3,encE])]
  rfl
 unfold z2p runM
 show Option.bind (z95 [some (.obj .lent 1 (encB p es pre c)),some (.imm (.str f)),some (.imm (.str d)),some (.imm (oS z))]) _=_
 rw[hs]
 simp[z4z]
theorem zxi (wp:Wp p) (hw:Wf p c) {e:Et} (he:okB p e) (hl:es.length<10000) (hp:pre.length<10000) :
  z90 [.obj .lent 1 (encB p es pre c),.imm (encE e)]=some (Did p es pre c e):=by
 have fin:z92 [some (.obj .lent 1 (encB p es pre c)),some (.imm (encE e))]=some (.rtm (Did p es pre c e).1 [some (.obj .lent 1 (Did p es pre c e).2),some (.imm (encE e))]):=by
  have hm:¬(Md.lent=Md.ro):=by decide
  have ob:∀s:Option Sl,objF 1 0 [some (.obj .lent 1 (encB p es pre c)),s]=some (.lent,encB p es pre c):=fun s=>rfl
  unfold z92
  cases e with
  | line z w =>
   have x:=zro wp hw he.1 hl hp
   have q:=z0f (z02 "line") (z02 "line")
   simp! [sp2,encE,q,rtnX,z0k,ob,x]
  | code f d z =>
   have x:=zrq wp hw he hl hp
   have q1:=z0f (z02 "code") (z02 "line")
   have q2:=z0f (z02 "code") (z02 "code")
   simp! [sp10,encE,q1,q2,rtnX,z0k,ob,x]
  | ticks n =>
   have x:=zpb wp hw he.1 hl hp
   have q1:=z0f (z02 "ticks") (z02 "line")
   have q2:=z0f (z02 "ticks") (z02 "code")
   simp! [sp10,encE,q1,q2,rtnX,z0k,ob,x]
 unfold z90 runM
 show Option.bind (z92 [some (.obj .lent 1 (encB p es pre c)),some (.imm (encE e))]) _=_
 rw[fin]
 simp[z4z,Did]
theorem do_m (wp:Wp p) (hw:Wf p c) {e:Et} (he:okB p e) (hl:es.length<10000) (hp:pre.length<10000) {ε:Ev} {i:Nat} {md:Md} (hm:md≠.ro) (h:ε[i]?=some (some (.obj md 1 (encB p es pre c)))) {f:Fe} (hf:f ε=some (encE e)) :
  zmd 1 z90 [] i [f] ε=some (.tuple ((nxt p c e).told.map z8h),ε.set i (some (.obj md 1 (encB p (es++[e]) (pre++[c]) (nxt p c e))))):=by
 have h1:objF 1 i ε=some (md,encB p es pre c):=by simp[objF,h]
 simp only[zmd,h1,y0q,if_neg hm,args,hf,y1t,y0e,y1a,y2n,zxi wp hw he hl hp]
 rfl
theorem zrn (e:Et) (c':Cs):z3t [.obj .lent 1 (encB p (es++[e]) (pre++[c]) c')]=some (.none,encB p es pre c):=by
 have hs:z93 [some (.obj .lent 1 (encB p (es++[e]) (pre++[c]) c'))]=some (.nx [some (.obj .lent 1 (encB p es pre c))]):=by
  have e1_:encB p (es++[e]) (pre++[c]) c'=[.imm (encP p),.own (es.map encE++[encE e]),.own ((pre++[c]).map encS++[encS c'])]:=by simp[encB]
  rw[e1_]
  unfold z93
  refine zky ?_ ?_
  ·have t:tstL (fld 1 0 1) [some (.obj .lent 1 [.imm (encP p),.own (es.map encE++[encE e]),.own ((pre++[c]).map encS++[encS c'])])]=some true:=by
    simp[tstL,fld,objF]
   unfold notT
   rw[t]
   rfl
  refine z2a (ε':=[some (.obj .lent 1 [.imm (encP p),.own (es.map encE),.own ((pre++[c]).map encS++[encS c'])])]) ?_ ?_
  ·simp only[popF,fldL,setF,objF,y2h,y2g,y0q,if_true,List.getLast?_concat,List.dropLast_concat]
   rfl
  ·simp only[popF,fldL,setF,objF,y2h,y2g,y0q,if_true,List.getLast?_concat,List.dropLast_concat]
   rfl
 unfold z3t runM
 show Option.bind (z93 [some (.obj .lent 1 (encB p (es++[e]) (pre++[c]) c'))]) _=_
 rw[hs]
 simp[z4z]
def heC (pre:List Cs) (c:Cs):Cs:=(pre++[c]).headD c
theorem zpd (hw:Wf p c):z3l [.obj .ro 1 (encB p es pre c)]=some (.tuple [.str c.mode,.bool (decide (c.siren > 0)),.tuple ((z9v p c).map .str)]):=by
 have xs:=zki p c hw
 have hs:z7n [some (.obj .ro 1 (encB p es pre c))]=some (.rt (.tuple [.str c.mode,.bool (decide (c.siren > 0)),.tuple ((z9v p c).map .str)])):=by
  unfold z7n
  simp only[rtn,opN,args,zi6 (i:=0) (ε:=[some (.obj .ro 1 (encB p es pre c))]) rfl,zdj (i:=0) (ε:=[some (.obj .ro 1 (encB p es pre c))]) rfl,y0q,y1t,xs]
 unfold z3l runR
 show Option.bind (z7n [some (.obj .ro 1 (encB p es pre c))]) _=_
 rw[hs]
 rfl
theorem zjy (hl:es.length<10000):z2w [.obj .ro 1 (encB p es pre c)]=some (.tuple (es.map encE)):=by
 have b1:es.length<=big:=by unfold big;omega
 have hs:zb0 [some (.obj .ro 1 (encB p es pre c))]=some (.rt (.tuple (es.map encE))):=by
  unfold zb0
  simp[rtn,opN,args,fld,objF,encB,z31,b1]
 unfold z2w runR
 show Option.bind (zb0 [some (.obj .ro 1 (encB p es pre c))]) _=_
 rw[hs]
 rfl
theorem zo8 (x:T) (xs:List T):oIx (.list (x::xs)) (.int 0)=some x:=by
 have h:(0:Int)<(((x::xs).length:Nat):Int):=by simp only[y0w];omega
 simp only[oIx,atZ,ixOf,Int.le_refl,if_true,if_pos h]
 rfl
theorem zpe (wp:Wp p) (hh:Wf p (heC pre c)) (he:∀e∈es,okE p e) (hl:es.length<=1000):z47 [.obj .ro 1 (encB p es pre c)]=some (.tuple ((run p (fresh (heC pre c)) es).told.map encW)):=by
 have xs:=zke p (heC pre c) es hh wp he hl
 have xr:=zjy (p:=p) (pre:=pre) (c:=c) (es:=es) (by omega)
 have e1_:op2 oIx (fld 1 0 2) (cst (.int 0)) [some (.obj .ro 1 (encB p es pre c))]=some (encS (heC pre c)):=by
  have e2_:fld 1 0 2 [some (.obj .ro 1 (encB p es pre c))]=some (.list ((pre++[c]).map encS)):=by
   simp[fld,objF,encB]
  unfold op2
  rw[e2_]
  have e3_:cst (.int 0) [some (.obj .ro 1 (encB p es pre c))]=some (.int 0):=rfl
  rw[e3_]
  simp only[y0q]
  cases pre with
  | nil=>exact zo8 _ _
  | cons x pre=>exact zo8 _ _
 have hs:zb1 [some (.obj .ro 1 (encB p es pre c))]=some (.rt (.tuple ((run p (fresh (heC pre c)) es).told.map encW))):=by
  have ob:objF 1 0 [some (.obj .ro 1 (encB p es pre c))]=some (.ro,encB p es pre c):=rfl
  unfold zb1
  simp only[rtn,opN,args,zi6 (i:=0) (ε:=[some (.obj .ro 1 (encB p es pre c))]) rfl,e1_,z1s,ob,y0q,y1t,y1a,xr,xs]
 unfold z47 runR
 show Option.bind (zb1 [some (.obj .ro 1 (encB p es pre c))]) _=_
 rw[hs]
 rfl
end
end Bo
end
section
namespace Bo
open D Co
open PySem hiding run fresh code
local instance:Tbl:=⟨[],fun _=>[],fun _=>none⟩
def chain (p:Pl):Cs->List Et->List Cs
 | _,[]=>[]
 | c,e::es=>c::chain p (nxt p c e) es
def endS (p:Pl) (c:Cs) (es:List Et):Cs:=es.foldl (nxt p) c
theorem zwu {p:Pl} {c:Cs} (hw:Wf p c) {e:Et} (he:okE p e):Wf p (nxt p c e):=hw.fresh.happen he
theorem zsx {p:Pl}:∀{es:List Et} {c:Cs},Wf p c->(∀e∈es,okE p e)->Wf p (endS p c es)
 | [],_,h,_=>h
 | e::es,c,h,he=>zsx (es:=es) (zwu h (he e (by simp))) fun y hy=>he y (y05 _ hy)
theorem zc3 (p:Pl):∀(xs ys:List Et) (c:Cs),chain p c (xs++ys)=chain p c xs++chain p (endS p c xs) ys
 | [],ys,c=>rfl
 | x::xs,ys,c=>by
  show c::chain p (nxt p c x) (xs++ys)=c::(chain p (nxt p c x) xs++chain p (endS p (nxt p c x) xs) ys)
  rw[zc3 p xs ys]
theorem zm1 (p:Pl) (xs ys:List Et) (c:Cs):endS p c (xs++ys)=endS p (endS p c xs) ys:=by simp[endS]
theorem zil (p:Pl):∀(xs:List Et) (c:Cs),(chain p c xs).length=xs.length
 | [],c=>rfl
 | x::xs,c=>by simp[chain,zil p xs]
theorem zl0 (p:Pl):∀(xs:List Et) (c:Cs),heC (chain p c xs) (endS p c xs)=c
 | [],c=>rfl
 | x::xs,c=>rfl
theorem zi4 (p:Pl):∀(es:List Et) (c:Cs),fresh (endS p c es)=fresh (run p (fresh c) es)
 | [],c=>rfl
 | e::es,c=>by
  have ih:=zi4 p es (nxt p c e)
  have h:=zs5 (nxt p c e).past (nxt p c e).told p es (fresh (nxt p c e))
  rw[<- zq2] at h
  show fresh (endS p (nxt p c e) es)=fresh (run p (nxt p c e) es)
  rw[ih,h]
  rfl
end Bo
end
section
namespace Bo
open D Co Bz
open PySem hiding run fresh code
local instance:Tbl:=⟨[],fun _=>[],fun _=>none⟩
theorem zsz {p:Pl} {e:Et} (h:DE p e):okB p e:=by
 refine⟨h.ok,?_⟩
 cases e with
 | line _ _=>trivial
 | ticks _=>trivial
 | code f d z =>
  intro x hx
  rcases h.2 with ⟨_,q⟩|⟨_,y,q,hy⟩
  ·rw[q] at hx
   cases hx
  ·rw[q] at hx
   cases hx
   exact hy
theorem znp {ws:List (Int×Str×Option Str)} (h:∀w∈ws,okS w.2.1/\∀n,w.2.2=some n->okS n):okN 2 (.tuple (ws.map z8h)):=z10 fun x hx=>by
 obtain⟨w,hw,rfl⟩:=y0n.mp hx
 exact zqp 0 (h w hw).1 (h w hw).2
theorem zrp {p:Pl} (wp:Wp p) (zl:p.zones.length<=40):z2q [.obj .lent 1 [],.imm (encP p)]=some (.none,encB p [] [] (z07 p)):=by
 have eb:=zce p zl wp
 have tb1:(1:Nat)<=big:=by unfold big;omega
 have hs:z4u [some (.obj .lent 1 []),some (.imm (encP p))]=some (.nx [some (.obj .lent 1 (encB p [] [] (z07 p))),some (.imm (encP p))]):=by
  unfold z4u
  refine z2a (ε':=[some (.obj .lent 1 [.imm (encP p)]),some (.imm (encP p))]) rfl ?_
  refine z2a (ε':=[some (.obj .lent 1 [.imm (encP p),.own []]),some (.imm (encP p))]) ?_ ?_
  ·simp[z8p,z3j,args,setF,objF]
  ·simp[z8p,z3j,args,setF,objF,opN,nmV,eb,tb1,encB]
 unfold z2q runM
 show Option.bind (z4u [some (.obj .lent 1 []),some (.imm (encP p))]) _=_
 rw[hs]
 simp[z4z]
theorem zq0 {j:Int} (h0:0<=j) (h1:j<=1000):zb6 j=true:=by
 unfold zb6
 simp
 omega
theorem zx5 {f:Fe} {ε:Ev} {j:Int} (h:f ε=some (.int j)) (h0:0<=j) (h1:j<=1000):z7u f ε=some (rng 0 j):=by
 unfold z7u
 rw[h]
 simp only[y0q]
 rw[if_pos (zq0 h0 h1)]
theorem za8 {a:Fe} {ε:Ev} {v:Bool} (h:a ε=some (.bool v)):tstB a ε=some v:=by
 unfold tstB
 rw[h]
 rfl
theorem z4e {o:T->T->Option T} {a b:Fe} {ε:Ev} {x y z:T} (ha:a ε=some x) (hb:b ε=some y) (h:o x y=some z):op2 o a b ε=some z:=by
 unfold op2
 rw[ha,hb]
 exact h
section
variable {p:Pl} {es:List Et} {pre:List Cs} {c:Cs} {ε:Ev} {i:Nat} {md:Md}
theorem r_m (d:List Sl->Option T) (h:ε[i]?=some (some (.obj md 1 (encB p es pre c)))):z1s 1 d i [] ε=d [.obj .ro 1 (encB p es pre c)]:=by
 have h1:objF 1 i ε=some (md,encB p es pre c):=by simp[objF,h]
 simp only[z1s,h1,y0q,args,y1a]
end
theorem zwq {p:Pl} {e:Et} (hz:∀z∈p.zones,okS z.1/\okS z.2) (h:okB p e):okN 1 (encE e):=by
 have zk:∀z,z∈p.zones.map (·.1)->okS z:=fun z hm=>by
  obtain⟨x,hx,rfl⟩:=y0n.mp hm
  exact (hz x hx).1
 cases e with
 | line z w =>
  have ow:okS w:=by rcases h.1.2 with q|q|q <;> (rw[q];exact z02 _)
  exact z10 fun x hx=>by
   simp only[y09,y2e,or_false] at hx
   rcases hx with rfl|rfl|rfl
   ·exact z2g 0 (z02 "line")
   ·exact z2g 0 (zk z h.1.1)
   ·exact z2g 0 ow
 | code f d z =>
  have od:okS d:=by rcases h.1.2.1 with q|q|q|q <;> (rw[q];exact z02 _)
  exact z10 fun x hx=>by
   simp only[y09,y2e,or_false] at hx
   rcases hx with rfl|rfl|rfl|rfl
   ·exact z2g 0 (z02 "code")
   ·exact z2g 0 h.1.1
   ·exact z2g 0 od
   ·exact zkp 0 fun y hy=>zk y (h.2 y hy)
 | ticks n =>
  exact z10 fun x hx=>by
   simp only[y09,y2e,or_false] at hx
   rcases hx with rfl|rfl
   ·exact z2g 0 (z02 "ticks")
   ·exact z74 0 n
theorem zhx {z:Str} (hz:okS z) (s0:Option Sl):∀(zs:List (Str×Str)) (t0:Option Sl),(∀x∈zs,okS x.1)->z∉zs.map (·.1)->∃t1,forL (gNm 2) (iff (tstB (op2 oEq (op2 oIx (nm 2) (cst (.int 0))) (nm 1))) (rtn (op2 oIx (nm 2) (cst (.int 1)))) skip) (zs.map encZ) [s0,some (.imm (.str z)),t0]=some (.nx [s0,some (.imm (.str z)),t1])
 | [],t0,_,_=>⟨t0,rfl⟩
 | x::zs,t0,ho,h=>by
  have e:=z0f (ho x (by simp)) hz
  rw[y0e,y09,not_or] at h
  have hx:¬x.1=z:=fun q=>h.1 q.symm
  obtain⟨t1,ih⟩:=zhx hz s0 zs (some (.imm (encZ x))) (fun y hy=>ho y (y05 _ hy)) h.2
  refine⟨t1,?_⟩
  simp[encZ] at ih
  simp! [sp2,forL,encZ,hx,e]
  simpa [runF,seq,iff,tstB,tstL,andT,orT,notT,cstT,ofT,op1,op2,opN,args,cst,nm,nmV,rtn,skip,asg,asgN,asgT,par,z09,z3j,oIsN,z6d,oIx,atZ,ixOf,gNm,gTu,gAll,z3v,comp,z4f] using ih
theorem zvx {p:Pl} {z:Str} (ho:∀x∈p.zones,okS x.1/\okS x.2) (hz:okS z) (h:z∉p.zones.map (·.1)) (hr:(reprText z).length<=10000):z87 [.imm (encP p),.imm (.str z)]=true:=by
 obtain⟨t1,x⟩:=zhx hz (some (.imm (encP p))) p.zones none (fun y hy=>(ho y hy).1) h
 have fo:for_ (z3v (op2 oIx (nm 0) (cst (.int 0)))) (gNm 2) (iff (tstB (op2 oEq (op2 oIx (nm 2) (cst (.int 0))) (nm 1))) (rtn (op2 oIx (nm 2) (cst (.int 1)))) skip) [some (.imm (encP p)),some (.imm (.str z)),none]=some (.nx [some (.imm (encP p)),some (.imm (.str z)),t1]):=by
  have it:z3v (op2 oIx (nm 0) (cst (.int 0))) [some (.imm (encP p)),some (.imm (.str z)),none]=some (p.zones.map encZ):=by
   simp! [sp2,encP]
  unfold for_
  rw[it]
  exact x
 have nm1:nm 1 [some (.imm (encP p)),some (.imm (.str z)),t1]=some (.str z):=rfl
 have l1:((("no zone is called ":Str))).length<=1000:=by decide
 show zbd [some (.imm (encP p)),some (.imm (.str z)),none]=true
 unfold zbd seqZ D.okZ op1
 rw[fo]
 simp only[nm1,y0q,zls,if_pos (And.intro hr l1),Option.isSome_some]
section
variable {p:Pl} {es:List Et} {pre:List Cs} {c:Cs} {md:Md}
theorem zvv (ho:∀x∈p.zones,okS x.1/\okS x.2) {z:Str} (hz:okS z) (h:z∉p.zones.map (·.1)) (hr:(reprText z).length<=10000):z19 [.obj .ro 1 (encB p es pre c),.imm (.str z)]=true:=by
 show z52 [some (.obj .ro 1 (encB p es pre c)),some (.imm (.str z))]=true
 unfold z52 zrm
 have a:agsE [.v (fldV 1 0 0),.v (nmV 1)] [some (.obj .ro 1 (encB p es pre c)),some (.imm (.str z))]=some [.imm (encP p),.imm (.str z)]:=rfl
 rw[a]
 exact zvx ho hz h hr
theorem zso (ho:∀x∈p.zones,okS x.1/\okS x.2) {z:Str} (hz:okS z) (h:z∉p.zones.map (·.1)) (hr:(reprText z).length<=10000) {ε:Ev} {i:Nat} (hi:ε[i]?=some (some (.obj md 1 (encB p es pre c)))) {f:Fe} (hf:f ε=some (.str z)) :
  z4y 1 z19 i [f] ε=true:=by
 have h1:objF 1 i ε=some (md,encB p es pre c):=by simp[objF,hi]
 simp only[z4y,h1,args,hf,y0q,y1t,y0e,y1a,zvv ho hz h hr]
theorem zvw (ho:∀x∈p.zones,okS x.1/\okS x.2) {z w:Str} (hz:okS z) (h:z∉p.zones.map (·.1)) (hr:(reprText z).length<=10000):z4g [.obj .ro 1 (encB p es pre c),.imm (.str z),.imm (.str w)]=true:=by
 show zcz [some (.obj .ro 1 (encB p es pre c)),some (.imm (.str z)),some (.imm (.str w))]=true
 exact zso ho hz h hr (i:=0) rfl rfl
theorem zvy (ho:∀x∈p.zones,okS x.1/\okS x.2) {f d z:Str} (hz:okS z) (h:z∉p.zones.map (·.1)) (hr:(reprText z).length<=10000):z4h [.obj .ro 1 (encB p es pre c),.imm (.str f),.imm (.str d),.imm (.str z)]=true:=by
 show z9r [some (.obj .ro 1 (encB p es pre c)),some (.imm (.str f)),some (.imm (.str d)),some (.imm (.str z))]=true
 unfold z9r iffZ
 have t:orT (tstB (op1 z6d (nm 3))) (tstB (op2 (oIn false) (nm 2) (cst (.tuple (z6i ["shunt","free"]))))) [some (.obj .ro 1 (encB p es pre c)),some (.imm (.str f)),some (.imm (.str d)),some (.imm (.str z))]=some true:=rfl
 rw[t]
 exact zso ho hz h hr (i:=0) rfl rfl
theorem zs7:z30 [.obj .ro 1 (encB p es pre c)]=es.isEmpty:=by
 show z9q [some (.obj .ro 1 (encB p es pre c))]=es.isEmpty
 unfold z9q iffZ
 have t:notT (tstL (fld 1 0 1)) [some (.obj .ro 1 (encB p es pre c))]=some es.isEmpty:=by
  cases es with
  | nil=>rfl
  | cons e es=>rfl
 rw[t]
 cases es with
 | nil=>rfl
 | cons e es=>rfl
theorem zwx (ho:∀x∈p.zones,okS x.1/\okS x.2) {z w:Str} (hz:okS z) (h:z∉p.zones.map (·.1)) (hr:(reprText z).length<=10000) {ε:Ev} {i:Nat} (hi:ε[i]?=some (some (.obj md 1 (encB p es pre c)))) {f g:Fe} (hf:f ε=some (.str z)) (hg:g ε=some (.str w)) (F:Fx) (j:Nat) :
  z96 F (z4y 1 z4g i [f,g]) j ε=some (.tuple [.str "refused",.int j],ε):=by
 have h1:objF 1 i ε=some (md,encB p es pre c):=by simp[objF,hi]
 have m:z4y 1 z4g i [f,g] ε=true:=by
  simp only[z4y,h1,args,hf,hg,y0q,y1t,y0e,y1a,zvw ho hz h hr]
 unfold z96
 rw[if_pos m]
theorem zxd (ho:∀x∈p.zones,okS x.1/\okS x.2) {z w d:Str} (hz:okS z) (h:z∉p.zones.map (·.1)) (hr:(reprText z).length<=10000) {ε:Ev} {i:Nat} (hi:ε[i]?=some (some (.obj md 1 (encB p es pre c)))) {f g k:Fe} (hf:f ε=some (.str w)) (hg:g ε=some (.str d)) (hk:k ε=some (.str z)) (F:Fx) (j:Nat) :
  z96 F (z4y 1 z4h i [f,g,k]) j ε=some (.tuple [.str "refused",.int j],ε):=by
 have h1:objF 1 i ε=some (md,encB p es pre c):=by simp[objF,hi]
 have m:z4y 1 z4h i [f,g,k] ε=true:=by
  simp only[z4y,h1,args,hf,hg,hk,y0q,y1t,y0e,y1a,zvy ho hz h hr]
 unfold z96
 rw[if_pos m]
theorem zta {ε:Ev} {i:Nat} (hi:ε[i]?=some (some (.obj md 1 (encB p [] pre c)))) (F:Fx) (j:Nat):z96 F (z4y 1 z30 i []) j ε=some (.tuple [.str "refused",.int j],ε):=by
 have h1:objF 1 i ε=some (md,encB p [] pre c):=by simp[objF,hi]
 have m:z4y 1 z30 i [] ε=true:=by
  simp only[z4y,h1,args,y1a,zs7]
  rfl
 unfold z96
 rw[if_pos m]
theorem zve (e:Et) (c':Cs) {ε:Ev} {i:Nat} (hm:md≠.ro) (h:ε[i]?=some (some (.obj md 1 (encB p (es++[e]) (pre++[c]) c')))) (j:Nat) :
  z96 (z0k 1 z3t i []) (z4y 1 z30 i []) j ε=some (.tuple [.str "told",.none],ε.set i (some (.obj md 1 (encB p es pre c)))):=by
 have h1:objF 1 i ε=some (md,encB p (es++[e]) (pre++[c]) c'):=by simp[objF,h]
 have m:z4y 1 z30 i [] ε=false:=by
  simp only[z4y,h1,args,y1a,zs7]
  cases es <;> rfl
 unfold z96
 rw[if_neg (by rw[m];decide)]
 simp only[zpu,z0k,h1,y0q,if_neg hm,args,y1t,y1a,zrn]
end
end Bo
end
section
namespace K40
open D Co Bo Bz
open PySem hiding run fresh code
local instance:Tbl:=⟨[],fun _=>[],fun _=>none⟩
theorem zyl:zif=z90:=rfl
def bx (p:Pl) (es:List Et):List Sl:=encB p es (Bo.chain p (z07 p) es) (endS p (z07 p) es)
theorem zpa (p:Pl) (es:List Et) (e:Et):bx p (es++[e])=encB p (es++[e]) (Bo.chain p (z07 p) es++[endS p (z07 p) es]) (nxt p (endS p (z07 p) es) e):=by
 unfold bx
 rw[zc3,zm1]
 rfl
noncomputable def V (ns:List Int) (p:Pl) (es:List Et) (s5 s6 s7 s8 s9:Option Sl):Ev :=
 [some (.imm (z0n ns)),some (.imm (encP p)),some (.obj .own 1 (bx p es)),some (.obj .own 1 (bx p [])),some (.imm (.tuple (es.map encE))),s5,s6,s7,s8,s9]
theorem zsl {d:Nat} {t u:T} (h:okN d t) (h2:okN d u) (hd:d<=60:=by decide):oEq t u=some (.bool (y24 t u)):=by
 have a:okT t=true:=by unfold okT;rw[h.1];simp;exact y1s h.2 hd
 have b:okT u=true:=by unfold okT;rw[h2.1];simp;exact y1s h2.2 hd
 unfold oEq
 rw[a,b]
 rfl
theorem zri (xs:List T) (x:T):cutZ (xs++[x]) none (some (-1))=xs:=by
 have h1:((if (-1:Int)<0 then max (-1+(((xs++[x]).length:Nat):Int)) 0 else min (-1) (((xs++[x]).length:Nat):Int))).toNat=xs.length:=by
  rw[if_pos (by decide)]
  simp only[y26,y0w,y2j]
  omega
 unfold cutZ sIx
 dsimp only
 rw[h1]
 simp
noncomputable def bT:Fs:=(seq (asg 7 (opN z7g [(nmV 1),(opN z33 [(nmV 1)]),(nmV 4)]))
  (seq (iff (orT (tstB (op2 oNe (z1s 1 z0w 2 []) (nm 7))) (orT (tstB (op2 oNe (z1s 1 z3l 2 []) (opN z6e [(nmV 1),(nmV 7)]))) (tstB (op2 oNe (z1s 1 z2w 2 []) (nm 4))))) (rtn (cst (.bool false))) skip)
  (iff (tstB (op2 oNe (z1s 1 z47 2 []) (opN z7f [(nmV 1),(opN z33 [(nmV 1)]),(nmV 4)]))) (rtn (cst (.bool false))) skip)))
noncomputable def bM:Fs:=(iff (tstB (op2 oEq (op2 oMod (nm 6) (cst (.int 7))) (cst (.int 0)))) (seq (asg 8 (op2 oIx (z3j [(z09 [(cst (.str "told")),(cst .none)]),(z09 [(cst (.str "refused")),(cst (.int 2))])]) (opN oInt [(op2 oEq (nm 4) (z09 []))])))
  (seq (iffX (tstX (op2X oNe (z96 (z0k 1 z3t 2 []) (z4y 1 z30 2 []) 2) (z9b (nmV 8)))) (rtn (cst (.bool false))) skip)
  (asg 4 (slice (nm 4) optN (opt (op1 oNeg (cst (.int 1)))))))) (iff (tstB (op2 oEq (op2 oMod (nm 6) (cst (.int 7))) (cst (.int 1)))) (seq (iffX (tstX (op2X oNe (z96 (z0k 1 z2o 2 [(cst (.str "zzzz")),(cst (.str "open"))]) (z4y 1 z4g 2 [(cst (.str "zzzz")),(cst (.str "open"))]) 0) (z9b (z09 [(cst (.str "refused")),(cst (.int 0))])))) (rtn (cst (.bool false))) skip)
  (iffX (tstX (op2X oNe (z96 (z0k 1 z2p 2 [(cst (.str "1234")),(op2 oIx (z09 [(cst (.str "shunt")),(cst (.str "free"))]) (op2 oMod (op2 oDiv (nm 6) (cst (.int 8))) (cst (.int 2)))),(cst (.str "none"))]) (z4y 1 z4h 2 [(cst (.str "1234")),(op2 oIx (z09 [(cst (.str "shunt")),(cst (.str "free"))]) (op2 oMod (op2 oDiv (nm 6) (cst (.int 8))) (cst (.int 2)))),(cst (.str "none"))]) 0) (z9b (z09 [(cst (.str "refused")),(cst (.int 0))])))) (rtn (cst (.bool false))) skip)) (seq (asg 9 (opN z5q [(nmV 1),(op2 oDiv (nm 6) (cst (.int 8)))]))
  (seq (iffX (tstX (op2X oNe (zmd 1 zif [] 2 [(nmV 9)]) (z9b (opN z7e [(nmV 1),(nmV 7),(nmV 9)])))) (rtn (cst (.bool false))) skip)
  (asg 4 (op2 oAdd (nm 4) (z09 [(nmV 9)])))))))
def bL:Fs:=(seq (asg 6 (opN z25 [(nmV 0),(op2 oAdd (cst (.int 2)) (nm 5))]))
  (seq (asg 7 (opN z7g [(nmV 1),(opN z33 [(nmV 1)]),(nmV 4)]))
  (seq bM bT)))
section
variable {ns:List Int} {p:Pl} (hp:DP p) {es:List Et} (he:∀e∈es,okB p e) (hl:es.length<=100)
include hp he hl
theorem zxy:encS (run p (fresh (z07 p)) es)=encS (endS p (z07 p) es):=by
 have fe:=zi4 p es (z07 p)
 have h:encS (fresh (endS p (z07 p) es))=encS (fresh (run p (fresh (z07 p)) es)):=congrArg encS fe
 exact h.symm
theorem zt2 {ε:Ev} (h1:ε[1]?=some (some (.imm (encP p)))) (h4:ε[4]?=some (some (.imm (.tuple (es.map encE))))):opN z7g [(nmV 1),(opN z33 [(nmV 1)]),(nmV 4)] ε=some (encS (endS p (z07 p) es)):=by
 have zl:=hp.zl
 have xb:=zce p (by omega) hp.wp
 have xa:=zrt p (z07 p) es hp.begun hp.wp (fun e q=>(he e q).1) (by omega)
 rw[zxy hp he hl] at xa
 simp only[opN,args,nmV,h1,h4,y0q,y1t,xb,xa]
theorem we:Wf p (endS p (z07 p) es):=zsx hp.begun fun e q=>(he e q).1
theorem zs6:okN 2 (.tuple (es.map encE)):=z10 fun t ht=>by
 obtain⟨e,q,rfl⟩:=y0n.mp ht
 exact zwq hp.begun.zn (he e q)
theorem ztb (s5 s6 s7 s8 s9:Option Sl):bT (V ns p es s5 s6 s7 s8 s9)=some (.nx (V ns p es s5 s6 (some (.imm (encS (endS p (z07 p) es)))) s8 s9)):=by
 have zl:=hp.zl
 have w:=we hp he hl
 unfold bT
 refine z4c (zt2 hp he hl rfl rfl) ?_
 simp only[V,y1m,y1j]
 refine zky ?_ ?_
 ·have e1_:op2 oNe (z1s 1 z0w 2 []) (nm 7) (V ns p es s5 s6 (some (.imm (encS (endS p (z07 p) es)))) s8 s9)=some (.bool false):=z4e (zdj (i:=2) (md:=.own) rfl) rfl (z66 (zkr w))
  have e2_:op2 oNe (z1s 1 z3l 2 []) (opN z6e [(nmV 1),(nmV 7)]) (V ns p es s5 s6 (some (.imm (encS (endS p (z07 p) es)))) s8 s9)=some (.bool false):=by
   refine z4e ((r_m (i:=2) (md:=.own) _ rfl).trans (zpd w)) ?_ (z66 (znq 0 w _))
   have xs:=zki p _ w
   simp only[opN,args,nmV,V,y2h,y2g,y0q,y1t,xs]
  have e3_:op2 oNe (z1s 1 z2w 2 []) (nm 4) (V ns p es s5 s6 (some (.imm (encS (endS p (z07 p) es)))) s8 s9)=some (.bool false):=z4e ((r_m (i:=2) (md:=.own) _ rfl).trans (zjy (by omega))) rfl (z66 (zs6 hp he hl))
  show orT _ _ (V ns p es s5 s6 (some (.imm (encS (endS p (z07 p) es)))) s8 s9)=_
  simp only[orT,za8 e1_,za8 e2_,za8 e3_,y0q,y1w,if_false]
 ·have wh:Wf p (heC (Bo.chain p (z07 p) es) (endS p (z07 p) es)):=by rw[zl0];exact hp.begun
  have xl:=zpe (p:=p) (es:=es) (pre:=Bo.chain p (z07 p) es) (c:=endS p (z07 p) es) hp.wp wh (fun e q=>(he e q).1) (by omega)
  rw[zl0] at xl
  have xs:=zke p (z07 p) es hp.begun hp.wp (fun e q=>(he e q).1) (by omega)
  have xb:=zce p (by omega) hp.wp
  have tw:Tw (run p (fresh (z07 p)) es):=Tw.run (Tw.fresh _) hp.begun.fresh fun e q=>(he e q).1
  have e1_:op2 oNe (z1s 1 z47 2 []) (opN z7f [(nmV 1),(opN z33 [(nmV 1)]),(nmV 4)]) (V ns p es s5 s6 (some (.imm (encS (endS p (z07 p) es)))) s8 s9)=some (.bool false):=by
   refine z4e ((r_m (i:=2) (md:=.own) _ rfl).trans xl) ?_ (z66 (zqq tw))
   simp only[opN,args,nmV,V,y2h,y2g,y0q,y1t,xb,xs]
  show iff _ _ _ (V ns p es s5 s6 (some (.imm (encS (endS p (z07 p) es)))) s8 s9)=_
  unfold iff
  rw[za8 e1_]
  rfl
theorem zww {m:Int} {e:Et} (hb:okB p e) (hm:¬m % 7=0) (hm1:¬m % 7=1) (xe:z5q [encP p,.int (m / 8)]=some (encE e)) (s5 s8 s9:Option Sl) :
  bM (V ns p es s5 (some (.imm (.int m))) (some (.imm (encS (endS p (z07 p) es)))) s8 s9)=some (.nx (V ns p (es++[e]) s5 (some (.imm (.int m))) (some (.imm (encS (endS p (z07 p) es)))) s8 (some (.imm (encE e))))):=by
 have w:=we hp he hl
 obtain⟨r,hr,_,_,y7⟩:=modQ m 7
 obtain⟨q,hq,y8⟩:=divQ m 8
 subst hq
 have cl:=zil p es (z07 p)
 have tb1:(1:Nat)<=big:=by unfold big;omega
 have t0:tstB (op2 oEq (op2 oMod (nm 6) (cst (.int 7))) (cst (.int 0))) (V ns p es s5 (some (.imm (.int m))) (some (.imm (encS (endS p (z07 p) es)))) s8 s9)=some false:=za8 (z4e (z4e (x:=.int m) rfl rfl y7) rfl (by rw[z5m,decide_eq_false (by omega)]))
 have t1:tstB (op2 oEq (op2 oMod (nm 6) (cst (.int 7))) (cst (.int 1))) (V ns p es s5 (some (.imm (.int m))) (some (.imm (encS (endS p (z07 p) es)))) s8 s9)=some false:=za8 (z4e (z4e (x:=.int m) rfl rfl y7) rfl (by rw[z5m,decide_eq_false (by omega)]))
 unfold bM
 rw[zff t0,if_neg (by decide),zff t1,if_neg (by decide)]
 refine z4c (t:=encE e) ?_ ?_
 ·have d8:op2 oDiv (nm 6) (cst (.int 8)) (V ns p es s5 (some (.imm (.int m))) (some (.imm (encS (endS p (z07 p) es)))) s8 s9)=some (.int (m / 8)):=z4e (x:=.int m) rfl rfl y8
  simp only[opN,args,d8,y0q,y1t]
  exact xe
 simp only[V,y1m,y1j]
 refine z2a (ε':=[some (.imm (z0n ns)),some (.imm (encP p)),some (.obj .own 1 (bx p (es++[e]))),some (.obj .own 1 (bx p [])),some (.imm (.tuple (es.map encE))),s5,some (.imm (.int m)),some (.imm (encS (endS p (z07 p) es))),s8,some (.imm (encE e))]) ?_ ?_
 ·have x1:=do_m hp.wp w hb (es:=es) (pre:=Bo.chain p (z07 p) es) (by omega) (by omega) (md:=.own) (by decide) (i:=2) (ε:=[some (.imm (z0n ns)),some (.imm (encP p)),some (.obj .own 1 (bx p es)),some (.obj .own 1 (bx p [])),some (.imm (.tuple (es.map encE))),s5,some (.imm (.int m)),some (.imm (encS (endS p (z07 p) es))),s8,some (.imm (encE e))]) rfl (f:=nmV 9) rfl
  simp only[y1m,y1j] at x1
  have tw:Tw (nxt p (endS p (z07 p) es) e):=(Tw.fresh _).happen w.fresh hb.1
  have qn:=z66 (znp tw)
  have xw:=zk8 p (endS p (z07 p) es) e w hp.wp hb.1
  unfold iffX tstX op2X
  rw[zyl,x1]
  simp only[y0q]
  rw[<- zpa]
  have e2_:z9b (opN z7e [(nmV 1),(nmV 7),(nmV 9)]) [some (.imm (z0n ns)),some (.imm (encP p)),some (.obj .own 1 (bx p (es++[e]))),some (.obj .own 1 (bx p [])),some (.imm (.tuple (es.map encE))),s5,some (.imm (.int m)),some (.imm (encS (endS p (z07 p) es))),s8,some (.imm (encE e))]=some (.tuple ((nxt p (endS p (z07 p) es) e).told.map z8h),[some (.imm (z0n ns)),some (.imm (encP p)),some (.obj .own 1 (bx p (es++[e]))),some (.obj .own 1 (bx p [])),some (.imm (.tuple (es.map encE))),s5,some (.imm (.int m)),some (.imm (encS (endS p (z07 p) es))),s8,some (.imm (encE e))]):=by
   simp only[z9b,opN,args,nmV,y2h,y2g,y0q,y1t,xw]
   rfl
  rw[e2_]
  simp only[y0q,qn,y1t,y1w,if_false]
  rfl
 ·have hb2:es.length+1<=big:=by unfold big;omega
  have ad:op2 oAdd (nm 4) (z09 [(nmV 9)]) [some (.imm (z0n ns)),some (.imm (encP p)),some (.obj .own 1 (bx p (es++[e]))),some (.obj .own 1 (bx p [])),some (.imm (.tuple (es.map encE))),s5,some (.imm (.int m)),some (.imm (encS (endS p (z07 p) es))),s8,some (.imm (encE e))]=some (.tuple ((es++[e]).map encE)):=by
   refine z4e (x:=.tuple (es.map encE)) (y:=.tuple [encE e]) rfl ?_ ?_
   ·simp[z09,args,nmV,tb1]
   ·simp[oAdd,hb2]
  unfold asg
  rw[ad]
  rfl
theorem zuf {m:Int} (hm1:m % 7=1) (s5 s8 s9:Option Sl) :
  bM (V ns p es s5 (some (.imm (.int m))) (some (.imm (encS (endS p (z07 p) es)))) s8 s9)=some (.nx (V ns p es s5 (some (.imm (.int m))) (some (.imm (encS (endS p (z07 p) es)))) s8 s9)):=by
 have w:=we hp he hl
 obtain⟨r,hr,_,_,y7⟩:=modQ m 7
 obtain⟨q,hq,y8⟩:=divQ m 8
 obtain⟨r2,_,r20,r21,y2⟩:=modQ q 2
 have t0:tstB (op2 oEq (op2 oMod (nm 6) (cst (.int 7))) (cst (.int 0))) (V ns p es s5 (some (.imm (.int m))) (some (.imm (encS (endS p (z07 p) es)))) s8 s9)=some false:=za8 (z4e (z4e (x:=.int m) rfl rfl y7) rfl (by rw[z5m,decide_eq_false (by omega)]))
 have t1:tstB (op2 oEq (op2 oMod (nm 6) (cst (.int 7))) (cst (.int 1))) (V ns p es s5 (some (.imm (.int m))) (some (.imm (encS (endS p (z07 p) es)))) s8 s9)=some true:=za8 (z4e (z4e (x:=.int m) rfl rfl y7) rfl (by rw[z5m,decide_eq_true (by omega)]))
 have nz:∀z:Str,z∉(zN.map (·.2))->z∉p.zones.map (·.1):=fun z h q=>h (hp.zs.subset q)
 have tb2:(2:Nat)<=big:=by unfold big;omega
 have ok0:okN 1 (.tuple [.str "refused",.int 0]):=z10 fun x hx=>by
  simp only[y09,y2e,or_false] at hx
  rcases hx with rfl|rfl
  ·exact z2g 0 (z02 "refused")
  ·exact z74 0 0
 have mk:∀ε:Ev,z9b (z09 [(cst (.str "refused")),(cst (.int 0))]) ε=some (.tuple [.str "refused",.int 0],ε):=fun ε=>by simp[z9b,z09,args,cst,tb2]
 have qn:=z66 ok0
 unfold bM
 rw[zff t0,if_neg (by decide),zff t1,if_pos rfl]
 refine z2a (ε':=V ns p es s5 (some (.imm (.int m))) (some (.imm (encS (endS p (z07 p) es)))) s8 s9) ?_ ?_
 ·have x:=zwx (p:=p) (es:=es) (pre:=Bo.chain p (z07 p) es) (c:=endS p (z07 p) es) (md:=.own) hp.begun.zn (z02 "zzzz") (nz _ (by decide)) (by decide +kernel) (i:=2) (ε:=V ns p es s5 (some (.imm (.int m))) (some (.imm (encS (endS p (z07 p) es)))) s8 s9) rfl (f:=cst (.str "zzzz")) (g:=cst (.str "open")) rfl rfl (z0k 1 z2o 2 [(cst (.str "zzzz")),(cst (.str "open"))]) 0
  unfold iffX tstX op2X
  rw[x]
  simp only[y0q,mk]
  have qn':oNe (.tuple [.str "refused",.int ((0:Nat):Int)]) (.tuple [.str "refused",.int 0])=some (.bool false):=qn
  rw[qn']
  rfl
 ·have hd:∃d:Str,op2 oIx (z09 [(cst (.str "shunt")),(cst (.str "free"))]) (op2 oMod (op2 oDiv (nm 6) (cst (.int 8))) (cst (.int 2))) (V ns p es s5 (some (.imm (.int m))) (some (.imm (encS (endS p (z07 p) es)))) s8 s9)=some (.str d):=by
   have e1_:z09 [(cst (.str "shunt")),(cst (.str "free"))] (V ns p es s5 (some (.imm (.int m))) (some (.imm (encS (endS p (z07 p) es)))) s8 s9)=some (.tuple [.str "shunt",.str "free"]):=by simp[z09,args,cst,tb2]
   have e2_:op2 oMod (op2 oDiv (nm 6) (cst (.int 8))) (cst (.int 2)) (V ns p es s5 (some (.imm (.int m))) (some (.imm (encS (endS p (z07 p) es)))) s8 s9)=some (.int r2):=z4e (z4e (x:=.int m) rfl rfl y8) rfl y2
   have hr2:r2=0\/r2=1:=by omega
   rcases hr2 with rfl|rfl
   ·exact⟨"shunt",z4e e1_ e2_ rfl⟩
   ·exact⟨"free",z4e e1_ e2_ rfl⟩
  obtain⟨d,hd⟩:=hd
  have x:=zxd (p:=p) (es:=es) (pre:=Bo.chain p (z07 p) es) (c:=endS p (z07 p) es) (md:=.own) hp.begun.zn (z02 "none") (nz _ (by decide)) (by decide +kernel) (i:=2) (ε:=V ns p es s5 (some (.imm (.int m))) (some (.imm (encS (endS p (z07 p) es)))) s8 s9) rfl (f:=cst (.str "1234")) (k:=cst (.str "none")) rfl hd rfl (z0k 1 z2p 2 [(cst (.str "1234")),(op2 oIx (z09 [(cst (.str "shunt")),(cst (.str "free"))]) (op2 oMod (op2 oDiv (nm 6) (cst (.int 8))) (cst (.int 2)))),(cst (.str "none"))]) 0
  unfold iffX tstX op2X
  rw[x]
  simp only[y0q,mk]
  have qn':oNe (.tuple [.str "refused",.int ((0:Nat):Int)]) (.tuple [.str "refused",.int 0])=some (.bool false):=qn
  rw[qn']
  rfl
omit hp he hl in
theorem zsj (r:List T) (h:r=[.str "told",.none]\/r=[.str "refused",.int 2]):okN 1 (.tuple r):=z10 fun x hx=>by
 rcases h with rfl|rfl
 ·simp only[y09,y2e,or_false] at hx
  rcases hx with rfl|rfl
  ·exact z2g 0 (z02 "told")
  ·exact zkq 0
 ·simp only[y09,y2e,or_false] at hx
  rcases hx with rfl|rfl
  ·exact z2g 0 (z02 "refused")
  ·exact z74 0 2
omit hp he hl in
theorem zsy (ε:Ev) (b:Bool) (h:op2 oEq (nm 4) (z09 []) ε=some (.bool b)):op2 oIx (z3j [(z09 [(cst (.str "told")),(cst .none)]),(z09 [(cst (.str "refused")),(cst (.int 2))])]) (opN oInt [(op2 oEq (nm 4) (z09 []))]) ε=some (.tuple (if b then [.str "refused",.int 2] else [.str "told",.none])):=by
 have tb2:(2:Nat)<=big:=by unfold big;omega
 have e1_:z3j [(z09 [(cst (.str "told")),(cst .none)]),(z09 [(cst (.str "refused")),(cst (.int 2))])] ε=some (.list [.tuple [.str "told",.none],.tuple [.str "refused",.int 2]]):=by simp[z3j,z09,args,cst,tb2]
 have e2_:opN oInt [(op2 oEq (nm 4) (z09 []))] ε=some (.int (if b then 1 else 0)):=by
  simp only[opN,args,h,y0q,y1t,oInt]
 refine z4e e1_ e2_ ?_
 cases b <;> rfl
theorem zqx {m:Int} (hm:m % 7=0) (s5 s8 s9:Option Sl) :
  ∃es' s8',(∀e∈es',okB p e)/\es'.length<=es.length/\bM (V ns p es s5 (some (.imm (.int m))) (some (.imm (encS (endS p (z07 p) es)))) s8 s9)=some (.nx (V ns p es' s5 (some (.imm (.int m))) (some (.imm (encS (endS p (z07 p) es)))) s8' s9)):=by
 have w:=we hp he hl
 obtain⟨r,hr,_,_,y7⟩:=modQ m 7
 have t0:tstB (op2 oEq (op2 oMod (nm 6) (cst (.int 7))) (cst (.int 0))) (V ns p es s5 (some (.imm (.int m))) (some (.imm (encS (endS p (z07 p) es)))) s8 s9)=some true:=za8 (z4e (z4e (x:=.int m) rfl rfl y7) rfl (by rw[z5m,decide_eq_true (by omega)]))
 have tb0:(0:Nat)<=big:=by unfold big;omega
 have e0:z09 [] (V ns p es s5 (some (.imm (.int m))) (some (.imm (encS (endS p (z07 p) es)))) s8 s9)=some (.tuple []):=by simp[z09,args]
 have okE:okN 2 (.tuple []):=z10 fun x hx=>by cases hx
 rcases List.eq_nil_or_concat es with rfl|⟨es',e,rfl⟩
 ·refine⟨[],some (.imm (.tuple [.str "refused",.int 2])),he,y0p _,?_⟩
  unfold bM
  rw[zff t0,if_pos rfl]
  refine z4c (zsy _ true (z4e (x:=.tuple []) rfl e0 (by rw[zsl okE okE];rfl))) ?_
  simp only[V,y1m,y1j,if_true]
  refine z2a (ε':=V ns p [] s5 (some (.imm (.int m))) (some (.imm (encS (endS p (z07 p) [])))) (some (.imm (.tuple [.str "refused",.int 2]))) s9) ?_ rfl
  have x:=zta (p:=p) (pre:=[]) (c:=z07 p) (md:=.own) (i:=2) (ε:=V ns p [] s5 (some (.imm (.int m))) (some (.imm (encS (endS p (z07 p) [])))) (some (.imm (.tuple [.str "refused",.int 2]))) s9) rfl (z0k 1 z3t 2 []) 2
  have qn:=z66 (zsj _ (.inr rfl))
  show iffX _ _ _ (V ns p [] s5 (some (.imm (.int m))) (some (.imm (encS (endS p (z07 p) [])))) (some (.imm (.tuple [.str "refused",.int 2]))) s9)=_
  unfold iffX tstX op2X
  rw[x]
  simp only[y0q]
  have e2_:z9b (nmV 8) (V ns p [] s5 (some (.imm (.int m))) (some (.imm (encS (endS p (z07 p) [])))) (some (.imm (.tuple [.str "refused",.int 2]))) s9)=some (.tuple [.str "refused",.int 2],V ns p [] s5 (some (.imm (.int m))) (some (.imm (encS (endS p (z07 p) [])))) (some (.imm (.tuple [.str "refused",.int 2]))) s9):=rfl
  rw[e2_]
  have qn':oNe (.tuple [.str "refused",.int ((2:Nat):Int)]) (.tuple [.str "refused",.int 2])=some (.bool false):=qn
  simp only[y0q,qn']
  rfl
 ·rw[List.concat_eq_append] at *
  refine⟨es',some (.imm (.tuple [.str "told",.none])),fun y hy=>he y (List.mem_append_left _ hy),by simp,?_⟩
  unfold bM
  rw[zff t0,if_pos rfl]
  have nn:y24 (.tuple ((es'++[e]).map encE)) (.tuple [])=false:=by
   cases es' with
   | nil=>simp[y24,PyData.eqvAll]
   | cons a b=>simp[y24,PyData.eqvAll]
  refine z4c (zsy _ false (z4e (x:=.tuple ((es'++[e]).map encE)) rfl e0 (by rw[zsl (zs6 hp he hl) okE,nn]))) ?_
  simp only[V,y1m,y1j,y1w,if_false]
  have x:=zve (p:=p) (es:=es') (pre:=Bo.chain p (z07 p) es') (c:=endS p (z07 p) es') e (nxt p (endS p (z07 p) es') e) (md:=.own) (i:=2) (ε:=V ns p (es'++[e]) s5 (some (.imm (.int m))) (some (.imm (encS (endS p (z07 p) (es'++[e]))))) (some (.imm (.tuple [.str "told",.none]))) s9) (by decide) (by rw[<- zpa];rfl) 2
  simp only[V,y1m,y1j] at x
  refine z2a (ε':=[some (.imm (z0n ns)),some (.imm (encP p)),some (.obj .own 1 (bx p es')),some (.obj .own 1 (bx p [])),some (.imm (.tuple ((es'++[e]).map encE))),s5,some (.imm (.int m)),some (.imm (encS (endS p (z07 p) (es'++[e])))),some (.imm (.tuple [.str "told",.none])),s9]) ?_ ?_
  ·have qn:=z66 (zsj _ (.inl rfl))
   unfold iffX tstX op2X
   rw[x]
   simp only[y0q]
   have e2_:z9b (nmV 8) [some (.imm (z0n ns)),some (.imm (encP p)),some (.obj .own 1 (bx p es')),some (.obj .own 1 (bx p [])),some (.imm (.tuple ((es'++[e]).map encE))),s5,some (.imm (.int m)),some (.imm (encS (endS p (z07 p) (es'++[e])))),some (.imm (.tuple [.str "told",.none])),s9]=some (.tuple [.str "told",.none],[some (.imm (z0n ns)),some (.imm (encP p)),some (.obj .own 1 (bx p es')),some (.obj .own 1 (bx p [])),some (.imm (.tuple ((es'++[e]).map encE))),s5,some (.imm (.int m)),some (.imm (encS (endS p (z07 p) (es'++[e])))),some (.imm (.tuple [.str "told",.none])),s9]):=rfl
   have bd:encB p es' (Bo.chain p (z07 p) es') (endS p (z07 p) es')=bx p es':=rfl
   rw[bd,e2_]
   simp only[y0q,qn]
   rfl
  ·have em:(es'++[e]).map encE=es'.map encE++[encE e]:=by simp
   have sc:slice (nm 4) optN (opt (op1 oNeg (cst (.int 1)))) [some (.imm (z0n ns)),some (.imm (encP p)),some (.obj .own 1 (bx p es')),some (.obj .own 1 (bx p [])),some (.imm (.tuple ((es'++[e]).map encE))),s5,some (.imm (.int m)),some (.imm (encS (endS p (z07 p) (es'++[e])))),some (.imm (.tuple [.str "told",.none])),s9]=some (.tuple (es'.map encE)):=by
    show some (PyData.tuple (cutZ ((es'++[e]).map encE) none (some (-1))))=_
    rw[em,zri]
   unfold asg
   rw[sc]
   rfl
end
theorem loop {ns:List Int} {p:Pl} (hp:DP p):∀(l:List Nat) (es:List Et) (s5 s6 s7 s8 s9:Option Sl),(∀e∈es,okB p e)->es.length+l.length<=100 ->
  ∃es' t5 t6 t7 t8 t9,(∀e∈es',okB p e)/\forL (gNm 5) bL (l.map fun (k:Nat)=>.int (k:Int)) (V ns p es s5 s6 s7 s8 s9)=some (.nx (V ns p es' t5 t6 t7 t8 t9))
 | [],es,s5,s6,s7,s8,s9,he,_=>⟨es,s5,s6,s7,s8,s9,he,rfl⟩
 | k::l,es,s5,s6,s7,s8,s9,he,hl=>by
  simp only[y0w] at hl
  obtain⟨m,hm0,xm⟩:=zgd ns (2+k)
  have mid:∃es' s8' s9',(∀e∈es',okB p e)/\es'.length<=es.length+1/\bM (V ns p es (some (.imm (.int (k:Int)))) (some (.imm (.int m))) (some (.imm (encS (endS p (z07 p) es)))) s8 s9)=some (.nx (V ns p es' (some (.imm (.int (k:Int)))) (some (.imm (.int m))) (some (.imm (encS (endS p (z07 p) es)))) s8' s9')):=by
   by_cases h0:m % 7=0
   ·obtain⟨es',s8',h1,h2,h3⟩:=zqx (ns:=ns) hp he (by omega) h0 (some (.imm (.int (k:Int)))) s8 s9
    exact⟨es',s8',s9,h1,by omega,h3⟩
   ·by_cases h1:m % 7=1
    ·exact⟨es,s8,s9,he,by omega,zuf hp he (by omega) h1 _ _ _⟩
    ·obtain⟨e,de,xe⟩:=zre hp (m / 8)
     exact⟨es++[e],s8,_,fun y hy=>by
      rcases y11.mp hy with q|q
      ·exact he y q
      ·rw[y0z.mp q]
       exact zsz de,by simp,zww hp he (by omega) (zsz de) h0 h1 xe _ _ _⟩
  obtain⟨es',s8',s9',he',hl',xM⟩:=mid
  obtain⟨es2,t5,t6,t7,t8,t9,he2,ih⟩:=loop hp l es' (some (.imm (.int (k:Int)))) (some (.imm (.int m))) (some (.imm (encS (endS p (z07 p) es')))) s8' s9' he' (by omega)
  refine⟨es2,t5,t6,t7,t8,t9,he2,?_⟩
  have step:bL (V ns p es (some (.imm (.int (k:Int)))) s6 s7 s8 s9)=some (.nx (V ns p es' (some (.imm (.int (k:Int)))) (some (.imm (.int m))) (some (.imm (encS (endS p (z07 p) es')))) s8' s9')):=by
   unfold bL
   refine z4c (t:=.int m) ?_ ?_
   ·have xm':z25 [z0n ns,.int (2+(k:Int))]=some (.int m):=by
     have e:((2+k:Nat):Int)=2+(k:Int):=by omega
     rw[<- e]
     exact xm
    have ad:op2 oAdd (cst (.int 2)) (nm 5) (V ns p es (some (.imm (.int (k:Int)))) s6 s7 s8 s9)=some (.int (2+(k:Int))):=z4e rfl rfl z8q
    simp only[opN,args,ad,y0q,y1t]
    exact xm'
   simp only[V,y1m,y1j]
   refine z4c (zt2 hp he (by omega) rfl rfl) ?_
   simp only[y1m,y1j]
   exact z2a xM (ztb hp he' (by omega) _ _ _ _ _)
  rw[y0e,forL]
  have g:gNm 5 (.int (k:Int)) (V ns p es s5 s6 s7 s8 s9)=some (V ns p es (some (.imm (.int (k:Int)))) s6 s7 s8 s9):=rfl
  rw[g]
  simp only[y0q,step]
  exact ih
theorem zr1 (ns:List Int) (h:ns.length<=63):zm8 [z0n ns]=some (.bool true):=by
 obtain⟨m0,hm0,x0⟩:=zgd ns 0
 obtain⟨m1,hm1,x1⟩:=zgd ns 1
 obtain⟨p,hp,xp⟩:=ztw m0
 obtain⟨r,_,r0,r1,y⟩:=modQ m1 17
 have zl:=hp.zl
 have xi:=zrp hp.wp (by omega)
 have x0':z25 [z0n ns,.int 0]=some (.int m0):=x0
 have x1':z25 [z0n ns,.int 1]=some (.int m1):=x1
 obtain⟨n,hn⟩:∃n:Nat,r=(n:Int):=⟨r.toNat,by omega⟩
 subst hn
 obtain⟨es',t5,t6,t7,t8,t9,he',xL⟩:=loop (ns:=ns) hp (List.range n) [] none none none none none (fun e he=>by cases he) (by simp;omega)
 have xb:=zce p (by omega) hp.wp
 suffices hs:zv9 [some (.imm (z0n ns)),none,none,none,none,none,none,none,none,none]=some (.rt (.bool true)) by
  unfold zm8 runF
  simp only[y0e,y1a,y0w,y2j,y2o,y2n]
  exact congrArg (fun o=>Option.bind o _) hs
 unfold zv9
 refine z4c (t:=encP p) (by simp only[opN,args,nmV,cst,y2g,y0q,y1t,x0',xp]) ?_
 simp only[y1m,y1j]
 refine z2a (ε':=[some (.imm (z0n ns)),some (.imm (encP p)),some (.obj .own 1 (encB p [] [] (z07 p))),none,none,none,none,none,none,none]) ?_ ?_
 ·simp only[asgO,newO,args,nmV,y2h,y2g,y0q,y1t,y0e,y1a,xi,y1m,y1j]
 refine z2a (ε':=[some (.imm (z0n ns)),some (.imm (encP p)),some (.obj .own 1 (encB p [] [] (z07 p))),some (.obj .own 1 (encB p [] [] (z07 p))),none,none,none,none,none,none]) ?_ ?_
 ·simp only[asgO,newO,args,nmV,y2h,y2g,y0q,y1t,y0e,y1a,xi,y1m,y1j]
 refine z4c (t:=.tuple []) (by simp[z09,args]) ?_
 simp only[y1m,y1j]
 refine z2a (ε':=V ns p es' t5 t6 t7 t8 t9) ?_ ?_
 ·have it:z7u (op2 oMod (opN z25 [(nmV 0),(cst (.int 1))]) (cst (.int 17))) (V ns p [] none none none none none)=some ((List.range n).map fun (k:Nat)=>PyData.int (k:Int)):=by
   have e1_:op2 oMod (opN z25 [(nmV 0),(cst (.int 1))]) (cst (.int 17)) (V ns p [] none none none none none)=some (.int (n:Int)):=by
    refine z4e (x:=.int m1) ?_ rfl y
    simp only[opN,args,nmV,cst,V,y2g,y0q,y1t,x1']
   rw[zx5 e1_ (by omega) (by omega)]
   unfold rng
   simp
  show for_ _ (gNm 5) bL (V ns p [] none none none none none)=_
  unfold for_
  rw[it]
  exact xL
 have w0:=hp.begun
 have ok0:okN 2 (.tuple ([]:List T)):=z10 fun x hx=>by cases hx
 have a1:op2 oEq (z1s 1 z0w 3 []) (opN z33 [(nmV 1)]) (V ns p es' t5 t6 t7 t8 t9)=some (.bool true):=by
  refine z4e (zdj (i:=3) (md:=.own) (p:=p) (es:=[]) (pre:=[]) (c:=z07 p) rfl) ?_ (zga (zkr w0))
  simp only[opN,args,nmV,V,y2h,y2g,y0q,y1t,xb]
 have em:∀ε:Ev,z09 [] ε=some (.tuple []):=fun ε=>by simp[z09,args]
 have a2:op2 oEq (z1s 1 z2w 3 []) (z09 []) (V ns p es' t5 t6 t7 t8 t9)=some (.bool true):=z4e ((r_m (i:=3) (md:=.own) (p:=p) (es:=[]) (pre:=[]) (c:=z07 p) _ rfl).trans (zjy (by simp))) (em _) (zga ok0)
 have a3:op2 oEq (z1s 1 z47 3 []) (z09 []) (V ns p es' t5 t6 t7 t8 t9)=some (.bool true):=z4e ((r_m (i:=3) (md:=.own) (p:=p) (es:=[]) (pre:=[]) (c:=z07 p) _ rfl).trans (zpe hp.wp w0 (fun e he=>by cases he) (by simp))) (em _) (zga ok0)
 unfold rtn andV
 rw[a1]
 simp only[y0q]
 rw[a2]
 simp only[y0q,a3,y1t]
end K40
end
end
section
namespace K40
open PySem PySem.Spec PyProof.Rows L2 D Co Bo Bz
set_option hygiene false in
local macro_rules | `(unop% lk ($f, $oc, $od, $n, $q, $s, $a, $b, $c, $d, $e, $g, $h)) => `(K.lookup $f = some ⟨$oc, $od, .func (y0j $n $q (z5p $s) (z0o $s) (z01 $s) .none $a $b $c $d $e $g), $h⟩)
set_option hygiene false in
local macro_rules | `(binop% cd $c $q) => `(y0g K $c $q = true)
set_option hygiene false in
local macro_rules | `(unop% kp $c) => `(y08 K (.ref $c) = true)
set_option hygiene false in
local macro_rules | `(unop% fi $c) => `(PySem.W.isFn K (.ref $c) = true)
set_option hygiene false in
local macro_rules | `(binop% ns $q $c) => `(PySem.W.nsIn K y0o $q = some (some (.ref $c)))
set_option hygiene false in
local macro_rules | `(unop% zn $q) => `(PySem.W.nsIn K y0o $q = some none)
set_option hygiene false in
local macro_rules | `(unop% fn ($C, $q, $c)) => `(y0d K (.ref $C) $q = some (some (.ref $c)))
set_option hygiene false in
local macro_rules | `(binop% fz $C $q) => `(y0d K (.ref $C) $q = some none)
local macro_rules | `(unop% mo $x) => `(($x).mono (by decide))
set_option hygiene false in
local macro_rules | `(unop% kk ($f $n $as*)) => `($f (P := l.prog) (w := w) (mg := mg) (base := base) (k := $n) $as*)
theorem all_mk {l:PySem.W.OpenLaw} {w:World} {K:y00} {h:Heap} {mg:Str->Option Value} {fa CCourse CBox f1 f2 f3 f4 f5 f6 f7 f8 f9 f10 f11 f12 f13 f14 f15 f16 f17 f18 f19 f20 f21 f22 f23 f24 f25 f26 f27 f28 f29 f30 f31 f32 f33 f34 f35 f36 f37 f38 f39 f40 f41 f42 f44 f45 f46 f47 f48 f49 f50 f51 f52 f53 f54 a_KINDS_SHUT_TO_SET a_KINDS_LEFT_BY a_DEEDS_OF_ZONES cL XD xz xw xd xt:Addr} {od1 an1 od2 an2 od3 an3 od4 an4 od5 an5 od6 an6 od7 an7 od8 an8 od9 an9 od10 an10 od11 an11 od12 an12 od13 an13 od14 an14 od15 an15 od16 an16 od17 an17 od18 an18 od19 an19 od20 an20 od21 an21 od22 an22 od23 an23 od24 an24 od25 an25 od26 an26 od27 an27 od28 an28 od29 an29 od30 an30 od31 an31 od32 an32 od33 an33 od34 an34 od35 an35 od36 an36 od37 an37 od38 an38 od39 an39 od40 an40 od41 an41 od42 an42 od44 an44 od45 an45 od46 an46 od47 an47 od48 an48 od49 an49 od50 an50 od51 an51 od52 an52 od53 an53 od54 an54 od_KINDS_SHUT_TO_SET od_KINDS_LEFT_BY od_DEEDS_OF_ZONES:Option Addr} {sl1 sl2 sl3 sl4 sl5 sl6 sl7 sl8 sl9 sl10 sl11 sl12 sl13 sl14 sl15 sl16 sl17 sl18 sl19 sl20 sl21 sl22 sl23 sl24 sl25 sl26 sl27 sl28 sl29 sl30 sl31 sl32 sl33 sl34 sl35 sl36 sl37 sl38 sl39 sl40 sl41 sl42 sl44 sl45 sl46 sl47 sl48 sl49 sl50 sl51 sl52 sl53 sl54 sl_KINDS_SHUT_TO_SET sl_KINDS_LEFT_BY sl_DEEDS_OF_ZONES:Array (Option Value)} {oc1 kV1 dc1 pm1 cd1 ct1 oc2 kV2 dc2 pm2 cd2 ct2 oc3 kV3 dc3 pm3 cd3 ct3 oc4 kV4 dc4 pm4 cd4 ct4 oc5 kV5 dc5 pm5 cd5 ct5 oc6 kV6 dc6 pm6 cd6 ct6 oc7 kV7 dc7 pm7 cd7 ct7 oc8 kV8 dc8 pm8 cd8 ct8 oc9 kV9 dc9 pm9 cd9 ct9 oc10 kV10 dc10 pm10 cd10 ct10 oc11 kV11 dc11 pm11 cd11 ct11 oc12 kV12 dc12 pm12 cd12 ct12 oc13 kV13 dc13 pm13 cd13 ct13 oc14 kV14 dc14 pm14 cd14 ct14 oc15 kV15 dc15 pm15 cd15 ct15 oc16 kV16 dc16 pm16 cd16 ct16 oc17 kV17 dc17 pm17 cd17 ct17 oc18 kV18 dc18 pm18 cd18 ct18 oc19 kV19 dc19 pm19 cd19 ct19 oc20 kV20 dc20 pm20 cd20 ct20 oc21 kV21 dc21 pm21 cd21 ct21 oc22 kV22 dc22 pm22 cd22 ct22 oc23 kV23 dc23 pm23 cd23 ct23 oc24 kV24 dc24 pm24 cd24 ct24 oc25 kV25 dc25 pm25 cd25 ct25 oc26 kV26 dc26 pm26 cd26 ct26 oc27 kV27 dc27 pm27 cd27 ct27 oc28 kV28 dc28 pm28 cd28 ct28 oc29 kV29 dc29 pm29 cd29 ct29 oc30 kV30 dc30 pm30 cd30 ct30 oc31 kV31 dc31 pm31 cd31 ct31 oc32 kV32 dc32 pm32 cd32 ct32 oc33 kV33 dc33 pm33 cd33 ct33 oc34 kV34 dc34 pm34 cd34 ct34 oc35 kV35 dc35 pm35 cd35 ct35 oc36 kV36 dc36 pm36 cd36 ct36 oc37 kV37 dc37 pm37 cd37 ct37 oc38 kV38 dc38 pm38 cd38 ct38 oc39 kV39 dc39 pm39 cd39 ct39 oc40 kV40 dc40 pm40 cd40 ct40 oc41 kV41 dc41 pm41 cd41 ct41 oc42 kV42 dc42 pm42 cd42 ct42 oc44 kV44 dc44 pm44 cd44 ct44 oc45 kV45 dc45 pm45 cd45 ct45 oc46 kV46 dc46 pm46 cd46 ct46 oc47 kV47 dc47 pm47 cd47 ct47 oc48 kV48 dc48 pm48 cd48 ct48 oc49 kV49 dc49 pm49 cd49 ct49 oc50 kV50 dc50 pm50 cd50 ct50 oc51 kV51 dc51 pm51 cd51 ct51 oc52 kV52 dc52 pm52 cd52 ct52 oc53 kV53 dc53 pm53 cd53 ct53 oc54 kV54 dc54 pm54 ct54:Value} {t_WRONG_IN_A_ROW t_TICKS_LOCKED t_KINDS_SHUT_TO_SET0 t_KINDS_SHUT_TO_SET1 t_KINDS_LEFT_BY0 t_KINDS_LEFT_BY1 t_DEEDS_OF_ZONES0 t_DEEDS_OF_ZONES1:Tok} {n_KINDS_SHUT_TO_SET n_KINDS_LEFT_BY n_DEEDS_OF_ZONES:Nat} (X:K.In h) (G:h.Ns y0o mg) (hfa:mg "law"=some (.ref fa)) (aCCourse:binop% ns "Course" CCourse) (pgCourse:PySem.W.plainGet K CCourse Str.empty=true) (hdCourse:PySem.W.hasDictIn K CCourse=true) (poCourse:PySem.W.plainOver K CCourse=true) (saCourse:y0d K (.ref CCourse) "__setattr__"=some (some (.builtin "object.__setattr__"))) (mkCourse:PySem.W.makesIn K CCourse=true) (kpCourse:unop% kp CCourse) (naCourse0:binop% fz CCourse "plan") (naCourse1:binop% fz CCourse "mode") (naCourse2:binop% fz CCourse "left") (naCourse3:binop% fz CCourse "came") (naCourse4:binop% fz CCourse "lines") (naCourse5:binop% fz CCourse "shunts") (naCourse6:binop% fz CCourse "siren") (naCourse7:binop% fz CCourse "alarms") (naCourse8:binop% fz CCourse "tries") (naCourse9:binop% fz CCourse "locked") (naCourse10:binop% fz CCourse "used") (naCourse11:binop% fz CCourse "past") (naCourse12:binop% fz CCourse "told") (aCBox:binop% ns "Box" CBox) (pgBox:PySem.W.plainGet K CBox Str.empty=true) (hdBox:PySem.W.hasDictIn K CBox=true) (poBox:PySem.W.plainOver K CBox=true) (saBox:y0d K (.ref CBox) "__setattr__"=some (some (.builtin "object.__setattr__"))) (mkBox:PySem.W.makesIn K CBox=true) (kpBox:unop% kp CBox) (naBox0:binop% fz CBox "plan") (naBox1:binop% fz CBox "events") (naBox2:binop% fz CBox "states") (a1:binop% ns "_law_drawn" f1) (l1:unop% lk (f1,oc1,od1,"_law_drawn","_law_drawn",zah,kV1,dc1,pm1,an1,cd1,ct1,sl1)) (c1:binop% cd cd1 "_law_drawn") (k1:unop% kp f1) (a2:binop% ns "_law_plan" f2) (l2:unop% lk (f2,oc2,od2,"_law_plan","_law_plan",zae,kV2,dc2,pm2,an2,cd2,ct2,sl2)) (c2:binop% cd cd2 "_law_plan") (k2:unop% kp f2) (a3:binop% ns "begun" f3) (l3:unop% lk (f3,oc3,od3,"begun","begun",zba,kV3,dc3,pm3,an3,cd3,ct3,sl3)) (c3:binop% cd cd3 "begun") (k3:unop% kp f3) (a4:unop% fn (CBox,"__init__",f4)) (i4:unop% fi f4) (l4:unop% lk (f4,oc4,od4,"__init__","Box.__init__",z4t,kV4,dc4,pm4,an4,cd4,ct4,sl4)) (c4:binop% cd cd4 "Box.__init__") (k4:unop% kp f4) (a5:binop% ns "_law_cell_at" f5) (l5:unop% lk (f5,oc5,od5,"_law_cell_at","_law_cell_at",z6y,kV5,dc5,pm5,an5,cd5,ct5,sl5)) (c5:binop% cd cd5 "_law_cell_at") (k5:unop% kp f5) (a6:binop% ns "_law_mixed" f6) (l6:unop% lk (f6,oc6,od6,"_law_mixed","_law_mixed",zaf,kV6,dc6,pm6,an6,cd6,ct6,sl6)) (c6:binop% cd cd6 "_law_mixed") (k6:unop% kp f6) (a7:unop% fn (CCourse,"state",f7)) (i7:unop% fi f7) (l7:unop% lk (f7,oc7,od7,"state","Course.state",z4r,kV7,dc7,pm7,an7,cd7,ct7,sl7)) (c7:binop% cd cd7 "Course.state") (k7:unop% kp f7) (a8:unop% fn (CCourse,"__init__",f8)) (i8:unop% fi f8) (l8:unop% lk (f8,oc8,od8,"__init__","Course.__init__",z1i,kV8,dc8,pm8,an8,cd8,ct8,sl8)) (c8:binop% cd cd8 "Course.__init__") (k8:unop% kp f8) (a9:unop% fn (CCourse,"tell",f9)) (i9:unop% fi f9) (l9:unop% lk (f9,oc9,od9,"tell","Course.tell",z5d,kV9,dc9,pm9,an9,cd9,ct9,sl9)) (c9:binop% cd cd9 "Course.tell") (k9:unop% kp f9) (a10:binop% ns "kind_of" f10) (l10:unop% lk (f10,oc10,od10,"kind_of","kind_of",z85,kV10,dc10,pm10,an10,cd10,ct10,sl10)) (c10:binop% cd cd10 "kind_of") (k10:unop% kp f10) (a11:unop% fn (CCourse,"be_loud",f11)) (i11:unop% fi f11) (l11:unop% lk (f11,oc11,od11,"be_loud","Course.be_loud",z3h,kV11,dc11,pm11,an11,cd11,ct11,sl11)) (c11:binop% cd cd11 "Course.be_loud") (k11:unop% kp f11) (a12:unop% fn (CCourse,"alarm",f12)) (i12:unop% fi f12) (l12:unop% lk (f12,oc12,od12,"alarm","Course.alarm",z4s,kV12,dc12,pm12,an12,cd12,ct12,sl12)) (c12:binop% cd cd12 "Course.alarm") (k12:unop% kp f12) (a13:unop% fn (CCourse,"come_in",f13)) (i13:unop% fi f13) (l13:unop% lk (f13,oc13,od13,"come_in","Course.come_in",z3g,kV13,dc13,pm13,an13,cd13,ct13,sl13)) (c13:binop% cd cd13 "Course.come_in") (k13:unop% kp f13) (a14:unop% fn (CCourse,"disturb",f14)) (i14:unop% fi f14) (l14:unop% lk (f14,oc14,od14,"disturb","Course.disturb",z3f,kV14,dc14,pm14,an14,cd14,ct14,sl14)) (c14:binop% cd cd14 "Course.disturb") (k14:unop% kp f14) (a15:unop% fn (CCourse,"line",f15)) (i15:unop% fi f15) (l15:unop% lk (f15,oc15,od15,"line","Course.line",z5e,kV15,dc15,pm15,an15,cd15,ct15,sl15)) (c15:binop% cd cd15 "Course.line") (k15:unop% kp f15) (a16:binop% ns "code_of" f16) (l16:unop% lk (f16,oc16,od16,"code_of","code_of",zai,kV16,dc16,pm16,an16,cd16,ct16,sl16)) (c16:binop% cd cd16 "code_of") (k16:unop% kp f16) (a17:unop% fn (CCourse,"is_used_up",f17)) (i17:unop% fi f17) (l17:unop% lk (f17,oc17,od17,"is_used_up","Course.is_used_up",z2d,kV17,dc17,pm17,an17,cd17,ct17,sl17)) (c17:binop% cd cd17 "Course.is_used_up") (k17:unop% kp f17) (a18:unop% fn (CCourse,"take_wrong",f18)) (i18:unop% fi f18) (l18:unop% lk (f18,oc18,od18,"take_wrong","Course.take_wrong",z2b,kV18,dc18,pm18,an18,cd18,ct18,sl18)) (c18:binop% cd cd18 "Course.take_wrong") (k18:unop% kp f18) (a19:unop% fn (CCourse,"is_untimely",f19)) (i19:unop% fi f19) (l19:unop% lk (f19,oc19,od19,"is_untimely","Course.is_untimely",z21,kV19,dc19,pm19,an19,cd19,ct19,sl19)) (c19:binop% cd cd19 "Course.is_untimely") (k19:unop% kp f19) (a20:unop% fn (CCourse,"bare_zones",f20)) (i20:unop% fi f20) (l20:unop% lk (f20,oc20,od20,"bare_zones","Course.bare_zones",z13,kV20,dc20,pm20,an20,cd20,ct20,sl20)) (c20:binop% cd cd20 "Course.bare_zones") (k20:unop% kp f20) (a21:unop% fn (CCourse,"what_is_against",f21)) (i21:unop% fi f21) (l21:unop% lk (f21,oc21,od21,"what_is_against","Course.what_is_against",z1b,kV21,dc21,pm21,an21,cd21,ct21,sl21)) (c21:binop% cd cd21 "Course.what_is_against") (k21:unop% kp f21) (a22:unop% fn (CCourse,"end_leaving",f22)) (i22:unop% fi f22) (l22:unop% lk (f22,oc22,od22,"end_leaving","Course.end_leaving",z22,kV22,dc22,pm22,an22,cd22,ct22,sl22)) (c22:binop% cd cd22 "Course.end_leaving") (k22:unop% kp f22) (a23:unop% fn (CCourse,"do_set",f23)) (i23:unop% fi f23) (l23:unop% lk (f23,oc23,od23,"do_set","Course.do_set",z41,kV23,dc23,pm23,an23,cd23,ct23,sl23)) (c23:binop% cd cd23 "Course.do_set") (k23:unop% kp f23) (a24:unop% fn (CCourse,"do_unset",f24)) (i24:unop% fi f24) (l24:unop% lk (f24,oc24,od24,"do_unset","Course.do_unset",z2z,kV24,dc24,pm24,an24,cd24,ct24,sl24)) (c24:binop% cd cd24 "Course.do_unset") (k24:unop% kp f24) (a25:unop% fn (CCourse,"do_deed",f25)) (i25:unop% fi f25) (l25:unop% lk (f25,oc25,od25,"do_deed","Course.do_deed",z3e,kV25,dc25,pm25,an25,cd25,ct25,sl25)) (c25:binop% cd cd25 "Course.do_deed") (k25:unop% kp f25) (a26:unop% fn (CCourse,"take_right",f26)) (i26:unop% fi f26) (l26:unop% lk (f26,oc26,od26,"take_right","Course.take_right",z2c,kV26,dc26,pm26,an26,cd26,ct26,sl26)) (c26:binop% cd cd26 "Course.take_right") (k26:unop% kp f26) (a27:unop% fn (CCourse,"code",f27)) (i27:unop% fi f27) (l27:unop% lk (f27,oc27,od27,"code","Course.code",z5f,kV27,dc27,pm27,an27,cd27,ct27,sl27)) (c27:binop% cd cd27 "Course.code") (k27:unop% kp f27) (a28:binop% ns "lessened" f28) (l28:unop% lk (f28,oc28,od28,"lessened","lessened",z8v,kV28,dc28,pm28,an28,cd28,ct28,sl28)) (c28:binop% cd cd28 "lessened") (k28:unop% kp f28) (a29:unop% fn (CCourse,"count_down",f29)) (i29:unop% fi f29) (l29:unop% lk (f29,oc29,od29,"count_down","Course.count_down",z2f,kV29,dc29,pm29,an29,cd29,ct29,sl29)) (c29:binop% cd cd29 "Course.count_down") (k29:unop% kp f29) (a30:unop% fn (CCourse,"end_coming",f30)) (i30:unop% fi f30) (l30:unop% lk (f30,oc30,od30,"end_coming","Course.end_coming",z2e,kV30,dc30,pm30,an30,cd30,ct30,sl30)) (c30:binop% cd cd30 "Course.end_coming") (k30:unop% kp f30) (a31:unop% fn (CCourse,"end_time",f31)) (i31:unop% fi f31) (l31:unop% lk (f31,oc31,od31,"end_time","Course.end_time",z2y,kV31,dc31,pm31,an31,cd31,ct31,sl31)) (c31:binop% cd cd31 "Course.end_time") (k31:unop% kp f31) (a32:unop% fn (CCourse,"ticks",f32)) (i32:unop% fi f32) (l32:unop% lk (f32,oc32,od32,"ticks","Course.ticks",z4q,kV32,dc32,pm32,an32,cd32,ct32,sl32)) (c32:binop% cd cd32 "Course.ticks") (k32:unop% kp f32) (a33:unop% fn (CCourse,"happen",f33)) (i33:unop% fi f33) (l33:unop% lk (f33,oc33,od33,"happen","Course.happen",z40,kV33,dc33,pm33,an33,cd33,ct33,sl33)) (c33:binop% cd cd33 "Course.happen") (k33:unop% kp f33) (a34:binop% ns "course_of" f34) (l34:unop% lk (f34,oc34,od34,"course_of","course_of",z6z,kV34,dc34,pm34,an34,cd34,ct34,sl34)) (c34:binop% cd cd34 "course_of") (k34:unop% kp f34) (a35:binop% ns "after" f35) (l35:unop% lk (f35,oc35,od35,"after","after",zg1,kV35,dc35,pm35,an35,cd35,ct35,sl35)) (c35:binop% cd cd35 "after") (k35:unop% kp f35) (a36:binop% ns "story" f36) (l36:unop% lk (f36,oc36,od36,"story","story",zg0,kV36,dc36,pm36,an36,cd36,ct36,sl36)) (c36:binop% cd cd36 "story") (k36:unop% kp f36) (a37:unop% fn (CBox,"row",f37)) (i37:unop% fi f37) (l37:unop% lk (f37,oc37,od37,"row","Box.row",zaj,kV37,dc37,pm37,an37,cd37,ct37,sl37)) (c37:binop% cd cd37 "Box.row") (k37:unop% kp f37) (a38:unop% fn (CBox,"log",f38)) (i38:unop% fi f38) (l38:unop% lk (f38,oc38,od38,"log","Box.log",zak,kV38,dc38,pm38,an38,cd38,ct38,sl38)) (c38:binop% cd cd38 "Box.log") (k38:unop% kp f38) (a39:unop% fn (CBox,"state",f39)) (i39:unop% fi f39) (l39:unop% lk (f39,oc39,od39,"state","Box.state",z71,kV39,dc39,pm39,an39,cd39,ct39,sl39)) (c39:binop% cd cd39 "Box.state") (k39:unop% kp f39) (a40:binop% ns "_law_told" f40) (l40:unop% lk (f40,oc40,od40,"_law_told","_law_told",z3z,kV40,dc40,pm40,an40,cd40,ct40,sl40)) (c40:binop% cd cd40 "_law_told") (k40:unop% kp f40) (a41:binop% ns "_law_event" f41) (l41:unop% lk (f41,oc41,od41,"_law_event","_law_event",zag,kV41,dc41,pm41,an41,cd41,ct41,sl41)) (c41:binop% cd cd41 "_law_event") (k41:unop% kp f41) (a42:binop% ns "shown" f42) (l42:unop% lk (f42,oc42,od42,"shown","shown",z9p,kV42,dc42,pm42,an42,cd42,ct42,sl42)) (c42:binop% cd cd42 "shown") (k42:unop% kp f42) (a43:binop% ns "shown_rows" f42) (a44:unop% fn (CBox,"shown",f44)) (i44:unop% fi f44) (l44:unop% lk (f44,oc44,od44,"shown","Box.shown",z72,kV44,dc44,pm44,an44,cd44,ct44,sl44)) (c44:binop% cd cd44 "Box.shown") (k44:unop% kp f44) (a45:binop% ns "words" f45) (l45:unop% lk (f45,oc45,od45,"words","words",zcw,kV45,dc45,pm45,an45,cd45,ct45,sl45)) (c45:binop% cd cd45 "words") (k45:unop% kp f45) (a46:binop% ns "gone" f46) (l46:unop% lk (f46,oc46,od46,"gone","gone",zkk,kV46,dc46,pm46,an46,cd46,ct46,sl46)) (c46:binop% cd cd46 "gone") (k46:unop% kp f46) (a47:unop% fn (CBox,"happen",f47)) (i47:unop% fi f47) (l47:unop% lk (f47,oc47,od47,"happen","Box.happen",z63,kV47,dc47,pm47,an47,cd47,ct47,sl47)) (c47:binop% cd cd47 "Box.happen") (k47:unop% kp f47) (a48:unop% fn (CBox,"ticks",f48)) (i48:unop% fi f48) (l48:unop% lk (f48,oc48,od48,"ticks","Box.ticks",z70,kV48,dc48,pm48,an48,cd48,ct48,sl48)) (c48:binop% cd cd48 "Box.ticks") (k48:unop% kp f48) (a49:unop% fn (CBox,"need_zone",f49)) (i49:unop% fi f49) (l49:unop% lk (f49,oc49,od49,"need_zone","Box.need_zone",z2u,kV49,dc49,pm49,an49,cd49,ct49,sl49)) (c49:binop% cd cd49 "Box.need_zone") (k49:unop% kp f49) (a50:unop% fn (CBox,"line",f50)) (i50:unop% fi f50) (l50:unop% lk (f50,oc50,od50,"line","Box.line",z6m,kV50,dc50,pm50,an50,cd50,ct50,sl50)) (c50:binop% cd cd50 "Box.line") (k50:unop% kp f50) (a51:unop% fn (CBox,"code",f51)) (i51:unop% fi f51) (l51:unop% lk (f51,oc51,od51,"code","Box.code",z6n,kV51,dc51,pm51,an51,cd51,ct51,sl51)) (c51:binop% cd cd51 "Box.code") (k51:unop% kp f51) (a52:binop% ns "_law_do" f52) (l52:unop% lk (f52,oc52,od52,"_law_do","_law_do",zkj,kV52,dc52,pm52,an52,cd52,ct52,sl52)) (c52:binop% cd cd52 "_law_do") (k52:unop% kp f52) (a53:unop% fn (CBox,"undo",f53)) (i53:unop% fi f53) (l53:unop% lk (f53,oc53,od53,"undo","Box.undo",z6l,kV53,dc53,pm53,an53,cd53,ct53,sl53)) (c53:binop% cd cd53 "Box.undo") (k53:unop% kp f53) (a54:binop% ns "law" f54) (l54:K.lookup f54=some ⟨oc54,od54,.func (y0j "law" "law" (z5p zad) (z0o zad) (z01 zad) .none kV54 dc54 pm54 an54 (.ref cL) ct54),sl54⟩) (c54:y0g K (.ref cL) "law"=true) (k54:unop% kp f54) (z_enumerate:unop% zn "enumerate") (z_tuple:unop% zn "tuple") (z_range:unop% zn "range") (z_len:unop% zn "len") (z_dict:unop% zn "dict") (z_list:unop% zn "list") (z_zip:unop% zn "zip") (z_sorted:unop% zn "sorted") (z_max:unop% zn "max") (z_int:unop% zn "int") (g_WRONG_IN_A_ROW:PySem.W.nsIn K y0o "WRONG_IN_A_ROW"=some (some (.int 3 t_WRONG_IN_A_ROW))) (g_TICKS_LOCKED:PySem.W.nsIn K y0o "TICKS_LOCKED"=some (some (.int 90 t_TICKS_LOCKED))) (g_KINDS_SHUT_TO_SET:binop% ns "KINDS_SHUT_TO_SET" a_KINDS_SHUT_TO_SET) (q_KINDS_SHUT_TO_SET:K.lookup a_KINDS_SHUT_TO_SET=some ⟨.type "tuple",od_KINDS_SHUT_TO_SET,.seq #[.str "day" t_KINDS_SHUT_TO_SET0,.str "once" t_KINDS_SHUT_TO_SET1] n_KINDS_SHUT_TO_SET,sl_KINDS_SHUT_TO_SET⟩) (g_KINDS_LEFT_BY:binop% ns "KINDS_LEFT_BY" a_KINDS_LEFT_BY) (q_KINDS_LEFT_BY:K.lookup a_KINDS_LEFT_BY=some ⟨.type "tuple",od_KINDS_LEFT_BY,.seq #[.str "inner" t_KINDS_LEFT_BY0,.str "way" t_KINDS_LEFT_BY1] n_KINDS_LEFT_BY,sl_KINDS_LEFT_BY⟩) (g_DEEDS_OF_ZONES:binop% ns "DEEDS_OF_ZONES" a_DEEDS_OF_ZONES) (q_DEEDS_OF_ZONES:K.lookup a_DEEDS_OF_ZONES=some ⟨.type "tuple",od_DEEDS_OF_ZONES,.seq #[.str "shunt" t_DEEDS_OF_ZONES0,.str "free" t_DEEDS_OF_ZONES1] n_DEEDS_OF_ZONES,sl_DEEDS_OF_ZONES⟩) (hCH:PySem.W.codeHdIn K cL 465=true) (nDoorError:binop% ns "DoorError" XD) (nNoZone:binop% ns "NoZone" xz) (nNoWay:binop% ns "NoWay" xw) (nNoDeed:binop% ns "NoDeed" xd) (nNoText:binop% ns "NoText" xt) (z_isinstance:unop% zn "isinstance") (z_ValueError:unop% zn "ValueError") (hDo:zov K XD=true) (hXz:zlr K XD xz xw xd xt xz true false false false=true) (hXd:zlr K XD xz xw xd xt xd false false true false=true) :
  ∃fd:y0b,(∀(s:y04) (v:Value),BindsTo s fd ⟨[v],[]⟩ [("_law_script",v)])/\∀base:Heap,K.In base->base.Ns y0o mg->BM mg base->FnOk l.prog w K mg base CX0 17 fa fd ["_law_script"] (@spT (tOf [(465,(("law":Str)++".<locals>.")++"<lambda>")]) K 1 zm8):=by
 have e:=hfa.symm.trans (y12 X G a54)
 cases e
 refine⟨y0j "law" "law" (z5p zad) (z0o zad) (z01 zad) .none kV54 dc54 pm54 an54 (.ref cL) ct54,fun s v=>.of_eq rfl,fun base _ _ hbm=>?_⟩
 letI tt:Tbl:=⟨[(465,(("law":Str)++".<locals>.")++"<lambda>")],fun c=>match c with|0=>["plan","mode","left","came","lines","shunts","siren","alarms","tries","locked","used","past","told"]|1=>["plan","events","states"]|_=>[],fun c=>match c with|0=>some CCourse|1=>some CBox|_=>none⟩
 have kcCourse:ClOk K 0 CCourse ["plan","mode","left","came","lines","shunts","siren","alarms","tries","locked","used","past","told"]:=⟨rfl,rfl,⟨pgCourse,hdCourse,poCourse,saCourse⟩,by decide +kernel,fun f hf=>by
  simp only[y09,y2e,or_false] at hf
  rcases hf with rfl|rfl|rfl|rfl|rfl|rfl|rfl|rfl|rfl|rfl|rfl|rfl|rfl
  ·exact naCourse0
  ·exact naCourse1
  ·exact naCourse2
  ·exact naCourse3
  ·exact naCourse4
  ·exact naCourse5
  ·exact naCourse6
  ·exact naCourse7
  ·exact naCourse8
  ·exact naCourse9
  ·exact naCourse10
  ·exact naCourse11
  ·exact naCourse12,by decide⟩
 have kcBox:ClOk K 1 CBox ["plan","events","states"]:=⟨rfl,rfl,⟨pgBox,hdBox,poBox,saBox⟩,by decide +kernel,fun f hf=>by
  simp only[y09,y2e,or_false] at hf
  rcases hf with rfl|rfl|rfl
  ·exact naBox0
  ·exact naBox1
  ·exact naBox2,by decide⟩
 replace z_enumerate:=y1d X G z_enumerate
 replace z_tuple:=y1d X G z_tuple
 replace z_range:=y1d X G z_range
 replace z_len:=y1d X G z_len
 replace z_dict:=y1d X G z_dict
 replace z_list:=y1d X G z_list
 replace z_zip:=y1d X G z_zip
 replace z_sorted:=y1d X G z_sorted
 replace z_max:=y1d X G z_max
 replace z_int:=y1d X G z_int
 replace z_isinstance:=y1d X G z_isinstance
 replace z_ValueError:=y1d X G z_ValueError
 have Nm:Names K mg XD xz xw xd xt:=⟨y12 X G nDoorError,y12 X G nNoZone,y12 X G nNoWay,y12 X G nNoDeed,y12 X G nNoText,z_isinstance,z_ValueError,hDo⟩
 have Rz:=zy2 hXz
 have Rd:=zy3 hXd
 replace g_WRONG_IN_A_ROW:=y12 X G g_WRONG_IN_A_ROW
 replace g_TICKS_LOCKED:=y12 X G g_TICKS_LOCKED
 replace g_KINDS_SHUT_TO_SET:=y12 X G g_KINDS_SHUT_TO_SET
 have tt_KINDS_SHUT_TO_SET:∃(o:Obj) (its:Array Value) (n:Nat),K.lookup a_KINDS_SHUT_TO_SET=some o/\o.cls=.type "tuple"/\o.data=.seq its n/\its.size<=y0k/\Vals ((["day","once"]:List Str).map V.str) its.toList:=⟨_,_,_,q_KINDS_SHUT_TO_SET,rfl,rfl,by show 2<=y0k;decide,(.cons ⟨_,rfl⟩ (.cons ⟨_,rfl⟩ .nil))⟩
 replace g_KINDS_LEFT_BY:=y12 X G g_KINDS_LEFT_BY
 have tt_KINDS_LEFT_BY:∃(o:Obj) (its:Array Value) (n:Nat),K.lookup a_KINDS_LEFT_BY=some o/\o.cls=.type "tuple"/\o.data=.seq its n/\its.size<=y0k/\Vals ((["inner","way"]:List Str).map V.str) its.toList:=⟨_,_,_,q_KINDS_LEFT_BY,rfl,rfl,by show 2<=y0k;decide,(.cons ⟨_,rfl⟩ (.cons ⟨_,rfl⟩ .nil))⟩
 replace g_DEEDS_OF_ZONES:=y12 X G g_DEEDS_OF_ZONES
 have tt_DEEDS_OF_ZONES:∃(o:Obj) (its:Array Value) (n:Nat),K.lookup a_DEEDS_OF_ZONES=some o/\o.cls=.type "tuple"/\o.data=.seq its n/\its.size<=y0k/\Vals ((["shunt","free"]:List Str).map V.str) its.toList:=⟨_,_,_,q_DEEDS_OF_ZONES,rfl,rfl,by show 2<=y0k;decide,(.cons ⟨_,rfl⟩ (.cons ⟨_,rfl⟩ .nil))⟩
 have F1:=z0i (st:=zah) l1 c1 k1
 have C_l_drawn:=unop% kk (z8n 0 F1 (y12 X G a1))
 have F2:=z0i (st:=zae) l2 c2 k2
 have C_l_plan:=unop% kk (zgn 1 F2 (y12 X G a2) z_enumerate (unop% mo C_l_drawn) z_tuple z_range)
 have F3:=z0i (st:=zba) l3 c3 k3
 have C_begun:=unop% kk (z8o 0 F3 (y12 X G a3) z_tuple)
 have F4:=z0i (st:=z4t) l4 c4 k4
 have C_Box:=unop% kk (zen 1 F4 ⟨mkBox,a4,i4,kpBox⟩ (y12 X G aCBox) kcBox (unop% mo C_begun))
 have F5:=z0i (st:=z6y) l5 c5 k5
 have C_l_cell_at:=unop% kk (za1 0 F5 (y12 X G a5) z_len)
 have F6:=z0i (st:=zaf) l6 c6 k6
 have C_l_mixed:=unop% kk (z8m 1 F6 (y12 X G a6) (unop% mo C_l_cell_at))
 have F7:=z0i (st:=z4r) l7 c7 k7
 have C_Course_state:=unop% kk (z3b 0 F7 (⟨a7,i7,k7⟩) kcCourse z_tuple)
 have F8:=z0i (st:=z1i) l8 c8 k8
 have C_Course:=unop% kk (zbn 0 F8 ⟨mkCourse,a8,i8,kpCourse⟩ (y12 X G aCCourse) kcCourse z_dict z_list z_zip)
 have F9:=z0i (st:=z5d) l9 c9 k9
 have C_Course_tell:=unop% kk (z0a 0 F9 (⟨a9,i9,k9⟩) kcCourse)
 have F10:=z0i (st:=z85) l10 c10 k10
 have C_kind_of:=unop% kk (z51 0 F10 (y12 X G a10))
 have Z_kind_of:=z8r (P:=l.prog) (w:=w) (base:=base) (k:=0) F10 (y12 X G a10) Nm Rz
 have F11:=z0i (st:=z3h) l11 c11 k11
 have C_Course_be_loud:=unop% kk (z2m 0 F11 (⟨a11,i11,k11⟩) kcCourse)
 have F12:=z0i (st:=z4s) l12 c12 k12
 have C_Course_alarm:=unop% kk (z0z 1 F12 (⟨a12,i12,k12⟩) kcCourse (unop% mo C_Course_be_loud) (unop% mo C_Course_tell))
 have F13:=z0i (st:=z3g) l13 c13 k13
 have C_Course_come_in:=unop% kk (z57 2 F13 (⟨a13,i13,k13⟩) kcCourse (unop% mo C_Course_tell) (unop% mo C_Course_alarm))
 have F14:=z0i (st:=z3f) l14 c14 k14
 have C_Course_disturb:=unop% kk (z56 3 F14 (⟨a14,i14,k14⟩) kcCourse (unop% mo C_kind_of) (unop% mo C_Course_alarm) (unop% mo C_Course_tell) (unop% mo C_Course_come_in))
 have F15:=z0i (st:=z5e) l15 c15 k15
 have C_Course_line:=unop% kk (z7j 4 F15 (⟨a15,i15,k15⟩) kcCourse (unop% mo C_Course_tell) (unop% mo C_Course_disturb))
 have F16:=z0i (st:=zai) l16 c16 k16
 have C_code_of:=unop% kk (ze7 0 F16 (y12 X G a16))
 have F17:=z0i (st:=z2d) l17 c17 k17
 have C_Course_is_used_up:=unop% kk (z3o 0 F17 (⟨a17,i17,k17⟩) kcCourse)
 have F18:=z0i (st:=z2b) l18 c18 k18
 have C_Course_take_wrong:=unop% kk (z3m 1 F18 (⟨a18,i18,k18⟩) kcCourse (unop% mo C_Course_tell) (unop% mo C_Course_be_loud) g_WRONG_IN_A_ROW g_TICKS_LOCKED)
 have F19:=z0i (st:=z21) l19 c19 k19
 have C_Course_is_untimely:=unop% kk (z34 1 F19 (⟨a19,i19,k19⟩) kcCourse (unop% mo C_kind_of))
 have F20:=z0i (st:=z13) l20 c20 k20
 have C_Course_bare_zones:=unop% kk (z1p 0 F20 (⟨a20,i20,k20⟩) kcCourse)
 have F21:=z0i (st:=z1b) l21 c21 k21
 have C_Course_what_is_against:=unop% kk (z29 2 F21 (⟨a21,i21,k21⟩) kcCourse (unop% mo C_Course_is_untimely) (unop% mo C_Course_bare_zones) g_KINDS_SHUT_TO_SET tt_KINDS_SHUT_TO_SET)
 have F22:=z0i (st:=z22) l22 c22 k22
 have C_Course_end_leaving:=unop% kk (z1f 2 F22 (⟨a22,i22,k22⟩) kcCourse (unop% mo C_Course_tell) (unop% mo C_Course_bare_zones) (unop% mo C_Course_alarm) g_KINDS_LEFT_BY tt_KINDS_LEFT_BY)
 have F23:=z0i (st:=z41) l23 c23 k23
 have C_Course_do_set:=unop% kk (z5t 3 F23 (⟨a23,i23,k23⟩) kcCourse (unop% mo C_Course_tell) (unop% mo C_Course_end_leaving))
 have F24:=z0i (st:=z2z) l24 c24 k24
 have C_Course_do_unset:=unop% kk (z4n 1 F24 (⟨a24,i24,k24⟩) kcCourse (unop% mo C_Course_tell))
 have F25:=z0i (st:=z3e) l25 c25 k25
 have C_Course_do_deed:=unop% kk (z55 4 F25 (⟨a25,i25,k25⟩) kcCourse (unop% mo C_Course_do_set) (unop% mo C_Course_do_unset) z_sorted (unop% mo C_Course_tell))
 have F26:=z0i (st:=z2c) l26 c26 k26
 have C_Course_take_right:=unop% kk (z3n 5 F26 (⟨a26,i26,k26⟩) kcCourse (unop% mo C_Course_what_is_against) (unop% mo C_Course_do_deed) (unop% mo C_Course_tell))
 have F27:=z0i (st:=z5f) l27 c27 k27
 have C_Course_code:=unop% kk (z7k 6 F27 (⟨a27,i27,k27⟩) kcCourse (unop% mo C_code_of) (unop% mo C_Course_tell) (unop% mo C_Course_is_used_up) (unop% mo C_Course_take_wrong) (unop% mo C_Course_take_right))
 have F28:=z0i (st:=z8v) l28 c28 k28
 have C_lessened:=unop% kk (z6q 0 F28 (y12 X G a28) z_max)
 have F29:=z0i (st:=z2f) l29 c29 k29
 have C_Course_count_down:=unop% kk (z1o 1 F29 (⟨a29,i29,k29⟩) kcCourse (unop% mo C_lessened))
 have F30:=z0i (st:=z2e) l30 c30 k30
 have C_Course_end_coming:=unop% kk (z3p 2 F30 (⟨a30,i30,k30⟩) kcCourse (unop% mo C_Course_alarm))
 have F31:=z0i (st:=z2y) l31 c31 k31
 have C_Course_end_time:=unop% kk (z4m 3 F31 (⟨a31,i31,k31⟩) kcCourse (unop% mo C_Course_end_leaving) (unop% mo C_Course_end_coming))
 have F32:=z0i (st:=z4q) l32 c32 k32
 have C_Course_ticks:=unop% kk (z6f 4 F32 (⟨a32,i32,k32⟩) kcCourse (unop% mo C_Course_count_down) (unop% mo C_Course_end_time))
 have F33:=z0i (st:=z40) l33 c33 k33
 have C_Course_happen:=unop% kk (z5s 7 F33 (⟨a33,i33,k33⟩) kcCourse (unop% mo C_Course_line) (unop% mo C_Course_code) (unop% mo C_Course_ticks))
 have F34:=z0i (st:=z6z) l34 c34 k34
 have C_course_of:=unop% kk (z2h 8 F34 (y12 X G a34) kcCourse (unop% mo C_Course) (unop% mo C_Course_happen))
 have F35:=z0i (st:=zg1) l35 c35 k35
 have C_after:=unop% kk (zgo 10 F35 (y12 X G a35) kcCourse (unop% mo C_Course_state) (unop% mo C_course_of))
 have F36:=z0i (st:=zg0) l36 c36 k36
 have C_story:=unop% kk (ze5 10 F36 (y12 X G a36) kcCourse z_tuple (unop% mo C_course_of))
 have F37:=z0i (st:=zaj) l37 c37 k37
 have C_Box_row:=unop% kk (z6r 0 F37 (⟨a37,i37,k37⟩) kcBox z_tuple)
 have F38:=z0i (st:=zak) l38 c38 k38
 have C_Box_log:=unop% kk (zax 11 F38 (⟨a38,i38,k38⟩) kcBox (unop% mo C_story) (unop% mo C_Box_row))
 have F39:=z0i (st:=z71) l39 c39 k39
 have C_Box_state:=unop% kk (z2i 0 F39 (⟨a39,i39,k39⟩) kcBox)
 have F40:=z0i (st:=z3z) l40 c40 k40
 have F41:=z0i (st:=zag) l41 c41 k41
 have C_l_event:=unop% kk (ze6 0 F41 (y12 X G a41) z_len)
 have F42:=z0i (st:=z9p) l42 c42 k42
 have C_shown:=unop% kk (zv8 0 F42 (y12 X G a42) z_tuple z_zip)
 have C_shown_rows:=unop% kk (z50 0 F42 (y12 X G a43) z_tuple z_zip)
 have F44:=z0i (st:=z72) l44 c44 k44
 have C_Box_shown:=unop% kk (za3 1 F44 (⟨a44,i44,k44⟩) kcBox (unop% mo C_shown_rows) (unop% mo C_Box_state))
 have F45:=z0i (st:=zcw) l45 c45 k45
 have C_words:=unop% kk (ze4 10 F45 (y12 X G a45) kcCourse z_tuple (unop% mo C_course_of))
 have F46:=z0i (st:=zkk) l46 c46 k46
 have C_gone:=unop% kk (zp9 10 F46 (y12 X G a46) kcCourse (unop% mo C_Course_state) (unop% mo C_course_of))
 have F47:=z0i (st:=z63) l47 c47 k47
 have C_Box_happen:=unop% kk (z1v 11 F47 (⟨a47,i47,k47⟩) kcBox (unop% mo C_words) (unop% mo C_gone) (unop% mo C_Box_state))
 have F48:=z0i (st:=z70) l48 c48 k48
 have C_Box_ticks:=unop% kk (za2 12 F48 (⟨a48,i48,k48⟩) kcBox (unop% mo C_Box_happen))
 have F49:=z0i (st:=z2u) l49 c49 k49
 have C_Box_need_zone:=unop% kk (z1q 1 F49 (⟨a49,i49,k49⟩) kcBox (unop% mo C_kind_of))
 have Z_Box_need_zone:=z1t (P:=l.prog) (w:=w) (mg:=mg) (base:=base) (k:=1) F49 (⟨a49,i49,k49⟩) Nm Rz kcBox (unop% mo C_kind_of) (Z_kind_of.mono (by decide))
 have F50:=z0i (st:=z6m) l50 c50 k50
 have C_Box_line:=unop% kk (z6s 12 F50 (⟨a50,i50,k50⟩) kcBox (unop% mo C_Box_need_zone) (unop% mo C_Box_happen))
 have Z_Box_line:=z9n (P:=l.prog) (w:=w) (mg:=mg) (base:=base) (k:=12) F50 (⟨a50,i50,k50⟩) Nm Rz kcBox (unop% mo C_Box_need_zone) (unop% mo C_Box_happen) (Z_Box_need_zone.mono (by decide))
 have F51:=z0i (st:=z6n) l51 c51 k51
 have C_Box_code:=unop% kk (z6t 12 F51 (⟨a51,i51,k51⟩) kcBox (unop% mo C_Box_happen) (unop% mo C_Box_need_zone) g_DEEDS_OF_ZONES tt_DEEDS_OF_ZONES)
 have Z_Box_code:=z9o (P:=l.prog) (w:=w) (mg:=mg) (base:=base) (k:=12) F51 (⟨a51,i51,k51⟩) Nm Rz kcBox (unop% mo C_Box_happen) (unop% mo C_Box_need_zone) g_DEEDS_OF_ZONES tt_DEEDS_OF_ZONES (Z_Box_need_zone.mono (by decide))
 have F52:=z0i (st:=zkj) l52 c52 k52
 have C_l_do:=unop% kk (zp8 13 F52 (y12 X G a52) kcBox (unop% mo C_Box_ticks) (unop% mo C_Box_line) (unop% mo C_Box_code))
 have F53:=z0i (st:=z6l) l53 c53 k53
 have C_Box_undo:=unop% kk (zbo 0 F53 (⟨a53,i53,k53⟩) kcBox)
 have Z_Box_undo:=z9m (P:=l.prog) (w:=w) (mg:=mg) (base:=base) (k:=0) F53 (⟨a53,i53,k53⟩) Nm Rd kcBox
 have F54:=z0i (st:=zad) l54 c54 k54
 exact zuy rfl (zyj (k:=14) l54 c54 hCH hbm (by show _∈[(465,(("law":Str)++".<locals>.")++"<lambda>")];simp) (fun p hp=>by
  have hp:p∈[(465,(("law":Str)++".<locals>.")++"<lambda>")]:=hp
  simp only[y09,y2e,or_false] at hp
  rcases hp with rfl <;> first|(intro _;rfl)|(intro z;exact absurd z (by decide))) Nm Rz Rd (Z_Box_code.mono (by decide)) (Z_Box_need_zone.mono (by decide)) (Z_kind_of.mono (by decide)) (Z_Box_line.mono (by decide)) (Z_Box_undo.mono (by decide)) kcBox (unop% mo C_l_plan) (unop% mo C_Box) z_range (unop% mo C_l_mixed) (unop% mo C_after) (unop% mo C_begun) (unop% mo C_Box_log) (unop% mo C_story) (unop% mo C_Box_state) (unop% mo C_Box_row) z_int F40 (y12 X G a40) (unop% mo C_l_event) (unop% mo C_Box_shown) (unop% mo C_shown_rows) (unop% mo C_l_do) (unop% mo C_words) (unop% mo C_Box_undo) (unop% mo C_Box_line) (unop% mo C_Box_code))
theorem walk {l:PySem.W.OpenLaw} {q:y0r} {loose:List Str} {XP:(Str->Option Value)->Heap->Prop} {YP:World->Heap->Prop} {d:DefRec} {K:Params->y00} (hn:l.most=some 63) (hdf:d.params.defaults=[]) (hL:∀w:World,noL (K w.params)=true) (hY:∀(w:World) (h:Heap),YP w h->(K w.params).In h) (hT:∀(w:World) (h:Heap),YP w h->∀b∈[465],h.get? b=some (PySem.W.tabObj #[])) (hK0:∀w:World,(([465]:List Nat).all fun b=>((K w.params).lookup b).isNone)=true) (hcd:∀w:World,(([465]:List Nat).all fun b=>(K w.params).any fun p=>PySem.W.codeHdIn (K w.params) p.1 b)=true) (F:∀(w:World) (mg:Str->Option Value) (fa:Addr) (h:Heap),(K w.params).In h->h.Ns y0o mg->mg d.name=some (.ref fa) ->
   ∃fd:y0b,(∀(s:y04) (u:Value),BindsTo s fd ⟨[u],[]⟩ [("_law_script",u)])/\∀base:Heap,(K w.params).In base->base.Ns y0o mg->BM mg base->FnOk l.prog w (K w.params) mg base CX0 17 fa fd ["_law_script"] (@spT (tOf [(465,(("law":Str)++".<locals>.")++"<lambda>")]) (K w.params) 1 zm8)) :
  PySem.W.WalkO q loose XP YP l.row.toRowW d [] (fun f vs=>PySem.call f vs) :=
 zpr (n:=63) (k:=17) (x:="_law_script") (ts:=[465]) (CX:=fun _=>CX0) (sp:=fun w=>@spT (tOf [(465,(("law":Str)++".<locals>.")++"<lambda>")]) (K w.params) 1 zm8) hn (by decide) hdf ⟨rfl,by decide,by decide⟩ hY hT (fun w b hb=>Option.isNone_iff_eq_none.mp (List.all_eq_true.mp (hK0 w) b hb)) (fun w b hb=>by
  obtain⟨p,_,hp⟩:=List.any_eq_true.mp (List.all_eq_true.mp (hcd w) b hb)
  exact⟨p.1,hp⟩) F (fun w H a ns hl hO hS=>zmu (t:=tOf [(465,(("law":Str)++".<locals>.")++"<lambda>")]) (fun p hp=>by
  have hp:p∈[(465,(("law":Str)++".<locals>.")++"<lambda>")]:=hp
  simp only[y09,y2e,or_false] at hp
  rcases hp with rfl <;> simp) hO (hL w) (zr1 ns hl) hS) fun _ _ _ _ _ z=>z
end K40
open PySem PySem.W PyProof.Rows
set_option maxRecDepth 100000 in
set_option maxHeartbeats 0 in
theorem PySem.Challenge.cw_doorwatch_k40_whole_boxes_holds : PySem.Challenge.rw_doorwatch_k40_whole_boxes.Holds := by
 w_on;o_law;k_head;(case hw=>w_witness2)
 k_fill
 refine K40.walk (l:=PySem.Challenge.rw_doorwatch_k40_whole_boxes) rfl rfl ?L (fun w h Y=>PySem.W.km_in_of Y) (fun w h Y=>PySem.W.km_tabs_of Y) ?K0 ?CD ?F
 case L =>
  intro w
  first|rfl|(with_unfolding_all rfl)|kernel_rfl
 case K0 =>
  intro w
  first|rfl|(with_unfolding_all rfl)|kernel_rfl
 case CD =>
  intro w
  first|rfl|(with_unfolding_all rfl)|kernel_rfl
 case F =>
  intro w mg fa h KX G hmg
  refine' K40.all_mk KX G hmg ?aCCourse ?pgCourse ?hdCourse ?poCourse ?saCourse ?mkCourse ?kpCourse ?naCourse0 ?naCourse1 ?naCourse2 ?naCourse3 ?naCourse4 ?naCourse5 ?naCourse6 ?naCourse7 ?naCourse8 ?naCourse9 ?naCourse10 ?naCourse11 ?naCourse12 ?aCBox ?pgBox ?hdBox ?poBox ?saBox ?mkBox ?kpBox ?naBox0 ?naBox1 ?naBox2 ?a1 ?l1 ?c1 ?k1 ?a2 ?l2 ?c2 ?k2 ?a3 ?l3 ?c3 ?k3 ?a4 ?i4 ?l4 ?c4 ?k4 ?a5 ?l5 ?c5 ?k5 ?a6 ?l6 ?c6 ?k6 ?a7 ?i7 ?l7 ?c7 ?k7 ?a8 ?i8 ?l8 ?c8 ?k8 ?a9 ?i9 ?l9 ?c9 ?k9 ?a10 ?l10 ?c10 ?k10 ?a11 ?i11 ?l11 ?c11 ?k11 ?a12 ?i12 ?l12 ?c12 ?k12 ?a13 ?i13 ?l13 ?c13 ?k13 ?a14 ?i14 ?l14 ?c14 ?k14 ?a15 ?i15 ?l15 ?c15 ?k15 ?a16 ?l16 ?c16 ?k16 ?a17 ?i17 ?l17 ?c17 ?k17 ?a18 ?i18 ?l18 ?c18 ?k18 ?a19 ?i19 ?l19 ?c19 ?k19 ?a20 ?i20 ?l20 ?c20 ?k20 ?a21 ?i21 ?l21 ?c21 ?k21 ?a22 ?i22 ?l22 ?c22 ?k22 ?a23 ?i23 ?l23 ?c23 ?k23 ?a24 ?i24 ?l24 ?c24 ?k24 ?a25 ?i25 ?l25 ?c25 ?k25 ?a26 ?i26 ?l26 ?c26 ?k26 ?a27 ?i27 ?l27 ?c27 ?k27 ?a28 ?l28 ?c28 ?k28 ?a29 ?i29 ?l29 ?c29 ?k29 ?a30 ?i30 ?l30 ?c30 ?k30 ?a31 ?i31 ?l31 ?c31 ?k31 ?a32 ?i32 ?l32 ?c32 ?k32 ?a33 ?i33 ?l33 ?c33 ?k33 ?a34 ?l34 ?c34 ?k34 ?a35 ?l35 ?c35 ?k35 ?a36 ?l36 ?c36 ?k36 ?a37 ?i37 ?l37 ?c37 ?k37 ?a38 ?i38 ?l38 ?c38 ?k38 ?a39 ?i39 ?l39 ?c39 ?k39 ?a40 ?l40 ?c40 ?k40 ?a41 ?l41 ?c41 ?k41 ?a42 ?l42 ?c42 ?k42 ?a43 ?a44 ?i44 ?l44 ?c44 ?k44 ?a45 ?l45 ?c45 ?k45 ?a46 ?l46 ?c46 ?k46 ?a47 ?i47 ?l47 ?c47 ?k47 ?a48 ?i48 ?l48 ?c48 ?k48 ?a49 ?i49 ?l49 ?c49 ?k49 ?a50 ?i50 ?l50 ?c50 ?k50 ?a51 ?i51 ?l51 ?c51 ?k51 ?a52 ?l52 ?c52 ?k52 ?a53 ?i53 ?l53 ?c53 ?k53 ?a54 ?l54 ?c54 ?k54 ?z_enumerate ?z_tuple ?z_range ?z_len ?z_dict ?z_list ?z_zip ?z_sorted ?z_max ?z_int ?g_WRONG_IN_A_ROW ?g_TICKS_LOCKED ?g_KINDS_SHUT_TO_SET ?q_KINDS_SHUT_TO_SET ?g_KINDS_LEFT_BY ?q_KINDS_LEFT_BY ?g_DEEDS_OF_ZONES ?q_DEEDS_OF_ZONES ?hCH ?nDoorError ?nNoZone ?nNoWay ?nNoDeed ?nNoText ?z_isinstance ?z_ValueError ?hDo ?hXz ?hXd
  (case hCH=>first|kernel_rfl|rfl|(with_unfolding_all rfl))
  (case hDo=>first|kernel_rfl|rfl|(with_unfolding_all rfl))
  (case hXz=>first|kernel_rfl|rfl|(with_unfolding_all rfl))
  (case hXd=>first|kernel_rfl|rfl|(with_unfolding_all rfl))
  (case aCCourse|pgCourse|hdCourse|poCourse|saCourse|mkCourse|kpCourse|naCourse0|naCourse1|naCourse2|naCourse3|naCourse4|naCourse5|naCourse6|naCourse7|naCourse8|naCourse9|naCourse10|naCourse11|naCourse12|aCBox|pgBox|hdBox|poBox|saBox|mkBox|kpBox|naBox0|naBox1=>k_is)
  (case naBox2|a1|l1|c1|k1|a2|l2|c2|k2|a3|l3|c3|k3|a4|i4|l4|c4|k4|a5|l5|c5|k5|a6|l6|c6|k6|a7|i7|l7|c7|k7|a8|i8|l8|c8|k8|a9|i9|l9|c9|k9|a10|l10|c10|k10|a11|i11|l11|c11|k11|a12|i12|l12|c12|k12|a13|i13=>k_is)
  (case l13|c13|k13|a14|i14|l14|c14|k14|a15|i15|l15|c15|k15|a16|l16|c16|k16|a17|i17|l17|c17|k17|a18|i18|l18|c18|k18|a19|i19|l19|c19|k19|a20|i20|l20|c20|k20|a21|i21|l21|c21|k21|a22|i22|l22|c22|k22|a23|i23|l23|c23=>k_is)
  (case k23|a24|i24|l24|c24|k24|a25|i25|l25|c25|k25|a26|i26|l26|c26|k26|a27|i27|l27|c27|k27|a28|l28|c28|k28|a29|i29|l29|c29|k29|a30|i30|l30|c30|k30|a31|i31|l31|c31|k31|a32|i32|l32|c32|k32|a33|i33|l33|c33|k33|a34=>k_is)
  (case l34|c34|k34|a35|l35|c35|k35|a36|l36|c36|k36|a37|i37|l37|c37|k37|a38|i38|l38|c38|k38|a39|i39|l39|c39|k39|a40|l40|c40|k40|a41|l41|c41|k41|a42|l42|c42|k42|a43|a44|i44|l44|c44|k44|a45|l45|c45|k45|a46|l46|c46=>k_is)
  (case k46|a47|i47|l47|c47|k47|a48|i48|l48|c48|k48|a49|i49|l49|c49|k49|a50|i50|l50|c50|k50|a51|i51|l51|c51|k51|a52|l52|c52|k52|a53|i53|l53|c53|k53|a54|l54|c54|k54|z_enumerate|z_tuple|z_range|z_len|z_dict|z_list|z_zip|z_sorted=>k_is)
  (case z_max|z_int|g_WRONG_IN_A_ROW|g_TICKS_LOCKED|g_KINDS_SHUT_TO_SET|q_KINDS_SHUT_TO_SET|g_KINDS_LEFT_BY|q_KINDS_LEFT_BY|g_DEEDS_OF_ZONES|q_DEEDS_OF_ZONES|nDoorError|nNoZone|nNoWay|nNoDeed|nNoText|z_isinstance|z_ValueError=>k_is)
end
end
